/-
  Several texts in one: PcReply, PcRead, PcNumb, PcRd.
-/
import Derived.Test.YtfadpiipigkocaaMg03
import Derived.Laws.BitsLemmas
import Derived.Lib.EndianBits
import Derived.Laws.IdiomStrings
namespace Go.Proofs.Ytfadpiipigkocaa
open Go.RowKit

set_option maxRecDepth 100000 in
set_option maxHeartbeats 4000000 in
theorem reply_any (r : RepL) (p : Option Addr) (cap : Nat) (w : World) (hl : r.ls.length ≤ 1048576) (hp : Recs w p r.ls) : Calls Try.prog 42 #[repV r p cap] w (RetPk w.heap.size (repS r) w) := by
  obtain ⟨c, s, er, fd, v, ls, nx, mr⟩ := r
  have C0 := Lib.hid (show ∀ w1, Calls Try.prog 38 #[.int .i64 32768] w1 _ from fun w1 => pcNew_any w1 32768)
  have HF := Lib.hid (show ∀ e w', RetPk w.heap.size (truthS 32768 (textsS 32768 (recsS (repS0 ⟨c, s, er, fd, v, ls, nx, mr⟩) ls) [nx]) mr) w e w' → RetPk w.heap.size (repS ⟨c, s, er, fd, v, ls, nx, mr⟩) w e w' from fun _ _ h => h)
  have HS0 := Lib.hid (show numsS 32768 (textsS 32768 (truthS 32768 (numsS 32768 (some []) [c, s, er]) fd) [v]) [(ls.length : Int)] = repS0 ⟨c, s, er, fd, v, ls, nx, mr⟩ from rfl)
  generalize repS ⟨c, s, er, fd, v, ls, nx, mr⟩ = R at HF ⊢
  generalize repS0 ⟨c, s, er, fd, v, ls, nx, mr⟩ = S0 at HF HS0
  unfold repV
  simp only at hl hp ⊢
  have HLL := Lib.hid hl
  have HP := Lib.hid hp
  obtain ⟨n, hN⟩ : ∃ n, ls.length = n := ⟨_, rfl⟩
  rw [hN] at hl HS0 ⊢
  have HN := Lib.hid hN
  clear hp hN
  go_enter Try.func42, Try.ntmps42
  go_wp2_with fail
  obtain ⟨W0, hW0⟩ : ∃ W0, w.alloc (.cells #[.int .i64 c, .int .i64 s, .int .i64 er, .bool fd, .string (strB v), .slice p n cap, .string (strB nx), .bool mr] 27) = W0 := ⟨_, rfl⟩
  rw [hW0]
  have hz0 : W0.heap.size = w.heap.size + 1 := by rw [← hW0]; simp
  have HC := Lib.hid (show ∀ wr, Below (w.heap.size + 1) W0 wr → ∀ i, wr.cell? ⟨w.heap.size, i, none⟩ = _ from fun wr hb i => box_cells (hW0 ▸ hb) i)
  have HBW := Lib.hid (show Below w.heap.size w W0 by rw [← hW0]; exact (Below.refl _ _).alloc (Nat.le_refl _) _)
  clear hW0
  refine (C0.out W0).mono ?_
  rintro e w1 ⟨rfl, hp1, hb1⟩
  rw [hz0] at hp1 hb1 ⊢
  have c0 := HC.out w1 hb1 0
  have c1 := HC.out w1 hb1 1
  have c2 := HC.out w1 hb1 2
  have HB1 := Lib.hid hb1
  have CN := Lib.hid (nums3 w1 _ _ _ _ c s er (by have := hb1.size; omega) hp1 (by omega))
  clear hp1 hb1
  go_wp2_with fail
  refine CN.out.mono ?_
  rintro e w2 ⟨rfl, hl2⟩
  have HB2 := Lib.hid (HB1.out.trans hl2.bl)
  have c3 := HC.out w2 HB2.out 3
  have CT := Lib.hid (truth_any w2 _ _ _ _ fd (by have := HB2.out.size; omega) hl2.pk (by omega))
  clear hl2 c0 c1 c2
  go_wp2_with fail
  refine CT.out.mono ?_
  rintro e w3 ⟨rfl, hl3⟩
  have HB3 := Lib.hid (HB2.out.trans hl3.bl)
  have c4 := HC.out w3 HB3.out 4
  have CX := Lib.hid (texts1 w3 _ _ _ _ v (by have := HB3.out.size; omega) hl3.pk (by omega))
  clear hl3 c3
  go_wp2_with fail
  refine CX.out.mono ?_
  rintro e w4 ⟨rfl, hl4⟩
  have HB4 := Lib.hid (HB3.out.trans hl4.bl)
  have c5 := HC.out w4 HB4.out 5
  have CI := Lib.hid (itemsRec_any (g := 45) (lb := #[]) (fun _ _ => rfl) (fun st r => textsS 32768 st [r.1, r.2]) w w4 (w.heap.size + 1) (w.heap.size + 1) 32768 _ ls p cap HP.out (HBW.out.trans (HB4.out.mono (by omega))) (by omega) (by have := HB4.out.size; omega) hl4.pk (by omega) (Or.inl (by omega)) HLL.out
    (fun k _ w1 h1 _ h3 => record_any w1 _ _ 32768 _ _ _ h1 h3 (by omega) (Or.inl (by omega))))
  unfold itemsS at CI
  rw [HN.out, HS0.out] at CI
  clear hl4 c4
  go_wp2_with fail
  refine CI.out.mono ?_
  rintro e wr ⟨rfl, hl5⟩
  have HBk := Lib.hid (HB4.out.trans hl5.bl)
  have hpk := hl5.pk
  rw [show List.foldl (fun st (r : RecL) => textsS 32768 st [r.1, r.2]) S0 ls = recsS S0 ls from rfl] at hpk
  clear hl5 c5
  have c6 := HC.out wr HBk.out 6
  have CX2 := Lib.hid (texts1 wr _ _ _ _ nx (by have := HBk.out.size; omega) hpk (by omega))
  clear hpk
  go_wp2_with fail
  refine CX2.out.mono ?_
  rintro e w7 ⟨rfl, hl7⟩
  have HB7 := Lib.hid (HBk.out.trans hl7.bl)
  have c7 := HC.out w7 HB7.out 7
  have CT2 := Lib.hid (truth_any w7 _ _ _ _ mr (by have := HB7.out.size; omega) hl7.pk (by omega))
  clear hl7 c6
  go_wp2_with fail
  refine CT2.out.mono ?_
  rintro e w8 ⟨rfl, hl8⟩
  have HB8 := Lib.hid (HB7.out.trans hl8.bl)
  have CP := Lib.hid (packed_any w8 (w.heap.size + 1) (w.heap.size + 1) 32768 _ hl8.pk)
  clear hl8 c7
  go_wp2_with fail
  refine CP.out.mono ?_
  intro e w9 h9
  have HR := Lib.hid (HF.out _ _ (h9.of (B' := w.heap.size) (w0 := w) (by omega) (HBW.out.trans (HB8.out.mono (by omega)))))
  obtain ⟨v9, he9, -, -⟩ := h9
  subst he9
  go_wp2_with fail
  go_ret2
  exact HR.out
end Go.Proofs.Ytfadpiipigkocaa
namespace Go.Proofs.Ytfadpiipigkocaa
open Go.RowKit

/-- all is as it was but for block g. -/
structure Chg (g : Nat) (w w' : World) : Prop where
  os : w'.os = w.os
  tape : w'.tape = w.tape
  output : w'.output = w.output
  size : w.heap.size ≤ w'.heap.size
  block : ∀ k, k < w.heap.size → k ≠ g → w'.heap[k]? = w.heap[k]?
theorem Chg.refl (g : Nat) (w : World) : Chg g w w := ⟨rfl, rfl, rfl, Nat.le_refl _, fun _ _ _ => rfl⟩
theorem Chg.of_below {g : Nat} {w w' : World} (h : Below w.heap.size w w') : Chg g w w' := ⟨h.os, h.tape, h.output, h.size, fun k hk _ => h.block k hk⟩
theorem Chg.trans {g : Nat} {a b c : World} (h : Chg g a b) (k : Chg g b c) : Chg g a c :=
  ⟨k.os.trans h.os, k.tape.trans h.tape, k.output.trans h.output, Nat.le_trans h.size k.size, fun i hi hg => (k.block i (by have := h.size; omega) hg).trans (h.block i hi hg)⟩
theorem Chg.set {g : Nat} {w : World} (o : Nat) (u : Value) : Chg g w (w.setCell ⟨g, o, none⟩ u) :=
  ⟨rfl, rfl, rfl, by simp [World.setCell], fun k _ hg => Below.heap_setCell _ _ _ _ hg⟩
theorem Chg.alloc {g : Nat} {w w' : World} (h : Chg g w w') (o : Obj) : Chg g w (w'.alloc o) := h.trans (Chg.of_below ((Below.refl _ _).alloc (Nat.le_refl _) _))
theorem Chg.cell {g : Nat} {w w' : World} (h : Chg g w w') {b o : Nat} (hb : b < w.heap.size) (hg : b ≠ g) : w'.cell? ⟨b, o, none⟩ = w.cell? ⟨b, o, none⟩ := World.cell?_of_block (w := w) (h.block b hb hg)
theorem Chg.below {g B : Nat} {w w' : World} (h : Chg g w w') (hg : B ≤ g) (hB : B ≤ w.heap.size) : Below B w w' :=
  ⟨h.os, h.tape, h.output, h.size, fun k hk => h.block k (by omega) (by omega)⟩

abbrev St := Except Nat (List UInt8)
def restS : St → List UInt8
  | .ok s => s
  | .error _ => []
def errS : St → Nat
  | .ok _ => 0
  | .error e => e
/-- a reader in memory. -/
structure RdAt (w : World) (g : Nat) (st : St) : Prop where
  bd : ∀ e, st = .error e → e ≠ 0
  at_ : w.heap[g]? = some (.cells #[.string (strB (restS st)), .int .i64 (errS st)] 129 (0, 0))
theorem RdAt.lt {w : World} {g : Nat} {st : St} (h : RdAt w g st) : g < w.heap.size := (Array.getElem?_eq_some_iff.1 h.at_).1
theorem RdAt.below {w w' : World} {g : Nat} {st : St} (h : RdAt w g st) (hb : Below w.heap.size w w') : RdAt w' g st := ⟨h.bd, by rw [hb.block g h.lt]; exact h.at_⟩
theorem RdAt.alloc {w : World} {g : Nat} {st : St} (h : RdAt w g st) (o : Obj) : RdAt (w.alloc o) g st := h.below ((Below.refl _ _).alloc (Nat.le_refl _) _)

def takeV (st : St) (n : Nat) : List UInt8 :=
  match st with
  | .ok s => if n ≤ s.length then s.take n else []
  | .error _ => []
def takeR (st : St) (n : Nat) : St :=
  match st with
  | .ok s => if n ≤ s.length then .ok (s.drop n) else .error 7
  | .error e => .error e
theorem takeV_le (st : St) (n : Nat) : (takeV st n).length ≤ n := by
  cases st with
  | error e => exact Nat.zero_le _
  | ok s =>
    by_cases h : n ≤ s.length
    · rw [show takeV (.ok s) n = s.take n from if_pos h, List.length_take]; omega
    · rw [show takeV (.ok s) n = [] from if_neg h]; exact Nat.zero_le _

theorem take_str (s : List UInt8) (n : Nat) : (strB s).extract 0 n = strB (s.take n) := by
  apply ByteArray.ext
  apply Array.toList_inj.1
  simp [strB]
theorem drop_str (s : List UInt8) (n : Nat) : (strB s).extract n (strB s).size = strB (s.drop n) := by
  apply ByteArray.ext
  apply Array.toList_inj.1
  rw [strB_size]
  simp only [strB, ByteArray.data_extract, Array.toList_extract, List.extract_eq_take_drop]
  exact List.take_of_length_le (by simp)

set_option maxHeartbeats 400000 in
theorem fail_any (w : World) (g : Nat) (st : St) (e0 : Nat) (h0 : e0 ≠ 0) (h : RdAt w g st) :
    Calls Try.prog 75 #[.pointer (some ⟨g, 0, none⟩), .int .i64 e0] w fun e w' => e = .returned (.tuple #[]) ∧ RdAt w' g (.error e0) ∧ Chg g w w' := by
  have h1 := h.at_
  have c0 := cell_at h1 0
  have f0 := frozen_at h1 0
  have h2 := set_at h1 0 (.string ⟨#[]⟩)
  have c1 := cell_at h2 1
  have f1 := frozen_at h2 1
  have h3 := set_at h2 1 (.int .i64 e0)
  have HL := Lib.hid (show RdAt ((w.setCell ⟨g, 0, none⟩ (.string ⟨#[]⟩)).setCell ⟨g, 1, none⟩ (.int .i64 e0)) g (.error e0) ∧ Chg g w ((w.setCell ⟨g, 0, none⟩ (.string ⟨#[]⟩)).setCell ⟨g, 1, none⟩ (.int .i64 e0)) from
    ⟨⟨(fun e he => by injection he with he; omega), h3⟩, (Chg.set _ _).trans (Chg.set _ _)⟩)
  clear h h1 h2 h3
  go_enter Try.func75, Try.ntmps75
  go_wp2_with fail
  exact bodyPost_end (v := .tuple #[]) (by simp [results, Try.results75]) rfl ⟨rfl, HL.out⟩

set_option maxHeartbeats 1000000 in
theorem take_any (w : World) (g : Nat) (st : St) (n : Nat) (hn : n ≤ 1000000000) (h : RdAt w g st) :
    Calls Try.prog 74 #[.pointer (some ⟨g, 0, none⟩), .int .i64 n] w fun e w' => e = .returned (.string (strB (takeV st n))) ∧ RdAt w' g (takeR st n) ∧ Chg g w w' := by
  have h1 := h.at_
  have c0 := cell_at h1 0
  have c1 := cell_at h1 1
  have HH := Lib.hid h
  cases st with
  | error e0 =>
    have h0 := h.bd e0 rfl
    have h0z : ((e0 : Int) != 0) = true := by simp; omega
    simp only [errS] at c1
    clear h h1 h0 c0
    go_enter Try.func74, Try.ntmps74
    go_wp2_with fail
    go_ret
    exact ⟨rfl, HH.out, Chg.refl _ _⟩
  | ok s =>
    simp only [errS, restS] at c0 c1
    by_cases hfit : n ≤ s.length
    · have hlt : ¬ (strB s).size < n := by rw [strB_size]; omega
      have hlt2 : decide ((strB s).size < n) = false := by simp [hlt]
      have f0 := frozen_at h1 0
      have h2 := set_at h1 0 (.string ((strB s).extract n (strB s).size))
      have HS := Lib.hid (show strB (takeV (.ok s) n) = (strB s).extract 0 n ∧ RdAt (w.setCell ⟨g, 0, none⟩ (.string ((strB s).extract n (strB s).size))) g (takeR (.ok s) n) by
        rw [show takeV (.ok s) n = s.take n from if_pos hfit, show takeR (.ok s) n = .ok (s.drop n) from if_pos hfit, take_str]
        refine ⟨rfl, (fun e he => by cases he), ?_⟩
        rw [h2, drop_str]; rfl)
      clear h h1 h2 hfit
      go_enter Try.func74, Try.ntmps74
      go_wp2_with fail
      go_ret
      rw [HS.out.1]
      exact ⟨rfl, HS.out.2, Chg.set _ _⟩
    · have hlt : (strB s).size < n := by rw [strB_size]; omega
      have hlt2 : decide ((strB s).size < n) = true := by simp [hlt]
      have HS := Lib.hid (And.intro (show takeV (.ok s) n = [] from if_neg hfit) (show takeR (.ok s) n = .error 7 from if_neg hfit))
      have CF := Lib.hid (show Calls Try.prog 75 #[.pointer (some ⟨g, 0, none⟩), .int .i64 7] w _ from fail_any w g _ 7 (by omega) h)
      clear h h1 hfit
      go_enter Try.func74, Try.ntmps74
      go_wp2_with fail
      refine CF.out.mono ?_
      rintro e w2 ⟨rfl, h2⟩
      have H2 := Lib.hid h2
      clear h2
      go_wp2_with fail
      go_ret
      rw [HS.out.1, HS.out.2]
      exact ⟨rfl, H2.out⟩
end Go.Proofs.Ytfadpiipigkocaa
namespace Go.Proofs.Ytfadpiipigkocaa
open Go.RowKit

/-- what a codec reads of a reader's state, and what it leaves. -/
def rdV {α : Type} (C : Codec α) (d : α) (st : St) : α :=
  match st with
  | .error _ => d
  | .ok b => match C.dec b with
    | .ok (x, _) => x
    | .error _ => d
def rdR {α : Type} (C : Codec α) (st : St) : St :=
  match st with
  | .error e => .error e
  | .ok b => match C.dec b with
    | .ok (_, r) => .ok r
    | .error e => .error e

theorem pcNumL_lt3 : ∀ (l : List UInt8), l.length ≤ 3 → numL l < 16777216
  | [], _ => by decide
  | [a], _ => by have := u8_lt a; simp only [numL, List.foldl]; omega
  | [a, b], _ => by have := u8_lt a; have := u8_lt b; simp only [numL, List.foldl]; omega
  | [a, b, c], _ => by have := u8_lt a; have := u8_lt b; have := u8_lt c; simp only [numL, List.foldl]; omega
  | _ :: _ :: _ :: _ :: _, h => by simp at h
theorem pcOr8 (x y : Nat) (hx : x < 16777216) (hy : y ≤ 255) : bits .or .u32 ((x : Int) * 256) y = ((x * 256 + y : Nat) : Int) := by
  rw [bits_join .u32 32 (by decide) Go.wraps_u32 8 ((x : Int) * 256) y (by omega) (by omega) (by omega) (by omega) (by omega) (by omega)]
  omega

theorem rdV_ok {α : Type} {C : Codec α} {d x : α} {b r : List UInt8} (h : C.dec b = .ok (x, r)) : rdV C d (.ok b) = x := by simp only [rdV, h]
theorem rdV_no {α : Type} {C : Codec α} {d : α} {b : List UInt8} {e : Nat} (h : C.dec b = .error e) : rdV C d (.ok b) = d := by simp only [rdV, h]
theorem rdR_ok {α : Type} {C : Codec α} {x : α} {b r : List UInt8} (h : C.dec b = .ok (x, r)) : rdR C (.ok b) = .ok r := by simp only [rdR, h]
theorem rdR_no {α : Type} {C : Codec α} {b : List UInt8} {e : Nat} (h : C.dec b = .error e) : rdR C (.ok b) = .error e := by simp only [rdR, h]

/-- how a number comes out of the four bytes taken. -/
theorem rd_num (st : St) : (numL (takeV st 4) ≤ 268435455 ∧ rdV numC 0 st = numL (takeV st 4) ∧ rdR numC st = takeR st 4) ∨ (268435455 < numL (takeV st 4) ∧ rdV numC 0 st = 0 ∧ rdR numC st = .error 5) := by
  cases st with
  | error e => exact Or.inl ⟨by show numL [] ≤ _; decide, rfl, rfl⟩
  | ok s =>
    by_cases h : 4 ≤ s.length
    · rw [show takeV (.ok s) 4 = s.take 4 from if_pos h, show takeR (.ok s) 4 = .ok (s.drop 4) from if_pos h]
      by_cases hb : 268435456 ≤ numL (s.take 4)
      · have hd : numC.dec s = .error 5 := by
          show decN s = _
          unfold decN
          rw [if_neg (by omega), if_pos hb]
        exact Or.inr ⟨by omega, rdV_no hd, rdR_no hd⟩
      · have hd : numC.dec s = .ok (numL (s.take 4), s.drop 4) := by
          show decN s = _
          unfold decN
          rw [if_neg (by omega), if_neg hb]
        exact Or.inl ⟨by omega, rdV_ok hd, rdR_ok hd⟩
    · rw [show takeV (.ok s) 4 = [] from if_neg h, show takeR (.ok s) 4 = .error 7 from if_neg h]
      have hd : numC.dec s = .error 7 := by
        show decN s = _
        unfold decN
        rw [if_pos (by omega)]
      exact Or.inl ⟨by decide, rdV_no hd, rdR_no hd⟩

/-- '[]byte(s)'. -/
theorem conv_bytes (w : World) (l : List UInt8) : ∃ cap w2, (convert 9 50 (.string (strB l))).run Try.prog w = .ok (.slice (some ⟨w.heap.size, 0, none⟩) (strB l).size cap) w2 ∧ (strB l).size ≤ cap ∧ Row w2 .u8 (some ⟨w.heap.size, 0, none⟩) (nums l) ∧ Below w.heap.size w w2 := by
  have h := run_bytes_of_string (P := Try.prog) w 9 50 5 (strB l) Try.underlying9 Try.underlying50 Try.underlying5
  refine ⟨_, _, h, grownCap_ge _ _ _ _, ?_, ((below_drewN (Below.refl _ w) 1).alloc (Nat.le_refl _) _)⟩
  refine Or.inr ⟨_, 0, rfl, by show _ < (w.heap.push _).size; simp, fun j hj => ?_⟩
  rw [nums_length] at hj
  have hb : (w.drew.alloc (.cells (bytesRow (strB l) (grownCap w (strB l).size 0 5)) 5 ((bytesRow (strB l) (grownCap w (strB l).size 0 5)).size, (bytesRow (strB l) (grownCap w (strB l).size 0 5)).size + 1))).heap[w.heap.size]? = some (.cells (bytesRow (strB l) (grownCap w (strB l).size 0 5)) 5 ((bytesRow (strB l) (grownCap w (strB l).size 0 5)).size, (bytesRow (strB l) (grownCap w (strB l).size 0 5)).size + 1)) := by
    show (w.heap.push _)[w.heap.size]? = _
    simp
  simp only [World.cell?, hb, Nat.zero_add]
  rw [nums_getD _ _ hj]
  have h2 : j < l.toArray.size := by simpa using hj
  simp [bytesRow, strB, Array.getElem?_append, List.getD, hj]

set_option maxHeartbeats 1000000 in
theorem pcNumber_any (w : World) (g : Nat) (st : St) (h : RdAt w g st) :
    Calls Try.prog 52 #[.pointer (some ⟨g, 0, none⟩)] w fun e w' => e = .returned (.int .i64 (rdV numC 0 st : Nat)) ∧ RdAt w' g (rdR numC st) ∧ Chg g w w' := by
  have CT := Lib.hid (show Calls Try.prog 74 #[.pointer (some ⟨g, 0, none⟩), .int .i64 4] w _ from take_any w g st 4 (by omega) h)
  have CF := Lib.hid (show ∀ w1 s, RdAt w1 g s → Calls Try.prog 75 #[.pointer (some ⟨g, 0, none⟩), .int .i64 5] w1 _ from fun w1 s h1 => fail_any w1 g s 5 (by omega) h1)
  have HQ := Lib.hid (rd_num st)
  have HL := Lib.hid (takeV_le st 4)
  obtain ⟨V, hV⟩ : ∃ V, rdV numC 0 st = V := ⟨_, rfl⟩
  obtain ⟨R, hR⟩ : ∃ R, rdR numC st = R := ⟨_, rfl⟩
  obtain ⟨l, hl⟩ : ∃ l, takeV st 4 = l := ⟨_, rfl⟩
  obtain ⟨R1, hR1⟩ : ∃ R1, takeR st 4 = R1 := ⟨_, rfl⟩
  rw [hV, hR, hl, hR1] at HQ
  rw [hl] at HL
  rw [hl, hR1] at CT
  rw [hV, hR]
  clear h hV hR hl hR1
  go_enter Try.func52, Try.ntmps52
  go_wp2_with fail
  refine CT.out.mono ?_
  rintro e w1 ⟨rfl, hr1, hc1⟩
  have HR1 := Lib.hid hr1
  have HC1 := Lib.hid hc1
  clear hr1 hc1
  obtain ⟨cap, w2, hcv, hcap, hrow, hbw⟩ := conv_bytes w1 l
  obtain ⟨n, hn⟩ : ∃ n, (strB l).size = n := ⟨_, rfl⟩
  rw [hn] at hcv hcap
  have hnl : l.length = n := by rw [← hn, strB_size]
  have hn4 : (n : Int) ≤ 4 := by have := HL.out; omega
  have HN := Lib.hid hnl
  have HROW := Lib.hid hrow
  have HR2 := Lib.hid (HR1.out.below hbw)
  have HC2 := Lib.hid (HC1.out.trans (Chg.of_below hbw))
  clear hrow hbw hn hnl
  go_wp2_with fail
  go_loop [3, 10] (fun x i => ∃ k : Nat, k ≤ n ∧ i = .int .i64 k ∧ x = .int .u32 (numL (l.take k) : Nat)) (fun _ i => n - (RowKit.intOf i).toNat)
  case atStart => exact ⟨0, Nat.zero_le _, rfl, rfl⟩
  case round =>
    obtain ⟨k, hk, rfl, rfl⟩ := hrel
    obtain ⟨A, hA⟩ : ∃ A, numL (l.take k) = A := ⟨_, rfl⟩
    rw [hA]
    have HA := Lib.hid hA
    clear hA
    by_cases hlt : k < n
    · have hA3 : A < 16777216 := by rw [← HA.out]; exact pcNumL_lt3 _ (by rw [List.length_take]; omega)
      obtain ⟨b, o, hbe, hbl, hcell⟩ := byte_cell HROW.out (Below.refl _ _) (show k < l.length by rw [HN.out]; exact hlt)
      injection hbe with hbe
      injection hbe with hb1 hb2 _
      subst hb1 hb2
      obtain ⟨x, hx⟩ : ∃ x, l.getD k 0 = x := ⟨_, rfl⟩
      rw [hx, Nat.zero_add] at hcell
      have HX := Lib.hid hx
      clear hx
      have hx8 : (x.toNat : Int) ≤ 255 := by have := u8_lt x; omega
      have ho := pcOr8 A x.toNat hA3 (u8_lt x)
      have hA1 : (A : Int) < 16777216 := by omega
      have hltz : (k : Int) < (n : Int) := by omega
      clear hA3
      go_wp2_with fail
      go_round
      case rel =>
        have hs : numL (l.take (k + 1)) = A * 256 + x.toNat := by
          rw [take_snoc8 l k (by rw [HN.out]; exact hlt), numL_snoc, HX.out, HA.out]
        exact ⟨k + 1, by omega, by go_num, by rw [hs]; simp⟩
      case measure => simp [RowKit.intOf]; omega
    · obtain rfl : k = n := by omega
      have hltz : ¬ (k : Int) < (k : Int) := by omega
      have hAl : numL l = A := by rw [← HA.out, ← HN.out, List.take_length]
      rcases HQ.out with ⟨h1, h2, h3⟩ | ⟨h1, h2, h3⟩
      · rw [hAl] at h1 h2
        have hgt : decide ((A : Int) > 268435455) = false := by simp; omega
        have hA1 : (A : Int) ≤ 268435455 := by omega
        have HE := Lib.hid (And.intro h2 h3)
        clear h1 h2 h3 hAl
        go_wp2_with fail
        go_ret
        exact ⟨by rw [HE.out.1]; rfl, by rw [HE.out.2]; exact HR2.out, HC2.out⟩
      · rw [hAl] at h1
        have hgt : decide ((A : Int) > 268435455) = true := by simp; omega
        have HE := Lib.hid (And.intro h2 h3)
        clear h1 h2 h3 hAl
        go_wp2_with fail
        refine (CF.out _ _ HR2.out).mono ?_
        rintro e w3 ⟨rfl, hr3, hc3⟩
        have H3 := Lib.hid (And.intro hr3 (HC2.out.trans hc3))
        clear hr3 hc3
        go_wp2_with fail
        go_ret
        exact ⟨by rw [HE.out.1]; rfl, by rw [HE.out.2]; exact H3.out.1, H3.out.2⟩
end Go.Proofs.Ytfadpiipigkocaa
namespace Go.Proofs.Ytfadpiipigkocaa
open Go.RowKit

theorem decN_lt {b r : List UInt8} {n : Nat} (h : decN b = .ok (n, r)) : n ≤ 268435455 := by
  unfold decN at h
  by_cases h1 : b.length < 4
  · rw [if_pos h1] at h; cases h
  · rw [if_neg h1] at h
    by_cases h2 : 268435456 ≤ numL (b.take 4)
    · rw [if_pos h2] at h; cases h
    · rw [if_neg h2] at h
      injection h with h
      injection h with h _
      omega
theorem rdV_num_le (st : St) : rdV numC 0 st ≤ 268435455 := by
  cases st with
  | error e => exact Nat.zero_le _
  | ok b =>
    cases hd : numC.dec b with
    | error e => rw [rdV_no hd]; exact Nat.zero_le _
    | ok x => rw [rdV_ok (x := x.1) (r := x.2) hd]; exact decN_lt (b := b) (r := x.2) hd
theorem rd_text (st : St) : takeV (rdR numC st) (rdV numC 0 st) = rdV textC [] st ∧ takeR (rdR numC st) (rdV numC 0 st) = rdR textC st := by
  cases st with
  | error e => exact ⟨rfl, rfl⟩
  | ok b =>
    cases hd : decN b with
    | error e =>
      have ht : textC.dec b = .error e := by
        show decT b = _
        unfold decT; rw [hd]
      rw [rdV_no (C := textC) ht, rdR_no (C := textC) ht, rdR_no (C := numC) hd]
      exact ⟨rfl, rfl⟩
    | ok x =>
      obtain ⟨n, r⟩ := x
      rw [rdV_ok (C := numC) hd, rdR_ok (C := numC) hd]
      by_cases hn : n ≤ r.length
      · have ht : textC.dec b = .ok (r.take n, r.drop n) := by
          show decT b = _
          unfold decT; rw [hd]
          exact if_neg (by omega)
        rw [rdV_ok ht, rdR_ok ht]
        exact ⟨if_pos hn, if_pos hn⟩
      · have ht : textC.dec b = .error 7 := by
          show decT b = _
          unfold decT; rw [hd]
          exact if_pos (by omega)
        rw [rdV_no ht, rdR_no ht]
        exact ⟨if_neg hn, if_neg hn⟩

set_option maxHeartbeats 400000 in
theorem text_any (w : World) (g : Nat) (st : St) (h : RdAt w g st) :
    Calls Try.prog 76 #[.pointer (some ⟨g, 0, none⟩)] w fun e w' => e = .returned (.string (strB (rdV textC [] st))) ∧ RdAt w' g (rdR textC st) ∧ Chg g w w' := by
  have CN := Lib.hid (pcNumber_any w g st h)
  have CT := Lib.hid (fun w1 h1 => take_any w1 g (rdR numC st) (rdV numC 0 st) (Nat.le_trans (rdV_num_le st) (by omega)) h1)
  have HQ := Lib.hid (rd_text st)
  obtain ⟨V, hV⟩ : ∃ V, rdV numC 0 st = V := ⟨_, rfl⟩
  rw [hV] at CN CT HQ
  rw [HQ.out.1, HQ.out.2] at CT
  clear h hV
  go_enter Try.func76, Try.ntmps76
  go_wp2_with fail
  refine CN.out.mono ?_
  rintro e w1 ⟨rfl, hr1, hc1⟩
  have HC1 := Lib.hid hc1
  have C2 := Lib.hid (CT.out w1 hr1)
  clear hr1 hc1
  go_wp2_with fail
  refine C2.out.mono ?_
  rintro e w2 ⟨rfl, hr2, hc2⟩
  have H2 := Lib.hid (And.intro hr2 (HC1.out.trans hc2))
  clear hr2 hc2
  go_wp2_with fail
  go_ret
  exact ⟨rfl, H2.out⟩

theorem strB_toList (l : List UInt8) : (strB l).toList = l := by rw [ByteArray.toList_eq]; rfl
theorem less_one {x : UInt8} (h0 : x ≠ 0) : Op.bytesLess [x] [1] = false := by
  have h1 : ¬ x < 1 := fun h => h0 (by
    have h2 : x.toNat < 1 := h
    exact UInt8.toNat_inj.1 (by show x.toNat = 0; omega))
  simp [Op.bytesLess, h1]
/-- a byte read as a truth. -/
theorem rd_truth (st : St) : (takeV st 1 = [] ∧ rdV truthC false st = false ∧ rdR truthC st = takeR st 1) ∨ (takeV st 1 = [0] ∧ rdV truthC false st = false ∧ rdR truthC st = takeR st 1) ∨ (takeV st 1 = [1] ∧ rdV truthC false st = true ∧ rdR truthC st = takeR st 1) ∨
    (∃ x : UInt8, x ≠ 0 ∧ x ≠ 1 ∧ takeV st 1 = [x] ∧ rdV truthC false st = false ∧ rdR truthC st = .error 5) := by
  cases st with
  | error e => exact Or.inl ⟨rfl, rfl, rfl⟩
  | ok b =>
    cases b with
    | nil => exact Or.inl ⟨rfl, rfl, rfl⟩
    | cons x r =>
      by_cases h0 : x = 0
      · subst h0; exact Or.inr (Or.inl ⟨rfl, rfl, rfl⟩)
      · by_cases h1 : x = 1
        · subst h1; exact Or.inr (Or.inr (Or.inl ⟨rfl, rfl, rfl⟩))
        · have hd : truthC.dec (x :: r) = .error 5 := by
            show decB (x :: r) = _
            unfold decB
            simp [h0, h1]
          exact Or.inr (Or.inr (Or.inr ⟨x, h0, h1, rfl, rdV_no hd, rdR_no hd⟩))

set_option maxHeartbeats 1000000 in
theorem rtruth_any (w : World) (g : Nat) (st : St) (h : RdAt w g st) :
    Calls Try.prog 77 #[.pointer (some ⟨g, 0, none⟩)] w fun e w' => e = .returned (.bool (rdV truthC false st)) ∧ RdAt w' g (rdR truthC st) ∧ Chg g w w' := by
  have CT := Lib.hid (show Calls Try.prog 74 #[.pointer (some ⟨g, 0, none⟩), .int .i64 1] w _ from take_any w g st 1 (by omega) h)
  have CF := Lib.hid (show ∀ w1 s, RdAt w1 g s → Calls Try.prog 75 #[.pointer (some ⟨g, 0, none⟩), .int .i64 5] w1 _ from fun w1 s h1 => fail_any w1 g s 5 (by omega) h1)
  have HQ := rd_truth st
  clear h
  rcases HQ with ⟨h1, h2, h3⟩ | ⟨h1, h2, h3⟩ | ⟨h1, h2, h3⟩ | ⟨x, hx0, hx1, h1, h2, h3⟩
  · rw [h2, h3]
    rw [h1] at CT
    have hl : Op.bytesLess (strB []).toList [1] = true := by rw [strB_toList]; rfl
    have he : ((strB []).toList == [1]) = false := by rw [strB_toList]; rfl
    generalize strB [] = V at CT hl he
    clear h1 h2 h3
    go_enter Try.func77, Try.ntmps77
    go_wp2_with fail
    refine CT.out.mono ?_
    rintro e w1 ⟨rfl, hr1, hc1⟩
    have H1 := Lib.hid (And.intro hr1 hc1)
    clear hr1 hc1
    go_wp2_with fail
    go_ret
    exact ⟨rfl, H1.out⟩
  · rw [h2, h3]
    rw [h1] at CT
    have hl : Op.bytesLess (strB [0]).toList [1] = true := by rw [strB_toList]; rfl
    have he : ((strB [0]).toList == [1]) = false := by rw [strB_toList]; rfl
    generalize strB [0] = V at CT hl he
    clear h1 h2 h3
    go_enter Try.func77, Try.ntmps77
    go_wp2_with fail
    refine CT.out.mono ?_
    rintro e w1 ⟨rfl, hr1, hc1⟩
    have H1 := Lib.hid (And.intro hr1 hc1)
    clear hr1 hc1
    go_wp2_with fail
    go_ret
    exact ⟨rfl, H1.out⟩
  · rw [h2, h3]
    rw [h1] at CT
    have hl : Op.bytesLess (strB [1]).toList [1] = false := by rw [strB_toList]; rfl
    have he : ((strB [1]).toList == [1]) = true := by rw [strB_toList]; rfl
    generalize strB [1] = V at CT hl he
    clear h1 h2 h3
    go_enter Try.func77, Try.ntmps77
    go_wp2_with fail
    refine CT.out.mono ?_
    rintro e w1 ⟨rfl, hr1, hc1⟩
    have H1 := Lib.hid (And.intro hr1 hc1)
    clear hr1 hc1
    go_wp2_with fail
    go_ret
    exact ⟨rfl, H1.out⟩
  · rw [h2, h3]
    rw [h1] at CT
    have hl : Op.bytesLess (strB [x]).toList [1] = false := by rw [strB_toList]; exact less_one hx0
    have he : ((strB [x]).toList == [1]) = false := by rw [strB_toList]; simp [hx1]
    generalize strB [x] = V at CT hl he
    clear h1 h2 h3
    go_enter Try.func77, Try.ntmps77
    go_wp2_with fail
    refine CT.out.mono ?_
    rintro e w1 ⟨rfl, hr1, hc1⟩
    have H1 := Lib.hid (And.intro hr1 hc1)
    clear hr1 hc1
    go_wp2_with fail
    refine (CF.out _ _ H1.out.1).mono ?_
    rintro e w2 ⟨rfl, hr2, hc2⟩
    have H2 := Lib.hid (And.intro hr2 (H1.out.2.trans hc2))
    clear hr2 hc2
    go_wp2_with fail
    go_ret
    exact ⟨rfl, H2.out⟩

set_option maxHeartbeats 400000 in
theorem rnew_any (w : World) (l : List UInt8) (p : Option Addr) (c : Nat) (hp : Row w .u8 p (nums l)) :
    Calls Try.prog 51 #[.slice p l.length c] w fun e w' => e = .returned (.pointer (some ⟨w.heap.size, 0, none⟩)) ∧ RdAt w' w.heap.size (.ok l) ∧ Below w.heap.size w w' := by
  have hcv := run_string w l p c hp
  have hcv2 : (convert 50 9 (.slice p l.length c)).run Try.prog w = .ok (.string (strB l)) w := hcv
  obtain ⟨n, hn⟩ : ∃ n, l.length = n := ⟨_, rfl⟩
  rw [hn] at hcv2 ⊢
  have HR := Lib.hid (show RdAt (w.alloc (.cells #[.string (strB l), .int .i64 0] 129)) w.heap.size (.ok l) from ⟨(fun e he => by cases he), new_block _ _ _⟩)
  clear hcv hp hn
  go_enter Try.func51, Try.ntmps51
  go_wp2_with fail
  go_ret
  exact ⟨rfl, HR.out, (Below.refl _ _).alloc (Nat.le_refl _) _⟩

def endE (st : St) : Nat :=
  match st with
  | .error e => e
  | .ok [] => 0
  | .ok (_ :: _) => 5
set_option maxHeartbeats 1000000 in
theorem end_any (w : World) (g : Nat) (st : St) (h : RdAt w g st) :
    Calls Try.prog 64 #[.pointer (some ⟨g, 0, none⟩)] w fun e w' => e = .returned (.int .i64 (endE st)) ∧ w = w' := by
  have h1 := h.at_
  have c0 := cell_at h1 0
  have c1 := cell_at h1 1
  cases st with
  | error e0 =>
    have h0 := h.bd e0 rfl
    have h0z : ((e0 : Int) == 0) = false := by simp; omega
    simp only [errS, restS] at c1 c0
    clear h h1 h0
    go_enter Try.func64, Try.ntmps64
    go_wp2_with fail
    go_ret
    exact ⟨rfl, rfl⟩
  | ok s =>
    simp only [errS, restS] at c1 c0
    clear h h1
    cases s with
    | nil =>
      have hs : (strB [] : ByteArray) = ⟨#[]⟩ := rfl
      rw [hs] at c0
      clear hs
      go_enter Try.func64, Try.ntmps64
      go_wp2_with fail
      go_ret
      exact ⟨rfl, rfl⟩
    | cons x r =>
      have hs : ((strB (x :: r)).toList == []) = false := by rw [strB_toList]; rfl
      obtain ⟨S, hS⟩ : ∃ S, strB (x :: r) = S := ⟨_, rfl⟩
      rw [hS] at hs c0
      clear hS
      go_enter Try.func64, Try.ntmps64
      go_wp2_with fail
      go_ret
      exact ⟨rfl, rfl⟩
end Go.Proofs.Ytfadpiipigkocaa
