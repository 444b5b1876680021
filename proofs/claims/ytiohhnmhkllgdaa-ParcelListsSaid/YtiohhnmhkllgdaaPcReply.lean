/-
  Layer parcel: a reply packed.
-/
import Derived.Test.YtiohhnmhkllgdaaPcAsk
namespace Go.Proofs.Ytiohhnmhkllgdaa
open Go.RowKit

abbrev RecL := List UInt8 × List UInt8
/-- slice pointer p reads in w as the records ls. -/
def Recs (w : World) (p : Option Addr) (ls : List RecL) : Prop :=
  ls = [] ∨ ∃ b off, p = some ⟨b, off, none⟩ ∧ b < w.heap.size ∧ ∀ j, j < ls.length → w.cell? ⟨b, off + j * 2, none⟩ = some (.string (strB (ls.getD j ([], [])).1)) ∧ w.cell? ⟨b, off + j * 2 + 1, none⟩ = some (.string (strB (ls.getD j ([], [])).2))
theorem Recs.below {w w' : World} {p : Option Addr} {ls : List RecL} (h : Recs w p ls) (hb : Below w.heap.size w w') : Recs w' p ls := by
  rcases h with h | ⟨b, off, hp, hlt, hc⟩
  · exact Or.inl h
  · exact Or.inr ⟨b, off, hp, Nat.lt_of_lt_of_le hlt hb.size, fun j hj => ⟨by rw [hb.cell (p := ⟨b, off + j * 2, none⟩) hlt]; exact (hc j hj).1, by rw [hb.cell (p := ⟨b, off + j * 2 + 1, none⟩) hlt]; exact (hc j hj).2⟩⟩
theorem rec_cell {W wr : World} {p : Option Addr} {ls : List RecL} (h : Recs W p ls) (hb : Below W.heap.size W wr) {j : Nat} (hj : j < ls.length) : ∃ b o, p = some ⟨b, o, none⟩ ∧ b < W.heap.size ∧ wr.cell? ⟨b, o + j * 2, none⟩ = some (.string (strB (ls.getD j ([], [])).1)) ∧ wr.cell? ⟨b, o + j * 2 + 1, none⟩ = some (.string (strB (ls.getD j ([], [])).2)) := by
  rcases h with h | ⟨b, o, hp, h1, h2⟩
  · rw [h] at hj; simp at hj
  · exact ⟨b, o, hp, h1, by rw [hb.cell (p := ⟨b, o + j * 2, none⟩) h1]; exact (h2 j hj).1, by rw [hb.cell (p := ⟨b, o + j * 2 + 1, none⟩) h1]; exact (h2 j hj).2⟩

/-- a reply, but for where its records lie. -/
structure RepL where
  c : Int
  s : Int
  e : Int
  fd : Bool
  v : List UInt8
  ls : List RecL
  nx : List UInt8
  mr : Bool
def repV (r : RepL) (p : Option Addr) (k : Nat) : Value := .agg #[.int .i64 r.c, .int .i64 r.s, .int .i64 r.e, .bool r.fd, .string (strB r.v), .slice p r.ls.length k, .string (strB r.nx), .bool r.mr]
def recsS (st : Option (List UInt8)) (ls : List RecL) : Option (List UInt8) := ls.foldl (fun st r => textsS 32768 st [r.1, r.2]) st
def repS0 (r : RepL) : Option (List UInt8) := numsS 32768 (textsS 32768 (truthS 32768 (numsS 32768 (some []) [r.c, r.s, r.e]) r.fd) [r.v]) [(r.ls.length : Int)]
def repS (r : RepL) : Option (List UInt8) := truthS 32768 (textsS 32768 (recsS (repS0 r) r.ls) [r.nx]) r.mr
theorem recsS_snoc (st : Option (List UInt8)) (xs : List RecL) (k : Nat) (h : k < xs.length) : recsS st (xs.take (k + 1)) = textsS 32768 (recsS st (xs.take k)) [(xs.getD k ([], [])).1, (xs.getD k ([], [])).2] := by
  rw [List.take_succ_eq_append_getElem h]
  unfold recsS
  rw [List.foldl_append]
  simp [List.getD, h]

theorem new_block (w : World) (c : Array Value) (t : TypeId) : (w.alloc (.cells c t)).heap[w.heap.size]? = some (.cells c t (0, 0)) := by
  show (w.heap.push _)[w.heap.size]? = _
  simp
/-- numbers and texts in fresh blocks, as the walk calls them. -/
theorem nums1 (w : World) (B g M : Nat) (st : Option (List UInt8)) (x : Int) (hB : B ≤ w.heap.size) (h : PkAt w B g M st) (hM : M ≤ 1000000) :
    Calls Try.prog 20 #[.pointer (some ⟨g, 0, none⟩), .slice (some ⟨w.heap.size, 0, none⟩) 1 1] (w.alloc (.cells #[.int .i64 x] 3)) fun e w' => e = .returned (.tuple #[]) ∧ Laid w B g M (numsS M st [x]) w' :=
  (numbers_any (w.alloc (.cells #[.int .i64 x] 3)) B g M w.heap.size st [x] (by simp; omega) ((Laid.refl h).alloc hB _).pk (by omega) (Or.inl hM) (new_block _ _ _) (by simp)).mono fun e w' h' => ⟨h'.1, ((Laid.refl h).alloc hB _).trans h'.2⟩
theorem nums3 (w : World) (B g M : Nat) (st : Option (List UInt8)) (x y z : Int) (hB : B ≤ w.heap.size) (h : PkAt w B g M st) (hM : M ≤ 1000000) :
    Calls Try.prog 20 #[.pointer (some ⟨g, 0, none⟩), .slice (some ⟨w.heap.size, 0, none⟩) 3 3] (w.alloc (.cells #[.int .i64 x, .int .i64 y, .int .i64 z] 3)) fun e w' => e = .returned (.tuple #[]) ∧ Laid w B g M (numsS M st [x, y, z]) w' :=
  (numbers_any (w.alloc (.cells #[.int .i64 x, .int .i64 y, .int .i64 z] 3)) B g M w.heap.size st [x, y, z] (by simp; omega) ((Laid.refl h).alloc hB _).pk (by omega) (Or.inl hM) (new_block _ _ _) (by simp)).mono fun e w' h' => ⟨h'.1, ((Laid.refl h).alloc hB _).trans h'.2⟩
theorem texts1 (w : World) (B g M : Nat) (st : Option (List UInt8)) (x : List UInt8) (hB : B ≤ w.heap.size) (h : PkAt w B g M st) (hM : M ≤ 1000000) :
    Calls Try.prog 21 #[.pointer (some ⟨g, 0, none⟩), .slice (some ⟨w.heap.size, 0, none⟩) 1 1] (w.alloc (.cells #[.string (strB x)] 9)) fun e w' => e = .returned (.tuple #[]) ∧ Laid w B g M (textsS M st [x]) w' :=
  (texts_any (w.alloc (.cells #[.string (strB x)] 9)) B g M w.heap.size st [x] (by simp; omega) ((Laid.refl h).alloc hB _).pk (by omega) (Or.inl hM) (new_block _ _ _) (by simp)).mono fun e w' h' => ⟨h'.1, ((Laid.refl h).alloc hB _).trans h'.2⟩
theorem texts2 (w : World) (B g M : Nat) (st : Option (List UInt8)) (x y : List UInt8) (hB : B ≤ w.heap.size) (h : PkAt w B g M st) (hM : M ≤ 1000000) :
    Calls Try.prog 21 #[.pointer (some ⟨g, 0, none⟩), .slice (some ⟨w.heap.size, 0, none⟩) 2 2] (w.alloc (.cells #[.string (strB x), .string (strB y)] 9)) fun e w' => e = .returned (.tuple #[]) ∧ Laid w B g M (textsS M st [x, y]) w' :=
  (texts_any (w.alloc (.cells #[.string (strB x), .string (strB y)] 9)) B g M w.heap.size st [x, y] (by simp; omega) ((Laid.refl h).alloc hB _).pk (by omega) (Or.inl hM) (new_block _ _ _) (by simp)).mono fun e w' h' => ⟨h'.1, ((Laid.refl h).alloc hB _).trans h'.2⟩

set_option maxHeartbeats 4000000 in
theorem reply_any (r : RepL) (p : Option Addr) (cap : Nat) (w : World) (hl : r.ls.length ≤ 1000000) (hp : Recs w p r.ls) : Calls Try.prog 14 #[repV r p cap] w (RetPk w.heap.size (repS r) w) := by
  obtain ⟨c, s, er, fd, v, ls, nx, mr⟩ := r
  have C0 := Lib.hid (show ∀ w1, Calls Try.prog 19 #[.int .i64 32768] w1 _ from fun w1 => new_any w1 32768)
  have HF := Lib.hid (show ∀ e w', RetPk w.heap.size (truthS 32768 (textsS 32768 (recsS (repS0 ⟨c, s, er, fd, v, ls, nx, mr⟩) ls) [nx]) mr) w e w' → RetPk w.heap.size (repS ⟨c, s, er, fd, v, ls, nx, mr⟩) w e w' from fun _ _ h => h)
  have HS0 := Lib.hid (show numsS 32768 (textsS 32768 (truthS 32768 (numsS 32768 (some []) [c, s, er]) fd) [v]) [(ls.length : Int)] = repS0 ⟨c, s, er, fd, v, ls, nx, mr⟩ from rfl)
  generalize repS ⟨c, s, er, fd, v, ls, nx, mr⟩ = R at HF ⊢
  generalize repS0 ⟨c, s, er, fd, v, ls, nx, mr⟩ = S0 at HF HS0
  unfold repV
  simp only at hl hp ⊢
  have HP := Lib.hid hp
  obtain ⟨n, hN⟩ : ∃ n, ls.length = n := ⟨_, rfl⟩
  rw [hN] at hl HS0 ⊢
  have HN := Lib.hid hN
  clear hp hN
  go_enter Try.func14, Try.ntmps14
  go_wp2_with fail
  obtain ⟨W0, hW0⟩ : ∃ W0, w.alloc (.cells #[.int .i64 c, .int .i64 s, .int .i64 er, .bool fd, .string (strB v), .slice p n cap, .string (strB nx), .bool mr] 37) = W0 := ⟨_, rfl⟩
  rw [hW0]
  have hz0 : W0.heap.size = w.heap.size + 1 := by rw [← hW0]; simp
  have HC := Lib.hid (show ∀ wr, Below (w.heap.size + 1) W0 wr → ∀ i, wr.cell? ⟨w.heap.size, i, none⟩ = _ from fun wr hb i => box_cells (hW0 ▸ hb) i)
  have HBW := Lib.hid (show Below w.heap.size w W0 by rw [← hW0]; exact (Below.refl _ _).alloc (Nat.le_refl _) _)
  clear hW0
  refine (C0.out W0).mono ?_
  rintro e w1 ⟨rfl, hp1, hb1⟩
  rw [hz0] at hp1 hb1 ⊢
  have c0 := HC.out w1 hb1 0
  have c1 := HC.out w1 hb1 1
  have c2 := HC.out w1 hb1 2
  have HB1 := Lib.hid hb1
  have CN := Lib.hid (nums3 w1 _ _ _ _ c s er (by have := hb1.size; omega) hp1 (by omega))
  clear hp1 hb1
  go_wp2_with fail
  refine CN.out.mono ?_
  rintro e w2 ⟨rfl, hl2⟩
  have HB2 := Lib.hid (HB1.out.trans hl2.bl)
  have c3 := HC.out w2 HB2.out 3
  have CT := Lib.hid (truth_any w2 _ _ _ _ fd (by have := HB2.out.size; omega) hl2.pk (by omega))
  clear hl2 c0 c1 c2
  go_wp2_with fail
  refine CT.out.mono ?_
  rintro e w3 ⟨rfl, hl3⟩
  have HB3 := Lib.hid (HB2.out.trans hl3.bl)
  have c4 := HC.out w3 HB3.out 4
  have CX := Lib.hid (texts1 w3 _ _ _ _ v (by have := HB3.out.size; omega) hl3.pk (by omega))
  clear hl3 c3
  go_wp2_with fail
  refine CX.out.mono ?_
  rintro e w4 ⟨rfl, hl4⟩
  have HB4 := Lib.hid (HB3.out.trans hl4.bl)
  have c5 := HC.out w4 HB4.out 5
  have CM := Lib.hid (nums1 w4 _ _ _ _ (n : Int) (by have := HB4.out.size; omega) hl4.pk (by omega))
  clear hl4 c4
  go_wp2_with fail
  refine CM.out.mono ?_
  rintro e w5 ⟨rfl, hl5⟩
  rw [HS0.out] at hl5
  have HB5 := Lib.hid (HB4.out.trans hl5.bl)
  have HP5 := Lib.hid hl5.pk
  have c5b := HC.out w5 HB5.out 5
  clear hl5 c5
  go_wp2_with fail
  go_loopw [35] (fun i wr => ∃ k : Nat, k ≤ n ∧ i = .int .i64 k ∧ Hid (PkAt wr (w.heap.size + 1) (w.heap.size + 1) 32768 (recsS S0 (ls.take k))) ∧ Hid (Below (w.heap.size + 1) W0 wr)) (fun i _ => n - (intOf i).toNat)
  case atStart => exact ⟨0, Nat.zero_le _, rfl, HP5, HB5⟩
  case round =>
    obtain ⟨k, hk, rfl, HPk, HBk⟩ := hrel
    by_cases hlt : k < n
    · have hltz : (k : Int) < (n : Int) := by omega
      obtain ⟨b, o, hpe, hbl, r1, r2⟩ := rec_cell HP.out ((HBW.out.trans (HBk.out.mono (by omega))) : Below w.heap.size w wr) (show k < ls.length by rw [HN.out]; exact hlt)
      subst hpe
      obtain ⟨x, hx⟩ : ∃ x, ls.getD k ([], []) = x := ⟨_, rfl⟩
      rw [hx] at r1 r2
      obtain ⟨x1, x2⟩ := x
      simp only at r1 r2
      have HS := Lib.hid (show recsS S0 (ls.take (k + 1)) = textsS 32768 (recsS S0 (ls.take k)) [x1, x2] by
        rw [recsS_snoc S0 ls k (by rw [HN.out]; exact hlt), hx])
      have hal : Below wr.heap.size wr (wr.alloc (.cells #[.string (strB x1), .string (strB x2)] 65)) := (Below.refl _ _).alloc (Nat.le_refl _) _
      have hzr : w.heap.size + 1 ≤ wr.heap.size := by have := HBk.out.size; omega
      have HBa := Lib.hid (HBk.out.trans (hal.mono hzr))
      have hck := (texts2 (wr.alloc (.cells #[.string (strB x1), .string (strB x2)] 65)) _ _ _ _ x1 x2 (by simp; omega) (HPk.out.below hal) (by omega))
      rw [show (wr.alloc (.cells #[.string (strB x1), .string (strB x2)] 65)).heap.size = wr.heap.size + 1 by simp] at hck
      have CK := Lib.hid hck
      clear hal hx hck
      go_wp2_with fail
      refine CK.out.mono ?_
      rintro e w6 ⟨rfl, hl6⟩
      have HB6 := Lib.hid (HBa.out.trans hl6.bl)
      have HP6 := Lib.hid (show PkAt w6 (w.heap.size + 1) (w.heap.size + 1) 32768 (recsS S0 (ls.take (k + 1))) from HS.out ▸ hl6.pk)
      clear hl6
      go_wp2_with fail
      go_roundw
      case rel => exact ⟨k + 1, by omega, by go_num, HP6, HB6⟩
      case measure => simp [intOf]; omega
    · obtain rfl : k = n := by omega
      have hltz : ¬ (k : Int) < (k : Int) := by omega
      have hpk := HPk.out
      rw [← HN.out, List.take_length] at hpk
      have c6 := HC.out wr HBk.out 6
      have CX2 := Lib.hid (texts1 wr _ _ _ _ nx (by have := HBk.out.size; omega) hpk (by omega))
      clear hpk
      go_wp2_with fail
      refine CX2.out.mono ?_
      rintro e w7 ⟨rfl, hl7⟩
      have HB7 := Lib.hid (HBk.out.trans hl7.bl)
      have c7 := HC.out w7 HB7.out 7
      have CT2 := Lib.hid (truth_any w7 _ _ _ _ mr (by have := HB7.out.size; omega) hl7.pk (by omega))
      clear hl7 c6
      go_wp2_with fail
      refine CT2.out.mono ?_
      rintro e w8 ⟨rfl, hl8⟩
      have HB8 := Lib.hid (HB7.out.trans hl8.bl)
      have CP := Lib.hid (packed_any w8 (w.heap.size + 1) (w.heap.size + 1) 32768 _ hl8.pk)
      clear hl8 c7
      go_wp2_with fail
      refine CP.out.mono ?_
      intro e w9 h9
      have HR := Lib.hid (HF.out _ _ (h9.of (B' := w.heap.size) (w0 := w) (by omega) (HBW.out.trans (HB8.out.mono (by omega)))))
      obtain ⟨v9, he9, -, -⟩ := h9
      subst he9
      go_wp2_with fail
      go_ret2
      exact HR.out
end Go.Proofs.Ytiohhnmhkllgdaa
