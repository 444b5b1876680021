/-
  Several texts in one: PcTexts, PcAsk, PcRepB, PcItRec.
-/
import Derived.Test.YtfadpiipigkocaaMg02
import Derived.Laws.EntriesVeiled
import Derived.WalkSpells
namespace Go.Proofs.Ytfadpiipigkocaa
open Go.RowKit

def textsS (M : Nat) (st : Option (List UInt8)) (xs : List (List UInt8)) : Option (List UInt8) := xs.foldl (textS M) st
theorem textsS_snoc (M : Nat) (st : Option (List UInt8)) (xs : List (List UInt8)) (k : Nat) (h : k < xs.length) : textsS M st (xs.take (k + 1)) = textS M (textsS M st (xs.take k)) (xs.getD k []) := by
  rw [List.take_succ_eq_append_getElem h]
  unfold textsS
  rw [List.foldl_append]
  simp [List.getD, h]
/-- how many bytes of a text are laid at most: of one that is too long none. -/
def tlU (l : List UInt8) : Nat := if l.length < 268435456 then l.length else 0
theorem tlU_le (l : List UInt8) : tlU l ≤ l.length := by unfold tlU; split <;> omega
theorem tlU_lt (l : List UInt8) : tlU l < 268435456 := by unfold tlU; split <;> omega
theorem numS_big {M : Nat} {st : Option (List UInt8)} {l : List UInt8} (h : ¬ l.length < 268435456) : numS M st (l.length : Int) = none := if_neg (by omega)
def sizeU (xs : List (List UInt8)) : Nat := xs.foldr (fun l n => 4 + tlU l + n) 0
theorem textS_lenU (M : Nat) (st : Option (List UInt8)) (l : List UInt8) : ((textS M st l).getD []).length ≤ (st.getD []).length + 4 + tlU l := by
  by_cases h : l.length < 268435456
  · have h1 := numS_len M st l.length
    have h2 := layS_len M (numS M st l.length) l
    rw [show tlU l = l.length from if_pos h]
    unfold textS; omega
  · have : textS M st l = none := by unfold textS; rw [numS_big h]; rfl
    rw [this]; exact Nat.zero_le _
theorem textsS_lenU (M : Nat) : ∀ (xs : List (List UInt8)) (st : Option (List UInt8)), ((textsS M st xs).getD []).length ≤ (st.getD []).length + sizeU xs
  | [], st => by simp [textsS, sizeU]
  | x :: xs, st => by
    have h1 := textS_lenU M st x
    have h2 := textsS_lenU M xs (textS M st x)
    show ((textsS M (textS M st x) xs).getD []).length ≤ _
    show _ ≤ _ + (4 + tlU x + sizeU xs)
    omega
theorem sizeU_take : ∀ (xs : List (List UInt8)) (k : Nat), k < xs.length → sizeU (xs.take k) + (4 + tlU (xs.getD k [])) ≤ sizeU xs
  | [], k, h => by simp at h
  | x :: xs, 0, _ => by
    show 0 + (4 + tlU x) ≤ 4 + tlU x + sizeU xs
    omega
  | x :: xs, k + 1, h => by
    have := sizeU_take xs k (by simpa using h)
    show 4 + tlU x + sizeU (xs.take k) + (4 + tlU (xs.getD k [])) ≤ 4 + tlU x + sizeU xs
    omega
def sizeT (xs : List (List UInt8)) : Nat := xs.foldr (fun l n => 4 + l.length + n) 0
theorem textS_len (M : Nat) (st : Option (List UInt8)) (l : List UInt8) : ((textS M st l).getD []).length ≤ (st.getD []).length + 4 + l.length := by
  have h1 := numS_len M st l.length
  have h2 := layS_len M (numS M st l.length) l
  unfold textS; omega
theorem textsS_len (M : Nat) : ∀ (xs : List (List UInt8)) (st : Option (List UInt8)), ((textsS M st xs).getD []).length ≤ (st.getD []).length + sizeT xs
  | [], st => by simp [textsS, sizeT]
  | x :: xs, st => by
    have h1 := textS_len M st x
    have h2 := textsS_len M xs (textS M st x)
    show ((textsS M (textS M st x) xs).getD []).length ≤ _
    show _ ≤ _ + (4 + x.length + sizeT xs)
    omega
theorem sizeT_take : ∀ (xs : List (List UInt8)) (k : Nat), k < xs.length → sizeT (xs.take k) + (4 + (xs.getD k []).length) ≤ sizeT xs
  | [], k, h => by simp at h
  | x :: xs, 0, _ => by
    show 0 + (4 + x.length) ≤ 4 + x.length + sizeT xs
    omega
  | x :: xs, k + 1, h => by
    have := sizeT_take xs k (by simpa using h)
    show 4 + x.length + sizeT (xs.take k) + (4 + (xs.getD k []).length) ≤ 4 + x.length + sizeT xs
    omega
theorem texts_at (xs : List (List UInt8)) (k : Nat) (h : k < xs.length) : ((xs.map fun l => Value.string (strB l)).toArray)[k]? = some (.string (strB (xs.getD k []))) := by
  simp [List.getD, h]

set_option maxHeartbeats 2000000 in
theorem texts_anyU (w : World) (B g M b0 : Nat) (st : Option (List UInt8)) (xs : List (List UInt8)) (hB : B ≤ w.heap.size) (h : PkAt w B g M st) (hM : M ≤ 9223372036854775807) (hr : M ≤ 1000000000000 ∨ (st.getD []).length + sizeU xs ≤ 1000000000000)
    (hx : w.heap[b0]? = some (.cells (xs.map fun l => Value.string (strB l)).toArray 9 (0, 0))) (hn : xs.length ≤ 1000000000000) :
    Calls Try.prog 43 #[.pointer (some ⟨g, 0, none⟩), .slice (some ⟨b0, 0, none⟩) xs.length xs.length] w fun e w' => e = .returned (.tuple #[]) ∧ Laid w B g M (textsS M st xs) w' := by
  have HH := Lib.hid h
  have HX := Lib.hid hx
  have CL := Lib.hid (fun w1 s l h1 h2 h3 => lay_anyU w1 B g M s l h1 h2 hM h3)
  have CN := Lib.hid (fun w1 b1 s x h1 h2 h3 h4 => numbers_any w1 B g M b1 s [x] h1 h2 hM h3 h4 (by simp))
  obtain ⟨n, hN⟩ : ∃ n, xs.length = n := ⟨_, rfl⟩
  rw [hN] at hn ⊢
  have HN := Lib.hid hN
  have HR := Lib.hid hr
  clear h hx hr hN hM
  go_enter Try.func43, Try.ntmps43
  go_wp2_with fail
  go_loopw [8] (fun i wr => ∃ k : Nat, k ≤ n ∧ i = .int .i64 k ∧ Hid (Laid w B g M (textsS M st (xs.take k)) wr)) (fun i _ => n - (RowKit.intOf i).toNat)
  case atStart => exact ⟨0, Nat.zero_le _, rfl, Lib.hid (Laid.refl HH.out)⟩
  case round =>
    obtain ⟨k, hk, rfl, HL⟩ := hrel
    by_cases hlt : k < n
    · have hltz : (k : Int) < (n : Int) := by omega
      have hcell := (cell_at (HL.out.fr.keep b0 _ _ _ HX.out string_packer.1 string_packer.2) k).trans (texts_at xs k (by rw [HN.out]; exact hlt))
      obtain ⟨x, hx⟩ : ∃ x, xs.getD k [] = x := ⟨_, rfl⟩
      rw [hx] at hcell
      have hlen := textsS_lenU M (xs.take k) st
      have hlen2 := sizeU_take xs k (by rw [HN.out]; exact hlt)
      rw [hx] at hlen2
      have hsz := strB_size x
      have HK := Lib.hid (show M ≤ 1000000000000 ∨ ((textsS M st (xs.take k)).getD []).length + 4 + tlU x ≤ 1000000000000 by
        have := HR.out
        omega)
      have HL1 := Lib.hid (HL.out.alloc hB (.cells #[.int .i64 ((strB x).size : Int)] 3))
      have HC := Lib.hid (CN.out (wr.alloc (.cells #[.int .i64 ((strB x).size : Int)] 3)) wr.heap.size (textsS M st (xs.take k)) ((strB x).size : Int) (Nat.le_trans hB HL1.out.bl.size) HL1.out.pk (by have := HK.out; simp only [List.length_singleton]; omega) (by show (wr.heap.push _)[wr.heap.size]? = _; simp))
      have HS := Lib.hid (show textsS M st (xs.take (k + 1)) = layS M (numsS M (textsS M st (xs.take k)) [((strB x).size : Int)]) x by
        rw [textsS_snoc M st xs k (by rw [HN.out]; exact hlt), hx, hsz]; rfl)
      have HSZ := Lib.hid hsz
      clear hlen hlen2 hsz hx
      go_wp2_with fail
      refine HC.out.mono ?_
      rintro e w2 ⟨rfl, hl2⟩
      have HL2 := Lib.hid (HL1.out.trans hl2)
      have HC2 := Lib.hid (CL.out w2 _ x (Nat.le_trans hB HL2.out.bl.size) HL2.out.pk (by
        by_cases hx28 : x.length < 268435456
        · have h1 := numsS_len M [((strB x).size : Int)] (textsS M st (xs.take k))
          rw [List.length_singleton] at h1
          have h2 : tlU x = x.length := if_pos hx28
          have := HK.out; omega
        · exact Or.inl (by rw [HSZ.out]; exact numS_big hx28)))
      clear hl2
      go_wp2_with fail
      refine HC2.out.mono ?_
      rintro e w3 ⟨rfl, hl3⟩
      have HL3 := Lib.hid (show Laid w B g M (textsS M st (xs.take (k + 1))) w3 from HS.out ▸ HL2.out.trans hl3)
      clear hl3
      go_wp2_with fail
      go_roundw
      case rel => exact ⟨k + 1, by omega, by go_num, HL3⟩
      case measure => simp [RowKit.intOf]; omega
    · obtain rfl : k = n := by omega
      have hltz : ¬ (k : Int) < (k : Int) := by omega
      have HL2 := Lib.hid (show Laid w B g M (textsS M st xs) wr by
        have := HL.out
        rwa [← HN.out, List.take_length] at this)
      go_wp2_with fail
      exact bodyPost_end (v := .tuple #[]) (by simp [results, Try.results43]) rfl ⟨rfl, HL2.out⟩

theorem sizeU_le : ∀ xs, sizeU xs ≤ sizeT xs
  | [] => Nat.le_refl _
  | x :: xs => by
    have h1 := sizeU_le xs
    have h2 := tlU_le x
    show 4 + tlU x + sizeU xs ≤ 4 + x.length + sizeT xs
    omega
theorem texts_any (w : World) (B g M b0 : Nat) (st : Option (List UInt8)) (xs : List (List UInt8)) (hB : B ≤ w.heap.size) (h : PkAt w B g M st) (hM : M ≤ 9223372036854775807) (hr : M ≤ 1000000000000 ∨ (st.getD []).length + sizeT xs ≤ 1000000000000)
    (hx : w.heap[b0]? = some (.cells (xs.map fun l => Value.string (strB l)).toArray 9 (0, 0))) (hn : xs.length ≤ 1000000000000) :
    Calls Try.prog 43 #[.pointer (some ⟨g, 0, none⟩), .slice (some ⟨b0, 0, none⟩) xs.length xs.length] w fun e w' => e = .returned (.tuple #[]) ∧ Laid w B g M (textsS M st xs) w' :=
  texts_anyU w B g M b0 st xs hB h hM (by have := sizeU_le xs; omega) hx hn

def truthS (M : Nat) (st : Option (List UInt8)) (t : Bool) : Option (List UInt8) := layS M st (encB t)
set_option maxHeartbeats 1000000 in
theorem truth_any (w : World) (B g M : Nat) (st : Option (List UInt8)) (t : Bool) (hB : B ≤ w.heap.size) (h : PkAt w B g M st) (hM : M ≤ 1000000000000) :
    Calls Try.prog 73 #[.pointer (some ⟨g, 0, none⟩), .bool t] w fun e w' => e = .returned (.tuple #[]) ∧ Laid w B g M (truthS M st t) w' := by
  have C1 := Lib.hid (show Calls Try.prog 72 #[.pointer (some ⟨g, 0, none⟩), .string ⟨#[1]⟩] w _ from lay_any w B g M st (encB true) hB h (by omega) (Or.inl hM))
  have C0 := Lib.hid (show Calls Try.prog 72 #[.pointer (some ⟨g, 0, none⟩), .string ⟨#[0]⟩] w _ from lay_any w B g M st (encB false) hB h (by omega) (Or.inl hM))
  clear h
  cases t with
  | true =>
    go_enter Try.func73, Try.ntmps73
    go_wp2_with fail
    refine C1.out.mono ?_
    rintro e w2 ⟨rfl, hl2⟩
    have HL := Lib.hid hl2
    clear hl2
    go_wp2_with fail
    exact bodyPost_end (v := .tuple #[]) (by simp [results, Try.results73]) rfl ⟨rfl, HL.out⟩
  | false =>
    go_enter Try.func73, Try.ntmps73
    go_wp2_with fail
    refine C0.out.mono ?_
    rintro e w2 ⟨rfl, hl2⟩
    have HL := Lib.hid hl2
    clear hl2
    go_wp2_with fail
    exact bodyPost_end (v := .tuple #[]) (by simp [results, Try.results73]) rfl ⟨rfl, HL.out⟩

theorem packer_new (w : World) (M : Nat) : PkAt (w.alloc (.cells #[.int .i64 M, .slice none 0 0, .bool false] 124)) w.heap.size w.heap.size M (some []) :=
  ⟨Nat.le_refl _, (fun b hb => by injection hb with hb; rw [← hb]; exact Nat.zero_le _), .slice none 0 0, by
    show (w.heap.push _)[w.heap.size]? = _
    simp, Own.nil _ _ _ _⟩
set_option maxHeartbeats 400000 in
theorem pcNew_any (w : World) (M : Nat) :
    Calls Try.prog 38 #[.int .i64 M] w fun e w' => e = .returned (.pointer (some ⟨w.heap.size, 0, none⟩)) ∧ PkAt w' w.heap.size w.heap.size M (some []) ∧ Below w.heap.size w w' := by
  have HP := Lib.hid (packer_new w M)
  go_enter Try.func38, Try.ntmps38
  go_wp2_with fail
  go_ret
  exact ⟨rfl, HP.out, (Below.refl _ _).alloc (Nat.le_refl _) _⟩

def errP (st : Option (List UInt8)) : Int := if st.isNone then 1 else 0
/-- what Packed answers. -/
def RetPk (B : Nat) (st : Option (List UInt8)) (w : World) (e : Ending) (w' : World) : Prop :=
  ∃ v, e = .returned (.tuple #[v, .int .i64 (errP st)]) ∧ Own w' B 5 .u8 v (nums (st.getD [])) ∧ Below B w w'
set_option maxHeartbeats 1000000 in
theorem packed_any (w : World) (B g M : Nat) (st : Option (List UInt8)) (h : PkAt w B g M st) :
    Calls Try.prog 50 #[.pointer (some ⟨g, 0, none⟩)] w (RetPk B st w) := by
  obtain ⟨v, h1, h2⟩ := h.at_
  obtain ⟨p, c, rfl, hc, hp0, hrow⟩ := own_row h2
  obtain ⟨K, hK⟩ : ∃ K, (nums (st.getD [])).length = K := ⟨_, rfl⟩
  rw [hK] at h1 h2
  have d1 := fun m => cell_at (w := w.drewN m) h1 1
  have d2 := fun m => cell_at (w := w.drewN m) h1 2
  have e1 := fun m => frozen_at (w := w.drewN m) h1 1
  have h3 := fun m => set_at (w := w.drewN m) h1 1 (.slice none 0 0)
  have e2 := fun m => frozen_at (h3 m) 2
  have c2 := fun m => cell_at (h3 m) 2
  have HO := Lib.hid (show ∀ m, Own (((w.drewN m).setCell ⟨g, 1, none⟩ (.slice none 0 0)).setCell ⟨g, 2, none⟩ (.bool false)) B 5 .u8 (.slice p K c) (nums (st.getD [])) from fun m => own_set (own_set (h2.drewN m) (PkAt.apart h1 h2)) (PkAt.apart h1 h2))
  have HB := Lib.hid (show ∀ m, Below B w (((w.drewN m).setCell ⟨g, 1, none⟩ (.slice none 0 0)).setCell ⟨g, 2, none⟩ (.bool false)) from fun m => ((below_drewN (Below.refl _ _) m).trans (below_set _ h.lo)).trans (below_set _ h.lo))
  clear h h1 h2 h3 hc hp0 hrow hK
  cases st with
  | none =>
    go_enter Try.func50, Try.ntmps50
    go_wp2_with fail
    go_quiet (fail)
    go_wp2_with fail
    go_ret2
    exact ⟨_, rfl, Own.nil _ _ _ _, HB.out _⟩
  | some b =>
    go_enter Try.func50, Try.ntmps50
    go_wp2_with fail
    go_quiet (fail)
    go_wp2_with fail
    go_ret2
    exact ⟨_, rfl, HO.out _, HB.out _⟩
end Go.Proofs.Ytfadpiipigkocaa
namespace Go.Proofs.Ytfadpiipigkocaa
open Go.RowKit

/-- an ask. -/
structure AskL where
  d : Int
  c : Int
  s : Int
  t : List UInt8
  v : List UInt8
  f : List UInt8
  u : List UInt8
  m : Int
def askCells (a : AskL) : Array Value := #[.int .i64 a.d, .int .i64 a.c, .int .i64 a.s, .string (strB a.t), .string (strB a.v), .string (strB a.f), .string (strB a.u), .int .i64 a.m]
def askV (a : AskL) : Value := .agg #[.int .i64 a.d, .int .i64 a.c, .int .i64 a.s, .string (strB a.t), .string (strB a.v), .string (strB a.f), .string (strB a.u), .int .i64 a.m]
def askS (a : AskL) : Option (List UInt8) := textsS 32768 (numsS 32768 (some []) [a.d, a.c, a.s, a.m]) [a.t, a.v, a.f, a.u]

/-- the cells of a block, in what grew out of its world. -/
theorem box_cells {w wr : World} {c : Array Value} {t : TypeId} (hb : Below (w.heap.size + 1) (w.alloc (.cells c t)) wr) (i : Nat) : wr.cell? ⟨w.heap.size, i, none⟩ = c[i]? := by
  rw [hb.cell (p := ⟨w.heap.size, i, none⟩) (by show w.heap.size < w.heap.size + 1; omega)]
  have : (w.alloc (.cells c t)).heap[w.heap.size]? = some (.cells c t (0, 0)) := by
    show (w.heap.push _)[w.heap.size]? = _
    simp
  exact cell_at this i

theorem RetPk.of {B B' : Nat} {st : Option (List UInt8)} {w w0 : World} {e : Ending} {w' : World} (h : RetPk B st w e w') (hB : B' ≤ B) (hb : Below B' w0 w) : RetPk B' st w0 e w' := by
  obtain ⟨v, h1, h2, h3⟩ := h
  refine ⟨v, h1, ?_, hb.trans (h3.mono hB)⟩
  obtain ⟨h4, h5 | ⟨g, cap, cur, e, hg, r⟩⟩ := h2
  · exact ⟨h4, Or.inl h5⟩
  · exact ⟨h4, Or.inr ⟨g, cap, cur, e, by omega, r⟩⟩

set_option maxHeartbeats 2000000 in
theorem ask_any (a : AskL) (w : World) : Calls Try.prog 41 #[askV a] w (RetPk w.heap.size (askS a) w) := by
  obtain ⟨d, c, s, t, v, f, u, m⟩ := a
  have C0 := Lib.hid (show ∀ w1, Calls Try.prog 38 #[.int .i64 32768] w1 _ from fun w1 => pcNew_any w1 32768)
  have HF := Lib.hid (show ∀ e w', RetPk w.heap.size (textsS 32768 (numsS 32768 (some []) [d, c, s, m]) [t, v, f, u]) w e w' → RetPk w.heap.size (askS ⟨d, c, s, t, v, f, u, m⟩) w e w' from fun _ _ h => h)
  generalize askS ⟨d, c, s, t, v, f, u, m⟩ = R at HF ⊢
  unfold askV
  go_enter Try.func41, Try.ntmps41
  go_wp2_with fail
  obtain ⟨W0, hW0⟩ : ∃ W0, w.alloc (.cells #[.int .i64 d, .int .i64 c, .int .i64 s, .string (strB t), .string (strB v), .string (strB f), .string (strB u), .int .i64 m] 23) = W0 := ⟨_, rfl⟩
  rw [hW0]
  have hz0 : W0.heap.size = w.heap.size + 1 := by rw [← hW0]; simp
  have HC := Lib.hid (show ∀ wr, Below (w.heap.size + 1) W0 wr → ∀ i, wr.cell? ⟨w.heap.size, i, none⟩ = _ from fun wr hb i => box_cells (hW0 ▸ hb) i)
  have HBW := Lib.hid (show Below w.heap.size w W0 by rw [← hW0]; exact (Below.refl _ _).alloc (Nat.le_refl _) _)
  clear hW0
  refine (C0.out W0).mono ?_
  rintro e w1 ⟨rfl, hp1, hb1⟩
  rw [hz0] at hp1 hb1 ⊢
  have c0 := HC.out w1 hb1 0
  have c1 := HC.out w1 hb1 1
  have c2 := HC.out w1 hb1 2
  have c7 := HC.out w1 hb1 7
  have HL1 := Lib.hid ((Laid.refl hp1).alloc (by have := hb1.size; omega) (.cells #[.int .i64 d, .int .i64 c, .int .i64 s, .int .i64 m] 3))
  have HB1 := Lib.hid hb1
  have CN := Lib.hid (numbers_any (w1.alloc (.cells #[.int .i64 d, .int .i64 c, .int .i64 s, .int .i64 m] 3)) (w.heap.size + 1) (w.heap.size + 1) 32768 w1.heap.size (some []) [d, c, s, m] (by have := HL1.out.bl.size; have := HB1.out.size; omega) HL1.out.pk (by omega) (Or.inl (by omega)) (by show (w1.heap.push _)[w1.heap.size]? = _; simp) (by simp) : Calls Try.prog 39 #[.pointer (some ⟨w.heap.size + 1, 0, none⟩), .slice (some ⟨w1.heap.size, 0, none⟩) 4 4] _ _)
  clear hp1 hb1
  go_wp2_with fail
  refine CN.out.mono ?_
  rintro e w2 ⟨rfl, hl2⟩
  have hl3 := HL1.out.trans hl2
  have hb2 := HB1.out.trans hl3.bl
  have c3 := HC.out w2 hb2 3
  have c4 := HC.out w2 hb2 4
  have c5 := HC.out w2 hb2 5
  have c6 := HC.out w2 hb2 6
  obtain ⟨S1, hS1⟩ : ∃ S1, numsS 32768 (some []) [d, c, s, m] = S1 := ⟨_, rfl⟩
  rw [hS1] at hl3
  have HL2 := Lib.hid ((Laid.refl hl3.pk).alloc (by have := hb2.size; omega) (.cells #[.string (strB t), .string (strB v), .string (strB f), .string (strB u)] 9))
  have HB2 := Lib.hid hb2
  have HS1 := Lib.hid hS1
  have CT := Lib.hid (texts_any (w2.alloc (.cells #[.string (strB t), .string (strB v), .string (strB f), .string (strB u)] 9)) (w.heap.size + 1) (w.heap.size + 1) 32768 w2.heap.size S1 [t, v, f, u] (by have := HL2.out.bl.size; have := HB2.out.size; omega) HL2.out.pk (by omega) (Or.inl (by omega)) (by show (w2.heap.push _)[w2.heap.size]? = _; simp) (by simp) : Calls Try.prog 43 #[.pointer (some ⟨w.heap.size + 1, 0, none⟩), .slice (some ⟨w2.heap.size, 0, none⟩) 4 4] _ _)
  clear hl2 hl3 hb2 hS1 c0 c1 c2 c7
  go_wp2_with fail
  refine CT.out.mono ?_
  rintro e w3 ⟨rfl, hl4⟩
  have HL4 := Lib.hid (HL2.out.trans hl4)
  have CP := Lib.hid (packed_any w3 (w.heap.size + 1) (w.heap.size + 1) 32768 _ HL4.out.pk)
  clear hl4 c3 c4 c5 c6
  go_wp2_with fail
  refine CP.out.mono ?_
  intro e w4 h4
  have HR := Lib.hid (HF.out _ _ (HS1.out ▸ h4.of (B' := w.heap.size) (w0 := w) (by omega) (HBW.out.trans ((HB2.out.trans HL4.out.bl).mono (by omega)))))
  obtain ⟨v4, he4, -, -⟩ := h4
  subst he4
  go_wp2_with fail
  go_ret2
  exact HR.out
end Go.Proofs.Ytfadpiipigkocaa
namespace Go.Proofs.Ytfadpiipigkocaa
open Go.RowKit

abbrev RecL := List UInt8 × List UInt8
/-- slice pointer p reads in w as the records ls. -/
def Recs (w : World) (p : Option Addr) (ls : List RecL) : Prop :=
  ls = [] ∨ ∃ b off, p = some ⟨b, off, none⟩ ∧ b < w.heap.size ∧ ∀ j, j < ls.length → w.cell? ⟨b, off + j * 2, none⟩ = some (.string (strB (ls.getD j ([], [])).1)) ∧ w.cell? ⟨b, off + j * 2 + 1, none⟩ = some (.string (strB (ls.getD j ([], [])).2))
theorem Recs.below {w w' : World} {p : Option Addr} {ls : List RecL} (h : Recs w p ls) (hb : Below w.heap.size w w') : Recs w' p ls := by
  rcases h with h | ⟨b, off, hp, hlt, hc⟩
  · exact Or.inl h
  · exact Or.inr ⟨b, off, hp, Nat.lt_of_lt_of_le hlt hb.size, fun j hj => ⟨by rw [hb.cell (p := ⟨b, off + j * 2, none⟩) hlt]; exact (hc j hj).1, by rw [hb.cell (p := ⟨b, off + j * 2 + 1, none⟩) hlt]; exact (hc j hj).2⟩⟩
theorem rec_cell {W wr : World} {p : Option Addr} {ls : List RecL} (h : Recs W p ls) (hb : Below W.heap.size W wr) {j : Nat} (hj : j < ls.length) : ∃ b o, p = some ⟨b, o, none⟩ ∧ b < W.heap.size ∧ wr.cell? ⟨b, o + j * 2, none⟩ = some (.string (strB (ls.getD j ([], [])).1)) ∧ wr.cell? ⟨b, o + j * 2 + 1, none⟩ = some (.string (strB (ls.getD j ([], [])).2)) := by
  rcases h with h | ⟨b, o, hp, h1, h2⟩
  · rw [h] at hj; simp at hj
  · exact ⟨b, o, hp, h1, by rw [hb.cell (p := ⟨b, o + j * 2, none⟩) h1]; exact (h2 j hj).1, by rw [hb.cell (p := ⟨b, o + j * 2 + 1, none⟩) h1]; exact (h2 j hj).2⟩

/-- a reply, but for where its records lie. -/
structure RepL where
  c : Int
  s : Int
  e : Int
  fd : Bool
  v : List UInt8
  ls : List RecL
  nx : List UInt8
  mr : Bool
def repV (r : RepL) (p : Option Addr) (k : Nat) : Value := .agg #[.int .i64 r.c, .int .i64 r.s, .int .i64 r.e, .bool r.fd, .string (strB r.v), .slice p r.ls.length k, .string (strB r.nx), .bool r.mr]
def recsS (st : Option (List UInt8)) (ls : List RecL) : Option (List UInt8) := ls.foldl (fun st r => textsS 32768 st [r.1, r.2]) st
def repS0 (r : RepL) : Option (List UInt8) := numsS 32768 (textsS 32768 (truthS 32768 (numsS 32768 (some []) [r.c, r.s, r.e]) r.fd) [r.v]) [(r.ls.length : Int)]
def repS (r : RepL) : Option (List UInt8) := truthS 32768 (textsS 32768 (recsS (repS0 r) r.ls) [r.nx]) r.mr
/-- the same, with room for M bytes. -/
def recsM (M : Nat) (st : Option (List UInt8)) (ls : List RecL) : Option (List UInt8) := ls.foldl (fun st r => textsS M st [r.1, r.2]) st
theorem recsM_snoc (M : Nat) (st : Option (List UInt8)) (xs : List RecL) (k : Nat) (h : k < xs.length) : recsM M st (xs.take (k + 1)) = textsS M (recsM M st (xs.take k)) [(xs.getD k ([], [])).1, (xs.getD k ([], [])).2] := by
  rw [List.take_succ_eq_append_getElem h]
  unfold recsM
  rw [List.foldl_append]
  simp [List.getD, h]
theorem recsS_snoc (st : Option (List UInt8)) (xs : List RecL) (k : Nat) (h : k < xs.length) : recsS st (xs.take (k + 1)) = textsS 32768 (recsS st (xs.take k)) [(xs.getD k ([], [])).1, (xs.getD k ([], [])).2] := by
  rw [List.take_succ_eq_append_getElem h]
  unfold recsS
  rw [List.foldl_append]
  simp [List.getD, h]

theorem new_block (w : World) (c : Array Value) (t : TypeId) : (w.alloc (.cells c t)).heap[w.heap.size]? = some (.cells c t (0, 0)) := by
  show (w.heap.push _)[w.heap.size]? = _
  simp
/-- numbers and texts in fresh blocks, as the walk calls them. -/
theorem nums1 (w : World) (B g M : Nat) (st : Option (List UInt8)) (x : Int) (hB : B ≤ w.heap.size) (h : PkAt w B g M st) (hM : M ≤ 1000000000000) :
    Calls Try.prog 39 #[.pointer (some ⟨g, 0, none⟩), .slice (some ⟨w.heap.size, 0, none⟩) 1 1] (w.alloc (.cells #[.int .i64 x] 3)) fun e w' => e = .returned (.tuple #[]) ∧ Laid w B g M (numsS M st [x]) w' :=
  (numbers_any (w.alloc (.cells #[.int .i64 x] 3)) B g M w.heap.size st [x] (by simp; omega) ((Laid.refl h).alloc hB _).pk (by omega) (Or.inl hM) (new_block _ _ _) (by simp)).mono fun e w' h' => ⟨h'.1, ((Laid.refl h).alloc hB _).trans h'.2⟩
theorem nums3 (w : World) (B g M : Nat) (st : Option (List UInt8)) (x y z : Int) (hB : B ≤ w.heap.size) (h : PkAt w B g M st) (hM : M ≤ 1000000000000) :
    Calls Try.prog 39 #[.pointer (some ⟨g, 0, none⟩), .slice (some ⟨w.heap.size, 0, none⟩) 3 3] (w.alloc (.cells #[.int .i64 x, .int .i64 y, .int .i64 z] 3)) fun e w' => e = .returned (.tuple #[]) ∧ Laid w B g M (numsS M st [x, y, z]) w' :=
  (numbers_any (w.alloc (.cells #[.int .i64 x, .int .i64 y, .int .i64 z] 3)) B g M w.heap.size st [x, y, z] (by simp; omega) ((Laid.refl h).alloc hB _).pk (by omega) (Or.inl hM) (new_block _ _ _) (by simp)).mono fun e w' h' => ⟨h'.1, ((Laid.refl h).alloc hB _).trans h'.2⟩
theorem texts1 (w : World) (B g M : Nat) (st : Option (List UInt8)) (x : List UInt8) (hB : B ≤ w.heap.size) (h : PkAt w B g M st) (hM : M ≤ 1000000000000) :
    Calls Try.prog 43 #[.pointer (some ⟨g, 0, none⟩), .slice (some ⟨w.heap.size, 0, none⟩) 1 1] (w.alloc (.cells #[.string (strB x)] 9)) fun e w' => e = .returned (.tuple #[]) ∧ Laid w B g M (textsS M st [x]) w' :=
  (texts_any (w.alloc (.cells #[.string (strB x)] 9)) B g M w.heap.size st [x] (by simp; omega) ((Laid.refl h).alloc hB _).pk (by omega) (Or.inl hM) (new_block _ _ _) (by simp)).mono fun e w' h' => ⟨h'.1, ((Laid.refl h).alloc hB _).trans h'.2⟩
theorem texts2 (w : World) (B g M : Nat) (st : Option (List UInt8)) (x y : List UInt8) (hB : B ≤ w.heap.size) (h : PkAt w B g M st) (hM : M ≤ 1000000000000) :
    Calls Try.prog 43 #[.pointer (some ⟨g, 0, none⟩), .slice (some ⟨w.heap.size, 0, none⟩) 2 2] (w.alloc (.cells #[.string (strB x), .string (strB y)] 9)) fun e w' => e = .returned (.tuple #[]) ∧ Laid w B g M (textsS M st [x, y]) w' :=
  (texts_any (w.alloc (.cells #[.string (strB x), .string (strB y)] 9)) B g M w.heap.size st [x, y] (by simp; omega) ((Laid.refl h).alloc hB _).pk (by omega) (Or.inl hM) (new_block _ _ _) (by simp)).mono fun e w' h' => ⟨h'.1, ((Laid.refl h).alloc hB _).trans h'.2⟩

end Go.Proofs.Ytfadpiipigkocaa
namespace Go.Proofs.Ytfadpiipigkocaa
open Go.RowKit

set_option maxHeartbeats 1000000 in
theorem record_any (w : World) (B g M : Nat) (st : Option (List UInt8)) (x y : List UInt8) (hB : B ≤ w.heap.size) (h : PkAt w B g M st) (hM : M ≤ 9223372036854775807) (hr : M ≤ 1000000000000 ∨ (st.getD []).length + sizeU [x, y] ≤ 1000000000000) :
    Calls Try.prog 45 #[.pointer (some ⟨g, 0, none⟩), .agg #[.string (strB x), .string (strB y)]] w fun e w' => e = .returned (.tuple #[]) ∧ Laid w B g M (textsS M st [x, y]) w' := by
  have HL1 := Lib.hid (((Laid.refl h).alloc hB (.cells #[.string (strB x), .string (strB y)] 47)).alloc hB (.cells #[.string (strB x), .string (strB y)] 9))
  have HC := Lib.hid (texts_anyU _ B g M (w.heap.size + 1) st [x, y] (by have := HL1.out.bl.size; omega) HL1.out.pk hM hr (by
    have := new_block (w.alloc (.cells #[.string (strB x), .string (strB y)] 47)) #[.string (strB x), .string (strB y)] 9
    rw [World.size_alloc] at this
    exact this) (by simp))
  clear h hr hM hB
  generalize strB x = xs at HL1 HC ⊢
  generalize strB y = ys at HL1 HC ⊢
  go_enter Try.func45, Try.ntmps45
  go_wp2_with fail
  refine HC.out.mono ?_
  rintro e w2 ⟨rfl, hl⟩
  have HL2 := Lib.hid (HL1.out.trans hl)
  clear hl
  go_wp2_with fail
  exact bodyPost_end (v := .tuple #[]) (by simp [results, Try.results45]) rfl ⟨rfl, HL2.out⟩

/-- Items at records. -/
def itemsS {α : Type} (M : Nat) (f : Option (List UInt8) → α → Option (List UInt8)) (st : Option (List UInt8)) (xs : List α) : Option (List UInt8) := xs.foldl f (numsS M st [(xs.length : Int)])
theorem foldl_snoc {α β : Type} (f : β → α → β) (s : β) (xs : List α) (k : Nat) (d : α) (h : k < xs.length) : (xs.take (k + 1)).foldl f s = f ((xs.take k).foldl f s) (xs.getD k d) := by
  rw [List.take_succ_eq_append_getElem h, List.foldl_append]
  simp [List.getD, h]

set_option maxHeartbeats 2000000 in
theorem itemsRec_any {g : FuncId} {lb : Array Value} (eg : ∀ args w, (callFunc g args).run Try.prog w = .ok (.enter g args) w) (f : Option (List UInt8) → RecL → Option (List UInt8))
    (w0 w : World) (B gp M : Nat) (st : Option (List UInt8)) (ls : List RecL) (p : Option Addr) (cap : Nat) (hp : Recs w0 p ls) (hb0 : Below w0.heap.size w0 w) (hB0 : w0.heap.size ≤ B) (hB : B ≤ w.heap.size) (hpk : PkAt w B gp M st) (hM : M ≤ 9223372036854775807)
    (hr : M ≤ 1000000000000 ∨ (st.getD []).length + 4 ≤ 1000000000000) (hn : ls.length ≤ 1048576)
    (hone : ∀ k, k < ls.length → ∀ w1, B ≤ w1.heap.size → Below B w w1 → PkAt w1 B gp M ((ls.take k).foldl f (numsS M st [(ls.length : Int)])) →
      Calls Try.prog g (#[.pointer (some ⟨gp, 0, none⟩), .agg #[.string (strB (ls.getD k ([], [])).1), .string (strB (ls.getD k ([], [])).2)]] ++ lb) w1 fun e w' => e = .returned (.tuple #[]) ∧ Laid w1 B gp M (f ((ls.take k).foldl f (numsS M st [(ls.length : Int)])) (ls.getD k ([], []))) w') :
    Calls Try.prog 44 #[.pointer (some ⟨gp, 0, none⟩), .slice p ls.length cap, .func (.func g) #[] lb] w fun e w' => e = .returned (.tuple #[]) ∧ Laid w B gp M (itemsS M f st ls) w' := by
  have hfn : ∀ w : World, (binOp .eql 95 (.func (.func g) #[] lb) .nilFunc).run Try.prog w = .ok (.bool false) w := fun _ => by kernel_rfl
  have HF := Lib.hid (show ∀ w', Laid w B gp M (ls.foldl f (numsS M st [(ls.length : Int)])) w' → Laid w B gp M (itemsS M f st ls) w' from fun _ h => h)
  generalize itemsS M f st ls = R at HF ⊢
  have hgt : decide ((1048576 : Int) < (ls.length : Int)) = false := by simp; omega
  have hnn : ls.length ≤ 1048576 := hn
  have HL1 := Lib.hid ((Laid.refl hpk).alloc hB (.cells #[.int .i64 (ls.length : Int)] 3))
  have CN := Lib.hid (numbers_any _ B gp M w.heap.size st [(ls.length : Int)] (by have := HL1.out.bl.size; omega) HL1.out.pk hM (by simpa using hr) (new_block w _ _) (by simp))
  obtain ⟨S0, hS0⟩ : ∃ S0, numsS M st [(ls.length : Int)] = S0 := ⟨_, rfl⟩
  rw [hS0] at HF CN hone
  have HP := Lib.hid hp
  have HB0 := Lib.hid hb0
  have HO := Lib.hid hone
  obtain ⟨n, hN⟩ : ∃ n, ls.length = n := ⟨_, rfl⟩
  rw [hN] at hgt hnn HL1 CN ⊢
  have HN := Lib.hid hN
  clear hp hb0 hone hN hS0 hpk hr hn
  go_enter Try.func44, Try.ntmps44
  go_wp2_with fail
  refine CN.out.mono ?_
  rintro e w1 ⟨rfl, hl1⟩
  have HL2 := Lib.hid (HL1.out.trans hl1)
  clear hl1
  go_wp2_with fail
  go_loopw [24] (fun i wr => ∃ k : Nat, k ≤ n ∧ i = .int .i64 k ∧ Hid (Laid w B gp M ((ls.take k).foldl f S0) wr)) (fun i _ => n - (RowKit.intOf i).toNat)
  case atStart => exact ⟨0, Nat.zero_le _, rfl, HL2⟩
  case round =>
    obtain ⟨k, hk, rfl, HLk⟩ := hrel
    by_cases hlt : k < n
    · have hltz : (k : Int) < (n : Int) := by omega
      obtain ⟨b, o, hpe, hbl, r1, r2⟩ := rec_cell HP.out (HB0.out.trans (HLk.out.bl.mono hB0)) (show k < ls.length by rw [HN.out]; exact hlt)
      subst hpe
      have HC := Lib.hid (HO.out k (by rw [HN.out]; exact hlt))
      have HS := Lib.hid (foldl_snoc f S0 ls k ([], []) (by rw [HN.out]; exact hlt))
      obtain ⟨x, hx⟩ : ∃ x, ls.getD k ([], []) = x := ⟨_, rfl⟩
      rw [hx] at r1 r2 HC HS
      obtain ⟨x1, x2⟩ := x
      simp only at r1 r2 HC
      clear hx hbl
      obtain ⟨s1, hs1⟩ : ∃ s, strB x1 = s := ⟨_, rfl⟩
      obtain ⟨s2, hs2⟩ : ∃ s, strB x2 = s := ⟨_, rfl⟩
      rw [hs1] at r1 HC
      rw [hs2] at r2 HC
      clear hs1 hs2
      have HLa := Lib.hid (HLk.out.alloc hB (.cells #[.string s1, .string s2] 47))
      have HC1 := Lib.hid (HC.out _ (Nat.le_trans hB HLa.out.bl.size) HLa.out.bl HLa.out.pk)
      clear HC
      go_wp2_with fail
      refine HC1.out.mono ?_
      rintro e w3 ⟨rfl, hl3⟩
      have HL3 := Lib.hid (HLa.out.trans hl3)
      rw [← HS.out] at HL3
      clear hl3
      go_wp2_with fail
      go_roundw
      case rel => exact ⟨k + 1, by omega, by go_num, HL3⟩
      case measure => simp [RowKit.intOf]; omega
    · obtain rfl : k = n := by omega
      have hltz : ¬ (k : Int) < (k : Int) := by omega
      have HL4 := Lib.hid (HF.out wr (by
        have := HLk.out
        rwa [← HN.out, List.take_length] at this))
      go_wp2_with fail
      exact bodyPost_end (v := .tuple #[]) (by simp [results, Try.results44]) rfl ⟨rfl, HL4.out⟩
end Go.Proofs.Ytfadpiipigkocaa
