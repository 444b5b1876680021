/-
  Layer parcel: texts and truths laid; a packer made, and asked for its bytes.
-/
import Derived.Test.YtkidahlhnhglfaaPcNums
namespace Go.Proofs.Ytkidahlhnhglfaa
open Go.RowKit

def textsS (M : Nat) (st : Option (List UInt8)) (xs : List (List UInt8)) : Option (List UInt8) := xs.foldl (textS M) st
theorem textsS_snoc (M : Nat) (st : Option (List UInt8)) (xs : List (List UInt8)) (k : Nat) (h : k < xs.length) : textsS M st (xs.take (k + 1)) = textS M (textsS M st (xs.take k)) (xs.getD k []) := by
  rw [List.take_succ_eq_append_getElem h]
  unfold textsS
  rw [List.foldl_append]
  simp [List.getD, h]
/-- how many bytes of a text are laid at most: of one that is too long none. -/
def tlU (l : List UInt8) : Nat := if l.length < 268435456 then l.length else 0
theorem tlU_le (l : List UInt8) : tlU l ≤ l.length := by unfold tlU; split <;> omega
theorem tlU_lt (l : List UInt8) : tlU l < 268435456 := by unfold tlU; split <;> omega
theorem numS_big {M : Nat} {st : Option (List UInt8)} {l : List UInt8} (h : ¬ l.length < 268435456) : numS M st (l.length : Int) = none := if_neg (by omega)
def sizeU (xs : List (List UInt8)) : Nat := xs.foldr (fun l n => 4 + tlU l + n) 0
theorem textS_lenU (M : Nat) (st : Option (List UInt8)) (l : List UInt8) : ((textS M st l).getD []).length ≤ (st.getD []).length + 4 + tlU l := by
  by_cases h : l.length < 268435456
  · have h1 := numS_len M st l.length
    have h2 := layS_len M (numS M st l.length) l
    rw [show tlU l = l.length from if_pos h]
    unfold textS; omega
  · have : textS M st l = none := by unfold textS; rw [numS_big h]; rfl
    rw [this]; exact Nat.zero_le _
theorem textsS_lenU (M : Nat) : ∀ (xs : List (List UInt8)) (st : Option (List UInt8)), ((textsS M st xs).getD []).length ≤ (st.getD []).length + sizeU xs
  | [], st => by simp [textsS, sizeU]
  | x :: xs, st => by
    have h1 := textS_lenU M st x
    have h2 := textsS_lenU M xs (textS M st x)
    show ((textsS M (textS M st x) xs).getD []).length ≤ _
    show _ ≤ _ + (4 + tlU x + sizeU xs)
    omega
theorem sizeU_take : ∀ (xs : List (List UInt8)) (k : Nat), k < xs.length → sizeU (xs.take k) + (4 + tlU (xs.getD k [])) ≤ sizeU xs
  | [], k, h => by simp at h
  | x :: xs, 0, _ => by
    show 0 + (4 + tlU x) ≤ 4 + tlU x + sizeU xs
    omega
  | x :: xs, k + 1, h => by
    have := sizeU_take xs k (by simpa using h)
    show 4 + tlU x + sizeU (xs.take k) + (4 + tlU (xs.getD k [])) ≤ 4 + tlU x + sizeU xs
    omega
def sizeT (xs : List (List UInt8)) : Nat := xs.foldr (fun l n => 4 + l.length + n) 0
theorem textS_len (M : Nat) (st : Option (List UInt8)) (l : List UInt8) : ((textS M st l).getD []).length ≤ (st.getD []).length + 4 + l.length := by
  have h1 := numS_len M st l.length
  have h2 := layS_len M (numS M st l.length) l
  unfold textS; omega
theorem textsS_len (M : Nat) : ∀ (xs : List (List UInt8)) (st : Option (List UInt8)), ((textsS M st xs).getD []).length ≤ (st.getD []).length + sizeT xs
  | [], st => by simp [textsS, sizeT]
  | x :: xs, st => by
    have h1 := textS_len M st x
    have h2 := textsS_len M xs (textS M st x)
    show ((textsS M (textS M st x) xs).getD []).length ≤ _
    show _ ≤ _ + (4 + x.length + sizeT xs)
    omega
theorem sizeT_take : ∀ (xs : List (List UInt8)) (k : Nat), k < xs.length → sizeT (xs.take k) + (4 + (xs.getD k []).length) ≤ sizeT xs
  | [], k, h => by simp at h
  | x :: xs, 0, _ => by
    show 0 + (4 + x.length) ≤ 4 + x.length + sizeT xs
    omega
  | x :: xs, k + 1, h => by
    have := sizeT_take xs k (by simpa using h)
    show 4 + x.length + sizeT (xs.take k) + (4 + (xs.getD k []).length) ≤ 4 + x.length + sizeT xs
    omega
theorem texts_at (xs : List (List UInt8)) (k : Nat) (h : k < xs.length) : ((xs.map fun l => Value.string (strB l)).toArray)[k]? = some (.string (strB (xs.getD k []))) := by
  simp [List.getD, h]

set_option maxHeartbeats 2000000 in
theorem texts_anyU (w : World) (B g M b0 : Nat) (st : Option (List UInt8)) (xs : List (List UInt8)) (hB : B ≤ w.heap.size) (h : PkAt w B g M st) (hM : M ≤ 9223372036854775807) (hr : M ≤ 1000000000000 ∨ (st.getD []).length + sizeU xs ≤ 1000000000000)
    (hx : w.heap[b0]? = some (.cells (xs.map fun l => Value.string (strB l)).toArray 9 (0, 0))) (hn : xs.length ≤ 1000000000000) :
    Calls Try.prog 32 #[.pointer (some ⟨g, 0, none⟩), .slice (some ⟨b0, 0, none⟩) xs.length xs.length] w fun e w' => e = .returned (.tuple #[]) ∧ Laid w B g M (textsS M st xs) w' := by
  have HH := Lib.hid h
  have HX := Lib.hid hx
  have CL := Lib.hid (fun w1 s l h1 h2 h3 => lay_anyU w1 B g M s l h1 h2 hM h3)
  have CN := Lib.hid (fun w1 b1 s x h1 h2 h3 h4 => numbers_any w1 B g M b1 s [x] h1 h2 hM h3 h4 (by simp))
  obtain ⟨n, hN⟩ : ∃ n, xs.length = n := ⟨_, rfl⟩
  rw [hN] at hn ⊢
  have HN := Lib.hid hN
  have HR := Lib.hid hr
  clear h hx hr hN hM
  go_enter Try.func32, Try.ntmps32
  go_wp2_with fail
  go_loopw [8] (fun i wr => ∃ k : Nat, k ≤ n ∧ i = .int .i64 k ∧ Hid (Laid w B g M (textsS M st (xs.take k)) wr)) (fun i _ => n - (intOf i).toNat)
  case atStart => exact ⟨0, Nat.zero_le _, rfl, Lib.hid (Laid.refl HH.out)⟩
  case round =>
    obtain ⟨k, hk, rfl, HL⟩ := hrel
    by_cases hlt : k < n
    · have hltz : (k : Int) < (n : Int) := by omega
      have hcell := (cell_at (HL.out.fr.keep b0 _ _ _ HX.out string_packer.1 string_packer.2) k).trans (texts_at xs k (by rw [HN.out]; exact hlt))
      obtain ⟨x, hx⟩ : ∃ x, xs.getD k [] = x := ⟨_, rfl⟩
      rw [hx] at hcell
      have hlen := textsS_lenU M (xs.take k) st
      have hlen2 := sizeU_take xs k (by rw [HN.out]; exact hlt)
      rw [hx] at hlen2
      have hsz := strB_size x
      have HK := Lib.hid (show M ≤ 1000000000000 ∨ ((textsS M st (xs.take k)).getD []).length + 4 + tlU x ≤ 1000000000000 by
        have := HR.out
        omega)
      have HL1 := Lib.hid (HL.out.alloc hB (.cells #[.int .i64 ((strB x).size : Int)] 3))
      have HC := Lib.hid (CN.out (wr.alloc (.cells #[.int .i64 ((strB x).size : Int)] 3)) wr.heap.size (textsS M st (xs.take k)) ((strB x).size : Int) (Nat.le_trans hB HL1.out.bl.size) HL1.out.pk (by have := HK.out; simp only [List.length_singleton]; omega) (by show (wr.heap.push _)[wr.heap.size]? = _; simp))
      have HS := Lib.hid (show textsS M st (xs.take (k + 1)) = layS M (numsS M (textsS M st (xs.take k)) [((strB x).size : Int)]) x by
        rw [textsS_snoc M st xs k (by rw [HN.out]; exact hlt), hx, hsz]; rfl)
      have HSZ := Lib.hid hsz
      clear hlen hlen2 hsz hx
      go_wp2_with fail
      refine HC.out.mono ?_
      rintro e w2 ⟨rfl, hl2⟩
      have HL2 := Lib.hid (HL1.out.trans hl2)
      have HC2 := Lib.hid (CL.out w2 _ x (Nat.le_trans hB HL2.out.bl.size) HL2.out.pk (by
        by_cases hx28 : x.length < 268435456
        · have h1 := numsS_len M [((strB x).size : Int)] (textsS M st (xs.take k))
          rw [List.length_singleton] at h1
          have h2 : tlU x = x.length := if_pos hx28
          have := HK.out; omega
        · exact Or.inl (by rw [HSZ.out]; exact numS_big hx28)))
      clear hl2
      go_wp2_with fail
      refine HC2.out.mono ?_
      rintro e w3 ⟨rfl, hl3⟩
      have HL3 := Lib.hid (show Laid w B g M (textsS M st (xs.take (k + 1))) w3 from HS.out ▸ HL2.out.trans hl3)
      clear hl3
      go_wp2_with fail
      go_roundw
      case rel => exact ⟨k + 1, by omega, by go_num, HL3⟩
      case measure => simp [intOf]; omega
    · obtain rfl : k = n := by omega
      have hltz : ¬ (k : Int) < (k : Int) := by omega
      have HL2 := Lib.hid (show Laid w B g M (textsS M st xs) wr by
        have := HL.out
        rwa [← HN.out, List.take_length] at this)
      go_wp2_with fail
      exact bodyPost_end (v := .tuple #[]) (by simp [results, Try.results32]) rfl ⟨rfl, HL2.out⟩

theorem sizeU_le : ∀ xs, sizeU xs ≤ sizeT xs
  | [] => Nat.le_refl _
  | x :: xs => by
    have h1 := sizeU_le xs
    have h2 := tlU_le x
    show 4 + tlU x + sizeU xs ≤ 4 + x.length + sizeT xs
    omega
theorem texts_any (w : World) (B g M b0 : Nat) (st : Option (List UInt8)) (xs : List (List UInt8)) (hB : B ≤ w.heap.size) (h : PkAt w B g M st) (hM : M ≤ 9223372036854775807) (hr : M ≤ 1000000000000 ∨ (st.getD []).length + sizeT xs ≤ 1000000000000)
    (hx : w.heap[b0]? = some (.cells (xs.map fun l => Value.string (strB l)).toArray 9 (0, 0))) (hn : xs.length ≤ 1000000000000) :
    Calls Try.prog 32 #[.pointer (some ⟨g, 0, none⟩), .slice (some ⟨b0, 0, none⟩) xs.length xs.length] w fun e w' => e = .returned (.tuple #[]) ∧ Laid w B g M (textsS M st xs) w' :=
  texts_anyU w B g M b0 st xs hB h hM (by have := sizeU_le xs; omega) hx hn

def truthS (M : Nat) (st : Option (List UInt8)) (t : Bool) : Option (List UInt8) := layS M st (encB t)
set_option maxHeartbeats 1000000 in
theorem truth_any (w : World) (B g M : Nat) (st : Option (List UInt8)) (t : Bool) (hB : B ≤ w.heap.size) (h : PkAt w B g M st) (hM : M ≤ 1000000000000) :
    Calls Try.prog 41 #[.pointer (some ⟨g, 0, none⟩), .bool t] w fun e w' => e = .returned (.tuple #[]) ∧ Laid w B g M (truthS M st t) w' := by
  have C1 := Lib.hid (show Calls Try.prog 60 #[.pointer (some ⟨g, 0, none⟩), .string ⟨#[1]⟩] w _ from lay_any w B g M st (encB true) hB h (by omega) (Or.inl hM))
  have C0 := Lib.hid (show Calls Try.prog 60 #[.pointer (some ⟨g, 0, none⟩), .string ⟨#[0]⟩] w _ from lay_any w B g M st (encB false) hB h (by omega) (Or.inl hM))
  clear h
  cases t with
  | true =>
    go_enter Try.func41, Try.ntmps41
    go_wp2_with fail
    refine C1.out.mono ?_
    rintro e w2 ⟨rfl, hl2⟩
    have HL := Lib.hid hl2
    clear hl2
    go_wp2_with fail
    exact bodyPost_end (v := .tuple #[]) (by simp [results, Try.results41]) rfl ⟨rfl, HL.out⟩
  | false =>
    go_enter Try.func41, Try.ntmps41
    go_wp2_with fail
    refine C0.out.mono ?_
    rintro e w2 ⟨rfl, hl2⟩
    have HL := Lib.hid hl2
    clear hl2
    go_wp2_with fail
    exact bodyPost_end (v := .tuple #[]) (by simp [results, Try.results41]) rfl ⟨rfl, HL.out⟩

theorem packer_new (w : World) (M : Nat) : PkAt (w.alloc (.cells #[.int .i64 M, .slice none 0 0, .bool false] 107)) w.heap.size w.heap.size M (some []) :=
  ⟨Nat.le_refl _, (fun b hb => by injection hb with hb; rw [← hb]; exact Nat.zero_le _), .slice none 0 0, by
    show (w.heap.push _)[w.heap.size]? = _
    simp, Own.nil _ _ _ _⟩
set_option maxHeartbeats 400000 in
theorem pcNew_any (w : World) (M : Nat) :
    Calls Try.prog 29 #[.int .i64 M] w fun e w' => e = .returned (.pointer (some ⟨w.heap.size, 0, none⟩)) ∧ PkAt w' w.heap.size w.heap.size M (some []) ∧ Below w.heap.size w w' := by
  have HP := Lib.hid (packer_new w M)
  go_enter Try.func29, Try.ntmps29
  go_wp2_with fail
  go_ret
  exact ⟨rfl, HP.out, (Below.refl _ _).alloc (Nat.le_refl _) _⟩

def errP (st : Option (List UInt8)) : Int := if st.isNone then 1 else 0
/-- what Packed answers. -/
def RetPk (B : Nat) (st : Option (List UInt8)) (w : World) (e : Ending) (w' : World) : Prop :=
  ∃ v, e = .returned (.tuple #[v, .int .i64 (errP st)]) ∧ Own w' B 5 .u8 v (nums (st.getD [])) ∧ Below B w w'
set_option maxHeartbeats 1000000 in
theorem packed_any (w : World) (B g M : Nat) (st : Option (List UInt8)) (h : PkAt w B g M st) :
    Calls Try.prog 33 #[.pointer (some ⟨g, 0, none⟩)] w (RetPk B st w) := by
  obtain ⟨v, h1, h2⟩ := h.at_
  obtain ⟨p, c, rfl, hc, hp0, hrow⟩ := own_row h2
  obtain ⟨K, hK⟩ : ∃ K, (nums (st.getD [])).length = K := ⟨_, rfl⟩
  rw [hK] at h1 h2
  have d1 := fun m => cell_at (w := w.drewN m) h1 1
  have d2 := fun m => cell_at (w := w.drewN m) h1 2
  have e1 := fun m => frozen_at (w := w.drewN m) h1 1
  have h3 := fun m => set_at (w := w.drewN m) h1 1 (.slice none 0 0)
  have e2 := fun m => frozen_at (h3 m) 2
  have c2 := fun m => cell_at (h3 m) 2
  have HO := Lib.hid (show ∀ m, Own (((w.drewN m).setCell ⟨g, 1, none⟩ (.slice none 0 0)).setCell ⟨g, 2, none⟩ (.bool false)) B 5 .u8 (.slice p K c) (nums (st.getD [])) from fun m => own_set (own_set (h2.drewN m) (PkAt.apart h1 h2)) (PkAt.apart h1 h2))
  have HB := Lib.hid (show ∀ m, Below B w (((w.drewN m).setCell ⟨g, 1, none⟩ (.slice none 0 0)).setCell ⟨g, 2, none⟩ (.bool false)) from fun m => ((below_drewN (Below.refl _ _) m).trans (below_set _ h.lo)).trans (below_set _ h.lo))
  clear h h1 h2 h3 hc hp0 hrow hK
  cases st with
  | none =>
    go_enter Try.func33, Try.ntmps33
    go_wp2_with fail
    go_quiet (fail)
    go_wp2_with fail
    go_ret2
    exact ⟨_, rfl, Own.nil _ _ _ _, HB.out _⟩
  | some b =>
    go_enter Try.func33, Try.ntmps33
    go_wp2_with fail
    go_quiet (fail)
    go_wp2_with fail
    go_ret2
    exact ⟨_, rfl, HO.out _, HB.out _⟩
end Go.Proofs.Ytkidahlhnhglfaa
