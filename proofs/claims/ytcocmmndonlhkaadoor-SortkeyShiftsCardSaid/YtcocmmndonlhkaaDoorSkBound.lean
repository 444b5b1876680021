/-
  What elements weigh at most, and so the weights of each level.
-/
import Derived.Test.YtcocmmndonlhkaaDoorWeBoth
import Derived.Test.YtcocmmndonlhkaaDoorSkMath
namespace Go.Gz
open Go.RowKit
/-- an element whose weights are numbers of two bytes. -/
def ElOk (x : EL) : Prop := 0 ≤ x.p ∧ x.p ≤ 65535 ∧ 0 ≤ x.s ∧ x.s ≤ 65535 ∧ 0 ≤ x.t ∧ x.t ≤ 65535
theorem impl_ok {r : Int} (h0 : 0 ≤ r) (h1 : r ≤ 1114111) : ∀ x ∈ impl r, ElOk x := by
  intro x hx
  simp only [impl, List.mem_cons, List.not_mem_nil, or_false] at hx
  rcases hx with rfl | rfl
  · refine ⟨?_, ?_, ?_, ?_, ?_, ?_⟩ <;> dsimp only <;> omega
  · refine ⟨?_, ?_, ?_, ?_, ?_, ?_⟩ <;> dsimp only <;> omega
section
variable {α : Type} {f : α → Int} {cls : Int → Int} {row : List Int → Option WR}
theorem lengthen_ok (hr : ∀ k x, row k = some x → ∀ y ∈ x.to, ElOk y) : ∀ (l : List α) (best : WR) (passed : Int), (∀ y ∈ best.to, ElOk y) → (∀ y ∈ (lengthenG f cls row best passed l).1.to, ElOk y) ∧ (∀ z ∈ (lengthenG f cls row best passed l).2, z ∈ l)
  | [], best, passed, h => ⟨by simpa [lengthenG] using h, by simp [lengthenG]⟩
  | r :: t, best, passed, h => by
    unfold lengthenG
    split
    · exact ⟨h, fun z hz => hz⟩
    · split
      · have ih := lengthen_ok hr t best passed h
        refine ⟨ih.1, fun z hz => ?_⟩
        rcases List.mem_cons.1 hz with rfl | hz
        · simp
        · exact List.mem_cons_of_mem _ (ih.2 z hz)
      · split
        · rename_i x hx
          have ih := lengthen_ok hr t x passed (hr _ x hx)
          exact ⟨ih.1, fun z hz => List.mem_cons_of_mem _ (ih.2 z hz)⟩
        · have ih := lengthen_ok hr t best (cls (f r)) h
          refine ⟨ih.1, fun z hz => ?_⟩
          rcases List.mem_cons.1 hz with rfl | hz
          · simp
          · exact List.mem_cons_of_mem _ (ih.2 z hz)
theorem weighF_ok (hr : ∀ k x, row k = some x → ∀ y ∈ x.to, ElOk y) : ∀ (n : Nat) (l : List α), (∀ z ∈ l, 0 ≤ f z ∧ f z ≤ 1114111) → ∀ y ∈ weighF f cls row n l, ElOk y
  | 0, _, _ => by simp [weighF]
  | _ + 1, [], _ => by simp [weighF]
  | n + 1, r :: t, hl => by
    unfold weighF
    split
    · intro y hy
      rcases List.mem_append.1 hy with hy | hy
      · exact impl_ok (hl r (by simp)).1 (hl r (by simp)).2 y hy
      · exact weighF_ok hr n t (fun z hz => hl z (by simp [hz])) y hy
    · rename_i k x hk
      have h1 := lengthen_ok (f := f) (cls := cls) hr ((r :: t).drop k) x 0 (hr _ x (longTo_some f row hk).2.2.2)
      intro y hy
      rcases List.mem_append.1 hy with hy | hy
      · exact h1.1 y hy
      · exact weighF_ok hr n _ (fun z hz => hl z (List.mem_of_mem_drop (h1.2 z hz))) y hy
end
theorem addW_ok {L : List (List Int)} {ws : List Int} (hL : ∀ l ∈ L, ∀ w ∈ l, 0 < w ∧ w ≤ 65535) (hw : ∀ w ∈ ws, w ≤ 65535) : ∀ l ∈ addW L ws, ∀ w ∈ l, 0 < w ∧ w ≤ 65535 := by
  intro l hl w hwl
  unfold addW at hl
  rw [List.mem_iff_getElem] at hl
  obtain ⟨i, hi, rfl⟩ := hl
  simp only [List.length_zipWith] at hi
  rw [List.getElem_zipWith] at hwl
  have h1 := hL L[i] (List.getElem_mem (by omega))
  split at hwl
  · rename_i hp
    rcases List.mem_append.1 hwl with h | h
    · exact h1 w h
    · rw [List.mem_singleton.1 h]; exact ⟨hp, hw _ (List.getElem_mem (by omega))⟩
  · exact h1 w hwl
theorem wOf_ok {sh : Bool} {top : Int} {x : EL} {b : Bool} (h : ElOk x) : ∀ w ∈ (wOf sh top x b).1, w ≤ 65535 := by
  obtain ⟨h1, h2, h3, h4, h5, h6⟩ := h
  intro w hw
  unfold wOf shiftE at hw
  split at hw
  · split at hw
    · simp at hw; omega
    · split at hw
      · simp at hw; omega
      · simp at hw
        rcases hw with rfl | rfl | rfl | rfl
        · omega
        · omega
        · omega
        · split <;> omega
  · simp at hw; omega
theorem foldl_ok (sh : Bool) (top : Int) : ∀ (l : List EL) (st : LvSt), (∀ x ∈ l, ElOk x) → (∀ z ∈ st.1, ∀ w ∈ z, 0 < w ∧ w ≤ 65535) → ∀ z ∈ (l.foldl (levStep sh top) st).1, ∀ w ∈ z, 0 < w ∧ w ≤ 65535
  | [], _, _, h => h
  | x :: l, st, hl, h => foldl_ok sh top l (levStep sh top st x) (fun y hy => hl y (by simp [hy])) (addW_ok h (wOf_ok (hl x (by simp))))
theorem levL_ok {sh : Bool} {top : Int} {l : List EL} (h : ∀ x ∈ l, ElOk x) : ∀ z ∈ levL sh top l, ∀ w ∈ z, 0 < w ∧ w ≤ 65535 :=
  foldl_ok sh top l _ h fun z hz w hw => by simp at hz; subst hz; simp at hw
end Go.Gz
namespace Go.Proofs.YtcocmmndonlhkaaDoor
open Go.RowKit Go.Gz Go.Sort
theorem outE_ok (T : TB) (s : List Int) : ∀ x ∈ outE T s, ElOk x := by
  unfold outE
  split
  · rename_i hm
    split
    · simp
    · rename_i hv
      have hv' : s.any mayNotB = false := by simpa using hv
      have hml := mayW_lore hm
      have hval := valid_normal hml hv'
      unfold elemL weighL weighG
      refine weighF_ok (fun k x hx y hy => ?_) _ _ fun z hz => ?_
      · have h1 := mayW_row hm x (row_some hx).1
        have h2 : elNotB y = false := by
          unfold mayRowB at h1
          simp only [Bool.and_eq_true, Bool.not_eq_true'] at h1
          have := List.any_eq_false.1 h1.2.1.2 y hy
          simpa using this
        unfold elNotB at h2
        have h3 := of_decide_eq_false h2
        unfold ElOk
        omega
      · have := List.any_eq_false.1 hval z hz
        exact valid_range (by simpa using this)
  · simp
end Go.Proofs.YtcocmmndonlhkaaDoor
