/-
  Layer sortkey: the weights of each level: four rows of numbers of the call's own.
-/
import Derived.Test.YtcocmmndonlhkaaDoorSkFirm
import Derived.Maps.AppendAt
import Derived.Deep.AppendLies
import Derived.OneCell
namespace Go.Proofs.YtcocmmndonlhkaaDoor
open Go.RowKit Go.Gz Go.Sort

theorem info_int4 : (Tryd.prog.info? 3).map (fun i => (i.zero, i.size, i.bytes)) = some (some (.int .i64 0), 1, 8) := by kernel_rfl

/-- block g holds four rows of numbers, each in a block of its own behind g. -/
structure Rows4 (w : World) (g : Nat) (vs : Nat → Value) (L : List (List Int)) : Prop where
  len : L.length = 4
  lt : g < w.heap.size
  cell : ∀ i, i < 4 → w.cell? ⟨g, i, none⟩ = some (vs i)
  froz : ∀ i, i < 4 → w.frozen? ⟨g, i, none⟩ = false
  own : ∀ i, i < 4 → Own w (g + 1) 3 .i64 (vs i) (L.getD i [])
  apart : ∀ i j, i < 4 → j < 4 → i ≠ j → ∀ a, (vs i).ownBlock = some a → (vs j).ownBlock ≠ some a

theorem Rows4.start (w : World) (g : Nat) (t : TypeId) (h : w.heap[g]? = some (.cells #[.slice none 0 0, .slice none 0 0, .slice none 0 0, .slice none 0 0] t (0, 0))) : Rows4 w g (fun _ => .slice none 0 0) [[], [], [], []] := by
  refine ⟨rfl, (Array.getElem?_eq_some_iff.1 h).1, fun i hi => ?_, fun i hi => ?_, fun i hi => ?_, fun i j _ _ _ a ha => by cases ha⟩
  · match i, hi with
    | 0, _ => simp [World.cell?, h]
    | 1, _ => simp [World.cell?, h]
    | 2, _ => simp [World.cell?, h]
    | 3, _ => simp [World.cell?, h]
  · simp [World.frozen?, h]
  · match i, hi with
    | 0, _ => exact Own.nil _ _ _ _
    | 1, _ => exact Own.nil _ _ _ _
    | 2, _ => exact Own.nil _ _ _ _
    | 3, _ => exact Own.nil _ _ _ _
theorem ownI_below {w w' : World} {B : Nat} {e : TypeId} {k : IntKind} {v : Value} {xs : List Int} (h : Own w B e k v xs) (hb : Below w.heap.size w w') : Own w' B e k v xs := by
  obtain ⟨h1, h2 | ⟨g, cap, cur, hv, hg, hh, hr⟩⟩ := h
  · exact ⟨h1, Or.inl h2⟩
  · exact ⟨h1, Or.inr ⟨g, cap, cur, hv, hg, (hb.block g (Array.getElem?_eq_some_iff.1 hh).1).trans hh, hr⟩⟩
theorem Rows4.below {w w' : World} {g : Nat} {vs : Nat → Value} {L : List (List Int)} (h : Rows4 w g vs L) (hb : Below w.heap.size w w') : Rows4 w' g vs L :=
  ⟨h.len, Nat.lt_of_lt_of_le h.lt hb.size, fun i hi => by rw [hb.cell (p := ⟨g, i, none⟩) h.lt]; exact h.cell i hi, fun i hi => by rw [hb.frozen (p := ⟨g, i, none⟩) h.lt]; exact h.froz i hi, fun i hi => ownI_below (h.own i hi) hb, h.apart⟩
theorem Rows4.far {w : World} {g b : Nat} {vs : Nat → Value} {L : List (List Int)} (h : Rows4 w g vs L) (hb : b ≠ g) (ho : ∀ i, i < 4 → (vs i).ownBlock ≠ some b) (o : Nat) (x : Value) : Rows4 (w.setCell ⟨b, o, none⟩ x) g vs L :=
  ⟨h.len, by simpa using h.lt, fun i hi => by rw [World.cell?_setCell_other _ _ _ _ (fun e => by injection e with e1 _ _; omega)]; exact h.cell i hi, fun i hi => by simpa using h.froz i hi, fun i hi => ownsRow_setCell_other (h.own i hi) (ho i hi) _, h.apart⟩
theorem Rows4.push {w w' : World} {g : Nat} {vs : Nat → Value} {L : List (List Int)} (h : Rows4 w g vs L) {i : Nat} (hi : i < 4) {ys : List Int} {v' : Value} (hown : Own w' (g + 1) 3 .i64 v' ys) (hgr : w.grownBy w' (vs i).ownBlock)
    (hat : v'.ownBlock = (vs i).ownBlock ∨ v'.ownBlock = some w.heap.size) : Rows4 (w'.setCell ⟨g, i, none⟩ v') g (fun j => if j = i then v' else vs j) (L.set i ys) := by
  have hne : ∀ j, j < 4 → some g ≠ (vs j).ownBlock := fun j hj e => by
    have := (World.ownsRow.lt (h.own j hj) g e.symm).1
    omega
  have hlt : ∀ j, j < 4 → ∀ a, (vs j).ownBlock = some a → a < w.heap.size := fun j hj a ha => (World.ownsRow.lt (h.own j hj) a ha).2
  have hc : ∀ j, j < 4 → w'.cell? ⟨g, j, none⟩ = some (vs j) := fun j hj => by
    rw [hgr.cell_far _ h.lt (hne i hi)]; exact h.cell j hj
  have hf : ∀ j, j < 4 → w'.frozen? ⟨g, j, none⟩ = false := fun j hj => by
    rw [hgr.frozen_far _ h.lt (hne i hi)]; exact h.froz j hj
  have hg' : g < w'.heap.size := Nat.lt_of_lt_of_le h.lt hgr.size
  refine ⟨by rw [List.length_set]; exact h.len, by simpa using hg', fun j hj => ?_, fun j hj => ?_, fun j hj => ?_, fun a b ha hb hab c hac hbc => ?_⟩
  · by_cases e : j = i
    · subst e
      simp only [if_true]
      exact World.cell?_setCell_same _ _ _ (hc j hj)
    · simp only [e, if_false]
      rw [World.cell?_setCell_other _ _ _ _ (fun e2 => by injection e2 with _ e2 _; omega)]
      exact hc j hj
  · simp; exact hf j hj
  · by_cases e : j = i
    · subst e
      simp only [if_true]
      have : (L.set j ys).getD j [] = ys := by simp [List.getD, show j < L.length by rw [h.len]; exact hj]
      rw [this]
      exact ownsRow_setCell_below hown (by simp) _
    · simp only [e, if_false]
      have : (L.set i ys).getD j [] = L.getD j [] := by simp [List.getD, show ¬ i = j from fun x => e x.symm]
      rw [this]
      refine ownsRow_setCell_below (World.ownsRow.kept (h.own j hj) hgr ?_) (by simp) _
      cases hb : (vs j).ownBlock with
      | none => exact Or.inl rfl
      | some a => exact Or.inr (fun e2 => h.apart j i hj hi e a hb e2.symm)
  · by_cases e1 : a = i
    · subst e1
      have e2 : ¬ b = a := fun x => hab x.symm
      simp only [if_true] at hac
      simp only [e2, if_false] at hbc
      rcases hat with hat | hat
      · rw [hat] at hac; exact h.apart a b ha hb hab c hac hbc
      · rw [hat] at hac; injection hac with hac
        have := hlt b hb c hbc; omega
    · by_cases e2 : b = i
      · subst e2
        simp only [e1, if_false] at hac
        simp only [if_true] at hbc
        rcases hat with hat | hat
        · rw [hat] at hbc; exact h.apart a b ha hb hab c hac hbc
        · rw [hat] at hbc; injection hbc with hbc
          have := hlt a ha c hac; omega
      · simp only [e1, if_false] at hac
        simp only [e2, if_false] at hbc
        exact h.apart a b ha hb hab c hac hbc
end Go.Proofs.YtcocmmndonlhkaaDoor
