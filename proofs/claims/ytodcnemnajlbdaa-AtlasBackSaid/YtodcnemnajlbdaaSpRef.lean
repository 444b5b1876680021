/-
  Layer span: the reference's Within and Meets.
-/
import Derived.Test.YtodcnemnajlbdaaSpMeet
namespace Go.Proofs.Ytodcnemnajlbdaa
open Go.RowKit Go.Gz

theorem leS_eq (a b : ByteArray) : (slt a b || a.toList == b.toList) = !slt b a := by
  cases h : slt a b with
  | true =>
    cases k : slt b a with
    | true => have := slt_trans h k; rw [slt_irrefl] at this; cases this
    | false => rfl
  | false =>
    cases k : slt b a with
    | true =>
      have : a.toList ≠ b.toList := fun e => by
        have : a = b := data_inj (by rw [← Lib.toList_data, ← Lib.toList_data]; exact e)
        subst this
        rw [slt_irrefl] at k; cases k
      simp [this]
    | false => obtain rfl := slt_total h k; simp

/-- the cells of two boxed spans, and a world behind them. -/
def Two (W : World) (b : Nat) (f t f' t' : ByteArray) : Prop :=
  W.cell? ⟨b, 0, none⟩ = some (.string f) ∧ W.cell? ⟨b, 1, none⟩ = some (.string t) ∧ W.cell? ⟨b + 1, 0, none⟩ = some (.string f') ∧ W.cell? ⟨b + 1, 1, none⟩ = some (.string t')
theorem Two.below {W w : World} {b : Nat} {f t f' t' : ByteArray} (h : Two W b f t f' t') (hb : Below W.heap.size W w) (hs : b + 1 < W.heap.size) : Two w b f t f' t' :=
  ⟨by rw [hb.cell (p := ⟨b, 0, none⟩) (show b < W.heap.size by omega)]; exact h.1, by rw [hb.cell (p := ⟨b, 1, none⟩) (show b < W.heap.size by omega)]; exact h.2.1,
   by rw [hb.cell (p := ⟨b + 1, 0, none⟩) hs]; exact h.2.2.1, by rw [hb.cell (p := ⟨b + 1, 1, none⟩) hs]; exact h.2.2.2⟩
theorem Two.new (w : World) (f t f' t' : ByteArray) : Two ((w.alloc (.cells #[.string f, .string t] 38)).alloc (.cells #[.string f', .string t'] 38)) w.heap.size f t f' t' :=
  ⟨by simp [go_sem], by simp [go_sem], by simp [go_sem], by simp [go_sem]⟩

end Go.Proofs.Ytodcnemnajlbdaa
