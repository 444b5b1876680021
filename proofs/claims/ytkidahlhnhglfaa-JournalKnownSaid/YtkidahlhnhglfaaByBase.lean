/-
  Rows of bytes of one's own: their pieces, in a world that grows.
-/
import Derived.Test.YtkidahlhnhglfaaSlBase
import Derived.Test.YtkidahlhnhglfaaRegMono
namespace Go.Proofs.Ytkidahlhnhglfaa
open Go.RowKit Go.Gz

theorem row_take {w : World} {p : Option Addr} {l : List UInt8} (h : Row w .u8 p (nums l)) (k : Nat) : Row w .u8 p (nums (l.take k)) := by
  rcases h with h | ⟨b, o, hp, hlt, hc⟩
  · refine Or.inl ?_
    rw [nums_take, h, List.take_nil]
  · refine Or.inr ⟨b, o, hp, hlt, fun j hj => ?_⟩
    rw [nums_length, List.length_take] at hj
    rw [hc j (by rw [nums_length]; omega), nums_getD _ _ (by omega), nums_getD _ _ (by rw [List.length_take]; omega)]
    simp [List.getD, show j < k by omega]
theorem own_mono {w : World} {B B' : Nat} {e : TypeId} {k : IntKind} {v : Value} {xs : List Int} (h : Own w B e k v xs) (hB : B' ≤ B) : Own w B' e k v xs := by
  obtain ⟨h1, h2⟩ := h
  refine ⟨h1, ?_⟩
  rcases h2 with h2 | ⟨g, cap, cur, e, hg, r⟩
  · exact Or.inl h2
  · exact Or.inr ⟨g, cap, cur, e, by omega, r⟩
def ownVP (B : Nat) (l : List UInt8) : VP := ⟨fun v w => Own w B 5 .u8 v (nums l), fun _ _ _ h hb => below_own h hb⟩

theorem own_empty8 (w : World) (B : Nat) (hB : B ≤ w.heap.size) : Own (w.alloc (.cells #[] 5)) B 5 .u8 (.slice (some ⟨w.heap.size, 0, none⟩) 0 0) [] :=
  World.ownsRow_made w #[] 0 hB (by unfold maxLen; omega) rfl
end Go.Proofs.Ytkidahlhnhglfaa
