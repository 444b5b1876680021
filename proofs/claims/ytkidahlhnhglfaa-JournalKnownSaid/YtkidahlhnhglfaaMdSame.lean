/-
  Layer medium: the law's 'same'; rows of bytes that a call lays, in a world that grows.
-/
import Derived.Test.YtkidahlhnhglfaaMdDo
import Derived.Test.YtkidahlhnhglfaaMdOps2
namespace Go.Proofs.Ytkidahlhnhglfaa
open Go.RowKit Go.Gz

/-- what 'string(v)' reads of a row of one's own. -/
theorem own_string {w w' : World} {B : Nat} {v : Value} {X : List UInt8} (h : Own w B 5 .u8 v (nums X)) (hb : Below w.heap.size w w') : ∃ q d, v = .slice q X.length d ∧ (convert 25 9 v).run Try.prog w' = .ok (.string ⟨X.toArray⟩) w' := by
  obtain ⟨q, d, rfl, _, _, hr⟩ := own_row h
  rw [nums_length]
  exact ⟨q, d, rfl, run_string w' X q d (hr.below hb)⟩

end Go.Proofs.Ytkidahlhnhglfaa
