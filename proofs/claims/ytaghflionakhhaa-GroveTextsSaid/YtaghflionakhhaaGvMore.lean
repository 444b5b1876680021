/-
  Layer grove: what the instances share: the order in its block, whether a tree is one, two blocks changed.
-/
import Derived.Test.YtaghflionakhhaaGvSide
import Derived.Test.YtaghflionakhhaaGvRun
namespace Go.Proofs.Ytaghflionakhhaa
open Go.RowKit

/-- the order lies in block gb in all worlds of J. -/
def OrdIn (F : FuncId) (gb : Nat) {σ : Type} (J : σ → World → Prop) : Prop := ∀ s w, J s w → gb < w.heap.size ∧ w.cell? ⟨gb, 0, none⟩ = some (.func (.func F) #[] #[])
def isV {κ ν : Type} (t : GT κ ν) : Bool := match t with | .nil => false | .node _ _ _ _ => true
theorem Chg2.cell {g h : Nat} {w x : World} (c : Chg2 g h w x) {b o : Nat} (hb : b < w.heap.size) (h1 : b ≠ g) (h2 : b ≠ h) : x.cell? ⟨b, o, none⟩ = w.cell? ⟨b, o, none⟩ := World.cell?_of_block (w := w) (c.block b hb h1 h2)
end Go.Proofs.Ytaghflionakhhaa
