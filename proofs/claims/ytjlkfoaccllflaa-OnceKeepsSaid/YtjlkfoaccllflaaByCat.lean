/-
  slices.Grow of nothing, slices.Concat of two rows of bytes.
-/
import Derived.Test.YtjlkfoaccllflaaByBase
import Derived.Lib.AppendZerosOnto
import Derived.Lib.Walk
namespace Go.Proofs.Ytjlkfoaccllflaa
open Go.RowKit Go.Gz

def RetOwn (w : World) (l : List UInt8) (e : Ending) (w' : World) : Prop := ∃ v, e = .returned v ∧ Own w' w.heap.size 5 .u8 v (nums l) ∧ Below w.heap.size w w'
def CcR (A B : List UInt8) (k : Nat) (l : List UInt8) : Prop := (k = 0 ∧ l = []) ∨ (k = 1 ∧ l = A) ∨ (k = 2 ∧ l = A ++ B)

end Go.Proofs.Ytjlkfoaccllflaa
