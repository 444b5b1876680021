/-
  Layer medium: slices.Clone of a row of bytes.
-/
import Derived.Test.YtjlkfoaccllflaaByCat
namespace Go.Proofs.Ytjlkfoaccllflaa
open Go.RowKit Go.Gz

theorem mixedMd : Try.prog.follows .mixedOrders = true := by kernel_rfl
end Go.Proofs.Ytjlkfoaccllflaa
