/-
  Layer atlas: the program's functions answer as is asked.
-/
import Derived.Test.YtodcnemnajlbdaaAtSplit
import Derived.Test.YtodcnemnajlbdaaAtMerge
import Derived.Test.YtodcnemnajlbdaaAtMove
namespace Go.Proofs.Ytodcnemnajlbdaa
open Go.RowKit Go.Gz

theorem prog_a : ProgA := ⟨first_any, split_any, merge_any, move_any, may_any, owner_any⟩
end Go.Proofs.Ytodcnemnajlbdaa
