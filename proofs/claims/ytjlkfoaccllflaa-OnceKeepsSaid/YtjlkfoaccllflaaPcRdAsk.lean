/-
  Layer parcel: an ask is read.
-/
import Derived.Test.YtjlkfoaccllflaaPcSeq
namespace Go.Proofs.Ytjlkfoaccllflaa
open Go.RowKit

def askZ : AskL := ⟨0, 0, 0, [], [], [], [], 0⟩
/-- what ReadAsk says of the bytes. -/
def rdAskE (l : List UInt8) : Nat := if 32768 < l.length then 3 else errX (readL askC l)
def RetRA (w : World) (l : List UInt8) (e : Ending) (w' : World) : Prop :=
  ∃ a : AskL, e = .returned (.tuple #[askV a, .int .i64 (rdAskE l)]) ∧ (∀ x, l.length ≤ 32768 → readL askC l = .ok x → a = askT x) ∧ Below w.heap.size w w'

theorem chg_block {w w1 : World} {c : Array Value} {t : TypeId} (hb : Below (w.heap.size + 1) (w.alloc (.cells c t)) w1) : w1.heap[w.heap.size]? = some (.cells c t (0, 0)) := by
  rw [hb.block w.heap.size (by omega)]
  exact new_block _ _ _

end Go.Proofs.Ytjlkfoaccllflaa
