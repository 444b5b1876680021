/-
  No cell of these rows narrows 'for every input' (looked for: loops, veiled, ifaces, maps, wideKeys, modest, calm, conditions, laid).
  DERIVED. THE GIVEN ROWS OF THIS SEAT. 5 by the template 'for every input the law returns true; each argument reads behind the call as it read before'; 0 by the template 'total and deterministic' (their statements: YtohomnfededglaaTotals.lean).
  GIVEN WITH THE SEED: the statements are not yours to turn. If you find one false, say at which input.
  Laid BY PROGRAM, IN A SANDBOX (cutbox-rows.mjs): the forced cells as the released guide's own fill.sh prints them over the translation efb1da65a9291d73… (all of the seat's roots in one cut). By AI agents, Wed Nov 11 2026. No macro, syntax, notation, axiom, sorry.
-/
import Derived.Test.YtohomnfededglaaChecked
import GoSem.Claim
import GoSem.ClaimJoined
import GoSem.ClaimMapViews
import Derived.JoinedTies
import Derived.KernelRfl
namespace Go.Proofs.Ytohomnfededglaa
/- THE CELL 'sum', in the pinned program and in every row, IS THE sha256 OF THE DUMP (.gsa) THAT YtohomnfededglaaProg.lean LOADS. Nothing in Lean hashes anything: it is a label: what it is worth is what the hold of that sum in a sandbox is worth. -/
noncomputable def Try.pinned : Pinned := { name := "ytohomnfededglaa", sum := "efb1da65a9291d73f24f47ad808ffdfa62449396fdfb55574de7d7ebcf256384", checked := Try.checked }
namespace Rows
def none {H : Type} : Left H := { results := [], args := [] }

/-- 'gazetteerlaw13.LeaseReckons': WHATEVER THE INPUT: true; the input reads as it did. -/
def leaseReckonsSpec : ChangeSpec := { name := "leaseReckons", fn := fun _ => fun
  | [d1, d2, d3] => { results := [.lit (.bool true)], args := [d1, d2, d3] }
  | _ => none }
def leaseReckonsRow : OpenClaim := { program := "ytohomnfededglaa", sum := "efb1da65a9291d73f24f47ad808ffdfa62449396fdfb55574de7d7ebcf256384", func := "gazetteer/gazetteerlaw13.LeaseReckons", spec := "leaseReckons", unfollowed := true, recurses := true, apart := false }
def LeaseReckonsSaid : Prop := leaseReckonsRow.holds Try.pinned (OpenSpec.ofChange leaseReckonsSpec)

/-- ITS FALSE NEIGHBOUR: 'it returns false'. Refute it at one input. -/
def leaseReckonsWrong : ChangeSpec := { name := "leaseReckons", fn := fun _ => fun
  | [d1, d2, d3] => { results := [.lit (.bool false)], args := [d1, d2, d3] }
  | _ => none }
def LeaseReckonsWrongFalsely : Prop := leaseReckonsRow.holds Try.pinned (OpenSpec.ofChange leaseReckonsWrong)

/-- 'gazetteerlaw13.LeaseEnds': WHATEVER THE INPUT: true; the input reads as it did. -/
def leaseEndsSpec : ChangeSpec := { name := "leaseEnds", fn := fun _ => fun
  | [d1, d2, d3] => { results := [.lit (.bool true)], args := [d1, d2, d3] }
  | _ => none }
def leaseEndsRow : OpenClaim := { program := "ytohomnfededglaa", sum := "efb1da65a9291d73f24f47ad808ffdfa62449396fdfb55574de7d7ebcf256384", func := "gazetteer/gazetteerlaw13.LeaseEnds", spec := "leaseEnds", apart := false }
def LeaseEndsSaid : Prop := leaseEndsRow.holds Try.pinned (OpenSpec.ofChange leaseEndsSpec)

/-- ITS FALSE NEIGHBOUR: 'it returns false'. Refute it at one input. -/
def leaseEndsWrong : ChangeSpec := { name := "leaseEnds", fn := fun _ => fun
  | [d1, d2, d3] => { results := [.lit (.bool false)], args := [d1, d2, d3] }
  | _ => none }
def LeaseEndsWrongFalsely : Prop := leaseEndsRow.holds Try.pinned (OpenSpec.ofChange leaseEndsWrong)

/-- 'gazetteerlaw13.LeaseKnown': WHATEVER THE INPUT: true; the input reads as it did. -/
def leaseKnownSpec : ChangeSpec := { name := "leaseKnown", fn := fun _ => fun
  | [] => { results := [.lit (.bool true)], args := [] }
  | _ => none }
def leaseKnownRow : OpenClaim := { program := "ytohomnfededglaa", sum := "efb1da65a9291d73f24f47ad808ffdfa62449396fdfb55574de7d7ebcf256384", func := "gazetteer/gazetteerlaw13.LeaseKnown", spec := "leaseKnown", unfollowed := true, recurses := true, apart := false }
def LeaseKnownSaid : Prop := leaseKnownRow.holds Try.pinned (OpenSpec.ofChange leaseKnownSpec)

/-- ITS FALSE NEIGHBOUR: 'it returns false'. Refute it at one input. -/
def leaseKnownWrong : ChangeSpec := { name := "leaseKnown", fn := fun _ => fun
  | [] => { results := [.lit (.bool false)], args := [] }
  | _ => none }
def LeaseKnownWrongFalsely : Prop := leaseKnownRow.holds Try.pinned (OpenSpec.ofChange leaseKnownWrong)

/-- 'gazetteerlaw13.LeaseTicks': WHATEVER THE INPUT: true; the input reads as it did. -/
def leaseTicksSpec : ChangeSpec := { name := "leaseTicks", fn := fun _ => fun
  | [d1, d2, d3] => { results := [.lit (.bool true)], args := [d1, d2, d3] }
  | _ => none }
def leaseTicksRow : OpenClaim := { program := "ytohomnfededglaa", sum := "efb1da65a9291d73f24f47ad808ffdfa62449396fdfb55574de7d7ebcf256384", func := "gazetteer/gazetteerlaw13.LeaseTicks", spec := "leaseTicks", apart := false }
def LeaseTicksSaid : Prop := leaseTicksRow.holds Try.pinned (OpenSpec.ofChange leaseTicksSpec)

/-- ITS FALSE NEIGHBOUR: 'it returns false'. Refute it at one input. -/
def leaseTicksWrong : ChangeSpec := { name := "leaseTicks", fn := fun _ => fun
  | [d1, d2, d3] => { results := [.lit (.bool false)], args := [d1, d2, d3] }
  | _ => none }
def LeaseTicksWrongFalsely : Prop := leaseTicksRow.holds Try.pinned (OpenSpec.ofChange leaseTicksWrong)

/-- 'gazetteerlaw13.LeaseLater': WHATEVER THE INPUT: true; the input reads as it did. -/
def leaseLaterSpec : ChangeSpec := { name := "leaseLater", fn := fun _ => fun
  | [d1, d2, d3] => { results := [.lit (.bool true)], args := [d1, d2, d3] }
  | _ => none }
def leaseLaterRow : OpenClaim := { program := "ytohomnfededglaa", sum := "efb1da65a9291d73f24f47ad808ffdfa62449396fdfb55574de7d7ebcf256384", func := "gazetteer/gazetteerlaw13.LeaseLater", spec := "leaseLater", unfollowed := true, recurses := true, apart := false }
def LeaseLaterSaid : Prop := leaseLaterRow.holds Try.pinned (OpenSpec.ofChange leaseLaterSpec)

/-- ITS FALSE NEIGHBOUR: 'it returns false'. Refute it at one input. -/
def leaseLaterWrong : ChangeSpec := { name := "leaseLater", fn := fun _ => fun
  | [d1, d2, d3] => { results := [.lit (.bool false)], args := [d1, d2, d3] }
  | _ => none }
def LeaseLaterWrongFalsely : Prop := leaseLaterRow.holds Try.pinned (OpenSpec.ofChange leaseLaterWrong)

/- THE SECOND FORM. 'bulk': how many values and letters a reading holds, each counted each time it is reached (what is shared counts as often as it is met; a slice's spare places count too). A statement '..UptoSaid' is the law's where the arguments, and the package variables that the reading takes, are together of bulk at most 1048576: NARROWER than '..Said'. Prove '..Said' where nothing that the law and all that it calls make is longer than what came in: it says more and counts as full. Else prove '..UptoSaid'. A law counts once. -/
mutual
def uptoBulk {H : Type} : DataW H → Nat
  | .lit (.string bytes) => bytes.length + 1
  | .lit _ => 1
  | .nil => 1
  | .ptr d => uptoBulk d + 1
  | .slice elems spare => uptoBulkAll elems + uptoBulkAll spare + 1
  | .agg parts => uptoBulkAll parts + 1
  | .iface _ d => uptoBulk d + 1
  | .map entries => uptoBulkEntries entries + 1
  | .held _ => 1
def uptoBulkAll {H : Type} : List (DataW H) → Nat
  | [] => 0
  | d :: r => uptoBulk d + uptoBulkAll r
def uptoBulkEntries {H : Type} : List (Lit × DataW H) → Nat
  | [] => 0
  | x :: r => uptoBulkEntry x + uptoBulkEntries r
def uptoBulkEntry {H : Type} : Lit × DataW H → Nat
  | (.string bytes, d) => bytes.length + uptoBulk d + 1
  | (_, d) => uptoBulk d + 1
 end
def uptoSmall : (H : Type) → List (DataW H) → Bool := fun _ ds => decide (uptoBulkAll ds ≤ 1048576)
def OpenSpec.upto (s : _root_.Go.ChangeSpec) : _root_.Go.OpenSpec := { _root_.Go.OpenSpec.ofChange s with cond := some uptoSmall }

/-- 'gazetteerlaw13.LeaseReckons', WHERE WHAT IT READS IS OF BULK AT MOST 1048576: true; the input reads as it did. -/
def leaseReckonsUptoRow : OpenClaim := { program := "ytohomnfededglaa", sum := "efb1da65a9291d73f24f47ad808ffdfa62449396fdfb55574de7d7ebcf256384", func := "gazetteer/gazetteerlaw13.LeaseReckons", spec := "leaseReckons", unfollowed := true, recurses := true, apart := false, narrowed := true }
def LeaseReckonsUptoSaid : Prop := leaseReckonsUptoRow.holds Try.pinned (OpenSpec.upto leaseReckonsSpec)

/-- 'gazetteerlaw13.LeaseEnds', WHERE WHAT IT READS IS OF BULK AT MOST 1048576: true; the input reads as it did. -/
def leaseEndsUptoRow : OpenClaim := { program := "ytohomnfededglaa", sum := "efb1da65a9291d73f24f47ad808ffdfa62449396fdfb55574de7d7ebcf256384", func := "gazetteer/gazetteerlaw13.LeaseEnds", spec := "leaseEnds", apart := false, narrowed := true }
def LeaseEndsUptoSaid : Prop := leaseEndsUptoRow.holds Try.pinned (OpenSpec.upto leaseEndsSpec)

/-- 'gazetteerlaw13.LeaseKnown', WHERE WHAT IT READS IS OF BULK AT MOST 1048576: true; the input reads as it did. -/
def leaseKnownUptoRow : OpenClaim := { program := "ytohomnfededglaa", sum := "efb1da65a9291d73f24f47ad808ffdfa62449396fdfb55574de7d7ebcf256384", func := "gazetteer/gazetteerlaw13.LeaseKnown", spec := "leaseKnown", unfollowed := true, recurses := true, apart := false, narrowed := true }
def LeaseKnownUptoSaid : Prop := leaseKnownUptoRow.holds Try.pinned (OpenSpec.upto leaseKnownSpec)

/-- 'gazetteerlaw13.LeaseTicks', WHERE WHAT IT READS IS OF BULK AT MOST 1048576: true; the input reads as it did. -/
def leaseTicksUptoRow : OpenClaim := { program := "ytohomnfededglaa", sum := "efb1da65a9291d73f24f47ad808ffdfa62449396fdfb55574de7d7ebcf256384", func := "gazetteer/gazetteerlaw13.LeaseTicks", spec := "leaseTicks", apart := false, narrowed := true }
def LeaseTicksUptoSaid : Prop := leaseTicksUptoRow.holds Try.pinned (OpenSpec.upto leaseTicksSpec)

/-- 'gazetteerlaw13.LeaseLater', WHERE WHAT IT READS IS OF BULK AT MOST 1048576: true; the input reads as it did. -/
def leaseLaterUptoRow : OpenClaim := { program := "ytohomnfededglaa", sum := "efb1da65a9291d73f24f47ad808ffdfa62449396fdfb55574de7d7ebcf256384", func := "gazetteer/gazetteerlaw13.LeaseLater", spec := "leaseLater", unfollowed := true, recurses := true, apart := false, narrowed := true }
def LeaseLaterUptoSaid : Prop := leaseLaterUptoRow.holds Try.pinned (OpenSpec.upto leaseLaterSpec)

end Rows
end Go.Proofs.Ytohomnfededglaa
