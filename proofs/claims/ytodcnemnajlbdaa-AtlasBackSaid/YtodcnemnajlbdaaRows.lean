/-
  No cell of these rows narrows 'for every input' (looked for: loops, veiled, ifaces, maps, wideKeys, modest, calm, conditions, laid).
  DERIVED. THE GIVEN ROWS OF THIS SEAT. 4 by the template 'for every input the law returns true; each argument reads behind the call as it read before'; 0 by the template 'total and deterministic' (their statements: YtodcnemnajlbdaaTotals.lean).
  GIVEN WITH THE SEED: the statements are not yours to turn. If you find one false, say at which input.
  Laid BY PROGRAM, IN A SANDBOX (cutbox-rows.mjs): the forced cells as the released guide's own fill.sh prints them over the translation 12a4507568736c04… (all of the seat's roots in one cut). By AI agents, Wed Nov 11 2026. No macro, syntax, notation, axiom, sorry.
-/
import Derived.Test.YtodcnemnajlbdaaChecked
import GoSem.Claim
import GoSem.ClaimJoined
import GoSem.ClaimMapViews
import Derived.JoinedTies
import Derived.KernelRfl
namespace Go.Proofs.Ytodcnemnajlbdaa
/- THE CELL 'sum', in the pinned program and in every row, IS THE sha256 OF THE DUMP (.gsa) THAT YtodcnemnajlbdaaProg.lean LOADS. Nothing in Lean hashes anything: it is a label: what it is worth is what the hold of that sum in a sandbox is worth. -/
noncomputable def Try.pinned : Pinned := { name := "ytodcnemnajlbdaa", sum := "12a4507568736c04022cb523ee31cda057f780ea118a661528964bfb63b4bf7a", checked := Try.checked }
namespace Rows
def none {H : Type} : Left H := { results := [], args := [] }

/-- 'gazetteerlaw14.AtlasGoes': WHATEVER THE INPUT: true; the input reads as it did. -/
def atlasGoesSpec : ChangeSpec := { name := "atlasGoes", fn := fun _ => fun
  | [d] => { results := [.lit (.bool true)], args := [d] }
  | _ => none }
def atlasGoesRow : OpenClaim := { program := "ytodcnemnajlbdaa", sum := "12a4507568736c04022cb523ee31cda057f780ea118a661528964bfb63b4bf7a", func := "gazetteer/gazetteerlaw14.AtlasGoes", spec := "atlasGoes", inPlace := ["slices.overlaps[gazetteer/atlas.Shard]"], unfollowed := true, recurses := true, apart := false }
def AtlasGoesSaid : Prop := atlasGoesRow.holds Try.pinned (OpenSpec.ofChange atlasGoesSpec)

/-- ITS FALSE NEIGHBOUR: 'it returns false'. Refute it at one input. -/
def atlasGoesWrong : ChangeSpec := { name := "atlasGoes", fn := fun _ => fun
  | [d] => { results := [.lit (.bool false)], args := [d] }
  | _ => none }
def AtlasGoesWrongFalsely : Prop := atlasGoesRow.holds Try.pinned (OpenSpec.ofChange atlasGoesWrong)

/-- 'gazetteerlaw14.AtlasKnown': WHATEVER THE INPUT: true; the input reads as it did. -/
def atlasKnownSpec : ChangeSpec := { name := "atlasKnown", fn := fun _ => fun
  | [] => { results := [.lit (.bool true)], args := [] }
  | _ => none }
def atlasKnownRow : OpenClaim := { program := "ytodcnemnajlbdaa", sum := "12a4507568736c04022cb523ee31cda057f780ea118a661528964bfb63b4bf7a", func := "gazetteer/gazetteerlaw14.AtlasKnown", spec := "atlasKnown", inPlace := ["slices.overlaps[gazetteer/atlas.Shard]"], unfollowed := true, recurses := true, apart := false }
def AtlasKnownSaid : Prop := atlasKnownRow.holds Try.pinned (OpenSpec.ofChange atlasKnownSpec)

/-- ITS FALSE NEIGHBOUR: 'it returns false'. Refute it at one input. -/
def atlasKnownWrong : ChangeSpec := { name := "atlasKnown", fn := fun _ => fun
  | [] => { results := [.lit (.bool false)], args := [] }
  | _ => none }
def AtlasKnownWrongFalsely : Prop := atlasKnownRow.holds Try.pinned (OpenSpec.ofChange atlasKnownWrong)

/-- 'gazetteerlaw14.AtlasBack': WHATEVER THE INPUT: true; the input reads as it did. -/
def atlasBackSpec : ChangeSpec := { name := "atlasBack", fn := fun _ => fun
  | [d1, d2, d3] => { results := [.lit (.bool true)], args := [d1, d2, d3] }
  | _ => none }
def atlasBackRow : OpenClaim := { program := "ytodcnemnajlbdaa", sum := "12a4507568736c04022cb523ee31cda057f780ea118a661528964bfb63b4bf7a", func := "gazetteer/gazetteerlaw14.AtlasBack", spec := "atlasBack", inPlace := ["slices.overlaps[gazetteer/atlas.Shard]"], unfollowed := true, recurses := true, apart := false }
def AtlasBackSaid : Prop := atlasBackRow.holds Try.pinned (OpenSpec.ofChange atlasBackSpec)

/-- ITS FALSE NEIGHBOUR: 'it returns false'. Refute it at one input. -/
def atlasBackWrong : ChangeSpec := { name := "atlasBack", fn := fun _ => fun
  | [d1, d2, d3] => { results := [.lit (.bool false)], args := [d1, d2, d3] }
  | _ => none }
def AtlasBackWrongFalsely : Prop := atlasBackRow.holds Try.pinned (OpenSpec.ofChange atlasBackWrong)

/-- 'gazetteerlaw14.AtlasOwns': WHATEVER THE INPUT: true; the input reads as it did. -/
def atlasOwnsSpec : ChangeSpec := { name := "atlasOwns", fn := fun _ => fun
  | [d1, d2] => { results := [.lit (.bool true)], args := [d1, d2] }
  | _ => none }
def atlasOwnsRow : OpenClaim := { program := "ytodcnemnajlbdaa", sum := "12a4507568736c04022cb523ee31cda057f780ea118a661528964bfb63b4bf7a", func := "gazetteer/gazetteerlaw14.AtlasOwns", spec := "atlasOwns", inPlace := ["slices.overlaps[gazetteer/atlas.Shard]"], unfollowed := true, recurses := true, apart := false }
def AtlasOwnsSaid : Prop := atlasOwnsRow.holds Try.pinned (OpenSpec.ofChange atlasOwnsSpec)

/-- ITS FALSE NEIGHBOUR: 'it returns false'. Refute it at one input. -/
def atlasOwnsWrong : ChangeSpec := { name := "atlasOwns", fn := fun _ => fun
  | [d1, d2] => { results := [.lit (.bool false)], args := [d1, d2] }
  | _ => none }
def AtlasOwnsWrongFalsely : Prop := atlasOwnsRow.holds Try.pinned (OpenSpec.ofChange atlasOwnsWrong)

/- THE SECOND FORM. 'bulk': how many values and letters a reading holds, each counted each time it is reached (what is shared counts as often as it is met; a slice's spare places count too). A statement '..UptoSaid' is the law's where the arguments, and the package variables that the reading takes, are together of bulk at most 1048576: NARROWER than '..Said'. Prove '..Said' where nothing that the law and all that it calls make is longer than what came in: it says more and counts as full. Else prove '..UptoSaid'. A law counts once. -/
mutual
def uptoBulk {H : Type} : DataW H → Nat
  | .lit (.string bytes) => bytes.length + 1
  | .lit _ => 1
  | .nil => 1
  | .ptr d => uptoBulk d + 1
  | .slice elems spare => uptoBulkAll elems + uptoBulkAll spare + 1
  | .agg parts => uptoBulkAll parts + 1
  | .iface _ d => uptoBulk d + 1
  | .map entries => uptoBulkEntries entries + 1
  | .held _ => 1
def uptoBulkAll {H : Type} : List (DataW H) → Nat
  | [] => 0
  | d :: r => uptoBulk d + uptoBulkAll r
def uptoBulkEntries {H : Type} : List (Lit × DataW H) → Nat
  | [] => 0
  | x :: r => uptoBulkEntry x + uptoBulkEntries r
def uptoBulkEntry {H : Type} : Lit × DataW H → Nat
  | (.string bytes, d) => bytes.length + uptoBulk d + 1
  | (_, d) => uptoBulk d + 1
 end
def uptoSmall : (H : Type) → List (DataW H) → Bool := fun _ ds => decide (uptoBulkAll ds ≤ 1048576)
def OpenSpec.upto (s : _root_.Go.ChangeSpec) : _root_.Go.OpenSpec := { _root_.Go.OpenSpec.ofChange s with cond := some uptoSmall }

/-- 'gazetteerlaw14.AtlasGoes', WHERE WHAT IT READS IS OF BULK AT MOST 1048576: true; the input reads as it did. -/
def atlasGoesUptoRow : OpenClaim := { program := "ytodcnemnajlbdaa", sum := "12a4507568736c04022cb523ee31cda057f780ea118a661528964bfb63b4bf7a", func := "gazetteer/gazetteerlaw14.AtlasGoes", spec := "atlasGoes", inPlace := ["slices.overlaps[gazetteer/atlas.Shard]"], unfollowed := true, recurses := true, apart := false, narrowed := true }
def AtlasGoesUptoSaid : Prop := atlasGoesUptoRow.holds Try.pinned (OpenSpec.upto atlasGoesSpec)

/-- 'gazetteerlaw14.AtlasKnown', WHERE WHAT IT READS IS OF BULK AT MOST 1048576: true; the input reads as it did. -/
def atlasKnownUptoRow : OpenClaim := { program := "ytodcnemnajlbdaa", sum := "12a4507568736c04022cb523ee31cda057f780ea118a661528964bfb63b4bf7a", func := "gazetteer/gazetteerlaw14.AtlasKnown", spec := "atlasKnown", inPlace := ["slices.overlaps[gazetteer/atlas.Shard]"], unfollowed := true, recurses := true, apart := false, narrowed := true }
def AtlasKnownUptoSaid : Prop := atlasKnownUptoRow.holds Try.pinned (OpenSpec.upto atlasKnownSpec)

/-- 'gazetteerlaw14.AtlasBack', WHERE WHAT IT READS IS OF BULK AT MOST 1048576: true; the input reads as it did. -/
def atlasBackUptoRow : OpenClaim := { program := "ytodcnemnajlbdaa", sum := "12a4507568736c04022cb523ee31cda057f780ea118a661528964bfb63b4bf7a", func := "gazetteer/gazetteerlaw14.AtlasBack", spec := "atlasBack", inPlace := ["slices.overlaps[gazetteer/atlas.Shard]"], unfollowed := true, recurses := true, apart := false, narrowed := true }
def AtlasBackUptoSaid : Prop := atlasBackUptoRow.holds Try.pinned (OpenSpec.upto atlasBackSpec)

/-- 'gazetteerlaw14.AtlasOwns', WHERE WHAT IT READS IS OF BULK AT MOST 1048576: true; the input reads as it did. -/
def atlasOwnsUptoRow : OpenClaim := { program := "ytodcnemnajlbdaa", sum := "12a4507568736c04022cb523ee31cda057f780ea118a661528964bfb63b4bf7a", func := "gazetteer/gazetteerlaw14.AtlasOwns", spec := "atlasOwns", inPlace := ["slices.overlaps[gazetteer/atlas.Shard]"], unfollowed := true, recurses := true, apart := false, narrowed := true }
def AtlasOwnsUptoSaid : Prop := atlasOwnsUptoRow.holds Try.pinned (OpenSpec.upto atlasOwnsSpec)

end Rows
end Go.Proofs.Ytodcnemnajlbdaa
