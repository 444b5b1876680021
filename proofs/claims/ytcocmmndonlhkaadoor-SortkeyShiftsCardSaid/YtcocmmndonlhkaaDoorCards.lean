/-
  DERIVED. GIVEN WITH THE SEED: THE CARDS: each row of YtcocmmndonlhkaaDoorRows.lean that lists a variable, with what it lists TIED to the program's text (the seventh form; the later family's looks); each row that meets fmt, with fmt's text TOLD by the authors' own Lean function (tested against real Go, not proved from fmt's source: count such statements apart). THE CARD IS WHAT COUNTS. Prove the row's statement (the work); the ties are given (YtcocmmndonlhkaaDoorTie.lean); close each card by the builder's one call (the guide's Derived/Test/ToyasCard.lean, 'card_holds'). Laid BY PROGRAM, IN A SANDBOX (cutbox-door.mjs). By AI agents, Wed Nov 11 2026. No macro, syntax, notation, axiom, sorry.
-/
import Derived.Test.YtcocmmndonlhkaaDoorRows
import GoSem.ClaimSeven
namespace Go.Proofs.YtcocmmndonlhkaaDoor
namespace Rows

/-- THE TIED CARD OF 'gazetteerlaw4.SortkeyShifts'. -/
def sortkeyShiftsCard : Claim7 := { stood := { row := sortkeyShiftsRow, standIns := [], harness := (true, "e7fe7bd63cfe29d2188e25f806e834717b4ce20d9b116e45b5323d123bfe7d99"), looks := false }, kinds := [], alts := [], laidByText := true, laidKinds := [.data, .pinned], laidTests := true, laidLooks := .later }
def SortkeyShiftsCardSaid : Prop := Claim7.holds Tryd.pinned (.plain (OpenSpec.ofChange sortkeyShiftsSpec)) sortkeyShiftsCard

/-- THE TIED CARD OF 'gazetteerlaw4.SortkeyLong'. -/
def sortkeyLongCard : Claim7 := { stood := { row := sortkeyLongRow, standIns := [], harness := (true, "e7fe7bd63cfe29d2188e25f806e834717b4ce20d9b116e45b5323d123bfe7d99"), looks := false }, kinds := [], alts := [], laidByText := true, laidKinds := [.data, .pinned], laidTests := true, laidLooks := .later }
def SortkeyLongCardSaid : Prop := Claim7.holds Tryd.pinned (.plain (OpenSpec.ofChange sortkeyLongSpec)) sortkeyLongCard

/-- THE TIED CARD OF 'gazetteerlaw4.SortkeyLevelsRank'. -/
def sortkeyLevelsRankCard : Claim7 := { stood := { row := sortkeyLevelsRankRow, standIns := [], harness := (true, "e7fe7bd63cfe29d2188e25f806e834717b4ce20d9b116e45b5323d123bfe7d99"), looks := false }, kinds := [], alts := [], laidByText := true, laidKinds := [.data, .pinned], laidTests := true, laidLooks := .later }
def SortkeyLevelsRankCardSaid : Prop := Claim7.holds Tryd.pinned (.plain (OpenSpec.ofChange sortkeyLevelsRankSpec)) sortkeyLevelsRankCard

/-- THE TIED CARD OF 'gazetteerlaw4.SortkeyKnown'. -/
def sortkeyKnownCard : Claim7 := { stood := { row := sortkeyKnownRow, standIns := [], harness := (true, "e7fe7bd63cfe29d2188e25f806e834717b4ce20d9b116e45b5323d123bfe7d99"), looks := false }, kinds := [], alts := [], laidByText := true, laidKinds := [.data, .pinned], laidTests := true, laidLooks := .later }
def SortkeyKnownCardSaid : Prop := Claim7.holds Tryd.pinned (.plain (OpenSpec.ofChange sortkeyKnownSpec)) sortkeyKnownCard

/-- THE SECOND FORM's CARD OF 'gazetteerlaw4.SortkeyShifts'. -/
def sortkeyShiftsUptoCard : Claim7 := { stood := { row := sortkeyShiftsUptoRow, standIns := [], harness := (true, "e7fe7bd63cfe29d2188e25f806e834717b4ce20d9b116e45b5323d123bfe7d99"), looks := false }, kinds := [], alts := [], laidByText := true, laidKinds := [.data, .pinned], laidTests := true, laidLooks := .later }
def SortkeyShiftsUptoCardSaid : Prop := Claim7.holds Tryd.pinned (.plain (OpenSpec.upto sortkeyShiftsSpec)) sortkeyShiftsUptoCard

/-- THE SECOND FORM's CARD OF 'gazetteerlaw4.SortkeyLong'. -/
def sortkeyLongUptoCard : Claim7 := { stood := { row := sortkeyLongUptoRow, standIns := [], harness := (true, "e7fe7bd63cfe29d2188e25f806e834717b4ce20d9b116e45b5323d123bfe7d99"), looks := false }, kinds := [], alts := [], laidByText := true, laidKinds := [.data, .pinned], laidTests := true, laidLooks := .later }
def SortkeyLongUptoCardSaid : Prop := Claim7.holds Tryd.pinned (.plain (OpenSpec.upto sortkeyLongSpec)) sortkeyLongUptoCard

/-- THE SECOND FORM's CARD OF 'gazetteerlaw4.SortkeyLevelsRank'. -/
def sortkeyLevelsRankUptoCard : Claim7 := { stood := { row := sortkeyLevelsRankUptoRow, standIns := [], harness := (true, "e7fe7bd63cfe29d2188e25f806e834717b4ce20d9b116e45b5323d123bfe7d99"), looks := false }, kinds := [], alts := [], laidByText := true, laidKinds := [.data, .pinned], laidTests := true, laidLooks := .later }
def SortkeyLevelsRankUptoCardSaid : Prop := Claim7.holds Tryd.pinned (.plain (OpenSpec.upto sortkeyLevelsRankSpec)) sortkeyLevelsRankUptoCard

/-- THE SECOND FORM's CARD OF 'gazetteerlaw4.SortkeyKnown'. -/
def sortkeyKnownUptoCard : Claim7 := { stood := { row := sortkeyKnownUptoRow, standIns := [], harness := (true, "e7fe7bd63cfe29d2188e25f806e834717b4ce20d9b116e45b5323d123bfe7d99"), looks := false }, kinds := [], alts := [], laidByText := true, laidKinds := [.data, .pinned], laidTests := true, laidLooks := .later }
def SortkeyKnownUptoCardSaid : Prop := Claim7.holds Tryd.pinned (.plain (OpenSpec.upto sortkeyKnownSpec)) sortkeyKnownUptoCard
end Rows
end Go.Proofs.YtcocmmndonlhkaaDoor
