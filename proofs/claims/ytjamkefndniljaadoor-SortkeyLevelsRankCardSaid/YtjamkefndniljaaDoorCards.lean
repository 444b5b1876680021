/-
  DERIVED. GIVEN WITH THE SEED: THE CARDS: each row of YtjamkefndniljaaDoorRows.lean that lists a variable, with what it lists TIED to the program's text (the seventh form; the later family's looks); each row that meets fmt, with fmt's text TOLD by the authors' own Lean function (tested against real Go, not proved from fmt's source: count such statements apart). THE CARD IS WHAT COUNTS. Prove the row's statement (the work); the ties are given (YtjamkefndniljaaDoorTie.lean); close each card by the builder's one call (the guide's Derived/Test/ToyasCard.lean, 'card_holds'). Laid BY PROGRAM, IN A SANDBOX (cutbox-door.mjs). By AI agents, Wed Nov 11 2026. No macro, syntax, notation, axiom, sorry.
-/
import Derived.Test.YtjamkefndniljaaDoorRows
import GoSem.ClaimSeven
namespace Go.Proofs.YtjamkefndniljaaDoor
namespace Rows

/-- THE TIED CARD OF 'gazetteerlaw4.SortkeyLevelsRank'. -/
def sortkeyLevelsRankCard : Claim7 := { stood := { row := sortkeyLevelsRankRow, standIns := [], harness := (true, "6adeb0edfad370481e24ada1728119eff649cd929222a63b4d4727c4c2791a86"), looks := false }, kinds := [], alts := [], laidByText := true, laidKinds := [.data, .pinned], laidTests := true, laidLooks := .later }
def SortkeyLevelsRankCardSaid : Prop := Claim7.holds Tryd.pinned (.plain (OpenSpec.ofChange sortkeyLevelsRankSpec)) sortkeyLevelsRankCard

/-- THE SECOND FORM's CARD OF 'gazetteerlaw4.SortkeyLevelsRank'. -/
def sortkeyLevelsRankUptoCard : Claim7 := { stood := { row := sortkeyLevelsRankUptoRow, standIns := [], harness := (true, "6adeb0edfad370481e24ada1728119eff649cd929222a63b4d4727c4c2791a86"), looks := false }, kinds := [], alts := [], laidByText := true, laidKinds := [.data, .pinned], laidTests := true, laidLooks := .later }
def SortkeyLevelsRankUptoCardSaid : Prop := Claim7.holds Tryd.pinned (.plain (OpenSpec.upto sortkeyLevelsRankSpec)) sortkeyLevelsRankUptoCard
end Rows
end Go.Proofs.YtjamkefndniljaaDoor
