/-
  DERIVED. GIVEN WITH THE SEED: THE CARDS: each row of YticjgmhgpeihjaaGreatDoorRows.lean that lists a variable, with what it lists TIED to the program's text (the seventh form; the later family's looks); each row that meets fmt, with fmt's text TOLD by the authors' own Lean function (tested against real Go, not proved from fmt's source: count such statements apart). THE CARD IS WHAT COUNTS. Prove the row's statement (the work); the ties are given (YticjgmhgpeihjaaGreatDoorTie.lean); close each card by the builder's one call (the guide's Derived/Test/ToyasCard.lean, 'card_holds'). Laid BY PROGRAM, IN A SANDBOX (cutbox-door.mjs). By AI agents, Wed Nov 11 2026. No macro, syntax, notation, axiom, sorry.
-/
import Derived.Test.YticjgmhgpeihjaaGreatDoorRows
import GoSem.ClaimSeven
namespace Go.Proofs.YticjgmhgpeihjaaGreatDoor
namespace Rows

/-- THE TIED CARD OF 'gazetteerlaw4.SortkeyMakes'. -/
def sortkeyMakesCard : Claim7 := { stood := { row := sortkeyMakesRow, standIns := [], harness := (true, "1374f504c8ad07290ade30e744c08eba37d2f8f3762f3e8d12c085022c69b740"), looks := false }, kinds := [], alts := [], laidByText := true, laidKinds := [.data, .pinned], laidTests := true, laidLooks := .later }
def SortkeyMakesCardSaid : Prop := Claim7.holds Tryz.pinned (.plain (OpenSpec.ofChange sortkeyMakesSpec)) sortkeyMakesCard

/-- THE TIED CARD OF 'gazetteerlaw4.SortkeyOrder'. -/
def sortkeyOrderCard : Claim7 := { stood := { row := sortkeyOrderRow, standIns := [], harness := (true, "1374f504c8ad07290ade30e744c08eba37d2f8f3762f3e8d12c085022c69b740"), looks := false }, kinds := [], alts := [], laidByText := true, laidKinds := [.data, .pinned], laidTests := true, laidLooks := .later }
def SortkeyOrderCardSaid : Prop := Claim7.holds Tryz.pinned (.plain (OpenSpec.ofChange sortkeyOrderSpec)) sortkeyOrderCard

/-- THE SECOND FORM's CARD OF 'gazetteerlaw4.SortkeyMakes'. -/
def sortkeyMakesUptoCard : Claim7 := { stood := { row := sortkeyMakesUptoRow, standIns := [], harness := (true, "1374f504c8ad07290ade30e744c08eba37d2f8f3762f3e8d12c085022c69b740"), looks := false }, kinds := [], alts := [], laidByText := true, laidKinds := [.data, .pinned], laidTests := true, laidLooks := .later }
def SortkeyMakesUptoCardSaid : Prop := Claim7.holds Tryz.pinned (.plain (OpenSpec.upto sortkeyMakesSpec)) sortkeyMakesUptoCard

/-- THE SECOND FORM's CARD OF 'gazetteerlaw4.SortkeyOrder'. -/
def sortkeyOrderUptoCard : Claim7 := { stood := { row := sortkeyOrderUptoRow, standIns := [], harness := (true, "1374f504c8ad07290ade30e744c08eba37d2f8f3762f3e8d12c085022c69b740"), looks := false }, kinds := [], alts := [], laidByText := true, laidKinds := [.data, .pinned], laidTests := true, laidLooks := .later }
def SortkeyOrderUptoCardSaid : Prop := Claim7.holds Tryz.pinned (.plain (OpenSpec.upto sortkeyOrderSpec)) sortkeyOrderUptoCard
end Rows
end Go.Proofs.YticjgmhgpeihjaaGreatDoor
