/-
  DERIVED. GIVEN WITH THE SEED: THE CARDS: each row of YtdgacombdcajmaaGreatDoorRows.lean that lists a variable, with what it lists TIED to the program's text (the seventh form; the later family's looks); each row that meets fmt, with fmt's text TOLD by the authors' own Lean function (tested against real Go, not proved from fmt's source: count such statements apart). THE CARD IS WHAT COUNTS. Prove the row's statement (the work); the ties are given (YtdgacombdcajmaaGreatDoorTie.lean); close each card by the builder's one call (the guide's Derived/Test/ToyasCard.lean, 'card_holds'). Laid BY PROGRAM, IN A SANDBOX (cutbox-door.mjs). By AI agents, Wed Nov 11 2026. No macro, syntax, notation, axiom, sorry.
-/
import Derived.Test.YtdgacombdcajmaaGreatDoorRows
import GoSem.ClaimSeven
namespace Go.Proofs.YtdgacombdcajmaaGreatDoor
namespace Rows

/-- THE TIED CARD OF 'gabionlaw17.SalvageJust'. -/
def salvageJustCard : Claim7 := { stood := { row := salvageJustRow, standIns := [], harness := (true, "d712c49c8e0d77b912747c8273f2e875a851a46ecdf005d46077ac9a477e920e"), looks := true }, kinds := [], alts := [], laidByText := true, laidKinds := [.data], laidTests := true, laidLooks := .later }
def SalvageJustCardSaid : Prop := Claim7.holds Tryz.pinned (.plain (OpenSpec.ofChange salvageJustSpec)) salvageJustCard

/-- THE SECOND FORM's CARD OF 'gabionlaw17.SalvageJust'. -/
def salvageJustUptoCard : Claim7 := { stood := { row := salvageJustUptoRow, standIns := [], harness := (true, "d712c49c8e0d77b912747c8273f2e875a851a46ecdf005d46077ac9a477e920e"), looks := true }, kinds := [], alts := [], laidByText := true, laidKinds := [.data], laidTests := true, laidLooks := .later }
def SalvageJustUptoCardSaid : Prop := Claim7.holds Tryz.pinned (.plain (OpenSpec.upto salvageJustSpec)) salvageJustUptoCard
end Rows
end Go.Proofs.YtdgacombdcajmaaGreatDoor
