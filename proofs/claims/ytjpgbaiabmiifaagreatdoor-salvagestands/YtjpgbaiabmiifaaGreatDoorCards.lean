/-
  DERIVED. GIVEN WITH THE SEED: THE CARDS: each row of YtjpgbaiabmiifaaGreatDoorRows.lean that lists a variable, with what it lists TIED to the program's text (the seventh form; the later family's looks); each row that meets fmt, with fmt's text TOLD by the authors' own Lean function (tested against real Go, not proved from fmt's source: count such statements apart). THE CARD IS WHAT COUNTS. Prove the row's statement (the work); the ties are given (YtjpgbaiabmiifaaGreatDoorTie.lean); close each card by the builder's one call (the guide's Derived/Test/ToyasCard.lean, 'card_holds'). Laid BY PROGRAM, IN A SANDBOX (cutbox-door.mjs). By AI agents, Wed Nov 11 2026. No macro, syntax, notation, axiom, sorry.
-/
import Derived.Test.YtjpgbaiabmiifaaGreatDoorRows
import GoSem.ClaimSeven
namespace Go.Proofs.YtjpgbaiabmiifaaGreatDoor
namespace Rows

/-- THE TIED CARD OF 'gabionlaw17.SalvageStands'. -/
def salvageStandsCard : Claim7 := { stood := { row := salvageStandsRow, standIns := [], harness := (true, "f0152bf19411e033f16ef475f8ca600606662ae5832dd0680c37284d30df2753"), looks := true }, kinds := [], alts := [], laidByText := true, laidKinds := [.data], laidTests := true, laidLooks := .later }
def SalvageStandsCardSaid : Prop := Claim7.holds Tryz.pinned (.plain (OpenSpec.ofChange salvageStandsSpec)) salvageStandsCard

/-- THE SECOND FORM's CARD OF 'gabionlaw17.SalvageStands'. -/
def salvageStandsUptoCard : Claim7 := { stood := { row := salvageStandsUptoRow, standIns := [], harness := (true, "f0152bf19411e033f16ef475f8ca600606662ae5832dd0680c37284d30df2753"), looks := true }, kinds := [], alts := [], laidByText := true, laidKinds := [.data], laidTests := true, laidLooks := .later }
def SalvageStandsUptoCardSaid : Prop := Claim7.holds Tryz.pinned (.plain (OpenSpec.upto salvageStandsSpec)) salvageStandsUptoCard
end Rows
end Go.Proofs.YtjpgbaiabmiifaaGreatDoor
