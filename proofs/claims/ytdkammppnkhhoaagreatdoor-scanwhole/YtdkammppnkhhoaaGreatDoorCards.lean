/-
  DERIVED. GIVEN WITH THE SEED: THE CARDS: each row of YtdkammppnkhhoaaGreatDoorRows.lean that lists a variable, with what it lists TIED to the program's text (the seventh form; the later family's looks); each row that meets fmt, with fmt's text TOLD by the authors' own Lean function (tested against real Go, not proved from fmt's source: count such statements apart). THE CARD IS WHAT COUNTS. Prove the row's statement (the work); the ties are given (YtdkammppnkhhoaaGreatDoorTie.lean); close each card by the builder's one call (the guide's Derived/Test/ToyasCard.lean, 'card_holds'). Laid BY PROGRAM, IN A SANDBOX (cutbox-door.mjs). By AI agents, Wed Nov 11 2026. No macro, syntax, notation, axiom, sorry.
-/
import Derived.Test.YtdkammppnkhhoaaGreatDoorRows
import GoSem.ClaimSeven
namespace Go.Proofs.YtdkammppnkhhoaaGreatDoor
namespace Rows

/-- THE TIED CARD OF 'gabionlaw14.ScanWhole'. -/
def scanWholeCard : Claim7 := { stood := { row := scanWholeRow, standIns := [], harness := (true, "1e25f9272c167e3f5770067667b6019ee801c13429c4fc07f1f8146ccaf0f612"), looks := true }, kinds := [], alts := [], laidByText := true, laidKinds := [.data], laidTests := true, laidLooks := .later }
def ScanWholeCardSaid : Prop := Claim7.holds Tryz.pinned (.plain (OpenSpec.ofChange scanWholeSpec)) scanWholeCard

/-- THE SECOND FORM's CARD OF 'gabionlaw14.ScanWhole'. -/
def scanWholeUptoCard : Claim7 := { stood := { row := scanWholeUptoRow, standIns := [], harness := (true, "1e25f9272c167e3f5770067667b6019ee801c13429c4fc07f1f8146ccaf0f612"), looks := true }, kinds := [], alts := [], laidByText := true, laidKinds := [.data], laidTests := true, laidLooks := .later }
def ScanWholeUptoCardSaid : Prop := Claim7.holds Tryz.pinned (.plain (OpenSpec.upto scanWholeSpec)) scanWholeUptoCard
end Rows
end Go.Proofs.YtdkammppnkhhoaaGreatDoor
