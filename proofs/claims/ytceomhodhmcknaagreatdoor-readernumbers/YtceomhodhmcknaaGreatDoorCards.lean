/-
  DERIVED. GIVEN WITH THE SEED: THE CARDS: each row of YtceomhodhmcknaaGreatDoorRows.lean that lists a variable, with what it lists TIED to the program's text (the seventh form; the later family's looks); each row that meets fmt, with fmt's text TOLD by the authors' own Lean function (tested against real Go, not proved from fmt's source: count such statements apart). THE CARD IS WHAT COUNTS. Prove the row's statement (the work); the ties are given (YtceomhodhmcknaaGreatDoorTie.lean); close each card by the builder's one call (the guide's Derived/Test/ToyasCard.lean, 'card_holds'). Laid BY PROGRAM, IN A SANDBOX (cutbox-door.mjs). By AI agents, Wed Nov 11 2026. No macro, syntax, notation, axiom, sorry.
-/
import Derived.Test.YtceomhodhmcknaaGreatDoorRows
import GoSem.ClaimSeven
namespace Go.Proofs.YtceomhodhmcknaaGreatDoor
namespace Rows

/-- THE TIED CARD OF 'gabionlaw16.ReaderNumbers'. -/
def readerNumbersCard : Claim7 := { stood := { row := readerNumbersRow, standIns := [], harness := (true, "3a14f18c99c2ebe918da0d9a0d67f246b1f39e645aa82caae28018667a6db2dd"), looks := true }, kinds := [], alts := [], laidByText := true, laidKinds := [.data], laidTests := true, laidLooks := .later }
def ReaderNumbersCardSaid : Prop := Claim7.holds Tryz.pinned (.plain (OpenSpec.ofChange readerNumbersSpec)) readerNumbersCard

/-- THE SECOND FORM's CARD OF 'gabionlaw16.ReaderNumbers'. -/
def readerNumbersUptoCard : Claim7 := { stood := { row := readerNumbersUptoRow, standIns := [], harness := (true, "3a14f18c99c2ebe918da0d9a0d67f246b1f39e645aa82caae28018667a6db2dd"), looks := true }, kinds := [], alts := [], laidByText := true, laidKinds := [.data], laidTests := true, laidLooks := .later }
def ReaderNumbersUptoCardSaid : Prop := Claim7.holds Tryz.pinned (.plain (OpenSpec.upto readerNumbersSpec)) readerNumbersUptoCard
end Rows
end Go.Proofs.YtceomhodhmcknaaGreatDoor
