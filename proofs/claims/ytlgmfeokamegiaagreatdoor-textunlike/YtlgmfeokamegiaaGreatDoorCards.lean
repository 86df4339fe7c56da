/-
  DERIVED. GIVEN WITH THE SEED: THE CARDS: each row of YtlgmfeokamegiaaGreatDoorRows.lean that lists a variable, with what it lists TIED to the program's text (the seventh form; the later family's looks); each row that meets fmt, with fmt's text TOLD by the authors' own Lean function (tested against real Go, not proved from fmt's source: count such statements apart). THE CARD IS WHAT COUNTS. Prove the row's statement (the work); the ties are given (YtlgmfeokamegiaaGreatDoorTie.lean); close each card by the builder's one call (the guide's Derived/Test/ToyasCard.lean, 'card_holds'). Laid BY PROGRAM, IN A SANDBOX (cutbox-door.mjs). By AI agents, Wed Nov 11 2026. No macro, syntax, notation, axiom, sorry.
-/
import Derived.Test.YtlgmfeokamegiaaGreatDoorRows
import GoSem.ClaimSeven
namespace Go.Proofs.YtlgmfeokamegiaaGreatDoor
namespace Rows

/-- THE TIED CARD OF 'gabionlaw21.TextUnlike'. -/
def textUnlikeCard : Claim7 := { stood := { row := textUnlikeRow, standIns := [], harness := (true, "0e3c28d22271e7b771f58fa7ed3701c39337e65a1b3657296a57ec5bfc84366a"), looks := true }, kinds := [], alts := [], laidByText := true, laidKinds := [.data, .data, .data, .sentinel, .sentinel, .data], laidTests := true, laidLooks := .later }
def TextUnlikeCardSaid : Prop := Claim7.holds Tryz.pinned (.plain (OpenSpec.ofChange textUnlikeSpec)) textUnlikeCard

/-- THE SECOND FORM's CARD OF 'gabionlaw21.TextUnlike'. -/
def textUnlikeUptoCard : Claim7 := { stood := { row := textUnlikeUptoRow, standIns := [], harness := (true, "0e3c28d22271e7b771f58fa7ed3701c39337e65a1b3657296a57ec5bfc84366a"), looks := true }, kinds := [], alts := [], laidByText := true, laidKinds := [.data, .data, .data, .sentinel, .sentinel, .data], laidTests := true, laidLooks := .later }
def TextUnlikeUptoCardSaid : Prop := Claim7.holds Tryz.pinned (.plain (OpenSpec.upto textUnlikeSpec)) textUnlikeUptoCard
end Rows
end Go.Proofs.YtlgmfeokamegiaaGreatDoor
