/-
  DERIVED. GIVEN WITH THE SEED: THE CARDS: each row of YtohgmkgclgoflaaGreatDoorRows.lean that lists a variable, with what it lists TIED to the program's text (the seventh form; the later family's looks); each row that meets fmt, with fmt's text TOLD by the authors' own Lean function (tested against real Go, not proved from fmt's source: count such statements apart). THE CARD IS WHAT COUNTS. Prove the row's statement (the work); the ties are given (YtohgmkgclgoflaaGreatDoorTie.lean); close each card by the builder's one call (the guide's Derived/Test/ToyasCard.lean, 'card_holds'). Laid BY PROGRAM, IN A SANDBOX (cutbox-door.mjs). By AI agents, Wed Nov 11 2026. No macro, syntax, notation, axiom, sorry.
-/
import Derived.Test.YtohgmkgclgoflaaGreatDoorRows
import GoSem.ClaimSeven
namespace Go.Proofs.YtohgmkgclgoflaaGreatDoor
namespace Rows

/-- THE TIED CARD OF 'gabionlaw12.FrameEncodes'. -/
def frameEncodesCard : Claim7 := { stood := { row := frameEncodesRow, standIns := [], harness := (true, "657626bf81be7665555843110cfa57d9f641601860969e5432f7a5c3c9396e9d"), looks := true }, kinds := [], alts := [], laidByText := true, laidKinds := [.data], laidTests := true, laidLooks := .later }
def FrameEncodesCardSaid : Prop := Claim7.holds Tryz.pinned (.plain (OpenSpec.ofChange frameEncodesSpec)) frameEncodesCard

/-- THE TIED CARD OF 'gabionlaw12.FrameDecodes'. -/
def frameDecodesCard : Claim7 := { stood := { row := frameDecodesRow, standIns := [], harness := (true, "657626bf81be7665555843110cfa57d9f641601860969e5432f7a5c3c9396e9d"), looks := true }, kinds := [], alts := [], laidByText := true, laidKinds := [.data], laidTests := true, laidLooks := .later }
def FrameDecodesCardSaid : Prop := Claim7.holds Tryz.pinned (.plain (OpenSpec.ofChange frameDecodesSpec)) frameDecodesCard

/-- THE TIED CARD OF 'gabionlaw12.FrameSames'. -/
def frameSamesCard : Claim7 := { stood := { row := frameSamesRow, standIns := [], harness := (true, "657626bf81be7665555843110cfa57d9f641601860969e5432f7a5c3c9396e9d"), looks := true }, kinds := [], alts := [], laidByText := true, laidKinds := [.data], laidTests := true, laidLooks := .later }
def FrameSamesCardSaid : Prop := Claim7.holds Tryz.pinned (.plain (OpenSpec.ofChange frameSamesSpec)) frameSamesCard

/-- THE TIED CARD OF 'gabionlaw12.FrameBurst'. -/
def frameBurstCard : Claim7 := { stood := { row := frameBurstRow, standIns := [], harness := (true, "657626bf81be7665555843110cfa57d9f641601860969e5432f7a5c3c9396e9d"), looks := true }, kinds := [], alts := [], laidByText := true, laidKinds := [.data], laidTests := true, laidLooks := .later }
def FrameBurstCardSaid : Prop := Claim7.holds Tryz.pinned (.plain (OpenSpec.ofChange frameBurstSpec)) frameBurstCard

/-- THE SECOND FORM's CARD OF 'gabionlaw12.FrameEncodes'. -/
def frameEncodesUptoCard : Claim7 := { stood := { row := frameEncodesUptoRow, standIns := [], harness := (true, "657626bf81be7665555843110cfa57d9f641601860969e5432f7a5c3c9396e9d"), looks := true }, kinds := [], alts := [], laidByText := true, laidKinds := [.data], laidTests := true, laidLooks := .later }
def FrameEncodesUptoCardSaid : Prop := Claim7.holds Tryz.pinned (.plain (OpenSpec.upto frameEncodesSpec)) frameEncodesUptoCard

/-- THE SECOND FORM's CARD OF 'gabionlaw12.FrameDecodes'. -/
def frameDecodesUptoCard : Claim7 := { stood := { row := frameDecodesUptoRow, standIns := [], harness := (true, "657626bf81be7665555843110cfa57d9f641601860969e5432f7a5c3c9396e9d"), looks := true }, kinds := [], alts := [], laidByText := true, laidKinds := [.data], laidTests := true, laidLooks := .later }
def FrameDecodesUptoCardSaid : Prop := Claim7.holds Tryz.pinned (.plain (OpenSpec.upto frameDecodesSpec)) frameDecodesUptoCard

/-- THE SECOND FORM's CARD OF 'gabionlaw12.FrameSames'. -/
def frameSamesUptoCard : Claim7 := { stood := { row := frameSamesUptoRow, standIns := [], harness := (true, "657626bf81be7665555843110cfa57d9f641601860969e5432f7a5c3c9396e9d"), looks := true }, kinds := [], alts := [], laidByText := true, laidKinds := [.data], laidTests := true, laidLooks := .later }
def FrameSamesUptoCardSaid : Prop := Claim7.holds Tryz.pinned (.plain (OpenSpec.upto frameSamesSpec)) frameSamesUptoCard

/-- THE SECOND FORM's CARD OF 'gabionlaw12.FrameBurst'. -/
def frameBurstUptoCard : Claim7 := { stood := { row := frameBurstUptoRow, standIns := [], harness := (true, "657626bf81be7665555843110cfa57d9f641601860969e5432f7a5c3c9396e9d"), looks := true }, kinds := [], alts := [], laidByText := true, laidKinds := [.data], laidTests := true, laidLooks := .later }
def FrameBurstUptoCardSaid : Prop := Claim7.holds Tryz.pinned (.plain (OpenSpec.upto frameBurstSpec)) frameBurstUptoCard
end Rows
end Go.Proofs.YtohgmkgclgoflaaGreatDoor
