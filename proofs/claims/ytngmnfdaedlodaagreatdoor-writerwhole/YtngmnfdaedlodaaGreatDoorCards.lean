/-
  DERIVED. GIVEN WITH THE SEED: THE CARDS: each row of YtngmnfdaedlodaaGreatDoorRows.lean that lists a variable, with what it lists TIED to the program's text (the seventh form; the later family's looks); each row that meets fmt, with fmt's text TOLD by the authors' own Lean function (tested against real Go, not proved from fmt's source: count such statements apart). THE CARD IS WHAT COUNTS. Prove the row's statement (the work); the ties are given (YtngmnfdaedlodaaGreatDoorTie.lean); close each card by the builder's one call (the guide's Derived/Test/ToyasCard.lean, 'card_holds'). Laid BY PROGRAM, IN A SANDBOX (cutbox-door.mjs). By AI agents, Wed Nov 11 2026. No macro, syntax, notation, axiom, sorry.
-/
import Derived.Test.YtngmnfdaedlodaaGreatDoorRows
import GoSem.ClaimSeven
namespace Go.Proofs.YtngmnfdaedlodaaGreatDoor
namespace Rows

/-- THE TIED CARD OF 'gabionlaw19.WriterTwice'. -/
def writerTwiceCard : Claim7 := { stood := { row := writerTwiceRow, standIns := [], harness := (true, "bf0b4e636d282cfa5b76cd02ef5fa61a0a92de633843ff59e8df8000b4deb443"), looks := true }, kinds := [], alts := [], laidByText := true, laidKinds := [.data, .handle], laidTests := true, laidLooks := .later }
def WriterTwiceCardSaid : Prop := Claim7.holds Tryz.pinned (.plain (OpenSpec.ofChange writerTwiceSpec)) writerTwiceCard

/-- THE TIED CARD OF 'gabionlaw19.WriterWhole'. -/
def writerWholeCard : Claim7 := { stood := { row := writerWholeRow, standIns := [], harness := (true, "bf0b4e636d282cfa5b76cd02ef5fa61a0a92de633843ff59e8df8000b4deb443"), looks := true }, kinds := [], alts := [], laidByText := true, laidKinds := [.data, .handle], laidTests := true, laidLooks := .later }
def WriterWholeCardSaid : Prop := Claim7.holds Tryz.pinned (.plain (OpenSpec.ofChange writerWholeSpec)) writerWholeCard

/-- THE TIED CARD OF 'gabionlaw19.WriterNeeds'. -/
def writerNeedsCard : Claim7 := { stood := { row := writerNeedsRow, standIns := [], harness := (true, "bf0b4e636d282cfa5b76cd02ef5fa61a0a92de633843ff59e8df8000b4deb443"), looks := true }, kinds := [], alts := [], laidByText := true, laidKinds := [.data, .handle], laidTests := true, laidLooks := .later }
def WriterNeedsCardSaid : Prop := Claim7.holds Tryz.pinned (.plain (OpenSpec.ofChange writerNeedsSpec)) writerNeedsCard

/-- THE SECOND FORM's CARD OF 'gabionlaw19.WriterTwice'. -/
def writerTwiceUptoCard : Claim7 := { stood := { row := writerTwiceUptoRow, standIns := [], harness := (true, "bf0b4e636d282cfa5b76cd02ef5fa61a0a92de633843ff59e8df8000b4deb443"), looks := true }, kinds := [], alts := [], laidByText := true, laidKinds := [.data, .handle], laidTests := true, laidLooks := .later }
def WriterTwiceUptoCardSaid : Prop := Claim7.holds Tryz.pinned (.plain (OpenSpec.upto writerTwiceSpec)) writerTwiceUptoCard

/-- THE SECOND FORM's CARD OF 'gabionlaw19.WriterWhole'. -/
def writerWholeUptoCard : Claim7 := { stood := { row := writerWholeUptoRow, standIns := [], harness := (true, "bf0b4e636d282cfa5b76cd02ef5fa61a0a92de633843ff59e8df8000b4deb443"), looks := true }, kinds := [], alts := [], laidByText := true, laidKinds := [.data, .handle], laidTests := true, laidLooks := .later }
def WriterWholeUptoCardSaid : Prop := Claim7.holds Tryz.pinned (.plain (OpenSpec.upto writerWholeSpec)) writerWholeUptoCard

/-- THE SECOND FORM's CARD OF 'gabionlaw19.WriterNeeds'. -/
def writerNeedsUptoCard : Claim7 := { stood := { row := writerNeedsUptoRow, standIns := [], harness := (true, "bf0b4e636d282cfa5b76cd02ef5fa61a0a92de633843ff59e8df8000b4deb443"), looks := true }, kinds := [], alts := [], laidByText := true, laidKinds := [.data, .handle], laidTests := true, laidLooks := .later }
def WriterNeedsUptoCardSaid : Prop := Claim7.holds Tryz.pinned (.plain (OpenSpec.upto writerNeedsSpec)) writerNeedsUptoCard
end Rows
end Go.Proofs.YtngmnfdaedlodaaGreatDoor
