/-
  DERIVED. GIVEN WITH THE SEED: THE CARDS: each row of YtlgfdgdlaahpfaaGreatDoorRows.lean that lists a variable, with what it lists TIED to the program's text (the seventh form; the later family's looks); each row that meets fmt, with fmt's text TOLD by the authors' own Lean function (tested against real Go, not proved from fmt's source: count such statements apart). THE CARD IS WHAT COUNTS. Prove the row's statement (the work); the ties are given (YtlgfdgdlaahpfaaGreatDoorTie.lean); close each card by the builder's one call (the guide's Derived/Test/ToyasCard.lean, 'card_holds'). Laid BY PROGRAM, IN A SANDBOX (cutbox-door.mjs). By AI agents, Wed Nov 11 2026. No macro, syntax, notation, axiom, sorry.
-/
import Derived.Test.YtlgfdgdlaahpfaaGreatDoorRows
import GoSem.ClaimSeven
namespace Go.Proofs.YtlgfdgdlaahpfaaGreatDoor
namespace Rows

/-- THE TIED CARD OF 'gabionlaw14.ScanWalks'. -/
def scanWalksCard : Claim7 := { stood := { row := scanWalksRow, standIns := [], harness := (true, "d2d2010e6db2c4455b879eb0ac5e701785e1a85f4e5f590a516bffbe96a53094"), looks := true }, kinds := [], alts := [], laidByText := true, laidKinds := [.data], laidTests := true, laidLooks := .later }
def ScanWalksCardSaid : Prop := Claim7.holds Tryz.pinned (.plain (OpenSpec.ofChange scanWalksSpec)) scanWalksCard

/-- THE TIED CARD OF 'gabionlaw14.ScanResumes'. -/
def scanResumesCard : Claim7 := { stood := { row := scanResumesRow, standIns := [], harness := (true, "d2d2010e6db2c4455b879eb0ac5e701785e1a85f4e5f590a516bffbe96a53094"), looks := true }, kinds := [], alts := [], laidByText := true, laidKinds := [.data], laidTests := true, laidLooks := .later }
def ScanResumesCardSaid : Prop := Claim7.holds Tryz.pinned (.plain (OpenSpec.ofChange scanResumesSpec)) scanResumesCard

/-- THE TIED CARD OF 'gabionlaw14.ScanClones'. -/
def scanClonesCard : Claim7 := { stood := { row := scanClonesRow, standIns := [], harness := (true, "d2d2010e6db2c4455b879eb0ac5e701785e1a85f4e5f590a516bffbe96a53094"), looks := true }, kinds := [], alts := [], laidByText := true, laidKinds := [.data], laidTests := true, laidLooks := .later }
def ScanClonesCardSaid : Prop := Claim7.holds Tryz.pinned (.plain (OpenSpec.ofChange scanClonesSpec)) scanClonesCard

/-- THE SECOND FORM's CARD OF 'gabionlaw14.ScanWalks'. -/
def scanWalksUptoCard : Claim7 := { stood := { row := scanWalksUptoRow, standIns := [], harness := (true, "d2d2010e6db2c4455b879eb0ac5e701785e1a85f4e5f590a516bffbe96a53094"), looks := true }, kinds := [], alts := [], laidByText := true, laidKinds := [.data], laidTests := true, laidLooks := .later }
def ScanWalksUptoCardSaid : Prop := Claim7.holds Tryz.pinned (.plain (OpenSpec.upto scanWalksSpec)) scanWalksUptoCard

/-- THE SECOND FORM's CARD OF 'gabionlaw14.ScanResumes'. -/
def scanResumesUptoCard : Claim7 := { stood := { row := scanResumesUptoRow, standIns := [], harness := (true, "d2d2010e6db2c4455b879eb0ac5e701785e1a85f4e5f590a516bffbe96a53094"), looks := true }, kinds := [], alts := [], laidByText := true, laidKinds := [.data], laidTests := true, laidLooks := .later }
def ScanResumesUptoCardSaid : Prop := Claim7.holds Tryz.pinned (.plain (OpenSpec.upto scanResumesSpec)) scanResumesUptoCard

/-- THE SECOND FORM's CARD OF 'gabionlaw14.ScanClones'. -/
def scanClonesUptoCard : Claim7 := { stood := { row := scanClonesUptoRow, standIns := [], harness := (true, "d2d2010e6db2c4455b879eb0ac5e701785e1a85f4e5f590a516bffbe96a53094"), looks := true }, kinds := [], alts := [], laidByText := true, laidKinds := [.data], laidTests := true, laidLooks := .later }
def ScanClonesUptoCardSaid : Prop := Claim7.holds Tryz.pinned (.plain (OpenSpec.upto scanClonesSpec)) scanClonesUptoCard
end Rows
end Go.Proofs.YtlgfdgdlaahpfaaGreatDoor
