/-
  DERIVED. GIVEN WITH THE SEED: THE CARDS: each row of YtmgcfkpmknogaaaGreatDoorRows.lean that lists a variable, with what it lists TIED to the program's text (the seventh form; the later family's looks); each row that meets fmt, with fmt's text TOLD by the authors' own Lean function (tested against real Go, not proved from fmt's source: count such statements apart). THE CARD IS WHAT COUNTS. Prove the row's statement (the work); the ties are given (YtmgcfkpmknogaaaGreatDoorTie.lean); close each card by the builder's one call (the guide's Derived/Test/ToyasCard.lean, 'card_holds'). Laid BY PROGRAM, IN A SANDBOX (cutbox-door.mjs). By AI agents, Wed Nov 11 2026. No macro, syntax, notation, axiom, sorry.
-/
import Derived.Test.YtmgcfkpmknogaaaGreatDoorRows
import GoSem.ClaimSeven
namespace Go.Proofs.YtmgcfkpmknogaaaGreatDoor
namespace Rows

/-- THE TIED CARD OF 'gabionlaw15.RepairLooks'. -/
def repairLooksCard : Claim7 := { stood := { row := repairLooksRow, standIns := [], harness := (true, "f7c6bc2e5cad9c826a0ca3d2fe3fe5eab1d7f6c85b60855f6784ea9dff0a1f12"), looks := true }, kinds := [], alts := [], laidByText := true, laidKinds := [.data, .handle], laidTests := true, laidLooks := .later }
def RepairLooksCardSaid : Prop := Claim7.holds Tryz.pinned (.plain (OpenSpec.ofChange repairLooksSpec)) repairLooksCard

/-- THE TIED CARD OF 'gabionlaw15.RepairDoes'. -/
def repairDoesCard : Claim7 := { stood := { row := repairDoesRow, standIns := [], harness := (true, "f7c6bc2e5cad9c826a0ca3d2fe3fe5eab1d7f6c85b60855f6784ea9dff0a1f12"), looks := true }, kinds := [], alts := [], laidByText := true, laidKinds := [.data, .handle], laidTests := true, laidLooks := .later }
def RepairDoesCardSaid : Prop := Claim7.holds Tryz.pinned (.plain (OpenSpec.ofChange repairDoesSpec)) repairDoesCard

/-- THE TIED CARD OF 'gabionlaw15.RepairWhole'. -/
def repairWholeCard : Claim7 := { stood := { row := repairWholeRow, standIns := [], harness := (true, "f7c6bc2e5cad9c826a0ca3d2fe3fe5eab1d7f6c85b60855f6784ea9dff0a1f12"), looks := true }, kinds := [], alts := [], laidByText := true, laidKinds := [.data, .handle], laidTests := true, laidLooks := .later }
def RepairWholeCardSaid : Prop := Claim7.holds Tryz.pinned (.plain (OpenSpec.ofChange repairWholeSpec)) repairWholeCard

/-- THE TIED CARD OF 'gabionlaw15.RepairFirst'. -/
def repairFirstCard : Claim7 := { stood := { row := repairFirstRow, standIns := [], harness := (true, "f7c6bc2e5cad9c826a0ca3d2fe3fe5eab1d7f6c85b60855f6784ea9dff0a1f12"), looks := true }, kinds := [], alts := [], laidByText := true, laidKinds := [.data, .handle], laidTests := true, laidLooks := .later }
def RepairFirstCardSaid : Prop := Claim7.holds Tryz.pinned (.plain (OpenSpec.ofChange repairFirstSpec)) repairFirstCard

/-- THE TIED CARD OF 'gabionlaw15.RepairAgain'. -/
def repairAgainCard : Claim7 := { stood := { row := repairAgainRow, standIns := [], harness := (true, "f7c6bc2e5cad9c826a0ca3d2fe3fe5eab1d7f6c85b60855f6784ea9dff0a1f12"), looks := true }, kinds := [], alts := [], laidByText := true, laidKinds := [.data, .handle], laidTests := true, laidLooks := .later }
def RepairAgainCardSaid : Prop := Claim7.holds Tryz.pinned (.plain (OpenSpec.ofChange repairAgainSpec)) repairAgainCard

/-- THE TIED CARD OF 'gabionlaw14.ScanWalks'. -/
def scanWalksCard : Claim7 := { stood := { row := scanWalksRow, standIns := [], harness := (true, "f7c6bc2e5cad9c826a0ca3d2fe3fe5eab1d7f6c85b60855f6784ea9dff0a1f12"), looks := true }, kinds := [], alts := [], laidByText := true, laidKinds := [.data], laidTests := true, laidLooks := .later }
def ScanWalksCardSaid : Prop := Claim7.holds Tryz.pinned (.plain (OpenSpec.ofChange scanWalksSpec)) scanWalksCard

/-- THE TIED CARD OF 'gabionlaw14.ScanWhole'. -/
def scanWholeCard : Claim7 := { stood := { row := scanWholeRow, standIns := [], harness := (true, "f7c6bc2e5cad9c826a0ca3d2fe3fe5eab1d7f6c85b60855f6784ea9dff0a1f12"), looks := true }, kinds := [], alts := [], laidByText := true, laidKinds := [.data], laidTests := true, laidLooks := .later }
def ScanWholeCardSaid : Prop := Claim7.holds Tryz.pinned (.plain (OpenSpec.ofChange scanWholeSpec)) scanWholeCard

/-- THE TIED CARD OF 'gabionlaw14.ScanResumes'. -/
def scanResumesCard : Claim7 := { stood := { row := scanResumesRow, standIns := [], harness := (true, "f7c6bc2e5cad9c826a0ca3d2fe3fe5eab1d7f6c85b60855f6784ea9dff0a1f12"), looks := true }, kinds := [], alts := [], laidByText := true, laidKinds := [.data], laidTests := true, laidLooks := .later }
def ScanResumesCardSaid : Prop := Claim7.holds Tryz.pinned (.plain (OpenSpec.ofChange scanResumesSpec)) scanResumesCard

/-- THE TIED CARD OF 'gabionlaw14.ScanClones'. -/
def scanClonesCard : Claim7 := { stood := { row := scanClonesRow, standIns := [], harness := (true, "f7c6bc2e5cad9c826a0ca3d2fe3fe5eab1d7f6c85b60855f6784ea9dff0a1f12"), looks := true }, kinds := [], alts := [], laidByText := true, laidKinds := [.data], laidTests := true, laidLooks := .later }
def ScanClonesCardSaid : Prop := Claim7.holds Tryz.pinned (.plain (OpenSpec.ofChange scanClonesSpec)) scanClonesCard

/-- THE SECOND FORM's CARD OF 'gabionlaw15.RepairLooks'. -/
def repairLooksUptoCard : Claim7 := { stood := { row := repairLooksUptoRow, standIns := [], harness := (true, "f7c6bc2e5cad9c826a0ca3d2fe3fe5eab1d7f6c85b60855f6784ea9dff0a1f12"), looks := true }, kinds := [], alts := [], laidByText := true, laidKinds := [.data, .handle], laidTests := true, laidLooks := .later }
def RepairLooksUptoCardSaid : Prop := Claim7.holds Tryz.pinned (.plain (OpenSpec.upto repairLooksSpec)) repairLooksUptoCard

/-- THE SECOND FORM's CARD OF 'gabionlaw15.RepairDoes'. -/
def repairDoesUptoCard : Claim7 := { stood := { row := repairDoesUptoRow, standIns := [], harness := (true, "f7c6bc2e5cad9c826a0ca3d2fe3fe5eab1d7f6c85b60855f6784ea9dff0a1f12"), looks := true }, kinds := [], alts := [], laidByText := true, laidKinds := [.data, .handle], laidTests := true, laidLooks := .later }
def RepairDoesUptoCardSaid : Prop := Claim7.holds Tryz.pinned (.plain (OpenSpec.upto repairDoesSpec)) repairDoesUptoCard

/-- THE SECOND FORM's CARD OF 'gabionlaw15.RepairWhole'. -/
def repairWholeUptoCard : Claim7 := { stood := { row := repairWholeUptoRow, standIns := [], harness := (true, "f7c6bc2e5cad9c826a0ca3d2fe3fe5eab1d7f6c85b60855f6784ea9dff0a1f12"), looks := true }, kinds := [], alts := [], laidByText := true, laidKinds := [.data, .handle], laidTests := true, laidLooks := .later }
def RepairWholeUptoCardSaid : Prop := Claim7.holds Tryz.pinned (.plain (OpenSpec.upto repairWholeSpec)) repairWholeUptoCard

/-- THE SECOND FORM's CARD OF 'gabionlaw15.RepairFirst'. -/
def repairFirstUptoCard : Claim7 := { stood := { row := repairFirstUptoRow, standIns := [], harness := (true, "f7c6bc2e5cad9c826a0ca3d2fe3fe5eab1d7f6c85b60855f6784ea9dff0a1f12"), looks := true }, kinds := [], alts := [], laidByText := true, laidKinds := [.data, .handle], laidTests := true, laidLooks := .later }
def RepairFirstUptoCardSaid : Prop := Claim7.holds Tryz.pinned (.plain (OpenSpec.upto repairFirstSpec)) repairFirstUptoCard

/-- THE SECOND FORM's CARD OF 'gabionlaw15.RepairAgain'. -/
def repairAgainUptoCard : Claim7 := { stood := { row := repairAgainUptoRow, standIns := [], harness := (true, "f7c6bc2e5cad9c826a0ca3d2fe3fe5eab1d7f6c85b60855f6784ea9dff0a1f12"), looks := true }, kinds := [], alts := [], laidByText := true, laidKinds := [.data, .handle], laidTests := true, laidLooks := .later }
def RepairAgainUptoCardSaid : Prop := Claim7.holds Tryz.pinned (.plain (OpenSpec.upto repairAgainSpec)) repairAgainUptoCard

/-- THE SECOND FORM's CARD OF 'gabionlaw14.ScanWalks'. -/
def scanWalksUptoCard : Claim7 := { stood := { row := scanWalksUptoRow, standIns := [], harness := (true, "f7c6bc2e5cad9c826a0ca3d2fe3fe5eab1d7f6c85b60855f6784ea9dff0a1f12"), looks := true }, kinds := [], alts := [], laidByText := true, laidKinds := [.data], laidTests := true, laidLooks := .later }
def ScanWalksUptoCardSaid : Prop := Claim7.holds Tryz.pinned (.plain (OpenSpec.upto scanWalksSpec)) scanWalksUptoCard

/-- THE SECOND FORM's CARD OF 'gabionlaw14.ScanWhole'. -/
def scanWholeUptoCard : Claim7 := { stood := { row := scanWholeUptoRow, standIns := [], harness := (true, "f7c6bc2e5cad9c826a0ca3d2fe3fe5eab1d7f6c85b60855f6784ea9dff0a1f12"), looks := true }, kinds := [], alts := [], laidByText := true, laidKinds := [.data], laidTests := true, laidLooks := .later }
def ScanWholeUptoCardSaid : Prop := Claim7.holds Tryz.pinned (.plain (OpenSpec.upto scanWholeSpec)) scanWholeUptoCard

/-- THE SECOND FORM's CARD OF 'gabionlaw14.ScanResumes'. -/
def scanResumesUptoCard : Claim7 := { stood := { row := scanResumesUptoRow, standIns := [], harness := (true, "f7c6bc2e5cad9c826a0ca3d2fe3fe5eab1d7f6c85b60855f6784ea9dff0a1f12"), looks := true }, kinds := [], alts := [], laidByText := true, laidKinds := [.data], laidTests := true, laidLooks := .later }
def ScanResumesUptoCardSaid : Prop := Claim7.holds Tryz.pinned (.plain (OpenSpec.upto scanResumesSpec)) scanResumesUptoCard

/-- THE SECOND FORM's CARD OF 'gabionlaw14.ScanClones'. -/
def scanClonesUptoCard : Claim7 := { stood := { row := scanClonesUptoRow, standIns := [], harness := (true, "f7c6bc2e5cad9c826a0ca3d2fe3fe5eab1d7f6c85b60855f6784ea9dff0a1f12"), looks := true }, kinds := [], alts := [], laidByText := true, laidKinds := [.data], laidTests := true, laidLooks := .later }
def ScanClonesUptoCardSaid : Prop := Claim7.holds Tryz.pinned (.plain (OpenSpec.upto scanClonesSpec)) scanClonesUptoCard
end Rows
end Go.Proofs.YtmgcfkpmknogaaaGreatDoor
