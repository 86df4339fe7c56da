/-
  DERIVED. GIVEN WITH THE SEED: THE CARDS: each row of YtbahfgdbjgkklaaGreatDoorRows.lean that lists a variable, with what it lists TIED to the program's text (the seventh form; the later family's looks); each row that meets fmt, with fmt's text TOLD by the authors' own Lean function (tested against real Go, not proved from fmt's source: count such statements apart). THE CARD IS WHAT COUNTS. Prove the row's statement (the work); the ties are given (YtbahfgdbjgkklaaGreatDoorTie.lean); close each card by the builder's one call (the guide's Derived/Test/ToyasCard.lean, 'card_holds'). Laid BY PROGRAM, IN A SANDBOX (cutbox-door.mjs). By AI agents, Wed Nov 11 2026. No macro, syntax, notation, axiom, sorry.
-/
import Derived.Test.YtbahfgdbjgkklaaGreatDoorRows
import GoSem.ClaimSeven
namespace Go.Proofs.YtbahfgdbjgkklaaGreatDoor
namespace Rows

/-- THE TIED CARD OF 'gabionlaw17.SalvageSchemas'. -/
def salvageSchemasCard : Claim7 := { stood := { row := salvageSchemasRow, standIns := [], harness := (true, "68b0f8f484eef760cd59888057d430457c0fe01055e908acc86cd6facb90f207"), looks := true }, kinds := [], alts := [], laidByText := true, laidKinds := [.data], laidTests := true, laidLooks := .later }
def SalvageSchemasCardSaid : Prop := Claim7.holds Tryz.pinned (.plain (OpenSpec.ofChange salvageSchemasSpec)) salvageSchemasCard

/-- THE TIED CARD OF 'gabionlaw17.SalvageAll'. -/
def salvageAllCard : Claim7 := { stood := { row := salvageAllRow, standIns := [], harness := (true, "68b0f8f484eef760cd59888057d430457c0fe01055e908acc86cd6facb90f207"), looks := true }, kinds := [], alts := [], laidByText := true, laidKinds := [.data], laidTests := true, laidLooks := .later }
def SalvageAllCardSaid : Prop := Claim7.holds Tryz.pinned (.plain (OpenSpec.ofChange salvageAllSpec)) salvageAllCard

/-- THE TIED CARD OF 'gabionlaw17.SalvageFeeds'. -/
def salvageFeedsCard : Claim7 := { stood := { row := salvageFeedsRow, standIns := [], harness := (true, "68b0f8f484eef760cd59888057d430457c0fe01055e908acc86cd6facb90f207"), looks := true }, kinds := [], alts := [], laidByText := true, laidKinds := [.data], laidTests := true, laidLooks := .later }
def SalvageFeedsCardSaid : Prop := Claim7.holds Tryz.pinned (.plain (OpenSpec.ofChange salvageFeedsSpec)) salvageFeedsCard

/-- THE TIED CARD OF 'gabionlaw17.SalvageSaves'. -/
def salvageSavesCard : Claim7 := { stood := { row := salvageSavesRow, standIns := [], harness := (true, "68b0f8f484eef760cd59888057d430457c0fe01055e908acc86cd6facb90f207"), looks := true }, kinds := [], alts := [], laidByText := true, laidKinds := [.data], laidTests := true, laidLooks := .later }
def SalvageSavesCardSaid : Prop := Claim7.holds Tryz.pinned (.plain (OpenSpec.ofChange salvageSavesSpec)) salvageSavesCard

/-- THE SECOND FORM's CARD OF 'gabionlaw17.SalvageSchemas'. -/
def salvageSchemasUptoCard : Claim7 := { stood := { row := salvageSchemasUptoRow, standIns := [], harness := (true, "68b0f8f484eef760cd59888057d430457c0fe01055e908acc86cd6facb90f207"), looks := true }, kinds := [], alts := [], laidByText := true, laidKinds := [.data], laidTests := true, laidLooks := .later }
def SalvageSchemasUptoCardSaid : Prop := Claim7.holds Tryz.pinned (.plain (OpenSpec.upto salvageSchemasSpec)) salvageSchemasUptoCard

/-- THE SECOND FORM's CARD OF 'gabionlaw17.SalvageAll'. -/
def salvageAllUptoCard : Claim7 := { stood := { row := salvageAllUptoRow, standIns := [], harness := (true, "68b0f8f484eef760cd59888057d430457c0fe01055e908acc86cd6facb90f207"), looks := true }, kinds := [], alts := [], laidByText := true, laidKinds := [.data], laidTests := true, laidLooks := .later }
def SalvageAllUptoCardSaid : Prop := Claim7.holds Tryz.pinned (.plain (OpenSpec.upto salvageAllSpec)) salvageAllUptoCard

/-- THE SECOND FORM's CARD OF 'gabionlaw17.SalvageFeeds'. -/
def salvageFeedsUptoCard : Claim7 := { stood := { row := salvageFeedsUptoRow, standIns := [], harness := (true, "68b0f8f484eef760cd59888057d430457c0fe01055e908acc86cd6facb90f207"), looks := true }, kinds := [], alts := [], laidByText := true, laidKinds := [.data], laidTests := true, laidLooks := .later }
def SalvageFeedsUptoCardSaid : Prop := Claim7.holds Tryz.pinned (.plain (OpenSpec.upto salvageFeedsSpec)) salvageFeedsUptoCard

/-- THE SECOND FORM's CARD OF 'gabionlaw17.SalvageSaves'. -/
def salvageSavesUptoCard : Claim7 := { stood := { row := salvageSavesUptoRow, standIns := [], harness := (true, "68b0f8f484eef760cd59888057d430457c0fe01055e908acc86cd6facb90f207"), looks := true }, kinds := [], alts := [], laidByText := true, laidKinds := [.data], laidTests := true, laidLooks := .later }
def SalvageSavesUptoCardSaid : Prop := Claim7.holds Tryz.pinned (.plain (OpenSpec.upto salvageSavesSpec)) salvageSavesUptoCard
end Rows
end Go.Proofs.YtbahfgdbjgkklaaGreatDoor
