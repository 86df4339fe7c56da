/-
  DERIVED. GIVEN WITH THE SEED: THE CARDS: each row of YtkooafdhceeeoaaGreatDoorRows.lean that lists a variable, with what it lists TIED to the program's text (the seventh form; the later family's looks); each row that meets fmt, with fmt's text TOLD by the authors' own Lean function (tested against real Go, not proved from fmt's source: count such statements apart). THE CARD IS WHAT COUNTS. Prove the row's statement (the work); the ties are given (YtkooafdhceeeoaaGreatDoorTie.lean); close each card by the builder's one call (the guide's Derived/Test/ToyasCard.lean, 'card_holds'). Laid BY PROGRAM, IN A SANDBOX (cutbox-door.mjs). By AI agents, Wed Nov 11 2026. No macro, syntax, notation, axiom, sorry.
-/
import Derived.Test.YtkooafdhceeeoaaGreatDoorRows
import GoSem.ClaimSeven
namespace Go.Proofs.YtkooafdhceeeoaaGreatDoor
namespace Rows

/-- THE TIED CARD OF 'gabionlaw21.TextPrints'. -/
def textPrintsCard : Claim7 := { stood := { row := textPrintsRow, standIns := [], harness := (true, "0cf275d8b6a2189da155ef2d02accc2fcda4739d3ccebd629ca73650048e68dd"), looks := true }, kinds := [], alts := [], laidByText := true, laidKinds := [.data, .data, .data, .sentinel, .sentinel, .data], laidTests := true, laidLooks := .later }
def TextPrintsCardSaid : Prop := Claim7.holds Tryz.pinned (.plain (OpenSpec.ofChange textPrintsSpec)) textPrintsCard

/-- THE TIED CARD OF 'gabionlaw21.TextParsesType'. -/
def textParsesTypeCard : Claim7 := { stood := { row := textParsesTypeRow, standIns := [], harness := (true, "0cf275d8b6a2189da155ef2d02accc2fcda4739d3ccebd629ca73650048e68dd"), looks := true }, kinds := [], alts := [], laidByText := true, laidKinds := [.data, .data, .data, .sentinel, .sentinel, .data], laidTests := true, laidLooks := .later }
def TextParsesTypeCardSaid : Prop := Claim7.holds Tryz.pinned (.plain (OpenSpec.ofChange textParsesTypeSpec)) textParsesTypeCard

/-- THE TIED CARD OF 'gabionlaw21.TextParsesSchema'. -/
def textParsesSchemaCard : Claim7 := { stood := { row := textParsesSchemaRow, standIns := [], harness := (true, "0cf275d8b6a2189da155ef2d02accc2fcda4739d3ccebd629ca73650048e68dd"), looks := true }, kinds := [], alts := [], laidByText := true, laidKinds := [.data, .data, .data, .sentinel, .sentinel, .data], laidTests := true, laidLooks := .later }
def TextParsesSchemaCardSaid : Prop := Claim7.holds Tryz.pinned (.plain (OpenSpec.ofChange textParsesSchemaSpec)) textParsesSchemaCard

/-- THE TIED CARD OF 'gabionlaw21.TextParsesValue'. -/
def textParsesValueCard : Claim7 := { stood := { row := textParsesValueRow, standIns := [], harness := (true, "0cf275d8b6a2189da155ef2d02accc2fcda4739d3ccebd629ca73650048e68dd"), looks := true }, kinds := [], alts := [], laidByText := true, laidKinds := [.data, .data, .data, .sentinel, .sentinel, .data], laidTests := true, laidLooks := .later }
def TextParsesValueCardSaid : Prop := Claim7.holds Tryz.pinned (.plain (OpenSpec.ofChange textParsesValueSpec)) textParsesValueCard

/-- THE TIED CARD OF 'gabionlaw21.TextParsesRow'. -/
def textParsesRowCard : Claim7 := { stood := { row := textParsesRowRow, standIns := [], harness := (true, "0cf275d8b6a2189da155ef2d02accc2fcda4739d3ccebd629ca73650048e68dd"), looks := true }, kinds := [], alts := [], laidByText := true, laidKinds := [.data, .data, .data, .sentinel, .sentinel, .data], laidTests := true, laidLooks := .later }
def TextParsesRowCardSaid : Prop := Claim7.holds Tryz.pinned (.plain (OpenSpec.ofChange textParsesRowSpec)) textParsesRowCard

/-- THE TIED CARD OF 'gabionlaw21.TextBack'. -/
def textBackCard : Claim7 := { stood := { row := textBackRow, standIns := [], harness := (true, "0cf275d8b6a2189da155ef2d02accc2fcda4739d3ccebd629ca73650048e68dd"), looks := true }, kinds := [], alts := [], laidByText := true, laidKinds := [.data, .data, .data, .sentinel, .sentinel, .data], laidTests := true, laidLooks := .later }
def TextBackCardSaid : Prop := Claim7.holds Tryz.pinned (.plain (OpenSpec.ofChange textBackSpec)) textBackCard

/-- THE SECOND FORM's CARD OF 'gabionlaw21.TextPrints'. -/
def textPrintsUptoCard : Claim7 := { stood := { row := textPrintsUptoRow, standIns := [], harness := (true, "0cf275d8b6a2189da155ef2d02accc2fcda4739d3ccebd629ca73650048e68dd"), looks := true }, kinds := [], alts := [], laidByText := true, laidKinds := [.data, .data, .data, .sentinel, .sentinel, .data], laidTests := true, laidLooks := .later }
def TextPrintsUptoCardSaid : Prop := Claim7.holds Tryz.pinned (.plain (OpenSpec.upto textPrintsSpec)) textPrintsUptoCard

/-- THE SECOND FORM's CARD OF 'gabionlaw21.TextParsesType'. -/
def textParsesTypeUptoCard : Claim7 := { stood := { row := textParsesTypeUptoRow, standIns := [], harness := (true, "0cf275d8b6a2189da155ef2d02accc2fcda4739d3ccebd629ca73650048e68dd"), looks := true }, kinds := [], alts := [], laidByText := true, laidKinds := [.data, .data, .data, .sentinel, .sentinel, .data], laidTests := true, laidLooks := .later }
def TextParsesTypeUptoCardSaid : Prop := Claim7.holds Tryz.pinned (.plain (OpenSpec.upto textParsesTypeSpec)) textParsesTypeUptoCard

/-- THE SECOND FORM's CARD OF 'gabionlaw21.TextParsesSchema'. -/
def textParsesSchemaUptoCard : Claim7 := { stood := { row := textParsesSchemaUptoRow, standIns := [], harness := (true, "0cf275d8b6a2189da155ef2d02accc2fcda4739d3ccebd629ca73650048e68dd"), looks := true }, kinds := [], alts := [], laidByText := true, laidKinds := [.data, .data, .data, .sentinel, .sentinel, .data], laidTests := true, laidLooks := .later }
def TextParsesSchemaUptoCardSaid : Prop := Claim7.holds Tryz.pinned (.plain (OpenSpec.upto textParsesSchemaSpec)) textParsesSchemaUptoCard

/-- THE SECOND FORM's CARD OF 'gabionlaw21.TextParsesValue'. -/
def textParsesValueUptoCard : Claim7 := { stood := { row := textParsesValueUptoRow, standIns := [], harness := (true, "0cf275d8b6a2189da155ef2d02accc2fcda4739d3ccebd629ca73650048e68dd"), looks := true }, kinds := [], alts := [], laidByText := true, laidKinds := [.data, .data, .data, .sentinel, .sentinel, .data], laidTests := true, laidLooks := .later }
def TextParsesValueUptoCardSaid : Prop := Claim7.holds Tryz.pinned (.plain (OpenSpec.upto textParsesValueSpec)) textParsesValueUptoCard

/-- THE SECOND FORM's CARD OF 'gabionlaw21.TextParsesRow'. -/
def textParsesRowUptoCard : Claim7 := { stood := { row := textParsesRowUptoRow, standIns := [], harness := (true, "0cf275d8b6a2189da155ef2d02accc2fcda4739d3ccebd629ca73650048e68dd"), looks := true }, kinds := [], alts := [], laidByText := true, laidKinds := [.data, .data, .data, .sentinel, .sentinel, .data], laidTests := true, laidLooks := .later }
def TextParsesRowUptoCardSaid : Prop := Claim7.holds Tryz.pinned (.plain (OpenSpec.upto textParsesRowSpec)) textParsesRowUptoCard

/-- THE SECOND FORM's CARD OF 'gabionlaw21.TextBack'. -/
def textBackUptoCard : Claim7 := { stood := { row := textBackUptoRow, standIns := [], harness := (true, "0cf275d8b6a2189da155ef2d02accc2fcda4739d3ccebd629ca73650048e68dd"), looks := true }, kinds := [], alts := [], laidByText := true, laidKinds := [.data, .data, .data, .sentinel, .sentinel, .data], laidTests := true, laidLooks := .later }
def TextBackUptoCardSaid : Prop := Claim7.holds Tryz.pinned (.plain (OpenSpec.upto textBackSpec)) textBackUptoCard
end Rows
end Go.Proofs.YtkooafdhceeeoaaGreatDoor
