/-
  DERIVED. GIVEN WITH THE SEED: THE CARDS: each row of YtpjcmahlnnglcaaGreatDoorRows.lean that lists a variable, with what it lists TIED to the program's text (the seventh form; the later family's looks); each row that meets fmt, with fmt's text TOLD by the authors' own Lean function (tested against real Go, not proved from fmt's source: count such statements apart). THE CARD IS WHAT COUNTS. Prove the row's statement (the work); the ties are given (YtpjcmahlnnglcaaGreatDoorTie.lean); close each card by the builder's one call (the guide's Derived/Test/ToyasCard.lean, 'card_holds'). Laid BY PROGRAM, IN A SANDBOX (cutbox-door.mjs). By AI agents, Wed Nov 11 2026. No macro, syntax, notation, axiom, sorry.
-/
import Derived.Test.YtpjcmahlnnglcaaGreatDoorRows
import GoSem.ClaimSeven
namespace Go.Proofs.YtpjcmahlnnglcaaGreatDoor
namespace Rows

/-- THE TIED CARD OF 'gabionlaw21.TextPrints'. -/
def textPrintsCard : Claim7 := { stood := { row := textPrintsRow, standIns := [], harness := (true, "5834679609a4314b07b08af0e761b4fc837327b516197f100e4b7028248c8d51"), looks := true }, kinds := [], alts := [], laidByText := true, laidKinds := [.data, .data, .data, .sentinel, .sentinel, .data], laidTests := true, laidLooks := .later }
def TextPrintsCardSaid : Prop := Claim7.holds Tryz.pinned (.plain (OpenSpec.ofChange textPrintsSpec)) textPrintsCard

/-- THE TIED CARD OF 'gabionlaw21.TextParsesType'. -/
def textParsesTypeCard : Claim7 := { stood := { row := textParsesTypeRow, standIns := [], harness := (true, "5834679609a4314b07b08af0e761b4fc837327b516197f100e4b7028248c8d51"), looks := true }, kinds := [], alts := [], laidByText := true, laidKinds := [.data, .data, .data, .sentinel, .sentinel, .data], laidTests := true, laidLooks := .later }
def TextParsesTypeCardSaid : Prop := Claim7.holds Tryz.pinned (.plain (OpenSpec.ofChange textParsesTypeSpec)) textParsesTypeCard

/-- THE TIED CARD OF 'gabionlaw21.TextParsesSchema'. -/
def textParsesSchemaCard : Claim7 := { stood := { row := textParsesSchemaRow, standIns := [], harness := (true, "5834679609a4314b07b08af0e761b4fc837327b516197f100e4b7028248c8d51"), looks := true }, kinds := [], alts := [], laidByText := true, laidKinds := [.data, .data, .data, .sentinel, .sentinel, .data], laidTests := true, laidLooks := .later }
def TextParsesSchemaCardSaid : Prop := Claim7.holds Tryz.pinned (.plain (OpenSpec.ofChange textParsesSchemaSpec)) textParsesSchemaCard

/-- THE TIED CARD OF 'gabionlaw21.TextParsesValue'. -/
def textParsesValueCard : Claim7 := { stood := { row := textParsesValueRow, standIns := [], harness := (true, "5834679609a4314b07b08af0e761b4fc837327b516197f100e4b7028248c8d51"), looks := true }, kinds := [], alts := [], laidByText := true, laidKinds := [.data, .data, .data, .sentinel, .sentinel, .data], laidTests := true, laidLooks := .later }
def TextParsesValueCardSaid : Prop := Claim7.holds Tryz.pinned (.plain (OpenSpec.ofChange textParsesValueSpec)) textParsesValueCard

/-- THE TIED CARD OF 'gabionlaw21.TextParsesRow'. -/
def textParsesRowCard : Claim7 := { stood := { row := textParsesRowRow, standIns := [], harness := (true, "5834679609a4314b07b08af0e761b4fc837327b516197f100e4b7028248c8d51"), looks := true }, kinds := [], alts := [], laidByText := true, laidKinds := [.data, .data, .data, .sentinel, .sentinel, .data], laidTests := true, laidLooks := .later }
def TextParsesRowCardSaid : Prop := Claim7.holds Tryz.pinned (.plain (OpenSpec.ofChange textParsesRowSpec)) textParsesRowCard

/-- THE SECOND FORM's CARD OF 'gabionlaw21.TextPrints'. -/
def textPrintsUptoCard : Claim7 := { stood := { row := textPrintsUptoRow, standIns := [], harness := (true, "5834679609a4314b07b08af0e761b4fc837327b516197f100e4b7028248c8d51"), looks := true }, kinds := [], alts := [], laidByText := true, laidKinds := [.data, .data, .data, .sentinel, .sentinel, .data], laidTests := true, laidLooks := .later }
def TextPrintsUptoCardSaid : Prop := Claim7.holds Tryz.pinned (.plain (OpenSpec.upto textPrintsSpec)) textPrintsUptoCard

/-- THE SECOND FORM's CARD OF 'gabionlaw21.TextParsesType'. -/
def textParsesTypeUptoCard : Claim7 := { stood := { row := textParsesTypeUptoRow, standIns := [], harness := (true, "5834679609a4314b07b08af0e761b4fc837327b516197f100e4b7028248c8d51"), looks := true }, kinds := [], alts := [], laidByText := true, laidKinds := [.data, .data, .data, .sentinel, .sentinel, .data], laidTests := true, laidLooks := .later }
def TextParsesTypeUptoCardSaid : Prop := Claim7.holds Tryz.pinned (.plain (OpenSpec.upto textParsesTypeSpec)) textParsesTypeUptoCard

/-- THE SECOND FORM's CARD OF 'gabionlaw21.TextParsesSchema'. -/
def textParsesSchemaUptoCard : Claim7 := { stood := { row := textParsesSchemaUptoRow, standIns := [], harness := (true, "5834679609a4314b07b08af0e761b4fc837327b516197f100e4b7028248c8d51"), looks := true }, kinds := [], alts := [], laidByText := true, laidKinds := [.data, .data, .data, .sentinel, .sentinel, .data], laidTests := true, laidLooks := .later }
def TextParsesSchemaUptoCardSaid : Prop := Claim7.holds Tryz.pinned (.plain (OpenSpec.upto textParsesSchemaSpec)) textParsesSchemaUptoCard

/-- THE SECOND FORM's CARD OF 'gabionlaw21.TextParsesValue'. -/
def textParsesValueUptoCard : Claim7 := { stood := { row := textParsesValueUptoRow, standIns := [], harness := (true, "5834679609a4314b07b08af0e761b4fc837327b516197f100e4b7028248c8d51"), looks := true }, kinds := [], alts := [], laidByText := true, laidKinds := [.data, .data, .data, .sentinel, .sentinel, .data], laidTests := true, laidLooks := .later }
def TextParsesValueUptoCardSaid : Prop := Claim7.holds Tryz.pinned (.plain (OpenSpec.upto textParsesValueSpec)) textParsesValueUptoCard

/-- THE SECOND FORM's CARD OF 'gabionlaw21.TextParsesRow'. -/
def textParsesRowUptoCard : Claim7 := { stood := { row := textParsesRowUptoRow, standIns := [], harness := (true, "5834679609a4314b07b08af0e761b4fc837327b516197f100e4b7028248c8d51"), looks := true }, kinds := [], alts := [], laidByText := true, laidKinds := [.data, .data, .data, .sentinel, .sentinel, .data], laidTests := true, laidLooks := .later }
def TextParsesRowUptoCardSaid : Prop := Claim7.holds Tryz.pinned (.plain (OpenSpec.upto textParsesRowSpec)) textParsesRowUptoCard
end Rows
end Go.Proofs.YtpjcmahlnnglcaaGreatDoor
