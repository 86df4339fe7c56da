/-
  DERIVED. GIVEN WITH THE SEED: THE CARDS: each row of YtllbniljgcgbeaaGreatDoorRows.lean that lists a variable, with what it lists TIED to the program's text (the seventh form; the later family's looks); each row that meets fmt, with fmt's text TOLD by the authors' own Lean function (tested against real Go, not proved from fmt's source: count such statements apart). THE CARD IS WHAT COUNTS. Prove the row's statement (the work); the ties are given (YtllbniljgcgbeaaGreatDoorTie.lean); close each card by the builder's one call (the guide's Derived/Test/ToyasCard.lean, 'card_holds'). Laid BY PROGRAM, IN A SANDBOX (cutbox-door.mjs). By AI agents, Wed Nov 11 2026. No macro, syntax, notation, axiom, sorry.
-/
import Derived.Test.YtllbniljgcgbeaaGreatDoorRows
import GoSem.ClaimSeven
namespace Go.Proofs.YtllbniljgcgbeaaGreatDoor
namespace Rows

/-- THE TIED CARD OF 'gabionlaw21.TextParsesSchema'. -/
def textParsesSchemaCard : Claim7 := { stood := { row := textParsesSchemaRow, standIns := [], harness := (true, "f4883da5f2b7842021549d321d752703a383a1fb3695c8475a123d199c0928a2"), looks := true }, kinds := [], alts := [], laidByText := true, laidKinds := [.data, .data, .data, .sentinel, .sentinel, .data], laidTests := true, laidLooks := .later }
def TextParsesSchemaCardSaid : Prop := Claim7.holds Tryz.pinned (.plain (OpenSpec.ofChange textParsesSchemaSpec)) textParsesSchemaCard

/-- THE TIED CARD OF 'gabionlaw21.TextParsesValue'. -/
def textParsesValueCard : Claim7 := { stood := { row := textParsesValueRow, standIns := [], harness := (true, "f4883da5f2b7842021549d321d752703a383a1fb3695c8475a123d199c0928a2"), looks := true }, kinds := [], alts := [], laidByText := true, laidKinds := [.data, .data, .data, .sentinel, .sentinel, .data], laidTests := true, laidLooks := .later }
def TextParsesValueCardSaid : Prop := Claim7.holds Tryz.pinned (.plain (OpenSpec.ofChange textParsesValueSpec)) textParsesValueCard

/-- THE TIED CARD OF 'gabionlaw21.TextParsesRow'. -/
def textParsesRowCard : Claim7 := { stood := { row := textParsesRowRow, standIns := [], harness := (true, "f4883da5f2b7842021549d321d752703a383a1fb3695c8475a123d199c0928a2"), looks := true }, kinds := [], alts := [], laidByText := true, laidKinds := [.data, .data, .data, .sentinel, .sentinel, .data], laidTests := true, laidLooks := .later }
def TextParsesRowCardSaid : Prop := Claim7.holds Tryz.pinned (.plain (OpenSpec.ofChange textParsesRowSpec)) textParsesRowCard

/-- THE SECOND FORM's CARD OF 'gabionlaw21.TextParsesSchema'. -/
def textParsesSchemaUptoCard : Claim7 := { stood := { row := textParsesSchemaUptoRow, standIns := [], harness := (true, "f4883da5f2b7842021549d321d752703a383a1fb3695c8475a123d199c0928a2"), looks := true }, kinds := [], alts := [], laidByText := true, laidKinds := [.data, .data, .data, .sentinel, .sentinel, .data], laidTests := true, laidLooks := .later }
def TextParsesSchemaUptoCardSaid : Prop := Claim7.holds Tryz.pinned (.plain (OpenSpec.upto textParsesSchemaSpec)) textParsesSchemaUptoCard

/-- THE SECOND FORM's CARD OF 'gabionlaw21.TextParsesValue'. -/
def textParsesValueUptoCard : Claim7 := { stood := { row := textParsesValueUptoRow, standIns := [], harness := (true, "f4883da5f2b7842021549d321d752703a383a1fb3695c8475a123d199c0928a2"), looks := true }, kinds := [], alts := [], laidByText := true, laidKinds := [.data, .data, .data, .sentinel, .sentinel, .data], laidTests := true, laidLooks := .later }
def TextParsesValueUptoCardSaid : Prop := Claim7.holds Tryz.pinned (.plain (OpenSpec.upto textParsesValueSpec)) textParsesValueUptoCard

/-- THE SECOND FORM's CARD OF 'gabionlaw21.TextParsesRow'. -/
def textParsesRowUptoCard : Claim7 := { stood := { row := textParsesRowUptoRow, standIns := [], harness := (true, "f4883da5f2b7842021549d321d752703a383a1fb3695c8475a123d199c0928a2"), looks := true }, kinds := [], alts := [], laidByText := true, laidKinds := [.data, .data, .data, .sentinel, .sentinel, .data], laidTests := true, laidLooks := .later }
def TextParsesRowUptoCardSaid : Prop := Claim7.holds Tryz.pinned (.plain (OpenSpec.upto textParsesRowSpec)) textParsesRowUptoCard
end Rows
end Go.Proofs.YtllbniljgcgbeaaGreatDoor
