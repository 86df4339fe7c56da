/-
  NARROWER THAN 'FOR EVERY INPUT', by the rows' own cells (each row's printed sentence says how): SchemaChecks: loops · SchemaTypes: loops · SchemaNames: loops · SchemaSames: loops · SchemaIs: loops.
  DERIVED. THE GIVEN ROWS OF THIS SEAT. 6 by the template 'for every input the law returns true; each argument reads behind the call as it read before'; 0 by the template 'total and deterministic' (their statements: YtnjggejallnkoaaTotals.lean).
  GIVEN WITH THE SEED: the statements are not yours to turn. If you find one false, say at which input.
  Laid BY PROGRAM, IN A SANDBOX (cutbox-rows.mjs): the forced cells as the released guide's own fill.sh prints them over the translation c1a2785ab8ef3815… (all of the seat's roots in one cut). By AI agents, Wed Nov 11 2026. No macro, syntax, notation, axiom, sorry.
-/
import Derived.Test.YtnjggejallnkoaaChecked
import GoSem.Claim
import GoSem.ClaimJoined
import GoSem.ClaimMapViews
import Derived.JoinedTies
import Derived.KernelRfl
namespace Go.Proofs.Ytnjggejallnkoaa
/- THE CELL 'sum', in the pinned program and in every row, IS THE sha256 OF THE DUMP (.gsa) THAT YtnjggejallnkoaaProg.lean LOADS. Nothing in Lean hashes anything: it is a label: what it is worth is what the hold of that sum in a sandbox is worth. -/
noncomputable def Try.pinned : Pinned := { name := "ytnjggejallnkoaa", sum := "c1a2785ab8ef3815a2a19b6de7bc6d31dfe7b7df9fadd001490decca0b871aec", checked := Try.checked }
namespace Rows
def none {H : Type} : Left H := { results := [], args := [] }

/-- 'gabionlaw07.SchemaNumbers': WHATEVER THE INPUT: true; the input reads as it did. -/
def schemaNumbersSpec : ChangeSpec := { name := "schemaNumbers", fn := fun _ => fun
  | [] => { results := [.lit (.bool true)], args := [] }
  | _ => none }
def schemaNumbersRow : OpenClaim := { program := "ytnjggejallnkoaa", sum := "c1a2785ab8ef3815a2a19b6de7bc6d31dfe7b7df9fadd001490decca0b871aec", func := "gabion/gabionlaw07.SchemaNumbers", spec := "schemaNumbers", inPlace := ["math.Float64frombits", "math.Float64bits"], unfollowed := true, recurses := true, apart := false }
def SchemaNumbersSaid : Prop := schemaNumbersRow.holds Try.pinned (OpenSpec.ofChange schemaNumbersSpec)

/-- ITS FALSE NEIGHBOUR: 'it returns false'. Refute it at one input. -/
def schemaNumbersWrong : ChangeSpec := { name := "schemaNumbers", fn := fun _ => fun
  | [] => { results := [.lit (.bool false)], args := [] }
  | _ => none }
def SchemaNumbersWrongFalsely : Prop := schemaNumbersRow.holds Try.pinned (OpenSpec.ofChange schemaNumbersWrong)

/-- 'gabionlaw07.SchemaChecks': WHATEVER THE INPUT: true; the input reads as it did. -/
def schemaChecksSpec : ChangeSpec := { name := "schemaChecks", fn := fun _ => fun
  | [d] => { results := [.lit (.bool true)], args := [d] }
  | _ => none }
def schemaChecksRow : OpenClaim := { program := "ytnjggejallnkoaa", sum := "c1a2785ab8ef3815a2a19b6de7bc6d31dfe7b7df9fadd001490decca0b871aec", func := "gabion/gabionlaw07.SchemaChecks", spec := "schemaChecks", inPlace := ["math.Float64frombits", "math.Float64bits"], unfollowed := true, recurses := true, loops := true, apart := false }
def SchemaChecksSaid : Prop := schemaChecksRow.holds Try.pinned (OpenSpec.ofChange schemaChecksSpec)

/-- ITS FALSE NEIGHBOUR: 'it returns false'. Refute it at one input. -/
def schemaChecksWrong : ChangeSpec := { name := "schemaChecks", fn := fun _ => fun
  | [d] => { results := [.lit (.bool false)], args := [d] }
  | _ => none }
def SchemaChecksWrongFalsely : Prop := schemaChecksRow.holds Try.pinned (OpenSpec.ofChange schemaChecksWrong)

/-- 'gabionlaw07.SchemaTypes': WHATEVER THE INPUT: true; the input reads as it did. -/
def schemaTypesSpec : ChangeSpec := { name := "schemaTypes", fn := fun _ => fun
  | [d1, d2] => { results := [.lit (.bool true)], args := [d1, d2] }
  | _ => none }
def schemaTypesRow : OpenClaim := { program := "ytnjggejallnkoaa", sum := "c1a2785ab8ef3815a2a19b6de7bc6d31dfe7b7df9fadd001490decca0b871aec", func := "gabion/gabionlaw07.SchemaTypes", spec := "schemaTypes", inPlace := ["math.Float64frombits", "math.Float64bits"], unfollowed := true, recurses := true, loops := true, apart := false }
def SchemaTypesSaid : Prop := schemaTypesRow.holds Try.pinned (OpenSpec.ofChange schemaTypesSpec)

/-- ITS FALSE NEIGHBOUR: 'it returns false'. Refute it at one input. -/
def schemaTypesWrong : ChangeSpec := { name := "schemaTypes", fn := fun _ => fun
  | [d1, d2] => { results := [.lit (.bool false)], args := [d1, d2] }
  | _ => none }
def SchemaTypesWrongFalsely : Prop := schemaTypesRow.holds Try.pinned (OpenSpec.ofChange schemaTypesWrong)

/-- 'gabionlaw07.SchemaNames': WHATEVER THE INPUT: true; the input reads as it did. -/
def schemaNamesSpec : ChangeSpec := { name := "schemaNames", fn := fun _ => fun
  | [d1, d2] => { results := [.lit (.bool true)], args := [d1, d2] }
  | _ => none }
def schemaNamesRow : OpenClaim := { program := "ytnjggejallnkoaa", sum := "c1a2785ab8ef3815a2a19b6de7bc6d31dfe7b7df9fadd001490decca0b871aec", func := "gabion/gabionlaw07.SchemaNames", spec := "schemaNames", inPlace := ["math.Float64frombits", "math.Float64bits"], unfollowed := true, recurses := true, loops := true, apart := false }
def SchemaNamesSaid : Prop := schemaNamesRow.holds Try.pinned (OpenSpec.ofChange schemaNamesSpec)

/-- ITS FALSE NEIGHBOUR: 'it returns false'. Refute it at one input. -/
def schemaNamesWrong : ChangeSpec := { name := "schemaNames", fn := fun _ => fun
  | [d1, d2] => { results := [.lit (.bool false)], args := [d1, d2] }
  | _ => none }
def SchemaNamesWrongFalsely : Prop := schemaNamesRow.holds Try.pinned (OpenSpec.ofChange schemaNamesWrong)

/-- 'gabionlaw07.SchemaSames': WHATEVER THE INPUT: true; the input reads as it did. -/
def schemaSamesSpec : ChangeSpec := { name := "schemaSames", fn := fun _ => fun
  | [d1, d2] => { results := [.lit (.bool true)], args := [d1, d2] }
  | _ => none }
def schemaSamesRow : OpenClaim := { program := "ytnjggejallnkoaa", sum := "c1a2785ab8ef3815a2a19b6de7bc6d31dfe7b7df9fadd001490decca0b871aec", func := "gabion/gabionlaw07.SchemaSames", spec := "schemaSames", inPlace := ["math.Float64bits", "math.Float64frombits"], unfollowed := true, recurses := true, loops := true, apart := false }
def SchemaSamesSaid : Prop := schemaSamesRow.holds Try.pinned (OpenSpec.ofChange schemaSamesSpec)

/-- ITS FALSE NEIGHBOUR: 'it returns false'. Refute it at one input. -/
def schemaSamesWrong : ChangeSpec := { name := "schemaSames", fn := fun _ => fun
  | [d1, d2] => { results := [.lit (.bool false)], args := [d1, d2] }
  | _ => none }
def SchemaSamesWrongFalsely : Prop := schemaSamesRow.holds Try.pinned (OpenSpec.ofChange schemaSamesWrong)

/-- 'gabionlaw07.SchemaIs': WHATEVER THE INPUT: true; the input reads as it did. -/
def schemaIsSpec : ChangeSpec := { name := "schemaIs", fn := fun _ => fun
  | [d1, d2] => { results := [.lit (.bool true)], args := [d1, d2] }
  | _ => none }
def schemaIsRow : OpenClaim := { program := "ytnjggejallnkoaa", sum := "c1a2785ab8ef3815a2a19b6de7bc6d31dfe7b7df9fadd001490decca0b871aec", func := "gabion/gabionlaw07.SchemaIs", spec := "schemaIs", inPlace := ["math.Float64bits", "math.Float64frombits"], unfollowed := true, recurses := true, loops := true, apart := false }
def SchemaIsSaid : Prop := schemaIsRow.holds Try.pinned (OpenSpec.ofChange schemaIsSpec)

/-- ITS FALSE NEIGHBOUR: 'it returns false'. Refute it at one input. -/
def schemaIsWrong : ChangeSpec := { name := "schemaIs", fn := fun _ => fun
  | [d1, d2] => { results := [.lit (.bool false)], args := [d1, d2] }
  | _ => none }
def SchemaIsWrongFalsely : Prop := schemaIsRow.holds Try.pinned (OpenSpec.ofChange schemaIsWrong)

/- THE SECOND FORM. 'bulk': how many values and letters a reading holds, each counted each time it is reached (what is shared counts as often as it is met; a slice's spare places count too). A statement '..UptoSaid' is the law's where the arguments, and the package variables that the reading takes, are together of bulk at most 1048576: NARROWER than '..Said'. Prove '..Said' where nothing that the law and all that it calls make is longer than what came in: it says more and counts as full. Else prove '..UptoSaid'. A law counts once. -/
mutual
def uptoBulk {H : Type} : DataW H → Nat
  | .lit (.string bytes) => bytes.length + 1
  | .lit _ => 1
  | .nil => 1
  | .ptr d => uptoBulk d + 1
  | .slice elems spare => uptoBulkAll elems + uptoBulkAll spare + 1
  | .agg parts => uptoBulkAll parts + 1
  | .iface _ d => uptoBulk d + 1
  | .map entries => uptoBulkEntries entries + 1
  | .held _ => 1
def uptoBulkAll {H : Type} : List (DataW H) → Nat
  | [] => 0
  | d :: r => uptoBulk d + uptoBulkAll r
def uptoBulkEntries {H : Type} : List (Lit × DataW H) → Nat
  | [] => 0
  | x :: r => uptoBulkEntry x + uptoBulkEntries r
def uptoBulkEntry {H : Type} : Lit × DataW H → Nat
  | (.string bytes, d) => bytes.length + uptoBulk d + 1
  | (_, d) => uptoBulk d + 1
 end
def uptoSmall : (H : Type) → List (DataW H) → Bool := fun _ ds => decide (uptoBulkAll ds ≤ 1048576)
def OpenSpec.upto (s : _root_.Go.ChangeSpec) : _root_.Go.OpenSpec := { _root_.Go.OpenSpec.ofChange s with cond := some uptoSmall }

/-- 'gabionlaw07.SchemaNumbers', WHERE WHAT IT READS IS OF BULK AT MOST 1048576: true; the input reads as it did. -/
def schemaNumbersUptoRow : OpenClaim := { program := "ytnjggejallnkoaa", sum := "c1a2785ab8ef3815a2a19b6de7bc6d31dfe7b7df9fadd001490decca0b871aec", func := "gabion/gabionlaw07.SchemaNumbers", spec := "schemaNumbers", inPlace := ["math.Float64frombits", "math.Float64bits"], unfollowed := true, recurses := true, apart := false, narrowed := true }
def SchemaNumbersUptoSaid : Prop := schemaNumbersUptoRow.holds Try.pinned (OpenSpec.upto schemaNumbersSpec)

/-- 'gabionlaw07.SchemaChecks', WHERE WHAT IT READS IS OF BULK AT MOST 1048576: true; the input reads as it did. -/
def schemaChecksUptoRow : OpenClaim := { program := "ytnjggejallnkoaa", sum := "c1a2785ab8ef3815a2a19b6de7bc6d31dfe7b7df9fadd001490decca0b871aec", func := "gabion/gabionlaw07.SchemaChecks", spec := "schemaChecks", inPlace := ["math.Float64frombits", "math.Float64bits"], unfollowed := true, recurses := true, loops := true, apart := false, narrowed := true }
def SchemaChecksUptoSaid : Prop := schemaChecksUptoRow.holds Try.pinned (OpenSpec.upto schemaChecksSpec)

/-- 'gabionlaw07.SchemaTypes', WHERE WHAT IT READS IS OF BULK AT MOST 1048576: true; the input reads as it did. -/
def schemaTypesUptoRow : OpenClaim := { program := "ytnjggejallnkoaa", sum := "c1a2785ab8ef3815a2a19b6de7bc6d31dfe7b7df9fadd001490decca0b871aec", func := "gabion/gabionlaw07.SchemaTypes", spec := "schemaTypes", inPlace := ["math.Float64frombits", "math.Float64bits"], unfollowed := true, recurses := true, loops := true, apart := false, narrowed := true }
def SchemaTypesUptoSaid : Prop := schemaTypesUptoRow.holds Try.pinned (OpenSpec.upto schemaTypesSpec)

/-- 'gabionlaw07.SchemaNames', WHERE WHAT IT READS IS OF BULK AT MOST 1048576: true; the input reads as it did. -/
def schemaNamesUptoRow : OpenClaim := { program := "ytnjggejallnkoaa", sum := "c1a2785ab8ef3815a2a19b6de7bc6d31dfe7b7df9fadd001490decca0b871aec", func := "gabion/gabionlaw07.SchemaNames", spec := "schemaNames", inPlace := ["math.Float64frombits", "math.Float64bits"], unfollowed := true, recurses := true, loops := true, apart := false, narrowed := true }
def SchemaNamesUptoSaid : Prop := schemaNamesUptoRow.holds Try.pinned (OpenSpec.upto schemaNamesSpec)

/-- 'gabionlaw07.SchemaSames', WHERE WHAT IT READS IS OF BULK AT MOST 1048576: true; the input reads as it did. -/
def schemaSamesUptoRow : OpenClaim := { program := "ytnjggejallnkoaa", sum := "c1a2785ab8ef3815a2a19b6de7bc6d31dfe7b7df9fadd001490decca0b871aec", func := "gabion/gabionlaw07.SchemaSames", spec := "schemaSames", inPlace := ["math.Float64bits", "math.Float64frombits"], unfollowed := true, recurses := true, loops := true, apart := false, narrowed := true }
def SchemaSamesUptoSaid : Prop := schemaSamesUptoRow.holds Try.pinned (OpenSpec.upto schemaSamesSpec)

/-- 'gabionlaw07.SchemaIs', WHERE WHAT IT READS IS OF BULK AT MOST 1048576: true; the input reads as it did. -/
def schemaIsUptoRow : OpenClaim := { program := "ytnjggejallnkoaa", sum := "c1a2785ab8ef3815a2a19b6de7bc6d31dfe7b7df9fadd001490decca0b871aec", func := "gabion/gabionlaw07.SchemaIs", spec := "schemaIs", inPlace := ["math.Float64bits", "math.Float64frombits"], unfollowed := true, recurses := true, loops := true, apart := false, narrowed := true }
def SchemaIsUptoSaid : Prop := schemaIsUptoRow.holds Try.pinned (OpenSpec.upto schemaIsSpec)

end Rows
end Go.Proofs.Ytnjggejallnkoaa
