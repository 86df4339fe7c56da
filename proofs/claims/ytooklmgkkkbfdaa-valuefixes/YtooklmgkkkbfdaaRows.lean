/-
  NARROWER THAN 'FOR EVERY INPUT', by the rows' own cells (each row's printed sentence says how): ValueChecks: loops · ValueFixes: loops · ValueSames: loops · ValueAlike: loops.
  DERIVED. THE GIVEN ROWS OF THIS SEAT. 6 by the template 'for every input the law returns true; each argument reads behind the call as it read before'; 0 by the template 'total and deterministic' (their statements: YtooklmgkkkbfdaaTotals.lean).
  GIVEN WITH THE SEED: the statements are not yours to turn. If you find one false, say at which input.
  Laid BY PROGRAM, IN A SANDBOX (cutbox-rows.mjs): the forced cells as the released guide's own fill.sh prints them over the translation 79fea8d0b8846b61… (all of the seat's roots in one cut). By AI agents, Wed Nov 11 2026. No macro, syntax, notation, axiom, sorry.
-/
import Derived.Test.YtooklmgkkkbfdaaChecked
import GoSem.Claim
import GoSem.ClaimJoined
import GoSem.ClaimMapViews
import Derived.JoinedTies
import Derived.KernelRfl
namespace Go.Proofs.Ytooklmgkkkbfdaa
/- THE CELL 'sum', in the pinned program and in every row, IS THE sha256 OF THE DUMP (.gsa) THAT YtooklmgkkkbfdaaProg.lean LOADS. Nothing in Lean hashes anything: it is a label: what it is worth is what the hold of that sum in a sandbox is worth. -/
noncomputable def Try.pinned : Pinned := { name := "ytooklmgkkkbfdaa", sum := "79fea8d0b8846b611e0a4fe59405c79fd40a0d90943d590743ebf72478ecc5e2", checked := Try.checked }
namespace Rows
def none {H : Type} : Left H := { results := [], args := [] }

/-- 'gabionlaw06.ValueNumbers': WHATEVER THE INPUT: true; the input reads as it did. -/
def valueNumbersSpec : ChangeSpec := { name := "valueNumbers", fn := fun _ => fun
  | [] => { results := [.lit (.bool true)], args := [] }
  | _ => none }
def valueNumbersRow : OpenClaim := { program := "ytooklmgkkkbfdaa", sum := "79fea8d0b8846b611e0a4fe59405c79fd40a0d90943d590743ebf72478ecc5e2", func := "gabion/gabionlaw06.ValueNumbers", spec := "valueNumbers", inPlace := ["math.Float64frombits", "math.Float64bits"], recurses := true, apart := false }
def ValueNumbersSaid : Prop := valueNumbersRow.holds Try.pinned (OpenSpec.ofChange valueNumbersSpec)

/-- ITS FALSE NEIGHBOUR: 'it returns false'. Refute it at one input. -/
def valueNumbersWrong : ChangeSpec := { name := "valueNumbers", fn := fun _ => fun
  | [] => { results := [.lit (.bool false)], args := [] }
  | _ => none }
def ValueNumbersWrongFalsely : Prop := valueNumbersRow.holds Try.pinned (OpenSpec.ofChange valueNumbersWrong)

/-- 'gabionlaw06.ValueChecks': WHATEVER THE INPUT: true; the input reads as it did. -/
def valueChecksSpec : ChangeSpec := { name := "valueChecks", fn := fun _ => fun
  | [d] => { results := [.lit (.bool true)], args := [d] }
  | _ => none }
def valueChecksRow : OpenClaim := { program := "ytooklmgkkkbfdaa", sum := "79fea8d0b8846b611e0a4fe59405c79fd40a0d90943d590743ebf72478ecc5e2", func := "gabion/gabionlaw06.ValueChecks", spec := "valueChecks", inPlace := ["math.Float64frombits", "math.Float64bits"], recurses := true, loops := true, apart := false }
def ValueChecksSaid : Prop := valueChecksRow.holds Try.pinned (OpenSpec.ofChange valueChecksSpec)

/-- ITS FALSE NEIGHBOUR: 'it returns false'. Refute it at one input. -/
def valueChecksWrong : ChangeSpec := { name := "valueChecks", fn := fun _ => fun
  | [d] => { results := [.lit (.bool false)], args := [d] }
  | _ => none }
def ValueChecksWrongFalsely : Prop := valueChecksRow.holds Try.pinned (OpenSpec.ofChange valueChecksWrong)

/-- 'gabionlaw06.ValueFixes': WHATEVER THE INPUT: true; the input reads as it did. -/
def valueFixesSpec : ChangeSpec := { name := "valueFixes", fn := fun _ => fun
  | [d] => { results := [.lit (.bool true)], args := [d] }
  | _ => none }
def valueFixesRow : OpenClaim := { program := "ytooklmgkkkbfdaa", sum := "79fea8d0b8846b611e0a4fe59405c79fd40a0d90943d590743ebf72478ecc5e2", func := "gabion/gabionlaw06.ValueFixes", spec := "valueFixes", inPlace := ["math.Float64frombits", "math.Float64bits"], recurses := true, loops := true, apart := false }
def ValueFixesSaid : Prop := valueFixesRow.holds Try.pinned (OpenSpec.ofChange valueFixesSpec)

/-- ITS FALSE NEIGHBOUR: 'it returns false'. Refute it at one input. -/
def valueFixesWrong : ChangeSpec := { name := "valueFixes", fn := fun _ => fun
  | [d] => { results := [.lit (.bool false)], args := [d] }
  | _ => none }
def ValueFixesWrongFalsely : Prop := valueFixesRow.holds Try.pinned (OpenSpec.ofChange valueFixesWrong)

/-- 'gabionlaw06.ValueSames': WHATEVER THE INPUT: true; the input reads as it did. -/
def valueSamesSpec : ChangeSpec := { name := "valueSames", fn := fun _ => fun
  | [d1, d2, d3] => { results := [.lit (.bool true)], args := [d1, d2, d3] }
  | _ => none }
def valueSamesRow : OpenClaim := { program := "ytooklmgkkkbfdaa", sum := "79fea8d0b8846b611e0a4fe59405c79fd40a0d90943d590743ebf72478ecc5e2", func := "gabion/gabionlaw06.ValueSames", spec := "valueSames", inPlace := ["math.Float64frombits", "math.Float64bits"], recurses := true, loops := true, apart := false }
def ValueSamesSaid : Prop := valueSamesRow.holds Try.pinned (OpenSpec.ofChange valueSamesSpec)

/-- ITS FALSE NEIGHBOUR: 'it returns false'. Refute it at one input. -/
def valueSamesWrong : ChangeSpec := { name := "valueSames", fn := fun _ => fun
  | [d1, d2, d3] => { results := [.lit (.bool false)], args := [d1, d2, d3] }
  | _ => none }
def ValueSamesWrongFalsely : Prop := valueSamesRow.holds Try.pinned (OpenSpec.ofChange valueSamesWrong)

/-- 'gabionlaw06.ValueAlike': WHATEVER THE INPUT: true; the input reads as it did. -/
def valueAlikeSpec : ChangeSpec := { name := "valueAlike", fn := fun _ => fun
  | [d1, d2, d3] => { results := [.lit (.bool true)], args := [d1, d2, d3] }
  | _ => none }
def valueAlikeRow : OpenClaim := { program := "ytooklmgkkkbfdaa", sum := "79fea8d0b8846b611e0a4fe59405c79fd40a0d90943d590743ebf72478ecc5e2", func := "gabion/gabionlaw06.ValueAlike", spec := "valueAlike", inPlace := ["math.Float64frombits", "math.Float64bits"], recurses := true, loops := true, apart := false }
def ValueAlikeSaid : Prop := valueAlikeRow.holds Try.pinned (OpenSpec.ofChange valueAlikeSpec)

/-- ITS FALSE NEIGHBOUR: 'it returns false'. Refute it at one input. -/
def valueAlikeWrong : ChangeSpec := { name := "valueAlike", fn := fun _ => fun
  | [d1, d2, d3] => { results := [.lit (.bool false)], args := [d1, d2, d3] }
  | _ => none }
def ValueAlikeWrongFalsely : Prop := valueAlikeRow.holds Try.pinned (OpenSpec.ofChange valueAlikeWrong)

/-- 'gabionlaw06.ValueUtfs': WHATEVER THE INPUT: true; the input reads as it did. -/
def valueUtfsSpec : ChangeSpec := { name := "valueUtfs", fn := fun _ => fun
  | [d] => { results := [.lit (.bool true)], args := [d] }
  | _ => none }
def valueUtfsRow : OpenClaim := { program := "ytooklmgkkkbfdaa", sum := "79fea8d0b8846b611e0a4fe59405c79fd40a0d90943d590743ebf72478ecc5e2", func := "gabion/gabionlaw06.ValueUtfs", spec := "valueUtfs", inPlace := ["math.Float64frombits", "math.Float64bits"], recurses := true, apart := false }
def ValueUtfsSaid : Prop := valueUtfsRow.holds Try.pinned (OpenSpec.ofChange valueUtfsSpec)

/-- ITS FALSE NEIGHBOUR: 'it returns false'. Refute it at one input. -/
def valueUtfsWrong : ChangeSpec := { name := "valueUtfs", fn := fun _ => fun
  | [d] => { results := [.lit (.bool false)], args := [d] }
  | _ => none }
def ValueUtfsWrongFalsely : Prop := valueUtfsRow.holds Try.pinned (OpenSpec.ofChange valueUtfsWrong)

/- THE SECOND FORM. 'bulk': how many values and letters a reading holds, each counted each time it is reached (what is shared counts as often as it is met; a slice's spare places count too). A statement '..UptoSaid' is the law's where the arguments, and the package variables that the reading takes, are together of bulk at most 1048576: NARROWER than '..Said'. Prove '..Said' where nothing that the law and all that it calls make is longer than what came in: it says more and counts as full. Else prove '..UptoSaid'. A law counts once. -/
mutual
def uptoBulk {H : Type} : DataW H → Nat
  | .lit (.string bytes) => bytes.length + 1
  | .lit _ => 1
  | .nil => 1
  | .ptr d => uptoBulk d + 1
  | .slice elems spare => uptoBulkAll elems + uptoBulkAll spare + 1
  | .agg parts => uptoBulkAll parts + 1
  | .iface _ d => uptoBulk d + 1
  | .map entries => uptoBulkEntries entries + 1
  | .held _ => 1
def uptoBulkAll {H : Type} : List (DataW H) → Nat
  | [] => 0
  | d :: r => uptoBulk d + uptoBulkAll r
def uptoBulkEntries {H : Type} : List (Lit × DataW H) → Nat
  | [] => 0
  | x :: r => uptoBulkEntry x + uptoBulkEntries r
def uptoBulkEntry {H : Type} : Lit × DataW H → Nat
  | (.string bytes, d) => bytes.length + uptoBulk d + 1
  | (_, d) => uptoBulk d + 1
 end
def uptoSmall : (H : Type) → List (DataW H) → Bool := fun _ ds => decide (uptoBulkAll ds ≤ 1048576)
def OpenSpec.upto (s : _root_.Go.ChangeSpec) : _root_.Go.OpenSpec := { _root_.Go.OpenSpec.ofChange s with cond := some uptoSmall }

/-- 'gabionlaw06.ValueNumbers', WHERE WHAT IT READS IS OF BULK AT MOST 1048576: true; the input reads as it did. -/
def valueNumbersUptoRow : OpenClaim := { program := "ytooklmgkkkbfdaa", sum := "79fea8d0b8846b611e0a4fe59405c79fd40a0d90943d590743ebf72478ecc5e2", func := "gabion/gabionlaw06.ValueNumbers", spec := "valueNumbers", inPlace := ["math.Float64frombits", "math.Float64bits"], recurses := true, apart := false, narrowed := true }
def ValueNumbersUptoSaid : Prop := valueNumbersUptoRow.holds Try.pinned (OpenSpec.upto valueNumbersSpec)

/-- 'gabionlaw06.ValueChecks', WHERE WHAT IT READS IS OF BULK AT MOST 1048576: true; the input reads as it did. -/
def valueChecksUptoRow : OpenClaim := { program := "ytooklmgkkkbfdaa", sum := "79fea8d0b8846b611e0a4fe59405c79fd40a0d90943d590743ebf72478ecc5e2", func := "gabion/gabionlaw06.ValueChecks", spec := "valueChecks", inPlace := ["math.Float64frombits", "math.Float64bits"], recurses := true, loops := true, apart := false, narrowed := true }
def ValueChecksUptoSaid : Prop := valueChecksUptoRow.holds Try.pinned (OpenSpec.upto valueChecksSpec)

/-- 'gabionlaw06.ValueFixes', WHERE WHAT IT READS IS OF BULK AT MOST 1048576: true; the input reads as it did. -/
def valueFixesUptoRow : OpenClaim := { program := "ytooklmgkkkbfdaa", sum := "79fea8d0b8846b611e0a4fe59405c79fd40a0d90943d590743ebf72478ecc5e2", func := "gabion/gabionlaw06.ValueFixes", spec := "valueFixes", inPlace := ["math.Float64frombits", "math.Float64bits"], recurses := true, loops := true, apart := false, narrowed := true }
def ValueFixesUptoSaid : Prop := valueFixesUptoRow.holds Try.pinned (OpenSpec.upto valueFixesSpec)

/-- 'gabionlaw06.ValueSames', WHERE WHAT IT READS IS OF BULK AT MOST 1048576: true; the input reads as it did. -/
def valueSamesUptoRow : OpenClaim := { program := "ytooklmgkkkbfdaa", sum := "79fea8d0b8846b611e0a4fe59405c79fd40a0d90943d590743ebf72478ecc5e2", func := "gabion/gabionlaw06.ValueSames", spec := "valueSames", inPlace := ["math.Float64frombits", "math.Float64bits"], recurses := true, loops := true, apart := false, narrowed := true }
def ValueSamesUptoSaid : Prop := valueSamesUptoRow.holds Try.pinned (OpenSpec.upto valueSamesSpec)

/-- 'gabionlaw06.ValueAlike', WHERE WHAT IT READS IS OF BULK AT MOST 1048576: true; the input reads as it did. -/
def valueAlikeUptoRow : OpenClaim := { program := "ytooklmgkkkbfdaa", sum := "79fea8d0b8846b611e0a4fe59405c79fd40a0d90943d590743ebf72478ecc5e2", func := "gabion/gabionlaw06.ValueAlike", spec := "valueAlike", inPlace := ["math.Float64frombits", "math.Float64bits"], recurses := true, loops := true, apart := false, narrowed := true }
def ValueAlikeUptoSaid : Prop := valueAlikeUptoRow.holds Try.pinned (OpenSpec.upto valueAlikeSpec)

/-- 'gabionlaw06.ValueUtfs', WHERE WHAT IT READS IS OF BULK AT MOST 1048576: true; the input reads as it did. -/
def valueUtfsUptoRow : OpenClaim := { program := "ytooklmgkkkbfdaa", sum := "79fea8d0b8846b611e0a4fe59405c79fd40a0d90943d590743ebf72478ecc5e2", func := "gabion/gabionlaw06.ValueUtfs", spec := "valueUtfs", inPlace := ["math.Float64frombits", "math.Float64bits"], recurses := true, apart := false, narrowed := true }
def ValueUtfsUptoSaid : Prop := valueUtfsUptoRow.holds Try.pinned (OpenSpec.upto valueUtfsSpec)

end Rows
end Go.Proofs.Ytooklmgkkkbfdaa
