/-
  NARROWER THAN 'FOR EVERY INPUT', by the rows' own cells (each row's printed sentence says how): SalvageSchemas: laid · SalvageAll: laid · SalvageFeeds: loops, laid · SalvageSaves: laid.
  DERIVED. THE GIVEN ROWS OF THIS SEAT. 4 by the template 'for every input the law returns true; each argument reads behind the call as it read before'; 0 by the template 'total and deterministic' (their statements: YtbahfgdbjgkklaaGreatDoorTotals.lean).
  GIVEN WITH THE SEED: the statements are not yours to turn. If you find one false, say at which input.
  Laid BY PROGRAM, IN A SANDBOX (cutbox-rows.mjs): the forced cells as the released guide's own fill.sh prints them over the translation 9d75a4230940eeec… (all of the seat's roots in one cut). By AI agents, Wed Nov 11 2026. No macro, syntax, notation, axiom, sorry.
-/
import Derived.Test.YtbahfgdbjgkklaaGreatDoorChecked
import GoSem.Claim
import GoSem.ClaimJoined
import GoSem.ClaimMapViews
import Derived.JoinedTies
import Derived.KernelRfl
namespace Go.Proofs.YtbahfgdbjgkklaaGreatDoor
/- THE CELL 'sum', in the pinned program and in every row, IS THE sha256 OF THE DUMP (.gsa) THAT YtbahfgdbjgkklaaGreatDoorProg.lean LOADS. Nothing in Lean hashes anything: it is a label: what it is worth is what the hold of that sum in a sandbox is worth. -/
noncomputable def Tryz.pinned : Pinned := { name := "ytbahfgdbjgkklaagreatdoor", sum := "9d75a4230940eeec8385efddd59c8a72f5e6b42a8b001c1b6b576f15f5579a0d", checked := Tryz.checked }
namespace Rows
def none {H : Type} : Left H := { results := [], args := [] }

/- WHAT THE LISTED PACKAGE-LEVEL VARIABLES READ AS WHEN THE CALL BEGINS. Each datum BY PROGRAM (the guide's laid-datum.mjs) off the statement by which the dump's own 'gosem.cut.vars' lays the variable. In a bare row this is a premise. The card (YtbahfgdbjgkklaaGreatDoorCards.lean) ties it to the program's text. -/
def laid_gabion_crc_halves {H : Type} : DataW H := .agg [.lit (.int .u32 0), .lit (.int .u32 498536548), .lit (.int .u32 997073096), .lit (.int .u32 651767980), .lit (.int .u32 1994146192), .lit (.int .u32 1802195444), .lit (.int .u32 1303535960), .lit (.int .u32 1342533948), .lit (.int .u32 3988292384), .lit (.int .u32 4027552580), .lit (.int .u32 3604390888), .lit (.int .u32 3412177804), .lit (.int .u32 2607071920), .lit (.int .u32 2262029012), .lit (.int .u32 2685067896), .lit (.int .u32 3183342108)]

/-- 'gabionlaw17.SalvageSchemas': WHATEVER THE INPUT: true; the input reads as it did. -/
def salvageSchemasSpec : ChangeSpec := { name := "salvageSchemas", fn := fun _ => fun
  | [d] => { results := [.lit (.bool true)], args := [d] }
  | _ => none }
def salvageSchemasRow : OpenClaim := { program := "ytbahfgdbjgkklaagreatdoor", sum := "9d75a4230940eeec8385efddd59c8a72f5e6b42a8b001c1b6b576f15f5579a0d", func := "gabion/gabionlaw17.SalvageSchemas", spec := "salvageSchemas", inPlace := ["math.Float64frombits", "math.Float64bits"], unfollowed := true, recurses := true, named := ["gabion/crc.halves"], plainKeys := false, apart := false, laid := [("gabion/crc.halves", laid_gabion_crc_halves)] }
def SalvageSchemasSaid : Prop := salvageSchemasRow.holds Tryz.pinned (OpenSpec.ofChange salvageSchemasSpec)

/-- ITS FALSE NEIGHBOUR: 'it returns false'. Refute it at one input. -/
def salvageSchemasWrong : ChangeSpec := { name := "salvageSchemas", fn := fun _ => fun
  | [d] => { results := [.lit (.bool false)], args := [d] }
  | _ => none }
def SalvageSchemasWrongFalsely : Prop := salvageSchemasRow.holds Tryz.pinned (OpenSpec.ofChange salvageSchemasWrong)

/-- 'gabionlaw17.SalvageAll': WHATEVER THE INPUT: true; the input reads as it did. -/
def salvageAllSpec : ChangeSpec := { name := "salvageAll", fn := fun _ => fun
  | [d] => { results := [.lit (.bool true)], args := [d] }
  | _ => none }
def salvageAllRow : OpenClaim := { program := "ytbahfgdbjgkklaagreatdoor", sum := "9d75a4230940eeec8385efddd59c8a72f5e6b42a8b001c1b6b576f15f5579a0d", func := "gabion/gabionlaw17.SalvageAll", spec := "salvageAll", inPlace := ["math.Float64frombits", "math.Float64bits"], unfollowed := true, recurses := true, named := ["gabion/crc.halves"], plainKeys := false, apart := false, laid := [("gabion/crc.halves", laid_gabion_crc_halves)] }
def SalvageAllSaid : Prop := salvageAllRow.holds Tryz.pinned (OpenSpec.ofChange salvageAllSpec)

/-- ITS FALSE NEIGHBOUR: 'it returns false'. Refute it at one input. -/
def salvageAllWrong : ChangeSpec := { name := "salvageAll", fn := fun _ => fun
  | [d] => { results := [.lit (.bool false)], args := [d] }
  | _ => none }
def SalvageAllWrongFalsely : Prop := salvageAllRow.holds Tryz.pinned (OpenSpec.ofChange salvageAllWrong)

/-- 'gabionlaw17.SalvageFeeds': WHATEVER THE INPUT: true; the input reads as it did. -/
def salvageFeedsSpec : ChangeSpec := { name := "salvageFeeds", fn := fun _ => fun
  | [d1, d2] => { results := [.lit (.bool true)], args := [d1, d2] }
  | _ => none }
def salvageFeedsRow : OpenClaim := { program := "ytbahfgdbjgkklaagreatdoor", sum := "9d75a4230940eeec8385efddd59c8a72f5e6b42a8b001c1b6b576f15f5579a0d", func := "gabion/gabionlaw17.SalvageFeeds", spec := "salvageFeeds", inPlace := ["math.Float64frombits", "math.Float64bits"], unfollowed := true, recurses := true, named := ["gabion/crc.halves"], loops := true, plainKeys := false, apart := false, laid := [("gabion/crc.halves", laid_gabion_crc_halves)] }
def SalvageFeedsSaid : Prop := salvageFeedsRow.holds Tryz.pinned (OpenSpec.ofChange salvageFeedsSpec)

/-- ITS FALSE NEIGHBOUR: 'it returns false'. Refute it at one input. -/
def salvageFeedsWrong : ChangeSpec := { name := "salvageFeeds", fn := fun _ => fun
  | [d1, d2] => { results := [.lit (.bool false)], args := [d1, d2] }
  | _ => none }
def SalvageFeedsWrongFalsely : Prop := salvageFeedsRow.holds Tryz.pinned (OpenSpec.ofChange salvageFeedsWrong)

/-- 'gabionlaw17.SalvageSaves': WHATEVER THE INPUT: true; the input reads as it did. -/
def salvageSavesSpec : ChangeSpec := { name := "salvageSaves", fn := fun _ => fun
  | [d1, d2, d3, d4] => { results := [.lit (.bool true)], args := [d1, d2, d3, d4] }
  | _ => none }
def salvageSavesRow : OpenClaim := { program := "ytbahfgdbjgkklaagreatdoor", sum := "9d75a4230940eeec8385efddd59c8a72f5e6b42a8b001c1b6b576f15f5579a0d", func := "gabion/gabionlaw17.SalvageSaves", spec := "salvageSaves", inPlace := ["math.Float64frombits", "math.Float64bits", "internal/bytealg.IndexByte"], unfollowed := true, recurses := true, named := ["gabion/crc.halves"], plainKeys := false, apart := false, laid := [("gabion/crc.halves", laid_gabion_crc_halves)] }
def SalvageSavesSaid : Prop := salvageSavesRow.holds Tryz.pinned (OpenSpec.ofChange salvageSavesSpec)

/-- ITS FALSE NEIGHBOUR: 'it returns false'. Refute it at one input. -/
def salvageSavesWrong : ChangeSpec := { name := "salvageSaves", fn := fun _ => fun
  | [d1, d2, d3, d4] => { results := [.lit (.bool false)], args := [d1, d2, d3, d4] }
  | _ => none }
def SalvageSavesWrongFalsely : Prop := salvageSavesRow.holds Tryz.pinned (OpenSpec.ofChange salvageSavesWrong)

/- THE SECOND FORM. 'bulk': how many values and letters a reading holds, each counted each time it is reached (what is shared counts as often as it is met; a slice's spare places count too). A statement '..UptoSaid' is the law's where the arguments, and the package variables that the reading takes, are together of bulk at most 1048576: NARROWER than '..Said'. Prove '..Said' where nothing that the law and all that it calls make is longer than what came in: it says more and counts as full. Else prove '..UptoSaid'. A law counts once. -/
mutual
def uptoBulk {H : Type} : DataW H → Nat
  | .lit (.string bytes) => bytes.length + 1
  | .lit _ => 1
  | .nil => 1
  | .ptr d => uptoBulk d + 1
  | .slice elems spare => uptoBulkAll elems + uptoBulkAll spare + 1
  | .agg parts => uptoBulkAll parts + 1
  | .iface _ d => uptoBulk d + 1
  | .map entries => uptoBulkEntries entries + 1
  | .held _ => 1
def uptoBulkAll {H : Type} : List (DataW H) → Nat
  | [] => 0
  | d :: r => uptoBulk d + uptoBulkAll r
def uptoBulkEntries {H : Type} : List (Lit × DataW H) → Nat
  | [] => 0
  | x :: r => uptoBulkEntry x + uptoBulkEntries r
def uptoBulkEntry {H : Type} : Lit × DataW H → Nat
  | (.string bytes, d) => bytes.length + uptoBulk d + 1
  | (_, d) => uptoBulk d + 1
 end
def uptoSmall : (H : Type) → List (DataW H) → Bool := fun _ ds => decide (uptoBulkAll ds ≤ 1048576)
def OpenSpec.upto (s : _root_.Go.ChangeSpec) : _root_.Go.OpenSpec := { _root_.Go.OpenSpec.ofChange s with cond := some uptoSmall }

/-- 'gabionlaw17.SalvageSchemas', WHERE WHAT IT READS IS OF BULK AT MOST 1048576: true; the input reads as it did. -/
def salvageSchemasUptoRow : OpenClaim := { program := "ytbahfgdbjgkklaagreatdoor", sum := "9d75a4230940eeec8385efddd59c8a72f5e6b42a8b001c1b6b576f15f5579a0d", func := "gabion/gabionlaw17.SalvageSchemas", spec := "salvageSchemas", inPlace := ["math.Float64frombits", "math.Float64bits"], unfollowed := true, recurses := true, named := ["gabion/crc.halves"], plainKeys := false, apart := false, laid := [("gabion/crc.halves", laid_gabion_crc_halves)], narrowed := true }
def SalvageSchemasUptoSaid : Prop := salvageSchemasUptoRow.holds Tryz.pinned (OpenSpec.upto salvageSchemasSpec)

/-- 'gabionlaw17.SalvageAll', WHERE WHAT IT READS IS OF BULK AT MOST 1048576: true; the input reads as it did. -/
def salvageAllUptoRow : OpenClaim := { program := "ytbahfgdbjgkklaagreatdoor", sum := "9d75a4230940eeec8385efddd59c8a72f5e6b42a8b001c1b6b576f15f5579a0d", func := "gabion/gabionlaw17.SalvageAll", spec := "salvageAll", inPlace := ["math.Float64frombits", "math.Float64bits"], unfollowed := true, recurses := true, named := ["gabion/crc.halves"], plainKeys := false, apart := false, laid := [("gabion/crc.halves", laid_gabion_crc_halves)], narrowed := true }
def SalvageAllUptoSaid : Prop := salvageAllUptoRow.holds Tryz.pinned (OpenSpec.upto salvageAllSpec)

/-- 'gabionlaw17.SalvageFeeds', WHERE WHAT IT READS IS OF BULK AT MOST 1048576: true; the input reads as it did. -/
def salvageFeedsUptoRow : OpenClaim := { program := "ytbahfgdbjgkklaagreatdoor", sum := "9d75a4230940eeec8385efddd59c8a72f5e6b42a8b001c1b6b576f15f5579a0d", func := "gabion/gabionlaw17.SalvageFeeds", spec := "salvageFeeds", inPlace := ["math.Float64frombits", "math.Float64bits"], unfollowed := true, recurses := true, named := ["gabion/crc.halves"], loops := true, plainKeys := false, apart := false, laid := [("gabion/crc.halves", laid_gabion_crc_halves)], narrowed := true }
def SalvageFeedsUptoSaid : Prop := salvageFeedsUptoRow.holds Tryz.pinned (OpenSpec.upto salvageFeedsSpec)

/-- 'gabionlaw17.SalvageSaves', WHERE WHAT IT READS IS OF BULK AT MOST 1048576: true; the input reads as it did. -/
def salvageSavesUptoRow : OpenClaim := { program := "ytbahfgdbjgkklaagreatdoor", sum := "9d75a4230940eeec8385efddd59c8a72f5e6b42a8b001c1b6b576f15f5579a0d", func := "gabion/gabionlaw17.SalvageSaves", spec := "salvageSaves", inPlace := ["math.Float64frombits", "math.Float64bits", "internal/bytealg.IndexByte"], unfollowed := true, recurses := true, named := ["gabion/crc.halves"], plainKeys := false, apart := false, laid := [("gabion/crc.halves", laid_gabion_crc_halves)], narrowed := true }
def SalvageSavesUptoSaid : Prop := salvageSavesUptoRow.holds Tryz.pinned (OpenSpec.upto salvageSavesSpec)

end Rows
end Go.Proofs.YtbahfgdbjgkklaaGreatDoor
