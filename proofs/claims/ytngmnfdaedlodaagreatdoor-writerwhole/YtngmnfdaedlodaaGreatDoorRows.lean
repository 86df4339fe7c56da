/-
  NARROWER THAN 'FOR EVERY INPUT', by the rows' own cells (each row's printed sentence says how): WriterTwice: loops, laid · WriterWhole: loops, laid · WriterNeeds: loops, laid.
  DERIVED. THE GIVEN ROWS OF THIS SEAT. 3 by the template 'for every input the law returns true; each argument reads behind the call as it read before'; 0 by the template 'total and deterministic' (their statements: YtngmnfdaedlodaaGreatDoorTotals.lean).
  GIVEN WITH THE SEED: the statements are not yours to turn. If you find one false, say at which input.
  Laid BY PROGRAM, IN A SANDBOX (cutbox-rows.mjs): the forced cells as the released guide's own fill.sh prints them over the translation 89d6719b810bae18… (all of the seat's roots in one cut). By AI agents, Wed Nov 11 2026. No macro, syntax, notation, axiom, sorry.
-/
import Derived.Test.YtngmnfdaedlodaaGreatDoorChecked
import GoSem.Claim
import GoSem.ClaimJoined
import GoSem.ClaimMapViews
import Derived.JoinedTies
import Derived.KernelRfl
namespace Go.Proofs.YtngmnfdaedlodaaGreatDoor
/- THE CELL 'sum', in the pinned program and in every row, IS THE sha256 OF THE DUMP (.gsa) THAT YtngmnfdaedlodaaGreatDoorProg.lean LOADS. Nothing in Lean hashes anything: it is a label: what it is worth is what the hold of that sum in a sandbox is worth. -/
noncomputable def Tryz.pinned : Pinned := { name := "ytngmnfdaedlodaagreatdoor", sum := "89d6719b810bae18e82acb1254c2f5142a3492150c2d5c61f5697d7c14651e57", checked := Tryz.checked }
namespace Rows
def none {H : Type} : Left H := { results := [], args := [] }

/- WHAT THE LISTED PACKAGE-LEVEL VARIABLES READ AS WHEN THE CALL BEGINS. Each datum BY PROGRAM (the guide's laid-datum.mjs) off the statement by which the dump's own 'gosem.cut.vars' lays the variable. In a bare row this is a premise. The card (YtngmnfdaedlodaaGreatDoorCards.lean) ties it to the program's text. -/
def laid_gabion_crc_halves {H : Type} : DataW H := .agg [.lit (.int .u32 0), .lit (.int .u32 498536548), .lit (.int .u32 997073096), .lit (.int .u32 651767980), .lit (.int .u32 1994146192), .lit (.int .u32 1802195444), .lit (.int .u32 1303535960), .lit (.int .u32 1342533948), .lit (.int .u32 3988292384), .lit (.int .u32 4027552580), .lit (.int .u32 3604390888), .lit (.int .u32 3412177804), .lit (.int .u32 2607071920), .lit (.int .u32 2262029012), .lit (.int .u32 2685067896), .lit (.int .u32 3183342108)]
def laid_errors_errorType {H : Type} : DataW H := .iface "internal/reflectlite.rtype" (.agg [.ptr (.lit (.string [101, 114, 114, 111, 114]))])

/-- 'gabionlaw19.WriterTwice': WHATEVER THE INPUT: true; the input reads as it did. -/
def writerTwiceSpec : ChangeSpec := { name := "writerTwice", fn := fun _ => fun
  | [d1, d2] => { results := [.lit (.bool true)], args := [d1, d2] }
  | _ => none }
def writerTwiceRow : OpenClaim := { program := "ytngmnfdaedlodaagreatdoor", sum := "89d6719b810bae18e82acb1254c2f5142a3492150c2d5c61f5697d7c14651e57", func := "gabion/gabionlaw19.WriterTwice", spec := "writerTwice", inPlace := ["math.Float64frombits", "math.Float64bits", "internal/bytealg.IndexByte", "internal/reflectlite.ValueOf", "(internal/reflectlite.Value).Type", "(internal/reflectlite.Value).IsNil", "internal/reflectlite.TypeOf", "(internal/reflectlite.Value).Elem", "(internal/reflectlite.Value).Set"], unfollowed := true, recurses := true, named := ["gabion/crc.halves", "errors.errorType"], loops := true, plainKeys := false, apart := false, laid := [("gabion/crc.halves", laid_gabion_crc_halves), ("errors.errorType", laid_errors_errorType)] }
def WriterTwiceSaid : Prop := writerTwiceRow.holds Tryz.pinned (OpenSpec.ofChange writerTwiceSpec)

/-- ITS FALSE NEIGHBOUR: 'it returns false'. Refute it at one input. -/
def writerTwiceWrong : ChangeSpec := { name := "writerTwice", fn := fun _ => fun
  | [d1, d2] => { results := [.lit (.bool false)], args := [d1, d2] }
  | _ => none }
def WriterTwiceWrongFalsely : Prop := writerTwiceRow.holds Tryz.pinned (OpenSpec.ofChange writerTwiceWrong)

/-- 'gabionlaw19.WriterWhole': WHATEVER THE INPUT: true; the input reads as it did. -/
def writerWholeSpec : ChangeSpec := { name := "writerWhole", fn := fun _ => fun
  | [d1, d2] => { results := [.lit (.bool true)], args := [d1, d2] }
  | _ => none }
def writerWholeRow : OpenClaim := { program := "ytngmnfdaedlodaagreatdoor", sum := "89d6719b810bae18e82acb1254c2f5142a3492150c2d5c61f5697d7c14651e57", func := "gabion/gabionlaw19.WriterWhole", spec := "writerWhole", inPlace := ["math.Float64frombits", "math.Float64bits", "internal/bytealg.IndexByte", "internal/reflectlite.ValueOf", "(internal/reflectlite.Value).Type", "(internal/reflectlite.Value).IsNil", "internal/reflectlite.TypeOf", "(internal/reflectlite.Value).Elem", "(internal/reflectlite.Value).Set"], unfollowed := true, recurses := true, named := ["gabion/crc.halves", "errors.errorType"], loops := true, plainKeys := false, apart := false, laid := [("gabion/crc.halves", laid_gabion_crc_halves), ("errors.errorType", laid_errors_errorType)] }
def WriterWholeSaid : Prop := writerWholeRow.holds Tryz.pinned (OpenSpec.ofChange writerWholeSpec)

/-- ITS FALSE NEIGHBOUR: 'it returns false'. Refute it at one input. -/
def writerWholeWrong : ChangeSpec := { name := "writerWhole", fn := fun _ => fun
  | [d1, d2] => { results := [.lit (.bool false)], args := [d1, d2] }
  | _ => none }
def WriterWholeWrongFalsely : Prop := writerWholeRow.holds Tryz.pinned (OpenSpec.ofChange writerWholeWrong)

/-- 'gabionlaw19.WriterNeeds': WHATEVER THE INPUT: true; the input reads as it did. -/
def writerNeedsSpec : ChangeSpec := { name := "writerNeeds", fn := fun _ => fun
  | [d1, d2, d3] => { results := [.lit (.bool true)], args := [d1, d2, d3] }
  | _ => none }
def writerNeedsRow : OpenClaim := { program := "ytngmnfdaedlodaagreatdoor", sum := "89d6719b810bae18e82acb1254c2f5142a3492150c2d5c61f5697d7c14651e57", func := "gabion/gabionlaw19.WriterNeeds", spec := "writerNeeds", inPlace := ["math.Float64frombits", "math.Float64bits", "internal/bytealg.IndexByte", "internal/reflectlite.ValueOf", "(internal/reflectlite.Value).Type", "(internal/reflectlite.Value).IsNil", "internal/reflectlite.TypeOf", "(internal/reflectlite.Value).Elem", "(internal/reflectlite.Value).Set"], unfollowed := true, recurses := true, named := ["gabion/crc.halves", "errors.errorType"], loops := true, plainKeys := false, apart := false, laid := [("gabion/crc.halves", laid_gabion_crc_halves), ("errors.errorType", laid_errors_errorType)] }
def WriterNeedsSaid : Prop := writerNeedsRow.holds Tryz.pinned (OpenSpec.ofChange writerNeedsSpec)

/-- ITS FALSE NEIGHBOUR: 'it returns false'. Refute it at one input. -/
def writerNeedsWrong : ChangeSpec := { name := "writerNeeds", fn := fun _ => fun
  | [d1, d2, d3] => { results := [.lit (.bool false)], args := [d1, d2, d3] }
  | _ => none }
def WriterNeedsWrongFalsely : Prop := writerNeedsRow.holds Tryz.pinned (OpenSpec.ofChange writerNeedsWrong)

/- THE SECOND FORM. 'bulk': how many values and letters a reading holds, each counted each time it is reached (what is shared counts as often as it is met; a slice's spare places count too). A statement '..UptoSaid' is the law's where the arguments, and the package variables that the reading takes, are together of bulk at most 1048576: NARROWER than '..Said'. Prove '..Said' where nothing that the law and all that it calls make is longer than what came in: it says more and counts as full. Else prove '..UptoSaid'. A law counts once. -/
mutual
def uptoBulk {H : Type} : DataW H → Nat
  | .lit (.string bytes) => bytes.length + 1
  | .lit _ => 1
  | .nil => 1
  | .ptr d => uptoBulk d + 1
  | .slice elems spare => uptoBulkAll elems + uptoBulkAll spare + 1
  | .agg parts => uptoBulkAll parts + 1
  | .iface _ d => uptoBulk d + 1
  | .map entries => uptoBulkEntries entries + 1
  | .held _ => 1
def uptoBulkAll {H : Type} : List (DataW H) → Nat
  | [] => 0
  | d :: r => uptoBulk d + uptoBulkAll r
def uptoBulkEntries {H : Type} : List (Lit × DataW H) → Nat
  | [] => 0
  | x :: r => uptoBulkEntry x + uptoBulkEntries r
def uptoBulkEntry {H : Type} : Lit × DataW H → Nat
  | (.string bytes, d) => bytes.length + uptoBulk d + 1
  | (_, d) => uptoBulk d + 1
 end
def uptoSmall : (H : Type) → List (DataW H) → Bool := fun _ ds => decide (uptoBulkAll ds ≤ 1048576)
def OpenSpec.upto (s : _root_.Go.ChangeSpec) : _root_.Go.OpenSpec := { _root_.Go.OpenSpec.ofChange s with cond := some uptoSmall }

/-- 'gabionlaw19.WriterTwice', WHERE WHAT IT READS IS OF BULK AT MOST 1048576: true; the input reads as it did. -/
def writerTwiceUptoRow : OpenClaim := { program := "ytngmnfdaedlodaagreatdoor", sum := "89d6719b810bae18e82acb1254c2f5142a3492150c2d5c61f5697d7c14651e57", func := "gabion/gabionlaw19.WriterTwice", spec := "writerTwice", inPlace := ["math.Float64frombits", "math.Float64bits", "internal/bytealg.IndexByte", "internal/reflectlite.ValueOf", "(internal/reflectlite.Value).Type", "(internal/reflectlite.Value).IsNil", "internal/reflectlite.TypeOf", "(internal/reflectlite.Value).Elem", "(internal/reflectlite.Value).Set"], unfollowed := true, recurses := true, named := ["gabion/crc.halves", "errors.errorType"], loops := true, plainKeys := false, apart := false, laid := [("gabion/crc.halves", laid_gabion_crc_halves), ("errors.errorType", laid_errors_errorType)], narrowed := true }
def WriterTwiceUptoSaid : Prop := writerTwiceUptoRow.holds Tryz.pinned (OpenSpec.upto writerTwiceSpec)

/-- 'gabionlaw19.WriterWhole', WHERE WHAT IT READS IS OF BULK AT MOST 1048576: true; the input reads as it did. -/
def writerWholeUptoRow : OpenClaim := { program := "ytngmnfdaedlodaagreatdoor", sum := "89d6719b810bae18e82acb1254c2f5142a3492150c2d5c61f5697d7c14651e57", func := "gabion/gabionlaw19.WriterWhole", spec := "writerWhole", inPlace := ["math.Float64frombits", "math.Float64bits", "internal/bytealg.IndexByte", "internal/reflectlite.ValueOf", "(internal/reflectlite.Value).Type", "(internal/reflectlite.Value).IsNil", "internal/reflectlite.TypeOf", "(internal/reflectlite.Value).Elem", "(internal/reflectlite.Value).Set"], unfollowed := true, recurses := true, named := ["gabion/crc.halves", "errors.errorType"], loops := true, plainKeys := false, apart := false, laid := [("gabion/crc.halves", laid_gabion_crc_halves), ("errors.errorType", laid_errors_errorType)], narrowed := true }
def WriterWholeUptoSaid : Prop := writerWholeUptoRow.holds Tryz.pinned (OpenSpec.upto writerWholeSpec)

/-- 'gabionlaw19.WriterNeeds', WHERE WHAT IT READS IS OF BULK AT MOST 1048576: true; the input reads as it did. -/
def writerNeedsUptoRow : OpenClaim := { program := "ytngmnfdaedlodaagreatdoor", sum := "89d6719b810bae18e82acb1254c2f5142a3492150c2d5c61f5697d7c14651e57", func := "gabion/gabionlaw19.WriterNeeds", spec := "writerNeeds", inPlace := ["math.Float64frombits", "math.Float64bits", "internal/bytealg.IndexByte", "internal/reflectlite.ValueOf", "(internal/reflectlite.Value).Type", "(internal/reflectlite.Value).IsNil", "internal/reflectlite.TypeOf", "(internal/reflectlite.Value).Elem", "(internal/reflectlite.Value).Set"], unfollowed := true, recurses := true, named := ["gabion/crc.halves", "errors.errorType"], loops := true, plainKeys := false, apart := false, laid := [("gabion/crc.halves", laid_gabion_crc_halves), ("errors.errorType", laid_errors_errorType)], narrowed := true }
def WriterNeedsUptoSaid : Prop := writerNeedsUptoRow.holds Tryz.pinned (OpenSpec.upto writerNeedsSpec)

end Rows
end Go.Proofs.YtngmnfdaedlodaaGreatDoor
