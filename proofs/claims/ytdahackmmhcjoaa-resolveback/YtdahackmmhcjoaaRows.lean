/-
  NARROWER THAN 'FOR EVERY INPUT', by the rows' own cells (each row's printed sentence says how): ResolveBack: loops · ResolveBlind: loops.
  DERIVED. THE GIVEN ROWS OF THIS SEAT. 2 by the template 'for every input the law returns true; each argument reads behind the call as it read before'; 0 by the template 'total and deterministic' (their statements: YtdahackmmhcjoaaTotals.lean).
  GIVEN WITH THE SEED: the statements are not yours to turn. If you find one false, say at which input.
  Laid BY PROGRAM, IN A SANDBOX (cutbox-rows.mjs): the forced cells as the released guide's own fill.sh prints them over the translation cf3838e0de5e3b7f… (all of the seat's roots in one cut). By AI agents, Wed Nov 11 2026. No macro, syntax, notation, axiom, sorry.
-/
import Derived.Test.YtdahackmmhcjoaaChecked
import GoSem.Claim
import GoSem.ClaimJoined
import GoSem.ClaimMapViews
import Derived.JoinedTies
import Derived.KernelRfl
namespace Go.Proofs.Ytdahackmmhcjoaa
/- THE CELL 'sum', in the pinned program and in every row, IS THE sha256 OF THE DUMP (.gsa) THAT YtdahackmmhcjoaaProg.lean LOADS. Nothing in Lean hashes anything: it is a label: what it is worth is what the hold of that sum in a sandbox is worth. -/
noncomputable def Try.pinned : Pinned := { name := "ytdahackmmhcjoaa", sum := "cf3838e0de5e3b7fea8bfa2a1111e075edb7641df1e86ba6f42d4292efed6dfe", checked := Try.checked }
namespace Rows
def none {H : Type} : Left H := { results := [], args := [] }

/-- 'gabionlaw09.ResolveBack': WHATEVER THE INPUT: true; the input reads as it did. -/
def resolveBackSpec : ChangeSpec := { name := "resolveBack", fn := fun _ => fun
  | [d] => { results := [.lit (.bool true)], args := [d] }
  | _ => none }
def resolveBackRow : OpenClaim := { program := "ytdahackmmhcjoaa", sum := "cf3838e0de5e3b7fea8bfa2a1111e075edb7641df1e86ba6f42d4292efed6dfe", func := "gabion/gabionlaw09.ResolveBack", spec := "resolveBack", inPlace := ["math.Float64frombits", "math.Float64bits"], recurses := true, loops := true, apart := false }
def ResolveBackSaid : Prop := resolveBackRow.holds Try.pinned (OpenSpec.ofChange resolveBackSpec)

/-- ITS FALSE NEIGHBOUR: 'it returns false'. Refute it at one input. -/
def resolveBackWrong : ChangeSpec := { name := "resolveBack", fn := fun _ => fun
  | [d] => { results := [.lit (.bool false)], args := [d] }
  | _ => none }
def ResolveBackWrongFalsely : Prop := resolveBackRow.holds Try.pinned (OpenSpec.ofChange resolveBackWrong)

/-- 'gabionlaw09.ResolveBlind': WHATEVER THE INPUT: true; the input reads as it did. -/
def resolveBlindSpec : ChangeSpec := { name := "resolveBlind", fn := fun _ => fun
  | [d] => { results := [.lit (.bool true)], args := [d] }
  | _ => none }
def resolveBlindRow : OpenClaim := { program := "ytdahackmmhcjoaa", sum := "cf3838e0de5e3b7fea8bfa2a1111e075edb7641df1e86ba6f42d4292efed6dfe", func := "gabion/gabionlaw09.ResolveBlind", spec := "resolveBlind", inPlace := ["math.Float64frombits", "math.Float64bits"], recurses := true, loops := true, apart := false }
def ResolveBlindSaid : Prop := resolveBlindRow.holds Try.pinned (OpenSpec.ofChange resolveBlindSpec)

/-- ITS FALSE NEIGHBOUR: 'it returns false'. Refute it at one input. -/
def resolveBlindWrong : ChangeSpec := { name := "resolveBlind", fn := fun _ => fun
  | [d] => { results := [.lit (.bool false)], args := [d] }
  | _ => none }
def ResolveBlindWrongFalsely : Prop := resolveBlindRow.holds Try.pinned (OpenSpec.ofChange resolveBlindWrong)

/- THE SECOND FORM. 'bulk': how many values and letters a reading holds, each counted each time it is reached (what is shared counts as often as it is met; a slice's spare places count too). A statement '..UptoSaid' is the law's where the arguments, and the package variables that the reading takes, are together of bulk at most 1048576: NARROWER than '..Said'. Prove '..Said' where nothing that the law and all that it calls make is longer than what came in: it says more and counts as full. Else prove '..UptoSaid'. A law counts once. -/
mutual
def uptoBulk {H : Type} : DataW H → Nat
  | .lit (.string bytes) => bytes.length + 1
  | .lit _ => 1
  | .nil => 1
  | .ptr d => uptoBulk d + 1
  | .slice elems spare => uptoBulkAll elems + uptoBulkAll spare + 1
  | .agg parts => uptoBulkAll parts + 1
  | .iface _ d => uptoBulk d + 1
  | .map entries => uptoBulkEntries entries + 1
  | .held _ => 1
def uptoBulkAll {H : Type} : List (DataW H) → Nat
  | [] => 0
  | d :: r => uptoBulk d + uptoBulkAll r
def uptoBulkEntries {H : Type} : List (Lit × DataW H) → Nat
  | [] => 0
  | x :: r => uptoBulkEntry x + uptoBulkEntries r
def uptoBulkEntry {H : Type} : Lit × DataW H → Nat
  | (.string bytes, d) => bytes.length + uptoBulk d + 1
  | (_, d) => uptoBulk d + 1
 end
def uptoSmall : (H : Type) → List (DataW H) → Bool := fun _ ds => decide (uptoBulkAll ds ≤ 1048576)
def OpenSpec.upto (s : _root_.Go.ChangeSpec) : _root_.Go.OpenSpec := { _root_.Go.OpenSpec.ofChange s with cond := some uptoSmall }

/-- 'gabionlaw09.ResolveBack', WHERE WHAT IT READS IS OF BULK AT MOST 1048576: true; the input reads as it did. -/
def resolveBackUptoRow : OpenClaim := { program := "ytdahackmmhcjoaa", sum := "cf3838e0de5e3b7fea8bfa2a1111e075edb7641df1e86ba6f42d4292efed6dfe", func := "gabion/gabionlaw09.ResolveBack", spec := "resolveBack", inPlace := ["math.Float64frombits", "math.Float64bits"], recurses := true, loops := true, apart := false, narrowed := true }
def ResolveBackUptoSaid : Prop := resolveBackUptoRow.holds Try.pinned (OpenSpec.upto resolveBackSpec)

/-- 'gabionlaw09.ResolveBlind', WHERE WHAT IT READS IS OF BULK AT MOST 1048576: true; the input reads as it did. -/
def resolveBlindUptoRow : OpenClaim := { program := "ytdahackmmhcjoaa", sum := "cf3838e0de5e3b7fea8bfa2a1111e075edb7641df1e86ba6f42d4292efed6dfe", func := "gabion/gabionlaw09.ResolveBlind", spec := "resolveBlind", inPlace := ["math.Float64frombits", "math.Float64bits"], recurses := true, loops := true, apart := false, narrowed := true }
def ResolveBlindUptoSaid : Prop := resolveBlindUptoRow.holds Try.pinned (OpenSpec.upto resolveBlindSpec)

end Rows
end Go.Proofs.Ytdahackmmhcjoaa
