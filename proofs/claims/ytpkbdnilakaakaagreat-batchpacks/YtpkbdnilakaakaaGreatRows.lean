/-
  NARROWER THAN 'FOR EVERY INPUT', by the rows' own cells (each row's printed sentence says how): BatchSizes: loops · BatchPacks: loops · BatchUnpacks: loops · BatchBack: loops.
  DERIVED. THE GIVEN ROWS OF THIS SEAT. 4 by the template 'for every input the law returns true; each argument reads behind the call as it read before'; 0 by the template 'total and deterministic' (their statements: YtpkbdnilakaakaaGreatTotals.lean).
  GIVEN WITH THE SEED: the statements are not yours to turn. If you find one false, say at which input.
  Laid BY PROGRAM, IN A SANDBOX (cutbox-rows.mjs): the forced cells as the released guide's own fill.sh prints them over the translation 1eb130f8938edd46… (all of the seat's roots in one cut). By AI agents, Wed Nov 11 2026. No macro, syntax, notation, axiom, sorry.
-/
import Derived.Test.YtpkbdnilakaakaaGreatChecked
import GoSem.Claim
import GoSem.ClaimJoined
import GoSem.ClaimMapViews
import Derived.JoinedTies
import Derived.KernelRfl
namespace Go.Proofs.YtpkbdnilakaakaaGreat
/- THE CELL 'sum', in the pinned program and in every row, IS THE sha256 OF THE DUMP (.gsa) THAT YtpkbdnilakaakaaGreatProg.lean LOADS. Nothing in Lean hashes anything: it is a label: what it is worth is what the hold of that sum in a sandbox is worth. -/
noncomputable def Tryz.pinned : Pinned := { name := "ytpkbdnilakaakaagreat", sum := "1eb130f8938edd4606917ff562a539a5979d9c1dfff5795303fe136f8dd43a99", checked := Tryz.checked }
namespace Rows
def none {H : Type} : Left H := { results := [], args := [] }

/-- 'gabionlaw11.BatchSizes': WHATEVER THE INPUT: true; the input reads as it did. -/
def batchSizesSpec : ChangeSpec := { name := "batchSizes", fn := fun _ => fun
  | [d1, d2] => { results := [.lit (.bool true)], args := [d1, d2] }
  | _ => none }
def batchSizesRow : OpenClaim := { program := "ytpkbdnilakaakaagreat", sum := "1eb130f8938edd4606917ff562a539a5979d9c1dfff5795303fe136f8dd43a99", func := "gabion/gabionlaw11.BatchSizes", spec := "batchSizes", inPlace := ["math.Float64frombits", "math.Float64bits"], unfollowed := true, recurses := true, loops := true, plainKeys := false, apart := false }
def BatchSizesSaid : Prop := batchSizesRow.holds Tryz.pinned (OpenSpec.ofChange batchSizesSpec)

/-- ITS FALSE NEIGHBOUR: 'it returns false'. Refute it at one input. -/
def batchSizesWrong : ChangeSpec := { name := "batchSizes", fn := fun _ => fun
  | [d1, d2] => { results := [.lit (.bool false)], args := [d1, d2] }
  | _ => none }
def BatchSizesWrongFalsely : Prop := batchSizesRow.holds Tryz.pinned (OpenSpec.ofChange batchSizesWrong)

/-- 'gabionlaw11.BatchPacks': WHATEVER THE INPUT: true; the input reads as it did. -/
def batchPacksSpec : ChangeSpec := { name := "batchPacks", fn := fun _ => fun
  | [d1, d2] => { results := [.lit (.bool true)], args := [d1, d2] }
  | _ => none }
def batchPacksRow : OpenClaim := { program := "ytpkbdnilakaakaagreat", sum := "1eb130f8938edd4606917ff562a539a5979d9c1dfff5795303fe136f8dd43a99", func := "gabion/gabionlaw11.BatchPacks", spec := "batchPacks", inPlace := ["math.Float64frombits", "math.Float64bits"], unfollowed := true, recurses := true, loops := true, plainKeys := false, apart := false }
def BatchPacksSaid : Prop := batchPacksRow.holds Tryz.pinned (OpenSpec.ofChange batchPacksSpec)

/-- ITS FALSE NEIGHBOUR: 'it returns false'. Refute it at one input. -/
def batchPacksWrong : ChangeSpec := { name := "batchPacks", fn := fun _ => fun
  | [d1, d2] => { results := [.lit (.bool false)], args := [d1, d2] }
  | _ => none }
def BatchPacksWrongFalsely : Prop := batchPacksRow.holds Tryz.pinned (OpenSpec.ofChange batchPacksWrong)

/-- 'gabionlaw11.BatchUnpacks': WHATEVER THE INPUT: true; the input reads as it did. -/
def batchUnpacksSpec : ChangeSpec := { name := "batchUnpacks", fn := fun _ => fun
  | [d1, d2, d3] => { results := [.lit (.bool true)], args := [d1, d2, d3] }
  | _ => none }
def batchUnpacksRow : OpenClaim := { program := "ytpkbdnilakaakaagreat", sum := "1eb130f8938edd4606917ff562a539a5979d9c1dfff5795303fe136f8dd43a99", func := "gabion/gabionlaw11.BatchUnpacks", spec := "batchUnpacks", inPlace := ["math.Float64frombits", "math.Float64bits"], unfollowed := true, recurses := true, loops := true, plainKeys := false, apart := false }
def BatchUnpacksSaid : Prop := batchUnpacksRow.holds Tryz.pinned (OpenSpec.ofChange batchUnpacksSpec)

/-- ITS FALSE NEIGHBOUR: 'it returns false'. Refute it at one input. -/
def batchUnpacksWrong : ChangeSpec := { name := "batchUnpacks", fn := fun _ => fun
  | [d1, d2, d3] => { results := [.lit (.bool false)], args := [d1, d2, d3] }
  | _ => none }
def BatchUnpacksWrongFalsely : Prop := batchUnpacksRow.holds Tryz.pinned (OpenSpec.ofChange batchUnpacksWrong)

/-- 'gabionlaw11.BatchBack': WHATEVER THE INPUT: true; the input reads as it did. -/
def batchBackSpec : ChangeSpec := { name := "batchBack", fn := fun _ => fun
  | [d] => { results := [.lit (.bool true)], args := [d] }
  | _ => none }
def batchBackRow : OpenClaim := { program := "ytpkbdnilakaakaagreat", sum := "1eb130f8938edd4606917ff562a539a5979d9c1dfff5795303fe136f8dd43a99", func := "gabion/gabionlaw11.BatchBack", spec := "batchBack", inPlace := ["math.Float64frombits", "math.Float64bits"], unfollowed := true, recurses := true, loops := true, plainKeys := false, apart := false }
def BatchBackSaid : Prop := batchBackRow.holds Tryz.pinned (OpenSpec.ofChange batchBackSpec)

/-- ITS FALSE NEIGHBOUR: 'it returns false'. Refute it at one input. -/
def batchBackWrong : ChangeSpec := { name := "batchBack", fn := fun _ => fun
  | [d] => { results := [.lit (.bool false)], args := [d] }
  | _ => none }
def BatchBackWrongFalsely : Prop := batchBackRow.holds Tryz.pinned (OpenSpec.ofChange batchBackWrong)

/- THE SECOND FORM. 'bulk': how many values and letters a reading holds, each counted each time it is reached (what is shared counts as often as it is met; a slice's spare places count too). A statement '..UptoSaid' is the law's where the arguments, and the package variables that the reading takes, are together of bulk at most 1048576: NARROWER than '..Said'. Prove '..Said' where nothing that the law and all that it calls make is longer than what came in: it says more and counts as full. Else prove '..UptoSaid'. A law counts once. -/
mutual
def uptoBulk {H : Type} : DataW H → Nat
  | .lit (.string bytes) => bytes.length + 1
  | .lit _ => 1
  | .nil => 1
  | .ptr d => uptoBulk d + 1
  | .slice elems spare => uptoBulkAll elems + uptoBulkAll spare + 1
  | .agg parts => uptoBulkAll parts + 1
  | .iface _ d => uptoBulk d + 1
  | .map entries => uptoBulkEntries entries + 1
  | .held _ => 1
def uptoBulkAll {H : Type} : List (DataW H) → Nat
  | [] => 0
  | d :: r => uptoBulk d + uptoBulkAll r
def uptoBulkEntries {H : Type} : List (Lit × DataW H) → Nat
  | [] => 0
  | x :: r => uptoBulkEntry x + uptoBulkEntries r
def uptoBulkEntry {H : Type} : Lit × DataW H → Nat
  | (.string bytes, d) => bytes.length + uptoBulk d + 1
  | (_, d) => uptoBulk d + 1
 end
def uptoSmall : (H : Type) → List (DataW H) → Bool := fun _ ds => decide (uptoBulkAll ds ≤ 1048576)
def OpenSpec.upto (s : _root_.Go.ChangeSpec) : _root_.Go.OpenSpec := { _root_.Go.OpenSpec.ofChange s with cond := some uptoSmall }

/-- 'gabionlaw11.BatchSizes', WHERE WHAT IT READS IS OF BULK AT MOST 1048576: true; the input reads as it did. -/
def batchSizesUptoRow : OpenClaim := { program := "ytpkbdnilakaakaagreat", sum := "1eb130f8938edd4606917ff562a539a5979d9c1dfff5795303fe136f8dd43a99", func := "gabion/gabionlaw11.BatchSizes", spec := "batchSizes", inPlace := ["math.Float64frombits", "math.Float64bits"], unfollowed := true, recurses := true, loops := true, plainKeys := false, apart := false, narrowed := true }
def BatchSizesUptoSaid : Prop := batchSizesUptoRow.holds Tryz.pinned (OpenSpec.upto batchSizesSpec)

/-- 'gabionlaw11.BatchPacks', WHERE WHAT IT READS IS OF BULK AT MOST 1048576: true; the input reads as it did. -/
def batchPacksUptoRow : OpenClaim := { program := "ytpkbdnilakaakaagreat", sum := "1eb130f8938edd4606917ff562a539a5979d9c1dfff5795303fe136f8dd43a99", func := "gabion/gabionlaw11.BatchPacks", spec := "batchPacks", inPlace := ["math.Float64frombits", "math.Float64bits"], unfollowed := true, recurses := true, loops := true, plainKeys := false, apart := false, narrowed := true }
def BatchPacksUptoSaid : Prop := batchPacksUptoRow.holds Tryz.pinned (OpenSpec.upto batchPacksSpec)

/-- 'gabionlaw11.BatchUnpacks', WHERE WHAT IT READS IS OF BULK AT MOST 1048576: true; the input reads as it did. -/
def batchUnpacksUptoRow : OpenClaim := { program := "ytpkbdnilakaakaagreat", sum := "1eb130f8938edd4606917ff562a539a5979d9c1dfff5795303fe136f8dd43a99", func := "gabion/gabionlaw11.BatchUnpacks", spec := "batchUnpacks", inPlace := ["math.Float64frombits", "math.Float64bits"], unfollowed := true, recurses := true, loops := true, plainKeys := false, apart := false, narrowed := true }
def BatchUnpacksUptoSaid : Prop := batchUnpacksUptoRow.holds Tryz.pinned (OpenSpec.upto batchUnpacksSpec)

/-- 'gabionlaw11.BatchBack', WHERE WHAT IT READS IS OF BULK AT MOST 1048576: true; the input reads as it did. -/
def batchBackUptoRow : OpenClaim := { program := "ytpkbdnilakaakaagreat", sum := "1eb130f8938edd4606917ff562a539a5979d9c1dfff5795303fe136f8dd43a99", func := "gabion/gabionlaw11.BatchBack", spec := "batchBack", inPlace := ["math.Float64frombits", "math.Float64bits"], unfollowed := true, recurses := true, loops := true, plainKeys := false, apart := false, narrowed := true }
def BatchBackUptoSaid : Prop := batchBackUptoRow.holds Tryz.pinned (OpenSpec.upto batchBackSpec)

end Rows
end Go.Proofs.YtpkbdnilakaakaaGreat
