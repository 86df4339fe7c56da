/-
  No cell of these rows narrows 'for every input' (looked for: loops, veiled, ifaces, maps, wideKeys, modest, calm, conditions, laid).
  DERIVED. THE GIVEN ROWS OF THIS SEAT. 6 by the template 'for every input the law returns true; each argument reads behind the call as it read before'; 0 by the template 'total and deterministic' (their statements: YtoojflhafmnggaaTotals.lean).
  GIVEN WITH THE SEED: the statements are not yours to turn. If you find one false, say at which input.
  Laid BY PROGRAM, IN A SANDBOX (cutbox-rows.mjs): the forced cells as the released guide's own fill.sh prints them over the translation 3efff5a93ca63099… (all of the seat's roots in one cut). By AI agents, Wed Nov 11 2026. No macro, syntax, notation, axiom, sorry.
-/
import Derived.Test.YtoojflhafmnggaaChecked
import GoSem.Claim
import GoSem.ClaimJoined
import GoSem.ClaimMapViews
import Derived.JoinedTies
import Derived.KernelRfl
namespace Go.Proofs.Ytoojflhafmnggaa
/- THE CELL 'sum', in the pinned program and in every row, IS THE sha256 OF THE DUMP (.gsa) THAT YtoojflhafmnggaaProg.lean LOADS. Nothing in Lean hashes anything: it is a label: what it is worth is what the hold of that sum in a sandbox is worth. -/
noncomputable def Try.pinned : Pinned := { name := "ytoojflhafmnggaa", sum := "3efff5a93ca63099e571a8be85c7e5a0aae85cfe14cf6a95cb9479df75c2cf0d", checked := Try.checked }
namespace Rows
def none {H : Type} : Left H := { results := [], args := [] }

/-- 'gabionlaw10.BlockNumbers': WHATEVER THE INPUT: true; the input reads as it did. -/
def blockNumbersSpec : ChangeSpec := { name := "blockNumbers", fn := fun _ => fun
  | [] => { results := [.lit (.bool true)], args := [] }
  | _ => none }
def blockNumbersRow : OpenClaim := { program := "ytoojflhafmnggaa", sum := "3efff5a93ca63099e571a8be85c7e5a0aae85cfe14cf6a95cb9479df75c2cf0d", func := "gabion/gabionlaw10.BlockNumbers", spec := "blockNumbers", unfollowed := true, recurses := true, plainKeys := false, apart := false }
def BlockNumbersSaid : Prop := blockNumbersRow.holds Try.pinned (OpenSpec.ofChange blockNumbersSpec)

/-- ITS FALSE NEIGHBOUR: 'it returns false'. Refute it at one input. -/
def blockNumbersWrong : ChangeSpec := { name := "blockNumbers", fn := fun _ => fun
  | [] => { results := [.lit (.bool false)], args := [] }
  | _ => none }
def BlockNumbersWrongFalsely : Prop := blockNumbersRow.holds Try.pinned (OpenSpec.ofChange blockNumbersWrong)

/-- 'gabionlaw10.BlockPacks': WHATEVER THE INPUT: true; the input reads as it did. -/
def blockPacksSpec : ChangeSpec := { name := "blockPacks", fn := fun _ => fun
  | [d] => { results := [.lit (.bool true)], args := [d] }
  | _ => none }
def blockPacksRow : OpenClaim := { program := "ytoojflhafmnggaa", sum := "3efff5a93ca63099e571a8be85c7e5a0aae85cfe14cf6a95cb9479df75c2cf0d", func := "gabion/gabionlaw10.BlockPacks", spec := "blockPacks", unfollowed := true, recurses := true, plainKeys := false, apart := false }
def BlockPacksSaid : Prop := blockPacksRow.holds Try.pinned (OpenSpec.ofChange blockPacksSpec)

/-- ITS FALSE NEIGHBOUR: 'it returns false'. Refute it at one input. -/
def blockPacksWrong : ChangeSpec := { name := "blockPacks", fn := fun _ => fun
  | [d] => { results := [.lit (.bool false)], args := [d] }
  | _ => none }
def BlockPacksWrongFalsely : Prop := blockPacksRow.holds Try.pinned (OpenSpec.ofChange blockPacksWrong)

/-- 'gabionlaw10.BlockShort': WHATEVER THE INPUT: true; the input reads as it did. -/
def blockShortSpec : ChangeSpec := { name := "blockShort", fn := fun _ => fun
  | [d1, d2] => { results := [.lit (.bool true)], args := [d1, d2] }
  | _ => none }
def blockShortRow : OpenClaim := { program := "ytoojflhafmnggaa", sum := "3efff5a93ca63099e571a8be85c7e5a0aae85cfe14cf6a95cb9479df75c2cf0d", func := "gabion/gabionlaw10.BlockShort", spec := "blockShort", unfollowed := true, recurses := true, plainKeys := false, apart := false }
def BlockShortSaid : Prop := blockShortRow.holds Try.pinned (OpenSpec.ofChange blockShortSpec)

/-- ITS FALSE NEIGHBOUR: 'it returns false'. Refute it at one input. -/
def blockShortWrong : ChangeSpec := { name := "blockShort", fn := fun _ => fun
  | [d1, d2] => { results := [.lit (.bool false)], args := [d1, d2] }
  | _ => none }
def BlockShortWrongFalsely : Prop := blockShortRow.holds Try.pinned (OpenSpec.ofChange blockShortWrong)

/-- 'gabionlaw10.BlockUnpacks': WHATEVER THE INPUT: true; the input reads as it did. -/
def blockUnpacksSpec : ChangeSpec := { name := "blockUnpacks", fn := fun _ => fun
  | [d] => { results := [.lit (.bool true)], args := [d] }
  | _ => none }
def blockUnpacksRow : OpenClaim := { program := "ytoojflhafmnggaa", sum := "3efff5a93ca63099e571a8be85c7e5a0aae85cfe14cf6a95cb9479df75c2cf0d", func := "gabion/gabionlaw10.BlockUnpacks", spec := "blockUnpacks", unfollowed := true, recurses := true, plainKeys := false, apart := false }
def BlockUnpacksSaid : Prop := blockUnpacksRow.holds Try.pinned (OpenSpec.ofChange blockUnpacksSpec)

/-- ITS FALSE NEIGHBOUR: 'it returns false'. Refute it at one input. -/
def blockUnpacksWrong : ChangeSpec := { name := "blockUnpacks", fn := fun _ => fun
  | [d] => { results := [.lit (.bool false)], args := [d] }
  | _ => none }
def BlockUnpacksWrongFalsely : Prop := blockUnpacksRow.holds Try.pinned (OpenSpec.ofChange blockUnpacksWrong)

/-- 'gabionlaw10.BlockBack': WHATEVER THE INPUT: true; the input reads as it did. -/
def blockBackSpec : ChangeSpec := { name := "blockBack", fn := fun _ => fun
  | [d1, d2] => { results := [.lit (.bool true)], args := [d1, d2] }
  | _ => none }
def blockBackRow : OpenClaim := { program := "ytoojflhafmnggaa", sum := "3efff5a93ca63099e571a8be85c7e5a0aae85cfe14cf6a95cb9479df75c2cf0d", func := "gabion/gabionlaw10.BlockBack", spec := "blockBack", unfollowed := true, recurses := true, plainKeys := false, apart := false }
def BlockBackSaid : Prop := blockBackRow.holds Try.pinned (OpenSpec.ofChange blockBackSpec)

/-- ITS FALSE NEIGHBOUR: 'it returns false'. Refute it at one input. -/
def blockBackWrong : ChangeSpec := { name := "blockBack", fn := fun _ => fun
  | [d1, d2] => { results := [.lit (.bool false)], args := [d1, d2] }
  | _ => none }
def BlockBackWrongFalsely : Prop := blockBackRow.holds Try.pinned (OpenSpec.ofChange blockBackWrong)

/-- 'gabionlaw10.BlockTokens': WHATEVER THE INPUT: true; the input reads as it did. -/
def blockTokensSpec : ChangeSpec := { name := "blockTokens", fn := fun _ => fun
  | [d] => { results := [.lit (.bool true)], args := [d] }
  | _ => none }
def blockTokensRow : OpenClaim := { program := "ytoojflhafmnggaa", sum := "3efff5a93ca63099e571a8be85c7e5a0aae85cfe14cf6a95cb9479df75c2cf0d", func := "gabion/gabionlaw10.BlockTokens", spec := "blockTokens", unfollowed := true, recurses := true, plainKeys := false, apart := false }
def BlockTokensSaid : Prop := blockTokensRow.holds Try.pinned (OpenSpec.ofChange blockTokensSpec)

/-- ITS FALSE NEIGHBOUR: 'it returns false'. Refute it at one input. -/
def blockTokensWrong : ChangeSpec := { name := "blockTokens", fn := fun _ => fun
  | [d] => { results := [.lit (.bool false)], args := [d] }
  | _ => none }
def BlockTokensWrongFalsely : Prop := blockTokensRow.holds Try.pinned (OpenSpec.ofChange blockTokensWrong)

/- THE SECOND FORM. 'bulk': how many values and letters a reading holds, each counted each time it is reached (what is shared counts as often as it is met; a slice's spare places count too). A statement '..UptoSaid' is the law's where the arguments, and the package variables that the reading takes, are together of bulk at most 1048576: NARROWER than '..Said'. Prove '..Said' where nothing that the law and all that it calls make is longer than what came in: it says more and counts as full. Else prove '..UptoSaid'. A law counts once. -/
mutual
def uptoBulk {H : Type} : DataW H → Nat
  | .lit (.string bytes) => bytes.length + 1
  | .lit _ => 1
  | .nil => 1
  | .ptr d => uptoBulk d + 1
  | .slice elems spare => uptoBulkAll elems + uptoBulkAll spare + 1
  | .agg parts => uptoBulkAll parts + 1
  | .iface _ d => uptoBulk d + 1
  | .map entries => uptoBulkEntries entries + 1
  | .held _ => 1
def uptoBulkAll {H : Type} : List (DataW H) → Nat
  | [] => 0
  | d :: r => uptoBulk d + uptoBulkAll r
def uptoBulkEntries {H : Type} : List (Lit × DataW H) → Nat
  | [] => 0
  | x :: r => uptoBulkEntry x + uptoBulkEntries r
def uptoBulkEntry {H : Type} : Lit × DataW H → Nat
  | (.string bytes, d) => bytes.length + uptoBulk d + 1
  | (_, d) => uptoBulk d + 1
 end
def uptoSmall : (H : Type) → List (DataW H) → Bool := fun _ ds => decide (uptoBulkAll ds ≤ 1048576)
def OpenSpec.upto (s : _root_.Go.ChangeSpec) : _root_.Go.OpenSpec := { _root_.Go.OpenSpec.ofChange s with cond := some uptoSmall }

/-- 'gabionlaw10.BlockNumbers', WHERE WHAT IT READS IS OF BULK AT MOST 1048576: true; the input reads as it did. -/
def blockNumbersUptoRow : OpenClaim := { program := "ytoojflhafmnggaa", sum := "3efff5a93ca63099e571a8be85c7e5a0aae85cfe14cf6a95cb9479df75c2cf0d", func := "gabion/gabionlaw10.BlockNumbers", spec := "blockNumbers", unfollowed := true, recurses := true, plainKeys := false, apart := false, narrowed := true }
def BlockNumbersUptoSaid : Prop := blockNumbersUptoRow.holds Try.pinned (OpenSpec.upto blockNumbersSpec)

/-- 'gabionlaw10.BlockPacks', WHERE WHAT IT READS IS OF BULK AT MOST 1048576: true; the input reads as it did. -/
def blockPacksUptoRow : OpenClaim := { program := "ytoojflhafmnggaa", sum := "3efff5a93ca63099e571a8be85c7e5a0aae85cfe14cf6a95cb9479df75c2cf0d", func := "gabion/gabionlaw10.BlockPacks", spec := "blockPacks", unfollowed := true, recurses := true, plainKeys := false, apart := false, narrowed := true }
def BlockPacksUptoSaid : Prop := blockPacksUptoRow.holds Try.pinned (OpenSpec.upto blockPacksSpec)

/-- 'gabionlaw10.BlockShort', WHERE WHAT IT READS IS OF BULK AT MOST 1048576: true; the input reads as it did. -/
def blockShortUptoRow : OpenClaim := { program := "ytoojflhafmnggaa", sum := "3efff5a93ca63099e571a8be85c7e5a0aae85cfe14cf6a95cb9479df75c2cf0d", func := "gabion/gabionlaw10.BlockShort", spec := "blockShort", unfollowed := true, recurses := true, plainKeys := false, apart := false, narrowed := true }
def BlockShortUptoSaid : Prop := blockShortUptoRow.holds Try.pinned (OpenSpec.upto blockShortSpec)

/-- 'gabionlaw10.BlockUnpacks', WHERE WHAT IT READS IS OF BULK AT MOST 1048576: true; the input reads as it did. -/
def blockUnpacksUptoRow : OpenClaim := { program := "ytoojflhafmnggaa", sum := "3efff5a93ca63099e571a8be85c7e5a0aae85cfe14cf6a95cb9479df75c2cf0d", func := "gabion/gabionlaw10.BlockUnpacks", spec := "blockUnpacks", unfollowed := true, recurses := true, plainKeys := false, apart := false, narrowed := true }
def BlockUnpacksUptoSaid : Prop := blockUnpacksUptoRow.holds Try.pinned (OpenSpec.upto blockUnpacksSpec)

/-- 'gabionlaw10.BlockBack', WHERE WHAT IT READS IS OF BULK AT MOST 1048576: true; the input reads as it did. -/
def blockBackUptoRow : OpenClaim := { program := "ytoojflhafmnggaa", sum := "3efff5a93ca63099e571a8be85c7e5a0aae85cfe14cf6a95cb9479df75c2cf0d", func := "gabion/gabionlaw10.BlockBack", spec := "blockBack", unfollowed := true, recurses := true, plainKeys := false, apart := false, narrowed := true }
def BlockBackUptoSaid : Prop := blockBackUptoRow.holds Try.pinned (OpenSpec.upto blockBackSpec)

/-- 'gabionlaw10.BlockTokens', WHERE WHAT IT READS IS OF BULK AT MOST 1048576: true; the input reads as it did. -/
def blockTokensUptoRow : OpenClaim := { program := "ytoojflhafmnggaa", sum := "3efff5a93ca63099e571a8be85c7e5a0aae85cfe14cf6a95cb9479df75c2cf0d", func := "gabion/gabionlaw10.BlockTokens", spec := "blockTokens", unfollowed := true, recurses := true, plainKeys := false, apart := false, narrowed := true }
def BlockTokensUptoSaid : Prop := blockTokensUptoRow.holds Try.pinned (OpenSpec.upto blockTokensSpec)

end Rows
end Go.Proofs.Ytoojflhafmnggaa
