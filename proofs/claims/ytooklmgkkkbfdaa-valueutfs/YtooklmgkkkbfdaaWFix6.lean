/- The walks of package real's and the document's Fix, Bits, Same (wip/real/WFix.lean.t over a dump that lists no variable). -/
import Derived.Test.YtooklmgkkkbfdaaRows
import Derived.WalkKit
import Derived.WalkSpells
import Derived.WalkLawsBesides
import Derived.Below
import Derived.Lib.Hide
namespace Go.Proofs.Ytooklmgkkkbfdaa
open Go.RowKit

/-- x != x -/
def nanB (x : Nat) : Bool := FloatKind.f64.format.order x x != some .eq
/-- the bits, with the one NaN -/
def fixB (x : Nat) : Nat := if nanB x then 9221120237041090560 else x

theorem nan_t {x : Nat} (h : nanB x = true) : (FloatKind.f64.format.order x x != some .eq) = true := h
theorem nan_f {x : Nat} (h : nanB x = false) : (FloatKind.f64.format.order x x != some .eq) = false := h
theorem fix_t {x : Nat} (h : nanB x = true) : fixB x = 9221120237041090560 := by simp [fixB, h]
theorem fix_f {x : Nat} (h : nanB x = false) : fixB x = x := by simp [fixB, h]

theorem run_frombits (x : Int) (w : World) : (callFunc 36 #[.int .u64 x]).run Try.prog w = .ok (.value (.float .f64 x.toNat)) w := by kernel_rfl
theorem run_bits (x : Nat) (w : World) : (callFunc 26 #[.float .f64 x]).run Try.prog w = .ok (.value (.int .u64 x)) w := by kernel_rfl
attribute [local go_sem] run_frombits run_bits

set_option maxHeartbeats 400000 in
theorem isNaN_any (x : Nat) (w : World) :
    Calls Try.prog 37 #[.float .f64 x] w fun e w' => e = .returned (.bool (nanB x)) ∧ w' = w := by
  go_enter Try.func37, Try.ntmps37
  go_wp2
  go_ret
  exact ⟨rfl, rfl⟩

set_option maxHeartbeats 400000 in
theorem realFix_any (x : Nat) (w : World) :
    Calls Try.prog 27 #[.float .f64 x] w fun e w' => e = .returned (.float .f64 (fixB x)) ∧ w' = w := by
  cases h : nanB x
  · have h' := nan_f h
    rw [fix_f h]
    clear h
    go_enter Try.func27, Try.ntmps27
    go_wp2
    go_ret
    exact ⟨rfl, rfl⟩
  · have h' := nan_t h
    rw [fix_t h]
    clear h
    go_enter Try.func27, Try.ntmps27
    go_wp2
    go_ret
    exact ⟨rfl, rfl⟩

set_option maxHeartbeats 400000 in
theorem refFix_any (x : Nat) (w : World) :
    Calls Try.prog 28 #[.float .f64 x] w fun e w' => e = .returned (.float .f64 (fixB x)) ∧ w' = w := by
  cases h : nanB x
  · have h' := nan_f h
    rw [fix_f h]
    clear h
    go_enter Try.func28, Try.ntmps28
    go_wp2
    go_ret
    exact ⟨rfl, rfl⟩
  · have h' := nan_t h
    rw [fix_t h]
    clear h
    go_enter Try.func28, Try.ntmps28
    go_wp2
    go_ret
    exact ⟨rfl, rfl⟩

set_option maxHeartbeats 400000 in
theorem refBits_any (x : Nat) (w : World) :
    Calls Try.prog 39 #[.float .f64 x] w fun e w' => e = .returned (.int .u64 (fixB x)) ∧ w' = w := by
  cases h : nanB x
  · have h' := nan_f h
    rw [fix_f h]
    clear h
    go_enter Try.func39, Try.ntmps39
    go_wp2
    go_ret
    exact ⟨rfl, rfl⟩
  · have h' := nan_t h
    rw [fix_t h]
    clear h
    go_enter Try.func39, Try.ntmps39
    go_wp2
    go_ret
    exact ⟨rfl, rfl⟩

set_option maxHeartbeats 400000 in
theorem realBits_any (x : Nat) (w : World) :
    Calls Try.prog 38 #[.float .f64 x] w fun e w' => e = .returned (.int .u64 (fixB x)) ∧ w' = w := by
  go_enter Try.func38, Try.ntmps38
  go_wp2_with (go_at_call 27; refine (realFix_any _ _).mono ?_; rintro e w' ⟨rfl, rfl⟩)
  go_ret
  exact ⟨rfl, rfl⟩

set_option maxHeartbeats 400000 in
theorem realSame_any (x y : Nat) (w : World) :
    Calls Try.prog 29 #[.float .f64 x, .float .f64 y] w fun e w' => e = .returned (.bool ((fixB x : Int) == (fixB y : Int))) ∧ w' = w := by
  go_enter Try.func29, Try.ntmps29
  go_wp2_with (go_at_call 38; refine (realBits_any _ _).mono ?_; rintro e w' ⟨rfl, rfl⟩)
  go_ret
  exact ⟨rfl, rfl⟩

set_option maxHeartbeats 400000 in
theorem refSame_any (x y : Nat) (w : World) :
    Calls Try.prog 30 #[.float .f64 x, .float .f64 y] w fun e w' => e = .returned (.bool ((fixB x : Int) == (fixB y : Int))) ∧ w' = w := by
  go_enter Try.func30, Try.ntmps30
  go_wp2_with (go_at_call 39; refine (refBits_any _ _).mono ?_; rintro e w' ⟨rfl, rfl⟩)
  go_ret
  exact ⟨rfl, rfl⟩

end Go.Proofs.Ytooklmgkkkbfdaa
