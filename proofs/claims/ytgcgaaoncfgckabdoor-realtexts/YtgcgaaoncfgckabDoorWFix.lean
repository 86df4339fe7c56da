/- The walks of package real's and the document's Fix, Bits, Of, Same, and of the law's own raw and exact: what each returns, as a function of the float's bits. -/
import Derived.Test.YtgcgaaoncfgckabDoorRows
import Derived.WalkKit
import Derived.WalkSpells
import Derived.WalkLawsBesides
namespace Go.Proofs.YtgcgaaoncfgckabDoor
open Go.RowKit

/-- x != x -/
def nanB (x : Nat) : Bool := FloatKind.f64.format.order x x != some .eq
/-- the bits, with the one NaN -/
def fixB (x : Nat) : Nat := if nanB x then 9221120237041090560 else x

theorem nan_t {x : Nat} (h : nanB x = true) : (FloatKind.f64.format.order x x != some .eq) = true := h
theorem nan_f {x : Nat} (h : nanB x = false) : (FloatKind.f64.format.order x x != some .eq) = false := h
theorem fix_t {x : Nat} (h : nanB x = true) : fixB x = 9221120237041090560 := by simp [fixB, h]
theorem fix_f {x : Nat} (h : nanB x = false) : fixB x = x := by simp [fixB, h]

theorem run_frombits (x : Int) (w : World) : (callFunc 11 #[.int .u64 x]).run Tryd.prog w = .ok (.value (.float .f64 x.toNat)) w := by kernel_rfl
theorem run_bits (x : Nat) (w : World) : (callFunc 20 #[.float .f64 x]).run Tryd.prog w = .ok (.value (.int .u64 x)) w := by kernel_rfl
attribute [local go_sem] run_frombits run_bits

set_option maxHeartbeats 400000 in
theorem isNaN_any (x : Nat) (w : World) :
    Calls Tryd.prog 13 #[.float .f64 x] w fun e w' => e = .returned (.bool (nanB x)) ∧ w' = w := by
  go_enter Tryd.func13, Tryd.ntmps13
  go_wp2
  go_ret
  exact ⟨rfl, rfl⟩

set_option maxHeartbeats 400000 in
theorem realFix_any (x : Nat) (w : World) :
    Calls Tryd.prog 8 #[.float .f64 x] w fun e w' => e = .returned (.float .f64 (fixB x)) ∧ w' = w := by
  cases h : nanB x
  · have h' := nan_f h
    rw [fix_f h]
    clear h
    go_enter Tryd.func8, Tryd.ntmps8
    go_wp2
    go_ret
    exact ⟨rfl, rfl⟩
  · have h' := nan_t h
    rw [fix_t h]
    clear h
    go_enter Tryd.func8, Tryd.ntmps8
    go_wp2
    go_ret
    exact ⟨rfl, rfl⟩

set_option maxHeartbeats 400000 in
theorem realBits_any (x : Nat) (w : World) :
    Calls Tryd.prog 19 #[.float .f64 x] w fun e w' => e = .returned (.int .u64 (fixB x)) ∧ w' = w := by
  go_enter Tryd.func19, Tryd.ntmps19
  go_wp2_with (go_at_call 8; refine (realFix_any _ _).mono ?_; rintro e w' ⟨rfl, rfl⟩)
  go_ret
  exact ⟨rfl, rfl⟩

set_option maxHeartbeats 400000 in
theorem realOf_any (x : Int) (w : World) :
    Calls Tryd.prog 22 #[.int .u64 x] w fun e w' => e = .returned (.float .f64 (fixB x.toNat)) ∧ w' = w := by
  go_enter Tryd.func22, Tryd.ntmps22
  go_wp2_with (go_at_call 8; refine (realFix_any _ _).mono ?_; rintro e w' ⟨rfl, rfl⟩)
  go_ret
  exact ⟨rfl, rfl⟩

set_option maxHeartbeats 400000 in
theorem realSame_any (x y : Nat) (w : World) :
    Calls Tryd.prog 9 #[.float .f64 x, .float .f64 y] w fun e w' => e = .returned (.bool ((fixB x : Int) == (fixB y : Int))) ∧ w' = w := by
  go_enter Tryd.func9, Tryd.ntmps9
  go_wp2_with (go_at_call 19; refine (realBits_any _ _).mono ?_; rintro e w' ⟨rfl, rfl⟩)
  go_ret
  exact ⟨rfl, rfl⟩

set_option maxHeartbeats 400000 in
theorem raw_any (x : Int) (w : World) :
    Calls Tryd.prog 4 #[.int .u64 x] w fun e w' => e = .returned (.float .f64 x.toNat) ∧ w' = w := by
  go_enter Tryd.func4, Tryd.ntmps4
  go_wp2
  go_ret
  exact ⟨rfl, rfl⟩

set_option maxHeartbeats 400000 in
theorem exact_any (x y : Nat) (w : World) :
    Calls Tryd.prog 7 #[.float .f64 x, .float .f64 y] w fun e w' => e = .returned (.bool ((x : Int) == (y : Int))) ∧ w' = w := by
  go_enter Tryd.func7, Tryd.ntmps7
  go_wp2
  go_ret
  exact ⟨rfl, rfl⟩

end Go.Proofs.YtgcgaaoncfgckabDoor
