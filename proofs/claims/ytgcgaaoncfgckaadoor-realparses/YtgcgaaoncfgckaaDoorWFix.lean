/- The walks of package real's and the document's Fix, Bits, Of, Same, and of the law's own raw and exact: what each returns, as a function of the float's bits. -/
import Derived.Test.YtgcgaaoncfgckaaDoorRows
import Derived.WalkKit
import Derived.WalkSpells
import Derived.WalkLawsBesides
namespace Go.Proofs.YtgcgaaoncfgckaaDoor
open Go.RowKit

/-- x != x -/
def nanB (x : Nat) : Bool := FloatKind.f64.format.order x x != some .eq
/-- the bits, with the one NaN -/
def fixB (x : Nat) : Nat := if nanB x then 9221120237041090560 else x

theorem nan_t {x : Nat} (h : nanB x = true) : (FloatKind.f64.format.order x x != some .eq) = true := h
theorem nan_f {x : Nat} (h : nanB x = false) : (FloatKind.f64.format.order x x != some .eq) = false := h
theorem fix_t {x : Nat} (h : nanB x = true) : fixB x = 9221120237041090560 := by simp [fixB, h]
theorem fix_f {x : Nat} (h : nanB x = false) : fixB x = x := by simp [fixB, h]

theorem run_frombits (x : Int) (w : World) : (callFunc 29 #[.int .u64 x]).run Tryd.prog w = .ok (.value (.float .f64 x.toNat)) w := by kernel_rfl
theorem run_bits (x : Nat) (w : World) : (callFunc 34 #[.float .f64 x]).run Tryd.prog w = .ok (.value (.int .u64 x)) w := by kernel_rfl
attribute [local go_sem] run_frombits run_bits

set_option maxHeartbeats 400000 in
theorem isNaN_any (x : Nat) (w : World) :
    Calls Tryd.prog 30 #[.float .f64 x] w fun e w' => e = .returned (.bool (nanB x)) ∧ w' = w := by
  go_enter Tryd.func30, Tryd.ntmps30
  go_wp2
  go_ret
  exact ⟨rfl, rfl⟩

set_option maxHeartbeats 400000 in
theorem realFix_any (x : Nat) (w : World) :
    Calls Tryd.prog 15 #[.float .f64 x] w fun e w' => e = .returned (.float .f64 (fixB x)) ∧ w' = w := by
  cases h : nanB x
  · have h' := nan_f h
    rw [fix_f h]
    clear h
    go_enter Tryd.func15, Tryd.ntmps15
    go_wp2
    go_ret
    exact ⟨rfl, rfl⟩
  · have h' := nan_t h
    rw [fix_t h]
    clear h
    go_enter Tryd.func15, Tryd.ntmps15
    go_wp2
    go_ret
    exact ⟨rfl, rfl⟩

set_option maxHeartbeats 400000 in
theorem refFix_any (x : Nat) (w : World) :
    Calls Tryd.prog 16 #[.float .f64 x] w fun e w' => e = .returned (.float .f64 (fixB x)) ∧ w' = w := by
  cases h : nanB x
  · have h' := nan_f h
    rw [fix_f h]
    clear h
    go_enter Tryd.func16, Tryd.ntmps16
    go_wp2
    go_ret
    exact ⟨rfl, rfl⟩
  · have h' := nan_t h
    rw [fix_t h]
    clear h
    go_enter Tryd.func16, Tryd.ntmps16
    go_wp2
    go_ret
    exact ⟨rfl, rfl⟩

set_option maxHeartbeats 400000 in
theorem refBits_any (x : Nat) (w : World) :
    Calls Tryd.prog 18 #[.float .f64 x] w fun e w' => e = .returned (.int .u64 (fixB x)) ∧ w' = w := by
  cases h : nanB x
  · have h' := nan_f h
    rw [fix_f h]
    clear h
    go_enter Tryd.func18, Tryd.ntmps18
    go_wp2
    go_ret
    exact ⟨rfl, rfl⟩
  · have h' := nan_t h
    rw [fix_t h]
    clear h
    go_enter Tryd.func18, Tryd.ntmps18
    go_wp2
    go_ret
    exact ⟨rfl, rfl⟩

set_option maxHeartbeats 400000 in
theorem realBits_any (x : Nat) (w : World) :
    Calls Tryd.prog 17 #[.float .f64 x] w fun e w' => e = .returned (.int .u64 (fixB x)) ∧ w' = w := by
  go_enter Tryd.func17, Tryd.ntmps17
  go_wp2_with (go_at_call 15; refine (realFix_any _ _).mono ?_; rintro e w' ⟨rfl, rfl⟩)
  go_ret
  exact ⟨rfl, rfl⟩

set_option maxHeartbeats 400000 in
theorem realOf_any (x : Int) (w : World) :
    Calls Tryd.prog 19 #[.int .u64 x] w fun e w' => e = .returned (.float .f64 (fixB x.toNat)) ∧ w' = w := by
  go_enter Tryd.func19, Tryd.ntmps19
  go_wp2_with (go_at_call 15; refine (realFix_any _ _).mono ?_; rintro e w' ⟨rfl, rfl⟩)
  go_ret
  exact ⟨rfl, rfl⟩

set_option maxHeartbeats 400000 in
theorem refOf_any (x : Int) (w : World) :
    Calls Tryd.prog 20 #[.int .u64 x] w fun e w' => e = .returned (.float .f64 (fixB x.toNat)) ∧ w' = w := by
  go_enter Tryd.func20, Tryd.ntmps20
  go_wp2_with (go_at_call 16; refine (refFix_any _ _).mono ?_; rintro e w' ⟨rfl, rfl⟩)
  go_ret
  exact ⟨rfl, rfl⟩

set_option maxHeartbeats 400000 in
theorem realSame_any (x y : Nat) (w : World) :
    Calls Tryd.prog 13 #[.float .f64 x, .float .f64 y] w fun e w' => e = .returned (.bool ((fixB x : Int) == (fixB y : Int))) ∧ w' = w := by
  go_enter Tryd.func13, Tryd.ntmps13
  go_wp2_with (go_at_call 17; refine (realBits_any _ _).mono ?_; rintro e w' ⟨rfl, rfl⟩)
  go_ret
  exact ⟨rfl, rfl⟩

set_option maxHeartbeats 400000 in
theorem refSame_any (x y : Nat) (w : World) :
    Calls Tryd.prog 22 #[.float .f64 x, .float .f64 y] w fun e w' => e = .returned (.bool ((fixB x : Int) == (fixB y : Int))) ∧ w' = w := by
  go_enter Tryd.func22, Tryd.ntmps22
  go_wp2_with (go_at_call 18; refine (refBits_any _ _).mono ?_; rintro e w' ⟨rfl, rfl⟩)
  go_ret
  exact ⟨rfl, rfl⟩

set_option maxHeartbeats 400000 in
theorem raw_any (x : Int) (w : World) :
    Calls Tryd.prog 11 #[.int .u64 x] w fun e w' => e = .returned (.float .f64 x.toNat) ∧ w' = w := by
  go_enter Tryd.func11, Tryd.ntmps11
  go_wp2
  go_ret
  exact ⟨rfl, rfl⟩

set_option maxHeartbeats 400000 in
theorem exact_any (x y : Nat) (w : World) :
    Calls Tryd.prog 14 #[.float .f64 x, .float .f64 y] w fun e w' => e = .returned (.bool ((x : Int) == (y : Int))) ∧ w' = w := by
  go_enter Tryd.func14, Tryd.ntmps14
  go_wp2
  go_ret
  exact ⟨rfl, rfl⟩

end Go.Proofs.YtgcgaaoncfgckaaDoor
