/- The walks of package real's and the document's ToInt and FromInt. -/
import Derived.Test.YtgcgaaoncfgckabDoorWFix
import Derived.Test.YtgcgaaoncfgckabDoorFlt
namespace Go.Proofs.YtgcgaaoncfgckabDoor
open Go.RowKit

/-- is it a whole number of 64 bits, and not the minus nought? -/
def okB (x : Nat) : Bool := Flt.inR x && !((fixB x : Int) == 9223372036854775808) && Flt.whole x
/-- what ToInt tells -/
def toN (x : Nat) : Int := if okB x then Flt.trunc x else 0
def toE (x : Nat) : Int := if okB x then 0 else 10

set_option maxHeartbeats 400000 in
theorem isMinusZero_any (x : Nat) (w : World) :
    Calls Tryd.prog 15 #[.float .f64 x] w fun e w' => e = .returned (.bool ((fixB x : Int) == 9223372036854775808)) ∧ w' = w := by
  go_enter Tryd.func15, Tryd.ntmps15
  go_wp2_with (go_at_call 19; refine (realBits_any _ _).mono ?_; rintro e w' ⟨rfl, rfl⟩)
  go_ret
  exact ⟨rfl, rfl⟩

theorem inR_f {x : Nat} (h : Flt.inR x = false) : (FloatKind.f64.format.order 14114281232179134464 x == some .lt || FloatKind.f64.format.order 14114281232179134464 x == some .eq) = false ∨ (FloatKind.f64.format.order 14114281232179134464 x == some .lt || FloatKind.f64.format.order 14114281232179134464 x == some .eq) = true ∧ (FloatKind.f64.format.order x 4890909195324358656 == some .lt) = false := by
  have h' : ((FloatKind.f64.format.order 14114281232179134464 x == some .lt || FloatKind.f64.format.order 14114281232179134464 x == some .eq) && FloatKind.f64.format.order x 4890909195324358656 == some .lt) = false := h
  rw [Bool.and_eq_false_iff] at h'
  rcases h' with h' | h'
  · exact .inl h'
  · cases ha : (FloatKind.f64.format.order 14114281232179134464 x == some .lt || FloatKind.f64.format.order 14114281232179134464 x == some .eq)
    · exact .inl rfl
    · exact .inr ⟨rfl, h'⟩
theorem inR_t {x : Nat} (h : Flt.inR x = true) : (FloatKind.f64.format.order 14114281232179134464 x == some .lt || FloatKind.f64.format.order 14114281232179134464 x == some .eq) = true ∧ (FloatKind.f64.format.order x 4890909195324358656 == some .lt) = true := by
  have h' : ((FloatKind.f64.format.order 14114281232179134464 x == some .lt || FloatKind.f64.format.order 14114281232179134464 x == some .eq) && FloatKind.f64.format.order x 4890909195324358656 == some .lt) = true := h
  rw [Bool.and_eq_true] at h'
  exact h'

theorem isMZ_t (x : Nat) (h : ((fixB x : Int) == 9223372036854775808) = true) (w : World) :
    Calls Tryd.prog 15 #[.float .f64 x] w fun e w' => e = .returned (.bool true) ∧ w' = w := by
  refine (isMinusZero_any x w).mono ?_
  rintro e w' ⟨rfl, rfl⟩; exact ⟨by rw [h], rfl⟩
theorem isMZ_f (x : Nat) (h : ((fixB x : Int) == 9223372036854775808) = false) (w : World) :
    Calls Tryd.prog 15 #[.float .f64 x] w fun e w' => e = .returned (.bool false) ∧ w' = w := by
  refine (isMinusZero_any x w).mono ?_
  rintro e w' ⟨rfl, rfl⟩; exact ⟨by rw [h], rfl⟩

theorem run_to_int (x : Nat) (n : Int) (w : World) (h : floatToIntVal .f64 x .i64 = some n) : (convert 23 2 (.float .f64 x)).run Tryd.prog w = .ok (.int .i64 n) w :=
  run_convert_float_int w 23 2 .f64 .i64 x n (by rw [Tryd.underlying23]; rfl) Tryd.underlying2 h

set_option maxHeartbeats 400000 in
theorem realToInt_any (x : Nat) (w : World) :
    Calls Tryd.prog 16 #[.float .f64 x] w fun e w' => e = .returned (.tuple #[.int .i64 (toN x), .int .i64 (toE x)]) ∧ w' = w := by
  cases hr : Flt.inR x
  · have e1 : toN x = 0 := by simp [toN, okB, hr]
    have e2 : toE x = 10 := by simp [toE, okB, hr]
    rw [e1, e2]
    rcases inR_f hr with h | ⟨h, h'⟩
    all_goals
      clear hr e1 e2
      go_enter Tryd.func16, Tryd.ntmps16
      go_wp2
      go_ret2
      exact ⟨rfl, rfl⟩
  · obtain ⟨h, h'⟩ := inR_t hr
    cases hz : ((fixB x : Int) == 9223372036854775808)
    · have hc : ∀ w, (convert 23 2 (.float .f64 x)).run Tryd.prog w = .ok (.int .i64 (Flt.trunc x)) w := fun w => run_to_int x _ w (Flt.toInt_val hr)
      cases hw : Flt.whole x
      · have hb : (FloatKind.f64.format.order (floatOfInt .f64 (Flt.trunc x)) x != some .eq) = true := by
          have := Flt.back_whole (Flt.inR_fin hr)
          rw [hw] at this
          exact congrArg not this
        have e1 : toN x = 0 := by simp [toN, okB, hw]
        have e2 : toE x = 10 := by simp [toE, okB, hw]
        rw [e1, e2]
        clear hr e1 e2 hw
        go_enter Tryd.func16, Tryd.ntmps16
        go_wp2_with (go_at_call 15; refine (isMZ_f _ hz _).mono ?_; rintro e w' ⟨rfl, rfl⟩)
        go_ret2
        exact ⟨rfl, rfl⟩
      · have hb : (FloatKind.f64.format.order (floatOfInt .f64 (Flt.trunc x)) x != some .eq) = false := by
          have := Flt.back_whole (Flt.inR_fin hr)
          rw [hw] at this
          exact congrArg not this
        have e1 : toN x = Flt.trunc x := by simp [toN, okB, hw, hr, hz]
        have e2 : toE x = 0 := by simp [toE, okB, hw, hr, hz]
        rw [e1, e2]
        clear hr e1 e2 hw
        go_enter Tryd.func16, Tryd.ntmps16
        go_wp2_with (go_at_call 15; refine (isMZ_f _ hz _).mono ?_; rintro e w' ⟨rfl, rfl⟩)
        go_ret2
        exact ⟨rfl, rfl⟩
    · have e1 : toN x = 0 := by simp [toN, okB, hz]
      have e2 : toE x = 10 := by simp [toE, okB, hz]
      rw [e1, e2]
      clear hr e1 e2
      go_enter Tryd.func16, Tryd.ntmps16
      go_wp2_with (go_at_call 15; refine (isMZ_t _ hz _).mono ?_; rintro e w' ⟨rfl, rfl⟩)
      go_ret2
      exact ⟨rfl, rfl⟩

/-- what FromInt tells -/
def fromOk (n : Int) : Bool := (toE (floatOfInt .f64 n) == 0) && (toN (floatOfInt .f64 n) == n)
def fromB (n : Int) : Nat := if fromOk n then floatOfInt .f64 n else 0
def fromE (n : Int) : Int := if fromOk n then 0 else 10

theorem from_cases (n : Int) : (toE (floatOfInt .f64 n) != 0) = true ∧ fromOk n = false ∨ (toE (floatOfInt .f64 n) != 0) = false ∧ (toN (floatOfInt .f64 n) != n) = true ∧ fromOk n = false ∨ (toE (floatOfInt .f64 n) != 0) = false ∧ (toN (floatOfInt .f64 n) != n) = false ∧ fromOk n = true := by
  unfold fromOk bne
  cases toE (floatOfInt .f64 n) == 0 <;> cases toN (floatOfInt .f64 n) == n <;> simp

set_option maxHeartbeats 400000 in
theorem realFromInt_any (n : Int) (w : World) :
    Calls Tryd.prog 21 #[.int .i64 n] w fun e w' => e = .returned (.tuple #[.float .f64 (fromB n), .int .i64 (fromE n)]) ∧ w' = w := by
  rcases from_cases n with ⟨h, ho⟩ | ⟨h, h', ho⟩ | ⟨h, h', ho⟩
  · have e1 : fromB n = 0 := by simp [fromB, ho]
    have e2 : fromE n = 10 := by simp [fromE, ho]
    rw [e1, e2]
    clear ho e1 e2
    go_enter Tryd.func21, Tryd.ntmps21
    go_wp2_with (go_at_call 16; refine (realToInt_any _ _).mono ?_; rintro e w' ⟨rfl, rfl⟩)
    go_ret2
    exact ⟨rfl, rfl⟩
  · have e1 : fromB n = 0 := by simp [fromB, ho]
    have e2 : fromE n = 10 := by simp [fromE, ho]
    rw [e1, e2]
    clear ho e1 e2
    go_enter Tryd.func21, Tryd.ntmps21
    go_wp2_with (go_at_call 16; refine (realToInt_any _ _).mono ?_; rintro e w' ⟨rfl, rfl⟩)
    go_ret2
    exact ⟨rfl, rfl⟩
  · have e1 : fromB n = floatOfInt .f64 n := by simp [fromB, ho]
    have e2 : fromE n = 0 := by simp [fromE, ho]
    rw [e1, e2]
    clear ho e1 e2
    go_enter Tryd.func21, Tryd.ntmps21
    go_wp2_with (go_at_call 16; refine (realToInt_any _ _).mono ?_; rintro e w' ⟨rfl, rfl⟩)
    go_ret2
    exact ⟨rfl, rfl⟩
end Go.Proofs.YtgcgaaoncfgckabDoor
