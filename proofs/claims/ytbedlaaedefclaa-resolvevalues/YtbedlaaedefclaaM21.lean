/- WInt9, WRef9: put together. -/
import Derived.Test.YtbedlaaedefclaaM03
import Derived.Test.YtbedlaaedefclaaM20
import Derived.Laws.Externs
import Derived.Lib.Hide

/- The walks of package real's ToInt and FromInt (wip/real/WInt.lean.t over a dump that lists no variable). -/
namespace Go.Proofs.Ytbedlaaedefclaa
open Go.RowKit

/-- is it a whole number of 64 bits, and not the minus nought? -/
def okB (x : Nat) : Bool := Flt.inR x && !((fixB x : Int) == 9223372036854775808) && Flt.whole x
/-- what ToInt tells -/
def toN (x : Nat) : Int := if okB x then Flt.trunc x else 0
def toE (x : Nat) : Int := if okB x then 0 else 10

set_option maxHeartbeats 400000 in
theorem isMinusZero_any (x : Nat) (w : World) :
    Calls Try.prog 87 #[.float .f64 x] w fun e w' => e = .returned (.bool ((fixB x : Int) == 9223372036854775808)) ∧ w' = w := by
  go_enter Try.func87, Try.ntmps87
  go_wp2_with (go_at_call 99; refine (realBits_any _ _).mono ?_; rintro e w' ⟨rfl, rfl⟩)
  go_ret
  exact ⟨rfl, rfl⟩

theorem inR_f {x : Nat} (h : Flt.inR x = false) : (FloatKind.f64.format.order 14114281232179134464 x == some .lt || FloatKind.f64.format.order 14114281232179134464 x == some .eq) = false ∨ (FloatKind.f64.format.order 14114281232179134464 x == some .lt || FloatKind.f64.format.order 14114281232179134464 x == some .eq) = true ∧ (FloatKind.f64.format.order x 4890909195324358656 == some .lt) = false := by
  have h' : ((FloatKind.f64.format.order 14114281232179134464 x == some .lt || FloatKind.f64.format.order 14114281232179134464 x == some .eq) && FloatKind.f64.format.order x 4890909195324358656 == some .lt) = false := h
  rw [Bool.and_eq_false_iff] at h'
  rcases h' with h' | h'
  · exact .inl h'
  · cases ha : (FloatKind.f64.format.order 14114281232179134464 x == some .lt || FloatKind.f64.format.order 14114281232179134464 x == some .eq)
    · exact .inl rfl
    · exact .inr ⟨rfl, h'⟩
theorem inR_t {x : Nat} (h : Flt.inR x = true) : (FloatKind.f64.format.order 14114281232179134464 x == some .lt || FloatKind.f64.format.order 14114281232179134464 x == some .eq) = true ∧ (FloatKind.f64.format.order x 4890909195324358656 == some .lt) = true := by
  have h' : ((FloatKind.f64.format.order 14114281232179134464 x == some .lt || FloatKind.f64.format.order 14114281232179134464 x == some .eq) && FloatKind.f64.format.order x 4890909195324358656 == some .lt) = true := h
  rw [Bool.and_eq_true] at h'
  exact h'

theorem isMZ_t (x : Nat) (h : ((fixB x : Int) == 9223372036854775808) = true) (w : World) :
    Calls Try.prog 87 #[.float .f64 x] w fun e w' => e = .returned (.bool true) ∧ w' = w := by
  refine (isMinusZero_any x w).mono ?_
  rintro e w' ⟨rfl, rfl⟩; exact ⟨by rw [h], rfl⟩
theorem isMZ_f (x : Nat) (h : ((fixB x : Int) == 9223372036854775808) = false) (w : World) :
    Calls Try.prog 87 #[.float .f64 x] w fun e w' => e = .returned (.bool false) ∧ w' = w := by
  refine (isMinusZero_any x w).mono ?_
  rintro e w' ⟨rfl, rfl⟩; exact ⟨by rw [h], rfl⟩

theorem run_to_int (x : Nat) (n : Int) (w : World) (h : floatToIntVal .f64 x .i64 = some n) : (convert 25 2 (.float .f64 x)).run Try.prog w = .ok (.int .i64 n) w :=
  run_convert_float_int w 25 2 .f64 .i64 x n (by rw [Try.underlying25]; rfl) Try.underlying2 h

set_option maxHeartbeats 400000 in
theorem realToInt_any (x : Nat) (w : World) :
    Calls Try.prog 69 #[.float .f64 x] w fun e w' => e = .returned (.tuple #[.int .i64 (toN x), .int .i64 (toE x)]) ∧ w' = w := by
  cases hr : Flt.inR x
  · have e1 : toN x = 0 := by simp [toN, okB, hr]
    have e2 : toE x = 10 := by simp [toE, okB, hr]
    rw [e1, e2]
    rcases inR_f hr with h | ⟨h, h'⟩
    all_goals
      clear hr e1 e2
      go_enter Try.func69, Try.ntmps69
      go_wp2
      go_ret2
      exact ⟨rfl, rfl⟩
  · obtain ⟨h, h'⟩ := inR_t hr
    cases hz : ((fixB x : Int) == 9223372036854775808)
    · have hc : ∀ w, (convert 25 2 (.float .f64 x)).run Try.prog w = .ok (.int .i64 (Flt.trunc x)) w := fun w => run_to_int x _ w (Flt.toInt_val hr)
      cases hw : Flt.whole x
      · have hb : (FloatKind.f64.format.order (floatOfInt .f64 (Flt.trunc x)) x != some .eq) = true := by
          have := Flt.back_whole (Flt.inR_fin hr)
          rw [hw] at this
          exact congrArg not this
        have e1 : toN x = 0 := by simp [toN, okB, hw]
        have e2 : toE x = 10 := by simp [toE, okB, hw]
        rw [e1, e2]
        clear hr e1 e2 hw
        go_enter Try.func69, Try.ntmps69
        go_wp2_with (go_at_call 87; refine (isMZ_f _ hz _).mono ?_; rintro e w' ⟨rfl, rfl⟩)
        go_ret2
        exact ⟨rfl, rfl⟩
      · have hb : (FloatKind.f64.format.order (floatOfInt .f64 (Flt.trunc x)) x != some .eq) = false := by
          have := Flt.back_whole (Flt.inR_fin hr)
          rw [hw] at this
          exact congrArg not this
        have e1 : toN x = Flt.trunc x := by simp [toN, okB, hw, hr, hz]
        have e2 : toE x = 0 := by simp [toE, okB, hw, hr, hz]
        rw [e1, e2]
        clear hr e1 e2 hw
        go_enter Try.func69, Try.ntmps69
        go_wp2_with (go_at_call 87; refine (isMZ_f _ hz _).mono ?_; rintro e w' ⟨rfl, rfl⟩)
        go_ret2
        exact ⟨rfl, rfl⟩
    · have e1 : toN x = 0 := by simp [toN, okB, hz]
      have e2 : toE x = 10 := by simp [toE, okB, hz]
      rw [e1, e2]
      clear hr e1 e2
      go_enter Try.func69, Try.ntmps69
      go_wp2_with (go_at_call 87; refine (isMZ_t _ hz _).mono ?_; rintro e w' ⟨rfl, rfl⟩)
      go_ret2
      exact ⟨rfl, rfl⟩

/-- what FromInt tells -/
def fromOk (n : Int) : Bool := (toE (floatOfInt .f64 n) == 0) && (toN (floatOfInt .f64 n) == n)
def fromB (n : Int) : Nat := if fromOk n then floatOfInt .f64 n else 0
def fromE (n : Int) : Int := if fromOk n then 0 else 10

theorem from_cases (n : Int) : (toE (floatOfInt .f64 n) != 0) = true ∧ fromOk n = false ∨ (toE (floatOfInt .f64 n) != 0) = false ∧ (toN (floatOfInt .f64 n) != n) = true ∧ fromOk n = false ∨ (toE (floatOfInt .f64 n) != 0) = false ∧ (toN (floatOfInt .f64 n) != n) = false ∧ fromOk n = true := by
  unfold fromOk bne
  cases toE (floatOfInt .f64 n) == 0 <;> cases toN (floatOfInt .f64 n) == n <;> simp

set_option maxHeartbeats 400000 in
theorem realFromInt_any (n : Int) (w : World) :
    Calls Try.prog 68 #[.int .i64 n] w fun e w' => e = .returned (.tuple #[.float .f64 (fromB n), .int .i64 (fromE n)]) ∧ w' = w := by
  rcases from_cases n with ⟨h, ho⟩ | ⟨h, h', ho⟩ | ⟨h, h', ho⟩
  · have e1 : fromB n = 0 := by simp [fromB, ho]
    have e2 : fromE n = 10 := by simp [fromE, ho]
    rw [e1, e2]
    clear ho e1 e2
    go_enter Try.func68, Try.ntmps68
    go_wp2_with (go_at_call 69; refine (realToInt_any _ _).mono ?_; rintro e w' ⟨rfl, rfl⟩)
    go_ret2
    exact ⟨rfl, rfl⟩
  · have e1 : fromB n = 0 := by simp [fromB, ho]
    have e2 : fromE n = 10 := by simp [fromE, ho]
    rw [e1, e2]
    clear ho e1 e2
    go_enter Try.func68, Try.ntmps68
    go_wp2_with (go_at_call 69; refine (realToInt_any _ _).mono ?_; rintro e w' ⟨rfl, rfl⟩)
    go_ret2
    exact ⟨rfl, rfl⟩
  · have e1 : fromB n = floatOfInt .f64 n := by simp [fromB, ho]
    have e2 : fromE n = 0 := by simp [fromE, ho]
    rw [e1, e2]
    clear ho e1 e2
    go_enter Try.func68, Try.ntmps68
    go_wp2_with (go_at_call 69; refine (realToInt_any _ _).mono ?_; rintro e w' ⟨rfl, rfl⟩)
    go_ret2
    exact ⟨rfl, rfl⟩
end Go.Proofs.Ytbedlaaedefclaa

/- The walks of the document's own ToInt and FromInt: they tell what package real's tell. -/
namespace Go.Proofs.Ytbedlaaedefclaa
open Go.RowKit

theorem floor_at (nm : String) (way : Ieee.Toward) (x : Nat) (s : Bool) (m : Nat) (i : Int) (h : FloatKind.f64.decode x = .number s m i) :
    Extern.MathFloor.toIntegral nm way #[.float .f64 x] = pure (.float .f64 (FloatKind.f64.encode ((Ieee.Datum.number s m i).integral way))) := by
  conv => lhs; whnf
  rw [h]
theorem floor_find : Extern.find Try.f101 = some (Extern.MathFloor.toIntegral "math.archFloor" .down) := by kernel_rfl
theorem run_floor {x : Nat} (hf : Flt.rung x < 9218868437227405312) (w : World) : (callFunc 101 #[.float .f64 x]).run Try.prog w = .ok (.value (.float .f64 (Flt.floorB x))) w := by
  rw [run_callFunc_extern Try.func101 (by kernel_rfl) (by kernel_rfl) (by kernel_rfl) floor_find]
  have e : FloatKind.f64.decode x = .number (Flt.neg x) (Flt.mag (Flt.rung x)) (-1074 + (Flt.ex (Flt.rung x) : Nat)) := Flt.read_fin hf
  unfold Flt.floorB
  rw [floor_at _ _ _ _ _ _ e, e]
  rfl

set_option maxHeartbeats 400000 in
theorem floor_any (x : Nat) (hf : Flt.rung x < 9218868437227405312) (w : World) :
    Calls Try.prog 90 #[.float .f64 x] w fun e w' => e = .returned (.float .f64 (Flt.floorB x)) ∧ w' = w := by
  have hr : ∀ w, (callFunc 101 #[.float .f64 x]).run Try.prog w = .ok (.value (.float .f64 (Flt.floorB x))) w := fun w => run_floor hf w
  clear hf
  go_enter Try.func90, Try.ntmps90
  go_wp2
  go_ret
  exact ⟨rfl, rfl⟩

theorem geq_f {x : Nat} (h : (FloatKind.f64.format.order 14114281232179134464 x == some .lt || FloatKind.f64.format.order 14114281232179134464 x == some .eq) = false) : (FloatKind.f64.format.order x 14114281232179134464 == some .gt || FloatKind.f64.format.order x 14114281232179134464 == some .eq) = false := (Flt.geq_leq x 14114281232179134464).trans h
theorem geq_t {x : Nat} (h : (FloatKind.f64.format.order 14114281232179134464 x == some .lt || FloatKind.f64.format.order 14114281232179134464 x == some .eq) = true) : (FloatKind.f64.format.order x 14114281232179134464 == some .gt || FloatKind.f64.format.order x 14114281232179134464 == some .eq) = true := (Flt.geq_leq x 14114281232179134464).trans h

set_option maxHeartbeats 400000 in
theorem refToInt_any (x : Nat) (w : World) :
    Calls Try.prog 75 #[.float .f64 x] w fun e w' => e = .returned (.tuple #[.int .i64 (toN x), .int .i64 (toE x)]) ∧ w' = w := by
  cases hr : Flt.inR x
  · have e1 : toN x = 0 := by simp [toN, okB, hr]
    have e2 : toE x = 10 := by simp [toE, okB, hr]
    rw [e1, e2]
    rcases inR_f hr with h | ⟨h, h'⟩
    · have h1 := geq_f h
      clear hr e1 e2 h
      go_enter Try.func75, Try.ntmps75
      go_wp2
      go_ret2
      exact ⟨rfl, rfl⟩
    · have h1 := geq_t h
      clear hr e1 e2 h
      go_enter Try.func75, Try.ntmps75
      go_wp2
      go_ret2
      exact ⟨rfl, rfl⟩
  · obtain ⟨h, h'⟩ := inR_t hr
    have h1 := geq_t h
    have hf := Flt.inR_fin hr
    clear h
    cases hw : Flt.whole x
    · have hb : (FloatKind.f64.format.order x (Flt.floorB x) != some .eq) = true := by
        have := Flt.floor_whole hf
        rw [hw] at this
        exact congrArg not this
      have e1 : toN x = 0 := by simp [toN, okB, hw]
      have e2 : toE x = 10 := by simp [toE, okB, hw]
      rw [e1, e2]
      have HF := Lib.hid hf
      clear hr e1 e2 hw hf
      go_enter Try.func75, Try.ntmps75
      go_wp2_with (go_at_call 90; refine (floor_any _ HF.out _).mono ?_; rintro e w' ⟨rfl, rfl⟩)
      go_ret2
      exact ⟨rfl, rfl⟩
    · have hb : (FloatKind.f64.format.order x (Flt.floorB x) != some .eq) = false := by
        have := Flt.floor_whole hf
        rw [hw] at this
        exact congrArg not this
      cases hz : ((fixB x : Int) == 9223372036854775808)
      · have hc : ∀ w, (convert 25 2 (.float .f64 x)).run Try.prog w = .ok (.int .i64 (Flt.trunc x)) w := fun w => run_to_int x _ w (Flt.toInt_val hr)
        have e1 : toN x = Flt.trunc x := by simp [toN, okB, hw, hr, hz]
        have e2 : toE x = 0 := by simp [toE, okB, hw, hr, hz]
        rw [e1, e2]
        have HF := Lib.hid hf
        clear hr e1 e2 hw hf
        go_enter Try.func75, Try.ntmps75
        go_wp2_with (first | (go_at_call 90; refine (floor_any _ HF.out _).mono ?_; rintro e w' ⟨rfl, rfl⟩) | (go_at_call 64; refine (refBits_any _ _).mono ?_; rintro e w' ⟨rfl, rfl⟩))
        go_ret2
        exact ⟨rfl, rfl⟩
      · have e1 : toN x = 0 := by simp [toN, okB, hz]
        have e2 : toE x = 10 := by simp [toE, okB, hz]
        rw [e1, e2]
        have HF := Lib.hid hf
        clear hr e1 e2 hw hf
        go_enter Try.func75, Try.ntmps75
        go_wp2_with (first | (go_at_call 90; refine (floor_any _ HF.out _).mono ?_; rintro e w' ⟨rfl, rfl⟩) | (go_at_call 64; refine (refBits_any _ _).mono ?_; rintro e w' ⟨rfl, rfl⟩))
        go_ret2
        exact ⟨rfl, rfl⟩

set_option maxHeartbeats 400000 in
theorem refFromInt_any (n : Int) (w : World) :
    Calls Try.prog 74 #[.int .i64 n] w fun e w' => e = .returned (.tuple #[.float .f64 (fromB n), .int .i64 (fromE n)]) ∧ w' = w := by
  rcases from_cases n with ⟨h, ho⟩ | ⟨h, h', ho⟩ | ⟨h, h', ho⟩
  · have e1 : fromB n = 0 := by simp [fromB, ho]
    have e2 : fromE n = 10 := by simp [fromE, ho]
    rw [e1, e2]
    clear ho e1 e2
    go_enter Try.func74, Try.ntmps74
    go_wp2_with (go_at_call 75; refine (refToInt_any _ _).mono ?_; rintro e w' ⟨rfl, rfl⟩)
    go_ret2
    exact ⟨rfl, rfl⟩
  · have e1 : fromB n = 0 := by simp [fromB, ho]
    have e2 : fromE n = 10 := by simp [fromE, ho]
    rw [e1, e2]
    clear ho e1 e2
    go_enter Try.func74, Try.ntmps74
    go_wp2_with (go_at_call 75; refine (refToInt_any _ _).mono ?_; rintro e w' ⟨rfl, rfl⟩)
    go_ret2
    exact ⟨rfl, rfl⟩
  · have e1 : fromB n = floatOfInt .f64 n := by simp [fromB, ho]
    have e2 : fromE n = 0 := by simp [fromE, ho]
    rw [e1, e2]
    clear ho e1 e2
    go_enter Try.func74, Try.ntmps74
    go_wp2_with (go_at_call 75; refine (refToInt_any _ _).mono ?_; rintro e w' ⟨rfl, rfl⟩)
    go_ret2
    exact ⟨rfl, rfl⟩
end Go.Proofs.Ytbedlaaedefclaa
