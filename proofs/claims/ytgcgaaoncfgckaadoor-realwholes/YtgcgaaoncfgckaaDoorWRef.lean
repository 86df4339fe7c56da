/- The walks of the document's own ToInt and FromInt: they tell what package real's tell. -/
import Derived.Test.YtgcgaaoncfgckaaDoorWInt
import Derived.Laws.Externs
import Derived.Lib.Hide
namespace Go.Proofs.YtgcgaaoncfgckaaDoor
open Go.RowKit

theorem floor_at (nm : String) (way : Ieee.Toward) (x : Nat) (s : Bool) (m : Nat) (i : Int) (h : FloatKind.f64.decode x = .number s m i) :
    Extern.MathFloor.toIntegral nm way #[.float .f64 x] = pure (.float .f64 (FloatKind.f64.encode ((Ieee.Datum.number s m i).integral way))) := by
  conv => lhs; whnf
  rw [h]
theorem floor_find : Extern.find Tryd.f44 = some (Extern.MathFloor.toIntegral "math.archFloor" .down) := by kernel_rfl
theorem run_floor {x : Nat} (hf : Flt.rung x < 9218868437227405312) (w : World) : (callFunc 44 #[.float .f64 x]).run Tryd.prog w = .ok (.value (.float .f64 (Flt.floorB x))) w := by
  rw [run_callFunc_extern Tryd.func44 (by kernel_rfl) (by kernel_rfl) (by kernel_rfl) floor_find]
  have e : FloatKind.f64.decode x = .number (Flt.neg x) (Flt.mag (Flt.rung x)) (-1074 + (Flt.ex (Flt.rung x) : Nat)) := Flt.read_fin hf
  unfold Flt.floorB
  rw [floor_at _ _ _ _ _ _ e, e]
  rfl

set_option maxHeartbeats 400000 in
theorem floor_any (x : Nat) (hf : Flt.rung x < 9218868437227405312) (w : World) :
    Calls Tryd.prog 35 #[.float .f64 x] w fun e w' => e = .returned (.float .f64 (Flt.floorB x)) ∧ w' = w := by
  have hr : ∀ w, (callFunc 44 #[.float .f64 x]).run Tryd.prog w = .ok (.value (.float .f64 (Flt.floorB x))) w := fun w => run_floor hf w
  clear hf
  go_enter Tryd.func35, Tryd.ntmps35
  go_wp2
  go_ret
  exact ⟨rfl, rfl⟩

theorem geq_f {x : Nat} (h : (FloatKind.f64.format.order 14114281232179134464 x == some .lt || FloatKind.f64.format.order 14114281232179134464 x == some .eq) = false) : (FloatKind.f64.format.order x 14114281232179134464 == some .gt || FloatKind.f64.format.order x 14114281232179134464 == some .eq) = false := (Flt.geq_leq x 14114281232179134464).trans h
theorem geq_t {x : Nat} (h : (FloatKind.f64.format.order 14114281232179134464 x == some .lt || FloatKind.f64.format.order 14114281232179134464 x == some .eq) = true) : (FloatKind.f64.format.order x 14114281232179134464 == some .gt || FloatKind.f64.format.order x 14114281232179134464 == some .eq) = true := (Flt.geq_leq x 14114281232179134464).trans h

set_option maxHeartbeats 400000 in
theorem refToInt_any (x : Nat) (w : World) :
    Calls Tryd.prog 23 #[.float .f64 x] w fun e w' => e = .returned (.tuple #[.int .i64 (toN x), .int .i64 (toE x)]) ∧ w' = w := by
  cases hr : Flt.inR x
  · have e1 : toN x = 0 := by simp [toN, okB, hr]
    have e2 : toE x = 10 := by simp [toE, okB, hr]
    rw [e1, e2]
    rcases inR_f hr with h | ⟨h, h'⟩
    · have h1 := geq_f h
      clear hr e1 e2 h
      go_enter Tryd.func23, Tryd.ntmps23
      go_wp2
      go_ret2
      exact ⟨rfl, rfl⟩
    · have h1 := geq_t h
      clear hr e1 e2 h
      go_enter Tryd.func23, Tryd.ntmps23
      go_wp2
      go_ret2
      exact ⟨rfl, rfl⟩
  · obtain ⟨h, h'⟩ := inR_t hr
    have h1 := geq_t h
    have hf := Flt.inR_fin hr
    clear h
    cases hw : Flt.whole x
    · have hb : (FloatKind.f64.format.order x (Flt.floorB x) != some .eq) = true := by
        have := Flt.floor_whole hf
        rw [hw] at this
        exact congrArg not this
      have e1 : toN x = 0 := by simp [toN, okB, hw]
      have e2 : toE x = 10 := by simp [toE, okB, hw]
      rw [e1, e2]
      have HF := Lib.hid hf
      clear hr e1 e2 hw hf
      go_enter Tryd.func23, Tryd.ntmps23
      go_wp2_with (go_at_call 35; refine (floor_any _ HF.out _).mono ?_; rintro e w' ⟨rfl, rfl⟩)
      go_ret2
      exact ⟨rfl, rfl⟩
    · have hb : (FloatKind.f64.format.order x (Flt.floorB x) != some .eq) = false := by
        have := Flt.floor_whole hf
        rw [hw] at this
        exact congrArg not this
      cases hz : ((fixB x : Int) == 9223372036854775808)
      · have hc : ∀ w, (convert 22 2 (.float .f64 x)).run Tryd.prog w = .ok (.int .i64 (Flt.trunc x)) w := fun w => run_to_int x _ w (Flt.toInt_val hr)
        have e1 : toN x = Flt.trunc x := by simp [toN, okB, hw, hr, hz]
        have e2 : toE x = 0 := by simp [toE, okB, hw, hr, hz]
        rw [e1, e2]
        have HF := Lib.hid hf
        clear hr e1 e2 hw hf
        go_enter Tryd.func23, Tryd.ntmps23
        go_wp2_with (first | (go_at_call 35; refine (floor_any _ HF.out _).mono ?_; rintro e w' ⟨rfl, rfl⟩) | (go_at_call 18; refine (refBits_any _ _).mono ?_; rintro e w' ⟨rfl, rfl⟩))
        go_ret2
        exact ⟨rfl, rfl⟩
      · have e1 : toN x = 0 := by simp [toN, okB, hz]
        have e2 : toE x = 10 := by simp [toE, okB, hz]
        rw [e1, e2]
        have HF := Lib.hid hf
        clear hr e1 e2 hw hf
        go_enter Tryd.func23, Tryd.ntmps23
        go_wp2_with (first | (go_at_call 35; refine (floor_any _ HF.out _).mono ?_; rintro e w' ⟨rfl, rfl⟩) | (go_at_call 18; refine (refBits_any _ _).mono ?_; rintro e w' ⟨rfl, rfl⟩))
        go_ret2
        exact ⟨rfl, rfl⟩

set_option maxHeartbeats 400000 in
theorem refFromInt_any (n : Int) (w : World) :
    Calls Tryd.prog 24 #[.int .i64 n] w fun e w' => e = .returned (.tuple #[.float .f64 (fromB n), .int .i64 (fromE n)]) ∧ w' = w := by
  rcases from_cases n with ⟨h, ho⟩ | ⟨h, h', ho⟩ | ⟨h, h', ho⟩
  · have e1 : fromB n = 0 := by simp [fromB, ho]
    have e2 : fromE n = 10 := by simp [fromE, ho]
    rw [e1, e2]
    clear ho e1 e2
    go_enter Tryd.func24, Tryd.ntmps24
    go_wp2_with (go_at_call 23; refine (refToInt_any _ _).mono ?_; rintro e w' ⟨rfl, rfl⟩)
    go_ret2
    exact ⟨rfl, rfl⟩
  · have e1 : fromB n = 0 := by simp [fromB, ho]
    have e2 : fromE n = 10 := by simp [fromE, ho]
    rw [e1, e2]
    clear ho e1 e2
    go_enter Tryd.func24, Tryd.ntmps24
    go_wp2_with (go_at_call 23; refine (refToInt_any _ _).mono ?_; rintro e w' ⟨rfl, rfl⟩)
    go_ret2
    exact ⟨rfl, rfl⟩
  · have e1 : fromB n = floatOfInt .f64 n := by simp [fromB, ho]
    have e2 : fromE n = 0 := by simp [fromE, ho]
    rw [e1, e2]
    clear ho e1 e2
    go_enter Tryd.func24, Tryd.ntmps24
    go_wp2_with (go_at_call 23; refine (refToInt_any _ _).mono ?_; rintro e w' ⟨rfl, rfl⟩)
    go_ret2
    exact ⟨rfl, rfl⟩
end Go.Proofs.YtgcgaaoncfgckaaDoor
