/- The walks of IsInf and of package real's Print, but for the floats that are printed by their bits. -/
import Derived.Test.YtgcgaaoncfgckabDoorWInt
import Derived.Test.YtgcgaaoncfgckabDoorShelf
import Derived.Lib.Hide
import Derived.Lib.AppendIntMem
namespace Go.Proofs.YtgcgaaoncfgckabDoor
open Go.RowKit

theorem unary_neg_float (k : FloatKind) (b : Nat) : Op.unary .neg (.float k b) = pure (.float k (Op.negFloat k b)) := rfl
attribute [local go_sem] unary_neg_float

/-- the library's table of the powers of ten lies as its initialiser lays it -/
def Tab (w : World) : Prop := Lib.TabIs Tryd.prog w "internal/strconv.uint64pow10" .u64 Lib.pow10Tab

set_option maxHeartbeats 400000 in
theorem isInf_pos (x : Nat) (hx : x < 18446744073709551616) (w : World) :
    Calls Tryd.prog 14 #[.float .f64 x, .int .i64 1] w fun e w' => e = .returned (.bool (x == 9218868437227405312)) ∧ w' = w := by
  rw [← Flt.gt_max hx]
  clear hx
  go_enter Tryd.func14, Tryd.ntmps14
  go_wp2
  go_ret
  exact ⟨rfl, rfl⟩

set_option maxHeartbeats 400000 in
theorem isInf_neg (x : Nat) (hx : x < 18446744073709551616) (w : World) :
    Calls Tryd.prog 14 #[.float .f64 x, .int .i64 (-1)] w fun e w' => e = .returned (.bool (x == 18442240474082181120)) ∧ w' = w := by
  rw [← Flt.gt_max_neg hx]
  clear hx
  go_enter Tryd.func14, Tryd.ntmps14
  go_wp2
  go_ret
  exact ⟨rfl, rfl⟩

/-- is it printed in decimal digits? -/
def decB (x : Nat) : Bool := okB x && decide (-9007199254740992 < Flt.trunc x) && decide (Flt.trunc x < 9007199254740992)

theorem decB_facts {x : Nat} (h : decB x = true) : nanB x = false ∧ (x == 9218868437227405312) = false ∧ (x == 18442240474082181120) = false ∧ ((fixB x : Int) == 9223372036854775808) = false ∧ toE x = 0 ∧ toN x = Flt.trunc x ∧ -9007199254740992 < Flt.trunc x ∧ Flt.trunc x < 9007199254740992 := by
  unfold decB at h
  simp only [Bool.and_eq_true, decide_eq_true_eq] at h
  obtain ⟨⟨ho, h1⟩, h2⟩ := h
  have ho' := ho
  unfold okB at ho
  simp only [Bool.and_eq_true, Bool.not_eq_true'] at ho
  obtain ⟨⟨hr, hz⟩, hw⟩ := ho
  have hf := Flt.inR_fin hr
  have hn : nanB x = false := by
    have := Flt.nan_iff x
    have h3 : nanB x = decide (9218868437227405312 < Flt.rung x) := this
    rw [h3]; simp; omega
  refine ⟨hn, ?_, ?_, hz, by simp [toE, ho'], by simp [toN, ho'], h1, h2⟩
  · rw [beq_eq_false_iff_ne]; rintro rfl; revert hf; decide
  · rw [beq_eq_false_iff_ne]; rintro rfl; revert hf; decide

theorem below_of_grow {w w' : World} (h : ∃ k os, w' = Sort.grow (w.drewN k) os) : Below w.heap.size w w' := by
  obtain ⟨k, os, rfl⟩ := h
  exact Lib.below_grow _ w (Nat.le_refl _) k os

set_option maxHeartbeats 1000000 in
theorem print_dec (x : Nat) (hx : x < 18446744073709551616) (h : decB x = true) (w : World) (ht : Tab w) :
    Calls Tryd.prog 6 #[.float .f64 x] w fun e w' => e = .returned (.string ⟨(Lib.itoa (Flt.trunc x)).toArray⟩) ∧ Below w.heap.size w w' := by
  obtain ⟨h1, h2, h3, h4, h5, h6, h7, h8⟩ := decB_facts h
  have i1 : ∀ w, Calls Tryd.prog 13 #[.float .f64 x] w fun e w' => e = .returned (.bool false) ∧ w' = w := fun w => by
    have := isNaN_any x w; rwa [h1] at this
  have i2 : ∀ w, Calls Tryd.prog 14 #[.float .f64 x, .int .i64 1] w fun e w' => e = .returned (.bool false) ∧ w' = w := fun w => by
    have := isInf_pos x hx w; rwa [h2] at this
  have i3 : ∀ w, Calls Tryd.prog 14 #[.float .f64 x, .int .i64 (-1)] w fun e w' => e = .returned (.bool false) ∧ w' = w := fun w => by
    have := isInf_neg x hx w; rwa [h3] at this
  have i4 : ∀ w, Calls Tryd.prog 16 #[.float .f64 x] w fun e w' => e = .returned (.tuple #[.int .i64 (Flt.trunc x), .int .i64 0]) ∧ w' = w := fun w => by
    have := realToInt_any x w; rwa [h5, h6] at this
  have i5 := fun w => isMZ_f x h4 w
  have I1 := Lib.hid i1
  have I2 := Lib.hid i2
  have I3 := Lib.hid i3
  have I4 := Lib.hid i4
  have I5 := Lib.hid i5
  have HT := Lib.hid ht
  clear i1 i2 i3 i4 i5 h h1 h2 h3 h4 h5 h6 hx ht
  go_enter Tryd.func6, Tryd.ntmps6
  go_wp2_with fail
  refine (I1.out _).mono ?_
  rintro e w' ⟨rfl, rfl⟩
  go_wp2_with fail
  refine (I2.out _).mono ?_
  rintro e w' ⟨rfl, rfl⟩
  go_wp2_with fail
  refine (I3.out _).mono ?_
  rintro e w' ⟨rfl, rfl⟩
  go_wp2_with fail
  refine (I5.out _).mono ?_
  rintro e w' ⟨rfl, rfl⟩
  go_wp2_with fail
  refine (I4.out _).mono ?_
  rintro e w' ⟨rfl, rfl⟩
  go_wp2_with fail
  refine (Tryd.strconv_FormatInt_10 _ (by omega) (by omega) _ HT.out).mono ?_
  rintro e w' ⟨rfl, hg⟩
  have hb := Lib.hid (below_of_grow hg)
  clear hg
  go_wp2
  go_ret
  exact ⟨rfl, hb.out⟩
end Go.Proofs.YtgcgaaoncfgckabDoor
