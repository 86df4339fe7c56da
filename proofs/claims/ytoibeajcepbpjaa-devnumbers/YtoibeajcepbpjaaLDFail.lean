/- DevFails, walked: plain facts first. -/
import Derived.Test.YtoibeajcepbpjaaLDBeg
namespace Go.Proofs.Ytoibeajcepbpjaa
open Go.RowKit

theorem fails_1 (F : List UInt8) (hF : F.length ≤ 1000) : Dv.write (Dv.new 2000) F = (0, ⟨F, 2000, 0, false, false, 0, 0, 0, F.length⟩) := by
  unfold Dv.write
  rw [if_neg (by simp [Dv.new]), if_neg (by simp [Dv.new]; omega), Dv.lay_free F _ rfl]
  simp [Dv.new]
theorem fails_2 (F : List UInt8) : Dv.sync ⟨F, 2000, 0, false, false, 0, 0, 0, F.length⟩ = (0, ⟨F, 2000, F.length, false, false, 0, 0, 0, F.length⟩) := by
  simp [Dv.sync]
theorem fails_3 (F : List UInt8) (a k : Nat) : Dv.fail ⟨F, 2000, F.length, false, false, 0, 0, 0, F.length⟩ a k = (0, ⟨F, 2000, F.length, false, true, a, k, 0, F.length⟩) := by
  unfold Dv.fail
  rw [if_neg (by simp), if_neg (by omega)]
  simp
theorem fails_3n (F : List UInt8) (a k : Int) (h : a < 0 ∨ k < 0) : Dv.fail ⟨F, 2000, F.length, false, false, 0, 0, 0, F.length⟩ a k = (1, ⟨F, 2000, F.length, false, false, 0, 0, 0, F.length⟩) := by
  unfold Dv.fail
  rw [if_neg (by simp), if_pos h]
theorem fails_4n (F T : List UInt8) (hF : F.length ≤ 1000) (hT : T.length ≤ 1000) : Dv.write ⟨F, 2000, F.length, false, false, 0, 0, 0, F.length⟩ T = (0, ⟨F ++ T, 2000, F.length, false, false, 0, 0, 0, F.length + T.length⟩) := by
  unfold Dv.write
  rw [if_neg (by simp), if_neg (by simp; omega), Dv.lay_free T _ rfl]
  simp
theorem fails_4 (F T : List UInt8) (hF : F.length ≤ 1000) (hT : T.length ≤ 1000) (a k : Nat) (ha : ¬ a < T.length) : Dv.write ⟨F, 2000, F.length, false, true, a, k, 0, F.length⟩ T = (0, ⟨F ++ T, 2000, F.length, false, true, a - T.length, k, 0, F.length + T.length⟩) := by
  unfold Dv.write
  rw [if_neg (by simp), if_neg (by simp; omega), Dv.lay_bound T _ rfl, if_neg ha]
  simp
theorem fails_5 (F T : List UInt8) (hF : F.length ≤ 1000) (hT : T.length ≤ 1000) (a k : Nat) (ha : a < T.length) : Dv.write ⟨F, 2000, F.length, false, true, a, k, 0, F.length⟩ T = (51, ⟨F ++ T.take (min k a), 2000, F.length, true, false, 0, k, 0, F.length + a⟩) := by
  unfold Dv.write
  rw [if_neg (by simp), if_neg (by simp; omega), Dv.lay_bound T _ rfl, if_pos ha]
  simp only [Dv.fails, if_true, List.length_append, List.length_take]
  by_cases hk : k < F.length + min a T.length - F.length
  · have e : (F ++ T.take a).take (F.length + k) = F ++ T.take (min k a) := by
      rw [List.take_length_add_append, List.take_take]
    rw [if_pos hk, e]
  · have e : min k a = a := by omega
    rw [if_neg hk, e]

section
variable {I : Nat → World → Prop} {Rep : DRep}

set_option maxHeartbeats 400000 in
theorem fails_long (K : DevOk I Rep) (p q : Option Addr) (c d n m : Nat) (a k : Int) (h : 1000 < n ∨ 1000 < m) (w : World) (hI : I w.heap.size w) :
    Calls Try.prog 6 #[.agg #[.slice p n c, .slice q m d, .int .i64 a, .int .i64 k]] w fun e w' => e = .returned (.bool true) ∧ Below w.heap.size w w' := by
  have B0 : Below w.heap.size w (w.alloc (.cells #[.slice p n c, .slice q m d, .int .i64 a, .int .i64 k] 49)) := (Below.refl _ _).alloc (Nat.le_refl _) _
  have HL := Lib.hid (devLive_ok K (w.alloc (.cells #[.slice p n c, .slice q m d, .int .i64 a, .int .i64 k] 49)) (K.more (K.on hI B0) B0.size))
  have HB0 := Lib.hid B0
  clear B0 K hI
  by_cases h1 : 1000 < n
  · have hb : decide ((1000 : Int) < (n : Int)) = true := decide_eq_true (by omega)
    clear h h1
    go_enter Try.func6, Try.ntmps6
    go_wp2_with fail
    refine HL.out.mono ?_
    rintro e w1 ⟨rfl, hb1⟩
    have HB1 := Lib.hid (HB0.out.trans (hb1.mono HB0.out.size))
    clear hb1 HL
    go_wp2
    go_ret
    exact ⟨rfl, HB1.out⟩
  · have hb : decide ((1000 : Int) < (n : Int)) = false := decide_eq_false (by omega)
    have hb2 : (1000 : Int) < (m : Int) := by omega
    clear h h1
    go_enter Try.func6, Try.ntmps6
    go_wp2_with fail
    refine HL.out.mono ?_
    rintro e w1 ⟨rfl, hb1⟩
    have HB1 := Lib.hid (HB0.out.trans (hb1.mono HB0.out.size))
    clear hb1 HL
    go_wp2
    go_ret
    exact ⟨rfl, HB1.out⟩
end
end Go.Proofs.Ytoibeajcepbpjaa
