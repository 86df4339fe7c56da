/- The walks of the library's FormatUint at base sixteen and of package real's printBits, and of Print at all floats. -/
import Derived.Test.YtgcgaaoncfgckabDoorWHex
import Derived.Lib.SmallJoins
import Derived.Laws.Concat
namespace Go.Proofs.YtgcgaaoncfgckabDoor
open Go.RowKit

theorem tz_lt {w : World} (h : Tz w) : 5 < w.heap.size := by
  obtain ⟨c, e, fr, hb, _⟩ := Sort.cells_of_cell? h
  exact (Array.getElem?_eq_some_iff.1 hb).1

theorem tz_on {w w' : World} (h : Tz w) (hb : Below w.heap.size w w') : Tz w' := by
  unfold Tz
  rw [hb.cell (p := ⟨5, 15, none⟩) (tz_lt h)]
  exact h

set_option maxHeartbeats 400000 in
theorem inFormatUint_16 (u : Nat) (hu : u < 18446744073709551616) (w : World) (hz : Tz w) :
    Calls Tryd.prog 39 #[.int .u64 u, .int .i64 16] w fun e w' =>
      ∃ k, 1 ≤ k ∧ k ≤ 16 ∧ u < 16 ^ k ∧ e = .returned (.string ⟨(Hex.digits u k).toArray⟩) ∧ Below w.heap.size w w' := by
  have HZ := Lib.hid hz
  clear hz
  go_enter Tryd.func39, Tryd.ntmps39
  go_wp2_with fail
  refine (formatBits_16 u hu _ HZ.out (tz_lt HZ.out)).mono ?_
  rintro e w1 ⟨k, h1, h2, h3, rfl, hb⟩
  have H3 := Lib.hid h3
  have HB := Lib.hid hb
  clear h3 hb
  go_wp2
  go_ret
  exact ⟨k, h1, h2, H3.out, rfl, HB.out⟩

set_option maxHeartbeats 400000 in
theorem formatUint_16 (u : Nat) (hu : u < 18446744073709551616) (w : World) (hz : Tz w) :
    Calls Tryd.prog 29 #[.int .u64 u, .int .i64 16] w fun e w' =>
      ∃ k, 1 ≤ k ∧ k ≤ 16 ∧ u < 16 ^ k ∧ e = .returned (.string ⟨(Hex.digits u k).toArray⟩) ∧ Below w.heap.size w w' := by
  have HZ := Lib.hid hz
  clear hz
  go_enter Tryd.func29, Tryd.ntmps29
  go_wp2_with fail
  refine (inFormatUint_16 u hu _ HZ.out).mono ?_
  rintro e w1 ⟨k, h1, h2, h3, rfl, hb⟩
  have H3 := Lib.hid h3
  have HB := Lib.hid hb
  clear h3 hb
  go_wp2
  go_ret
  exact ⟨k, h1, h2, H3.out, rfl, HB.out⟩

theorem repeat_48 (c : Nat) : Lib.repeatL [48] c = List.replicate c 48 := by
  induction c with
  | zero => rfl
  | succ c ih => simp [Lib.repeatL, ih, List.replicate_succ]

theorem bits_text (u c k : Nat) (hc : c + k = 16) (h : u < 16 ^ k) :
    (ByteArray.mk #[120] ++ ByteArray.mk (Lib.repeatL [48] c).toArray ++ ByteArray.mk (Hex.digits u k).toArray) = ByteArray.mk (120 :: Hex.digits u 16).toArray := by
  rw [show (#[120] : Array UInt8) = ([120] : List UInt8).toArray from rfl, ByteArray.mk_append_mk, ByteArray.mk_append_mk, ← hc, Hex.digits_pad h c, repeat_48]
  simp

set_option maxHeartbeats 1000000 in
theorem printBits_any (u : Nat) (hu : u < 18446744073709551616) (w : World) (hz : Tz w) :
    Calls Tryd.prog 18 #[.int .u64 u] w fun e w' => e = .returned (.string ⟨(120 :: Hex.digits u 16).toArray⟩) ∧ Below w.heap.size w w' := by
  have HZ := Lib.hid hz
  clear hz
  go_enter Tryd.func18, Tryd.ntmps18
  go_wp2_with fail
  refine (formatUint_16 u hu _ HZ.out).mono ?_
  rintro e w1 ⟨k, h1, h2, h3, rfl, hb⟩
  have H3 := Lib.hid h3
  have HB := Lib.hid hb
  have hlen : (⟨(Hex.digits u k).toArray⟩ : ByteArray).size = k := by
    show (Hex.digits u k).toArray.size = k
    simp [Hex.digits_length]
  have hlen2 := Hex.digits_length u k
  clear h3 hb
  go_wp2_with fail
  obtain ⟨c, hc⟩ : ∃ c : Nat, c + k = 16 := ⟨16 - k, by omega⟩
  have hc2 : (16 - (k : Int)) = (c : Int) := by omega
  rw [hc2]
  refine (Tryd.strings_Repeat ⟨#[48]⟩ c _ (by omega) (by show 1 * c ≤ _; omega)).mono ?_
  rintro e w2 ⟨rfl, hb2⟩
  have HB2 := Lib.hid hb2
  have hrl : (Lib.repeatL [48] c).length = c := by rw [Lib.repeatL_length]; simp
  have hc16 : c ≤ 16 := by omega
  have HC := Lib.hid hc
  clear hb2 hc hc2
  go_wp2
  go_ret
  refine ⟨?_, HB.out.trans (HB2.out.mono HB.out.size)⟩
  exact congrArg (fun b => Ending.returned (Value.string b)) (bits_text u c k HC.out H3.out)

/-- a float's text -/
def text (x : Nat) : List UInt8 :=
  if nanB x then [110, 97, 110] else if x = 9218868437227405312 then [105, 110, 102] else if x = 18442240474082181120 then [45, 105, 110, 102]
  else if x = 9223372036854775808 then [45, 48] else if decB x then Lib.itoa (Flt.trunc x) else 120 :: Hex.digits x 16

theorem isNaN_t (x : Nat) (h : nanB x = true) (w : World) : Calls Tryd.prog 13 #[.float .f64 x] w fun e w' => e = .returned (.bool true) ∧ w' = w := by
  have := isNaN_any x w; rwa [h] at this
theorem isNaN_f (x : Nat) (h : nanB x = false) (w : World) : Calls Tryd.prog 13 #[.float .f64 x] w fun e w' => e = .returned (.bool false) ∧ w' = w := by
  have := isNaN_any x w; rwa [h] at this
theorem isInf_pf (x : Nat) (hx : x < 18446744073709551616) (h : x ≠ 9218868437227405312) (w : World) : Calls Tryd.prog 14 #[.float .f64 x, .int .i64 1] w fun e w' => e = .returned (.bool false) ∧ w' = w := by
  have := isInf_pos x hx w; rwa [beq_eq_false_iff_ne.2 h] at this
theorem isInf_nf (x : Nat) (hx : x < 18446744073709551616) (h : x ≠ 18442240474082181120) (w : World) : Calls Tryd.prog 14 #[.float .f64 x, .int .i64 (-1)] w fun e w' => e = .returned (.bool false) ∧ w' = w := by
  have := isInf_neg x hx w; rwa [beq_eq_false_iff_ne.2 h] at this

set_option maxHeartbeats 1000000 in
theorem print_nan (x : Nat) (h : nanB x = true) (w : World) :
    Calls Tryd.prog 6 #[.float .f64 x] w fun e w' => e = .returned (.string ⟨#[110, 97, 110]⟩) ∧ w' = w := by
  have I1 := Lib.hid (isNaN_t x h)
  clear h
  go_enter Tryd.func6, Tryd.ntmps6
  go_wp2_with fail
  refine (I1.out _).mono ?_
  rintro e w' ⟨rfl, rfl⟩
  go_wp2
  go_ret
  exact ⟨rfl, rfl⟩

theorem nan_inf : nanB 9218868437227405312 = false := by kernel_rfl
theorem nan_ninf : nanB 18442240474082181120 = false := by kernel_rfl
theorem nan_mz : nanB 9223372036854775808 = false := by kernel_rfl

set_option maxHeartbeats 1000000 in
theorem print_inf (w : World) :
    Calls Tryd.prog 6 #[.float .f64 9218868437227405312] w fun e w' => e = .returned (.string ⟨#[105, 110, 102]⟩) ∧ w' = w := by
  have I1 := Lib.hid (isNaN_f _ nan_inf)
  have I2 := Lib.hid (isInf_pos 9218868437227405312 (by decide))
  go_enter Tryd.func6, Tryd.ntmps6
  go_wp2_with fail
  refine (I1.out _).mono ?_
  rintro e w' ⟨rfl, rfl⟩
  go_wp2_with fail
  refine (I2.out _).mono ?_
  rintro e w' ⟨rfl, rfl⟩
  go_wp2
  go_ret
  exact ⟨rfl, rfl⟩

set_option maxHeartbeats 1000000 in
theorem print_ninf (w : World) :
    Calls Tryd.prog 6 #[.float .f64 18442240474082181120] w fun e w' => e = .returned (.string ⟨#[45, 105, 110, 102]⟩) ∧ w' = w := by
  have I1 := Lib.hid (isNaN_f _ nan_ninf)
  have I2 := Lib.hid (isInf_pf 18442240474082181120 (by decide) (by decide))
  have I3 := Lib.hid (isInf_neg 18442240474082181120 (by decide))
  go_enter Tryd.func6, Tryd.ntmps6
  go_wp2_with fail
  refine (I1.out _).mono ?_
  rintro e w' ⟨rfl, rfl⟩
  go_wp2_with fail
  refine (I2.out _).mono ?_
  rintro e w' ⟨rfl, rfl⟩
  go_wp2_with fail
  refine (I3.out _).mono ?_
  rintro e w' ⟨rfl, rfl⟩
  go_wp2
  go_ret
  exact ⟨rfl, rfl⟩

set_option maxHeartbeats 1000000 in
theorem print_mz (w : World) :
    Calls Tryd.prog 6 #[.float .f64 9223372036854775808] w fun e w' => e = .returned (.string ⟨#[45, 48]⟩) ∧ w' = w := by
  have I1 := Lib.hid (isNaN_f _ nan_mz)
  have I2 := Lib.hid (isInf_pf 9223372036854775808 (by decide) (by decide))
  have I3 := Lib.hid (isInf_nf 9223372036854775808 (by decide) (by decide))
  have I4 := Lib.hid (isMZ_t 9223372036854775808 (by rw [fix_f nan_mz]; rfl))
  go_enter Tryd.func6, Tryd.ntmps6
  go_wp2_with fail
  refine (I1.out _).mono ?_
  rintro e w' ⟨rfl, rfl⟩
  go_wp2_with fail
  refine (I2.out _).mono ?_
  rintro e w' ⟨rfl, rfl⟩
  go_wp2_with fail
  refine (I3.out _).mono ?_
  rintro e w' ⟨rfl, rfl⟩
  go_wp2_with fail
  refine (I4.out _).mono ?_
  rintro e w' ⟨rfl, rfl⟩
  go_wp2
  go_ret
  exact ⟨rfl, rfl⟩

theorem not_dec {x : Nat} (h : decB x = false) : (toE x = 10 ∧ toN x = 0) ∨ (toE x = 0 ∧ toN x ≤ -9007199254740992) ∨ (toE x = 0 ∧ -9007199254740992 < toN x ∧ 9007199254740992 ≤ toN x) := by
  unfold decB at h
  cases ho : okB x
  · exact .inl ⟨by simp [toE, ho], by simp [toN, ho]⟩
  · right
    have e1 : toE x = 0 := by simp [toE, ho]
    have e2 : toN x = Flt.trunc x := by simp [toN, ho]
    rw [ho] at h
    simp only [Bool.true_and, Bool.and_eq_false_iff, decide_eq_false_iff_not] at h
    rw [e1, e2]
    by_cases h1 : -9007199254740992 < Flt.trunc x
    · exact .inr ⟨rfl, h1, by omega⟩
    · exact .inl ⟨rfl, by omega⟩

set_option maxHeartbeats 2000000 in
theorem print_hex (x : Nat) (hx : x < 18446744073709551616) (h1 : nanB x = false) (h2 : x ≠ 9218868437227405312) (h3 : x ≠ 18442240474082181120) (h4 : x ≠ 9223372036854775808) (hd : decB x = false) (w : World) (hz : Tz w) :
    Calls Tryd.prog 6 #[.float .f64 x] w fun e w' => e = .returned (.string ⟨(120 :: Hex.digits x 16).toArray⟩) ∧ Below w.heap.size w w' := by
  have I1 := Lib.hid (isNaN_f _ h1)
  have I2 := Lib.hid (isInf_pf x hx h2)
  have I3 := Lib.hid (isInf_nf x hx h3)
  have I4 := Lib.hid (isMZ_f x (by rw [fix_f h1, beq_eq_false_iff_ne]; omega))
  have I5 := Lib.hid (realToInt_any x)
  have I6 : Hid (∀ w, Calls Tryd.prog 19 #[.float .f64 x] w fun e w' => e = .returned (.int .u64 (x : Int)) ∧ w' = w) := fun w => by
    have := realBits_any x w; rwa [fix_f h1] at this
  have I7 := Lib.hid (fun w hz => printBits_any x hx w hz)
  have HZ := Lib.hid hz
  have hn := not_dec hd
  clear h1 h2 h3 h4 hd hz hx
  rcases hn with ⟨n1, n2⟩ | ⟨n1, n2⟩ | ⟨n1, n2, n3⟩
  all_goals
    go_enter Tryd.func6, Tryd.ntmps6
    go_wp2_with fail
    refine (I1.out _).mono ?_
    rintro e w' ⟨rfl, rfl⟩
    go_wp2_with fail
    refine (I2.out _).mono ?_
    rintro e w' ⟨rfl, rfl⟩
    go_wp2_with fail
    refine (I3.out _).mono ?_
    rintro e w' ⟨rfl, rfl⟩
    go_wp2_with fail
    refine (I4.out _).mono ?_
    rintro e w' ⟨rfl, rfl⟩
    go_wp2_with fail
    refine (I5.out _).mono ?_
    rintro e w' ⟨rfl, rfl⟩
    go_wp2_with fail
    refine (I6.out _).mono ?_
    rintro e w' ⟨rfl, rfl⟩
    go_wp2_with fail
    refine (I7.out _ HZ.out).mono ?_
    rintro e w1 ⟨rfl, hb⟩
    have HB := Lib.hid hb
    clear hb
    go_wp2
    go_ret
    exact ⟨rfl, HB.out⟩

/-- Print tells the text, at every float -/
theorem realPrint_any (x : Nat) (hx : x < 18446744073709551616) (w : World) (ht : Tab w) (hz : Tz w) :
    Calls Tryd.prog 6 #[.float .f64 x] w fun e w' => e = .returned (.string ⟨(text x).toArray⟩) ∧ Below w.heap.size w w' := by
  unfold text
  cases h1 : nanB x
  · by_cases h2 : x = 9218868437227405312
    · subst h2
      refine (print_inf w).mono ?_
      rintro e w' ⟨rfl, rfl⟩; exact ⟨rfl, Below.refl _ _⟩
    · by_cases h3 : x = 18442240474082181120
      · subst h3
        refine (print_ninf w).mono ?_
        rintro e w' ⟨rfl, rfl⟩; exact ⟨rfl, Below.refl _ _⟩
      · by_cases h4 : x = 9223372036854775808
        · subst h4
          refine (print_mz w).mono ?_
          rintro e w' ⟨rfl, rfl⟩; exact ⟨rfl, Below.refl _ _⟩
        · cases h5 : decB x
          · simp only [h2, h3, h4, Bool.false_eq_true, if_false]
            exact print_hex x hx h1 h2 h3 h4 h5 w hz
          · simp only [h2, h3, h4, Bool.false_eq_true, if_false, if_true]
            exact print_dec x hx h5 w ht
  · refine (print_nan x h1 w).mono ?_
    rintro e w' ⟨rfl, rfl⟩; exact ⟨rfl, Below.refl _ _⟩
end Go.Proofs.YtgcgaaoncfgckabDoor
