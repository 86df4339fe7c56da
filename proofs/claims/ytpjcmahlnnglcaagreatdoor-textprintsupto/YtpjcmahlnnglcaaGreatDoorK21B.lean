/- The landed text: sets of runes. -/
import Derived.Test.YtpjcmahlnnglcaaGreatDoorK21A
import Derived.Test.YtpjcmahlnnglcaaGreatDoorB10
namespace Go.Proofs.YtpjcmahlnnglcaaGreatDoor
open Go.RowKit

/-- sets of runes -/
def rLow (r : Int) : Bool := decide (97 ≤ r ∧ r ≤ 122)
def rDig (r : Int) : Bool := decide (48 ≤ r ∧ r ≤ 57)
def rNam (r : Int) : Bool := rLow r || rDig r || (r == 95)
def rInt (r : Int) : Bool := rDig r || (r == 45)
def rFlt (r : Int) : Bool := rLow r || rInt r
def rPla (r : Int) : Bool := decide (32 ≤ r ∧ r ≤ 126)
/-- a set of runes is one of bytes -/
structure Runes (q : Int → Bool) (p : UInt8 → Bool) : Prop where
  low : ∀ c : UInt8, c.toNat < 128 → q (c.toNat : Int) = p c
  hig : ∀ c : UInt8, 128 ≤ c.toNat → p c = false
  out : ∀ r : Int, 128 ≤ r → q r = false
theorem u8eq {c d : UInt8} : ((c.toNat : Int) == (d.toNat : Int)) = decide (c = d) := by
  by_cases h : c = d
  · rw [h]; simp
  · rw [decide_eq_false h, beq_eq_false_iff_ne]
    intro hc
    exact h (UInt8.toNat_inj.1 (by omega))
theorem u8ne {c d : UInt8} (h : c.toNat ≠ d.toNat) : decide (c = d) = false := decide_eq_false (fun hc => h (by rw [hc]))
theorem runes_low : Runes rLow Sch.low := by
  refine ⟨fun c _ => ?_, fun c h => ?_, fun r h => ?_⟩
  · unfold rLow Sch.low; exact decide_eq_decide.2 (by omega)
  · unfold Sch.low; exact decide_eq_false (by omega)
  · unfold rLow; exact decide_eq_false (by omega)
theorem runes_dig : Runes rDig Tx.dig := by
  refine ⟨fun c _ => ?_, fun c h => ?_, fun r h => ?_⟩
  · unfold rDig Tx.dig; exact decide_eq_decide.2 (by omega)
  · unfold Tx.dig; exact decide_eq_false (by omega)
  · unfold rDig; exact decide_eq_false (by omega)
theorem runes_int : Runes rInt Tx.iset := by
  refine ⟨fun c h => ?_, fun c h => ?_, fun r h => ?_⟩
  · unfold rInt Tx.iset; rw [runes_dig.low c h, ← u8eq (d := 45)]; rfl
  · unfold Tx.iset; rw [runes_dig.hig c h, u8ne (d := 45) (by show c.toNat ≠ 45; omega)]; rfl
  · unfold rInt; rw [runes_dig.out r h, beq_eq_false_iff_ne.2 (by omega)]; rfl
theorem runes_flt : Runes rFlt Tx.fset := by
  refine ⟨fun c h => ?_, fun c h => ?_, fun r h => ?_⟩
  · unfold rFlt Tx.fset; rw [runes_low.low c h, runes_int.low c h]; unfold Tx.iset; rw [Bool.or_assoc]
  · unfold Tx.fset; rw [runes_low.hig c h, runes_dig.hig c h, u8ne (d := 45) (by show c.toNat ≠ 45; omega)]; rfl
  · unfold rFlt; rw [runes_low.out r h, runes_int.out r h]; rfl
theorem runes_nam : Runes rNam Sch.ch := by
  refine ⟨fun c h => ?_, fun c h => ?_, fun r h => ?_⟩
  · unfold rNam Sch.ch
    rw [← runes_low.low c h]
    have e1 : rDig (c.toNat : Int) = decide (48 ≤ c.toNat ∧ c.toNat ≤ 57) := by unfold rDig; exact decide_eq_decide.2 (by omega)
    have e2 : ((c.toNat : Int) == 95) = decide (c.toNat = 95) := by rw [Bool.eq_iff_iff]; simp; omega
    rw [e1, e2]
  · unfold Sch.ch
    have e1 : decide (48 ≤ c.toNat ∧ c.toNat ≤ 57) = false := decide_eq_false (by omega)
    have e2 : decide (c.toNat = 95) = false := decide_eq_false (by omega)
    rw [runes_low.hig c h, e1, e2]
    rfl
  · unfold rNam; rw [runes_low.out r h, runes_dig.out r h, beq_eq_false_iff_ne.2 (by omega)]; rfl
/-- what stands for itself within quotes -/
def plq (q c : UInt8) : Bool := decide (32 ≤ c.toNat ∧ c.toNat ≤ 126) && !decide (c = 92) && !decide (c = q)
def rPlq (q : UInt8) (r : Int) : Bool := rPla r && !(r == 92) && !(r == (q.toNat : Int))
theorem runes_plq (q : UInt8) : Runes (rPlq q) (plq q) := by
  refine ⟨fun c h => ?_, fun c h => ?_, fun r h => ?_⟩
  · unfold rPlq plq
    have e1 : rPla (c.toNat : Int) = decide (32 ≤ c.toNat ∧ c.toNat ≤ 126) := by unfold rPla; exact decide_eq_decide.2 (by omega)
    have e2 : ((c.toNat : Int) == 92) = decide (c = 92) := u8eq (d := 92)
    rw [e1, e2, u8eq]
  · unfold plq
    rw [decide_eq_false (by omega)]
    rfl
  · unfold rPlq rPla
    rw [decide_eq_false (by omega)]
    rfl
/-- a rune beyond 7f -/
theorem dec_high {c : UInt8} {r : List UInt8} (h : 128 ≤ c.toNat) : 128 ≤ (dec (c :: r)).1 := by
  have may_ge : ∀ a b, U8.may a b = true → a ≤ b := fun a b hm => by
    unfold U8.may at hm
    simp only [Bool.and_eq_true, decide_eq_true_eq] at hm
    exact hm.1.1
  simp only [dec]
  rw [if_neg (by omega)]
  repeat' split
  all_goals dsimp only
  all_goals first
    | omega
    | (rename_i hc; have := hc.2; omega)
    | (rename_i hc; have := may_ge _ _ hc.2.2; omega)
    | (rename_i hc; have := may_ge _ _ hc.2.2.2; omega)

set_option maxRecDepth 100000 in
theorem isLetterX (r : Int) (w : World) : Calls Tryz.prog 121 #[.int .i32 r] w fun e w' => e = .returned (.bool (rLow r)) ∧ w' = w := by
  obtain ⟨b, hb⟩ : ∃ b, b = rLow r := ⟨_, rfl⟩
  rw [← hb]
  unfold rLow at hb
  by_cases h1 : (97 : Int) ≤ r
  · by_cases h2 : r ≤ 122
    · have HB : Hid (b = true) := by show _ = _; rw [hb]; exact decide_eq_true ⟨h1, h2⟩
      clear hb
      go_enter Tryz.func121, Tryz.ntmps121
      go_wp2
      go_ret
      exact ⟨by rw [HB.out]; rfl, rfl⟩
    · have HB : Hid (b = false) := by show _ = _; rw [hb]; exact decide_eq_false (by omega)
      clear hb
      go_enter Tryz.func121, Tryz.ntmps121
      go_wp2
      go_ret
      exact ⟨by rw [HB.out]; rfl, rfl⟩
  · have HB : Hid (b = false) := by show _ = _; rw [hb]; exact decide_eq_false (by omega)
    clear hb
    go_enter Tryz.func121, Tryz.ntmps121
    go_wp2
    go_ret
    exact ⟨by rw [HB.out]; rfl, rfl⟩
set_option maxRecDepth 100000 in
theorem isDigitX (r : Int) (w : World) : Calls Tryz.prog 154 #[.int .i32 r] w fun e w' => e = .returned (.bool (rDig r)) ∧ w' = w := by
  obtain ⟨b, hb⟩ : ∃ b, b = rDig r := ⟨_, rfl⟩
  rw [← hb]
  unfold rDig at hb
  by_cases h1 : (48 : Int) ≤ r
  · by_cases h2 : r ≤ 57
    · have HB : Hid (b = true) := by show _ = _; rw [hb]; exact decide_eq_true ⟨h1, h2⟩
      clear hb
      go_enter Tryz.func154, Tryz.ntmps154
      go_wp2
      go_ret
      exact ⟨by rw [HB.out]; rfl, rfl⟩
    · have HB : Hid (b = false) := by show _ = _; rw [hb]; exact decide_eq_false (by omega)
      clear hb
      go_enter Tryz.func154, Tryz.ntmps154
      go_wp2
      go_ret
      exact ⟨by rw [HB.out]; rfl, rfl⟩
  · have HB : Hid (b = false) := by show _ = _; rw [hb]; exact decide_eq_false (by omega)
    clear hb
    go_enter Tryz.func154, Tryz.ntmps154
    go_wp2
    go_ret
    exact ⟨by rw [HB.out]; rfl, rfl⟩
set_option maxRecDepth 100000 in
theorem isPlainX (r : Int) (w : World) : Calls Tryz.prog 117 #[.int .i32 r] w fun e w' => e = .returned (.bool (rPla r)) ∧ w' = w := by
  obtain ⟨b, hb⟩ : ∃ b, b = rPla r := ⟨_, rfl⟩
  rw [← hb]
  unfold rPla at hb
  by_cases h1 : (32 : Int) ≤ r
  · by_cases h2 : r ≤ 126
    · have HB : Hid (b = true) := by show _ = _; rw [hb]; exact decide_eq_true ⟨h1, h2⟩
      clear hb
      go_enter Tryz.func117, Tryz.ntmps117
      go_wp2
      go_ret
      exact ⟨by rw [HB.out]; rfl, rfl⟩
    · have HB : Hid (b = false) := by show _ = _; rw [hb]; exact decide_eq_false (by omega)
      clear hb
      go_enter Tryz.func117, Tryz.ntmps117
      go_wp2
      go_ret
      exact ⟨by rw [HB.out]; rfl, rfl⟩
  · have HB : Hid (b = false) := by show _ = _; rw [hb]; exact decide_eq_false (by omega)
    clear hb
    go_enter Tryz.func117, Tryz.ntmps117
    go_wp2
    go_ret
    exact ⟨by rw [HB.out]; rfl, rfl⟩
set_option maxRecDepth 100000 in
theorem inIntX (r : Int) (w : World) : Calls Tryz.prog 130 #[.int .i32 r] w fun e w' => e = .returned (.bool (rInt r)) ∧ w' = w := by
  have HD := Lib.hid (isDigitX r w)
  have HR : Hid (rInt r = (rDig r || (r == 45))) := rfl
  generalize rInt r = b at *
  cases hd : rDig r with
  | true =>
    rw [hd] at HD HR
    clear hd
    go_enter Tryz.func130, Tryz.ntmps130
    go_wp2_with fail
    refine HD.out.mono ?_
    rintro e w' ⟨rfl, hw'⟩
    subst hw'
    go_wp2
    go_ret
    exact ⟨by rw [HR.out]; rfl, rfl⟩
  | false =>
    rw [hd] at HD HR
    clear hd
    go_enter Tryz.func130, Tryz.ntmps130
    go_wp2_with fail
    refine HD.out.mono ?_
    rintro e w' ⟨rfl, hw'⟩
    subst hw'
    go_wp2
    go_ret
    exact ⟨by rw [HR.out]; rfl, rfl⟩
set_option maxRecDepth 100000 in
theorem inFloatX (r : Int) (w : World) : Calls Tryz.prog 159 #[.int .i32 r] w fun e w' => e = .returned (.bool (rFlt r)) ∧ w' = w := by
  have HL := Lib.hid (isLetterX r w)
  have HD := Lib.hid (inIntX r w)
  have HR : Hid (rFlt r = (rLow r || rInt r)) := rfl
  generalize rFlt r = b at *
  generalize rInt r = c at *
  cases hd : rLow r with
  | true =>
    rw [hd] at HL HR
    clear hd
    go_enter Tryz.func159, Tryz.ntmps159
    go_wp2_with fail
    refine HL.out.mono ?_
    rintro e w' ⟨rfl, hw'⟩
    subst hw'
    go_wp2
    go_ret
    exact ⟨by rw [HR.out]; rfl, rfl⟩
  | false =>
    rw [hd] at HL HR
    clear hd
    go_enter Tryz.func159, Tryz.ntmps159
    go_wp2_with fail
    refine HL.out.mono ?_
    rintro e w' ⟨rfl, hw'⟩
    subst hw'
    go_wp2_with fail
    refine HD.out.mono ?_
    rintro e w1 ⟨rfl, hw1⟩
    subst hw1
    go_wp2
    go_ret
    exact ⟨by rw [HR.out]; rfl, rfl⟩
set_option maxRecDepth 100000 in
theorem inNameX (r : Int) (w : World) : Calls Tryz.prog 125 #[.int .i32 r] w fun e w' => e = .returned (.bool (rNam r)) ∧ w' = w := by
  have HL := Lib.hid (isLetterX r w)
  have HD := Lib.hid (isDigitX r w)
  have HR : Hid (rNam r = (rLow r || rDig r || (r == 95))) := rfl
  generalize rNam r = b at *
  cases hd : rLow r with
  | true =>
    rw [hd] at HL HR
    clear hd
    go_enter Tryz.func125, Tryz.ntmps125
    go_wp2_with fail
    refine HL.out.mono ?_
    rintro e w' ⟨rfl, hw'⟩
    subst hw'
    go_wp2
    go_ret
    exact ⟨by rw [HR.out]; rfl, rfl⟩
  | false =>
    rw [hd] at HL HR
    cases hc : rDig r with
    | true =>
      rw [hc] at HD HR
      clear hd hc
      go_enter Tryz.func125, Tryz.ntmps125
      go_wp2_with fail
      refine HL.out.mono ?_
      rintro e w' ⟨rfl, hw'⟩
      subst hw'
      go_wp2_with fail
      refine HD.out.mono ?_
      rintro e w1 ⟨rfl, hw1⟩
      subst hw1
      go_wp2
      go_ret
      exact ⟨by rw [HR.out]; rfl, rfl⟩
    | false =>
      rw [hc] at HD HR
      clear hd hc
      go_enter Tryz.func125, Tryz.ntmps125
      go_wp2_with fail
      refine HL.out.mono ?_
      rintro e w' ⟨rfl, hw'⟩
      subst hw'
      go_wp2_with fail
      refine HD.out.mono ?_
      rintro e w1 ⟨rfl, hw1⟩
      subst hw1
      go_wp2
      go_ret
      exact ⟨by rw [HR.out]; rfl, rfl⟩
end Go.Proofs.YtpjcmahlnnglcaaGreatDoor
