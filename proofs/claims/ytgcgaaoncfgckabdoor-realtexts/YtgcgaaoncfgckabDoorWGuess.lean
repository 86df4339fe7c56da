/- The walk of package real's guess: at every text it answers; at a float's text it answers that float, fixed. -/
import Derived.Test.YtgcgaaoncfgckabDoorWErr
import Derived.Test.YtgcgaaoncfgckabDoorTxt
import Derived.Deep.QuietTactic
import Derived.BigQuiet
import Derived.Lib.Strings
namespace Go.Proofs.YtgcgaaoncfgckabDoor
open Go.RowKit

theorem word_nan {z : Nat} (h : text z = [110, 97, 110]) : fixB z = 9221120237041090560 := by
  rcases text_cases z with ⟨e, f⟩ | ⟨e, f⟩ | ⟨e, f⟩ | ⟨e, f⟩ | ⟨e, _, f⟩ | ⟨e, f⟩
  · exact f
  · rw [e] at h; simp at h
  · rw [e] at h; simp at h
  · rw [e] at h; simp at h
  · rw [e] at h; exact absurd h (Txt.itoa_words _).1
  · rw [e] at h; simp at h
theorem word_inf {z : Nat} (h : text z = [105, 110, 102]) : fixB z = 9218868437227405312 := by
  rcases text_cases z with ⟨e, f⟩ | ⟨e, f⟩ | ⟨e, f⟩ | ⟨e, f⟩ | ⟨e, _, f⟩ | ⟨e, f⟩
  · rw [e] at h; simp at h
  · exact f
  · rw [e] at h; simp at h
  · rw [e] at h; simp at h
  · rw [e] at h; exact absurd h (Txt.itoa_words _).2.1
  · rw [e] at h; simp at h
theorem word_ninf {z : Nat} (h : text z = [45, 105, 110, 102]) : fixB z = 18442240474082181120 := by
  rcases text_cases z with ⟨e, f⟩ | ⟨e, f⟩ | ⟨e, f⟩ | ⟨e, f⟩ | ⟨e, _, f⟩ | ⟨e, f⟩
  · rw [e] at h; simp at h
  · rw [e] at h; simp at h
  · exact f
  · rw [e] at h; simp at h
  · rw [e] at h; exact absurd h (Txt.itoa_words _).2.2.1
  · rw [e] at h; simp at h
theorem word_mz {z : Nat} (h : text z = [45, 48]) : fixB z = 9223372036854775808 := by
  rcases text_cases z with ⟨e, f⟩ | ⟨e, f⟩ | ⟨e, f⟩ | ⟨e, f⟩ | ⟨e, _, f⟩ | ⟨e, f⟩
  · rw [e] at h; simp at h
  · rw [e] at h; simp at h
  · rw [e] at h; simp at h
  · exact f
  · rw [e] at h; exact absurd h (Txt.itoa_words _).2.2.2.1
  · rw [e] at h; simp at h
theorem word_x {z : Nat} {r : List UInt8} (h : text z = 120 :: r) : r = Hex.digits z 16 ∧ fixB z = z := by
  rcases text_cases z with ⟨e, f⟩ | ⟨e, f⟩ | ⟨e, f⟩ | ⟨e, f⟩ | ⟨e, _, f⟩ | ⟨e, f⟩
  · rw [e] at h; simp at h
  · rw [e] at h; simp at h
  · rw [e] at h; simp at h
  · rw [e] at h; simp at h
  · rw [e] at h; exact absurd h ((Txt.itoa_words _).2.2.2.2 r)
  · rw [e] at h; simp at h; exact ⟨h.symm, f⟩
theorem word_dec {z : Nat} {l : List UInt8} (h : l = text z) (h1 : l ≠ [110, 97, 110]) (h2 : l ≠ [105, 110, 102]) (h3 : l ≠ [45, 105, 110, 102]) (h4 : l ≠ [45, 48]) (h5 : ∀ r, l ≠ 120 :: r) :
    l = Lib.itoa (Flt.trunc z) ∧ decB z = true ∧ fixB z = z := by
  rcases text_cases z with ⟨e, f⟩ | ⟨e, f⟩ | ⟨e, f⟩ | ⟨e, f⟩ | ⟨e, d, f⟩ | ⟨e, f⟩
  · exact absurd (h.trans e) h1
  · exact absurd (h.trans e) h2
  · exact absurd (h.trans e) h3
  · exact absurd (h.trans e) h4
  · exact ⟨h.trans e, d, f⟩
  · exact absurd (h.trans e) (h5 _)

set_option maxRecDepth 100000 in
set_option maxHeartbeats 400000 in
theorem inf_pos (w : World) : Calls Tryd.prog 23 #[.int .i64 1] w fun e w' => e = .returned (.float .f64 9218868437227405312) ∧ w' = w := by
  have hr := fun x w => run_frombits x w
  go_enter Tryd.func23, Tryd.ntmps23
  go_wp2
  go_ret
  exact ⟨rfl, rfl⟩
set_option maxRecDepth 100000 in
set_option maxHeartbeats 400000 in
theorem inf_neg (w : World) : Calls Tryd.prog 23 #[.int .i64 (-1)] w fun e w' => e = .returned (.float .f64 18442240474082181120) ∧ w' = w := by
  have hr := fun x w => run_frombits x w
  go_enter Tryd.func23, Tryd.ntmps23
  go_wp2
  go_ret
  exact ⟨rfl, rfl⟩

theorem of_nan (w : World) : Calls Tryd.prog 22 #[.int .u64 9221120237041090560] w fun e w' => e = .returned (.float .f64 9221120237041090560) ∧ w' = w := by
  have := realOf_any 9221120237041090560 w
  rwa [show fixB (9221120237041090560 : Int).toNat = 9221120237041090560 by kernel_rfl] at this
theorem of_mz (w : World) : Calls Tryd.prog 22 #[.int .u64 9223372036854775808] w fun e w' => e = .returned (.float .f64 9223372036854775808) ∧ w' = w := by
  have := realOf_any 9223372036854775808 w
  rwa [show fixB (9223372036854775808 : Int).toNat = 9223372036854775808 by kernel_rfl] at this

set_option maxRecDepth 100000 in
set_option maxHeartbeats 1000000 in
theorem guess_nan (w : World) : Calls Tryd.prog 12 #[.string ⟨#[110, 97, 110]⟩] w fun e w' => e = .returned (.tuple #[.float .f64 9221120237041090560, .bool true]) ∧ w' = w := by
  go_enter Tryd.func12, Tryd.ntmps12
  go_wp2_with (go_at_call 22; refine (of_nan _).mono ?_; rintro e w' ⟨rfl, rfl⟩)
  go_ret2
  exact ⟨rfl, rfl⟩
set_option maxRecDepth 100000 in
set_option maxHeartbeats 1000000 in
theorem guess_inf (w : World) : Calls Tryd.prog 12 #[.string ⟨#[105, 110, 102]⟩] w fun e w' => e = .returned (.tuple #[.float .f64 9218868437227405312, .bool true]) ∧ w' = w := by
  go_enter Tryd.func12, Tryd.ntmps12
  go_wp2_with (go_at_call 23; refine (inf_pos _).mono ?_; rintro e w' ⟨rfl, rfl⟩)
  go_ret2
  exact ⟨rfl, rfl⟩
set_option maxRecDepth 100000 in
set_option maxHeartbeats 1000000 in
theorem guess_ninf (w : World) : Calls Tryd.prog 12 #[.string ⟨#[45, 105, 110, 102]⟩] w fun e w' => e = .returned (.tuple #[.float .f64 18442240474082181120, .bool true]) ∧ w' = w := by
  go_enter Tryd.func12, Tryd.ntmps12
  go_wp2_with (go_at_call 23; refine (inf_neg _).mono ?_; rintro e w' ⟨rfl, rfl⟩)
  go_ret2
  exact ⟨rfl, rfl⟩
set_option maxRecDepth 100000 in
set_option maxHeartbeats 1000000 in
theorem guess_mz (w : World) : Calls Tryd.prog 12 #[.string ⟨#[45, 48]⟩] w fun e w' => e = .returned (.tuple #[.float .f64 9223372036854775808, .bool true]) ∧ w' = w := by
  go_enter Tryd.func12, Tryd.ntmps12
  go_wp2_with (go_at_call 22; refine (of_mz _).mono ?_; rintro e w' ⟨rfl, rfl⟩)
  go_ret2
  exact ⟨rfl, rfl⟩

theorem bytes_eq {s : ByteArray} {l : List UInt8} (h : s.data.toList = l) : s = ⟨l.toArray⟩ := by
  obtain ⟨⟨q⟩⟩ := s
  subst h; rfl

theorem beq_words {s : ByteArray} {l : List UInt8} (h : s.data.toList ≠ l) : (s.toList == l) = false := by
  rw [Lib.toList_data, beq_eq_false_iff_ne]; exact h

theorem fix_lt {x : Nat} (h : x < 18446744073709551616) : fixB x < 18446744073709551616 := by
  cases hn : nanB x
  · rw [fix_f hn]; exact h
  · rw [fix_t hn]; omega

theorem ofInt_lt (n : Int) : floatOfInt .f64 n < 18446744073709551616 := by
  have := floatOfInt_wf .f64 n
  simp only [Lit.wf, decide_eq_true_eq] at this
  exact this

theorem below_drewN {B : Nat} {a w : World} (h : Below B a w) (n : Nat) : Below B a (w.drewN n) := ⟨h.os, h.tape, h.output, h.size, h.block⟩

theorem dec_bounds {z : Nat} (h : decB z = true) : -9007199254740992 < Flt.trunc z ∧ Flt.trunc z < 9007199254740992 := by
  obtain ⟨_, _, _, _, _, _, h7, h8⟩ := decB_facts h
  exact ⟨h7, h8⟩

set_option maxRecDepth 100000 in
set_option maxHeartbeats 2000000 in
theorem guess_x (s : ByteArray) (r : List UInt8) (hsr : s.data.toList = 120 :: r) (hlim : s.size ≤ 281474976710656) (w : World) (hs : Sen w) :
    Calls Tryd.prog 12 #[.string s] w fun e w' => ∃ (x : Nat) (ok : Bool), e = .returned (.tuple #[.float .f64 x, .bool ok]) ∧ x < 18446744073709551616 ∧ (∀ z, z < 18446744073709551616 → s.data.toList = text z → x = fixB z ∧ ok = true) ∧ Below w.heap.size w w' := by
  have q1 := beq_words (s := s) (l := [110, 97, 110]) (by rw [hsr]; simp)
  have q2 := beq_words (s := s) (l := [105, 110, 102]) (by rw [hsr]; simp)
  have q3 := beq_words (s := s) (l := [45, 105, 110, 102]) (by rw [hsr]; simp)
  have q4 := beq_words (s := s) (l := [45, 48]) (by rw [hsr]; simp)
  have hcut : Hid (∀ w, Calls Tryd.prog 24 #[.string s, .string ⟨#[120]⟩] w fun e w' => e = .returned (.tuple #[.string ⟨r.toArray⟩, .bool true]) ∧ w' = w) := fun w => by
    have := Tryd.strings_CutPrefix s ⟨#[120]⟩ w
    have e1 : Lib.hasPrefix s.data.toList [120] = true := by rw [hsr]; rfl
    have e2 : Lib.trimPrefix s.data.toList [120] = r := by unfold Lib.trimPrefix; rw [e1, hsr]; rfl
    have e3 : (⟨#[120]⟩ : ByteArray).data.toList = [120] := rfl
    rw [e3, e1, e2] at this
    exact this
  have hrl : r.length ≤ 281474976710656 := by
    have := Lib.size_eq s
    rw [hsr] at this
    simp at this; omega
  have IP := Lib.hid (parseUint_16 ⟨r.toArray⟩ (by show r.toArray.size ≤ _; simpa using hrl))
  have HS := Lib.hid hs
  have HR := Lib.hid hsr
  clear hs hsr hlim hrl
  go_enter Tryd.func12, Tryd.ntmps12
  go_wp2_with fail
  refine (hcut.out _).mono ?_
  rintro e w' ⟨rfl, rfl⟩
  go_wp2_with fail
  refine (IP.out _ HS.out).mono ?_
  rintro e w1 ⟨v, er, rfl, h1, h2, h3, h4, hb⟩
  obtain ⟨u, rfl⟩ : ∃ u : Nat, v = (u : Int) := ⟨v.toNat, by omega⟩
  have HB := Lib.hid hb
  have HL : Hid (fixB u < 18446744073709551616) := fix_lt (by omega)
  rcases h3 with rfl | ⟨N, rfl⟩
  · have HF : Hid (∀ z, z < 18446744073709551616 → s.data.toList = text z → fixB u = fixB z) := fun z hz ht => by
      rw [HR.out] at ht
      obtain ⟨e1, e2⟩ := word_x ht.symm
      have := (h4 z hz (by simpa using e1)).1
      have e3 : u = z := by omega
      rw [e3]
    clear h4 h1 h2 hb
    go_wp2
    go_quiet ((go_at_call 22; exact Calls.quiet_of_same (realOf_any _ _)))
    go_wp2
    go_ret2
    exact ⟨_, _, rfl, HL.out, fun z hz ht => ⟨HF.out z hz ht, rfl⟩, below_drewN HB.out _⟩
  · have HF : Hid (∀ z, z < 18446744073709551616 → s.data.toList = text z → False) := fun z hz ht => by
      rw [HR.out] at ht
      obtain ⟨e1, e2⟩ := word_x ht.symm
      have := (h4 z hz (by simpa using e1)).2
      cases this
    clear h4 h1 h2 hb
    go_wp2
    go_quiet ((go_at_call 22; exact Calls.quiet_of_same (realOf_any _ _)))
    go_wp2
    go_ret2
    exact ⟨_, _, rfl, HL.out, fun z hz ht => (HF.out z hz ht).elim, below_drewN HB.out _⟩

set_option maxRecDepth 100000 in
set_option maxHeartbeats 2000000 in
theorem guess_dec (s : ByteArray) (h1 : s.data.toList ≠ [110, 97, 110]) (h2 : s.data.toList ≠ [105, 110, 102]) (h3 : s.data.toList ≠ [45, 105, 110, 102]) (h4 : s.data.toList ≠ [45, 48]) (h5 : ∀ r, s.data.toList ≠ 120 :: r) (hlim : s.size ≤ 281474976710656) (w : World) (hs : Sen w) :
    Calls Tryd.prog 12 #[.string s] w fun e w' => ∃ (x : Nat) (ok : Bool), e = .returned (.tuple #[.float .f64 x, .bool ok]) ∧ x < 18446744073709551616 ∧ (∀ z, z < 18446744073709551616 → s.data.toList = text z → x = fixB z ∧ ok = true) ∧ Below w.heap.size w w' := by
  have q1 := beq_words h1
  have q2 := beq_words h2
  have q3 := beq_words h3
  have q4 := beq_words h4
  have hcut : Hid (∀ w, Calls Tryd.prog 24 #[.string s, .string ⟨#[120]⟩] w fun e w' => e = .returned (.tuple #[.string s, .bool false]) ∧ w' = w) := fun w => by
    have := Tryd.strings_CutPrefix s ⟨#[120]⟩ w
    have e1 : Lib.hasPrefix s.data.toList [120] = false := by
      unfold Lib.hasPrefix
      match hl : s.data.toList with
      | [] => rfl
      | c :: r =>
        by_cases hc : c = 120
        · exact absurd (hl.trans (by rw [hc])) (h5 r)
        · simp [List.isPrefixOf, Ne.symm hc]
    have e2 : Lib.trimPrefix s.data.toList [120] = s.data.toList := by unfold Lib.trimPrefix; rw [e1]; rfl
    have e3 : (⟨#[120]⟩ : ByteArray).data.toList = [120] := rfl
    rw [e3, e1, e2] at this
    exact this
  have IP := Lib.hid (parseInt_any s hlim)
  have HS := Lib.hid hs
  have HD : Hid (∀ z, z < 18446744073709551616 → s.data.toList = text z → Lib.parseIntB 64 s.data.toList = .ok (Flt.trunc z) ∧ floatOfInt .f64 (Flt.trunc z) = fixB z) := fun z hz ht => by
    obtain ⟨e1, e2, e3⟩ := word_dec ht h1 h2 h3 h4 h5
    obtain ⟨t1, t2⟩ := dec_bounds e2
    rw [e1, e3]
    exact ⟨Txt.parse_itoa _ t1 t2, dec_back hz e2⟩
  clear hs hlim h1 h2 h3 h4 h5
  go_enter Tryd.func12, Tryd.ntmps12
  go_wp2_with fail
  refine (hcut.out _).mono ?_
  rintro e w' ⟨rfl, rfl⟩
  go_wp2_with fail
  refine (IP.out _ HS.out).mono ?_
  rintro e w1 ⟨v, er, rfl, h3, h4, hb⟩
  have HB := Lib.hid hb
  have HL := Lib.hid (ofInt_lt v)
  rcases h3 with rfl | ⟨N, rfl⟩
  · have HF : Hid (∀ z, z < 18446744073709551616 → s.data.toList = text z → floatOfInt .f64 v = fixB z) := fun z hz ht => by
      obtain ⟨e1, e2⟩ := HD.out z hz ht
      rw [(h4 _ e1).1]; exact e2
    clear h4 hb
    go_wp2
    go_region
    go_wp2
    go_ret2
    exact ⟨_, _, rfl, HL.out, fun z hz ht => ⟨HF.out z hz ht, rfl⟩, HB.out.drew⟩
  · have HF : Hid (∀ z, z < 18446744073709551616 → s.data.toList = text z → False) := fun z hz ht => by
      obtain ⟨e1, e2⟩ := HD.out z hz ht
      have := (h4 _ e1).2
      cases this
    clear h4 hb
    go_wp2
    go_region
    go_wp2
    go_ret2
    exact ⟨_, _, rfl, HL.out, fun z hz ht => (HF.out z hz ht).elim, HB.out.drew⟩

/-- guess, at every text -/
theorem realGuess_any (s : ByteArray) (hlim : s.size ≤ 281474976710656) (w : World) (hs : Sen w) :
    Calls Tryd.prog 12 #[.string s] w fun e w' => ∃ (x : Nat) (ok : Bool), e = .returned (.tuple #[.float .f64 x, .bool ok]) ∧ x < 18446744073709551616 ∧ (∀ z, z < 18446744073709551616 → s.data.toList = text z → x = fixB z ∧ ok = true) ∧ Below w.heap.size w w' := by
  by_cases h1 : s.data.toList = [110, 97, 110]
  · have e := bytes_eq h1
    subst e
    refine (guess_nan w).mono ?_
    rintro e w' ⟨rfl, rfl⟩
    exact ⟨_, _, rfl, by omega, fun z _ ht => ⟨(word_nan (ht.symm.trans h1)).symm, rfl⟩, Below.refl _ _⟩
  by_cases h2 : s.data.toList = [105, 110, 102]
  · have e := bytes_eq h2
    subst e
    refine (guess_inf w).mono ?_
    rintro e w' ⟨rfl, rfl⟩
    exact ⟨_, _, rfl, by omega, fun z _ ht => ⟨(word_inf (ht.symm.trans h2)).symm, rfl⟩, Below.refl _ _⟩
  by_cases h3 : s.data.toList = [45, 105, 110, 102]
  · have e := bytes_eq h3
    subst e
    refine (guess_ninf w).mono ?_
    rintro e w' ⟨rfl, rfl⟩
    exact ⟨_, _, rfl, by omega, fun z _ ht => ⟨(word_ninf (ht.symm.trans h3)).symm, rfl⟩, Below.refl _ _⟩
  by_cases h4 : s.data.toList = [45, 48]
  · have e := bytes_eq h4
    subst e
    refine (guess_mz w).mono ?_
    rintro e w' ⟨rfl, rfl⟩
    exact ⟨_, _, rfl, by omega, fun z _ ht => ⟨(word_mz (ht.symm.trans h4)).symm, rfl⟩, Below.refl _ _⟩
  by_cases h5 : ∃ r, s.data.toList = 120 :: r
  · obtain ⟨r, hr⟩ := h5
    exact guess_x s r hr hlim w hs
  · exact guess_dec s h1 h2 h3 h4 (fun r hr => h5 ⟨r, hr⟩) hlim w hs
end Go.Proofs.YtgcgaaoncfgckabDoor
