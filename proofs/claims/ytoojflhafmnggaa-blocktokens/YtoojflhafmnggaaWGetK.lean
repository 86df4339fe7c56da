/- The walk of package leb's Get. -/
import Derived.Test.YtoojflhafmnggaaWPutK
namespace Go.Proofs.Ytoojflhafmnggaa
open Go.RowKit

set_option maxRecDepth 100000 in
theorem get_out (p : Option Addr) (c n : Nat) (a : Int) (h : a < 0 ∨ (n : Int) < a) (w : World) :
    Calls Try.prog 25 #[.slice p n c, .int .i64 a] w fun e w' => e = .returned (.tuple #[.int .u64 0, .int .i64 0, .int .i64 30]) ∧ w' = w := by
  by_cases h0 : a < 0
  · go_enter Try.func25, Try.ntmps25
    go_wp2
    go_step3
    go_wp2
    try rw [Exit.noGoto_ret]
    go_ret3
    exact ⟨rfl, rfl⟩
  · have h1 : (n : Int) < a := by omega
    have hb0 : decide (a < 0) = false := decide_eq_false h0
    go_enter Try.func25, Try.ntmps25
    go_wp2
    go_step3
    go_wp2
    try rw [Exit.noGoto_ret]
    go_ret3
    exact ⟨rfl, rfl⟩

set_option maxRecDepth 100000 in
set_option maxHeartbeats 400000 in
theorem get_end (p : Option Addr) (c n : Nat) (w : World) :
    Calls Try.prog 25 #[.slice p n c, .int .i64 n] w fun e w' => e = .returned (.tuple #[.int .u64 0, .int .i64 0, .int .i64 30]) ∧ w' = w := by
  have HJ := Lib.hid (judge_any 0 128 (by decide) (by decide) w)
  have e0 : Leb.judge 0 128 = 30 := by decide
  rw [e0] at HJ
  clear e0
  cases p with
  | none =>
    go_enter Try.func25, Try.ntmps25
    go_wp2_with fail
    go_step3
    go_wp2_with fail
    go_step3
    go_wp2_with fail
    go_loop [7, 8, 9, 25] (fun v7 v8 v9 v25 => v7 = .int .u64 0 ∧ v8 = .int .i64 0 ∧ v9 = .int .u8 128 ∧ v25 = .int .i64 0) (fun _ _ _ _ => 0)
    case atStart => exact ⟨rfl, rfl, rfl, rfl⟩
    case round =>
      obtain ⟨rfl, rfl, rfl, rfl⟩ := hrel
      go_wp2_with fail
      refine HJ.out.mono ?_
      rintro e w' ⟨rfl, hw⟩
      rw [hw]
      clear hw w'
      go_wp2
      try rw [Exit.noGoto_ret]
      go_ret3
      exact ⟨rfl, rfl⟩
  | some p =>
    by_cases h : c = n
    all_goals
      go_enter Try.func25, Try.ntmps25
      go_wp2_with fail
      go_step3
      go_wp2_with fail
      go_step3
      go_wp2_with fail
      go_loop [7, 8, 9, 25] (fun v7 v8 v9 v25 => v7 = .int .u64 0 ∧ v8 = .int .i64 0 ∧ v9 = .int .u8 128 ∧ v25 = .int .i64 0) (fun _ _ _ _ => 0)
      case atStart => exact ⟨rfl, rfl, rfl, rfl⟩
      case round =>
        obtain ⟨rfl, rfl, rfl, rfl⟩ := hrel
        go_wp2_with fail
        refine HJ.out.mono ?_
        rintro e w' ⟨rfl, hw⟩
        rw [hw]
        clear hw w'
        go_wp2
        try rw [Exit.noGoto_ret]
        go_ret3
        exact ⟨rfl, rfl⟩

theorem andNot128_fin : ∀ v : Fin 256, bits .andNot .u8 (v.val : Int) 128 = ((v.val % 128 : Nat) : Int) := by decide +kernel
theorem andNot128 (v : Nat) (h : v < 256) : bits .andNot .u8 (v : Int) 128 = ((v % 128 : Nat) : Int) := andNot128_fin ⟨v, h⟩

/-- seven bits put behind those that stand -/
theorem or_join7 (m x k : Nat) (hm : m < 128 ^ k) (hx : x * 128 ^ k < 18446744073709551616) (hm2 : m < 18446744073709551616) : bits .or .u64 (m : Int) (IntKind.u64.wrap ((x : Int) * 2 ^ (7 * k))) = ((m + x * 128 ^ k : Nat) : Int) := by
  have e : (2 : Nat) ^ (7 * k) = 128 ^ k := by rw [Nat.pow_mul]
  have e2 : ((x : Int) * 2 ^ (7 * k)) = ((x * 128 ^ k : Nat) : Int) := by
    rw [← e]; push_cast; rfl
  have e3 : IntKind.u64.wrap (((x * 128 ^ k : Nat) : Int)) = ((x * 128 ^ k : Nat) : Int) := by
    rw [IntKind.wrap_u64]; omega
  rw [e2, e3, bits_join_low .u64 64 (by decide) wraps_u64 (7 * k) (m : Int) _ (by omega) (by rw [← e] at hm; exact_mod_cast hm) (by omega) (by omega) (by rw [← e]; push_cast; exact Int.mul_emod_left _ _) (by omega)]
  omega

theorem or_join7' (m v k : Nat) (hm : m < 128 ^ k) (hx : m + v % 128 * 128 ^ k < 18446744073709551616) : bits .or .u64 (m : Int) (IntKind.u64.wrap ((v : Int) % 128 * 2 ^ (7 * k))) = ((m + v % 128 * 128 ^ k : Nat) : Int) := by
  have e : ((v : Int) % 128) = ((v % 128 : Nat) : Int) := by omega
  rw [e]
  exact or_join7 m (v % 128) k hm (by omega) (by omega)

theorem val_take_succ (r : List UInt8) (k : Nat) (h : k < r.length) : Leb.val (r.take (k + 1)) = Leb.val (r.take k) + r[k].toNat % 128 * 128 ^ k := by
  induction r generalizing k with
  | nil => simp at h
  | cons c r ih =>
    cases k with
    | zero => simp [Leb.val]
    | succ k =>
      have := ih k (by simpa using h)
      simp only [List.take_succ_cons, Leb.val, List.getElem_cons_succ, this, Nat.pow_succ]
      rw [Nat.add_mul, Nat.mul_assoc]
      omega
theorem val_take_lt (r : List UInt8) (k : Nat) : Leb.val (r.take k) < 128 ^ k := by
  induction k generalizing r with
  | zero => simp [Leb.val]
  | succ k ih =>
    cases r with
    | nil => simp only [List.take_nil, Leb.val]; exact Nat.pow_pos (by omega)
    | cons c r =>
      have := ih r
      simp only [List.take_succ_cons, Leb.val, Nat.pow_succ]
      omega

set_option maxRecDepth 100000 in
set_option maxHeartbeats 400000 in
theorem get_in (b o c a : Nat) (l : List UInt8) (hl : l.length ≤ 140737488351232) (hlc : l.length ≤ c) (ha : a < l.length) (w : World) (hc : Cells w b o l) :
    Calls Try.prog 25 #[.slice (some ⟨b, o, none⟩) l.length c, .int .i64 a] w fun e w' => e = .returned (gotV l a) ∧ w' = w := by
  obtain ⟨r, hr⟩ : ∃ r, r = l.drop a := ⟨_, rfl⟩
  have hrl : r.length = l.length - a := by rw [hr, List.length_drop]
  have HC : Hid (∀ j (h : j < r.length), w.cell? ⟨b, o + a + j, none⟩ = some (.int .u8 (r[j].toNat : Int))) := by
    intro j h
    have := hc (a + j) (by omega)
    rw [Nat.add_assoc, this]
    subst hr
    rw [List.getElem_drop]
  have HB : Hid (∀ e n k, Leb.get r = ⟨e, n, k⟩ → Leb.get (l.drop a) = ⟨e, n, k⟩) := by
    intro e n k h
    rw [← hr]; exact h
  have hca : ¬ c = a := by omega
  have HJ : Hid (∀ k v : Nat, k ≤ 10 → v < 256 → Calls Try.prog 31 #[.int .i64 k, .int .u8 v] w fun e w' => e = .returned (.int .i64 (Leb.judge k v : Nat)) ∧ w' = w) := fun k v h1 h2 => judge_any k v h1 h2 w
  clear hc hr
  go_enter Try.func25, Try.ntmps25
  go_wp2_with fail
  go_step3
  go_wp2_with fail
  go_step3
  go_wp2_with fail
  go_loop [7, 8, 9, 25] (fun v7 v8 v9 v25 => ∃ k m v : Nat, k ≤ 9 ∧ k ≤ r.length ∧ v7 = .int .u64 m ∧ v8 = .int .i64 k ∧ v9 = .int .u8 v ∧ v25 = .int .i64 k ∧ 127 < v ∧ v < 256 ∧ m < 18446744073709551616 ∧ Hid (m = Leb.val (r.take k) ∧ ∀ j (h : j < r.length), j < k → 127 < r[j].toNat)) (fun _ v8 _ _ => 10 - (intOf v8).toNat)
  case atStart => exact ⟨0, 0, 128, by omega, by omega, rfl, rfl, rfl, rfl, by omega, by omega, by omega, rfl, fun j h h' => by omega⟩
  case round =>
    obtain ⟨k, m, v, hk, hkr, rfl, rfl, rfl, rfl, hv1, hv2, hm, HK⟩ := hrel
    by_cases hend : k = r.length
    · have hh := Leb.high_eq 10 r k (by omega) (by omega) HK.out.2 (.inr (.inl hend))
      have HG := Lib.hid (gotV_bad l a 30 (by omega) (HB.out _ _ _ ((Leb.getF_high 10 true r).2.1 (by rw [hh]; exact hend) (by omega))))
      have hj : Leb.judge k v = 30 := by unfold Leb.judge; rw [if_pos ⟨by omega, by omega⟩]
      have HJ' := Lib.hid (HJ.out k v (by omega) hv2)
      rw [hj] at HJ'
      have hb2 : ¬ k < l.length - a := by omega
      clear HK hh hj HC HB HJ hend hrl hkr
      go_wp2_with fail
      refine HJ'.out.mono ?_
      rintro e w' ⟨rfl, hw⟩
      rw [hw]
      clear hw w'
      go_wp2
      try rw [Exit.noGoto_ret]
      go_ret3
      exact ⟨by rw [HG.out]; rfl, rfl⟩
    · have hlt : k < r.length := by omega
      have hcell := HC.out k hlt
      have hv256 : r[k].toNat < 256 := r[k].toNat_lt
      have hb2 : k < l.length - a := by omega
      have hand := andNot128 r[k].toNat hv256
      obtain ⟨v', hv'⟩ : ∃ v', v' = r[k].toNat := ⟨_, rfl⟩
      rw [← hv'] at hcell hv256 hand
      have HV := Lib.hid hv'
      have HR := Lib.hid hrl
      clear hv' hrl
      by_cases hhi : 127 < v'
      · have HN : Hid (∀ j (h : j < r.length), j < k + 1 → 127 < r[j].toNat) := by
          intro j h hj
          by_cases e : j = k
          · subst e; rw [← HV.out]; exact hhi
          · exact HK.out.2 j h (by omega)
        by_cases h9 : k = 9
        · have HG := Lib.hid (gotV_bad l a 5 (by omega) (HB.out _ _ _ ((Leb.getF_high 10 true r).1 (Leb.high_eq 10 r 10 (by omega) (by omega) (fun j h hj => HN.out j h (by omega)) (.inl rfl)))))
          have hj : Leb.judge 10 v' = 5 := by unfold Leb.judge; rw [if_neg (by omega), if_pos ⟨rfl, by omega⟩]
          have HJ' := Lib.hid (HJ.out 10 v' (by omega) hv256)
          rw [hj] at HJ'
          clear HK HN HC HB HJ HV HR hj
          subst h9
          go_wp2_with fail
          refine HJ'.out.mono ?_
          rintro e w' ⟨rfl, hw⟩
          rw [hw]
          clear hw w'
          go_wp2
          try rw [Exit.noGoto_ret]
          go_ret3
          exact ⟨by rw [HG.out]; rfl, rfl⟩
        · have h91 : ((k : Int) + 1 == 10) = false := by rw [beq_eq_false_iff_ne]; omega
          have hlim : k ≤ 8 := by omega
          have hval := val_take_succ r k hlt
          rw [← HV.out, ← HK.out.1] at hval
          have hp : (128 : Nat) ^ (k + 1) ≤ 128 ^ 9 := Nat.pow_le_pow_right (by omega) (by omega)
          have e9 : (128 : Nat) ^ 9 = 9223372036854775808 := by decide
          have hlt2 := val_take_lt r (k + 1)
          rw [hval] at hlt2
          have hlt3 : m + v' % 128 * 128 ^ k < 18446744073709551616 := by omega
          have hor := or_join7' m v' k (by rw [HK.out.1]; exact val_take_lt r k) hlt3
          have HX : Hid (m + v' % 128 * 128 ^ k = Leb.val (r.take (k + 1))) := hval.symm
          clear h9 hval hp e9 hlt2 HC HB HJ HK
          generalize m + v' % 128 * 128 ^ k = m2 at hor HX hlt3
          go_wp2_with fail
          go_round
          case rel => exact ⟨k + 1, m2, v', by omega, by omega, rfl, by go_num, rfl, by go_num, hhi, hv256, hlt3, HX.out, HN.out⟩
          case measure => simp [intOf]; omega
      · have hh := Leb.high_eq 10 r k (by omega) hkr HK.out.2 (.inr (.inr ⟨hlt, by rw [← HV.out]; exact hhi⟩))
        have hg := (Leb.getF_high 10 true r).2.2 (by omega) (by omega)
        simp only [hh] at hg
        rw [← HV.out] at hg
        have hlo : v' < 128 := by omega
        by_cases hbad : (k + 1 = 10 ∧ 1 < v') ∨ ((true = false ∨ 0 < k) ∧ v' = 0)
        · rw [if_pos hbad] at hg
          have HG := Lib.hid (gotV_bad l a 5 (by omega) (HB.out _ _ _ hg))
          have hj : Leb.judge (k + 1) v' = 5 := by
            unfold Leb.judge
            rw [if_neg (by omega)]
            by_cases h1 : k + 1 = 10 ∧ 1 < v'
            · rw [if_pos h1]
            · rcases hbad with h2 | ⟨h2 | h2, h3⟩
              · exact absurd h2 h1
              · cases h2
              · rw [if_neg h1, if_pos ⟨by omega, h3⟩]
          have HJ' := Lib.hid (HJ.out (k + 1) v' (by omega) hv256)
          rw [hj] at HJ'
          clear HK HC HB HJ HV HR hj hg hh hbad hhi
          go_wp2_with fail
          refine HJ'.out.mono ?_
          rintro e w' ⟨rfl, hw⟩
          rw [hw]
          clear hw w'
          go_wp2
          try rw [Exit.noGoto_ret]
          go_ret3
          exact ⟨by rw [HG.out]; rfl, rfl⟩
        · rw [if_neg hbad] at hg
          have hok := Leb.get_ok r (by rw [show Leb.get r = _ from hg])
          rw [show Leb.get r = _ from hg] at hok
          have hlim : Leb.val (r.take (k + 1)) < 18446744073709551616 := hok.1
          have hval := val_take_succ r k hlt
          rw [← HV.out, ← HK.out.1] at hval
          have HG := Lib.hid (gotV_ok l a _ _ (HB.out _ _ _ hg))
          rw [hval] at HG hlim
          have hor := or_join7' m v' k (by rw [HK.out.1]; exact val_take_lt r k) hlim
          have hj : Leb.judge (k + 1) v' = 0 := by
            unfold Leb.judge
            rw [if_neg (by omega), if_neg (by omega), if_neg]
            rintro ⟨h1, h2⟩
            exact hbad (.inr ⟨.inr (by omega), h2⟩)
          have HJ' := Lib.hid (HJ.out (k + 1) v' (by omega) hv256)
          rw [hj] at HJ'
          clear HK HC HB HJ HV HR hj hg hh hbad hhi hok hval
          generalize m + v' % 128 * 128 ^ k = m2 at hor HG hlim
          go_wp2_with fail
          refine HJ'.out.mono ?_
          rintro e w' ⟨rfl, hw⟩
          rw [hw]
          clear hw w'
          go_wp2
          try rw [Exit.noGoto_ret]
          go_ret3
          exact ⟨by rw [HG.out] <;> go_num, rfl⟩

theorem get_any (p : Option Addr) (c : Nat) (l : List UInt8) (a : Int) (hl : l.length ≤ 140737488351232) (hlc : l.length ≤ c) (w : World) (h : At w p l) :
    Calls Try.prog 25 #[.slice p l.length c, .int .i64 a] w fun e w' => e = .returned (gotV l a) ∧ w' = w := by
  by_cases h0 : a < 0 ∨ (l.length : Int) < a
  · rw [gotV_out l a (by omega)]
    exact get_out p c l.length a h0 w
  · obtain ⟨n, rfl⟩ : ∃ n : Nat, a = (n : Int) := ⟨a.toNat, by omega⟩
    by_cases h1 : n = l.length
    · rw [gotV_out l n (by omega), h1]
      exact get_end p c l.length w
    · obtain ⟨b, o, rfl, _, hc⟩ := at_some h (by omega)
      exact get_in b o c n l hl hlc (by omega) w hc
end Go.Proofs.Ytoojflhafmnggaa
