/- The walks of the document's own worth and read: what digits say. -/
import Derived.Test.YtgcgaaoncfgckaaDoorWRefQ
import Derived.Test.YtgcgaaoncfgckaaDoorWGuess
namespace Go.Proofs.YtgcgaaoncfgckaaDoor
open Go.RowKit

/-- a digit's worth to a base; none: it is none -/
def worthN (c : UInt8) (base : Nat) : Option Nat := (List.range base).find? fun i => Hex.hexd i == c

theorem dig_all_at : ∀ n : Fin 16, dig16.data.toList.getD n.val 0 = Hex.hexd n.val := by decide

theorem idx_dig16 (n : Nat) (h : n < 16) (w : World) :
    (Instr.index 9 (.string ⟨#[48, 49, 50, 51, 52, 53, 54, 55, 56, 57, 97, 98, 99, 100, 101, 102]⟩) (.int .i64 (n : Int))).run Tryd.prog w = .ok (.int .u8 ((Hex.hexd n).toNat : Int)) w := by
  have hsz : dig16.size = 16 := by decide
  have h1 := run_index_string (P := Tryd.prog) w 9 dig16 .i64 (n : Int) Tryd.underlying9
  rw [dif_pos ⟨by omega, by rw [hsz]; omega⟩] at h1
  have e : ((n : Int)).toNat = n := by omega
  simp only [e] at h1
  rw [Lib.getD_at dig16 n (by rw [hsz]; exact h), dig_all_at ⟨n, h⟩] at h1
  exact h1

theorem find_succ (c : UInt8) (k : Nat) (h : ∀ i, i < k → Hex.hexd i ≠ c) (n : Nat) (hn : n = k) (he : Hex.hexd n = c) (base : Nat) (hb : k < base) : worthN c base = some k := by
  subst hn
  unfold worthN
  rw [List.find?_range_eq_some]
  refine ⟨by simpa using he, by simpa using hb, fun j hj => ?_⟩
  simpa using h j hj
theorem find_none (c : UInt8) (base : Nat) (h : ∀ i, i < base → Hex.hexd i ≠ c) : worthN c base = none := by
  unfold worthN
  rw [List.find?_eq_none]
  intro i hi
  simpa using h i (by simpa using hi)

/-- the same, as the document's answer has it: -1 for none -/
def worthI (c : UInt8) (base : Nat) : Int := match worthN c base with | some n => (n : Int) | none => -1
theorem worthI_some {c : UInt8} {base n : Nat} (h : worthN c base = some n) : worthI c base = (n : Int) := by unfold worthI; rw [h]
theorem worthI_none {c : UInt8} {base : Nat} (h : worthN c base = none) : worthI c base = -1 := by unfold worthI; rw [h]

set_option maxRecDepth 100000 in
set_option maxHeartbeats 1000000 in
theorem worth_any (c : UInt8) (base : Nat) (hbase : base ≤ 16) (w : World) :
    Calls Tryd.prog 67 #[.int .u8 (c.toNat : Int), .int .i64 (base : Int)] w fun e w' => e = .returned (.int .i64 (worthI c base)) ∧ w' = w := by
  go_enter Tryd.func67, Tryd.ntmps67
  go_wp2
  go_loop [5] (fun vi => ∃ k : Nat, k ≤ base ∧ vi = .int .i64 k ∧ Hid (∀ i, i < k → Hex.hexd i ≠ c)) (fun vi => base - (intOf vi).toNat)
  case atStart => exact ⟨0, by omega, rfl, fun i hi => by omega⟩
  case round =>
    obtain ⟨k, hk, rfl, HK⟩ := hrel
    by_cases hlt : k < base
    · have hX := fun w => idx_dig16 k (by omega) w
      have hc0 : (c.toNat : Int) < 256 := by have := c.toNat_lt; omega
      by_cases he : Hex.hexd k = c
      · have HF := Lib.hid (worthI_some (find_succ c k HK.out k rfl he base hlt))
        subst he
        go_wp2
        go_ret
        exact ⟨by rw [HF.out]; rfl, rfl⟩
      · have hb : (((Hex.hexd k).toNat : Int) == (c.toNat : Int)) = false := by
          rw [beq_eq_false_iff_ne]
          intro hc
          apply he
          apply UInt8.toNat_inj.1
          omega
        have HK2 : Hid (∀ i, i < k + 1 → Hex.hexd i ≠ c) := fun i hi => by
          by_cases e : i = k
          · subst e; exact he
          · exact HK.out i (by omega)
        clear he
        go_wp2
        go_round
        case rel => exact ⟨k + 1, by omega, by go_num, HK2⟩
        case measure => simp [intOf]; omega
    · have hkb : k = base := by omega
      subst hkb
      have HF := Lib.hid (worthI_none (find_none c k HK.out))
      go_wp2
      go_ret
      exact ⟨by rw [HF.out]; rfl, rfl⟩

/-- what digits to a base say, read on from acc; 0 where one is none -/
def readL (base : Nat) : Nat → List UInt8 → Nat
  | acc, [] => acc
  | acc, c :: r => match worthN c base with | none => 0 | some d => readL base (acc * base + d) r
/-- at most sixteen of them -/
def readR (base : Nat) (l : List UInt8) : Nat := if 16 < l.length then 0 else readL base 0 l

theorem worthN_lt {c : UInt8} {base d : Nat} (h : worthN c base = some d) : d < base := by
  unfold worthN at h
  have := List.mem_of_find?_eq_some h
  simpa using this

theorem worth_hexd16 : ∀ n : Fin 16, worthN (Hex.hexd n.val) 16 = some n.val := by decide
theorem worth_hexd10 : ∀ n : Fin 10, worthN (Hex.hexd n.val) 10 = some n.val := by decide

theorem read_hex (u : Nat) : ∀ k, readL 16 (u / 16 ^ k) (Hex.digits u k) = u
  | 0 => by simp [Hex.digits, readL]
  | k + 1 => by
    have h := worth_hexd16 ⟨u / 16 ^ k % 16, Nat.mod_lt _ (by omega)⟩
    simp only [Hex.digits, readL, Hex.at_]
    simp only at h
    rw [h]
    have e : u / 16 ^ (k + 1) * 16 + u / 16 ^ k % 16 = u / 16 ^ k := by
      rw [Nat.pow_succ, ← Nat.div_div_eq_div_mul]; omega
    simp only [e]
    exact read_hex u k

theorem readR_hex (u : Nat) (hu : u < 18446744073709551616) : readR 16 (Hex.digits u 16) = u := by
  unfold readR
  rw [Hex.digits_length, if_neg (by omega)]
  have := read_hex u 16
  have e : (16 : Nat) ^ 16 = 18446744073709551616 := by decide
  rw [e, Nat.div_eq_of_lt hu] at this
  exact this

theorem read_dec (u : Nat) : ∀ r, readL 10 0 (Lib.decDigits u ++ r) = readL 10 u r := by
  induction u using Nat.strongRecOn with
  | ind u ih =>
    intro r
    rw [Lib.decDigits]
    by_cases h : u < 10
    · have hw := worth_hexd10 ⟨u, h⟩
      simp only at hw
      rw [hexd_dec u h] at hw
      rw [dif_pos h]
      simp only [List.cons_append, List.nil_append, readL, hw]
      congr 1; omega
    · have hw := worth_hexd10 ⟨u % 10, Nat.mod_lt _ (by omega)⟩
      simp only at hw
      rw [hexd_dec (u % 10) (by omega)] at hw
      rw [dif_neg h, List.append_assoc, ih (u / 10) (by omega)]
      simp only [List.cons_append, List.nil_append, readL, hw]
      congr 1; omega

theorem nDigits_le : ∀ (k u : Nat), 1 ≤ k → u < 10 ^ k → Lib.nDigits u ≤ k
  | 0, _, h, _ => by omega
  | k + 1, u, _, h => by
    by_cases hs : u < 10
    · rw [Lib.nDigits_small hs]; omega
    · rw [Lib.nDigits_big hs]
      have hk : 1 ≤ k := by
        rcases k with _ | k
        · simp at h; omega
        · omega
      have := nDigits_le k (u / 10) hk (by rw [Nat.pow_succ] at h; omega)
      omega

theorem dec_len (u : Nat) (h : u < 9007199254740992) : (Lib.decDigits u).length ≤ 16 := by
  rw [Lib.decDigits_length]
  have h1 : u < 10 ^ 16 := by
    have e : (10 : Nat) ^ 16 = 10000000000000000 := by decide
    omega
  exact nDigits_le 16 u (by omega) h1

theorem readR_dec (u : Nat) (h : u < 9007199254740992) : readR 10 (Lib.decDigits u) = u := by
  unfold readR
  have hl := dec_len u h
  rw [if_neg (by omega)]
  have := read_dec u []
  rw [List.append_nil] at this
  exact this

theorem worth_10 (c : UInt8) (w : World) :
    Calls Tryd.prog 67 #[.int .u8 (c.toNat : Int), .int .i64 10] w fun e w' => e = .returned (.int .i64 (worthI c 10)) ∧ w' = w := worth_any c 10 (by omega) w

set_option maxRecDepth 100000 in
set_option maxHeartbeats 2000000 in
theorem read_10 (s : ByteArray) (hmax : s.size ≤ 281474976710656) (w : World) :
    Calls Tryd.prog 50 #[.string s, .int .i64 10] w fun e w' => e = .returned (.int .u64 (readR 10 s.data.toList : Nat)) ∧ w' = w := by
  by_cases hlen : 16 < s.size
  · have e : readR 10 s.data.toList = 0 := by
      unfold readR; rw [if_pos (by rw [← Lib.size_eq]; exact hlen)]
    rw [e]
    clear e
    go_enter Tryd.func50, Tryd.ntmps50
    go_wp2
    go_ret
    exact ⟨rfl, rfl⟩
  · have e : readR 10 s.data.toList = readL 10 0 s.data.toList := by
      unfold readR; rw [if_neg (by rw [← Lib.size_eq]; exact hlen)]
    rw [e]
    clear e
    obtain ⟨R, hR⟩ : ∃ R, R = readL 10 0 s.data.toList := ⟨_, rfl⟩
    rw [← hR]
    have HR := Lib.hid hR
    clear hR
    go_enter Tryd.func50, Tryd.ntmps50
    go_wp2
    go_loop [5, 6] (fun vn vi => ∃ (k acc : Nat) (a : Int), k ≤ s.size ∧ vi = .int .i64 k ∧ vn = .int .u64 a ∧ Hid (a = (acc : Int) ∧ acc < 16 ^ k ∧ R = readL 10 acc (s.data.toList.drop k))) (fun _ vi => s.size - (intOf vi).toNat)
    case atStart => exact ⟨0, 0, 0, by omega, rfl, rfl, rfl, by simp, HR.out⟩
    case round =>
      obtain ⟨k, acc, a, hk, rfl, rfl, HA⟩ := hrel
      obtain ⟨ha, hacc, hrd⟩ := HA.out
      clear HA
      by_cases hlt : k < s.size
      · have hdrop : s.data.toList.drop k = s[k] :: s.data.toList.drop (k + 1) := by
          have hk2 : k < s.data.toList.length := by rw [← Lib.size_eq]; exact hlt
          rw [List.drop_eq_getElem_cons hk2]; rfl
        rw [hdrop] at hrd
        have hp : 16 ^ k ≤ 16 ^ 15 := Nat.pow_le_pow_right (by omega) (by omega)
        have e15 : (16 : Nat) ^ 15 = 1152921504606846976 := by decide
        have a0 : 0 ≤ a := by omega
        have a1 : a < 1152921504606846976 := by omega
        have IW := Lib.hid (worth_10 s[k])
        cases hw : worthN s[k] 10 with
        | none =>
          have hwi := worthI_none hw
          have HE : Hid (R = 0) := by
            show R = 0
            rw [hrd]; simp only [readL, hw]
          clear hw hrd hdrop ha hacc hp e15
          go_wp2_with fail
          refine (IW.out _).mono ?_
          rintro e w' ⟨rfl, rfl⟩
          go_wp2
          go_ret
          exact ⟨by rw [HE.out]; rfl, rfl⟩
        | some d =>
          have hwi := worthI_some hw
          have hd := worthN_lt hw
          have HN : Hid (a * 10 + (d : Int) = ((acc * 10 + d : Nat) : Int) ∧ acc * 10 + d < 16 ^ (k + 1) ∧ R = readL 10 (acc * 10 + d) (s.data.toList.drop (k + 1))) := by
            refine ⟨by omega, by rw [Nat.pow_succ]; omega, ?_⟩
            rw [hrd]; simp only [readL, hw]
          clear hw hrd hdrop ha hacc hp e15
          go_wp2_with fail
          refine (IW.out _).mono ?_
          rintro e w' ⟨rfl, rfl⟩
          go_wp2
          go_round
          case rel => exact ⟨k + 1, acc * 10 + d, a * 10 + (d : Int), by omega, by go_num, by first | rfl | (congr 1; omega), HN⟩
          case measure => simp [intOf]; omega
      · have hkk : k = s.size := by omega
        subst hkk
        have HE : Hid ((R : Int) = a) := by
          show (R : Int) = a
          rw [hrd, List.drop_eq_nil_of_le (by rw [← Lib.size_eq]; exact Nat.le_refl _)]
          simp only [readL]; omega
        clear hrd hacc ha
        go_wp2
        go_ret
        exact ⟨by rw [HE.out]; rfl, rfl⟩

theorem worth_16 (c : UInt8) (w : World) :
    Calls Tryd.prog 67 #[.int .u8 (c.toNat : Int), .int .i64 16] w fun e w' => e = .returned (.int .i64 (worthI c 16)) ∧ w' = w := worth_any c 16 (by omega) w

set_option maxRecDepth 100000 in
set_option maxHeartbeats 2000000 in
theorem read_16 (s : ByteArray) (hmax : s.size ≤ 281474976710656) (w : World) :
    Calls Tryd.prog 50 #[.string s, .int .i64 16] w fun e w' => e = .returned (.int .u64 (readR 16 s.data.toList : Nat)) ∧ w' = w := by
  by_cases hlen : 16 < s.size
  · have e : readR 16 s.data.toList = 0 := by
      unfold readR; rw [if_pos (by rw [← Lib.size_eq]; exact hlen)]
    rw [e]
    clear e
    go_enter Tryd.func50, Tryd.ntmps50
    go_wp2
    go_ret
    exact ⟨rfl, rfl⟩
  · have e : readR 16 s.data.toList = readL 16 0 s.data.toList := by
      unfold readR; rw [if_neg (by rw [← Lib.size_eq]; exact hlen)]
    rw [e]
    clear e
    obtain ⟨R, hR⟩ : ∃ R, R = readL 16 0 s.data.toList := ⟨_, rfl⟩
    rw [← hR]
    have HR := Lib.hid hR
    clear hR
    go_enter Tryd.func50, Tryd.ntmps50
    go_wp2
    go_loop [5, 6] (fun vn vi => ∃ (k acc : Nat) (a : Int), k ≤ s.size ∧ vi = .int .i64 k ∧ vn = .int .u64 a ∧ Hid (a = (acc : Int) ∧ acc < 16 ^ k ∧ R = readL 16 acc (s.data.toList.drop k))) (fun _ vi => s.size - (intOf vi).toNat)
    case atStart => exact ⟨0, 0, 0, by omega, rfl, rfl, rfl, by simp, HR.out⟩
    case round =>
      obtain ⟨k, acc, a, hk, rfl, rfl, HA⟩ := hrel
      obtain ⟨ha, hacc, hrd⟩ := HA.out
      clear HA
      by_cases hlt : k < s.size
      · have hdrop : s.data.toList.drop k = s[k] :: s.data.toList.drop (k + 1) := by
          have hk2 : k < s.data.toList.length := by rw [← Lib.size_eq]; exact hlt
          rw [List.drop_eq_getElem_cons hk2]; rfl
        rw [hdrop] at hrd
        have hp : 16 ^ k ≤ 16 ^ 15 := Nat.pow_le_pow_right (by omega) (by omega)
        have e15 : (16 : Nat) ^ 15 = 1152921504606846976 := by decide
        have a0 : 0 ≤ a := by omega
        have a1 : a < 1152921504606846976 := by omega
        have IW := Lib.hid (worth_16 s[k])
        cases hw : worthN s[k] 16 with
        | none =>
          have hwi := worthI_none hw
          have HE : Hid (R = 0) := by
            show R = 0
            rw [hrd]; simp only [readL, hw]
          clear hw hrd hdrop ha hacc hp e15
          go_wp2_with fail
          refine (IW.out _).mono ?_
          rintro e w' ⟨rfl, rfl⟩
          go_wp2
          go_ret
          exact ⟨by rw [HE.out]; rfl, rfl⟩
        | some d =>
          have hwi := worthI_some hw
          have hd := worthN_lt hw
          have HN : Hid (a * 16 + (d : Int) = ((acc * 16 + d : Nat) : Int) ∧ acc * 16 + d < 16 ^ (k + 1) ∧ R = readL 16 (acc * 16 + d) (s.data.toList.drop (k + 1))) := by
            refine ⟨by omega, by rw [Nat.pow_succ]; omega, ?_⟩
            rw [hrd]; simp only [readL, hw]
          clear hw hrd hdrop ha hacc hp e15
          go_wp2_with fail
          refine (IW.out _).mono ?_
          rintro e w' ⟨rfl, rfl⟩
          go_wp2
          go_round
          case rel => exact ⟨k + 1, acc * 16 + d, a * 16 + (d : Int), by omega, by go_num, by first | rfl | (congr 1; omega), HN⟩
          case measure => simp [intOf]; omega
      · have hkk : k = s.size := by omega
        subst hkk
        have HE : Hid ((R : Int) = a) := by
          show (R : Int) = a
          rw [hrd, List.drop_eq_nil_of_le (by rw [← Lib.size_eq]; exact Nat.le_refl _)]
          simp only [readL]; omega
        clear hrd hacc ha
        go_wp2
        go_ret
        exact ⟨by rw [HE.out]; rfl, rfl⟩
end Go.Proofs.YtgcgaaoncfgckaaDoor
