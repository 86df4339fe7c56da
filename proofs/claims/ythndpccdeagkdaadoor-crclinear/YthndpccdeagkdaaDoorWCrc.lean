/- The walks of package crc: shiftHalf, shiftBit, Update, Sum, Slow. -/
import Derived.Test.YthndpccdeagkdaaDoorWRefC
import Derived.Lib.LaidTab
namespace Go.Proofs.YthndpccdeagkdaaDoor
open Go.RowKit

/-- the table of sixteen words lies as the document's steps make it -/
def Hv (w : World) : Prop := ∀ n (_ : n < 16), w.cell? ⟨0, n, none⟩ = some (.int .u32 (Crc.steps 4 n : Nat))

theorem and15 (r : Nat) (hr : r < 4294967296) : bits .and .u32 (r : Int) 15 = ((r % 16 : Nat) : Int) := by
  have := u32_and_nat r 15 hr (by omega)
  rw [show (15 : Nat) = 2 ^ 4 - 1 from rfl, Nat.and_two_pow_sub_one_eq_mod] at this
  exact this
theorem and1 (r : Nat) (hr : r < 4294967296) : bits .and .u32 (r : Int) 1 = ((r % 2 : Nat) : Int) := by
  have := u32_and_nat r 1 hr (by omega)
  rw [show (1 : Nat) = 2 ^ 1 - 1 from rfl, Nat.and_two_pow_sub_one_eq_mod] at this
  exact this

set_option maxHeartbeats 1000000 in
theorem shiftHalf_any (r : Nat) (hr : r < 4294967296) (w : World) (ht : Hv w) :
    Calls Tryd.prog 17 #[.int .u32 r] w fun e w' => e = .returned (.int .u32 (Crc.steps 4 r : Nat)) ∧ w' = w := by
  have ha := and15 r hr
  have hc := ht (r % 16) (Nat.mod_lt _ (by omega))
  have hm16 : r % 16 < 16 := Nat.mod_lt _ (by omega)
  have hlt : Crc.steps 4 (r % 16) < 4294967296 := Crc.steps_lt 4 (by omega)
  have hx : bits .xor .u32 ((r : Int) / 16) ((Crc.steps 4 (r % 16) : Nat) : Int) = ((r / 16 ^^^ Crc.steps 4 (r % 16) : Nat) : Int) := xor32 (r / 16) _ (by omega) hlt
  have HE : Hid (r / 16 ^^^ Crc.steps 4 (r % 16) = Crc.steps 4 r) := (Crc.nibble r).symm
  generalize Crc.steps 4 (r % 16) = v at hc hlt hx HE
  generalize r / 16 ^^^ v = z at hx HE
  clear ht
  go_enter Tryd.func17, Tryd.ntmps17
  go_wp2
  go_ret
  exact ⟨by rw [← HE.out]; rfl, rfl⟩

set_option maxHeartbeats 1000000 in
theorem shiftBit_any (r : Nat) (hr : r < 4294967296) (w : World) :
    Calls Tryd.prog 16 #[.int .u32 r] w fun e w' => e = .returned (.int .u32 (Crc.step r : Nat)) ∧ w' = w := by
  have ha := and1 r hr
  by_cases hodd : r % 2 = 1
  · have hx : bits .xor .u32 ((r : Int) / 2) 3988292384 = ((r / 2 ^^^ Crc.poly : Nat) : Int) := by
      have := xor32 (r / 2) 3988292384 (by omega) (by omega)
      simpa [Crc.poly] using this
    have HE : Hid (r / 2 ^^^ Crc.poly = Crc.step r) := by
      show _ = _
      rw [Crc.step, if_pos hodd]
    generalize r / 2 ^^^ Crc.poly = z at hx HE
    rw [hodd] at ha
    clear hodd
    go_enter Tryd.func16, Tryd.ntmps16
    go_wp2
    go_ret
    exact ⟨by rw [← HE.out]; rfl, rfl⟩
  · have h0 : r % 2 = 0 := by omega
    have HE : Hid (r / 2 = Crc.step r) := by
      show _ = _
      rw [Crc.step, if_neg hodd]
    rw [h0] at ha
    clear hodd h0
    go_enter Tryd.func16, Tryd.ntmps16
    go_wp2
    go_ret
    exact ⟨by rw [← HE.out]; rfl, rfl⟩

set_option maxHeartbeats 2000000 in
theorem update_some (s : Nat) (hs : s < 4294967296) (b o c : Nat) (l : List UInt8) (hl : l.length ≤ 140737488351232) (w : World) (ht : Hv w) (hc : Cells w b o l) :
    Calls Tryd.prog 12 #[.int .u32 s, .slice (some ⟨b, o, none⟩) l.length c] w fun e w' => e = .returned (.int .u32 (Crc.update s l : Nat)) ∧ w' = w := by
  have hn := not32 s hs
  have HC := Lib.hid hc
  have HT := Lib.hid ht
  clear hc ht
  obtain ⟨r0, hr0⟩ : ∃ r0, r0 = s ^^^ Crc.full := ⟨_, rfl⟩
  rw [← hr0] at hn
  have hr0lt : r0 < 4294967296 := by rw [hr0]; exact Nat.xor_lt_two_pow (n := 32) hs (by decide)
  have HU : Hid (Crc.update s l = Crc.take r0 l ^^^ Crc.full) := by rw [hr0]; exact rfl
  clear hr0
  go_enter Tryd.func12, Tryd.ntmps12
  go_wp2
  go_loop [5, 12] (fun vr vi => ∃ (k r : Nat), k ≤ l.length ∧ vi = .int .i64 k ∧ vr = .int .u32 r ∧ r < 4294967296 ∧ Hid (r = Crc.take r0 (l.take k))) (fun _ vi => l.length - (intOf vi).toNat)
  case atStart => exact ⟨0, r0, by omega, rfl, rfl, hr0lt, rfl⟩
  case round =>
    obtain ⟨k, r, hk, rfl, rfl, hr, HR⟩ := hrel
    by_cases hlt : k < l.length
    · have hcell := HC.out k hlt
      have hc256 : l[k].toNat < 256 := l[k].toNat_lt
      have hx := xor32 r l[k].toNat hr (by omega)
      obtain ⟨q0, hq0⟩ : ∃ q0, q0 = r ^^^ l[k].toNat := ⟨_, rfl⟩
      rw [← hq0] at hx
      have hq0lt : q0 < 4294967296 := by rw [hq0]; exact Nat.xor_lt_two_pow (n := 32) hr (by omega)
      have HN : Hid (Crc.steps 4 (Crc.steps 4 q0) = Crc.take r0 (l.take (k + 1))) := by
        show Crc.steps 4 (Crc.steps 4 q0) = _
        rw [← Crc.byte_nibbles, List.take_succ_eq_append_getElem hlt, Crc.take_snoc, ← HR.out, hq0]; rfl
      have hq1lt : Crc.steps 4 q0 < 4294967296 := Crc.steps_lt 4 hq0lt
      have hq2lt : Crc.steps 4 (Crc.steps 4 q0) < 4294967296 := Crc.steps_lt 4 hq1lt
      have H1 := Lib.hid (shiftHalf_any q0 hq0lt w HT.out)
      have H2 := Lib.hid (shiftHalf_any _ hq1lt w HT.out)
      generalize Crc.steps 4 (Crc.steps 4 q0) = q2 at HN hq2lt H2
      generalize Crc.steps 4 q0 = q1 at hq1lt H1 H2
      clear hq0 HR
      go_wp2_with fail
      refine H1.out.mono ?_
      rintro e w' ⟨rfl, rfl⟩
      go_wp2_with fail
      refine H2.out.mono ?_
      rintro e w' ⟨rfl, rfl⟩
      go_wp2
      go_round
      case rel => exact ⟨k + 1, q2, by omega, by go_num, rfl, hq2lt, HN⟩
      case measure => simp [intOf]; omega
    · have hkk : k = l.length := by omega
      subst hkk
      have hn2 := not32 r hr
      have HE : Hid ((r ^^^ Crc.full : Nat) = Crc.update s l) := by
        show _ = _
        rw [HU.out, HR.out, List.take_length]
      generalize r ^^^ Crc.full = z at hn2 HE
      go_wp2
      go_ret
      exact ⟨by rw [← HE.out]; rfl, rfl⟩

set_option maxHeartbeats 1000000 in
theorem update_none (s : Nat) (hs : s < 4294967296) (p : Option Addr) (c : Nat) (w : World) :
    Calls Tryd.prog 12 #[.int .u32 s, .slice p 0 c] w fun e w' => e = .returned (.int .u32 (s : Nat)) ∧ w' = w := by
  have hn := not32 s hs
  obtain ⟨r0, hr0⟩ : ∃ r0, r0 = s ^^^ Crc.full := ⟨_, rfl⟩
  rw [← hr0] at hn
  have hr0lt : r0 < 4294967296 := by rw [hr0]; exact Nat.xor_lt_two_pow (n := 32) hs (by decide)
  have hn2 := not32 r0 hr0lt
  have e : r0 ^^^ Crc.full = s := by rw [hr0]; exact Crc.flip_flip s
  rw [e] at hn2
  clear e hr0
  go_enter Tryd.func12, Tryd.ntmps12
  go_wp2
  go_loop [5, 12] (fun vr vi => vi = .int .i64 0 ∧ vr = .int .u32 r0) (fun _ _ => 0)
  case atStart => exact ⟨rfl, rfl⟩
  case round =>
    obtain ⟨rfl, rfl⟩ := hrel
    go_wp2
    go_ret
    exact ⟨rfl, rfl⟩

/-- Update, of whatever slice -/
theorem update_any (s : Nat) (hs : s < 4294967296) (p : Option Addr) (c : Nat) (l : List UInt8) (hl : l.length ≤ 140737488351232) (w : World) (ht : Hv w) (h : At w p l) :
    Calls Tryd.prog 12 #[.int .u32 s, .slice p l.length c] w fun e w' => e = .returned (.int .u32 (Crc.update s l : Nat)) ∧ w' = w := by
  rcases h with rfl | ⟨b, o, rfl, _, hc⟩
  · rw [Crc.update_nil]
    exact update_none s hs p c w
  · exact update_some s hs b o c l hl w ht hc

set_option maxHeartbeats 1000000 in
theorem sum_any (p : Option Addr) (c : Nat) (l : List UInt8) (hl : l.length ≤ 140737488351232) (w : World) (ht : Hv w) (h : At w p l) :
    Calls Tryd.prog 10 #[.slice p l.length c] w fun e w' => e = .returned (.int .u32 (Crc.sum l : Nat)) ∧ w' = w := by
  have HU := Lib.hid (update_any 0 (by omega) p c l hl w ht h)
  have HS : Hid (Crc.update 0 l = Crc.sum l) := rfl
  clear h ht
  go_enter Tryd.func10, Tryd.ntmps10
  go_wp2_with fail
  refine HU.out.mono ?_
  rintro e w' ⟨rfl, rfl⟩
  go_wp2
  go_ret
  exact ⟨by rw [← HS.out]; rfl, rfl⟩

theorem sum_eq (l : List UInt8) : Crc.sum l = Crc.take 4294967295 l ^^^ Crc.full := by
  unfold Crc.sum Crc.update
  rw [Nat.zero_xor]; rfl

set_option maxHeartbeats 2000000 in
theorem slow_some (b o c : Nat) (l : List UInt8) (hl : l.length ≤ 140737488351232) (w : World) (hc : Cells w b o l) :
    Calls Tryd.prog 11 #[.slice (some ⟨b, o, none⟩) l.length c] w fun e w' => e = .returned (.int .u32 (Crc.sum l : Nat)) ∧ w' = w := by
  have HC := Lib.hid hc
  clear hc
  obtain ⟨r0, hr0⟩ : ∃ r0 : Nat, r0 = 4294967295 := ⟨_, rfl⟩
  have HU : Hid (Crc.sum l = Crc.take r0 l ^^^ Crc.full) := by
    show _ = _
    rw [hr0]; exact sum_eq l
  have hr0lt : r0 < 4294967296 := by omega
  have hr0i : (4294967295 : Int) = (r0 : Int) := by omega
  go_enter Tryd.func11, Tryd.ntmps11
  go_wp2
  go_loop [3, 8] (fun vr vi => ∃ (k r : Nat), k ≤ l.length ∧ vi = .int .i64 k ∧ vr = .int .u32 r ∧ r < 4294967296 ∧ Hid (r = Crc.take r0 (l.take k))) (fun _ vi => l.length - (intOf vi).toNat)
  case atStart => exact ⟨0, r0, by omega, rfl, by rw [hr0]; rfl, hr0lt, rfl⟩
  case round =>
    obtain ⟨k, r, hk, rfl, rfl, hr, HR⟩ := hrel
    clear hr0 hr0i
    by_cases hlt : k < l.length
    · have hcell := HC.out k hlt
      have hc256 : l[k].toNat < 256 := l[k].toNat_lt
      have hx := xor32 r l[k].toNat hr (by omega)
      obtain ⟨q0, hq0⟩ : ∃ q0, q0 = r ^^^ l[k].toNat := ⟨_, rfl⟩
      rw [← hq0] at hx
      have hq0lt : q0 < 4294967296 := by rw [hq0]; exact Nat.xor_lt_two_pow (n := 32) hr (by omega)
      have HN : Hid (Crc.steps 8 q0 = Crc.take r0 (l.take (k + 1))) := by
        show Crc.steps 8 q0 = _
        rw [List.take_succ_eq_append_getElem hlt, Crc.take_snoc, ← HR.out, hq0]; rfl
      clear hq0 HR
      go_wp2
      go_loop [3, 16] (fun vr vj => ∃ (j q : Nat), j ≤ 8 ∧ vj = .int .i64 j ∧ vr = .int .u32 q ∧ q < 4294967296 ∧ Hid (q = Crc.steps j q0)) (fun _ vj => 8 - (intOf vj).toNat)
      case atStart => exact ⟨0, q0, by omega, rfl, rfl, hq0lt, rfl⟩
      case round =>
        obtain ⟨j, q, hj, rfl, rfl, hq, HQ⟩ := hrel
        by_cases hj8 : j < 8
        · have H1 := Lib.hid (shiftBit_any q hq w)
          have hq1lt : Crc.step q < 4294967296 := Crc.step_lt hq
          have HS : Hid (Crc.step q = Crc.steps (j + 1) q0) := by
            show _ = _
            rw [Crc.steps_succ, ← HQ.out]
          generalize Crc.step q = q1 at H1 hq1lt HS
          go_wp2_with fail
          refine H1.out.mono ?_
          rintro e w' ⟨rfl, rfl⟩
          go_wp2
          go_round
          case rel => exact ⟨j + 1, q1, by omega, by go_num, rfl, hq1lt, HS⟩
          case measure => simp [intOf]; omega
        · have hj9 : j = 8 := by omega
          subst hj9
          have HE : Hid (q = Crc.take r0 (l.take (k + 1))) := by
            show q = _
            rw [HQ.out, HN.out]
          clear hj8 hj
          go_wp2
          go_round
          case rel => exact ⟨k + 1, q, by omega, by go_num, rfl, hq, HE⟩
          case measure => simp [intOf]; omega
    · have hkk : k = l.length := by omega
      subst hkk
      have hn2 := not32 r hr
      have HE : Hid ((r ^^^ Crc.full : Nat) = Crc.sum l) := by
        show _ = _
        rw [HU.out, HR.out, List.take_length]
      generalize r ^^^ Crc.full = z at hn2 HE
      go_wp2
      go_ret
      exact ⟨by rw [← HE.out]; rfl, rfl⟩

set_option maxHeartbeats 1000000 in
theorem slow_none (p : Option Addr) (c : Nat) (w : World) :
    Calls Tryd.prog 11 #[.slice p 0 c] w fun e w' => e = .returned (.int .u32 0) ∧ w' = w := by
  have hn2 : bits .xor .u32 IntKind.u32.max 4294967295 = 0 := by decide
  go_enter Tryd.func11, Tryd.ntmps11
  go_wp2
  go_loop [3, 8] (fun vr vi => vi = .int .i64 0 ∧ vr = .int .u32 4294967295) (fun _ _ => 0)
  case atStart => exact ⟨rfl, rfl⟩
  case round =>
    obtain ⟨rfl, rfl⟩ := hrel
    go_wp2
    go_ret
    exact ⟨rfl, rfl⟩

/-- Slow, of whatever slice -/
theorem slow_any (p : Option Addr) (c : Nat) (l : List UInt8) (hl : l.length ≤ 140737488351232) (w : World) (h : At w p l) :
    Calls Tryd.prog 11 #[.slice p l.length c] w fun e w' => e = .returned (.int .u32 (Crc.sum l : Nat)) ∧ w' = w := by
  rcases h with rfl | ⟨b, o, rfl, _, hc⟩
  · exact slow_none p c w
  · exact slow_some b o c l hl w hc
end Go.Proofs.YthndpccdeagkdaaDoor
