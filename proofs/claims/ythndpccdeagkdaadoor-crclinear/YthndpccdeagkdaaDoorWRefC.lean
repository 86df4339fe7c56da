/- The walk of the document's own Update. -/
import Derived.Test.YthndpccdeagkdaaDoorBytes
import Derived.Test.YthndpccdeagkdaaDoorCrc
import Derived.WalkKit
import Derived.WalkSpells
import Derived.WalkLawsBesides
import Derived.Laws.BitsAllLaws
import Derived.Lib.Hide
namespace Go.Proofs.YthndpccdeagkdaaDoor
open Go.RowKit

theorem xor32 (a b : Nat) (ha : a < 4294967296) (hb : b < 4294967296) : bits .xor .u32 (a : Int) (b : Int) = ((a ^^^ b : Nat) : Int) := u32_xor_nat a b ha hb
theorem not32 (a : Nat) (ha : a < 4294967296) : bits .xor .u32 IntKind.u32.max (a : Int) = ((a ^^^ Crc.full : Nat) : Int) := by
  rw [Nat.xor_comm]; exact u32_xor_nat 4294967295 a (by omega) ha

set_option maxHeartbeats 2000000 in
theorem refUpdate_some (s : Nat) (hs : s < 4294967296) (b o c : Nat) (l : List UInt8) (hl : l.length ≤ 140737488351232) (w : World) (hc : Cells w b o l) :
    Calls Tryd.prog 15 #[.int .u32 s, .slice (some ⟨b, o, none⟩) l.length c] w fun e w' => e = .returned (.int .u32 (Crc.update s l : Nat)) ∧ w' = w := by
  have hn := not32 s hs
  have HC := Lib.hid hc
  clear hc
  obtain ⟨r0, hr0⟩ : ∃ r0, r0 = s ^^^ Crc.full := ⟨_, rfl⟩
  rw [← hr0] at hn
  have hr0lt : r0 < 4294967296 := by rw [hr0]; exact Nat.xor_lt_two_pow (n := 32) hs (by decide)
  have HU : Hid (Crc.update s l = Crc.take r0 l ^^^ Crc.full) := by rw [hr0]; exact rfl
  clear hr0
  go_enter Tryd.func15, Tryd.ntmps15
  go_wp2
  go_loop [5, 6] (fun vr vi => ∃ (k r : Nat), k ≤ l.length ∧ vi = .int .i64 k ∧ vr = .int .u32 r ∧ r < 4294967296 ∧ Hid (r = Crc.take r0 (l.take k))) (fun _ vi => l.length - (intOf vi).toNat)
  case atStart => exact ⟨0, r0, by omega, rfl, rfl, hr0lt, rfl⟩
  case round =>
    obtain ⟨k, r, hk, rfl, rfl, hr, HR⟩ := hrel
    by_cases hlt : k < l.length
    · have hcell := HC.out k hlt
      have hc256 : l[k].toNat < 256 := l[k].toNat_lt
      have hx := xor32 r l[k].toNat hr (by omega)
      obtain ⟨q0, hq0⟩ : ∃ q0, q0 = r ^^^ l[k].toNat := ⟨_, rfl⟩
      rw [← hq0] at hx
      have hq0lt : q0 < 4294967296 := by rw [hq0]; exact Nat.xor_lt_two_pow (n := 32) hr (by omega)
      have HN : Hid (Crc.steps 8 q0 = Crc.take r0 (l.take (k + 1))) := by
        show Crc.steps 8 q0 = _
        rw [List.take_succ_eq_append_getElem hlt, Crc.take_snoc, ← HR.out, hq0]; rfl
      clear hq0 HR
      go_wp2
      go_loop [5, 7] (fun vr vj => ∃ (j q : Nat), j ≤ 8 ∧ vj = .int .i64 j ∧ vr = .int .u32 q ∧ q < 4294967296 ∧ Hid (q = Crc.steps j q0)) (fun _ vj => 8 - (intOf vj).toNat)
      case atStart => exact ⟨0, q0, by omega, rfl, rfl, hq0lt, rfl⟩
      case round =>
        obtain ⟨j, q, hj, rfl, rfl, hq, HQ⟩ := hrel
        by_cases hj8 : j < 8
        · by_cases hodd : q % 2 = 1
          · have hb : ((q : Int) % 2 == 1) = true := by rw [beq_iff_eq]; omega
            have hx2 : bits .xor .u32 ((q : Int) / 2) 3988292384 = ((q / 2 ^^^ Crc.poly : Nat) : Int) := by
              have := xor32 (q / 2) 3988292384 (by omega) (by omega)
              simpa [Crc.poly] using this
            have HS : Hid (q / 2 ^^^ Crc.poly = Crc.steps (j + 1) q0 ∧ q / 2 ^^^ Crc.poly < 4294967296) := by
              refine ⟨?_, Nat.xor_lt_two_pow (n := 32) (by omega) Crc.poly_lt⟩
              rw [Crc.steps_succ, ← HQ.out, Crc.step, if_pos hodd]
            generalize q / 2 ^^^ Crc.poly = q1 at hx2 HS
            clear hodd
            go_wp2
            go_round
            case rel => exact ⟨j + 1, q1, by omega, by go_num, rfl, HS.out.2, HS.out.1⟩
            case measure => simp [intOf]; omega
          · have hb : ((q : Int) % 2 == 1) = false := by rw [beq_eq_false_iff_ne]; omega
            have HS : Hid (q / 2 = Crc.steps (j + 1) q0) := by
              show q / 2 = _
              rw [Crc.steps_succ, ← HQ.out, Crc.step, if_neg hodd]
            clear hodd
            go_wp2
            go_round
            case rel => exact ⟨j + 1, q / 2, by omega, by go_num, by go_num, by omega, HS⟩
            case measure => simp [intOf]; omega
        · have hj9 : j = 8 := by omega
          subst hj9
          have HE : Hid (q = Crc.take r0 (l.take (k + 1))) := by
            show q = _
            rw [HQ.out, HN.out]
          clear hj8 hj
          go_wp2
          go_round
          case rel => exact ⟨k + 1, q, by omega, by go_num, rfl, hq, HE⟩
          case measure => simp [intOf]; omega
    · have hkk : k = l.length := by omega
      subst hkk
      have hn2 := not32 r hr
      have HE : Hid ((r ^^^ Crc.full : Nat) = Crc.update s l) := by
        show _ = _
        rw [HU.out, HR.out, List.take_length]
      generalize r ^^^ Crc.full = z at hn2 HE
      go_wp2
      go_ret
      exact ⟨by rw [← HE.out]; rfl, rfl⟩

set_option maxHeartbeats 1000000 in
theorem refUpdate_none (s : Nat) (hs : s < 4294967296) (p : Option Addr) (c : Nat) (w : World) :
    Calls Tryd.prog 15 #[.int .u32 s, .slice p 0 c] w fun e w' => e = .returned (.int .u32 (s : Nat)) ∧ w' = w := by
  have hn := not32 s hs
  obtain ⟨r0, hr0⟩ : ∃ r0, r0 = s ^^^ Crc.full := ⟨_, rfl⟩
  rw [← hr0] at hn
  have hr0lt : r0 < 4294967296 := by rw [hr0]; exact Nat.xor_lt_two_pow (n := 32) hs (by decide)
  have hn2 := not32 r0 hr0lt
  have e : r0 ^^^ Crc.full = s := by rw [hr0]; exact Crc.flip_flip s
  rw [e] at hn2
  clear e hr0
  go_enter Tryd.func15, Tryd.ntmps15
  go_wp2
  go_loop [5, 6] (fun vr vi => vi = .int .i64 0 ∧ vr = .int .u32 r0) (fun _ _ => 0)
  case atStart => exact ⟨rfl, rfl⟩
  case round =>
    obtain ⟨rfl, rfl⟩ := hrel
    go_wp2
    go_ret
    exact ⟨rfl, rfl⟩

/-- the document's Update, of whatever slice -/
theorem refUpdate_any (s : Nat) (hs : s < 4294967296) (p : Option Addr) (c : Nat) (l : List UInt8) (hl : l.length ≤ 140737488351232) (w : World) (h : At w p l) :
    Calls Tryd.prog 15 #[.int .u32 s, .slice p l.length c] w fun e w' => e = .returned (.int .u32 (Crc.update s l : Nat)) ∧ w' = w := by
  rcases h with rfl | ⟨b, o, rfl, _, hc⟩
  · rw [Crc.update_nil]
    exact refUpdate_none s hs p c w
  · exact refUpdate_some s hs b o c l hl w hc

set_option maxHeartbeats 1000000 in
theorem refSum_any (p : Option Addr) (c : Nat) (l : List UInt8) (hl : l.length ≤ 140737488351232) (w : World) (h : At w p l) :
    Calls Tryd.prog 13 #[.slice p l.length c] w fun e w' => e = .returned (.int .u32 (Crc.sum l : Nat)) ∧ w' = w := by
  have HU := Lib.hid (refUpdate_any 0 (by omega) p c l hl w h)
  have HS : Hid (Crc.update 0 l = Crc.sum l) := rfl
  clear h
  go_enter Tryd.func13, Tryd.ntmps13
  go_wp2_with fail
  refine HU.out.mono ?_
  rintro e w' ⟨rfl, rfl⟩
  go_wp2
  go_ret
  exact ⟨by rw [← HS.out]; rfl, rfl⟩
end Go.Proofs.YthndpccdeagkdaaDoor
