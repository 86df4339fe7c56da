/- LebUnlike, over what the laws ask of package leb. -/
import Derived.Test.YthbkmliggdpmoaaLebC
import Derived.Deep.DeepCutAuto
namespace Go.Proofs.Ythbkmliggdpmoaa
open Go.RowKit

theorem i64_like {a b : Int} (h : a = b) : Value.int .i64 a = Value.int .i64 b := by rw [h]

/-- of unlike numbers neither's bytes begin the other's -/
theorem Leb.begins (n m k : Nat) (hn : n < 18446744073709551616) (hm : m < 18446744073709551616) (hk : k = min (Leb.put n).length (Leb.put m).length) : ((Leb.put n).take k == (Leb.put m).take k) = ((n : Int) == (m : Int)) := by
  rw [Bool.eq_iff_iff, beq_iff_eq, beq_iff_eq]
  constructor
  · intro h
    rcases Nat.le_total (Leb.put n).length (Leb.put m).length with h1 | h1
    · have e : k = (Leb.put n).length := by omega
      rw [e, List.take_length] at h
      have := Leb.put_prefix (r := (Leb.put m).drop (Leb.put n).length) hn hm (by rw [h, List.length_take, Nat.min_eq_left h1, List.take_append_drop])
      omega
    · have e : k = (Leb.put m).length := by omega
      rw [e, List.take_length] at h
      have := Leb.put_prefix (r := (Leb.put n).drop (Leb.put m).length) hm hn (by rw [← h, List.length_take, Nat.min_eq_left h1, List.take_append_drop])
      omega
  · intro h
    have : n = m := by omega
    rw [this]

/-- what the loop keeps -/
def Struck (B g o L : Nat) (w wr : World) : Prop := ∃ xs : List UInt8, Free wr g o xs ∧ xs.length = L ∧ B ≤ g ∧ Below B w wr
theorem struck_step {B g o L i : Nat} {w wr : World} (h : Struck B g o L w wr) (hi : i < L) : (∃ v, wr.cell? ⟨g, o + i, none⟩ = some v) ∧ wr.frozen? ⟨g, o + i, none⟩ = false ∧ Struck B g o L w (wr.setCell ⟨g, o + i, none⟩ (.int .u8 0)) := by
  obtain ⟨xs, hF, hl, hB, hb⟩ := h
  have h0 := hF.set i 0 (by omega)
  exact ⟨⟨_, hF.2.1 i (by omega)⟩, hF.2.2 i (by omega), _, h0, by rw [List.length_set]; exact hl, hB, hb.setCell hB _⟩

set_option maxHeartbeats 1000000 in
theorem lebUnlike_any {I : World → Prop} (K : LebOk I) (n m : Nat) (hn : n < 18446744073709551616) (hm : m < 18446744073709551616) (w : World) (hI : I w) :
    Calls Try.prog 8 #[.int .u64 n, .int .u64 m] w fun e w' => e = .returned (.bool true) ∧ Below w.heap.size w w' := by
  have HK := Lib.hid K
  have HI := Lib.hid hI
  have hlen := Leb.put_length_le n
  have hlen2 := Leb.put_length_le m
  have hpos := Leb.put_length_pos n
  have hpos2 := Leb.put_length_pos m
  have HG := Lib.hid (Leb.begins n m _ hn hm rfl)
  clear hI
  go_enter Try.func8, Try.ntmps8
  go_wp2_with fail
  refine (HK.out.put n w hn HI.out).mono ?_
  rintro e w1 ⟨g, o, cap, rfl, hF, hg, hcap, h⟩
  have B1 := Lib.hid h
  have F1 := Lib.hid hF
  clear h hF
  go_wp2_with fail
  refine (HK.out.put m w1 hm (HK.out.on HI.out B1.out)).mono ?_
  rintro e w2 ⟨g2, o2, cap2, rfl, hF, hg2, hcap2, h⟩
  have B2 := Lib.hid (B1.out.trans (h.mono B1.out.size))
  have F1' := Lib.hid (F1.out.on F1.out.1 h)
  have F2 := Lib.hid hF
  have HR : Hid (∀ k, w.heap.size ≤ g ∧ (∃ v, w2.cell? ⟨g, o + 0, none⟩ = some v) ∧ Struck w.heap.size g o (Leb.put n).length w (w2.drewN k)) := by
    intro k
    refine ⟨hg, ⟨_, F1'.out.2.1 0 (by omega)⟩, _, F1'.out, rfl, hg, below_drewN B2.out k⟩
  clear h hF F1 hg hg2
  obtain ⟨L, hL⟩ : ∃ L, L = (Leb.put n).length := ⟨_, rfl⟩
  obtain ⟨M, hM⟩ : ∃ M, M = (Leb.put m).length := ⟨_, rfl⟩
  have HC : Hid (∀ k j : Nat, k = min L M → Calls Try.prog 14 #[.slice (some ⟨g, o, none⟩) k cap, .slice (some ⟨g2, o2, none⟩) k cap2] (w2.drewN j) fun e w' => e = .returned (.bool ((n : Int) == (m : Int))) ∧ ∃ i, w' = (w2.drewN j).drewN i) := by
    intro k j hk
    have e1 : ((Leb.put n).take k).length = k := by rw [List.length_take]; omega
    have e2 : ((Leb.put m).take k).length = k := by rw [List.length_take]; omega
    have c1 : At (w2.drewN j) (some ⟨g, o, none⟩) ((Leb.put n).take k) := At.drewN (.inr ⟨g, o, rfl, F1'.out.1, cells_take F1'.out.2.1 k⟩) j
    have c2 : At (w2.drewN j) (some ⟨g2, o2, none⟩) ((Leb.put m).take k) := At.drewN (.inr ⟨g2, o2, rfl, F2.out.1, cells_take F2.out.2.1 k⟩) j
    have hS := same_any (some ⟨g, o, none⟩) (some ⟨g2, o2, none⟩) cap cap2 _ _ (by omega) (w2.drewN j) c1 c2
    rw [e1, e2] at hS
    have hb : ((Leb.put n).take k == (Leb.put m).take k) = ((n : Int) == (m : Int)) := by rw [hk, hL, hM]; exact HG.out
    rw [hb] at hS
    exact hS
  rw [← hL] at hcap HR hlen hpos ⊢
  rw [← hM] at hcap2 hlen2 hpos2 ⊢
  clear F1' F2 HG hL hM
  go_upto_if 21 with fail
  go_cut [7] from 12 (fun v7 wx => v7 = .int .i64 (min L M : Nat) ∧ wx = w2)
  case first =>
    go_wp2
    · go_meet
      case rel => exact ⟨i64_like (by omega), rfl⟩
    · go_meet
      case rel => exact ⟨i64_like (by omega), rfl⟩
  case rest =>
    obtain ⟨rfl, hwc⟩ := hcut
    rw [hwc]
    clear hwc wc
    obtain ⟨k, hk⟩ : ∃ k, k = min L M := ⟨_, rfl⟩
    have HC' := Lib.hid (fun j => HC.out k j hk)
    rw [← hk]
    have hk1 : k ≤ cap := by omega
    have hk2 : k ≤ cap2 := by omega
    have hk3 : (0 : Int) < (k : Int) := by omega
    have i1 : (k : Int) ≤ (cap : Int) := by omega
    have i2 : (k : Int) ≤ (cap2 : Int) := by omega
    have j1 : ¬ cap = 0 := by omega
    have j2 : ¬ cap2 = 0 := by omega
    clear HC hk
    go_wp2
    go_quiet ((go_at_call 14; exact Calls.quiet_of (HC'.out _)))
    have HQ := Lib.hid (HR.out nq).2.2
    clear HR HC'
    generalize w2.drewN nq = w3 at HQ ⊢
    go_wp2
    go_loopw [9] (fun v9 wr => ∃ i : Nat, i ≤ L ∧ v9 = .int .i64 i ∧ Hid (Struck w.heap.size g o L w wr)) (fun v9 _ => L - (intOf v9).toNat)
    case atStart => exact ⟨0, by omega, rfl, HQ⟩
    case round =>
      obtain ⟨i, hi, rfl, HS⟩ := hrel
      by_cases hlt : i < L
      · obtain ⟨⟨v, hv⟩, hfz, hnext⟩ := struck_step HS.out hlt
        have HN := Lib.hid hnext
        have hi1 : (i : Int) < (L : Int) := by omega
        clear hnext HS
        go_wp2
        go_roundw
        case rel => exact ⟨i + 1, by omega, by go_num, HN⟩
        case measure => simp [intOf]; omega
      · have hil : i = L := by omega
        have C1 : Hid (Below w.heap.size w wr) := by obtain ⟨_, _, _, _, h⟩ := HS.out; exact h
        subst hil
        clear HS
        go_wp2_with fail
        refine (HK.out.put n _ hn (HK.out.on HI.out C1.out)).mono ?_
        rintro e w4 ⟨g4, o4, cap4, rfl, hF, -, -, h⟩
        have B4 := Lib.hid (C1.out.trans (h.mono C1.out.size))
        have A4 := Lib.hid hF.at
        clear h hF
        go_wp2_with fail
        refine (refPut_any n hn w4).mono ?_
        rintro e w5 ⟨g5, cap5, rfl, hM5, h⟩
        have B5 := Lib.hid (B4.out.trans (h.mono B4.out.size))
        have A5 := Lib.hid hM5.at
        have A4' := Lib.hid (A4.out.on h)
        clear h hM5 A4
        go_wp2_with fail
        refine (lebLive_ok HK.out w5 (HK.out.on HI.out B5.out)).mono ?_
        rintro e w6 ⟨rfl, h⟩
        have B6 := Lib.hid (B5.out.trans (h.mono B5.out.size))
        have HS := Lib.hid (same_any (some ⟨g4, o4, none⟩) (some ⟨g5, 0, none⟩) cap4 cap5 (Leb.put n) (Leb.put n) (by have := Leb.put_length_le n; omega) w6 (A4'.out.on h) (A5.out.on h))
        clear h A4' A5
        go_wp2_with fail
        refine HS.out.mono ?_
        rintro e w7 ⟨rfl, j, hw⟩
        rw [beq_self_eq_true]
        have B7 : Hid (Below w.heap.size w w7) := by rw [hw]; exact below_drewN B6.out j
        clear hw HS
        go_wp2
        go_ret
        exact ⟨rfl, B7.out⟩
end Go.Proofs.Ythbkmliggdpmoaa
