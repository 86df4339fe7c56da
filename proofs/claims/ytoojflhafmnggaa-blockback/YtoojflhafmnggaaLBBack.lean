/- BlockBack, BlockPacks. -/
import Derived.Test.YtoojflhafmnggaaWLive10
import Derived.Test.YtoojflhafmnggaaWRef10U
namespace Go.Proofs.Ytoojflhafmnggaa
open Go.RowKit

set_option maxRecDepth 100000 in
set_option maxHeartbeats 1000000 in
theorem blockBack_any (p0 p1 : Option Addr) (c0 c1 : Nat) (b l : List UInt8) (hb : b.length ≤ 140737488351232) (hl : l.length ≤ 140737488351232) (hc0 : b.length ≤ c0) (hc1 : l.length ≤ c1) (w : World) (h0 : At w p0 b) (h1 : At w p1 l) :
    Calls Try.prog 7 #[.slice p0 b.length c0, .slice p1 l.length c1] w fun e w' => e = .returned (.bool true) ∧ Below w.heap.size w w' := by
  have HP := Lib.hid (packK b p0 c0 w hb hc0 h0)
  have A0 := Lib.hid h0
  have A1 := Lib.hid h1
  clear h0 h1
  have hul := Blk.unpack_len l
  obtain ⟨U, hU⟩ : ∃ U, U = Blk.unpack l := ⟨_, rfl⟩
  have HU : Hid (∀ w', At w' p1 l → Calls Try.prog 14 #[.slice p1 l.length c1] w' (ResV w' U)) := fun w' h => by rw [hU]; exact unpackK l p1 c1 w' hl hc1 h
  rw [← hU] at hul
  clear hU
  by_cases hlong : 2048 < b.length
  · rw [Blk.pack_long hlong] at HP
    go_enter Try.func7, Try.ntmps7
    go_wp2_with fail
    refine HP.out.mono ?_
    rintro e w1 ⟨q1, m1, cap1, rfl, hm1, hh1, hb1⟩
    have B1 := Lib.hid hb1
    have L1 := Lib.hid (A1.out.on hb1)
    have hm1' : m1 = 0 := hm1
    subst hm1'
    have U1 := Lib.hid (unpackK [] q1 cap1 w1 (by decide) (Nat.zero_le _) (.inl rfl))
    clear hm1 hh1 hb1 A0 A1 HP
    go_wp2_with fail
    refine U1.out.mono ?_
    rintro e w2 ⟨q2, m2, cap2, rfl, hm2, hh2, hb2⟩
    have B2 := Lib.hid (B1.out.trans (hb2.mono B1.out.size))
    have U2 := Lib.hid (HU.out w2 (L1.out.on hb2))
    have hm2' : m2 = 0 := hm2
    subst hm2'
    clear hm2 hh2 hb2 U1 L1
    have er : (Blk.unpack []).err = 4 := rfl
    rw [er]
    clear er
    go_wp2_with fail
    refine U2.out.mono ?_
    rintro e w3 ⟨q3, m3, cap3, rfl, hm3, hh3, hb3⟩
    have B3 := Lib.hid (B2.out.trans (hb3.mono B2.out.size))
    subst hm3
    clear hh3 hb3 U2 HU
    go_wp2_with fail
    refine (live10 w3).mono ?_
    rintro e w4 ⟨rfl, hb4⟩
    have B4 := Lib.hid (B3.out.trans (hb4.mono B3.out.size))
    clear hb4
    obtain ⟨ue, uo⟩ := U
    dsimp only at hul ⊢
    have hle := hul.1
    by_cases hue : ue = 0
    · subst hue
      go_wp2
      go_ret
      exact ⟨rfl, B4.out⟩
    · have huo : uo = [] := hul.2.resolve_left hue
      subst huo
      have g0 : ((ue : Int) == 0) = false := by rw [beq_eq_false_iff_ne]; omega
      go_wp2
      go_ret
      exact ⟨rfl, B4.out⟩
  · obtain ⟨k1, k2, k3⟩ := Blk.pack_back (b := b) (by omega)
    obtain ⟨P, hP⟩ : ∃ P, P = Blk.pack b := ⟨_, rfl⟩
    rw [← hP] at HP k1 k2 k3
    obtain ⟨pe, po⟩ := P
    dsimp only at k1 k2 k3
    subst k1
    have K2 := Lib.hid k2
    clear hP k2
    go_enter Try.func7, Try.ntmps7
    go_wp2_with fail
    refine HP.out.mono ?_
    rintro e w1 ⟨q1, m1, cap1, rfl, hm1, hh1, hb1⟩
    dsimp only at hm1 hh1
    have B1 := Lib.hid hb1
    have L1 := Lib.hid (A1.out.on hb1)
    have Q1 := Lib.hid (A0.out.on hb1)
    have hu1 := unpackK po q1 cap1 w1 (by omega) hh1.at'.2 hh1.at'.1
    rw [K2.out] at hu1
    have U1 := Lib.hid hu1
    subst hm1
    clear hh1 hb1 A0 A1 HP hu1
    go_wp2_with fail
    refine U1.out.mono ?_
    rintro e w2 ⟨q2, m2, cap2, rfl, hm2, hh2, hb2⟩
    dsimp only at hm2 hh2
    have B2 := Lib.hid (B1.out.trans (hb2.mono B1.out.size))
    have L2 := Lib.hid (L1.out.on hb2)
    have HS := Lib.hid (same_any q2 p0 cap2 c0 b b hb w2 hh2.at'.1 (Q1.out.on hb2))
    subst hm2
    clear hh2 hb2 U1 L1 Q1
    go_wp2_with fail
    refine HS.out.mono ?_
    rintro e w3 ⟨rfl, k3', hw3⟩
    have C3 : Hid (Below w2.heap.size w2 w3) := by rw [hw3]; exact below_drewN (Below.refl _ _) k3'
    have B3 := Lib.hid (B2.out.trans (C3.out.mono B2.out.size))
    have U3 := Lib.hid (HU.out w3 (L2.out.on C3.out))
    rw [beq_self_eq_true]
    clear hw3 C3 HS HU L2
    go_wp2_with fail
    refine U3.out.mono ?_
    rintro e w4 ⟨q4, m4, cap4, rfl, hm4, hh4, hb4⟩
    have B4 := Lib.hid (B3.out.trans (hb4.mono B3.out.size))
    subst hm4
    clear hh4 hb4 U3
    go_wp2_with fail
    refine (live10 w4).mono ?_
    rintro e w5 ⟨rfl, hb5⟩
    have B5 := Lib.hid (B4.out.trans (hb5.mono B4.out.size))
    clear hb5
    obtain ⟨ue, uo⟩ := U
    dsimp only at hul ⊢
    have hle := hul.1
    by_cases hue : ue = 0
    · subst hue
      go_wp2
      go_ret
      exact ⟨rfl, B5.out⟩
    · have huo : uo = [] := hul.2.resolve_left hue
      subst huo
      have g0 : ((ue : Int) == 0) = false := by rw [beq_eq_false_iff_ne]; omega
      go_wp2
      go_ret
      exact ⟨rfl, B5.out⟩
end Go.Proofs.Ytoojflhafmnggaa
