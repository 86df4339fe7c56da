/- BlockPacks. -/
import Derived.Test.YtoojflhafmnggaaWLive10
import Derived.Test.YtoojflhafmnggaaWRef10U
namespace Go.Proofs.Ytoojflhafmnggaa
open Go.RowKit

set_option maxRecDepth 100000 in
set_option maxHeartbeats 1000000 in
theorem blockPacks_any (p : Option Addr) (c : Nat) (b : List UInt8) (hb : b.length ≤ 140737488351232) (hc : b.length ≤ c) (w : World) (h : At w p b) :
    Calls Try.prog 4 #[.slice p b.length c] w fun e w' => e = .returned (.bool true) ∧ Below w.heap.size w w' := by
  obtain ⟨q, d, W, hrun, hW, hqb, hd, hB⟩ := copy_run p c b w hb h
  have A0 := Lib.hid (h.on hB)
  have Q0 := Lib.hid hW
  have B0 := Lib.hid hB
  have hB0 := hB.size
  have HR := Lib.hid (AppRun.mk hrun)
  have HP := Lib.hid (packK b p c W hb hc A0.out)
  have HP2 : Hid (∀ w', At w' (some q) b → Calls Try.prog 9 #[.slice (some q) b.length d] w' (ResV w' (Blk.pack b))) := fun w' h => packK b (some q) d w' hb hd h
  clear h hW hB hrun hqb
  by_cases hlong : 2048 < b.length
  · rw [Blk.pack_long hlong] at HP HP2
    go_enter Try.func4, Try.ntmps4
    go_wp2_with (first | (at_builtin; refine wpList_append_ran HR.out rfl rfl rfl rfl ?_))
    refine HP.out.mono ?_
    rintro e w1 ⟨q1, m1, cap1, rfl, hm1, hh1, hb1⟩
    have B1 := Lib.hid (B0.out.trans (hb1.mono hB0))
    have U1 := Lib.hid (HP2.out w1 (Q0.out.on hb1))
    have hm1' : m1 = 0 := hm1
    subst hm1'
    clear hm1 hh1 hb1 HP HP2 A0 Q0
    go_wp2_with fail
    refine U1.out.mono ?_
    rintro e w2 ⟨q2, m2, cap2, rfl, hm2, hh2, hb2⟩
    have B2 := Lib.hid (B1.out.trans (hb2.mono B1.out.size))
    clear hm2 hh2 hb2 U1
    go_wp2_with fail
    refine (live10 w2).mono ?_
    rintro e w3 ⟨rfl, hb3⟩
    have B3 := Lib.hid (B2.out.trans (hb3.mono B2.out.size))
    clear hb3
    go_wp2
    go_ret
    exact ⟨rfl, B3.out⟩
  · obtain ⟨k1, k2, k3⟩ := Blk.pack_back (b := b) (by omega)
    obtain ⟨P, hP⟩ : ∃ P, P = Blk.pack b := ⟨_, rfl⟩
    rw [← hP] at HP HP2 k1 k2 k3
    obtain ⟨pe, po⟩ := P
    dsimp only at k1 k2 k3
    subst k1
    have K2 := Lib.hid k2
    clear hP k2
    go_enter Try.func4, Try.ntmps4
    go_wp2_with (first | (at_builtin; refine wpList_append_ran HR.out rfl rfl rfl rfl ?_))
    refine HP.out.mono ?_
    rintro e w1 ⟨q1, m1, cap1, rfl, hm1, hh1, hb1⟩
    dsimp only at hm1 hh1
    subst hm1
    have B1 := Lib.hid (B0.out.trans (hb1.mono hB0))
    have A1 := Lib.hid (A0.out.on hb1)
    have Q1 := Lib.hid (Q0.out.on hb1)
    have U1 := Lib.hid (HP2.out w1 Q1.out)
    have P1 := Lib.hid hh1.at'
    clear hh1 hb1 HP HP2 A0 Q0
    go_wp2_with fail
    refine U1.out.mono ?_
    rintro e w2 ⟨q2, m2, cap2, rfl, hm2, hh2, hb2⟩
    dsimp only at hm2 hh2
    subst hm2
    have B2 := Lib.hid (B1.out.trans (hb2.mono B1.out.size))
    have A2 := Lib.hid (A1.out.on hb2)
    have Q2 := Lib.hid (Q1.out.on hb2)
    have P2 := Lib.hid (P1.out.1.on hb2)
    have R2 := Lib.hid hh2.at'.1
    have hu := refUnpackK po q1 cap1 w2 (by omega) P1.out.2 P2.out
    rw [K2.out] at hu
    have U2 := Lib.hid hu
    clear hh2 hb2 U1 hu A1 Q1 P1
    go_wp2_with fail
    refine U2.out.mono ?_
    rintro e w3 ⟨q3, m3, cap3, rfl, hm3, hh3, hb3⟩
    dsimp only at hm3 hh3
    subst hm3
    have B3 := Lib.hid (B2.out.trans (hb3.mono B2.out.size))
    have A3 := Lib.hid (A2.out.on hb3)
    have Q3 := Lib.hid (Q2.out.on hb3)
    have P3 := Lib.hid (P2.out.on hb3)
    have R3 := Lib.hid (R2.out.on hb3)
    have S3 := Lib.hid hh3.at'.1
    clear hh3 hb3 U2 A2 Q2 P2 R2
    go_wp2_with fail
    refine (live10 w3).mono ?_
    rintro e w4 ⟨rfl, hb4⟩
    have B4 := Lib.hid (B3.out.trans (hb4.mono B3.out.size))
    have A4 := Lib.hid (A3.out.on hb4)
    have Q4 := Lib.hid (Q3.out.on hb4)
    have P4 := Lib.hid (P3.out.on hb4)
    have R4 := Lib.hid (R3.out.on hb4)
    have HS := Lib.hid (same_any q3 (some q) cap3 d b b hb w4 (S3.out.on hb4) Q4.out)
    clear hb4 A3 Q3 P3 R3 S3
    go_wp2_with fail
    refine HS.out.mono ?_
    rintro e w5 ⟨rfl, k5, hw5⟩
    have C5 : Hid (Below w4.heap.size w4 w5) := by rw [hw5]; exact below_drewN (Below.refl _ _) k5
    have B5 := Lib.hid (B4.out.trans (C5.out.mono B4.out.size))
    have P5 := Lib.hid (P4.out.on C5.out)
    have R5 := Lib.hid (R4.out.on C5.out)
    have HS2 := Lib.hid (same_any p (some q) c d b b hb w5 (A4.out.on C5.out) (Q4.out.on C5.out))
    rw [beq_self_eq_true]
    clear hw5 C5 HS A4 Q4 P4 R4
    go_wp2_with fail
    refine HS2.out.mono ?_
    rintro e w6 ⟨rfl, k6, hw6⟩
    have C6 : Hid (Below w5.heap.size w5 w6) := by rw [hw6]; exact below_drewN (Below.refl _ _) k6
    have B6 := Lib.hid (B5.out.trans (C6.out.mono B5.out.size))
    have HS3 := Lib.hid (same_any q1 q2 cap1 cap2 po po (by omega) w6 (P5.out.on C6.out) (R5.out.on C6.out))
    rw [beq_self_eq_true]
    clear hw6 C6 HS2 P5 R5
    go_wp2_with fail
    refine HS3.out.mono ?_
    rintro e w7 ⟨rfl, k7, hw7⟩
    have B7 : Hid (Below w.heap.size w w7) := by rw [hw7]; exact below_drewN B6.out k7
    rw [beq_self_eq_true]
    clear hw7 HS3
    have k4 : decide ((po.length : Int) ≤ (b.length : Int) + 1) = true := decide_eq_true (by omega)
    go_wp2
    go_ret
    exact ⟨rfl, B7.out⟩
end Go.Proofs.Ytoojflhafmnggaa
