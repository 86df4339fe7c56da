/- StuffBack, over what the laws ask of package stuff. -/
import Derived.Test.YtecophlkbomlmaaStuffC
namespace Go.Proofs.Ytecophlkbomlmaa
open Go.RowKit

theorem stuff_at_ne (l : List UInt8) (i : Nat) (h : i < (Cob.stuff l).length) : (((Cob.stuff l)[i].toNat : Int) == 0) = false := by
  rw [beq_eq_false_iff_ne]
  have h1 := Cob.stuff_nz l _ (List.getElem_mem h)
  intro hc
  exact h1 (UInt8.toNat_inj.1 (by have : (0 : UInt8).toNat = 0 := rfl; omega))

set_option maxRecDepth 100000 in
set_option maxHeartbeats 1000000 in
theorem stuffBack_any {I : World → Prop} (K : StuffOk I) (p q : Option Addr) (c d : Nat) (b s : List UInt8) (hb : b.length ≤ 140737488351232) (hs : s.length ≤ 140737488351232) (hc : b.length ≤ c) (hd : s.length ≤ d) (w : World) (hI : I w) (hp : At w p b) (hq : At w q s) :
    Calls Try.prog 4 #[.slice p b.length c, .slice q s.length d] w fun e w' => e = .returned (.bool true) ∧ Below w.heap.size w w' := by
  have hsl := Cob.stuff_length b
  have HK := Lib.hid K
  have HI := Lib.hid hI
  have A0 := Lib.hid hp
  have Q0 := Lib.hid hq
  clear hI hp hq
  go_enter Try.func4, Try.ntmps4
  go_wp2_with fail
  refine (HK.out.stuff p c b w (by omega) hc A0.out HI.out).mono ?_
  rintro e w1 ⟨g1, o1, cap1, rfl, hF, -, hcap1, h⟩
  have B1 := Lib.hid h
  have A1 := Lib.hid (A0.out.on h)
  have Q1 := Lib.hid (Q0.out.on h)
  have S1 := Lib.hid hF
  clear h hF A0 Q0
  obtain ⟨L, hL⟩ : ∃ L, L = (Cob.stuff b).length := ⟨_, rfl⟩
  have HCell : Hid (∀ i, i < L → ∃ v : Nat, w1.cell? ⟨g1, o1 + i, none⟩ = some (.int .u8 (v : Int)) ∧ ((v : Int) == 0) = false) := by
    intro i hi
    have hi' : i < (Cob.stuff b).length := by omega
    exact ⟨_, S1.out.2.1 i hi', stuff_at_ne b i hi'⟩
  have HLL := Lib.hid hL
  rw [← hL] at hsl hcap1 ⊢
  clear hL
  go_wp2
  go_loop [6] (fun v6 => ∃ i : Nat, i ≤ L ∧ v6 = .int .i64 i) (fun v6 => L - (intOf v6).toNat)
  case atStart => exact ⟨0, by omega, rfl⟩
  case round =>
    obtain ⟨i, hi, rfl⟩ := hrel
    by_cases hlt : i < L
    · obtain ⟨v, hcell, hv0⟩ := HCell.out i hlt
      have hlt1 : (i : Int) < (L : Int) := by omega
      go_wp2
      go_round
      case rel => exact ⟨i + 1, by omega, by go_num⟩
      case measure => simp [intOf]; omega
    · have hii : i = L := by omega
      subst hii
      have hun := HK.out.unstuff (some ⟨g1, o1, none⟩) cap1 (Cob.stuff b) w1 (by rw [← HLL.out]; omega) (by rw [← HLL.out]; omega) S1.out.at (HK.out.on HI.out B1.out)
      rw [Cob.un_stuff, ← HLL.out] at hun
      have HUn := Lib.hid hun
      clear hun HCell hlt hi
      go_wp2_with fail
      refine HUn.out.mono ?_
      rintro e w2 ⟨q2, cap2, rfl, hA2, -, -, h⟩
      have B2 := Lib.hid (B1.out.trans (h.mono B1.out.size))
      have A2 := Lib.hid (A1.out.on h)
      have Q2 := Lib.hid (Q1.out.on h)
      have C2 := Lib.hid hA2
      clear h hA2 A1 Q1 S1 HUn
      have hlen := HK.out.len p c b w2 (by omega) hc A2.out (HK.out.on HI.out B2.out)
      rw [← HLL.out] at hlen
      have HLen := Lib.hid hlen
      have f1 : (b.length : Int) < (i : Int) := by omega
      have f2 : (i : Int) ≤ (b.length : Int) + 1 + (b.length : Int) / 254 := by omega
      clear hlen
      go_wp2_with fail
      refine HLen.out.mono ?_
      rintro e w3 ⟨rfl, h⟩
      have B3 := Lib.hid (B2.out.trans (h.mono B2.out.size))
      have A3 := Lib.hid (A2.out.on h)
      have Q3 := Lib.hid (Q2.out.on h)
      have C3 := Lib.hid (C2.out.on h)
      clear h A2 Q2 C2 HLen
      go_wp2_with fail
      refine (HK.out.unstuff q d s w3 (by omega) hd Q3.out (HK.out.on HI.out B3.out)).mono ?_
      rintro e w4 ⟨q4, cap4, rfl, hA4, hcap4, -, h⟩
      have B4 := Lib.hid (B3.out.trans (h.mono B3.out.size))
      have A4 := Lib.hid (A3.out.on h)
      have Q4 := Lib.hid (Q3.out.on h)
      have C4 := Lib.hid (C3.out.on h)
      have D4 := Lib.hid hA4
      have hul := Cob.un_length s
      clear h hA4 A3 Q3 C3
      by_cases hE : (Cob.un s).1 = 0
      · have HOk := Lib.hid (Cob.un_ok hE)
        rw [hE]
        clear hE
        go_wp2_with fail
        refine (HK.out.stuff q4 cap4 (Cob.un s).2 w4 (by omega) hcap4 D4.out (HK.out.on HI.out B4.out)).mono ?_
        rintro e w5 ⟨g5, o5, cap5, rfl, hF, -, -, h⟩
        have B5 := Lib.hid (B4.out.trans (h.mono B4.out.size))
        have A5 := Lib.hid (A4.out.on h)
        have Q5 := Lib.hid (Q4.out.on h)
        have C5 := Lib.hid (C4.out.on h)
        have U5 := Lib.hid hF.at
        clear h hF A4 Q4 C4 D4
        rw [HOk.out] at U5 ⊢
        generalize (Cob.un s).2 = us
        go_wp2_with fail
        refine (stuffLive_ok HK.out w5 (HK.out.on HI.out B5.out)).mono ?_
        rintro e w6 ⟨rfl, h⟩
        have B6 := Lib.hid (B5.out.trans (h.mono B5.out.size))
        have HS := Lib.hid (same_any q2 p cap2 c b b (by omega) w6 (C5.out.on h) (A5.out.on h))
        have Q6 := Lib.hid (Q5.out.on h)
        have U6 := Lib.hid (U5.out.on h)
        clear h A5 C5 Q5 U5
        go_wp2_with fail
        refine HS.out.mono ?_
        rintro e w7 ⟨rfl, k, hw⟩
        have D7 : Hid (Below w6.heap.size w6 w7) := by rw [hw]; exact below_drewN (Below.refl _ _) k
        have B7 := Lib.hid (B6.out.trans (D7.out.mono B6.out.size))
        have HS2 := Lib.hid (same_any (some ⟨g5, o5, none⟩) q cap5 d s s (by omega) w7 (U6.out.on D7.out) (Q6.out.on D7.out))
        rw [beq_self_eq_true]
        clear hw HS D7 U6 Q6
        go_wp2_with fail
        refine HS2.out.mono ?_
        rintro e w8 ⟨rfl, k8, hw⟩
        have B8 : Hid (Below w.heap.size w w8) := by rw [hw]; exact below_drewN B7.out k8
        rw [beq_self_eq_true]
        clear hw HS2
        go_wp2
        go_ret
        exact ⟨rfl, B8.out⟩
      · rw [Cob.un_bad hE]
        have hE1 : (((Cob.un s).1 : Int) != 0) = true := by rw [bne_iff_ne]; omega
        clear hE hul hcap4 D4
        generalize (Cob.un s).1 = E at hE1 ⊢
        go_wp2_with fail
        refine (stuffLive_ok HK.out w4 (HK.out.on HI.out B4.out)).mono ?_
        rintro e w6 ⟨rfl, h⟩
        have B6 := Lib.hid (B4.out.trans (h.mono B4.out.size))
        have HS := Lib.hid (same_any q2 p cap2 c b b (by omega) w6 (C4.out.on h) (A4.out.on h))
        clear h A4 C4 Q4
        go_wp2_with fail
        refine HS.out.mono ?_
        rintro e w7 ⟨rfl, k, hw⟩
        have B7 : Hid (Below w.heap.size w w7) := by rw [hw]; exact below_drewN B6.out k
        rw [beq_self_eq_true]
        clear hw HS
        go_wp2
        go_ret
        exact ⟨rfl, B7.out⟩
end Go.Proofs.Ytecophlkbomlmaa
