/- StuffMakes, StuffTakes, StuffUnlike, over what the laws ask of package stuff. -/
import Derived.Test.YtecophlkbomlmaaStuffC
namespace Go.Proofs.Ytecophlkbomlmaa
open Go.RowKit

set_option maxHeartbeats 1000000 in
theorem stuffMakes_any {I : World → Prop} (K : StuffOk I) (p : Option Addr) (c : Nat) (l : List UInt8) (hl : l.length ≤ 140737488351232) (hc : l.length ≤ c) (w : World) (hI : I w) (h : At w p l) :
    Calls Try.prog 3 #[.slice p l.length c] w fun e w' => e = .returned (.bool true) ∧ Below w.heap.size w w' := by
  obtain ⟨q, d, W, hrun, hW, _, hd, hB⟩ := copy_run p c l w (by omega) h
  have hsl := Cob.stuff_length l
  have HK := Lib.hid K
  have HI := Lib.hid hI
  have A0 := Lib.hid (h.on hB)
  have Q0 := Lib.hid hW
  have B0 := Lib.hid hB
  have HR := Lib.hid (AppRun.mk hrun)
  clear hI h hW hB hrun hd
  go_enter Try.func3, Try.ntmps3
  go_wp2_with (first | (at_builtin; refine wpList_append_ran HR.out rfl rfl rfl rfl ?_))
  refine (HK.out.stuff p c l W (by omega) hc A0.out (HK.out.on HI.out B0.out)).mono ?_
  rintro e w1 ⟨g1, o1, cap1, rfl, hF, -, -, hb⟩
  have B1 := Lib.hid (B0.out.trans (hb.mono B0.out.size))
  have A1 := Lib.hid (A0.out.on hb)
  have Q1 := Lib.hid (Q0.out.on hb)
  have S1 := Lib.hid hF.at
  clear hb hF A0 Q0
  go_wp2_with fail
  refine (HK.out.len p c l w1 (by omega) hc A1.out (HK.out.on HI.out B1.out)).mono ?_
  rintro e w2 ⟨rfl, hb⟩
  have B2 := Lib.hid (B1.out.trans (hb.mono B1.out.size))
  have A2 := Lib.hid (A1.out.on hb)
  have Q2 := Lib.hid (Q1.out.on hb)
  have S2 := Lib.hid (S1.out.on hb)
  clear hb A1 Q1 S1
  go_wp2_with fail
  refine (refStuff_any (some q) d l (by omega) w2 Q2.out).mono ?_
  rintro e w3 ⟨g3, cap3, rfl, hM, hb⟩
  have B3 := Lib.hid (B2.out.trans (hb.mono B2.out.size))
  have A3 := Lib.hid (A2.out.on hb)
  have Q3 := Lib.hid (Q2.out.on hb)
  have S3 := Lib.hid (S2.out.on hb)
  have T3 := Lib.hid hM.at
  clear hb hM A2 Q2 S2
  go_wp2_with fail
  refine (stuffLive_ok HK.out w3 (HK.out.on HI.out B3.out)).mono ?_
  rintro e w4 ⟨rfl, hb⟩
  have B4 := Lib.hid (B3.out.trans (hb.mono B3.out.size))
  have A4 := Lib.hid (A3.out.on hb)
  have Q4 := Lib.hid (Q3.out.on hb)
  have HS := Lib.hid (same_any (some ⟨g1, o1, none⟩) (some ⟨g3, 0, none⟩) cap1 cap3 (Cob.stuff l) (Cob.stuff l) (by omega) w4 (S3.out.on hb) (T3.out.on hb))
  clear hb A3 Q3 S3 T3
  go_wp2_with fail
  refine HS.out.mono ?_
  rintro e w5 ⟨rfl, k, hw⟩
  have C5 : Hid (Below w4.heap.size w4 w5) := by rw [hw]; exact below_drewN (Below.refl _ _) k
  have B5 := Lib.hid (B4.out.trans (C5.out.mono B4.out.size))
  have HS2 := Lib.hid (same_any p (some q) c d l l (by omega) w5 (A4.out.on C5.out) (Q4.out.on C5.out))
  rw [beq_self_eq_true]
  clear hw HS C5 A4 Q4
  generalize (Cob.stuff l).length = L at hsl ⊢
  go_wp2_with fail
  refine HS2.out.mono ?_
  rintro e w6 ⟨rfl, k6, hw⟩
  have B6 : Hid (Below w.heap.size w w6) := by rw [hw]; exact below_drewN B5.out k6
  rw [beq_self_eq_true]
  clear hw HS2
  go_wp2
  go_ret
  exact ⟨rfl, B6.out⟩

theorem stuff_beq (a b : List UInt8) : (Cob.stuff a == Cob.stuff b) = (a == b) := by
  rw [Bool.eq_iff_iff, beq_iff_eq, beq_iff_eq]
  exact ⟨Cob.stuff_inj, fun h => by rw [h]⟩

set_option maxHeartbeats 1000000 in
theorem stuffUnlike_any {I : World → Prop} (K : StuffOk I) (p q : Option Addr) (c d : Nat) (a b : List UInt8) (ha : a.length ≤ 140737488351232) (hb : b.length ≤ 140737488351232) (hc : a.length ≤ c) (hd : b.length ≤ d) (w : World) (hI : I w) (hp : At w p a) (hq : At w q b) :
    Calls Try.prog 5 #[.slice p a.length c, .slice q b.length d] w fun e w' => e = .returned (.bool true) ∧ Below w.heap.size w w' := by
  have hsa := Cob.stuff_length a
  have HK := Lib.hid K
  have HI := Lib.hid hI
  have A0 := Lib.hid hp
  have Q0 := Lib.hid hq
  clear hI hp hq
  go_enter Try.func5, Try.ntmps5
  go_wp2_with fail
  refine (HK.out.stuff p c a w (by omega) hc A0.out HI.out).mono ?_
  rintro e w1 ⟨g1, o1, cap1, rfl, hF, -, -, h⟩
  have B1 := Lib.hid h
  have A1 := Lib.hid (A0.out.on h)
  have Q1 := Lib.hid (Q0.out.on h)
  have S1 := Lib.hid hF.at
  clear h hF A0 Q0
  go_wp2_with fail
  refine (HK.out.stuff q d b w1 (by omega) hd Q1.out (HK.out.on HI.out B1.out)).mono ?_
  rintro e w2 ⟨g2, o2, cap2, rfl, hF, -, -, h⟩
  have B2 := Lib.hid (B1.out.trans (h.mono B1.out.size))
  have A2 := Lib.hid (A1.out.on h)
  have Q2 := Lib.hid (Q1.out.on h)
  have S2 := Lib.hid (S1.out.on h)
  have T2 := Lib.hid hF.at
  clear h hF A1 Q1 S1
  go_wp2_with fail
  refine (stuffLive_ok HK.out w2 (HK.out.on HI.out B2.out)).mono ?_
  rintro e w3 ⟨rfl, h⟩
  have B3 := Lib.hid (B2.out.trans (h.mono B2.out.size))
  have A3 := Lib.hid (A2.out.on h)
  have Q3 := Lib.hid (Q2.out.on h)
  have HS := Lib.hid (same_any (some ⟨g1, o1, none⟩) (some ⟨g2, o2, none⟩) cap1 cap2 (Cob.stuff a) (Cob.stuff b) (by omega) w3 (S2.out.on h) (T2.out.on h))
  clear h A2 Q2 S2 T2
  go_wp2_with fail
  refine HS.out.mono ?_
  rintro e w4 ⟨rfl, k, hw⟩
  have C4 : Hid (Below w3.heap.size w3 w4) := by rw [hw]; exact below_drewN (Below.refl _ _) k
  have B4 := Lib.hid (B3.out.trans (C4.out.mono B3.out.size))
  have HS2 := Lib.hid (same_any p q c d a b (by omega) w4 (A3.out.on C4.out) (Q3.out.on C4.out))
  rw [stuff_beq]
  clear hw HS C4 A3 Q3
  go_wp2_with fail
  refine HS2.out.mono ?_
  rintro e w5 ⟨rfl, k5, hw⟩
  have B5 : Hid (Below w.heap.size w w5) := by rw [hw]; exact below_drewN B4.out k5
  clear hw HS2
  generalize (a == b) = t
  go_wp2
  go_ret
  exact ⟨rfl, B5.out⟩
end Go.Proofs.Ytecophlkbomlmaa
