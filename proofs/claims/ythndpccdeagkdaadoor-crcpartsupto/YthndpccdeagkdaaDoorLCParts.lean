/- CrcParts, walked: the three lists together within a slice's reach. -/
import Derived.Test.YthndpccdeagkdaaDoorWLiveC
import Derived.Test.YthndpccdeagkdaaDoorOnto
namespace Go.Proofs.YthndpccdeagkdaaDoor
open Go.RowKit

set_option maxHeartbeats 400000 in
theorem crcParts_any (p q r : Option Addr) (cp cq cr : Nat) (a b c : List UInt8) (hl : a.length + b.length + c.length ≤ 140737488351232) (w : World) (ht : Hv w) (ha : At w p a) (hb : At w q b) (hc : At w r c) :
    Calls Tryd.prog 6 #[.slice p a.length cp, .slice q b.length cq, .slice r c.length cr] w fun e w' => e = .returned (.bool true) ∧ Below w.heap.size w w' := by
  have hB0 : Below w.heap.size w (w.alloc (.cells #[] 5)) := (Below.refl _ _).alloc (Nat.le_refl _) _
  obtain ⟨g1, c1, W1, hr1, hm1, hB1⟩ := onto_run w.heap.size w.heap.size 0 [] a p cp _ (mine_new w) (ha.on hB0) (by simp; omega) hB0.size
  have hB01 := hB0.trans hB1
  obtain ⟨g2, c2, W2, hr2, hm2, hB2⟩ := onto_run w.heap.size g1 c1 _ b q cq W1 hm1 (hb.on hB01) (by simp; omega) hB01.size
  have hB02 := hB01.trans hB2
  obtain ⟨g3, c3, W3, hr3, hm3, hB3⟩ := onto_run w.heap.size g2 c2 _ c r cr W2 hm2 (hc.on hB02) (by simp; omega) hB02.size
  have hB03 := hB02.trans hB3
  rw [List.nil_append] at hr1 hr2 hr3 hm3
  obtain ⟨all, hall⟩ : ∃ all, all = a ++ b ++ c := ⟨_, rfl⟩
  rw [← hall] at hr3 hm3
  rw [List.length_append] at hr2 hr3
  have HR1 := Lib.hid (AppRun.mk hr1)
  have HR2 := Lib.hid (AppRun.mk hr2)
  have HR3 := Lib.hid (AppRun.mk hr3)
  have HM := Lib.hid hm3.at
  have HB := Lib.hid hB03
  have HT3 := Lib.hid (ht.on hB03)
  have HAa := Lib.hid (ha.on hB03)
  have HAb := Lib.hid (hb.on hB03)
  have HAc := Lib.hid (hc.on hB03)
  have hal : a.length ≤ 140737488351232 := by omega
  have hbl : b.length ≤ 140737488351232 := by omega
  have hcl : c.length ≤ 140737488351232 := by omega
  have hll : all.length ≤ 140737488351232 := by rw [hall]; simp; omega
  have hs1lt : Crc.sum a < 4294967296 := Crc.update_lt (by omega) a
  have hs2lt : Crc.update (Crc.sum a) b < 4294967296 := Crc.update_lt hs1lt b
  have HE : Hid (Crc.update (Crc.update (Crc.sum a) b) c = Crc.sum all) := by
    show _ = _
    rw [hall]
    unfold Crc.sum
    rw [Crc.update_append, Crc.update_append]
  clear hr1 hr2 hr3 hm1 hm2 hm3 hB0 hB01 hB02 hB03 hB1 hB2 hB3 ht ha hb hc hall hl
  have HC1 := Lib.hid (sum_any p cp a hal W3 HT3.out HAa.out)
  have HC2 := Lib.hid (update_any (Crc.sum a) hs1lt q cq b hbl W3 HT3.out HAb.out)
  have HL := Lib.hid (live_any W3 HT3.out)
  go_enter Tryd.func6, Tryd.ntmps6
  go_wp2_with (first
    | (at_builtin; refine wpList_append_ran HR1.out rfl rfl rfl rfl ?_)
    | (at_builtin; refine wpList_append_ran HR2.out rfl rfl rfl rfl ?_)
    | (at_builtin; refine wpList_append_ran HR3.out rfl rfl rfl rfl ?_))
  refine HC1.out.mono ?_
  rintro e w' ⟨rfl, hw⟩
  rw [hw]
  clear hw w'
  go_wp2_with fail
  refine HC2.out.mono ?_
  rintro e w' ⟨rfl, hw⟩
  rw [hw]
  clear hw w'
  go_wp2_with fail
  refine HL.out.mono ?_
  rintro e w1 ⟨rfl, hb⟩
  have HB1 := Lib.hid hb
  clear hb HL HC1 HC2
  have HT1 := Lib.hid (HT3.out.on HB1.out)
  have HM1 := Lib.hid (HM.out.on HB1.out)
  have HX1 := Lib.hid (update_any _ hs2lt r cr c hcl w1 HT1.out (HAc.out.on HB1.out))
  have HX2 := Lib.hid (sum_any (some ⟨g3, 0, none⟩) c3 all hll w1 HT1.out HM1.out)
  have HX3 := Lib.hid (slow_any (some ⟨g3, 0, none⟩) c3 all hll w1 HM1.out)
  have HX4 := Lib.hid (update_none _ hs2lt none 0 w1)
  rw [HE.out] at HX1
  clear HE
  generalize Crc.sum all = sa at HX1 HX2 HX3
  generalize Crc.update (Crc.sum a) b = s2 at HX1 HX4 hs2lt ⊢
  generalize Crc.sum a = s1 at hs1lt ⊢
  go_wp2_with fail
  refine HX1.out.mono ?_
  rintro e w' ⟨rfl, hw⟩
  rw [hw]
  clear hw w'
  go_wp2_with fail
  refine HX2.out.mono ?_
  rintro e w' ⟨rfl, hw⟩
  rw [hw]
  clear hw w'
  go_wp2_with fail
  refine HX3.out.mono ?_
  rintro e w' ⟨rfl, hw⟩
  rw [hw]
  clear hw w'
  go_wp2_with fail
  refine HX2.out.mono ?_
  rintro e w' ⟨rfl, hw⟩
  rw [hw]
  clear hw w'
  go_wp2_with fail
  refine HX4.out.mono ?_
  rintro e w' ⟨rfl, hw⟩
  rw [hw]
  clear hw w'
  go_wp2
  go_ret
  exact ⟨rfl, HB.out.trans (HB1.out.mono HB.out.size)⟩
end Go.Proofs.YthndpccdeagkdaaDoor
