/- RowChecks, RowEncodes over what the laws ask of package row. -/
import Derived.Test.YtphmmmgdpbokkaaZLRValues
import Derived.Test.YtphmmmgdpbokkaaM25
namespace Go.Proofs.Ytphmmmgdpbokkaa
open Go.RowKit

attribute [local go_sem] run_store_float

theorem RLies.copied {w : World} {q : Option Addr} {c : Nat} {vs : List V} (h : RLies w q c vs) : Calls Try.prog 11 #[.agg #[.int .i64 0, .int .i64 0, .float .f64 0, .string ⟨#[]⟩, .slice q vs.length c]] w fun e w' => ∃ q' c', e = .returned (.agg #[.int .i64 0, .int .i64 0, .float .f64 0, .string ⟨#[]⟩, .slice q' vs.length c']) ∧ RLies w' q' c' vs ∧ Below w.heap.size w w' := by
  refine (copied6 _ w _ h.1).mono ?_
  rintro e w' ⟨u', rfl, hv, hb⟩
  have hv' := hv.lies
  obtain ⟨q', c', rfl, -⟩ := hv'.open
  exact ⟨q', c', rfl, ⟨hv', h.2⟩, hb⟩

set_option maxRecDepth 100000 in
set_option maxHeartbeats 2000000 in
theorem rowChecks_any {I : World → Prop} (K : RowsOk I) (s : List Col) (p : Option Addr) (cp : Nat) (vs : List V) (q : Option Addr) (cq : Nat) (w : World) (hs : SchL w p cp s) (hr : RLies w q cq vs) (hI : I w) :
    Calls Try.prog 4 #[.agg #[.slice p s.length cp], .agg #[.slice q vs.length cq]] w fun e w' => e = .returned (.bool true) ∧ Below w.heap.size w w' := by
  obtain ⟨W0, hW0⟩ : ∃ W0, W0 = (w.alloc (.cells #[.slice p s.length cp] 39)).alloc (.cells #[.slice q vs.length cq] 41) := ⟨_, rfl⟩
  have HB0 : Hid (Below w.heap.size w W0) := by rw [hW0]; exact ((Below.refl _ _).alloc (Nat.le_refl _) _).alloc (by simp) _
  have HY : Hid (W0.cell? ⟨w.heap.size, 0, none⟩ = some (.slice p s.length cp) ∧ W0.cell? ⟨w.heap.size + 1, 0, none⟩ = some (.slice q vs.length cq)) := by rw [hW0]; exact ⟨by simp, by simp⟩
  have HW0 := Lib.hid hW0
  have HCp := Lib.hid (hr.on HB0.out).copied
  have HR := Lib.hid (fun w' (hb : Below w.heap.size w w') => hr.on hb)
  have HE1 := fun w' (hb : Below w.heap.size w w') => K.check s p cp vs q cq w' (hs.on hb) (hr.on hb) (K.on hI hb)
  have HE2 := fun w' q' c' (hb : Below w.heap.size w w') (h : RLies w' q' c' vs) => refCheck8 s p cp vs q' c' w' hs.len hs.cap (hs.cols.on hb) hs.wf h.items.2.2 h.2 h.items.1
  obtain ⟨r, hre⟩ : ∃ r, r = Rw.err s vs := ⟨_, rfl⟩
  simp only [← hre] at HE1 HE2
  replace HE1 := Lib.hid HE1
  replace HE2 := Lib.hid HE2
  have HLv := Lib.hid (fun w' (hb : Below w.heap.size w w') => rowLive_ok K w' (K.on hI hb))
  clear hW0 hs hr hI K hre
  go_enter Try.func4, Try.ntmps4
  go_wp2_with fail
  rw [← HW0.out]
  clear HW0
  refine HCp.out.mono ?_
  rintro e w1 ⟨q1, c1, rfl, hr1, hb1⟩
  have HB1 := Lib.hid (HB0.out.trans (hb1.mono HB0.out.size))
  have HR1 := Lib.hid hr1
  have HY1 : Hid (w1.cell? ⟨w.heap.size, 0, none⟩ = some (.slice p s.length cp) ∧ w1.cell? ⟨w.heap.size + 1, 0, none⟩ = some (.slice q vs.length cq)) := ⟨cell_on hb1 HY.out.1, cell_on hb1 HY.out.2⟩
  clear hr1 hb1 HCp HY
  obtain ⟨wa, hwa⟩ : ∃ wa, wa = w1.alloc (.cells #[.int .i64 0, .int .i64 0, .float .f64 0, .string ⟨#[]⟩, .slice q1 vs.length c1] 33) := ⟨_, rfl⟩
  have hba : Below w1.heap.size w1 wa := by rw [hwa]; exact (Below.refl _ _).alloc (Nat.le_refl _) _
  have HYa : Hid (wa.cell? ⟨w1.heap.size, 0, none⟩ = some (.int .i64 0) ∧ wa.cell? ⟨w1.heap.size, 1, none⟩ = some (.int .i64 0) ∧ wa.cell? ⟨w1.heap.size, 2, none⟩ = some (.float .f64 0) ∧ wa.cell? ⟨w1.heap.size, 3, none⟩ = some (.string ⟨#[]⟩) ∧ wa.cell? ⟨w1.heap.size, 4, none⟩ = some (.slice q1 vs.length c1)) := by rw [hwa]; exact ⟨by simp, by simp, by simp, by simp, by simp⟩
  have HBa := Lib.hid (HB1.out.trans (hba.mono HB1.out.size))
  have HRa := Lib.hid (HR1.out.on hba)
  have HY2 : Hid (wa.cell? ⟨w.heap.size, 0, none⟩ = some (.slice p s.length cp) ∧ wa.cell? ⟨w.heap.size + 1, 0, none⟩ = some (.slice q vs.length cq)) := ⟨cell_on hba HY1.out.1, cell_on hba HY1.out.2⟩
  have HWa := Lib.hid hwa
  have d5 := HY2.out.1
  have d6 := HY2.out.2
  rw [hwa] at d5 d6
  clear hwa hba HY1 HR1
  go_wp2_with fail
  rw [← HWa.out]
  refine (HE1.out wa HBa.out).mono ?_
  rintro e w2 ⟨rfl, hb2⟩
  have HBa2 := Lib.hid hb2
  have HB2 := Lib.hid (HBa.out.trans (hb2.mono HBa.out.size))
  have HR2 := Lib.hid (HRa.out.on hb2)
  have d1 := cell_on hb2 HY2.out.1
  have d4 := cell_on hb2 HYa.out.2.2.2.2
  clear hb2 HE1 d5 d6 HWa
  go_wp2_with fail
  refine (HE2.out w2 q1 c1 HB2.out HR2.out).mono ?_
  rintro e w3 ⟨rfl, hb3⟩
  have HBa3 := Lib.hid (HBa2.out.trans (hb3.mono HBa2.out.size))
  have HB3 := Lib.hid (HB2.out.trans (hb3.mono HB2.out.size))
  clear hb3 HE2 d1 d4 HBa2 HR2
  go_wp2_with fail
  refine (HLv.out w3 HB3.out).mono ?_
  rintro e w4 ⟨rfl, hb4⟩
  have HBa4 := Lib.hid (HBa3.out.trans (hb4.mono HBa3.out.size))
  have HB4 := Lib.hid (HB3.out.trans (hb4.mono HB3.out.size))
  have HB5 := HB4
  have HBa5 := HBa4
  obtain ⟨w5, hw5⟩ : ∃ w5, w5 = w4 := ⟨_, rfl⟩
  rw [← hw5] at HB5 HBa5 ⊢
  clear hb4 HLv HBa3 HB4 HBa4 hw5
  obtain ⟨x0, x1, x2, x3, x4⟩ := HYa.out
  have e0 := cell_on HBa5.out x0
  have e1 := cell_on HBa5.out x1
  have e2 := cell_on HBa5.out x2
  have e3 := cell_on HBa5.out x3
  have e4 := cell_on HBa5.out x4
  have e6 := cell_on HBa5.out HY2.out.2
  have HEx := exact6 _ _ w5 _ _ (HR.out w5 HB5.out).1 (HRa.out.on HBa5.out).1
  rw [(V.exact_iff _ _).2 rfl] at HEx
  unfold cells5 at HEx
  replace HEx := Lib.hid HEx
  clear x0 x1 x2 x3 x4 HYa HY2
  go_wp2_with fail
  refine HEx.out.mono ?_
  rintro e w6 ⟨rfl, hb6⟩
  have HB6 := Lib.hid (HB5.out.trans (hb6.mono HB5.out.size))
  clear hb6
  go_wp2
  go_ret
  exact ⟨rfl, HB6.out⟩

end Go.Proofs.Ytphmmmgdpbokkaa
