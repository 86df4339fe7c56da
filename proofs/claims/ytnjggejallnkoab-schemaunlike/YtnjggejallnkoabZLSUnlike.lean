/- SchemaUnlike over what the laws ask of package schema. -/
import Derived.Test.YtnjggejallnkoabM24
namespace Go.Proofs.Ytnjggejallnkoab
open Go.RowKit

set_option maxRecDepth 100000 in
set_option maxHeartbeats 2000000 in
theorem schemaUnlike_any {I : World → Prop} (K : SchemaOk I) (s t : List Col) (p q : Option Addr) (c d : Nat) (w : World) (hs : s.length * 120 ≤ 140737488351232) (ht : t.length * 120 ≤ 140737488351232) (hsc : s.length ≤ c) (htd : t.length ≤ d) (hx : Cols w p s) (hy : Cols w q t) (ws : ∀ x ∈ s, x.wf) (wt : ∀ x ∈ t, x.wf) (hI : I w) :
    Calls Try.prog 6 #[.agg #[.slice p s.length c], .agg #[.slice q t.length d]] w fun e w' => e = .returned (.bool true) ∧ Below w.heap.size w w' := by
  have HK := Lib.hid K
  have HI := Lib.hid hI
  have HX := Lib.hid hx
  have HY := Lib.hid hy
  have HWs := Lib.hid ws
  have HWt := Lib.hid wt
  obtain ⟨W0, hW0⟩ : ∃ W0, W0 = (w.alloc (.cells #[.slice p s.length c] 24)).alloc (.cells #[.slice q t.length d] 24) := ⟨_, rfl⟩
  have HB0 : Hid (Below w.heap.size w W0) := by rw [hW0]; exact ((Below.refl _ _).alloc (Nat.le_refl _) _).alloc (by simp) _
  have HY0 : Hid (W0.cell? ⟨w.heap.size, 0, none⟩ = some (.slice p s.length c) ∧ W0.cell? ⟨w.heap.size + 1, 0, none⟩ = some (.slice q t.length d)) := by rw [hW0]; exact ⟨by simp, by simp⟩
  have HW0 := Lib.hid hW0
  have HUn := Lib.hid (fun h1 h2 => Sch.unlike (s := s) (t := t) h1 h2 ws wt)
  have HLs := Lib.hid (fun h => (Sch.err_open (s := s) h).2.2.2)
  clear hW0 hx hy ws wt hI K
  have HE1 := Lib.hid (HK.out.encode s p c W0 hs hsc (HX.out.on HB0.out) HWs.out (HK.out.on HI.out HB0.out))
  have HE2 := Lib.hid (fun w' (hb : Below w.heap.size w w') => HK.out.encode t q d w' ht htd (HY.out.on hb) HWt.out (HK.out.on HI.out hb))
  have HSm := Lib.hid (fun w' (hb : Below w.heap.size w w') => HK.out.same s t p q c d w' hs ht hsc htd (HX.out.on hb) (HY.out.on hb) HWs.out HWt.out (HK.out.on HI.out hb))
  obtain ⟨es, hes⟩ : ∃ es, es = Sch.err s := ⟨_, rfl⟩
  obtain ⟨et, het⟩ : ∃ et, et = Sch.err t := ⟨_, rfl⟩
  rw [← hes] at HE1 HUn HLs
  rw [← het] at HE2 HUn
  obtain ⟨ls, hls⟩ : ∃ ls, ls = if es = 0 then Sch.bytes s else [] := ⟨_, rfl⟩
  obtain ⟨lt, hlt⟩ : ∃ lt, lt = if et = 0 then Sch.bytes t else [] := ⟨_, rfl⟩
  rw [← hls] at HE1
  rw [← hlt] at HE2
  have HLS := Lib.hid hls
  have HLT := Lib.hid hlt
  clear hes het hls hlt
  go_enter Try.func6, Try.ntmps6
  go_wp2_with fail
  rw [← HW0.out]
  clear HW0
  refine HE1.out.mono ?_
  rintro e w1 ⟨q1, cap1, rfl, hat1, hn1, hb1⟩
  have HB1 := Lib.hid (HB0.out.trans (hb1.mono HB0.out.size))
  have y1 := cell_on hb1 HY0.out.1
  have y2 := cell_on hb1 HY0.out.2
  have HAt1 := Lib.hid hat1
  have HC1 : Hid (w1.cell? ⟨w.heap.size, 0, none⟩ = some (.slice p s.length c) ∧ w1.cell? ⟨w.heap.size + 1, 0, none⟩ = some (.slice q t.length d)) := ⟨y1, y2⟩
  clear hb1 hat1 hn1 HE1
  go_wp2_with fail
  refine (HE2.out w1 HB1.out).mono ?_
  rintro e w2 ⟨q2, cap2, rfl, hat2, hn2, hb2⟩
  have HB2 := Lib.hid (HB1.out.trans (hb2.mono HB1.out.size))
  have HAt2 := Lib.hid (And.intro (HAt1.out.on hb2) hat2)
  have HC2 : Hid (w2.cell? ⟨w.heap.size, 0, none⟩ = some (.slice p s.length c) ∧ w2.cell? ⟨w.heap.size + 1, 0, none⟩ = some (.slice q t.length d)) := ⟨cell_on hb2 y1, cell_on hb2 y2⟩
  clear hb2 hat2 hn2 HE2 y1 y2
  have HLv := Lib.hid (fun w' (hb : Below w.heap.size w w') => schemaLive_ok HK.out w' (HK.out.on HI.out hb))
  by_cases h1 : ¬ es = 0
  · have g1 : ((es : Int) != 0) = true := by rw [bne_iff_ne]; omega
    clear h1
    go_wp2_with fail
    refine (HLv.out w2 HB2.out).mono ?_
    rintro e w3 ⟨rfl, hb3⟩
    have HB3 := Lib.hid (HB2.out.trans (hb3.mono HB2.out.size))
    clear hb3
    go_wp2
    go_ret
    exact ⟨rfl, HB3.out⟩
  replace h1 : es = 0 := Classical.not_not.1 h1
  have g1 : ((es : Int) != 0) = false := by rw [h1]; rfl
  by_cases h2 : ¬ et = 0
  · have g2 : ((et : Int) != 0) = true := by rw [bne_iff_ne]; omega
    clear h1 h2
    go_wp2_with fail
    refine (HLv.out w2 HB2.out).mono ?_
    rintro e w3 ⟨rfl, hb3⟩
    have HB3 := Lib.hid (HB2.out.trans (hb3.mono HB2.out.size))
    clear hb3
    go_wp2
    go_ret
    exact ⟨rfl, HB3.out⟩
  replace h2 : et = 0 := Classical.not_not.1 h2
  have g2 : ((et : Int) != 0) = false := by rw [h2]; rfl
  have hlen : ls.length ≤ 1024 := by rw [HLS.out, if_pos h1]; exact HLs.out h1
  have HEq : Hid ((ls == lt) = Sch.same s t) := by
    show _ = _
    have h := HUn.out h1 h2
    rw [HLS.out, HLT.out, if_pos h1, if_pos h2]
    rw [Bool.eq_iff_iff, beq_iff_eq]
    exact h
  obtain ⟨r, hr⟩ : ∃ r, r = Sch.same s t := ⟨_, rfl⟩
  rw [← hr] at HSm HEq
  clear h1 h2 HUn HLs hr
  obtain ⟨G, hG⟩ : ∃ G : World → Prop, G = fun w' => Below w2.heap.size w2 w' := ⟨_, rfl⟩
  have hG0 : G w2 := by rw [hG]; exact Below.refl _ _
  have hGs : ∀ w' w'', G w' → Below w'.heap.size w' w'' → G w'' := fun w' w'' h1 h2 => by rw [hG] at h1 ⊢; exact h1.trans (h2.mono h1.size)
  have hGd : ∀ w', G w' → G w'.drew := fun w' h1 => by rw [hG] at h1 ⊢; exact h1.drew
  have hGn : ∀ w' n, G w' → G (w'.drewN n) := fun w' n h1 => by rw [hG] at h1 ⊢; exact below_drewN h1 n
  have HFin : Hid (∀ w', G w' → Below w.heap.size w w') := fun w' h => by rw [hG] at h; exact HB2.out.trans (h.mono HB2.out.size)
  have HCell : Hid (∀ w', G w' → w'.cell? ⟨w.heap.size, 0, none⟩ = some (.slice p s.length c) ∧ w'.cell? ⟨w.heap.size + 1, 0, none⟩ = some (.slice q t.length d)) := fun w' h => by
    rw [hG] at h; exact ⟨cell_on h HC2.out.1, cell_on h HC2.out.2⟩
  have HLive : Hid (∀ w', G w' → Calls Try.prog 10 #[] w' fun e w'' => e = .returned (.bool true) ∧ G w'') := fun w' h => by
    refine (HLv.out w' (HFin.out w' h)).mono ?_
    rintro e w'' ⟨rfl, h3⟩
    exact ⟨rfl, hGs _ _ h h3⟩
  have HSame : Hid (∀ w', G w' → Calls Try.prog 11 #[.slice q1 ls.length cap1, .slice q2 lt.length cap2] w' fun e w'' => e = .returned (.bool r) ∧ G w'') := fun w' h => by
    have h' := h
    rw [hG] at h'
    refine (same_any q1 q2 cap1 cap2 ls lt (Nat.le_trans hlen (by decide)) w' (HAt2.out.1.on h') (HAt2.out.2.on h')).mono ?_
    rintro e w'' ⟨rfl, n, rfl⟩
    exact ⟨by rw [HEq.out], hGn _ n h⟩
  have HSm' : Hid (∀ w', G w' → Calls Try.prog 17 #[.agg #[.slice p s.length c], .agg #[.slice q t.length d]] w' fun e w'' => e = .returned (.bool r) ∧ G w'') := fun w' h => by
    refine (HSm.out w' (HFin.out w' h)).mono ?_
    rintro e w'' ⟨rfl, h3⟩
    exact ⟨rfl, hGs _ _ h h3⟩
  have hc2 := HCell.out w2 hG0
  obtain ⟨hca, hcb⟩ := hc2
  clear hG hGs hGn HLv HSm HEq HAt2 HAt1 HC1 HC2 HB1 HB2 hlen
  go_wp2_with fail
  go_region_held3 (fun w' => w'.cell? ⟨w.heap.size, 0, none⟩ = some (.slice p s.length c) ∧ w'.cell? ⟨w.heap.size + 1, 0, none⟩ = some (.slice q t.length d) ∧ G w') (first | go_keep | exact ⟨by assumption, by assumption, by assumption⟩ | (refine ⟨?_, ?_, ?_⟩ <;> first | assumption | (simp; assumption) | exact hGd _ (by assumption))) (first
    | (go_at_call 10; refine (HLive.out _ (by first | assumption | exact hGd _ (by assumption))).mono ?_; rintro e wq ⟨rfl, hGq⟩; obtain ⟨hcq, hcr⟩ := HCell.out _ hGq)
    | (go_at_call 11; refine (HSame.out _ (by first | assumption | exact hGd _ (by assumption))).mono ?_; rintro e wq ⟨rfl, hGq⟩; obtain ⟨hcq, hcr⟩ := HCell.out _ hGq)
    | (go_at_call 17; refine (HSm'.out _ (by first | assumption | exact hGd _ (by assumption))).mono ?_; rintro e wq ⟨rfl, hGq⟩; obtain ⟨hcq, hcr⟩ := HCell.out _ hGq)
    | fail)
  go_wp2
  go_ret
  exact ⟨by simp, HFin.out _ hGq⟩
end Go.Proofs.Ytnjggejallnkoab
