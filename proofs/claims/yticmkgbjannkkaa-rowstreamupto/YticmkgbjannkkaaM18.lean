/- WLive8, Row7: put together. -/
import Derived.Test.YticmkgbjannkkaaM17
import Derived.Deep.Slices
import Derived.Lib.SmallJoins

/- The law's own live(). -/
namespace Go.Proofs.Yticmkgbjannkkaa
open Go.RowKit

attribute [local go_sem] run_store_float

theorem bool_enc : Rw.encErr (.mk 1 []) (.mk 1 1 0 ⟨#[]⟩ []) = 0 := by
  have h := Rw.vErr_make (t := .mk 1 []) (v := .mk 1 1 0 ⟨#[]⟩ []) (Sch.ty_leaf (by omega) (by omega) (by omega)) (Sch.chk_make (by omega) (by kernel_rfl) (Nat.zero_le _) (by simp) (fun h => by cases h) (fun x hx => by cases hx)) (by rw [Sch.of_mk]; rfl)
  unfold Rw.encErr
  rw [if_neg (by rw [(Rw.vErr_zero h).1]; simp), h]
theorem bool_bytes : Rw.encB (.mk 1 []) (.mk 1 1 0 ⟨#[]⟩ []) = [1] := by
  unfold Rw.encB
  rw [if_pos bool_enc]
  simp only [Sch.vB_mk]
  kernel_rfl
theorem hi_out : Rw.out pairS hiR = [128, 1, 1, 2, 104, 105] := by
  unfold Rw.out
  rw [if_pos hi_err, hi_bytes]
theorem hi_exact : Rw.exact hiR hiR = true := (V.exact_iff _ _).2 rfl
/-- the example's row lies, two values in one block, the text in another -/
theorem hi_lies {w : World} {g h : Nat} (hg : w.heap[g]? = some (.cells #[.int .i64 2, .int .i64 64, .float .f64 0, .string ⟨#[]⟩, .slice none 0 0, .int .i64 6, .int .i64 0, .float .f64 0, .string ⟨#[]⟩, .slice (some ⟨h, 0, none⟩) 1 1] 53 (0, 0))) (hh : w.heap[h]? = some (.cells #[.int .i64 4, .int .i64 0, .float .f64 0, .string ⟨#[104, 105]⟩, .slice none 0 0] 53 (0, 0))) : RLies w (some ⟨g, 0, none⟩) 2 hiR := by
  refine ⟨?_, hi_wf⟩
  have h1 : VLies w (cells5 6 0 0 ⟨#[]⟩ (some ⟨h, 0, none⟩) 1 1) (.mk 6 0 0 ⟨#[]⟩ [hiT]) := by
    refine .mk (xs := [hiT]) (fun _ => cells5 4 0 0 ⟨#[104, 105]⟩ none 0 0) (by simp) (by simp) (fun _ => ⟨h, 0, rfl, (Array.getElem?_eq_some_iff.1 hh).1, fun j hj m hm => ?_⟩) (fun j hj => ?_)
    · have hj0 : j = 0 := by simp at hj; omega
      subst hj0
      simp [World.cell?, hh, cells5]
    · have hj0 : j = 0 := by simp at hj; omega
      subst hj0
      exact vl_leaf w 4 0 0 ⟨#[104, 105]⟩ none 0
  refine .mk (xs := hiR) (fun j => if j = 0 then cells5 2 64 0 ⟨#[]⟩ none 0 0 else cells5 6 0 0 ⟨#[]⟩ (some ⟨h, 0, none⟩) 1 1) (by decide) (by decide) (fun _ => ⟨g, 0, rfl, (Array.getElem?_eq_some_iff.1 hg).1, fun j hj m hm => ?_⟩) (fun j hj => ?_)
  · have hj2 : j < 2 := hj
    rcases (show j = 0 ∨ j = 1 by omega) with rfl | rfl
    all_goals
      rcases (show m = 0 ∨ m = 1 ∨ m = 2 ∨ m = 3 ∨ m = 4 by omega) with rfl | rfl | rfl | rfl | rfl <;> simp [World.cell?, hg, cells5]
  · have hj2 : j < 2 := hj
    rcases (show j = 0 ∨ j = 1 by omega) with rfl | rfl
    · exact vl_leaf w 2 64 0 ⟨#[]⟩ none 0
    · exact h1

set_option maxRecDepth 100000 in
set_option maxHeartbeats 2000000 in
theorem rowLive_ok {I : World → Prop} (K : RowsOk I) (w : World) (hI : I w) : Calls Try.prog 9 #[] w fun e w' => e = .returned (.bool true) ∧ Below w.heap.size w w' := by
  have HK := Lib.hid K
  have HI := Lib.hid hI
  clear hI K
  obtain ⟨W, hW⟩ : ∃ W, W = ((w.alloc (.cells #[.int .i64 4, .int .i64 0, .float .f64 0, .string ⟨#[104, 105]⟩, .slice none 0 0] 53)).alloc (.cells #[.int .i64 2, .int .i64 64, .float .f64 0, .string ⟨#[]⟩, .slice none 0 0, .int .i64 6, .int .i64 0, .float .f64 0, .string ⟨#[]⟩, .slice (some ⟨w.heap.size, 0, none⟩) 1 1] 53)).alloc (.cells #[.slice (some ⟨w.heap.size + 1, 0, none⟩) 2 2] 27) := ⟨_, rfl⟩
  have HB0 : Hid (Below w.heap.size w W) := by rw [hW]; exact (((Below.refl _ _).alloc (Nat.le_refl _) _).alloc (by simp) _).alloc (by simp; omega) _
  have HL0 : Hid (RLies W (some ⟨w.heap.size + 1, 0, none⟩) 2 hiR) := by
    refine hi_lies (h := w.heap.size) ?_ ?_
    · rw [hW, blk_old _ _ (by simp)]
      exact blk_second w _ _
    · rw [hW, blk_old _ _ (by simp; omega)]
      exact blk_first w _ _
  have HC0 : Hid (W.cell? ⟨w.heap.size + 1 + 1, 0, none⟩ = some (.slice (some ⟨w.heap.size + 1, 0, none⟩) 2 2)) := by
    show _ = _
    refine blk_cell (C := #[.slice (some ⟨w.heap.size + 1, 0, none⟩) 2 2]) (T := 27) (fr := (0, 0)) ?_ 0
    rw [hW]
    have h := blk_new ((w.alloc (.cells #[.int .i64 4, .int .i64 0, .float .f64 0, .string ⟨#[104, 105]⟩, .slice none 0 0] 53)).alloc (.cells #[.int .i64 2, .int .i64 64, .float .f64 0, .string ⟨#[]⟩, .slice none 0 0, .int .i64 6, .int .i64 0, .float .f64 0, .string ⟨#[]⟩, .slice (some ⟨w.heap.size, 0, none⟩) 1 1] 53)) (.cells #[.slice (some ⟨w.heap.size + 1, 0, none⟩) 2 2] 27)
    simpa using h
  have HW := Lib.hid hW
  have HPairI : Hid (∀ w', Calls Try.prog 20 #[] w' fun e w'' => ∃ p c, e = .returned (.agg #[.slice p 2 c]) ∧ SchL w'' p c pairS ∧ Below w'.heap.size w' w'') := fun w' => by
    refine (pair8 w').mono ?_
    rintro e w'' ⟨p, c, rfl, h1, h2, h3⟩
    exact ⟨p, c, rfl, ⟨by decide, h2, h1, pair_wf⟩, h3⟩
  clear hW
  go_enter Try.func9, Try.ntmps9
  go_wp2_with fail
  rw [← HW.out]
  clear HW
  obtain ⟨G, hG⟩ : ∃ G : World → Prop, G = fun w' => Below W.heap.size W w' := ⟨_, rfl⟩
  have hGs : ∀ w' w'', G w' → Below w'.heap.size w' w'' → G w'' := fun w' w'' h1 h2 => by rw [hG] at h1 ⊢; exact h1.trans (h2.mono h1.size)
  have hGd : ∀ w', G w' → G w'.drew := fun w' h1 => by rw [hG] at h1 ⊢; exact h1.drew
  have hG0 : G W := by rw [hG]; exact Below.refl _ _
  have HGw : Hid (∀ w', G w' → I w' ∧ RLies w' (some ⟨w.heap.size + 1, 0, none⟩) 2 hiR ∧ w'.cell? ⟨w.heap.size + 1 + 1, 0, none⟩ = some (.slice (some ⟨w.heap.size + 1, 0, none⟩) 2 2) ∧ Below w.heap.size w w' ∧ Below W.heap.size W w') := fun w' h => by
    rw [hG] at h
    have hw : Below w.heap.size w w' := HB0.out.trans (h.mono HB0.out.size)
    exact ⟨HK.out.on HI.out hw, HL0.out.on h, cell_on h HC0.out, hw, h⟩
  have HCell : Hid (∀ w', G w' → w'.cell? ⟨w.heap.size + 1 + 1, 0, none⟩ = some (.slice (some ⟨w.heap.size + 1, 0, none⟩) 2 2)) := fun w' h => (HGw.out w' h).2.2.1
  have HPair : Hid (∀ w', G w' → Calls Try.prog 20 #[] w' fun e w'' => ∃ p c, e = .returned (.agg #[.slice p 2 c]) ∧ SchL w'' p c pairS ∧ G w'') := fun w' h => by
    refine (HPairI.out w').mono ?_
    rintro e w'' ⟨p, c, rfl, h1, h2⟩
    exact ⟨p, c, rfl, h1, hGs _ _ h h2⟩
  have HEnc : Hid (∀ w' p c, G w' → SchL w' p c pairS → Calls Try.prog 5 #[.agg #[.slice p 2 c], .agg #[.slice (some ⟨w.heap.size + 1, 0, none⟩) 2 2]] w' fun e w'' => ∃ q cap, e = .returned (.tuple #[.slice q 6 cap, .int .i64 0]) ∧ At w'' q [128, 1, 1, 2, 104, 105] ∧ G w'') := fun w' p c h hs => by
    have hh := HK.out.encode pairS p c hiR (some ⟨w.heap.size + 1, 0, none⟩) 2 w' hs (HGw.out w' h).2.1 (HGw.out w' h).1
    rw [hi_out, hi_err] at hh
    refine hh.mono ?_
    rintro e w'' ⟨q, cap, rfl, h1, -, h2⟩
    exact ⟨q, cap, rfl, h1, hGs _ _ h h2⟩
  have hc := HCell.out W hG0
  clear hG
  go_region_held3 (fun w' => w'.cell? ⟨w.heap.size + 1 + 1, 0, none⟩ = some (.slice (some ⟨w.heap.size + 1, 0, none⟩) 2 2) ∧ G w') (first | go_keep | exact ⟨by assumption, by assumption⟩ | (refine ⟨?_, ?_⟩ <;> first | assumption | (simp; assumption) | exact hGd _ (by assumption))) (first
    | (go_at_call 20; refine (HPair.out _ (by first | assumption | exact hGd _ (by assumption))).mono ?_; rintro e wq ⟨pq, cq, rfl, hsl, hGq⟩; have hcq := HCell.out _ hGq; have HSq := Lib.hid hsl; clear hsl)
    | (go_at_call 5; refine (HEnc.out _ _ _ (by assumption) HSq.out).mono ?_; rintro e w1 ⟨q1, cap1, rfl, hat1, hG1⟩; have hc1 := HCell.out _ hG1; have HAt1 := Lib.hid hat1; clear hat1)
    | fail)
  have HB1 := Lib.hid (HGw.out _ hG1).2.2.2.1
  have HBW1 := Lib.hid (HGw.out _ hG1).2.2.2.2
  clear hc hc1 hcq hGq hG1 hG0 hGs hGd HGw HCell HPair HEnc HSq
  go_wp2_with fail
  refine (HPairI.out w1).mono ?_
  rintro e w2 ⟨p2, c2, rfl, hs2, hb2⟩
  have HB12 := Lib.hid hb2
  have HS2 := Lib.hid hs2
  clear hb2 hs2
  obtain ⟨wa, hwa⟩ : ∃ wa, wa = w2.alloc (.cells #[.int .u8 128, .int .u8 1, .int .u8 1, .int .u8 2, .int .u8 104, .int .u8 105, .int .u8 7] 5) := ⟨_, rfl⟩
  have hba : Below w2.heap.size w2 wa := by rw [hwa]; exact (Below.refl _ _).alloc (Nat.le_refl _) _
  have hata : At wa (some ⟨w2.heap.size, 0, none⟩) [128, 1, 1, 2, 104, 105, 7] := by rw [hwa]; exact (has_lit (B := 0) (w := w2) [128, 1, 1, 2, 104, 105, 7] rfl (Nat.zero_le _) (by decide)).here
  have HB1a := Lib.hid (HB12.out.trans (hba.mono HB12.out.size))
  have hD := HK.out.decode pairS p2 c2 [128, 1, 1, 2, 104, 105, 7] (some ⟨w2.heap.size, 0, none⟩) 7 0 wa (HS2.out.on hba) (by decide) (by decide) hata (by decide) (by decide) (HK.out.on HI.out (HB1.out.trans (HB1a.out.mono HB1.out.size)))
  rw [hi_read] at hD
  have HD := Lib.hid hD
  have HWa := Lib.hid hwa
  clear hD hba hata hwa HB12
  go_wp2_with fail
  rw [← HWa.out]
  clear HWa
  refine HD.out.mono ?_
  rintro e w3 ⟨q3, c3, rfl, hv3, hb3⟩
  have HV3 := Lib.hid hv3.lies
  have HB13 := Lib.hid (HB1a.out.trans (hb3.mono HB1a.out.size))
  have hl2 : hiR.length = 2 := rfl
  rw [hl2] at HV3 ⊢
  clear hv3 hb3 HD HB1a hl2
  obtain ⟨wb, hwb⟩ : ∃ wb, wb = w3.alloc (.cells #[.slice q3 2 c3] 27) := ⟨_, rfl⟩
  have HB3b : Hid (Below w3.heap.size w3 wb) := by rw [hwb]; exact (Below.refl _ _).alloc (Nat.le_refl _) _
  have HCb : Hid (wb.cell? ⟨w3.heap.size, 0, none⟩ = some (.slice q3 2 c3)) := by show _ = _; rw [hwb]; simp
  have HWb := Lib.hid hwb
  clear hwb
  go_wp2_with fail
  rw [← HWb.out]
  clear HWb
  refine (HPairI.out wb).mono ?_
  rintro e w4 ⟨p4, c4, rfl, hs4, hb4⟩
  have HBb4 := Lib.hid hb4
  have HS4 := Lib.hid hs4
  clear hb4 hs4
  obtain ⟨wc, hwc⟩ : ∃ wc, wc = w4.alloc (.cells #[.int .u8 5] 5) := ⟨_, rfl⟩
  have hbc : Below w4.heap.size w4 wc := by rw [hwc]; exact (Below.refl _ _).alloc (Nat.le_refl _) _
  have hatc : At wc (some ⟨w4.heap.size, 0, none⟩) [5] := by rw [hwc]; exact (has_lit (B := 0) (w := w4) [5] rfl (Nat.zero_le _) (by decide)).here
  have HBbc := Lib.hid (HBb4.out.trans (hbc.mono HBb4.out.size))
  have HB1b := Lib.hid (HB13.out.trans (HB3b.out.mono HB13.out.size))
  have HB1c := Lib.hid (HB1b.out.trans (HBbc.out.mono HB1b.out.size))
  have hD := HK.out.decode pairS p4 c4 [5] (some ⟨w4.heap.size, 0, none⟩) 1 0 wc (HS4.out.on hbc) (by decide) (by decide) hatc (by decide) (by decide) (HK.out.on HI.out (HB1.out.trans (HB1c.out.mono HB1.out.size)))
  rw [five_read] at hD
  have HD := Lib.hid hD
  have HWc := Lib.hid hwc
  clear hD hbc hatc hwc HBb4
  go_wp2_with fail
  rw [← HWc.out]
  clear HWc
  refine HD.out.mono ?_
  rintro e w5 ⟨rfl, hb5⟩
  have HBb5 := Lib.hid (HBbc.out.trans (hb5.mono HBbc.out.size))
  clear hb5 HD HBbc HB1c
  obtain ⟨wd, hwd⟩ : ∃ wd, wd = w5.alloc (.cells #[.slice none 0 0] 27) := ⟨_, rfl⟩
  have hbd : Below w5.heap.size w5 wd := by rw [hwd]; exact (Below.refl _ _).alloc (Nat.le_refl _) _
  have HBbd := Lib.hid (HBb5.out.trans (hbd.mono HBb5.out.size))
  have HB1d := Lib.hid (HB1b.out.trans (HBbd.out.mono HB1b.out.size))
  have hE := HK.out.encodeValue (.mk 1 []) (.mk 1 1 0 ⟨#[]⟩ []) (cells2 1 none 0 0) (cells5 1 1 0 ⟨#[]⟩ none 0 0) wd (tl_leaf wd 1 none 0) (Ty.wf_mk.2 ⟨by omega, fun x hx => by cases hx⟩) (vl_leaf wd 1 1 0 ⟨#[]⟩ none 0) (V.wf_mk.2 ⟨by omega, by omega, by omega, Nat.zero_le _, fun x hx => by cases hx⟩) (HK.out.on HI.out (HB1.out.trans (HB1d.out.mono HB1.out.size)))
  rw [bool_enc, bool_bytes] at hE
  unfold cells2 cells5 at hE
  have HE := Lib.hid hE
  have HWd := Lib.hid hwd
  clear hE hbd hwd HBb5
  go_wp2_with fail
  rw [← HWd.out]
  clear HWd
  refine HE.out.mono ?_
  rintro e w6 ⟨q6, cap6, rfl, hat6, -, hb6⟩
  have HAt6 := Lib.hid hat6
  have HBb6 := Lib.hid (HBbd.out.trans (hb6.mono HBbd.out.size))
  have HB16 := Lib.hid (HB1d.out.trans (hb6.mono HB1d.out.size))
  clear hat6 hb6 HE HBbd HB1d
  obtain ⟨we, hwe⟩ : ∃ we, we = w6.alloc (.cells #[.int .u8 128, .int .u8 1, .int .u8 1, .int .u8 2, .int .u8 104, .int .u8 105] 5) := ⟨_, rfl⟩
  have hbe : Below w6.heap.size w6 we := by rw [hwe]; exact (Below.refl _ _).alloc (Nat.le_refl _) _
  have hate : At we (some ⟨w6.heap.size, 0, none⟩) [128, 1, 1, 2, 104, 105] := by rw [hwe]; exact (has_lit (B := 0) (w := w6) [128, 1, 1, 2, 104, 105] rfl (Nat.zero_le _) (by decide)).here
  have HB1e := Lib.hid (HB16.out.trans (hbe.mono HB16.out.size))
  have HBbe := Lib.hid (HBb6.out.trans (hbe.mono HBb6.out.size))
  have HSe := Lib.hid (same_any q1 (some ⟨w6.heap.size, 0, none⟩) cap1 6 [128, 1, 1, 2, 104, 105] [128, 1, 1, 2, 104, 105] (by decide) we (HAt1.out.on HB1e.out) hate)
  have HWe := Lib.hid hwe
  have HB6e := Lib.hid hbe
  clear hwe hbe hate
  go_wp2_with fail
  rw [← HWe.out]
  clear HWe
  refine HSe.out.mono ?_
  rintro e w7 ⟨rfl, n7, hw7⟩
  have hb7 : Below we.heap.size we w7 := by rw [hw7]; exact below_drewN (Below.refl _ _) n7
  have HB67 := Lib.hid (HB6e.out.trans (hb7.mono HB6e.out.size))
  have HBb7 := Lib.hid (HBbe.out.trans (hb7.mono HBbe.out.size))
  have HB17 := Lib.hid (HB1e.out.trans (hb7.mono HB1e.out.size))
  have HBW7 := Lib.hid (HBW1.out.trans (HB17.out.mono HBW1.out.size))
  have HB37 := Lib.hid (HB3b.out.trans (HBb7.out.mono HB3b.out.size))
  have m1 := cell_on HBb7.out HCb.out
  have m2 := cell_on HBW7.out HC0.out
  have HRo := Lib.hid (rows8 hiR hiR q3 (some ⟨w.heap.size + 1, 0, none⟩) c3 2 w7 (HV3.out.on HB37.out) (HL0.out.on HBW7.out).1)
  rw [hi_exact] at HRo
  clear hw7 hb7 HSe HB1e HBbe HB6e
  simp only [beq_self_eq_true]
  go_wp2_with fail
  refine HRo.out.mono ?_
  rintro e w8 ⟨rfl, hb8⟩
  have HB68 := Lib.hid (HB67.out.trans (hb8.mono HB67.out.size))
  clear hb8 HRo m1 m2 HB67 HBb7 HBW7 HB37
  obtain ⟨wf, hwf⟩ : ∃ wf, wf = w8.alloc (.cells #[.int .u8 1] 5) := ⟨_, rfl⟩
  have hbf : Below w8.heap.size w8 wf := by rw [hwf]; exact (Below.refl _ _).alloc (Nat.le_refl _) _
  have hatf : At wf (some ⟨w8.heap.size, 0, none⟩) [1] := by rw [hwf]; exact (has_lit (B := 0) (w := w8) [1] rfl (Nat.zero_le _) (by decide)).here
  have HB6f := Lib.hid (HB68.out.trans (hbf.mono HB68.out.size))
  have HSf := Lib.hid (same_any q6 (some ⟨w8.heap.size, 0, none⟩) cap6 1 [1] [1] (by decide) wf (HAt6.out.on HB6f.out) hatf)
  have HWf := Lib.hid hwf
  clear hwf hbf hatf HB68
  go_wp2_with fail
  rw [← HWf.out]
  clear HWf
  refine HSf.out.mono ?_
  rintro e w9 ⟨rfl, n9, hw9⟩
  have hb9 : Below wf.heap.size wf w9 := by rw [hw9]; exact below_drewN (Below.refl _ _) n9
  have HB69 := Lib.hid (HB6f.out.trans (hb9.mono HB6f.out.size))
  have HB19 := Lib.hid (HB16.out.trans (HB69.out.mono HB16.out.size))
  have HBw9 := Lib.hid (HB1.out.trans (HB19.out.mono HB1.out.size))
  clear hw9 hb9 HSf HB6f
  simp only [beq_self_eq_true]
  go_wp2_with fail
  refine (HPairI.out _).mono ?_
  rintro e w10 ⟨p10, c10, rfl, hs10, hb10⟩
  have HBw10 := Lib.hid (HBw9.out.trans (hb10.mono HBw9.out.size))
  have hC := HK.out.check pairS p10 c10 [] none 0 w10 hs10 ⟨vl_leaf w10 0 0 0 ⟨#[]⟩ none 0, fun v hv => by cases hv⟩ (HK.out.on HI.out HBw10.out)
  rw [none_err] at hC
  have HC := Lib.hid hC
  clear hs10 hb10 hC
  go_wp2_with fail
  refine HC.out.mono ?_
  rintro e w11 ⟨rfl, hb11⟩
  have HBw11 := Lib.hid (HBw10.out.trans (hb11.mono HBw10.out.size))
  clear hb11 HC
  go_wp2
  go_ret
  exact ⟨rfl, HBw11.out⟩
end Go.Proofs.Yticmkgbjannkkaa

/- Arguments of types api.Value, api.Type and api.Schema, opened: what lies there, within its bounds. -/
namespace Go.Proofs.Yticmkgbjannkkaa
open Go.ChangeShapes Go.WideShapes Go.ChangeAt Go.RowKit Go.Deep

theorem add_off (b o j : Nat) : (⟨b, o, none⟩ : Addr).add j = ⟨b, o + j, none⟩ := by unfold Addr.add; split <;> simp_all
theorem int_wf {n : Int} (h : (Lit.int .i64 n).wf = true) : -9223372036854775808 ≤ n ∧ n ≤ 9223372036854775807 := by
  have h' : (decide (IntKind.i64.min ≤ n) && decide (n ≤ IntKind.i64.max)) = true := h
  rw [Bool.and_eq_true, decide_eq_true_eq, decide_eq_true_eq] at h'
  have e1 : IntKind.i64.min = -9223372036854775808 := by decide
  have e2 : IntKind.i64.max = 9223372036854775807 := by decide
  rw [e1, e2] at h'
  exact h'
theorem float_wf {n : Nat} (h : (Lit.float .f64 n).wf = true) : n < 18446744073709551616 := by
  have h' : decide (n < 2 ^ 64) = true := h
  rw [decide_eq_true_eq] at h'
  exact h'

section
variable {H : Type} {enc : TypeId × Value → H} {W : World}

theorem trod_float6 {fuel : Nat} {t : TypeId} {cs : List Value} {x : DataW H × List MemPlace} {k : FloatKind} (ht : Try.prog.underlying t = some (.float k)) (h : DataW.trod enc Try.prog W 0 (fun _ => true) true fuel t cs = some x) : ∃ b, cs = [.float k b] ∧ x = (.lit (.float k b), []) ∧ (Lit.float k b).wf = true := by
  cases fuel with
  | zero => simp [DataW.trod] at h
  | succ n =>
    unfold DataW.trod at h
    rw [ht] at h
    split at h <;> simp_all

theorem weightsAll_mem {P : Program} {e : TypeId} : ∀ {l : List (DataW H)} {i : Nat} {d : DataW H}, l[i]? = some d → ∀ n ∈ d.weights P e, n ∈ DataW.weightsAll P e l
  | [], _, _, h => by simp at h
  | x :: r, 0, d, h => by
    intro n hn
    simp at h
    subst h
    simp [DataW.weightsAll, hn]
  | x :: r, i + 1, d, h => by
    intro n hn
    have := weightsAll_mem (l := r) (i := i) (d := d) (by simpa using h) n hn
    simp [DataW.weightsAll, this]

/-- things that lie in a row -/
theorem choose_row {T : Type} [Inhabited T] {c len : Nat} {a : Addr} {L : Array Value → T → Prop} (hc : 0 < c) (each : ∀ i, i < len → ∃ z : List Value × T, W.cells? 0 (a.add (i * c)) c = some z.1 ∧ L z.1.toArray z.2) :
    ∃ (us : Nat → Array Value) (zs : List T), zs.length = len ∧ (0 < len → ∃ b off, a = ⟨b, off, none⟩ ∧ b < W.heap.size ∧ ∀ j, j < len → ∀ m, m < c → W.cell? ⟨b, off + j * c + m, none⟩ = (us j)[m]?) ∧ ∀ j (h : j < zs.length), L (us j) zs[j] := by
  haveI : Inhabited (List Value × T) := ⟨⟨[], default⟩⟩
  obtain ⟨z, hz⟩ := choose_lt each
  refine ⟨fun j => (z j).1.toArray, (List.range len).map fun i => (z i).2, by simp, fun h0 => ?_, fun j hj => ?_⟩
  · obtain ⟨b, off, spot⟩ := a
    obtain ⟨_, hlen0, hcell0⟩ := World.cells?_some (hz 0 h0).1
    have hc0 := hcell0 0 (by omega)
    rw [List.getElem?_eq_getElem (by omega)] at hc0
    have hspot : spot = none := by simpa [Addr.add] using World.cell?_spot hc0
    subst hspot
    refine ⟨b, off, rfl, ?_, fun j hj2 m hm => ?_⟩
    · have := World.block_lt_of_cell? _ _ hc0
      simpa [block_add] using this
    · obtain ⟨_, hlenj, hcellj⟩ := World.cells?_some (hz j hj2).1
      have hcj := hcellj m (by omega)
      rw [add_add, add_off] at hcj
      rw [← Nat.add_assoc] at hcj
      rw [hcj]
      simp [hlenj, hm]
  · have hj2 : j < len := by simpa using hj
    simp only [List.getElem_map, List.getElem_range]
    exact (hz j hj2).2

set_option maxRecDepth 100000 in
theorem open_value : ∀ (fuel : Nat) (cs : List Value) (D : DataW H) (Pl : List MemPlace), DataW.trod enc Try.prog W 0 (fun _ => true) true fuel 53 cs = some (D, Pl) → (∀ k ∈ D.weights Try.prog 53, k ≤ reachBytes) → ∃ x, VLies W cs.toArray x ∧ x.wf := by
  intro fuel
  induction fuel using Nat.strongRecOn with
  | _ fuel ih =>
    intro cs D Pl h hw
    obtain ⟨xs, n, rfl, hx, hl, hlen, hf⟩ := DataW.trod_struct Try.underlying53 h
    have hc5 : Try.prog.cellsOf 53 = 5 := by kernel_rfl
    have hb64 : Try.prog.bytesOf 53 = 64 := by kernel_rfl
    have er : reachBytes = 140737488351232 := by decide
    rw [hc5] at hl
    match cs, hl, xs, hlen with
    | [v0, v1, v2, v3, v4], _, [y0, y1, y2, y3, y4], _ =>
      have c0 : Try.prog.cellsOf 3 = 1 := by kernel_rfl
      have c1 : Try.prog.cellsOf 2 = 1 := by kernel_rfl
      have c2 : Try.prog.cellsOf 51 = 1 := by kernel_rfl
      have c3 : Try.prog.cellsOf 9 = 1 := by kernel_rfl
      have c4 : Try.prog.cellsOf 25 = 1 := by kernel_rfl
      have h0 : DataW.trod enc Try.prog W 0 (fun _ => true) true n 3 [v0] = some y0 := by have := hf 0 _ rfl; simpa [c0] using this
      have h1 : DataW.trod enc Try.prog W 0 (fun _ => true) true n 2 [v1] = some y1 := by have := hf 1 _ rfl; simpa [c1] using this
      have h2 : DataW.trod enc Try.prog W 0 (fun _ => true) true n 51 [v2] = some y2 := by have := hf 2 _ rfl; simpa [c2] using this
      have h3 : DataW.trod enc Try.prog W 0 (fun _ => true) true n 9 [v3] = some y3 := by have := hf 3 _ rfl; simpa [c3] using this
      have h4 : DataW.trod enc Try.prog W 0 (fun _ => true) true n 25 [v4] = some y4 := by have := hf 4 _ rfl; simpa [c4] using this
      obtain ⟨n0, hn0, _, w0⟩ := DataW.trod_int Try.underlying3 h0
      obtain ⟨n1, hn1, _, w1⟩ := DataW.trod_int Try.underlying2 h1
      obtain ⟨n2, hn2, _, w2⟩ := trod_float6 Try.underlying51 h2
      obtain ⟨n3, hn3, hy3, _⟩ := DataW.trod_string Try.underlying9 h3
      simp only [List.cons.injEq, and_true] at hn0 hn1 hn2 hn3
      subst hn0 hn1 hn2 hn3
      simp only [Prod.mk.injEq] at hx
      obtain ⟨rfl, _⟩ := hx
      have hs3 : n3.size ≤ 140737488351232 := by
        have := hw n3.data.toList.length (by
          simp [DataW.weights, DataW.weightsEach, Try.underlying53, hy3])
        rw [er] at this
        simpa using this
      have hw4 : ∀ k ∈ y4.1.weights Try.prog 25, k ≤ reachBytes := fun k hk => hw k (by
        simp [DataW.weights, DataW.weightsEach, Try.underlying53]
        right; right; right; right
        exact hk)
      rcases DataW.trod_slice Try.underlying25 h4 with ⟨hcs, _⟩ | ⟨a, len, cap, elems, rest, n', rfl, hcs, hy, _, hlc, _, hel, hat, _⟩
      · simp only [List.cons.injEq, and_true] at hcs
        subst hcs
        exact ⟨.mk n0 n1 n2 n3 [], vl_leaf W n0 n1 n2 n3 none 0, V.wf_mk.2 ⟨int_wf w0, int_wf w1, float_wf w2, hs3, fun x hx => by cases hx⟩⟩
      · simp only [List.cons.injEq, and_true] at hcs
        subst hcs
        rw [hy] at hw4
        have hbd : len * 64 ≤ 140737488351232 := by
          have := hw4 ((elems.length + rest.length) * Try.prog.bytesOf 53) (by simp [DataW.weights, Try.underlying25])
          rw [hb64, er] at this
          omega
        have each : ∀ i, i < len → ∃ z : List Value × V, W.cells? 0 (a.add (i * 5)) 5 = some z.1 ∧ VLies W z.1.toArray z.2 ∧ z.2.wf := by
          intro i hi
          have h5 := hat i hi
          rw [hc5] at h5
          obtain ⟨y, hy2⟩ : ∃ y, elems[i]? = some y := ⟨elems[i]'(by omega), List.getElem?_eq_getElem (by omega)⟩
          rw [hy2] at h5
          obtain ⟨cs', g1, g2⟩ := Option.bind_eq_some_iff.1 h5
          obtain ⟨x, hx⟩ := ih n' (by omega) cs' y.1 y.2 g2 (fun k hk => hw4 k (by
            simp only [DataW.weights, Try.underlying25]
            refine List.mem_cons_of_mem _ (List.mem_append_left _ (weightsAll_mem (i := i) (d := y.1) ?_ k hk))
            simp [hy2]))
          exact ⟨⟨cs', x⟩, g1, hx⟩
        haveI : Inhabited V := ⟨.mk 0 0 0 ⟨#[]⟩ []⟩
        obtain ⟨us, zs, hll, hp, hz⟩ := choose_row (L := fun u x => VLies W u x ∧ x.wf) (by decide) each
        refine ⟨.mk n0 n1 n2 n3 zs, ?_, V.wf_mk.2 ⟨int_wf w0, int_wf w1, float_wf w2, hs3, fun x hx => ?_⟩⟩
        · have hV : VLies W (cells5 n0 n1 n2 n3 (some a) zs.length cap) (.mk n0 n1 n2 n3 zs) := by
            refine .mk us (by rw [hll]; exact hbd) (by rw [hll]; exact hlc) (fun hne => ?_) (fun j hj => (hz j hj).1)
            obtain ⟨b, off, rfl, h2, h3⟩ := hp (by rw [← hll]; exact List.length_pos_iff.2 hne)
            exact ⟨b, off, rfl, h2, fun j hj m hm => h3 j (by omega) m hm⟩
          rw [hll] at hV
          exact hV
        · obtain ⟨j, hj, rfl⟩ := List.mem_iff_getElem.1 hx
          exact (hz j hj).2

set_option maxRecDepth 100000 in
theorem open_type : ∀ (fuel : Nat) (cs : List Value) (D : DataW H) (Pl : List MemPlace), DataW.trod enc Try.prog W 0 (fun _ => true) true fuel 50 cs = some (D, Pl) → (∀ k ∈ D.weights Try.prog 50, k ≤ reachBytes) → ∃ x, TLies W cs.toArray x ∧ x.wf := by
  intro fuel
  induction fuel using Nat.strongRecOn with
  | _ fuel ih =>
    intro cs D Pl h hw
    obtain ⟨xs, n, rfl, hx, hl, hlen, hf⟩ := DataW.trod_struct Try.underlying50 h
    have hc5 : Try.prog.cellsOf 50 = 2 := by kernel_rfl
    have hb64 : Try.prog.bytesOf 50 = 32 := by kernel_rfl
    have er : reachBytes = 140737488351232 := by decide
    rw [hc5] at hl
    match cs, hl, xs, hlen with
    | [v0, v4], _, [y0, y4], _ =>
      have c0 : Try.prog.cellsOf 3 = 1 := by kernel_rfl
      have c4 : Try.prog.cellsOf 48 = 1 := by kernel_rfl
      have h0 : DataW.trod enc Try.prog W 0 (fun _ => true) true n 3 [v0] = some y0 := by have := hf 0 _ rfl; simpa [c0] using this
      have h4 : DataW.trod enc Try.prog W 0 (fun _ => true) true n 48 [v4] = some y4 := by have := hf 1 _ rfl; simpa [c4] using this
      obtain ⟨n0, hn0, _, w0⟩ := DataW.trod_int Try.underlying3 h0
      simp only [List.cons.injEq, and_true] at hn0
      subst hn0
      simp only [Prod.mk.injEq] at hx
      obtain ⟨rfl, _⟩ := hx
      have hw4 : ∀ k ∈ y4.1.weights Try.prog 48, k ≤ reachBytes := fun k hk => hw k (by
        simp [DataW.weights, DataW.weightsEach, Try.underlying50]
        right
        exact hk)
      rcases DataW.trod_slice Try.underlying48 h4 with ⟨hcs, _⟩ | ⟨a, len, cap, elems, rest, n', rfl, hcs, hy, _, hlc, _, hel, hat, _⟩
      · simp only [List.cons.injEq, and_true] at hcs
        subst hcs
        exact ⟨.mk n0 [], tl_leaf W n0 none 0, Ty.wf_mk.2 ⟨int_wf w0, fun x hx => by cases hx⟩⟩
      · simp only [List.cons.injEq, and_true] at hcs
        subst hcs
        rw [hy] at hw4
        have hbd : len * 32 ≤ 140737488351232 := by
          have := hw4 ((elems.length + rest.length) * Try.prog.bytesOf 50) (by simp [DataW.weights, Try.underlying48])
          rw [hb64, er] at this
          omega
        have each : ∀ i, i < len → ∃ z : List Value × Ty, W.cells? 0 (a.add (i * 2)) 2 = some z.1 ∧ TLies W z.1.toArray z.2 ∧ z.2.wf := by
          intro i hi
          have h5 := hat i hi
          rw [hc5] at h5
          obtain ⟨y, hy2⟩ : ∃ y, elems[i]? = some y := ⟨elems[i]'(by omega), List.getElem?_eq_getElem (by omega)⟩
          rw [hy2] at h5
          obtain ⟨cs', g1, g2⟩ := Option.bind_eq_some_iff.1 h5
          obtain ⟨x, hx⟩ := ih n' (by omega) cs' y.1 y.2 g2 (fun k hk => hw4 k (by
            simp only [DataW.weights, Try.underlying48]
            refine List.mem_cons_of_mem _ (List.mem_append_left _ (weightsAll_mem (i := i) (d := y.1) ?_ k hk))
            simp [hy2]))
          exact ⟨⟨cs', x⟩, g1, hx⟩
        haveI : Inhabited Ty := ⟨.mk 0 []⟩
        obtain ⟨us, zs, hll, hp, hz⟩ := choose_row (L := fun u x => TLies W u x ∧ x.wf) (by decide) each
        refine ⟨.mk n0 zs, ?_, Ty.wf_mk.2 ⟨int_wf w0, fun x hx => ?_⟩⟩
        · have hV : TLies W (cells2 n0 (some a) zs.length cap) (.mk n0 zs) := by
            refine .mk us (by rw [hll]; exact hbd) (by rw [hll]; exact hlc) (fun hne => ?_) (fun j hj => (hz j hj).1)
            obtain ⟨b, off, rfl, h2, h3⟩ := hp (by rw [← hll]; exact List.length_pos_iff.2 hne)
            exact ⟨b, off, rfl, h2, fun j hj m hm => h3 j (by omega) m hm⟩
          rw [hll] at hV
          exact hV
        · obtain ⟨j, hj, rfl⟩ := List.mem_iff_getElem.1 hx
          exact (hz j hj).2

set_option maxRecDepth 100000 in
/-- an argument of type api.Value -/
theorem open_val {base : Nat} {ts : List TypeId} {ds : List (DataW H)} {j : Nat} {v : Value} {d : DataW H} {p : List MemPlace} (hv : Value.okWide Try.prog W .any base 53 v) (h : DataW.Trod enc Try.prog W 0 (fun _ => true) true 53 v d p)
    (hsz : (DataW.weightsEach Try.prog ts ds).all (· ≤ reachBytes) = true) (ht : ts[j]? = some 53) (hd : ds[j]? = some d) : ∃ (u : Array Value) (x : V), v = .agg u ∧ VLies W u x ∧ x.wf := by
  obtain ⟨cs, rfl, _⟩ := okWide_struct Try.underlying53 hv
  obtain ⟨fuel, hf⟩ := h
  obtain ⟨x, hx⟩ := open_value fuel _ d p hf (fun k hk => by
    have := List.all_eq_true.1 hsz k (DataW.weights_mem_each ht hd k hk)
    simpa using this)
  exact ⟨cs, x, rfl, by simpa [Value.cells] using hx⟩
set_option maxRecDepth 100000 in
/-- an argument of type api.Type -/
theorem open_ty {base : Nat} {ts : List TypeId} {ds : List (DataW H)} {j : Nat} {v : Value} {d : DataW H} {p : List MemPlace} (hv : Value.okWide Try.prog W .any base 50 v) (h : DataW.Trod enc Try.prog W 0 (fun _ => true) true 50 v d p)
    (hsz : (DataW.weightsEach Try.prog ts ds).all (· ≤ reachBytes) = true) (ht : ts[j]? = some 50) (hd : ds[j]? = some d) : ∃ (u : Array Value) (x : Ty), v = .agg u ∧ TLies W u x ∧ x.wf := by
  obtain ⟨cs, rfl, _⟩ := okWide_struct Try.underlying50 hv
  obtain ⟨fuel, hf⟩ := h
  obtain ⟨x, hx⟩ := open_type fuel _ d p hf (fun k hk => by
    have := List.all_eq_true.1 hsz k (DataW.weights_mem_each ht hd k hk)
    simpa using this)
  exact ⟨cs, x, rfl, by simpa [Value.cells] using hx⟩
end
end Go.Proofs.Yticmkgbjannkkaa
