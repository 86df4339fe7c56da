/- BatchBack: the walk. -/
import Derived.Test.YtpkbdnilakaakaaGreatM54
import Derived.Test.YtpkbdnilakaakaaGreatM50
namespace Go.Proofs.YtpkbdnilakaakaaGreat
open Go.RowKit

attribute [local go_sem] run_store_float

set_option maxRecDepth 100000 in
set_option maxHeartbeats 4000000 in
theorem back11 (HR : RowsIn) (s : List Col) (p : Option Addr) (c : Nat) (l : List (List V)) (q : Option Addr) (d : Nat) (b : List UInt8) (r : Option Addr) (e0 : Nat) (n m : Int) (w : World) (hx : BothL w p c s q d l r e0 b) :
    Calls Tryz.prog 6 #[.agg #[.slice p s.length c, .slice q l.length d, .slice r b.length e0, .int .i64 n, .int .i64 m]] w fun e w' => e = .returned (.bool true) ∧ Below w.heap.size w w' := by
  have hwf := hx.rows.wf
  have hlen := hx.rows.len
  obtain ⟨W, hW⟩ : ∃ W, W = (w.alloc (.cells #[.slice p s.length c, .slice q l.length d, .slice r b.length e0, .int .i64 n, .int .i64 m] 47)).alloc (.cells #[.slice p s.length c] 24) := ⟨_, rfl⟩
  obtain ⟨k0, k1, hbW, hsW⟩ := al2 w (.cells #[.slice p s.length c, .slice q l.length d, .slice r b.length e0, .int .i64 n, .int .i64 m] 47) (.cells #[.slice p s.length c] 24)
  rw [← hW] at k0 k1 hbW hsW
  have hX := hx.on hbW
  have y1 := blk_cell k0 1
  have y2 := blk_cell k0 2
  have y3 := blk_cell k0 3
  simp only [List.getElem?_toArray, List.getElem?_cons_zero, List.getElem?_cons_succ] at y1 y2 y3
  have HY := Lib.hid (And.intro y1 (And.intro y2 y3))
  have HPk := Lib.hid (packBK HR s p c l q d W hX.sch hX.rows)
  have HU : Hid (∀ w', Below W.heap.size W w' → Calls Tryz.prog 16 #[.agg #[.slice p s.length c], .slice r b.length e0, .int .i64 n] w' (UnpA w' (Bt.unpack s b n))) := fun w' hb => unpackBK HR s p c b r e0 n w' (hX.on hb).sch hX.len hX.cap (hX.on hb).at_
  have HUr : Hid (∀ w', Below W.heap.size W w' → Calls Tryz.prog 13 #[.slice r b.length e0] w' (ResV w' (Blk.unpack b))) := fun w' hb => unpackK b r e0 w' hX.len hX.cap (hX.on hb).at_
  have HX := Lib.hid hX
  have hpe := Bt.pack_err s l
  have hpl := Bt.pack_len s l
  have hgo : Bt.err s l = 0 → Bt.unpack s (Bt.pack s l).out l.length = .ok (l.map (fun x => x.map V.fix)) := fun h => (Bt.pack_unpack h hwf).2
  obtain ⟨R, hR⟩ : ∃ R, R = Bt.err s l := ⟨_, rfl⟩
  obtain ⟨P, hP⟩ : ∃ P, P = Bt.pack s l := ⟨_, rfl⟩
  rw [← hP] at HPk hpe hpl hgo
  rw [← hR] at hpe hpl hgo
  have HPe := Lib.hid hpe
  have HPl := Lib.hid hpl
  have HGo := Lib.hid hgo
  have HB := Lib.hid hbW
  have HW := Lib.hid hW
  have HK1 := Lib.hid k1
  have HRI := Lib.hid HR
  have HUp : Hid (∀ m2, Bt.unpack s b n = .ok m2 → Bt.err s m2 = 0 ∧ Bt.out s m2 = (Blk.unpack b).out ∧ (Blk.unpack b).err = 0 ∧ (Bt.pack s m2).err = 0 ∧ (Bt.pack s m2).out.length ≤ 2049 ∧ Bt.unpack s (Bt.pack s m2).out n = .ok m2 ∧ (∀ x ∈ m2, ∀ v ∈ x, v.wf) ∧ m2.length * 24 ≤ 140737488351232) := fun m2 h => by
    obtain ⟨h1, h2, h3, h4, h5⟩ := Bt.unpack_pack h
    refine ⟨h1, by unfold Bt.out; rw [if_pos h1]; exact h2, (Bt.unpack_open h).2.1, h4, (Bt.pack_len s m2).2.2, h5, (Bt.unpack_wf h).1, (Bt.unpack_wf h).2.1⟩
  have HUe : Hid (∀ er, Bt.unpack s b n = .error er → er ≠ 0) := fun er h => Bt.unpack_err h
  obtain ⟨R2, hR2⟩ : ∃ R2, R2 = Bt.unpack s b n := ⟨_, rfl⟩
  rw [← hR2] at HU HUp HUe
  obtain ⟨U, hU⟩ : ∃ U, U = Blk.unpack b := ⟨_, rfl⟩
  rw [← hU] at HUr HUp
  clear hpe hpl hgo hR hP hbW hW k0 k1 HR hX hx hwf hR2 hU y1 y2 y3
  go_enter Tryz.func6, Tryz.ntmps6
  have y1 := HY.out.1
  have y2 := HY.out.2.1
  have y3 := HY.out.2.2
  have HYa : Hid (∀ o, (w.alloc (.cells #[.slice p s.length c, .slice q l.length d, .slice r b.length e0, .int .i64 n, .int .i64 m] 47)).alloc o = (w.alloc (.cells #[.slice p s.length c, .slice q l.length d, .slice r b.length e0, .int .i64 n, .int .i64 m] 47)).alloc o) := fun _ => rfl
  clear HYa y1 y2 y3
  go_wp2_with fail
  rw [← HW.out]
  refine HPk.out.mono ?_
  rintro e w1 ⟨q1, m1, c1, rfl, hm1, hh1, hb1⟩
  subst hm1
  rw [HPe.out]
  have n0 := boxed_cell (blk_on HK1.out hb1 (blk_lt HK1.out))
  have HB1 := Lib.hid hb1
  have HH1 := Lib.hid hh1
  clear hb1 hh1 HPk
  rcases Decidable.em (R = 0) with h0 | h0
  case' inl =>
    have g0 : ((R : Int) != 0) = false := bne_f (by omega)
    have g1 : ((R : Int) == 0) = true := by rw [h0]; rfl
    have hUo := HGo.out h0
    have hP9 := HPl.out.2.2
    obtain ⟨qa, ca, hea, hata, hca⟩ := HH1.out.at
    injection hea with e1 _ e3
    subst e1 e3
    have hU2 := unpackBK HRI.out s p c P.out q1 c1 l.length w1 (HX.out.on HB1.out).sch (by omega) hca hata
    rw [hUo] at hU2
    have HU2 := Lib.hid hU2
    have HWf := Lib.hid (Bt.unpack_wf hUo)
    obtain ⟨l2, hl2⟩ : ∃ l2, l2 = l.map (fun x => x.map V.fix) := ⟨_, rfl⟩
    have HSm : Hid (l.length = l2.length ∧ ∀ j (h1 : j < l2.length) (h2 : j < l.length), V.sameL l2[j] l[j] = true) := by
      rw [hl2]
      exact ⟨by simp, fun j h1 h2 => by simp only [List.getElem_map]; exact sameL_fix _⟩
    rw [← hl2] at HU2 HWf
    clear hU2 hUo hl2 HGo HPl h0 hata
    go_wp2_with fail
    refine HU2.out.mono ?_
    rintro e w3 ⟨q3, c3, rfl, hr3, hb3⟩
    have HR3 := Lib.hid (hr3.rows HWf.out.2.1 HWf.out.1)
    have HB3 := Lib.hid (HB1.out.trans (hb3.mono HB1.out.size))
    clear hr3 hb3 HU2
    have HAl := Lib.hid (alikeRowsK l2 l HSm.out.1 HSm.out.2 q3 q c3 d w3 HR3.out (HX.out.on HB3.out).rows)
    go_wp2_with fail
    refine HAl.out.mono ?_
    rintro e w5 ⟨rfl, hb5⟩
    have HB5 := Lib.hid (HB3.out.trans (hb5.mono HB3.out.size))
    clear hb5 HAl n0 HSm HR3 HWf
    have n0 := boxed_cell (blk_on HK1.out HB5.out (blk_lt HK1.out))
    go_wp2_with fail
  case' inr =>
    have g0 : ((R : Int) != 0) = true := bne_t (by omega)
    have g1 : ((R : Int) == 0) = false := by rw [beq_eq_false_iff_ne]; omega
    obtain ⟨w5, hw5⟩ : ∃ w5, w5 = w1 := ⟨_, rfl⟩
    subst hw5
    have HB5 := HB1
    clear HGo HPl h0
    go_wp2_with fail
  all_goals
    refine (HU.out w5 HB5.out).mono ?_
    intro e w6 h6
    cases R2 with
    | error er =>
      obtain ⟨rfl, hb6⟩ := h6
      have hne := HUe.out er rfl
      have g6 : ((er : Int) != 0) = true := bne_t (by omega)
      have HB6 := Lib.hid (HB5.out.trans (hb6.mono HB5.out.size))
      clear hb6 hne HU HUr HUp HUe n0
      go_wp2_with fail
      refine (live11 HRI.out w6).mono ?_
      rintro e w7 ⟨rfl, hb7⟩
      have HBF := Lib.hid (HB.out.trans ((HB6.out.trans (hb7.mono HB6.out.size)).mono HB.out.size))
      clear hb7
      go_wp2
      go_ret
      exact ⟨by simp, HBF.out⟩
    | ok m2 =>
      obtain ⟨q6, c6, rfl, hr6, hb6⟩ := h6
      obtain ⟨u1, u2, u3, u4, u5, u6, u7, u8⟩ := HUp.out m2 rfl
      have HR6 := Lib.hid (hr6.rows u8 u7)
      have hb6' := HB5.out.trans (hb6.mono HB5.out.size)
      have HB6 := Lib.hid hb6'
      have hZ := sizeK HRI.out s p c m2 q6 c6 w6 (HX.out.on hb6').sch HR6.out
      rw [u1, u2] at hZ
      have HZ := Lib.hid hZ
      have HU6 := Lib.hid u6
      have HU4 := Lib.hid u4
      have HU3 := Lib.hid u3
      have n0 := boxed_cell (blk_on HK1.out hb6' (blk_lt HK1.out))
      clear hr6 hb6 hb6' hZ u1 u2 u3 u4 u6 HU HUp HUe
      go_wp2_with fail
      refine HZ.out.mono ?_
      rintro e w7 ⟨rfl, hb7⟩
      have HB67 := Lib.hid hb7
      have HB7 := Lib.hid (HB6.out.trans (hb7.mono HB6.out.size))
      clear hb7 HZ n0
      go_wp2_with fail
      refine (HUr.out w7 HB7.out).mono ?_
      rintro e w8 ⟨q8, m8, c8, rfl, hm8, -, hb8⟩
      subst hm8
      rw [HU3.out]
      have HB68 := Lib.hid (HB67.out.trans (hb8.mono HB67.out.size))
      have HB8 := Lib.hid (HB7.out.trans (hb8.mono HB7.out.size))
      have n0 := boxed_cell (blk_on HK1.out HB8.out (blk_lt HK1.out))
      have HP8 := Lib.hid (packBK HRI.out s p c m2 q6 c6 w8 (HX.out.on HB8.out).sch (HR6.out.on HB68.out))
      obtain ⟨P2, hP2⟩ : ∃ P2, P2 = Bt.pack s m2 := ⟨_, rfl⟩
      rw [← hP2] at HP8 HU6 HU4 u5
      clear hb8 HUr hP2
      go_wp2_with fail
      refine HP8.out.mono ?_
      rintro e w9 ⟨q9, m9, c9, rfl, hm9, hh9, hb9⟩
      subst hm9
      rw [HU4.out]
      have HB69 := Lib.hid (HB68.out.trans (hb9.mono HB68.out.size))
      have HB9 := Lib.hid (HB8.out.trans (hb9.mono HB8.out.size))
      have n0 := boxed_cell (blk_on HK1.out HB9.out (blk_lt HK1.out))
      obtain ⟨qb, cb, heb, hatb, hcb⟩ := hh9.at
      injection heb with f1 _ f3
      subst f1 f3
      have hU9 := unpackBK HRI.out s p c P2.out q9 c9 n w9 (HX.out.on HB9.out).sch (by omega) hcb hatb
      rw [HU6.out] at hU9
      have HU9 := Lib.hid hU9
      clear hh9 hb9 HP8 hatb hU9 HU6 HU4 HU3
      go_wp2_with fail
      refine HU9.out.mono ?_
      rintro e w10 ⟨q10, c10, rfl, hr10, hb10⟩
      have HR10 := Lib.hid (hr10.rows u8 u7)
      have HB610 := Lib.hid (HB69.out.trans (hb10.mono HB69.out.size))
      have HB10 := Lib.hid (HB9.out.trans (hb10.mono HB9.out.size))
      clear hr10 hb10 HU9 n0
      go_wp2_with fail
      refine (live11 HRI.out w10).mono ?_
      rintro e w11 ⟨rfl, hb11⟩
      have HB611 := Lib.hid (HB610.out.trans (hb11.mono HB610.out.size))
      have HB11 := Lib.hid (HB10.out.trans (hb11.mono HB10.out.size))
      have HAll := Lib.hid (allK m2 q10 q6 c10 c6 w11 (HR10.out.on hb11) (HR6.out.on HB611.out))
      clear hb11
      go_wp2_with fail
      refine HAll.out.mono ?_
      rintro e w12 ⟨rfl, hb12⟩
      have HBF := Lib.hid (HB.out.trans ((HB11.out.trans (hb12.mono HB11.out.size)).mono HB.out.size))
      clear hb12 HAll
      go_wp2
      go_ret
      exact ⟨by simp, HBF.out⟩
end Go.Proofs.YtpkbdnilakaakaaGreat
