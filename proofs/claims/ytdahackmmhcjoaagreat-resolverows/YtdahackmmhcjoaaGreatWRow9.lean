/- The document's own Row. -/
import Derived.Test.YtdahackmmhcjoaaGreatWGiven9
import Derived.Test.YtdahackmmhcjoaaGreatTb9
import Derived.Test.YtdahackmmhcjoaaGreatM18
import Derived.Test.YtdahackmmhcjoaaGreatM20
import Derived.Test.YtdahackmmhcjoaaGreatM02
import Derived.Test.YtdahackmmhcjoaaGreatM05
namespace Go.Proofs.YtdahackmmhcjoaaGreat
open Go.RowKit

attribute [local go_sem] run_store_float

set_option maxRecDepth 100000 in
set_option maxHeartbeats 4000000 in
theorem refRow9 (s t : List Col) (vs : List V) (p q v : Option Addr) (cp cq cv : Nat) (w : World) (hs : s.length * 120 ≤ 140737488351232) (ht : t.length * 120 ≤ 140737488351232) (hcp : s.length ≤ cp) (hcq : t.length ≤ cq) (hx : Cols w p s) (hy : Cols w q t) (hv : Items w v vs) (hws : ∀ x ∈ s, x.wf) (hwt : ∀ x ∈ t, x.wf) (hwv : ∀ x ∈ vs, x.wf) :
    Calls Tryz.prog 5 #[.agg #[.slice p s.length cp], .agg #[.slice q t.length cq], .agg #[.slice v vs.length cv]] w (RowR w (Rz.row s t vs)) := by
  obtain ⟨W0, hW0⟩ : ∃ W0, W0 = (((w.alloc (.cells #[.slice p s.length cp] 24)).alloc (.cells #[.slice q t.length cq] 24)).alloc (.cells #[.slice v vs.length cv] 27)).alloc (.cells #[.slice none 0 0] 27) := ⟨_, rfl⟩
  obtain ⟨l0, l1, l2, l3, lb, ls⟩ := al4 w (.cells #[.slice p s.length cp] 24) (.cells #[.slice q t.length cq] 24) (.cells #[.slice v vs.length cv] 27) (.cells #[.slice none 0 0] 27)
  rw [← hW0] at l0 l1 l2 l3 lb ls
  have HW0 := Lib.hid hW0
  have HB0 := Lib.hid lb
  have HS0 := Lib.hid ls
  have HCl : Hid (∀ w', Below W0.heap.size W0 w' → w'.cell? ⟨w.heap.size, 0, none⟩ = some (.slice p s.length cp) ∧ w'.cell? ⟨w.heap.size + 1, 0, none⟩ = some (.slice q t.length cq) ∧ w'.cell? ⟨w.heap.size + 1 + 1, 0, none⟩ = some (.slice v vs.length cv) ∧ w'.cell? ⟨w.heap.size + 1 + 1 + 1, 0, none⟩ = some (.slice none 0 0) ∧ w'.frozen? ⟨w.heap.size + 1 + 1 + 1, 0, none⟩ = false) := fun w' h => ⟨blk_at l0 h 0, blk_at l1 h 0, blk_at l2 h 0, blk_at l3 h 0, blk_free ((h.block _ (blk_lt l3)).trans l3) 0⟩
  have HT6 : Hid (∀ w', Below W0.heap.size W0 w' → w'.heap[w.heap.size + 1 + 1 + 1]? = some (.cells #[.slice none 0 0] 27 (0, 0))) := fun w' h => (h.block _ (blk_lt l3)).trans l3
  have HCk := Lib.hid (refCheck9 s t p q cp cq W0 hs ht hcp hcq (hx.on lb) (hy.on lb) hws hwt)
  have HCr := Lib.hid (fun w' (h : Below w.heap.size w w') => refGiven9 s vs p v cp cv w' hs (hx.on h) (fun j hj => by obtain ⟨u, h1, h2⟩ := hv j hj; exact ⟨u, h1.on h, h2.on h⟩))
  have HGd := Lib.hid (fun hck hg c hc => Rz.one_good (s := s) (t := t) (vs := vs) hck hg hwv hwt (c := c) hc)
  have HRd : Hid (Rz.check s t = 0 → Rz.given s vs = 0 → ∀ y ∈ t, ∀ j (h1 : j < s.length) (h2 : j < vs.length), Sch.find y.name s 0 = some j → ∀ w' us ut uv, TLies w' us s[j].ty → TLies w' ut y.ty → VLies w' uv vs[j] → Calls Tryz.prog 16 #[.agg uv, .agg us, .agg ut] w' (ValR w' (Rz.read 7 vs[j] s[j].ty y.ty))) := fun hck hg y hyt j h1 h2 hf w' us ut uv hts htt huv => by
    obtain ⟨hes, het, hcs⟩ := Rz.check_open hck
    obtain ⟨hgl, hgv⟩ := Rz.given_open hg
    have hce := hcs y hyt
    have hv' := Rw.vErr_zero (hgv j h1 h2)
    have hc' : Rz.can 7 s[j].ty y.ty = true := by
      unfold Rz.colErr at hce
      rw [hf] at hce
      have hce' : (if Rz.can 7 (Rz.colAt s j).ty y.ty then 0 else 60) = 0 := hce
      rw [Rz.colAt_get h1] at hce'
      cases h : Rz.can 7 s[j].ty y.ty with
      | true => rfl
      | false => rw [h] at hce'; cases hce'
    exact refRead9 7 vs[j] s[j].ty y.ty 1 1 1 w' us ut uv (Rz.ty_ok hes (List.getElem_mem h1)) (Rz.ty_ok het hyt) hv'.2.1 hv'.2.2 (hwv _ (List.getElem_mem h2)) (by omega) hc' hts htt huv
  have HGl : Hid (Rz.given s vs = 0 → vs.length = s.length) := fun h => (Rz.given_open h).1
  have HE : Hid (Rz.row s t vs = if Rz.check s t ≠ 0 then .error (Rz.check s t) else if Rz.given s vs ≠ 0 then .error (Rz.given s vs) else Rz.allR (Rz.one s vs) t) := rfl
  obtain ⟨r, hr⟩ : ∃ r, r = Rz.row s t vs := ⟨_, rfl⟩
  rw [← hr] at HE ⊢
  obtain ⟨ec, hec⟩ : ∃ n, n = Rz.check s t := ⟨_, rfl⟩
  obtain ⟨eg, heg⟩ : ∃ n, n = Rz.given s vs := ⟨_, rfl⟩
  rw [← hec] at HCk HE HRd HGd
  rw [← heg] at HCr HE HRd HGd HGl
  have HX := Lib.hid hx
  have HY := Lib.hid hy
  have HV := Lib.hid hv
  clear hr hec heg hW0 l0 l1 l2 l3 lb ls hx hy hv hws hwt hwv
  go_enter Tryz.func5, Tryz.ntmps5
  go_wp2_with fail
  rw [← HW0.out]
  clear HW0
  refine HCk.out.mono ?_
  rintro e w1 ⟨rfl, hb1⟩
  have HB1 := Lib.hid hb1
  have HB1w := Lib.hid (HB0.out.trans (hb1.mono HB0.out.size))
  obtain ⟨c0, c1, c2, c3, c4⟩ := HCl.out w1 hb1
  clear hb1 HCk
  by_cases h0 : ¬ ec = 0
  · have g0 : ((ec : Int) != 0) = true := bne_t (by omega)
    have HE2 : Hid (r = .error ec) := by show _ = _; rw [HE.out, if_pos h0]
    clear h0 HE
    go_wp2
    refine endR rfl rfl rfl rfl (put1_block (HT6.out w1 HB1.out)) rfl ?_
    rw [HE2.out]
    exact rowR_err HB1w.out (by omega)
  replace h0 : ec = 0 := Classical.not_not.1 h0
  have g0 : ((ec : Int) != 0) = false := bne_f (by omega)
  go_wp2_with fail
  refine (HCr.out w1 HB1w.out).mono ?_
  rintro e w2 ⟨rfl, hb2⟩
  have HB2 := Lib.hid (HB1.out.trans (hb2.mono HB1.out.size))
  have HB2w := Lib.hid (HB1w.out.trans (hb2.mono HB1w.out.size))
  clear hb2 HCr c0 c1 c2 c3 c4
  obtain ⟨c0, c1, c2, c3, c4⟩ := HCl.out w2 HB2.out
  by_cases h1 : ¬ eg = 0
  · have g1 : ((eg : Int) != 0) = true := bne_t (by omega)
    have HE2 : Hid (r = .error eg) := by show _ = _; rw [HE.out, if_neg (by omega), if_pos h1]
    clear h0 h1 HE
    go_wp2
    refine endR rfl rfl rfl rfl (put1_block (HT6.out w2 HB2.out)) rfl ?_
    rw [HE2.out]
    exact rowR_err HB2w.out (by omega)
  replace h1 : eg = 0 := Classical.not_not.1 h1
  have g1 : ((eg : Int) != 0) = false := bne_f (by omega)
  have HE2 : Hid (r = Rz.allR (Rz.one s vs) t) := by show _ = _; rw [HE.out, if_neg (by omega), if_neg (by omega)]
  have HRd2 := Lib.hid (HRd.out h0 h1)
  have HGl2 := Lib.hid (HGl.out h1)
  have HNe : Hid (∀ c ∈ t, ∀ e, Rz.one s vs c = .error e → e ≠ 0) := fun c hc e he => by
    have := HGd.out h0 h1 c hc
    rw [he] at this
    exact this
  clear HE HRd HGd HGl h0 h1
  go_wp2_with fail
  go_loopw [10, 11] (fun v10 v11 wr => ∃ (zs : List V) (j : Nat) (q9 : Option Addr) (d9 : Nat), j ≤ t.length ∧ v11 = .int .i64 j ∧ v10 = .slice q9 j d9 ∧ Hid (zs.length = j ∧ Grow w2 (.slice q9 j d9) zs wr ∧ Rz.allR (Rz.one s vs) (t.take j) = .ok zs)) (fun _ v11 _ => t.length - (intOf v11).toNat)
  case atStart => exact ⟨[], 0, none, 0, by omega, rfl, rfl, rfl, grow_nil w2, rfl⟩
  case round =>
    obtain ⟨zs, j, q9, d9, hj, rfl, rfl, HG⟩ := hrel
    have HK2 : Hid (Below w2.heap.size w2 wr) := HG.out.2.1.keep
    have HK : Hid (Below W0.heap.size W0 wr) := HB2.out.trans (HK2.out.mono HB2.out.size)
    have HBw : Hid (Below w.heap.size w wr) := HB2w.out.trans (HK2.out.mono HB2w.out.size)
    clear c0 c1 c2 c3 c4
    obtain ⟨c0, c1, c2, c3, c4⟩ := HCl.out wr HK.out
    by_cases hlt : j < t.length
    · obtain ⟨bx, ox, k, tp, tn, tc, vk, vi, vb, vt, vp, vn, vc, rfl, _, h9, hT, hD⟩ := (HY.out.on HBw.out).at j hlt
      obtain ⟨a0, a1, a2, a3, a4, a5, a6, a7, a8⟩ := h9
      have hj1 : (j : Int) < (t.length : Int) := by omega
      obtain ⟨wr1, hwr1⟩ : ∃ W, W = wr.alloc (.cells #[.string t[j].name, .int .i64 k, .slice tp tn tc, .bool t[j].has, .int .i64 vk, .int .i64 vi, .float .f64 vb, .string vt, .slice vp vn vc] 44) := ⟨_, rfl⟩
      have hba : Below wr.heap.size wr wr1 := by rw [hwr1]; exact (Below.refl _ _).alloc (Nat.le_refl _) _
      have HBa := Lib.hid hba
      have hsa : wr1.heap.size = wr.heap.size + 1 := by rw [hwr1]; simp
      have HBk : Hid (wr1.heap[wr.heap.size]? = some (.cells #[.string t[j].name, .int .i64 k, .slice tp tn tc, .bool t[j].has, .int .i64 vk, .int .i64 vi, .float .f64 vb, .string vt, .slice vp vn vc] 44 (0, 0))) := by rw [hwr1]; exact blk_new wr _
      have HWr := Lib.hid hwr1
      have HFx := Lib.hid (refFix6 t[j].dflt wr1 _ (hD.on hba))
      unfold cells5 at HFx
      have HT := Lib.hid (hT.on hba)
      obtain ⟨rx, hrx⟩ : ∃ rx, rx = Rz.one s vs t[j] := ⟨_, rfl⟩
      have HRx := Lib.hid hrx
      have HOn : Hid (rx = match Sch.find t[j].name s 0 with
        | none => .ok (V.fix t[j].dflt)
        | some k => Rz.read 7 (vs.getD k V0) (Rz.colAt s k).ty t[j].ty) := hrx
      have HRc := Lib.hid (HRd2.out t[j] (List.getElem_mem hlt))
      have HFd := Lib.hid (fun w' (h : Below w.heap.size w w') => refFind7 s t[j].name p cp w' hs (HX.out.on h))
      have HFo : Hid (∀ k, Sch.find t[j].name s 0 = some k → ∃ h : k < s.length, s[k].name = t[j].name) := fun k h => Rz.find_here h
      obtain ⟨fo, hfo⟩ : ∃ fo, fo = Sch.find t[j].name s 0 := ⟨_, rfl⟩
      rw [← hfo] at HFd HOn HFo HRc
      obtain ⟨us, Fs, hbt⟩ := HG.out.2.1.built
      have HBt := Lib.hid hbt
      have HGr := Lib.hid HG.out.2.1
      have hzl := HG.out.1
      have HZl := Lib.hid hzl
      have HRow : Hid (∀ W', Below wr.heap.size wr W' → W'.ownsRow w2.heap.size 35 5 (.slice q9 j d9) j (flat us j)) := fun W' hb => by
        have := (hbt.on hb).row
        rw [hzl] at this
        exact this
      have HT6r : Hid (∀ W', Below wr.heap.size wr W' → W'.heap[w.heap.size + 1 + 1 + 1]? = some (.cells #[.slice none 0 0] 27 (0, 0))) := fun W' hb => HT6.out W' (HK.out.trans (hb.mono HK.out.size))
      have hsz := HK2.out.size
      have htl : j + 1 ≤ t.length := hlt
      generalize t[j].name = nm at *
      generalize t[j].has = hh at *
      clear hrx hwr1 hT hD hba hbt hfo hzl
      go_wp2_with fail
      rw [← HWr.out]
      clear HWr a0 a1 a2 a3 a4 a5 a6 a7 a8
      refine HFx.out.mono ?_
      rintro e w5 ⟨u5, rfl, hv5, hb5⟩
      obtain ⟨fk, fi, fb, ft, fp, fn, fc, rfl⟩ := hv5.shape
      unfold cells5 at hv5 ⊢
      obtain ⟨W5, hW5⟩ : ∃ W, W = w5.alloc (.cells #[.int .i64 fk, .int .i64 fi, .float .f64 fb, .string ft, .slice fp fn fc] 35) := ⟨_, rfl⟩
      have h55 : Below w5.heap.size w5 W5 := by rw [hW5]; exact (Below.refl _ _).alloc (Nat.le_refl _) _
      have hb5r : Below wr.heap.size wr w5 := HBa.out.trans (hb5.mono HBa.out.size)
      have hb5R : Below wr.heap.size wr W5 := hb5r.trans (h55.mono hb5r.size)
      have HB5 := Lib.hid hb5R
      have hs5 : W5.heap.size = w5.heap.size + 1 := by rw [hW5]; simp
      have HK5 : Hid (W5.heap[w5.heap.size]? = some (.cells #[.int .i64 fk, .int .i64 fi, .float .f64 fb, .string ft, .slice fp fn fc] 35 (0, 0)) ∧ W5.heap[wr.heap.size]? = some (.cells #[.string nm, .int .i64 k, .slice tp tn tc, .bool hh, .int .i64 vk, .int .i64 vi, .float .f64 vb, .string vt, .slice vp vn vc] 44 (0, 0)) ∧ TLies W5 (cells2 k tp tn tc) t[j].ty) := by
        have hb15 : Below wr1.heap.size wr1 W5 := hb5.trans (h55.mono hb5.size)
        exact ⟨by rw [hW5]; exact blk_new w5 _, (hb15.block _ (blk_lt HBk.out)).trans HBk.out, HT.out.on hb15⟩
      have HV5 : Hid (VOwn W5 (fun i => wr.heap.size ≤ i ∧ i < w5.heap.size) #[.int .i64 fk, .int .i64 fi, .float .f64 fb, .string ft, .slice fp fn fc] (V.fix t[j].dflt)) := (hv5.under h55 (fun i hi => hi.2)).mono fun i hi => ⟨by omega, hi.2⟩
      have hs5r : wr.heap.size + 1 ≤ w5.heap.size := by have := hb5.size; omega
      have m0 : W5.cell? ⟨wr.heap.size, 0, none⟩ = some (.string nm) := blk_cell HK5.out.2.1 0
      have m1 : W5.cell? ⟨w.heap.size, 0, none⟩ = some (.slice p s.length cp) := cell_on hb5R c0
      rw [hW5] at m0 m1
      have HFd5 := Lib.hid (HFd.out W5 (HBw.out.trans (hb5R.mono HBw.out.size)))
      have HW5 := Lib.hid hW5
      clear hW5 h55 hb5r hb5R hb5 hv5 HFx HFd HT HBk
      go_wp2_with fail
      rw [← HW5.out]
      clear HW5 m0 m1
      refine HFd5.out.mono ?_
      rintro e w6 ⟨rfl, hb6⟩
      have HB6 := Lib.hid hb6
      have hb6r : Below wr.heap.size wr w6 := HB5.out.trans (hb6.mono HB5.out.size)
      have HB6r := Lib.hid hb6r
      have hs6 := hb6.size
      have HK6 : Hid (w6.heap[w5.heap.size]? = some (.cells #[.int .i64 fk, .int .i64 fi, .float .f64 fb, .string ft, .slice fp fn fc] 35 (0, 0)) ∧ w6.heap[wr.heap.size]? = some (.cells #[.string nm, .int .i64 k, .slice tp tn tc, .bool hh, .int .i64 vk, .int .i64 vi, .float .f64 vb, .string vt, .slice vp vn vc] 44 (0, 0)) ∧ TLies w6 (cells2 k tp tn tc) t[j].ty) := ⟨(hb6.block _ (blk_lt HK5.out.1)).trans HK5.out.1, (hb6.block _ (blk_lt HK5.out.2.1)).trans HK5.out.2.1, HK5.out.2.2.on hb6⟩
      unfold foundV
      clear hb6 HFd5
      cases fo with
      | none =>
        have HV6 : Hid (VOwn w6 (fun i => wr.heap.size ≤ i ∧ i < w6.heap.size) #[.int .i64 fk, .int .i64 fi, .float .f64 fb, .string ft, .slice fp fn fc] (V.fix t[j].dflt)) := (HV5.out.under HB6.out (fun i hi => by omega)).mono fun i hi => ⟨hi.1, by omega⟩
        have HRt : Hid (Rz.allR (Rz.one s vs) (t.take (j + 1)) = .ok (zs ++ [V.fix t[j].dflt])) := Rz.allR_step t j hlt HG.out.2.2 (HRx.out.symm.trans HOn.out)
        have f0 := blk_cell HK6.out.1 0
        have f1 := blk_cell HK6.out.1 1
        have f2 := blk_cell HK6.out.1 2
        have f3 := blk_cell HK6.out.1 3
        have f4 := blk_cell HK6.out.1 4
        have HB4 : Hid (Below w6.heap.size w6 (w6.alloc (.cells #[.int .i64 fk, .int .i64 fi, .float .f64 fb, .string ft, .slice fp fn fc] 35))) := (Below.refl _ _).alloc (Nat.le_refl _) _
        have HB4w : Hid (Below wr.heap.size wr (w6.alloc (.cells #[.int .i64 fk, .int .i64 fi, .float .f64 fb, .string ft, .slice fp fn fc] 35))) := hb6r.alloc hb6r.size _
        have hs6r := hb6r.size
        clear hb6r
        go_wp2_with (at_builtin; refine wp_more (B := w2.heap.size) (us := us) (HRow.out _ HB4w.out) (u := #[.int .i64 fk, .int .i64 fi, .float .f64 fb, .string ft, .slice fp fn fc]) rfl (one5 HV6.out) (ad := w6.heap.size) (blk_new w6 _) (by omega) (by simp; omega) rfl rfl rfl rfl rfl ?_
                     intro g2 cap2 w7 hr4 hg4 hn4
                     have HMK : Hid ((zs ++ [V.fix t[j].dflt]).length = j + 1 ∧ Grow w2 (.slice (some ⟨g2, 0, none⟩) (j + 1) cap2) (zs ++ [V.fix t[j].dflt]) w7 ∧ Rz.allR (Rz.one s vs) (t.take (j + 1)) = .ok (zs ++ [V.fix t[j].dflt])) := by
                       have hzl := HZl.out
                       subst hzl
                       exact ⟨by simp, HGr.out.next HBt.out HB6r.out HV6.out (fun _ h => h) HB4.out hr4 hg4 hn4, HRt.out⟩
                     clear hr4 hg4 hn4)
        go_roundw
        case rel => exact ⟨_, j + 1, _, _, by omega, by go_num, rfl, HMK⟩
        case measure => simp [intOf]; omega
      | some kf =>
        obtain ⟨hk1, -⟩ := HFo.out kf rfl
        have hk2 : kf < vs.length := by have := HGl2.out; omega
        have hki : (kf : Int) < (s.length : Int) := by omega
        have hki2 : (kf : Int) < (vs.length : Int) := by omega
        have hB6w : Below w.heap.size w w6 := HBw.out.trans (HB6r.out.mono HBw.out.size)
        obtain ⟨bs, os', ks, sp, sn, sc, _, _, _, _, _, _, _, hpe, hbsl, h9s, hTs, -⟩ := (HX.out.on hB6w).at kf hk1
        obtain ⟨-, s1, s2, -⟩ := h9s
        obtain ⟨uv, hv1, hv2⟩ := HV.out kf hk2
        obtain ⟨by', oy, ky, iy, fy, ty, qy, ny, cy, hve, hbyl, rfl, b0, b1, b2, b3, b4⟩ := (hv2.on hB6w).lies
        have HRk : Hid (rx = Rz.read 7 vs[kf] s[kf].ty t[j].ty) := by
          show _ = _
          have := HOn.out
          rw [this]
          show Rz.read 7 (vs.getD kf V0) (Rz.colAt s kf).ty t[j].ty = _
          rw [Rz.getD_get hk2, Rz.colAt_get hk1]
        have HCx : Hid (∀ W', Below w6.heap.size w6 W' → Calls Tryz.prog 16 #[.agg #[.int .i64 ky, .int .i64 iy, .float .f64 fy, .string ty, .slice qy ny cy], .agg #[.int .i64 ks, .slice sp sn sc], .agg #[.int .i64 k, .slice tp tn tc]] W' (ValR W' rx)) := fun W' hb => by
          rw [HRk.out]
          exact HRc.out kf hk1 hk2 rfl W' _ _ _ (hTs.on hb) (HK6.out.2.2.on hb) ((hv1.on hB6w).on hb)
        subst hpe hve
        have n0 : w6.cell? ⟨w.heap.size + 1 + 1, 0, none⟩ = some (.slice (some ⟨by', oy, none⟩) vs.length cv) := cell_on HB6r.out c2
        have n1 : w6.cell? ⟨w.heap.size, 0, none⟩ = some (.slice (some ⟨bs, os', none⟩) s.length cp) := cell_on HB6r.out c0
        have n2 : w6.cell? ⟨wr.heap.size, 1, none⟩ = some (.int .i64 k) := blk_cell HK6.out.2.1 1
        have n3 : w6.cell? ⟨wr.heap.size, 2, none⟩ = some (.slice tp tn tc) := blk_cell HK6.out.2.1 2
        have HBb : Hid (Below w6.heap.size w6 w6) := Below.refl _ _
        have hne1 : ¬ w.heap.size + 1 + 1 = w6.heap.size := by have := HBw.out.size; have := HB6r.out.size; have := HS0.out; have := HK.out.size; omega
        have hne2 : ¬ w.heap.size = w6.heap.size := by have := HBw.out.size; have := HB6r.out.size; have := HS0.out; have := HK.out.size; omega
        have hne3 : ¬ wr.heap.size = w6.heap.size := by omega
        have hne4 : ¬ bs = w6.heap.size := by omega
        have hne5 : ¬ by' = w6.heap.size := by omega
        have hnr1 : ¬ w6.heap.size = w.heap.size + 1 + 1 := fun h => hne1 h.symm
        have hnr2 : ¬ w6.heap.size = w.heap.size := fun h => hne2 h.symm
        have hnr3 : ¬ w6.heap.size = wr.heap.size := fun h => hne3 h.symm
        have hnr4 : ¬ w6.heap.size = bs := fun h => hne4 h.symm
        have hnr5 : ¬ w6.heap.size = by' := fun h => hne5 h.symm
        clear hv1 hv2 hTs hB6w hb6r c0 c1 c2 c3 c4
        go_wp2_with fail
        go_cut [16, 17] from 32 to 80 (fun v16 v17 wx => ∃ (gb : Nat) (er : Int), v16 = .pointer (some ⟨gb, 0, none⟩) ∧ v17 = .int .i64 er ∧ Hid (Told5 w6 wx gb er rx))
        case first =>
          go_region_held3 (fun w' => w'.cell? ⟨w.heap.size + 1 + 1, 0, none⟩ = some (.slice (some ⟨by', oy, none⟩) vs.length cv) ∧ w'.cell? ⟨w.heap.size, 0, none⟩ = some (.slice (some ⟨bs, os', none⟩) s.length cp) ∧ w'.cell? ⟨wr.heap.size, 1, none⟩ = some (.int .i64 k) ∧ w'.cell? ⟨wr.heap.size, 2, none⟩ = some (.slice tp tn tc) ∧ w'.cell? ⟨bs, os' + kf * 9 + 1, none⟩ = some (.int .i64 ks) ∧ w'.cell? ⟨bs, os' + kf * 9 + 2, none⟩ = some (.slice sp sn sc) ∧ w'.cell? ⟨by', oy + kf * 5, none⟩ = some (.int .i64 ky) ∧ w'.cell? ⟨by', oy + kf * 5 + 1, none⟩ = some (.int .i64 iy) ∧ w'.cell? ⟨by', oy + kf * 5 + 2, none⟩ = some (.float .f64 fy) ∧ w'.cell? ⟨by', oy + kf * 5 + 3, none⟩ = some (.string ty) ∧ w'.cell? ⟨by', oy + kf * 5 + 4, none⟩ = some (.slice qy ny cy)) (go_keep) (first
            | (go_at_call 16; refine (HCx.out _ (by first | exact below_drewN HBb.out _ | exact below_drewN (HBb.out.alloc HBb.out.size _) _ | exact (below_drewN HBb.out _).alloc HBb.out.size _ | exact below_drewN ((below_drewN HBb.out _).alloc HBb.out.size _) _ | exact HBb.out | exact HBb.out.alloc HBb.out.size _)).mono ?_; intro e w8 hh8; obtain ⟨k5, i5, b5, t5, p5, n5, c5, er, he, hb8, hv8⟩ := hh8.any; unfold cells5 at he; subst he; have hx := below_on (by first | exact below_drewN HBb.out _ | exact below_drewN (HBb.out.alloc HBb.out.size _) _ | exact (below_drewN HBb.out _).alloc HBb.out.size _ | exact below_drewN ((below_drewN HBb.out _).alloc HBb.out.size _) _ | exact HBb.out | exact HBb.out.alloc HBb.out.size _) hb8; have q0 := cell_on hx n0; have q1 := cell_on hx n1; have q2 := cell_on hx n2; have q3 := cell_on hx n3; have q4 := cell_on hx s1; have q5 := cell_on hx s2; have q6 := cell_on hx b0; have q7 := cell_on hx b1; have q8 := cell_on hx b2; have q9 := cell_on hx b3; have q10 := cell_on hx b4
               first
               | (have hz := zero_new (z := .cells #[.int .i64 0, .int .i64 0, .float .f64 0, .string ⟨#[]⟩, .slice none 0 0] 35 (0, 0)) (by rfl) hb8; have y0 := blk_cell hz 0; have y1 := blk_cell hz 1; have y2 := blk_cell hz 2; have y3 := blk_cell hz 3; have y4 := blk_cell hz 4; have x0 := blk_free hz 0; have x1 := blk_free hz 1; have x2 := blk_free hz 2; have x3 := blk_free hz 3; have x4 := blk_free hz 4; have hT := tb_old (by first | exact below_drewN HBb.out _ | exact below_drewN (HBb.out.alloc HBb.out.size _) _ | exact (below_drewN HBb.out _).alloc HBb.out.size _ | exact below_drewN ((below_drewN HBb.out _).alloc HBb.out.size _) _ | exact HBb.out | exact HBb.out.alloc HBb.out.size _) hb8 hz (by exact HBb.out.size) (by simp) hv8; unfold put5 at hT; have HTd := Lib.hid hT; clear hz hT hb8 hv8 hx hh8)
               | (have HTd := Lib.hid (tb_new (by first | exact below_drewN HBb.out _ | exact below_drewN (HBb.out.alloc HBb.out.size _) _ | exact (below_drewN HBb.out _).alloc HBb.out.size _ | exact below_drewN ((below_drewN HBb.out _).alloc HBb.out.size _) _ | exact HBb.out | exact HBb.out.alloc HBb.out.size _) hb8 hv8); clear hb8 hv8 hx hh8)))
          all_goals (try go_wp2_with fail)
          all_goals go_meet
          all_goals exact ⟨_, _, rfl, rfl, HTd⟩
        case rest =>
          obtain ⟨gb, er, rfl, rfl, HTd⟩ := hcut
          have HB8 := Lib.hid HTd.out.below
          clear n0 n1 n2 n3 s1 s2 b0 b1 b2 b3 b4 HCx hne1 hne2 hne3 hne4 hne5 hnr1 hnr2 hnr3 hnr4 hnr5
          have HBc : Hid (Below wr.heap.size wr wc) := HB6r.out.trans (HB8.out.mono HB6r.out.size)
          cases rx with
          | error er' =>
            have hz : er' ≠ 0 := HNe.out _ (List.getElem_mem hlt) er' HRx.out.symm
            have hee : er = (er' : Nat) := HTd.out.told
            subst hee
            have hzb : ((er' : Int) != 0) = true := bne_t (by omega)
            have HRe : Hid (r = .error er') := by
              show _ = _
              rw [HE2.out, Rz.allR_err t j hlt HG.out.2.2 HRx.out.symm]
            have d6 := HT6r.out wc HBc.out
            have e0 : wc.cell? ⟨w.heap.size + 1 + 1 + 1, 0, none⟩ = some (.slice none 0 0) := blk_cell d6 0
            have f0 := blk_free d6 0
            have HD6 := Lib.hid d6
            have HBW : Hid (Below w.heap.size w wc) := HBw.out.trans (HBc.out.mono HBw.out.size)
            clear d6 hz
            go_wp2
            refine endR rfl rfl rfl rfl (put1_block HD6.out) rfl ?_
            rw [HRe.out]
            exact rowR_err HBW.out (by omega)
          | ok x9 =>
            obtain ⟨hee, k5, i5, b5, t5, p5, n5, c5, hk3, hv3⟩ := HTd.out.told
            subst hee
            have HRt : Hid (Rz.allR (Rz.one s vs) (t.take (j + 1)) = .ok (zs ++ [x9])) := Rz.allR_step t j hlt HG.out.2.2 HRx.out.symm
            have hkx := (HB8.out.block _ (blk_lt HK6.out.1)).trans HK6.out.1
            have hxlt := blk_lt HK6.out.1
            obtain ⟨W9, hW9⟩ : ∃ W, W = put5 wc w5.heap.size k5 i5 b5 t5 (.slice p5 n5 c5) := ⟨_, rfl⟩
            have ha9 : Aside (fun i => i = w5.heap.size) wc W9 := by rw [hW9]; exact put5_aside _
            have hs9 : W9.heap.size = wc.heap.size := by rw [hW9]; exact put5_size
            have hb9 : Below wr.heap.size wr W9 := by rw [hW9]; exact put5_below HBc.out (by omega)
            have HB9 := Lib.hid hb9
            have hv9 : VOwn W9 (fun i => wr.heap.size ≤ i ∧ i < W9.heap.size) #[.int .i64 k5, .int .i64 i5, .float .f64 b5, .string t5, .slice p5 n5 c5] x9 := (hv3.aside ha9 (fun i hi hc => by omega)).mono fun i hi => by have := HB6r.out.size; rw [hs9]; omega
            have HV9 := Lib.hid hv9
            obtain ⟨W10, hW10⟩ : ∃ W, W = W9.alloc (.cells #[.int .i64 k5, .int .i64 i5, .float .f64 b5, .string t5, .slice p5 n5 c5] 35) := ⟨_, rfl⟩
            have HB10 : Hid (Below W9.heap.size W9 W10) := by rw [hW10]; exact (Below.refl _ _).alloc (Nat.le_refl _) _
            have HB10r : Hid (Below wr.heap.size wr W10) := by rw [hW10]; exact hb9.alloc hb9.size _
            have HBl : Hid (W10.heap[wc.heap.size]? = some (.cells #[.int .i64 k5, .int .i64 i5, .float .f64 b5, .string t5, .slice p5 n5 c5] 35 (0, 0))) := by rw [hW10, ← hs9]; exact blk_new W9 _
            have hs10 : W10.heap.size = wc.heap.size + 1 := by rw [hW10, ← hs9]; simp
            have HS9 := Lib.hid hs9
            have f0 := blk_cell hk3 0
            have f1 := blk_cell hk3 1
            have f2 := blk_cell hk3 2
            have f3 := blk_cell hk3 3
            have f4 := blk_cell hk3 4
            have e0 := blk_cell hkx 0
            have e1 := blk_cell hkx 1
            have e2 := blk_cell hkx 2
            have e3 := blk_cell hkx 3
            have e4 := blk_cell hkx 4
            have z0 := blk_free hkx 0
            have z1 := blk_free hkx 1
            have z2 := blk_free hkx 2
            have z3 := blk_free hkx 3
            have z4 := blk_free hkx 4
            unfold put5 at hW9
            rw [hW9] at hW10
            have HW10 := Lib.hid hW10
            have hs8r := HBc.out.size
            clear hk3 hkx hv3 hv9 hW9 hW10 ha9 hb9 hs9
            go_wp2_with (first
              | (at_builtin
                 rw [← HW10.out]
                 refine wp_more (B := w2.heap.size) (us := us) (HRow.out _ HB10r.out) (u := #[.int .i64 k5, .int .i64 i5, .float .f64 b5, .string t5, .slice p5 n5 c5]) rfl (one5 HV9.out) (ad := wc.heap.size) HBl.out (by omega) (by omega) (H := wc.heap.size + 1) hs10 rfl rfl rfl rfl ?_
                 intro g2 cap2 w12 hr4 hg4 hn4
                 have HMK : Hid ((zs ++ [x9]).length = j + 1 ∧ Grow w2 (.slice (some ⟨g2, 0, none⟩) (j + 1) cap2) (zs ++ [x9]) w12 ∧ Rz.allR (Rz.one s vs) (t.take (j + 1)) = .ok (zs ++ [x9])) := by
                   have hzl := HZl.out
                   subst hzl
                   exact ⟨by simp, HGr.out.next HBt.out HB9.out HV9.out (fun _ h => h) HB10.out hr4 hg4 (by rw [hs10]; exact hn4), HRt.out⟩
                 clear hr4 hg4 hn4)
              | fail)
            go_roundw
            case rel => exact ⟨_, j + 1, _, _, by omega, by go_num, rfl, HMK⟩
            case measure => simp [intOf]; omega
    · have hjn : ¬ (j : Int) < (t.length : Int) := by omega
      have hjj : j = t.length := by omega
      have d6 := HT6.out wr HK.out
      have HD6 := Lib.hid d6
      have HRe : Hid (r = .ok zs) := by
        have h3 := HG.out.2.2
        rw [hjj, List.take_length] at h3
        show _ = _
        rw [HE2.out, h3]
      have HZ : Hid (RowR w (.ok zs) (.returned (.tuple #[.agg #[.slice q9 j d9], .int .i64 0])) (wr.setCell ⟨w.heap.size + 1 + 1 + 1, 0, none⟩ (.slice q9 j d9))) := by
        have h1 := HG.out.1
        have h2 := HG.out.2.1
        rw [← h1] at h2 ⊢
        exact rowR_ok HBw.out (by omega) (by have := HB2.out.size; have := HS0.out; omega) h2 (by omega)
      clear d6 hjj HG HE2
      go_wp2
      refine endR rfl rfl rfl rfl (put1_block HD6.out) rfl ?_
      rw [HRe.out]
      exact HZ.out
end Go.Proofs.YtdahackmmhcjoaaGreat
