/- The document's own Project. -/
import Derived.Test.YtbedlaaedefclaaZGrowD9
import Derived.Test.YtbedlaaedefclaaM41
import Derived.Test.YtbedlaaedefclaaM06
import Derived.Test.YtbedlaaedefclaaM14
import Derived.Test.YtbedlaaedefclaaM21
namespace Go.Proofs.Ytbedlaaedefclaa
open Go.RowKit

attribute [local go_sem] run_store_float

/-- five cells more of a block, from the fourth on -/
def put5d (w : World) (g : Nat) (v4 v5 v6 v7 v8 : Value) : World := ((((w.setCell ⟨g, 4, none⟩ v4).setCell ⟨g, 5, none⟩ v5).setCell ⟨g, 6, none⟩ v6).setCell ⟨g, 7, none⟩ v7).setCell ⟨g, 8, none⟩ v8
section
variable {w1 : World} {g : Nat} {a0 a1 a2 a3 a4 a5 a6 a7 a8 v4 v5 v6 v7 v8 : Value} {T : TypeId}
theorem put5d_block (h : w1.heap[g]? = some (.cells #[a0, a1, a2, a3, a4, a5, a6, a7, a8] T (0, 0))) : (put5d w1 g v4 v5 v6 v7 v8).heap[g]? = some (.cells #[a0, a1, a2, a3, v4, v5, v6, v7, v8] T (0, 0)) := by
  unfold put5d
  rw [blk_set (blk_set (blk_set (blk_set (blk_set h 4 _) 5 _) 6 _) 7 _) 8 _]
  rfl
theorem put5d_aside : Aside (fun j => j = g) w1 (put5d w1 g v4 v5 v6 v7 v8) := by
  unfold put5d
  have h0 : Aside (fun j => j = g) w1 (w1.setCell ⟨g, 4, none⟩ v4) := (Aside.refl (fun j => j = g) w1).setCell (p := ⟨g, 4, none⟩) (.inl rfl) _
  have h1 := h0.setCell (p := ⟨g, 5, none⟩) (.inl rfl) v5
  have h2 := h1.setCell (p := ⟨g, 6, none⟩) (.inl rfl) v6
  have h3 := h2.setCell (p := ⟨g, 7, none⟩) (.inl rfl) v7
  exact h3.setCell (p := ⟨g, 8, none⟩) (.inl rfl) v8
end
/-- a name is among those that are there just if it was named -/
theorem proj_find {s : List Col} {ns : List ByteArray} {zs : List Col} (h : Rz.proj s [] ns = .ok zs) (n : ByteArray) : (Rz.hasN ns n = true → ∃ k, Sch.find n zs 0 = some k) ∧ (Rz.hasN ns n = false → Sch.find n zs 0 = none) := by
  obtain ⟨h1, -, -, h4⟩ := Rz.proj_open ns [] h
  have hnm : ∀ i (hi : i < ns.length) (hz : i < zs.length), zs[i].name = ns[i] := fun i hi hz => by
    obtain ⟨k, hk, hp⟩ := h4 i hi hz
    obtain ⟨hk1, hk2⟩ := Rz.find_here hk
    rw [hp, Rz.colAt_get hk1]
    exact hk2
  refine ⟨fun hh => ?_, fun hh => ?_⟩
  · cases hf : Sch.find n zs 0 with
    | some k => exact ⟨k, rfl⟩
    | none =>
      obtain ⟨i, hi, rfl⟩ := List.mem_iff_getElem.1 ((Rz.hasN_iff ns n).1 hh)
      exact absurd (hnm i hi (by omega)) (Rz.find_none _ zs 0 hf _ (List.getElem_mem (by omega)))
  · cases hf : Sch.find n zs 0 with
    | none => rfl
    | some k =>
      obtain ⟨hk1, hk2⟩ := Rz.find_here hf
      have : n ∈ ns := by
        rw [← hk2, hnm k (by omega) hk1]
        exact List.getElem_mem (by omega)
      rw [(Rz.hasN_iff ns n).2 this] at hh
      cases hh

set_option maxRecDepth 100000 in
set_option maxHeartbeats 4000000 in
theorem refProject9 (s : List Col) (ns : List ByteArray) (p q : Option Addr) (cp cq : Nat) (w : World) (hs : s.length * 120 ≤ 140737488351232) (hcp : s.length ≤ cp) (hn : ns.length * 16 ≤ 140737488351232) (hx : Cols w p s) (hy : Names w q ns) (hws : ∀ x ∈ s, x.wf) :
    Calls Try.prog 13 #[.agg #[.slice p s.length cp], .slice q ns.length cq] w (SchR w (Rz.project s ns)) := by
  obtain ⟨W0, hW0⟩ : ∃ W0, W0 = (w.alloc (.cells #[.slice p s.length cp] 37)).alloc (.cells #[.slice none 0 0] 37) := ⟨_, rfl⟩
  obtain ⟨l0, l1, lb, ls⟩ := al2 w (.cells #[.slice p s.length cp] 37) (.cells #[.slice none 0 0] 37)
  rw [← hW0] at l0 l1 lb ls
  have HW0 := Lib.hid hW0
  have HB0 := Lib.hid lb
  have hls : W0.heap.size = w.heap.size + 2 := ls
  have HCl : Hid (∀ w', Below W0.heap.size W0 w' → w'.cell? ⟨w.heap.size, 0, none⟩ = some (.slice p s.length cp) ∧ w'.cell? ⟨w.heap.size + 1, 0, none⟩ = some (.slice none 0 0) ∧ w'.frozen? ⟨w.heap.size + 1, 0, none⟩ = false) := fun w' h => ⟨blk_at l0 h 0, blk_at l1 h 0, blk_free ((h.block _ (blk_lt l1)).trans l1) 0⟩
  have HT6 : Hid (∀ w', Below W0.heap.size W0 w' → w'.heap[w.heap.size + 1]? = some (.cells #[.slice none 0 0] 37 (0, 0))) := fun w' h => (h.block _ (blk_lt l1)).trans l1
  have HCk := Lib.hid (refCheck7 s p cp W0 hs hcp (hx.on lb) hws)
  have HE : Hid (Rz.project s ns = if Sch.err s ≠ 0 then .error (Sch.err s) else if ns.length = 0 then .error 4 else Rz.proj s [] ns) := rfl
  have HX := Lib.hid hx
  have HY := Lib.hid hy
  have HFew := Lib.hid (fun h (l : List ByteArray) zs hz => proj_few (s := s) h l (p := zs) hz)
  obtain ⟨r, hr⟩ : ∃ r, r = Rz.project s ns := ⟨_, rfl⟩
  rw [← hr] at HE ⊢
  obtain ⟨es, hes⟩ : ∃ n, n = Sch.err s := ⟨_, rfl⟩
  rw [← hes] at HCk HE HFew
  clear hr hes hW0 l0 l1 lb ls hx hy hws
  go_enter Try.func13, Try.ntmps13
  go_wp2_with fail
  rw [← HW0.out]
  clear HW0
  refine HCk.out.mono ?_
  rintro e w1 ⟨rfl, hb1⟩
  have HB1 := Lib.hid hb1
  have HB1w := Lib.hid (HB0.out.trans (hb1.mono HB0.out.size))
  have hs1 := hb1.size
  obtain ⟨c0, c1, c2⟩ := HCl.out w1 hb1
  clear hb1 HCk
  by_cases h0 : ¬ es = 0
  · have g0 : ((es : Int) != 0) = true := bne_t (by omega)
    have HE2 : Hid (r = .error es) := by show _ = _; rw [HE.out, if_pos h0]
    clear h0 HE
    go_wp2
    refine endS rfl rfl rfl rfl (put1_block (HT6.out w1 HB1.out)) rfl ?_
    rw [HE2.out]
    exact schR_err HB1w.out (by omega)
  replace h0 : es = 0 := Classical.not_not.1 h0
  have g0 : ((es : Int) != 0) = false := bne_f (by omega)
  have HFew2 := Lib.hid (HFew.out h0)
  by_cases h1 : ns.length = 0
  · have g1 : ((ns.length : Int) == 0) = true := beq_t (by omega)
    have HE2 : Hid (r = .error 4) := by show _ = _; rw [HE.out, if_neg (by omega), if_pos h1]
    clear h0 h1 HE HFew
    go_wp2
    refine endS rfl rfl rfl rfl (put1_block (HT6.out w1 HB1.out)) rfl ?_
    rw [HE2.out]
    exact schR_err HB1w.out (by omega)
  have g1 : ((ns.length : Int) == 0) = false := beq_f (by omega)
  have HE2 : Hid (r = Rz.proj s [] ns) := by show _ = _; rw [HE.out, if_neg (by omega), if_neg h1]
  clear h0 h1 HE HFew
  obtain ⟨W1, hW1⟩ : ∃ W1, W1 = w1.alloc (.cells #[.slice none 0 0] 37) := ⟨_, rfl⟩
  have h11 : Below w1.heap.size w1 W1 := by rw [hW1]; exact (Below.refl _ _).alloc (Nat.le_refl _) _
  have HW1b := Lib.hid (HB1w.out.trans (h11.mono HB1w.out.size))
  have HW1W := Lib.hid (HB1.out.trans (h11.mono HB1.out.size))
  have hs11 : W1.heap.size = w1.heap.size + 1 := by rw [hW1]; simp
  have HG0 : Hid (GrowD w.heap.size W1 w1.heap.size (.slice none 0 0) [] W1) := growD_nil (by rw [hW1]; exact blk_new w1 _)
  have HW1 := Lib.hid hW1
  clear hW1 h11
  go_wp2_with fail
  rw [← HW1.out]
  clear HW1 c0 c1 c2
  obtain ⟨O, hO⟩ : ∃ O, O = w1.heap.size := ⟨_, rfl⟩
  rw [← hO] at HG0 hs1 hs11 ⊢
  go_loopw [8] (fun v8 wr => ∃ (zs : List Col) (j : Nat) (q9 : Option Addr) (d9 : Nat), j ≤ ns.length ∧ v8 = .int .i64 j ∧ j ≤ 16 ∧ Hid (zs.length = j ∧ GrowD w.heap.size W1 O (.slice q9 j d9) zs wr ∧ Rz.proj s [] (ns.take j) = .ok zs)) (fun v8 _ => ns.length - (intOf v8).toNat)
  case atStart => exact ⟨[], 0, none, 0, by omega, rfl, by omega, rfl, HG0.out, rfl⟩
  case round =>
    obtain ⟨zs, j, q9, d9, hj, rfl, hj16, HG⟩ := hrel
    have hgc := HG.out.2.1
    have HKeep := Lib.hid hgc.keep
    have hBw : Below w.heap.size w wr := HW1b.out.trans (hgc.keep.below HW1b.out.size (fun k hk hc => by omega))
    have HBw := Lib.hid hBw
    have hBW0 : Below W0.heap.size W0 wr := HW1W.out.trans (hgc.keep.below HW1W.out.size (fun k hk hc => by omega))
    have HBW := Lib.hid hBW0
    have o0 : wr.cell? ⟨O, 0, none⟩ = some (.slice q9 j d9) := blk_cell hgc.cell 0
    have o1 : wr.frozen? ⟨O, 0, none⟩ = false := blk_free hgc.cell 0
    obtain ⟨c0, c1, c2⟩ := HCl.out wr hBW0
    obtain ⟨pz, cz, hvz, hzc, hcols⟩ := hgc.cols
    rw [HG.out.1] at hvz
    injection hvz with hv1 _ hv2
    subst hv1 hv2
    have HCz := Lib.hid hcols
    by_cases hlt : j < ns.length
    · obtain ⟨bn, on_, hqe, n0⟩ := (HY.out.on hBw).at j hlt
      have hj1 : (j : Int) < (ns.length : Int) := by omega
      have hF1 := fun w' (h : Below wr.heap.size wr w') => refFind7 zs ns[j] q9 d9 w' (by have := HG.out.1; omega) (hcols.on h)
      have hF2 := fun w' (h : Below wr.heap.size wr w') => refFind7 s ns[j] p cp w' hs ((HX.out.on hBw).on h)
      rw [HG.out.1] at hF1
      obtain ⟨P1, P2, P3⟩ := proj_at ns [] j hlt HG.out.2.2
      rw [List.nil_append] at P1 P2 P3
      obtain ⟨Q1, Q2⟩ := proj_find HG.out.2.2 ns[j]
      have HFo : Hid (∀ k, Sch.find ns[j] s 0 = some k → ∃ h : k < s.length, s[k].name = ns[j]) := fun k h => Rz.find_here h
      obtain ⟨hb, hhb⟩ : ∃ b, b = Rz.hasN (ns.take j) ns[j] := ⟨_, rfl⟩
      rw [← hhb] at P1 P2 P3 Q1 Q2
      obtain ⟨fo, hfo⟩ : ∃ fo, fo = Sch.find ns[j] s 0 := ⟨_, rfl⟩
      rw [← hfo] at hF2 P2 P3 HFo
      obtain ⟨fz, hfz⟩ : ∃ fz, fz = Sch.find ns[j] zs 0 := ⟨_, rfl⟩
      rw [← hfz] at hF1 Q1 Q2
      have HF1 := Lib.hid hF1
      have HF2 := Lib.hid hF2
      have HP1 := Lib.hid P1
      have HP2 := Lib.hid P2
      have HP3 := Lib.hid P3
      have HQ1 := Lib.hid Q1
      have HQ2 := Lib.hid Q2
      subst hqe
      generalize ns[j] = nj at *
      clear P1 P2 P3 Q1 Q2 hhb hfo hfz hF1 hF2 hgc hcols hBw hBW0 hO
      cases hb with
      | true =>
        obtain ⟨k, rfl⟩ := HQ1.out rfl
        have HRe : Hid (r = .error 71) := by show _ = _; rw [HE2.out]; exact HP1.out rfl
        go_wp2_with fail
        go_region_held3 (fun w' => w'.cell? ⟨O, 0, none⟩ = some (.slice q9 j d9) ∧ w'.cell? ⟨bn, on_ + j, none⟩ = some (.string nj)) (go_keep) (first
          | (go_at_call 17; refine (HF1.out _ (below_drewN (Below.refl _ _) _)).mono ?_; rintro e w2 ⟨rfl, hb4⟩; have hb5 := below_via (w := wr) hb4 (by rfl) (by rfl) (by rfl) (by rfl); have z0 := cell_on hb5 o0; have z1 := cell_on hb5 n0; have HB2 := Lib.hid hb5; unfold foundV; clear hb4 hb5))
        have HB2W := Lib.hid (HBW.out.trans (HB2.out.mono HBW.out.size))
        obtain ⟨a0, a1, a2⟩ := HCl.out w2 HB2W.out
        clear c0 c1 c2 o0 o1 n0 z0 z1
        go_wp2
        refine endS rfl rfl rfl rfl (put1_block (HT6.out _ HB2W.out)) rfl ?_
        rw [HRe.out]
        exact schR_err (HBw.out.trans (HB2.out.mono HBw.out.size)) (by omega)
      | false =>
        have e0 := HQ2.out rfl
        subst e0
        have HP2' := Lib.hid (HP2.out rfl)
        have HP3' := Lib.hid (HP3.out rfl)
        clear HP1 HP2 HP3 HQ1 HQ2
        have HF3 : Hid (∀ w2, Below wr.heap.size wr w2 → ∀ w', Below w2.heap.size w2 w' → Calls Try.prog 17 #[.agg #[.slice p s.length cp], .string nj] w' fun e w'' => e = .returned (foundV fo) ∧ Below w'.heap.size w' w'') := fun w2 h2 w' h => HF2.out w' (h2.trans (h.mono h2.size))
        go_wp2_with fail
        go_region_held3 (fun w' => w'.cell? ⟨O, 0, none⟩ = some (.slice q9 j d9) ∧ w'.cell? ⟨bn, on_ + j, none⟩ = some (.string nj)) (go_keep) (first
          | (go_at_call 17; refine (HF1.out _ (below_drewN (Below.refl _ _) _)).mono ?_; rintro e w2 ⟨rfl, hb4⟩; have hb5 := below_via (w := wr) hb4 (by rfl) (by rfl) (by rfl) (by rfl); have z0 := cell_on hb5 o0; have z1 := cell_on hb5 n0; have HB2 := Lib.hid hb5; unfold foundV; clear hb4 hb5))
        have HB2W := Lib.hid (HBW.out.trans (HB2.out.mono HBW.out.size))
        obtain ⟨a0, a1, a2⟩ := HCl.out w2 HB2W.out
        replace HF3 := Lib.hid (HF3.out w2 HB2.out)
        clear c0 c1 c2 o0 o1 n0 z0 HF1 HF2
        cases fo with
        | none =>
          have HRe : Hid (r = .error 90) := by show _ = _; rw [HE2.out]; exact HP2'.out rfl
          go_wp2_with fail
          go_region_held3 (fun w' => w'.cell? ⟨w.heap.size, 0, none⟩ = some (.slice p s.length cp) ∧ w'.cell? ⟨bn, on_ + j, none⟩ = some (.string nj)) (go_keep) (first
            | (go_at_call 17; refine (HF3.out _ (below_drewN (Below.refl _ _) _)).mono ?_; rintro e w3 ⟨rfl, hb4⟩; have hb5 := below_via (w := w2) hb4 (by rfl) (by rfl) (by rfl) (by rfl); have y0 := cell_on hb5 a0; have y1 := cell_on hb5 z1; have HB3 := Lib.hid (HB2.out.trans (hb5.mono HB2.out.size)); unfold foundV; clear hb4 hb5))
          have HB3W := Lib.hid (HBW.out.trans (HB3.out.mono HBW.out.size))
          obtain ⟨b0, b1, b2⟩ := HCl.out w3 HB3W.out
          clear a0 a1 a2 z1 y0 y1
          go_wp2
          refine endS rfl rfl rfl rfl (put1_block (HT6.out _ HB3W.out)) rfl ?_
          rw [HRe.out]
          exact schR_err (HBw.out.trans (HB3.out.mono HBw.out.size)) (by omega)
        | some k =>
          obtain ⟨hk1, -⟩ := HFo.out k rfl
          go_wp2_with fail
          go_region_held3 (fun w' => w'.cell? ⟨w.heap.size, 0, none⟩ = some (.slice p s.length cp) ∧ w'.cell? ⟨bn, on_ + j, none⟩ = some (.string nj)) (go_keep) (first
            | (go_at_call 17; refine (HF3.out _ (below_drewN (Below.refl _ _) _)).mono ?_; rintro e w3 ⟨rfl, hb4⟩; have hb5 := below_via (w := w2) hb4 (by rfl) (by rfl) (by rfl) (by rfl); have y0 := cell_on hb5 a0; have y1 := cell_on hb5 z1; have HB3 := Lib.hid (HB2.out.trans (hb5.mono HB2.out.size)); unfold foundV; clear hb4 hb5))
          have HB3W := Lib.hid (HBW.out.trans (HB3.out.mono HBW.out.size))
          have HB3w := Lib.hid (HBw.out.trans (HB3.out.mono HBw.out.size))
          obtain ⟨b0, b1, b2⟩ := HCl.out w3 HB3W.out
          obtain ⟨bx, ox, kk, tp, tn, tc, vk, vi, vb, vt, vp, vn, vc, hpe, hbx, h9w, hT, hVw⟩ := HX.out.at k hk1
          have h9 := h9w.on HB3w.out
          have hV := hVw.on HB3w.out
          clear a0 a1 a2 z1 y0 y1
          obtain ⟨x0, x1, x2, x3, x4, x5, x6, x7, x8⟩ := h9
          obtain ⟨W4, hW4⟩ : ∃ W4, W4 = w3.alloc (.cells #[.string s[k].name, .int .i64 kk, .slice tp tn tc, .bool s[k].has, .int .i64 vk, .int .i64 vi, .float .f64 vb, .string vt, .slice vp vn vc] 58) := ⟨_, rfl⟩
          have hb4 : Below w3.heap.size w3 W4 := by rw [hW4]; exact (Below.refl _ _).alloc (Nat.le_refl _) _
          have hC4 : W4.heap[w3.heap.size]? = some (.cells #[.string s[k].name, .int .i64 kk, .slice tp tn tc, .bool s[k].has, .int .i64 vk, .int .i64 vi, .float .f64 vb, .string vt, .slice vp vn vc] 58 (0, 0)) := by rw [hW4]; exact blk_new w3 _
          have hs4 : W4.heap.size = w3.heap.size + 1 := by rw [hW4]; simp
          have HFx := Lib.hid (refFix6 s[k].dflt W4 _ (hV.on hb4))
          have HC4 := Lib.hid hC4
          have HB4 := Lib.hid (HB3.out.trans (hb4.mono HB3.out.size))
          have HW4 := Lib.hid hW4
          have hk1i : (k : Int) < (s.length : Int) := by omega
          have HP3k := Lib.hid (HP3'.out k rfl)
          subst hpe
          unfold cells5 at HFx
          clear hW4 hb4 hC4 hV h9w hVw
          go_wp2_with fail
          rw [← HW4.out]
          clear HW4 x0 x1 x2 x3 x4 x5 x6 x7 x8 b0 b1 b2
          refine HFx.out.mono ?_
          rintro e w5 ⟨u5, rfl, hv5, hb5⟩
          obtain ⟨fk, fi, fb, ft, fp, fn, fc, rfl⟩ := hv5.shape
          unfold cells5 at hv5 ⊢
          have hC5 := (hb5.block _ (blk_lt HC4.out)).trans HC4.out
          have hs5 := hb5.size
          have HB5 := Lib.hid (HB4.out.trans (hb5.mono HB4.out.size))
          have d0 : w5.cell? ⟨w3.heap.size, 0, none⟩ = some (.string s[k].name) := blk_cell hC5 0
          have d1 : w5.cell? ⟨w3.heap.size, 1, none⟩ = some (.int .i64 kk) := blk_cell hC5 1
          have d2 : w5.cell? ⟨w3.heap.size, 2, none⟩ = some (.slice tp tn tc) := blk_cell hC5 2
          have d3 : w5.cell? ⟨w3.heap.size, 3, none⟩ = some (.bool s[k].has) := blk_cell hC5 3
          have d4 : w5.cell? ⟨w3.heap.size, 4, none⟩ = some (.int .i64 vk) := blk_cell hC5 4
          have d5 : w5.cell? ⟨w3.heap.size, 5, none⟩ = some (.int .i64 vi) := blk_cell hC5 5
          have d6 : w5.cell? ⟨w3.heap.size, 6, none⟩ = some (.float .f64 vb) := blk_cell hC5 6
          have d7 : w5.cell? ⟨w3.heap.size, 7, none⟩ = some (.string vt) := blk_cell hC5 7
          have d8 : w5.cell? ⟨w3.heap.size, 8, none⟩ = some (.slice vp vn vc) := blk_cell hC5 8
          have f4 := blk_free hC5 4
          have f5 := blk_free hC5 5
          have f6 := blk_free hC5 6
          have f7 := blk_free hC5 7
          have f8 := blk_free hC5 8
          have hOwr := blk_lt HG.out.2.1.cell
          have hOn : O ≠ w3.heap.size := by have := HB3.out.size; omega
          have o5 : w5.cell? ⟨O, 0, none⟩ = some (.slice q9 j d9) := blk_cell ((HB5.out.block O hOwr).trans HG.out.2.1.cell) 0
          obtain ⟨us, hu9, hrow, hcl⟩ := HG.out.2.1.built
          rw [HG.out.1] at hrow
          obtain ⟨W6, hW6⟩ : ∃ W6, W6 = put5d w5 w3.heap.size (.int .i64 fk) (.int .i64 fi) (.float .f64 fb) (.string ft) (.slice fp fn fc) := ⟨_, rfl⟩
          have ha6 : Aside (fun i => i = w3.heap.size) w5 W6 := by rw [hW6]; exact put5d_aside
          have hs6 : W6.heap.size = w5.heap.size := by rw [hW6]; simp [put5d, World.setCell]
          obtain ⟨W7, hW7⟩ : ∃ W7, W7 = W6.alloc (.cells #[.string s[k].name, .int .i64 kk, .slice tp tn tc, .bool s[k].has, .int .i64 fk, .int .i64 fi, .float .f64 fb, .string ft, .slice fp fn fc] 58) := ⟨_, rfl⟩
          have hsr := HB3.out.size
          have hb57 : Below w3.heap.size w5 W7 := by rw [hW7]; exact (ha6.below (by omega) (fun i hi hc => by omega)).alloc (by omega) _
          have hb7 : Below wr.heap.size wr W7 := HB5.out.trans (hb57.mono hsr)
          have hblk : W7.heap[w5.heap.size]? = some (.cells #[.string s[k].name, .int .i64 kk, .slice tp tn tc, .bool s[k].has, .int .i64 fk, .int .i64 fi, .float .f64 fb, .string ft, .slice fp fn fc] 58 (0, 0)) := by rw [hW7, ← hs6]; exact blk_new W6 _
          have hs7 : W7.heap.size = w5.heap.size + 1 := by rw [hW7, ← hs6]; simp
          have hv7 : VOwn W7 (fun i => W4.heap.size ≤ i ∧ i < w5.heap.size) (cells5 fk fi fb ft fp fn fc) (V.fix s[k].dflt) := by
            have h1 := hv5.aside ha6 (fun i hi hc => by omega)
            rw [hW7]
            exact h1.aside (aside_new ((Below.refl _ _).alloc (Nat.le_refl _) _) (fun _ => False)) (fun _ _ hc => hc)
          have hone : ∀ a ∈ #[Value.string s[k].name, .int .i64 kk, .slice tp tn tc, .bool s[k].has, .int .i64 fk, .int .i64 fi, .float .f64 fb, .string ft, .slice fp fn fc].toList, a.oneCell' = true := by
            intro a ha
            simp at ha
            rcases ha with rfl | rfl | rfl | rfl | rfl | rfl | rfl | rfl | rfl <;> rfl
          have HRow7 := Lib.hid (ownsRow_aside hrow (aside_new hb7 (fun _ => False)) (fun _ _ hc => hc))
          have HBlk := Lib.hid hblk
          have HOne := Lib.hid hone
          have HB7 := Lib.hid hb7
          have HV7 := Lib.hid hv7
          have HU9 := Lib.hid hu9
          have HCL := Lib.hid hcl
          have o7 : W7.cell? ⟨O, 0, none⟩ = some (.slice q9 j d9) := blk_cell ((hb7.block O hOwr).trans HG.out.2.1.cell) 0
          have HT0 := Lib.hid hT
          unfold put5d at hW6
          rw [hW6] at hW7
          have HW7 := Lib.hid hW7
          have hkeep := HKeep.out.size
          clear hrow hcl hu9 hblk hone hb7 hv7 hW6 hW7 hb57 ha6 hv5 hb5 hC5 hT HFx
          go_wp2_with (first
            | (at_builtin
               rw [← HW7.out]
               refine wp_moreC (B := W1.heap.size) (us := us) HRow7.out (u := #[.string s[k].name, .int .i64 kk, .slice tp tn tc, .bool s[k].has, .int .i64 fk, .int .i64 fi, .float .f64 fb, .string ft, .slice fp fn fc]) rfl HOne.out (ad := w5.heap.size) HBlk.out (by omega) (by omega) (H := w5.heap.size + 1) hs7 rfl rfl rfl rfl ?_
               intro g8 cap8 W8 hr8 hg8 hn8
               have HR8 := Lib.hid hr8
               have HG8 := Lib.hid hg8
               have HN8 := Lib.hid hn8
               have hc8 : W8.heap[O]? = some (.cells #[.slice q9 j d9] 37 (0, 0)) := (hg8.block O (by omega) (fun hc => by have := (HG.out.2.1.lt O hc.symm).1; omega)).trans ((HB7.out.block O hOwr).trans HG.out.2.1.cell)
               have o8 : W8.cell? ⟨O, 0, none⟩ = some (.slice q9 j d9) := blk_cell hc8 0
               have p8 : W8.frozen? ⟨O, 0, none⟩ = false := blk_free hc8 0
               clear hr8 hg8 hn8 hc8)
            | fail)
          have hz1 := HG.out.1
          have hfew := HFew2.out _ _ HP3k.out
          rw [List.length_append, hz1, List.length_singleton] at hfew
          go_roundw
          case rel =>
            have hnx := HG.out.2.1.next (w := w) (x := s[k].fix) (us := us) HU9.out HCL.out HW1b.out (by omega) HB7.out HT0.out HV7.out (fun i hi => by omega) (by rw [hz1]; exact HR8.out) HG8.out (HN8.out.imp id (fun e => by omega))
            rw [hz1] at hnx
            refine ⟨zs ++ [s[k].fix], j + 1, some ⟨g8, 0, none⟩, cap8, by omega, by go_num, by omega, by rw [List.length_append, hz1]; rfl, hnx, ?_⟩
            have := HP3k.out
            rw [Rz.colAt_get hk1] at this
            exact this
          case measure => simp [intOf]; omega
    · have hjn : ¬ (j : Int) < (ns.length : Int) := by omega
      have hjj : j = ns.length := by omega
      have hfin := HG.out.2.2
      rw [hjj, List.take_of_length_le (Nat.le_refl _)] at hfin
      have HRe : Hid (r = .ok zs) := by show _ = _; rw [HE2.out]; exact hfin
      have hz1 := HG.out.1
      have ha9 : Aside (fun i => w.heap.size ≤ i ∧ i ≤ O) wr (wr.setCell ⟨w.heap.size + 1, 0, none⟩ (.slice q9 j d9)) := (Aside.refl _ wr).setCell (p := ⟨w.heap.size + 1, 0, none⟩) (.inl ⟨by show w.heap.size ≤ w.heap.size + 1; omega, by show w.heap.size + 1 ≤ O; omega⟩) _
      obtain ⟨p10, c10, hv10, hl10, hc10⟩ := hgc.colsC ha9
      rw [hz1] at hv10
      injection hv10 with hv11 _ hv12
      subst hv11 hv12
      have HC10 := Lib.hid hc10
      have HL10 := Lib.hid hl10
      have HZ1 := Lib.hid hz1
      have HBk := Lib.hid (HT6.out wr hBW0)
      clear hjj hfin ha9 hc10 hl10 hz1 hgc hcols hlt hBw hBW0 hO
      go_wp2
      refine endS rfl rfl rfl rfl (put1_block HBk.out) rfl ?_
      rw [HRe.out]
      refine ⟨q9, d9, ?_, HC10.out, HL10.out, put1_below HBw.out (by omega)⟩
      rw [HZ1.out]
      rfl
end Go.Proofs.Ytbedlaaedefclaa
