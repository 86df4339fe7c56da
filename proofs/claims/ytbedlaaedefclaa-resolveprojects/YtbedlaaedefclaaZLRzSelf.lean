/- ResolveSelf over the landed resolve. -/
import Derived.Test.YtbedlaaedefclaaZLRzTyped
import Derived.Test.YtbedlaaedefclaaM41
import Derived.Test.YtbedlaaedefclaaM14
namespace Go.Proofs.Ytbedlaaedefclaa
open Go.RowKit

theorem schR_any {w w' : World} {r : Except Nat (List Col)} {e : Ending} (h : SchR w r e w') : ∃ (q : Option Addr) (n c er : Nat), e = .returned (.tuple #[.agg #[.slice q n c], .int .i64 (er : Nat)]) ∧ Below w.heap.size w w' := by
  cases r with
  | error er => exact ⟨none, 0, 0, er, h.1, h.2⟩
  | ok ys =>
    obtain ⟨q, c, h1, -, -, h2⟩ := h
    exact ⟨q, ys.length, c, 0, h1, h2⟩
theorem sameL_fixed (vs : List V) : V.sameL (vs.map V.fix) vs = true := by
  induction vs with
  | nil => rfl
  | cons v vs ih =>
    show (V.same (V.fix v) v && V.sameL (vs.map V.fix) vs) = true
    rw [same_fixed, ih]
    rfl
/-- the schema that Project makes: within its bounds -/
theorem project_wf {s p : List Col} {ns : List ByteArray} (h : Rz.project s ns = .ok p) (hws : ∀ x ∈ s, x.wf) : p.length ≤ 16 ∧ ∀ x ∈ p, x.wf := by
  obtain ⟨h1, h2, h3, h4⟩ := Rz.project_open h
  refine ⟨(Sch.err_open h2).2.1, fun x hx => ?_⟩
  obtain ⟨i, hi, rfl⟩ := List.mem_iff_getElem.1 hx
  obtain ⟨k, hk, hp⟩ := h4 i (by omega) hi
  obtain ⟨hk1, -⟩ := Rz.find_here hk
  rw [Rz.colAt_get hk1] at hp
  rw [hp]
  have hw := hws _ (List.getElem_mem hk1)
  exact ⟨hw.1, hw.2.1, Rz.fix_wf _ hw.2.2⟩

set_option maxRecDepth 100000 in
set_option maxHeartbeats 4000000 in
theorem resolveSelf9 (s : List Col) (vs : List V) (ns : List ByteArray) (p v q : Option Addr) (cp cv cq : Nat) (w : World) (hs : s.length * 120 ≤ 140737488351232) (hn : ns.length * 16 ≤ 140737488351232) (hnc : ns.length ≤ cq) (hx : Cols w p s) (hv : Items w v vs) (hy : Names w q ns) (hws : ∀ x ∈ s, x.wf) (hwv : ∀ x ∈ vs, x.wf) :
    Calls Try.prog 5 #[.agg #[.slice p s.length cp], .agg #[.slice v vs.length cv], .slice q ns.length cq] w fun e w' => e = .returned (.bool true) ∧ Below w.heap.size w w' := by
  obtain ⟨W0, hW0⟩ : ∃ W0, W0 = (w.alloc (.cells #[.slice p s.length cp] 37)).alloc (.cells #[.slice v vs.length cv] 44) := ⟨_, rfl⟩
  obtain ⟨l0, l1, lb, ls⟩ := al2 w (.cells #[.slice p s.length cp] 37) (.cells #[.slice v vs.length cv] 44)
  rw [← hW0] at l0 l1 lb ls
  have HW0 := Lib.hid hW0
  have HB0 := Lib.hid lb
  have HCl : Hid (∀ w', Below W0.heap.size W0 w' → w'.cell? ⟨w.heap.size, 0, none⟩ = some (.slice p s.length cp) ∧ w'.cell? ⟨w.heap.size + 1, 0, none⟩ = some (.slice v vs.length cv)) := fun w' h => ⟨blk_at l0 h 0, blk_at l1 h 0⟩
  have HR := Lib.hid (rowK9 s s vs p p v cp cp cv W0 hs hs (hx.on lb) (hx.on lb) (hv.on9 lb) hws hws hwv)
  have HPj := Lib.hid (fun w' (h : Below w.heap.size w w') => projectK9 s ns p q cp cq w' hs hn hnc (hx.on h) (hy.on h) hws)
  have HR2 := Lib.hid (fun w' (h : Below w.heap.size w w') (ps : List Col) (q2 : Option Addr) (c2 : Nat) (h1 : ps.length * 120 ≤ 140737488351232) (h2 : Cols w' q2 ps) (h3 : ∀ x ∈ ps, x.wf) => rowK9 s ps vs p q2 v cp c2 cv w' hs h1 (hx.on h) h2 (hv.on9 h) hws h3 hwv)
  have HSR := Lib.hid (fun w' (h : Below w.heap.size w w') (ys : List V) (q1 : Option Addr) (c1 : Nat) (h1 : Items w' q1 ys) (h2 : ys.length * 64 ≤ 140737488351232) => refSameRow6 ys vs w' q1 v c1 cv h1 (hv.on9 h) h2)
  have HFd := Lib.hid (fun w' (h : Below w.heap.size w w') (t : ByteArray) => refFind7 s t p cp w' hs (hx.on h))
  have HSelf := Lib.hid (fun ys h => Rz.row_self (s := s) (vs := vs) (ys := ys) h)
  have HNe := Lib.hid (fun e h => Rz.row_ne (s := s) (t := s) (vs := vs) (e := e) h hwv hws)
  have HPNe := Lib.hid (fun e h => Rz.project_ne (s := s) (ns := ns) (e := e) h)
  have HPWf := Lib.hid (fun ps h => project_wf (s := s) (p := ps) (ns := ns) h hws)
  have HPRow := Lib.hid (fun ps h hg => Rz.row_project (s := s) (p := ps) (vs := vs) (ns := ns) h hg)
  have HPOp := Lib.hid (fun ps h => Rz.project_open (s := s) (p := ps) (ns := ns) h)
  obtain ⟨r, hr⟩ : ∃ r, r = Rz.row s s vs := ⟨_, rfl⟩
  rw [← hr] at HR HSelf HNe
  obtain ⟨pr, hpr⟩ : ∃ pr, pr = Rz.project s ns := ⟨_, rfl⟩
  rw [← hpr] at HPj HPNe HPWf HPRow HPOp
  have HV := Lib.hid hv
  have HN := Lib.hid hy
  clear hr hpr hW0 l0 l1 lb ls hx hy hv hws hwv
  go_enter Try.func5, Try.ntmps5
  go_wp2_with fail
  rw [← HW0.out]
  clear HW0
  refine HR.out.mono ?_
  intro e w1 hh
  cases r with
  | error er =>
    obtain ⟨rfl, hb1⟩ := hh
    have hz : er ≠ 0 := HNe.out er rfl
    have gz : ((er : Int) != 0) = true := bne_t (by omega)
    obtain ⟨W1, hW1⟩ : ∃ W, W = w1.alloc (.cells #[.slice none 0 0] 44) := ⟨_, rfl⟩
    have h11 : Below w1.heap.size w1 W1 := by rw [hW1]; exact (Below.refl _ _).alloc (Nat.le_refl _) _
    have hb1' : Below W0.heap.size W0 W1 := hb1.trans (h11.mono hb1.size)
    have HB1 : Hid (Below w.heap.size w W1) := HB0.out.trans (hb1'.mono HB0.out.size)
    have HK1 : Hid (W1.heap[w1.heap.size]? = some (.cells #[.slice none 0 0] 44 (0, 0))) := by rw [hW1]; exact blk_new w1 _
    have k0 := (HCl.out W1 hb1').1
    rw [hW1] at k0
    have HW1 := Lib.hid hW1
    clear hW1 hb1 hb1' hz HR h11
    go_wp2_with fail
    rw [← HW1.out]
    clear HW1 k0
    refine (HPj.out W1 HB1.out).mono ?_
    intro e w2 hh
    obtain ⟨q2, n2, c2, er2, rfl, hb2⟩ := schR_any hh
    obtain ⟨W2, hW2⟩ : ∃ W, W = w2.alloc (.cells #[.slice q2 n2 c2] 37) := ⟨_, rfl⟩
    have h22 : Below W1.heap.size W1 W2 := by rw [hW2]; exact hb2.alloc hb2.size _
    have HB2 : Hid (Below w.heap.size w W2) := HB1.out.trans (h22.mono HB1.out.size)
    have HK2 : Hid (W2.heap[w1.heap.size]? = some (.cells #[.slice none 0 0] 44 (0, 0))) := blk_go HK1.out h22
    have HW2 := Lib.hid hW2
    clear hh hb2 hW2 h22
    go_wp2_with fail
    rw [← HW2.out]
    clear HW2
    refine (live9 W2).mono ?_
    rintro e w3 ⟨rfl, hb3⟩
    have m1 : w3.cell? ⟨w1.heap.size, 0, none⟩ = some (.slice none 0 0) := blk_cell (blk_go HK2.out hb3) 0
    have HB3 := Lib.hid (HB2.out.trans (hb3.mono HB2.out.size))
    clear hb3
    go_wp2
    go_ret
    exact ⟨rfl, HB3.out⟩
  | ok ys =>
    obtain ⟨q1, c1, rfl, hv1, hb1⟩ := hh
    obtain ⟨-, hgv, hys⟩ := HSelf.out ys rfl
    obtain ⟨i1, i2⟩ := row_items hv1
    obtain ⟨W1, hW1⟩ : ∃ W, W = w1.alloc (.cells #[.slice q1 ys.length c1] 44) := ⟨_, rfl⟩
    have h11 : Below w1.heap.size w1 W1 := by rw [hW1]; exact (Below.refl _ _).alloc (Nat.le_refl _) _
    have hb1' : Below W0.heap.size W0 W1 := hb1.trans (h11.mono hb1.size)
    have HB1W := Lib.hid hb1'
    have HB1 : Hid (Below w.heap.size w W1) := HB0.out.trans (hb1'.mono HB0.out.size)
    have HK1 : Hid (W1.heap[w1.heap.size]? = some (.cells #[.slice q1 ys.length c1] 44 (0, 0))) := by rw [hW1]; exact blk_new w1 _
    have HI1 := Lib.hid (i2.on9 h11)
    have k0 := (HCl.out W1 hb1').1
    rw [hW1] at k0
    have HW1 := Lib.hid hW1
    have HYs := Lib.hid hys
    clear hW1 hb1 hb1' h11 i2 hv1 HR hys
    go_wp2_with fail
    rw [← HW1.out]
    clear HW1 k0
    refine (HPj.out W1 HB1.out).mono ?_
    intro e w2 hh
    have HSm : Hid (V.sameL ys vs = true) := by show _ = _; rw [HYs.out]; exact sameL_fixed vs
    cases pr with
    | error er2 =>
      obtain ⟨rfl, hb2⟩ := hh
      have hz : er2 ≠ 0 := HPNe.out er2 rfl
      have gz : ((er2 : Int) != 0) = true := bne_t (by omega)
      obtain ⟨W2, hW2⟩ : ∃ W, W = w2.alloc (.cells #[.slice none 0 0] 37) := ⟨_, rfl⟩
      have h22 : Below W1.heap.size W1 W2 := by rw [hW2]; exact hb2.alloc hb2.size _
      have HB2W := Lib.hid (HB1W.out.trans (h22.mono HB1W.out.size))
      have HB2 : Hid (Below w.heap.size w W2) := HB1.out.trans (h22.mono HB1.out.size)
      have m1 : W2.cell? ⟨w1.heap.size, 0, none⟩ = some (.slice q1 ys.length c1) := blk_cell (blk_go HK1.out h22) 0
      have m2 := (HCl.out W2 HB2W.out).2
      have HK2 : Hid (W2.heap[w2.heap.size]? = some (.cells #[.slice none 0 0] 37 (0, 0))) := by rw [hW2]; exact blk_new w2 _
      have HS2 := Lib.hid (HSR.out W2 HB2.out ys q1 c1 (HI1.out.on9 h22) i1)
      rw [HSm.out] at HS2
      rw [hW2] at m1 m2
      have HW2 := Lib.hid hW2
      clear hb2 hW2 h22
      go_wp2_with fail
      rw [← HW2.out]
      clear HW2 m1 m2
      refine HS2.out.mono ?_
      rintro e w3 ⟨rfl, hb3⟩
      have HB3 := Lib.hid (HB2.out.trans (hb3.mono HB2.out.size))
      have HK3 := Lib.hid (blk_go HK2.out hb3)
      clear hb3 HS2
      go_wp2_with fail
      refine (live9 w3).mono ?_
      rintro e w4 ⟨rfl, hb4⟩
      have m3 : w4.cell? ⟨w2.heap.size, 0, none⟩ = some (.slice none 0 0) := blk_cell (blk_go HK3.out hb4) 0
      have HB4 := Lib.hid (HB3.out.trans (hb4.mono HB3.out.size))
      clear hb4
      go_wp2
      go_ret
      exact ⟨rfl, HB4.out⟩
    | ok ps =>
      obtain ⟨q2, c2, rfl, hcol, -, hb2⟩ := hh
      obtain ⟨hp16, hpwf⟩ := HPWf.out ps rfl
      obtain ⟨zs, hrow, hzl, hz⟩ := HPRow.out ps rfl hgv
      have HPl : Hid (ps.length = ns.length) := (HPOp.out ps rfl).2.2.1
      obtain ⟨W2, hW2⟩ : ∃ W, W = w2.alloc (.cells #[.slice q2 ps.length c2] 37) := ⟨_, rfl⟩
      have h2a : Below w2.heap.size w2 W2 := by rw [hW2]; exact (Below.refl _ _).alloc (Nat.le_refl _) _
      have h22 : Below W1.heap.size W1 W2 := hb2.trans (h2a.mono hb2.size)
      have HB2W := Lib.hid (HB1W.out.trans (h22.mono HB1W.out.size))
      have HB2 : Hid (Below w.heap.size w W2) := HB1.out.trans (h22.mono HB1.out.size)
      have HC2 := Lib.hid (hcol.on h2a)
      have m1 : W2.cell? ⟨w1.heap.size, 0, none⟩ = some (.slice q1 ys.length c1) := blk_cell (blk_go HK1.out h22) 0
      have m2 := (HCl.out W2 HB2W.out).2
      have HK2 : Hid (W2.heap[w2.heap.size]? = some (.cells #[.slice q2 ps.length c2] 37 (0, 0))) := by rw [hW2]; exact blk_new w2 _
      have HS2 := Lib.hid (HSR.out W2 HB2.out ys q1 c1 (HI1.out.on9 h22) i1)
      rw [HSm.out] at HS2
      rw [hW2] at m1 m2
      have HW2 := Lib.hid hW2
      have HZ := Lib.hid hz
      have HZl := Lib.hid hzl
      have HRow := Lib.hid hrow
      clear hb2 hW2 h22 h2a hcol hz hrow hzl
      go_wp2_with fail
      rw [← HW2.out]
      clear HW2 m1 m2
      refine HS2.out.mono ?_
      rintro e w3 ⟨rfl, hb3⟩
      have HB3W := Lib.hid (HB2W.out.trans (hb3.mono HB2W.out.size))
      have HB3 := Lib.hid (HB2.out.trans (hb3.mono HB2.out.size))
      have HK3 := Lib.hid (blk_go HK2.out hb3)
      have HC3 := Lib.hid (HC2.out.on hb3)
      have m1 : w3.cell? ⟨w2.heap.size, 0, none⟩ = some (.slice q2 ps.length c2) := blk_cell HK3.out 0
      obtain ⟨m2, m3⟩ := HCl.out w3 HB3W.out
      have HR3 := Lib.hid (HR2.out w3 HB3.out ps q2 c2 (by omega) HC3.out hpwf)
      rw [HRow.out] at HR3
      clear hb3 HS2
      go_wp2_with fail
      clear m1 m2 m3
      refine HR3.out.mono ?_
      rintro e w4 ⟨q4, c4, rfl, hv4, hb4⟩
      obtain ⟨j1, j2⟩ := row_items hv4
      obtain ⟨W4, hW4⟩ : ∃ W, W = w4.alloc (.cells #[.slice q4 zs.length c4] 44) := ⟨_, rfl⟩
      have h4a : Below w4.heap.size w4 W4 := by rw [hW4]; exact (Below.refl _ _).alloc (Nat.le_refl _) _
      have h44 : Below w3.heap.size w3 W4 := hb4.trans (h4a.mono hb4.size)
      have HB4W := Lib.hid (HB3W.out.trans (h44.mono HB3W.out.size))
      have HB4 : Hid (Below w.heap.size w W4) := HB3.out.trans (h44.mono HB3.out.size)
      have HK4 : Hid (W4.heap[w4.heap.size]? = some (.cells #[.slice q4 zs.length c4] 44 (0, 0))) := by rw [hW4]; exact blk_new w4 _
      have HK4p := Lib.hid (blk_go HK3.out h44)
      have HI4 := Lib.hid (j2.on9 h4a)
      have m1 : W4.cell? ⟨w2.heap.size, 0, none⟩ = some (.slice q2 ps.length c2) := blk_cell HK4p.out 0
      have m2 : W4.cell? ⟨w4.heap.size, 0, none⟩ = some (.slice q4 zs.length c4) := blk_cell HK4.out 0
      rw [hW4] at m1 m2
      have g1 : ((zs.length : Int) != (ns.length : Int)) = false := bne_f (by have := HZl.out; omega)
      have g2 : ((ps.length : Int) != (ns.length : Int)) = false := bne_f (by have := HPl.out; omega)
      have HW4 := Lib.hid hW4
      clear hb4 hW4 h44 h4a hv4 j2 HR3
      go_wp2_with fail
      rw [← HW4.out]
      clear HW4 m1 m2
      go_loopw [13] (fun v13 wr => ∃ j : Nat, j ≤ ns.length ∧ v13 = .int .i64 j ∧ Hid (Below W4.heap.size W4 wr)) (fun v13 _ => ns.length - (intOf v13).toNat)
      case atStart => exact ⟨0, by omega, rfl, Below.refl _ _⟩
      case round =>
        obtain ⟨j, hj, rfl, HL⟩ := hrel
        have HBr := Lib.hid (HB4.out.trans (HL.out.mono HB4.out.size))
        by_cases hlt : j < ns.length
        · have hltz : j < zs.length := by have := HZl.out; omega
          obtain ⟨k, hfk, hkv, hzk⟩ := HZ.out j hlt hltz
          obtain ⟨bn, on_, rfl, n0⟩ := (HN.out.on HBr.out).at j hlt
          have k0 := (HCl.out wr (HB4W.out.trans (HL.out.mono HB4W.out.size))).1
          have hFd := fun w' (h : Below wr.heap.size wr w') => HFd.out w' (HBr.out.trans (h.mono HBr.out.size)) ns[j]
          rw [hfk] at hFd
          have HF := Lib.hid hFd
          obtain ⟨nm, hnm⟩ : ∃ nm, nm = ns[j] := ⟨_, rfl⟩
          rw [← hnm] at HF n0
          have hj1 : (j : Int) < (ns.length : Int) := by omega
          have HZk := Lib.hid hzk
          clear hFd hnm hfk hzk
          go_wp2_with fail
          go_region_held3 (fun w' => w'.cell? ⟨w.heap.size, 0, none⟩ = some (.slice p s.length cp) ∧ w'.cell? ⟨bn, on_ + j, none⟩ = some (.string nm)) (go_keep) (first
            | (go_at_call 17; refine (HF.out _ (below_drewN (Below.refl _ _) _)).mono ?_; rintro e w5 ⟨rfl, hb4⟩; have hb5 := below_via (w := wr) hb4 (by rfl) (by rfl) (by rfl) (by rfl); have z0 := cell_on hb5 k0; have z1 := cell_on hb5 n0; have HB5 := Lib.hid (HL.out.trans (hb5.mono HL.out.size)); unfold foundV; clear hb4 hb5))
          clear z0 z1 k0 n0 HF
          have HB5w := Lib.hid (HB4.out.trans (HB5.out.mono HB4.out.size))
          have hkv1 : (k : Int) < (vs.length : Int) := by omega
          have hkd : decide ((vs.length : Int) ≤ (k : Int)) = false := decide_eq_false (by omega)
          have hke : decide (vs.length ≤ k) = false := decide_eq_false (by omega)
          have hjz : (j : Int) < (zs.length : Int) := by omega
          have y0 : w5.cell? ⟨w4.heap.size, 0, none⟩ = some (.slice q4 zs.length c4) := blk_cell (blk_go HK4.out HB5.out) 0
          have r0 := (HCl.out w5 (HB4W.out.trans (HB5.out.mono HB4W.out.size))).2
          obtain ⟨uz, hz1, hz2⟩ := HI4.out j hltz
          obtain ⟨bz, oz, kz, iz, fz, tz, pz, nz, cz, rfl, _, rfl, a0, a1, a2, a3, a4⟩ := (hz2.on HB5.out).lies
          obtain ⟨uv, hv1, hv2⟩ := HV.out k hkv
          obtain ⟨by', oy, ky, iy, fy, ty, qy, ny, cy, rfl, _, rfl, b0, b1, b2, b3, b4⟩ := (hv2.on HB5w.out).lies
          have HS5 : Hid (∀ w', Below w5.heap.size w5 w' → Calls Try.prog 18 #[.agg #[.int .i64 kz, .int .i64 iz, .float .f64 fz, .string tz, .slice pz nz cz], .agg #[.int .i64 ky, .int .i64 iy, .float .f64 fy, .string ty, .slice qy ny cy]] w' fun e w'' => e = .returned (.bool true) ∧ Below w'.heap.size w' w'') := fun w' hb => by
            have h := refSame6 zs[j] vs[k] w' _ _ ((hz1.on HB5.out).on hb) ((hv1.on HB5w.out).on hb)
            rw [HZk.out, same_fixed] at h
            exact h
          clear hz1 hz2 hv1 hv2
          go_wp2_with fail
          go_region_held3 (fun w' => w'.cell? ⟨w4.heap.size, 0, none⟩ = some (.slice (some ⟨bz, oz, none⟩) zs.length c4) ∧ w'.cell? ⟨w.heap.size + 1, 0, none⟩ = some (.slice (some ⟨by', oy, none⟩) vs.length cv) ∧ w'.cell? ⟨bz, oz + j * 5, none⟩ = some (.int .i64 kz) ∧ w'.cell? ⟨bz, oz + j * 5 + 1, none⟩ = some (.int .i64 iz) ∧ w'.cell? ⟨bz, oz + j * 5 + 2, none⟩ = some (.float .f64 fz) ∧ w'.cell? ⟨bz, oz + j * 5 + 3, none⟩ = some (.string tz) ∧ w'.cell? ⟨bz, oz + j * 5 + 4, none⟩ = some (.slice pz nz cz) ∧ w'.cell? ⟨by', oy + k * 5, none⟩ = some (.int .i64 ky) ∧ w'.cell? ⟨by', oy + k * 5 + 1, none⟩ = some (.int .i64 iy) ∧ w'.cell? ⟨by', oy + k * 5 + 2, none⟩ = some (.float .f64 fy) ∧ w'.cell? ⟨by', oy + k * 5 + 3, none⟩ = some (.string ty) ∧ w'.cell? ⟨by', oy + k * 5 + 4, none⟩ = some (.slice qy ny cy)) (go_keep) (first
            | (go_at_call 18; refine (HS5.out _ (below_drewN (Below.refl _ _) _)).mono ?_; rintro e w6 ⟨rfl, hb6⟩; have hb7 := below_via (w := w5) hb6 (by rfl) (by rfl) (by rfl) (by rfl); have x0 := cell_on hb7 y0; have x1 := cell_on hb7 r0; have d0 := cell_on hb7 a0; have d1 := cell_on hb7 a1; have d2 := cell_on hb7 a2; have d3 := cell_on hb7 a3; have d4 := cell_on hb7 a4; have e0 := cell_on hb7 b0; have e1 := cell_on hb7 b1; have e2 := cell_on hb7 b2; have e3 := cell_on hb7 b3; have e4 := cell_on hb7 b4; have HB6 := Lib.hid (HB5.out.trans (hb7.mono HB5.out.size)); clear hb6 hb7))
          clear y0 r0 a0 a1 a2 a3 a4 b0 b1 b2 b3 b4 x0 x1 d0 d1 d2 d3 d4 e0 e1 e2 e3 e4 HS5
          go_wp2
          go_roundw
          case rel => exact ⟨j + 1, by omega, by go_num, HB6⟩
          case measure => simp [intOf]; omega
        · have hjn : ¬ (j : Int) < (ns.length : Int) := by omega
          clear hlt
          go_wp2_with fail
          refine (live9 wr).mono ?_
          rintro e w5 ⟨rfl, hb5⟩
          have HB5 := Lib.hid (HBr.out.trans (hb5.mono HBr.out.size))
          clear hb5
          go_wp2
          go_ret
          exact ⟨rfl, HB5.out⟩
end Go.Proofs.Ytbedlaaedefclaa
