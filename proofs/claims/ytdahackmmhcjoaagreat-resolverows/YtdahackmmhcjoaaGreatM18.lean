/- WCanR, WChk9: put together. -/
import Derived.Test.YtdahackmmhcjoaaGreatM12
import Derived.Test.YtdahackmmhcjoaaGreatM09
import Derived.Test.YtdahackmmhcjoaaGreatM08
import Derived.Test.YtdahackmmhcjoaaGreatM05

/- The document's Can. -/
namespace Go.Proofs.YtdahackmmhcjoaaGreat
open Go.RowKit

set_option maxRecDepth 100000 in
set_option maxHeartbeats 4000000 in
theorem refCan9 : ∀ (d : Nat) (a b : Ty) (da db : Nat) (w : World) (u v : Array Value), Ty.check da a = 0 → Ty.check db b = 0 → 9 ≤ d + da + db → TLies w u a → TLies w v b → Calls Tryz.prog 29 #[.agg u, .agg v] w fun e w' => e = .returned (.bool (Rz.can d a b)) ∧ Below w.heap.size w w' := by
  intro d
  induction d with
  | zero =>
    rintro ⟨ka, xa⟩ ⟨kb, xb⟩ da db w u v ha hb hd
    have := (Sch.ty_open ha).1
    have := (Sch.ty_open hb).1
    omega
  | succ d ih =>
    rintro ⟨ka, xa⟩ ⟨kb, xb⟩ da db w u v ha hb hd hu hv
    obtain ⟨p, ca, rfl, hpl, hpc, hpi⟩ := hu.open
    obtain ⟨q, cb, rfl, hql, hqc, hqi⟩ := hv.open
    obtain ⟨a4, ak, ax⟩ := Sch.ty_open ha
    obtain ⟨b4, bk, bx⟩ := Sch.ty_open hb
    have HCan := Lib.hid (Rz.can_succ d (.mk ka xa) (.mk kb xb))
    have HIH := Lib.hid ih
    have HU := Lib.hid hu
    have HV := Lib.hid hv
    have HA := Lib.hid ha
    have HBt := Lib.hid hb
    unfold cells2 at HU HV ⊢
    obtain ⟨na, hna⟩ : ∃ n, n = xa.length := ⟨_, rfl⟩
    obtain ⟨nb, hnb⟩ : ∃ n, n = xb.length := ⟨_, rfl⟩
    rw [← hna] at HU hpl hpc ⊢
    rw [← hnb] at HV hql hqc ⊢
    obtain ⟨w1, hw1⟩ : ∃ W0, W0 = (w.alloc (.cells #[.int .i64 ka, .slice p na ca] 42)).alloc (.cells #[.int .i64 kb, .slice q nb cb] 42) := ⟨_, rfl⟩
    obtain ⟨l0, l1, lb, ls⟩ := al2 w (.cells #[.int .i64 ka, .slice p na ca] 42) (.cells #[.int .i64 kb, .slice q nb cb] 42)
    rw [← hw1] at l0 l1 lb ls
    have HB1 := Lib.hid lb
    have c0 : w1.cell? ⟨w.heap.size, 0, none⟩ = some (.int .i64 ka) := blk_cell l0 0
    have c1 : w1.cell? ⟨w.heap.size, 1, none⟩ = some (.slice p na ca) := blk_cell l0 1
    have c2 : w1.cell? ⟨w.heap.size + 1, 0, none⟩ = some (.int .i64 kb) := blk_cell l1 0
    have c3 : w1.cell? ⟨w.heap.size + 1, 1, none⟩ = some (.slice q nb cb) := blk_cell l1 1
    have HW0 := Lib.hid hw1
    clear l0 l1 lb ls hu hv ha hb hw1 ih
    obtain ⟨R, hR⟩ : ∃ R, R = Rz.can (d + 1) (.mk ka xa) (.mk kb xb) := ⟨_, rfl⟩
    rw [← hR] at HCan ⊢
    clear hR
    by_cases hA6 : ka = 6 ∧ kb = 6
    · obtain ⟨rfl, rfl⟩ := hA6
      rcases ax with ⟨h, -⟩ | ⟨-, x, rfl, hx⟩
      · omega
      rcases bx with ⟨h, -⟩ | ⟨-, y, rfl, hy⟩
      · omega
      have hna1 : na = 1 := hna
      have hnb1 : nb = 1 := hnb
      clear hna hnb
      subst hna1 hnb1
      have HRr : Hid (R = Rz.can d x y) := by
        show _ = _
        rw [HCan.out]
        rfl
      obtain ⟨ux, hux, hix⟩ := hpi 0 (by simp)
      obtain ⟨uy, huy, hiy⟩ := hqi 0 (by simp)
      have HX := Lib.hid (And.intro hux hix)
      have HY := Lib.hid (And.intro huy hiy)
      have HD : Hid (∀ w', Below w.heap.size w w' → Calls Tryz.prog 29 #[.agg ux, .agg uy] w' fun e w'' => e = .returned (.bool R) ∧ Below w'.heap.size w' w'') := fun w' hb' => by
        rw [HRr.out]
        exact HIH.out x y (da + 1) (db + 1) w' ux uy hx hy (by omega) (hux.on hb') (huy.on hb')
      obtain ⟨bx, ox, kx, qx, nx, cx, rfl, _, rfl, a0, a1⟩ := (HX.out.2.on HB1.out).lies
      obtain ⟨by', oy, ky, qy, ny, cy, rfl, _, rfl, b0, b1⟩ := (HY.out.2.on HB1.out).lies
      rw [Nat.zero_mul, Nat.add_zero] at a0 a1 b0 b1
      unfold cells2 at HD
      clear hpi hqi hux huy hix hiy HCan HIH HRr HX HY HU HV hpl hpc hql hqc
      go_enter Tryz.func29, Tryz.ntmps29
      go_wp2_with fail
      rw [← HW0.out]
      go_region_held3 (fun w' => w'.cell? ⟨w.heap.size, 1, none⟩ = some (.slice (some ⟨bx, ox, none⟩) 1 ca) ∧ w'.cell? ⟨w.heap.size + 1, 1, none⟩ = some (.slice (some ⟨by', oy, none⟩) 1 cb) ∧ w'.cell? ⟨bx, ox, none⟩ = some (.int .i64 kx) ∧ w'.cell? ⟨bx, ox + 1, none⟩ = some (.slice qx nx cx) ∧ w'.cell? ⟨by', oy, none⟩ = some (.int .i64 ky) ∧ w'.cell? ⟨by', oy + 1, none⟩ = some (.slice qy ny cy)) (go_keep) (first
        | (go_at_call 29; refine (HD.out _ (below_drewN HB1.out _)).mono ?_; rintro e w4 ⟨rfl, hb4⟩; have hb5 := below_via (w := w1) hb4 (by rfl) (by rfl) (by rfl) (by rfl); have z0 := cell_on hb5 c1; have z1 := cell_on hb5 c3; have z2 := cell_on hb5 a0; have z3 := cell_on hb5 a1; have z4 := cell_on hb5 b0; have z5 := cell_on hb5 b1; have HB4 := Lib.hid (HB1.out.trans (hb5.mono HB1.out.size)); clear hb4 hb5))
      go_wp2
      go_ret
      exact ⟨rfl, HB4.out⟩
    by_cases hA7 : ka = 7 ∧ kb = 7
    · obtain ⟨rfl, rfl⟩ := hA7
      rcases ax with ⟨h, -⟩ | ⟨-, x, rfl, hx⟩
      · omega
      rcases bx with ⟨h, -⟩ | ⟨-, y, rfl, hy⟩
      · omega
      have hna1 : na = 1 := hna
      have hnb1 : nb = 1 := hnb
      clear hna hnb
      subst hna1 hnb1
      have HRr : Hid (R = Rz.can d x y) := by
        show _ = _
        rw [HCan.out]
        rfl
      obtain ⟨ux, hux, hix⟩ := hpi 0 (by simp)
      obtain ⟨uy, huy, hiy⟩ := hqi 0 (by simp)
      have HX := Lib.hid (And.intro hux hix)
      have HY := Lib.hid (And.intro huy hiy)
      have HD : Hid (∀ w', Below w.heap.size w w' → Calls Tryz.prog 29 #[.agg ux, .agg uy] w' fun e w'' => e = .returned (.bool R) ∧ Below w'.heap.size w' w'') := fun w' hb' => by
        rw [HRr.out]
        exact HIH.out x y (da + 1) (db + 1) w' ux uy hx hy (by omega) (hux.on hb') (huy.on hb')
      obtain ⟨bx, ox, kx, qx, nx, cx, rfl, _, rfl, a0, a1⟩ := (HX.out.2.on HB1.out).lies
      obtain ⟨by', oy, ky, qy, ny, cy, rfl, _, rfl, b0, b1⟩ := (HY.out.2.on HB1.out).lies
      rw [Nat.zero_mul, Nat.add_zero] at a0 a1 b0 b1
      unfold cells2 at HD
      clear hpi hqi hux huy hix hiy HCan HIH HRr HX HY HU HV hpl hpc hql hqc
      go_enter Tryz.func29, Tryz.ntmps29
      go_wp2_with fail
      rw [← HW0.out]
      go_region_held3 (fun w' => w'.cell? ⟨w.heap.size, 1, none⟩ = some (.slice (some ⟨bx, ox, none⟩) 1 ca) ∧ w'.cell? ⟨w.heap.size + 1, 1, none⟩ = some (.slice (some ⟨by', oy, none⟩) 1 cb) ∧ w'.cell? ⟨bx, ox, none⟩ = some (.int .i64 kx) ∧ w'.cell? ⟨bx, ox + 1, none⟩ = some (.slice qx nx cx) ∧ w'.cell? ⟨by', oy, none⟩ = some (.int .i64 ky) ∧ w'.cell? ⟨by', oy + 1, none⟩ = some (.slice qy ny cy)) (go_keep) (first
        | (go_at_call 29; refine (HD.out _ (below_drewN HB1.out _)).mono ?_; rintro e w4 ⟨rfl, hb4⟩; have hb5 := below_via (w := w1) hb4 (by rfl) (by rfl) (by rfl) (by rfl); have z0 := cell_on hb5 c1; have z1 := cell_on hb5 c3; have z2 := cell_on hb5 a0; have z3 := cell_on hb5 a1; have z4 := cell_on hb5 b0; have z5 := cell_on hb5 b1; have HB4 := Lib.hid (HB1.out.trans (hb5.mono HB1.out.size)); clear hb4 hb5))
      go_wp2
      go_ret
      exact ⟨rfl, HB4.out⟩
    by_cases hB : kb = 6
    · have hk6 : ¬ ka = 6 := by omega
      have g6 := beq_f hk6
      rcases bx with ⟨h, -⟩ | ⟨-, y, rfl, hy⟩
      · omega
      have hnb1 : nb = 1 := hnb
      clear hnb
      subst hnb1 hB
      have HRr : Hid (R = Rz.can d (.mk ka xa) y) := by
        show _ = _
        rw [HCan.out, if_pos rfl, if_neg (by exact hk6)]
        rfl
      obtain ⟨uy, huy, hiy⟩ := hqi 0 (by simp)
      have HY := Lib.hid (And.intro huy hiy)
      have HD : Hid (∀ w', Below w.heap.size w w' → Calls Tryz.prog 29 #[.agg #[.int .i64 ka, .slice p na ca], .agg uy] w' fun e w'' => e = .returned (.bool R) ∧ Below w'.heap.size w' w'') := fun w' hb' => by
        rw [HRr.out]
        exact HIH.out (.mk ka xa) y da (db + 1) w' _ uy HA.out hy (by omega) (HU.out.on hb') (huy.on hb')
      obtain ⟨by', oy, ky, qy, ny, cy, rfl, _, rfl, b0, b1⟩ := (HY.out.2.on HB1.out).lies
      rw [Nat.zero_mul, Nat.add_zero] at b0 b1
      unfold cells2 at HD
      clear hA6 hA7 hpi hqi huy hiy HCan HIH HRr hna HY HU HV hpl hpc hql hqc hk6
      go_enter Tryz.func29, Tryz.ntmps29
      go_wp2_with fail
      rw [← HW0.out]
      go_region_held3 (fun w' => w'.cell? ⟨w.heap.size, 0, none⟩ = some (.int .i64 ka) ∧ w'.cell? ⟨w.heap.size, 1, none⟩ = some (.slice p na ca) ∧ w'.cell? ⟨w.heap.size + 1, 1, none⟩ = some (.slice (some ⟨by', oy, none⟩) 1 cb) ∧ w'.cell? ⟨by', oy, none⟩ = some (.int .i64 ky) ∧ w'.cell? ⟨by', oy + 1, none⟩ = some (.slice qy ny cy)) (go_keep) (first
        | (go_at_call 29; refine (HD.out _ (below_drewN HB1.out _)).mono ?_; rintro e w4 ⟨rfl, hb4⟩; have hb5 := below_via (w := w1) hb4 (by rfl) (by rfl) (by rfl) (by rfl); have z0 := cell_on hb5 c0; have z1 := cell_on hb5 c1; have z2 := cell_on hb5 c3; have z4 := cell_on hb5 b0; have z5 := cell_on hb5 b1; have HB4 := Lib.hid (HB1.out.trans (hb5.mono HB1.out.size)); clear hb4 hb5))
      go_wp2
      go_ret
      exact ⟨rfl, HB4.out⟩
    have gB := beq_f hB
    by_cases hC : ka = 6
    · rcases ax with ⟨h, -⟩ | ⟨-, x, rfl, hx⟩
      · omega
      have hna1 : na = 1 := hna
      clear hna
      subst hna1 hC
      have HRr : Hid (R = Rz.can d x (.mk kb xb)) := by
        show _ = _
        rw [HCan.out, if_neg hB, if_pos rfl]
        rfl
      obtain ⟨ux, hux, hix⟩ := hpi 0 (by simp)
      have HX := Lib.hid (And.intro hux hix)
      have HD : Hid (∀ w', Below w.heap.size w w' → Calls Tryz.prog 29 #[.agg ux, .agg #[.int .i64 kb, .slice q nb cb]] w' fun e w'' => e = .returned (.bool R) ∧ Below w'.heap.size w' w'') := fun w' hb' => by
        rw [HRr.out]
        exact HIH.out x (.mk kb xb) (da + 1) db w' ux _ hx HBt.out (by omega) (hux.on hb') (HV.out.on hb')
      obtain ⟨bx, ox, kx, qx, nx, cx, rfl, _, rfl, a0, a1⟩ := (HX.out.2.on HB1.out).lies
      rw [Nat.zero_mul, Nat.add_zero] at a0 a1
      unfold cells2 at HD
      clear hA6 hA7 hpi hqi hux hix HCan HIH HRr hnb hB HX HU HV hpl hpc hql hqc
      go_enter Tryz.func29, Tryz.ntmps29
      go_wp2_with fail
      rw [← HW0.out]
      go_region_held3 (fun w' => w'.cell? ⟨w.heap.size, 1, none⟩ = some (.slice (some ⟨bx, ox, none⟩) 1 ca) ∧ w'.cell? ⟨w.heap.size + 1, 0, none⟩ = some (.int .i64 kb) ∧ w'.cell? ⟨w.heap.size + 1, 1, none⟩ = some (.slice q nb cb) ∧ w'.cell? ⟨bx, ox, none⟩ = some (.int .i64 kx) ∧ w'.cell? ⟨bx, ox + 1, none⟩ = some (.slice qx nx cx)) (go_keep) (first
        | (go_at_call 29; refine (HD.out _ (below_drewN HB1.out _)).mono ?_; rintro e w4 ⟨rfl, hb4⟩; have hb5 := below_via (w := w1) hb4 (by rfl) (by rfl) (by rfl) (by rfl); have z0 := cell_on hb5 c1; have z1 := cell_on hb5 c2; have z2 := cell_on hb5 c3; have z3 := cell_on hb5 a0; have z4 := cell_on hb5 a1; have HB4 := Lib.hid (HB1.out.trans (hb5.mono HB1.out.size)); clear hb4 hb5))
      go_wp2
      go_ret
      exact ⟨rfl, HB4.out⟩
    have HRr : Hid (R = Rz.plain ka kb) := by
      show _ = _
      rw [HCan.out, if_neg hB, if_neg hC, if_neg (by exact hA7)]
    clear hpi hqi HCan HIH hna hnb HA HBt ax bx HU HV hpl hpc hql hqc gB c0 c1 c2 c3
    have hka : ka = 1 ∨ ka = 2 ∨ ka = 3 ∨ ka = 4 ∨ ka = 5 ∨ ka = 7 := by omega
    have hkb : kb = 1 ∨ kb = 2 ∨ kb = 3 ∨ kb = 4 ∨ kb = 5 ∨ kb = 7 := by omega
    clear hA6 hB hC ak bk
    rcases hka with rfl | rfl | rfl | rfl | rfl | rfl <;> rcases hkb with rfl | rfl | rfl | rfl | rfl | rfl
    all_goals first
      | exact absurd ⟨rfl, rfl⟩ hA7
      | (clear hA7
         go_enter Tryz.func29, Tryz.ntmps29
         go_wp2
         rw [← HW0.out]
         go_ret
         exact ⟨by rw [HRr.out]; rfl, HB1.out⟩)
end Go.Proofs.YtdahackmmhcjoaaGreat

/- The document's Check of two schemas. -/
namespace Go.Proofs.YtdahackmmhcjoaaGreat
open Go.RowKit

attribute [local go_sem] run_store_float

set_option maxRecDepth 100000 in
set_option maxHeartbeats 4000000 in
theorem refCheck9 (s t : List Col) (p q : Option Addr) (cp cq : Nat) (w : World) (hs : s.length * 120 ≤ 140737488351232) (ht : t.length * 120 ≤ 140737488351232) (hcp : s.length ≤ cp) (hcq : t.length ≤ cq) (hx : Cols w p s) (hy : Cols w q t) (hws : ∀ x ∈ s, x.wf) (hwt : ∀ x ∈ t, x.wf) :
    Calls Tryz.prog 12 #[.agg #[.slice p s.length cp], .agg #[.slice q t.length cq]] w fun e w' => e = .returned (.int .i64 (Rz.check s t : Nat)) ∧ Below w.heap.size w w' := by
  obtain ⟨W0, hW0⟩ : ∃ W0, W0 = ((w.alloc (.cells #[.slice p s.length cp] 24)).alloc (.cells #[.slice q t.length cq] 24)).alloc (.cells #[.slice p s.length cp, .slice q t.length cq] 24) := ⟨_, rfl⟩
  obtain ⟨l0, l1, l2, lb, ls⟩ := al3 w (.cells #[.slice p s.length cp] 24) (.cells #[.slice q t.length cq] 24) (.cells #[.slice p s.length cp, .slice q t.length cq] 24)
  rw [← hW0] at l0 l1 l2 lb ls
  have HW0 := Lib.hid hW0
  have HB0 := Lib.hid lb
  have HCl : Hid (∀ w', Below W0.heap.size W0 w' → w'.cell? ⟨w.heap.size, 0, none⟩ = some (.slice p s.length cp) ∧ w'.cell? ⟨w.heap.size + 1, 0, none⟩ = some (.slice q t.length cq) ∧ w'.cell? ⟨w.heap.size + 1 + 1, 0, none⟩ = some (.slice p s.length cp) ∧ w'.cell? ⟨w.heap.size + 1 + 1, 1, none⟩ = some (.slice q t.length cq)) := fun w' h => ⟨blk_at l0 h 0, blk_at l1 h 0, blk_at l2 h 0, blk_at l2 h 1⟩
  have HCs := Lib.hid (fun w' (h : Below w.heap.size w w') => refCheck7 s p cp w' hs hcp (hx.on h) hws)
  have HCt := Lib.hid (fun w' (h : Below w.heap.size w w') => refCheck7 t q cq w' ht hcq (hy.on h) hwt)
  have HE : Hid (Rz.check s t = if Sch.err s ≠ 0 then Sch.err s else if Sch.err t ≠ 0 then Sch.err t else V.first (t.map (Rz.colErr s))) := rfl
  have HTs := Lib.hid (fun h c hc => Rz.ty_ok (s := s) h (c := c) hc)
  have HTt := Lib.hid (fun h c hc => Rz.ty_ok (s := t) h (c := c) hc)
  obtain ⟨R, hR⟩ : ∃ R, R = Rz.check s t := ⟨_, rfl⟩
  rw [← hR] at HE ⊢
  obtain ⟨es, hes⟩ : ∃ n, n = Sch.err s := ⟨_, rfl⟩
  obtain ⟨et, het⟩ : ∃ n, n = Sch.err t := ⟨_, rfl⟩
  rw [← hes] at HCs HE HTs
  rw [← het] at HCt HE HTt
  have HX := Lib.hid hx
  have HY := Lib.hid hy
  clear hR hes het hW0 l0 l1 l2 lb ls hx hy hws hwt hcp hcq
  go_enter Tryz.func12, Tryz.ntmps12
  go_wp2_with fail
  rw [← HW0.out]
  clear HW0
  go_loopw [17] (fun v17 wr => ∃ j : Nat, j ≤ 2 ∧ v17 = .int .i64 j ∧ Hid (Below W0.heap.size W0 wr ∧ (0 < j → es = 0) ∧ (1 < j → et = 0))) (fun v17 _ => 2 - (intOf v17).toNat)
  case atStart => exact ⟨0, by omega, rfl, Below.refl _ _, fun h => by omega, fun h => by omega⟩
  case round =>
    obtain ⟨j, hj, rfl, HL⟩ := hrel
    have HBr : Hid (Below w.heap.size w wr) := HB0.out.trans (HL.out.1.mono HB0.out.size)
    obtain ⟨c0, c1, c2, c3⟩ := HCl.out wr HL.out.1
    have hj3 : j = 0 ∨ j = 1 ∨ j = 2 := by omega
    have HBa : Hid (∀ o, Below wr.heap.size wr (wr.alloc o)) := fun o => (Below.refl _ _).alloc (Nat.le_refl _) o
    rcases hj3 with rfl | rfl | rfl
    · go_wp2_with fail
      refine (HCs.out _ (HBr.out.trans ((HBa.out _).mono HBr.out.size))).mono ?_
      rintro e w2 ⟨rfl, hb2⟩
      have hb2' : Below wr.heap.size wr w2 := (HBa.out _).trans (hb2.mono (by simp))
      have HB2 := Lib.hid (HL.out.1.trans (hb2'.mono HL.out.1.size))
      have HB2w := Lib.hid (HBr.out.trans (hb2'.mono HBr.out.size))
      clear hb2 hb2' c0 c1 c2 c3
      by_cases h0 : es = 0
      · have g0 : ((es : Int) != 0) = false := bne_f (by omega)
        have HN : Hid (Below W0.heap.size W0 w2 ∧ (0 < 1 → es = 0) ∧ (1 < 1 → et = 0)) := ⟨HB2.out, fun _ => h0, fun h => by omega⟩
        clear h0
        go_wp2
        go_roundw
        case rel => exact ⟨1, by omega, by go_num, HN⟩
        case measure => simp [intOf]
      · have g0 : ((es : Int) != 0) = true := bne_t (by omega)
        have HE2 : Hid (R = es) := by show _ = _; rw [HE.out, if_pos h0]
        clear h0
        go_wp2
        go_ret
        exact ⟨by rw [HE2.out]; rfl, HB2w.out⟩
    · have hs0 : es = 0 := HL.out.2.1 (by omega)
      have HS0 := Lib.hid hs0
      clear hs0
      go_wp2_with fail
      refine (HCt.out _ (HBr.out.trans ((HBa.out _).mono HBr.out.size))).mono ?_
      rintro e w2 ⟨rfl, hb2⟩
      have hb2' : Below wr.heap.size wr w2 := (HBa.out _).trans (hb2.mono (by simp))
      have HB2 := Lib.hid (HL.out.1.trans (hb2'.mono HL.out.1.size))
      have HB2w := Lib.hid (HBr.out.trans (hb2'.mono HBr.out.size))
      clear hb2 hb2' c0 c1 c2 c3
      by_cases h0 : et = 0
      · have g0 : ((et : Int) != 0) = false := bne_f (by omega)
        have HN : Hid (Below W0.heap.size W0 w2 ∧ (0 < 2 → es = 0) ∧ (1 < 2 → et = 0)) := ⟨HB2.out, fun _ => HS0.out, fun _ => h0⟩
        clear h0
        go_wp2
        go_roundw
        case rel => exact ⟨2, by omega, by go_num, HN⟩
        case measure => simp [intOf]
      · have g0 : ((et : Int) != 0) = true := bne_t (by omega)
        have HE2 : Hid (R = et) := by show _ = _; rw [HE.out, if_neg (by have := HS0.out; omega), if_pos h0]
        clear h0
        go_wp2
        go_ret
        exact ⟨by rw [HE2.out]; rfl, HB2w.out⟩
    · have hs0 : es = 0 := HL.out.2.1 (by omega)
      have ht0 : et = 0 := HL.out.2.2 (by omega)
      have HTs2 := Lib.hid (HTs.out hs0)
      have HTt2 := Lib.hid (HTt.out ht0)
      have HE2 : Hid (R = V.first (t.map (Rz.colErr s))) := by show _ = _; rw [HE.out, if_neg (by omega), if_neg (by omega)]
      obtain ⟨w2, hw2⟩ : ∃ w2, w2 = wr := ⟨_, rfl⟩
      have HB2 : Hid (Below W0.heap.size W0 w2) := by rw [hw2]; exact HL.out.1
      have HB2w : Hid (Below w.heap.size w w2) := by rw [hw2]; exact HBr.out
      rw [← hw2] at c0 c1 c2 c3 ⊢
      rw [show ((2 : Nat) : Int) = 2 from rfl]
      clear hs0 ht0 HTs HTt HE HL HBr HBa hw2 HCs HCt
      go_wp2_with fail
      go_loopw [8] (fun v8 wr => ∃ j : Nat, j ≤ t.length ∧ v8 = .int .i64 j ∧ Hid (Below w2.heap.size w2 wr ∧ ∀ m (h : m < t.length), m < j → Rz.colErr s t[m] = 0)) (fun v8 _ => t.length - (intOf v8).toNat)
      case atStart => exact ⟨0, by omega, rfl, Below.refl _ _, fun m _ h => by omega⟩
      case round =>
        obtain ⟨j, hj, rfl, HL⟩ := hrel
        have HBr : Hid (Below w.heap.size w wr) := HB2w.out.trans (HL.out.1.mono HB2w.out.size)
        have HBr0 : Hid (Below W0.heap.size W0 wr) := HB2.out.trans (HL.out.1.mono HB2.out.size)
        clear c0 c1 c2 c3
        obtain ⟨c0, c1, -, -⟩ := HCl.out wr HBr0.out
        by_cases hlt : j < t.length
        · obtain ⟨bx, ox, k, tp, tn, tc, vk, vi, vb, vt, vp, vn, vc, rfl, _, h9, hT, hV⟩ := (HY.out.on HBr.out).at j hlt
          obtain ⟨a0, a1, a2, a3, a4, a5, a6, a7, a8⟩ := h9
          have hj1 : (j : Int) < (t.length : Int) := by omega
          obtain ⟨wa, hwa⟩ : ∃ W, W = wr.alloc (.cells #[.string t[j].name, .int .i64 k, .slice tp tn tc, .bool t[j].has, .int .i64 vk, .int .i64 vi, .float .f64 vb, .string vt, .slice vp vn vc] 44) := ⟨_, rfl⟩
          have hba : Below wr.heap.size wr wa := by rw [hwa]; exact (Below.refl _ _).alloc (Nat.le_refl _) _
          have hblk : wa.heap[wr.heap.size]? = some (.cells #[.string t[j].name, .int .i64 k, .slice tp tn tc, .bool t[j].has, .int .i64 vk, .int .i64 vi, .float .f64 vb, .string vt, .slice vp vn vc] 44 (0, 0)) := by rw [hwa]; exact blk_new wr _
          have HBa := Lib.hid (HBr.out.trans (hba.mono HBr.out.size))
          have HBa0 := Lib.hid (HBr0.out.trans (hba.mono HBr0.out.size))
          have HBa2 := Lib.hid (HL.out.1.trans (hba.mono HL.out.1.size))
          have HFd := Lib.hid (refFind7 s t[j].name p cp wa hs (HX.out.on HBa.out))
          have HBk := Lib.hid hblk
          have cca := fun o => cell_on (w := wr) (w' := wr.alloc o) ((Below.refl _ _).alloc (Nat.le_refl _) o) c0
          have HCo : Hid (Rz.colErr s t[j] = match Sch.find t[j].name s 0 with
            | none => if t[j].has then 0 else 90
            | some k => if Rz.can 7 (Rz.colAt s k).ty t[j].ty then 0 else 60) := rfl
          have HTj := Lib.hid (hT.on hba)
          have hty := HTt2.out _ (List.getElem_mem hlt)
          have HFo : Hid (∀ m, Sch.find t[j].name s 0 = some m → ∃ h : m < s.length, s[m].name = t[j].name) := fun m h => Rz.find_here h
          obtain ⟨er, her⟩ : ∃ er, er = Rz.colErr s t[j] := ⟨_, rfl⟩
          rw [← her] at HCo
          have HEr := Lib.hid her
          obtain ⟨fo, hfo⟩ : ∃ fo, fo = Sch.find t[j].name s 0 := ⟨_, rfl⟩
          rw [← hfo] at HFd HCo HFo
          obtain ⟨tj, htj⟩ : ∃ tj, tj = t[j].ty := ⟨_, rfl⟩
          rw [← htj] at HCo HTj hty
          have HWa := Lib.hid hwa
          have HLn : Hid (∀ w4, Below wa.heap.size wa w4 → er = 0 → Below w2.heap.size w2 w4 ∧ ∀ m (h : m < t.length), m < j + 1 → Rz.colErr s t[m] = 0) := fun w4 hb4 hz => by
            refine ⟨HBa2.out.trans (hb4.mono HBa2.out.size), fun m h1 h2 => ?_⟩
            by_cases hmj : m = j
            · subst hmj
              rw [← HEr.out]
              exact hz
            · exact HL.out.2 m h1 (by omega)
          have HLe : Hid (er ≠ 0 → R = er) := fun hz => by
            rw [HE2.out, Rz.first_at (Rz.colErr s) t j hlt (fun m h1 h2 => HL.out.2 m h1 h2) (by rw [← HEr.out]; exact hz), HEr.out]
          generalize t[j].name = nm at *
          generalize t[j].has = hh at *
          clear hwa hba hblk hT hV her hfo htj
          go_wp2_with fail
          rw [← HWa.out]
          clear HWa cca a0 a1 a2 a3 a4 a5 a6 a7 a8 c0 c1
          refine HFd.out.mono ?_
          rintro e w4 ⟨he, hb4⟩
          have HB4 := Lib.hid hb4
          have HB4w := Lib.hid (HBa.out.trans (hb4.mono HBa.out.size))
          have d3 : w4.cell? ⟨wr.heap.size, 3, none⟩ = some (.bool hh) := blk_at HBk.out hb4 3
          have d1 : w4.cell? ⟨wr.heap.size, 1, none⟩ = some (.int .i64 k) := blk_at HBk.out hb4 1
          have d2 : w4.cell? ⟨wr.heap.size, 2, none⟩ = some (.slice tp tn tc) := blk_at HBk.out hb4 2
          have d0 := (HCl.out w4 (HBa0.out.trans (hb4.mono HBa0.out.size))).1
          clear hb4 HFd
          cases fo with
          | none =>
            have he' : e = .returned (.tuple #[.int .i64 0, .bool false]) := he
            subst he'
            cases hh with
            | true =>
              have hz : er = 0 := HCo.out
              have HN := Lib.hid (HLn.out w4 HB4.out hz)
              clear he hz
              go_wp2
              go_roundw
              case rel => exact ⟨j + 1, by omega, by go_num, HN⟩
              case measure => simp [intOf]; omega
            | false =>
              have hz : er = 90 := HCo.out
              have HF := Lib.hid (HLe.out (by omega))
              rw [hz] at HF
              clear he hz
              go_wp2
              go_ret
              exact ⟨by rw [HF.out]; rfl, HB4w.out⟩
          | some m =>
            have he' : e = .returned (.tuple #[.int .i64 m, .bool true]) := he
            subst he'
            obtain ⟨hm, -⟩ := HFo.out m rfl
            obtain ⟨bz, oz, kz, tpz, tnz, tcz, vkz, viz, vbz, vtz, vpz, vnz, vcz, rfl, _, h9z, hTz, -⟩ := (HX.out.on HB4w.out).at m hm
            obtain ⟨-, z1, z2, -⟩ := h9z
            have HC : Hid (∀ w', Below w4.heap.size w4 w' → Calls Tryz.prog 29 #[.agg #[.int .i64 kz, .slice tpz tnz tcz], .agg #[.int .i64 k, .slice tp tn tc]] w' fun e w'' => e = .returned (.bool (Rz.can 7 (Rz.colAt s m).ty tj)) ∧ Below w'.heap.size w' w'') := fun w' hb => by
              rw [Rz.colAt_get hm]
              exact refCan9 7 s[m].ty tj 1 1 w' _ _ (HTs2.out _ (List.getElem_mem hm)) hty (by omega) (hTz.on hb) ((HTj.out.on HB4.out).on hb)
            have HCo2 : Hid (er = if Rz.can 7 (Rz.colAt s m).ty tj then 0 else 60) := HCo.out
            obtain ⟨cn, hcn⟩ : ∃ cn, cn = Rz.can 7 (Rz.colAt s m).ty tj := ⟨_, rfl⟩
            rw [← hcn] at HC HCo2
            have hm1 : (m : Int) < (s.length : Int) := by omega
            clear he hTz hcn HCo
            go_wp2_with fail
            go_region_held3 (fun w' => w'.cell? ⟨w.heap.size, 0, none⟩ = some (.slice (some ⟨bz, oz, none⟩) s.length cp) ∧ w'.cell? ⟨wr.heap.size, 1, none⟩ = some (.int .i64 k) ∧ w'.cell? ⟨wr.heap.size, 2, none⟩ = some (.slice tp tn tc) ∧ w'.cell? ⟨bz, oz + m * 9 + 1, none⟩ = some (.int .i64 kz) ∧ w'.cell? ⟨bz, oz + m * 9 + 2, none⟩ = some (.slice tpz tnz tcz)) (go_keep) (first
              | (go_at_call 29; refine (HC.out _ (below_drewN (Below.refl _ _) _)).mono ?_; rintro e w5 ⟨rfl, hb5⟩; have hb6 := below_via (w := w4) hb5 (by rfl) (by rfl) (by rfl) (by rfl); have y0 := cell_on hb6 d0; have y1 := cell_on hb6 d1; have y2 := cell_on hb6 d2; have y3 := cell_on hb6 z1; have y4 := cell_on hb6 z2; have HB5 := Lib.hid (HB4.out.trans (hb6.mono HB4.out.size)); have HB5w := Lib.hid (HB4w.out.trans (hb6.mono HB4w.out.size)); clear hb5 hb6))
            clear y0 y1 y2 y3 y4 d0 d1 d2 d3 z1 z2 HC
            cases cn with
            | true =>
              have hz : er = 0 := HCo2.out
              have HN := Lib.hid (HLn.out w5 HB5.out hz)
              clear hz
              go_wp2
              go_roundw
              case rel => exact ⟨j + 1, by omega, by go_num, HN⟩
              case measure => simp [intOf]; omega
            | false =>
              have hz : er = 60 := HCo2.out
              have HF := Lib.hid (HLe.out (by omega))
              rw [hz] at HF
              clear hz
              go_wp2
              go_ret
              exact ⟨by rw [HF.out]; rfl, HB5w.out⟩
        · have hjn : ¬ (j : Int) < (t.length : Int) := by omega
          have HF : Hid (R = 0) := by
            show _ = _
            rw [HE2.out]
            refine Rz.first_all _ _ fun c hc => ?_
            obtain ⟨m, hm, rfl⟩ := List.mem_iff_getElem.1 hc
            exact HL.out.2 m hm (by omega)
          clear hlt
          go_wp2
          go_ret
          exact ⟨by rw [HF.out]; rfl, HBr.out⟩
end Go.Proofs.YtdahackmmhcjoaaGreat
