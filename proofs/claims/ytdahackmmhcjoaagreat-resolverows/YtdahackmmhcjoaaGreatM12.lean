/- K9A, K9B, K8Q, K9C: put together. -/
import Derived.Test.YtdahackmmhcjoaaGreatM11
import Derived.Test.YtdahackmmhcjoaaGreatM09
import Derived.Test.YtdahackmmhcjoaaGreatM02
import Derived.Test.YtdahackmmhcjoaaGreatM10
import Derived.Test.YtdahackmmhcjoaaGreatM07
import Derived.Test.YtdahackmmhcjoaaGreatM01
import Derived.Deep.RegionLaw
import Derived.Deep.Cut
import Derived.Deep.CutRange

/- The landed resolve: two kinds held together; canRead. -/
namespace Go.Proofs.YtdahackmmhcjoaaGreat
open Go.RowKit

theorem eqKinds (a b c d : Int) (w : World) : (Op.equalIn 10000 77 (.agg #[.int .i64 a, .int .i64 b]) (.agg #[.int .i64 c, .int .i64 d])).run Tryz.prog w = .ok (a == c && b == d) w := by
  have u3 := Tryz.underlying3
  have a3 := Tryz.isAgg3
  have z3 := Tryz.sizeOf3
  rw [show (10000 : Nat) = 9999 + 1 from rfl, Op.equalIn]
  simp only [Sem.run_bind, run_underlying Tryz.underlying77, Result.andThen_ok]
  simp only [Std.Legacy.Range.forIn_eq_forIn_range', Std.Legacy.Range.size, Nat.sub_zero, Nat.add_sub_cancel, Nat.div_one, List.range'_succ, List.range'_zero, List.forIn_cons, List.forIn_nil]
  go_simp
  by_cases h1 : a = c <;> by_cases h2 : b = d <;> simp [h1, h2]
attribute [local go_sem] eqKinds

/-- kinds of which what they are of is read, item by item -/
def bothB (a b : Int) : Bool := (a == 6 && b == 6) || (a == 7 && b == 7)
set_option maxRecDepth 100000 in
set_option maxHeartbeats 400000 in
theorem isBothOfK (a b : Int) (w : World) : Calls Tryz.prog 44 #[.agg #[.int .i64 a, .int .i64 b]] w fun e w' => e = .returned (.bool (bothB a b)) ∧ Below w.heap.size w w' := by
  have HB : Hid (Below w.heap.size w (w.alloc (.cells #[.int .i64 a, .int .i64 b] 77))) := (Below.refl _ _).alloc (Nat.le_refl _) _
  by_cases h : a = 6 ∧ b = 6
  · obtain ⟨rfl, rfl⟩ := h
    go_enter Tryz.func44, Tryz.ntmps44
    go_wp2
    go_ret
    exact ⟨rfl, HB.out⟩
  · have g : (a == 6 && b == 6) = false := by rw [Bool.and_eq_false_iff, beq_eq_false_iff_ne, beq_eq_false_iff_ne]; omega
    have HE : Hid (bothB a b = (a == 7 && b == 7)) := by show _ = _; unfold bothB; rw [g, Bool.false_or]
    clear h
    go_enter Tryz.func44, Tryz.ntmps44
    go_wp2
    go_ret
    exact ⟨by rw [HE.out]; rfl, HB.out⟩

/-- kinds none of which is Opt, nor both List -/
def plainK (a b : Int) : Bool := (a == 2 && b == 3) || (a == 3 && b == 2) || (a == 1 && b == 2) || (a == 4 && b == 5) || (a == 5 && b == 4) || a == b
theorem plain_K {a b : Int} (h : ¬ (a = 7 ∧ b = 7)) : Rz.plain a b = plainK a b := by
  unfold Rz.plain plainK
  rw [Bool.eq_iff_iff]
  simp only [Bool.and_eq_true, Bool.not_eq_true', beq_eq_false_iff_ne, ne_eq, Bool.or_eq_true, beq_iff_eq]
  omega
set_option maxRecDepth 100000 in
set_option maxHeartbeats 1000000 in
theorem canReadPlainK (a b : Int) (w : World) : Calls Tryz.prog 57 #[.agg #[.int .i64 a, .int .i64 b]] w fun e w' => e = .returned (.bool (plainK a b)) ∧ Below w.heap.size w w' := by
  have HB : Hid (Below w.heap.size w (w.alloc (.cells #[.int .i64 a, .int .i64 b] 77))) := (Below.refl _ _).alloc (Nat.le_refl _) _
  have HP : Hid (plainK a b = true ↔ (a = 2 ∧ b = 3) ∨ (a = 3 ∧ b = 2) ∨ (a = 1 ∧ b = 2) ∨ (a = 4 ∧ b = 5) ∨ (a = 5 ∧ b = 4) ∨ a = b) := by
    show _ ↔ _
    unfold plainK
    simp only [Bool.and_eq_true, Bool.or_eq_true, beq_iff_eq]
    omega
  obtain ⟨r, hr⟩ : ∃ r, r = plainK a b := ⟨_, rfl⟩
  rw [← hr] at HP ⊢
  clear hr
  by_cases h1 : (a = 2 ∧ b = 3)
  · have hr : r = true := HP.out.2 (by omega)
    obtain ⟨rfl, rfl⟩ := h1
    subst hr
    clear HP
    go_enter Tryz.func57, Tryz.ntmps57
    go_wp2
    go_ret
    exact ⟨rfl, HB.out⟩
  by_cases h2 : (a = 3 ∧ b = 2)
  · have hr : r = true := HP.out.2 (by omega)
    obtain ⟨rfl, rfl⟩ := h2
    subst hr
    clear HP h1
    go_enter Tryz.func57, Tryz.ntmps57
    go_wp2
    go_ret
    exact ⟨rfl, HB.out⟩
  by_cases h3 : (a = 1 ∧ b = 2)
  · have hr : r = true := HP.out.2 (by omega)
    obtain ⟨rfl, rfl⟩ := h3
    subst hr
    clear HP h1 h2
    go_enter Tryz.func57, Tryz.ntmps57
    go_wp2
    go_ret
    exact ⟨rfl, HB.out⟩
  by_cases h4 : (a = 4 ∧ b = 5)
  · have hr : r = true := HP.out.2 (by omega)
    obtain ⟨rfl, rfl⟩ := h4
    subst hr
    clear HP h1 h2 h3
    go_enter Tryz.func57, Tryz.ntmps57
    go_wp2
    go_ret
    exact ⟨rfl, HB.out⟩
  by_cases h5 : (a = 5 ∧ b = 4)
  · have hr : r = true := HP.out.2 (by omega)
    obtain ⟨rfl, rfl⟩ := h5
    subst hr
    clear HP h1 h2 h3 h4
    go_enter Tryz.func57, Tryz.ntmps57
    go_wp2
    go_ret
    exact ⟨rfl, HB.out⟩
  have hr : r = (a == b) := by
    rw [Bool.eq_iff_iff, HP.out, beq_iff_eq]
    omega
  have g1 : (a == 2 && b == 3) = false := by rw [Bool.and_eq_false_iff, beq_eq_false_iff_ne, beq_eq_false_iff_ne]; omega
  have g2 : (a == 3 && b == 2) = false := by rw [Bool.and_eq_false_iff, beq_eq_false_iff_ne, beq_eq_false_iff_ne]; omega
  have g3 : (a == 1 && b == 2) = false := by rw [Bool.and_eq_false_iff, beq_eq_false_iff_ne, beq_eq_false_iff_ne]; omega
  have g4 : (a == 4 && b == 5) = false := by rw [Bool.and_eq_false_iff, beq_eq_false_iff_ne, beq_eq_false_iff_ne]; omega
  have g5 : (a == 5 && b == 4) = false := by rw [Bool.and_eq_false_iff, beq_eq_false_iff_ne, beq_eq_false_iff_ne]; omega
  have HR := Lib.hid hr
  clear HP h1 h2 h3 h4 h5 hr
  go_enter Tryz.func57, Tryz.ntmps57
  go_wp2
  go_ret
  exact ⟨by rw [HR.out]; rfl, HB.out⟩

set_option maxRecDepth 100000 in
set_option maxHeartbeats 2000000 in
theorem canReadK : ∀ (d : Nat) (a b : Ty) (da db : Nat) (w : World) (u v : Array Value), Ty.check da a = 0 → Ty.check db b = 0 → 9 ≤ d + da + db → TLies w u a → TLies w v b → Calls Tryz.prog 37 #[.agg u, .agg v] w fun e w' => e = .returned (.bool (Rz.can d a b)) ∧ Below w.heap.size w w' := by
  intro d
  induction d with
  | zero =>
    rintro ⟨ka, xa⟩ ⟨kb, xb⟩ da db w u v ha hb hd
    have := (Sch.ty_open ha).1
    have := (Sch.ty_open hb).1
    omega
  | succ d ih =>
    rintro ⟨ka, xa⟩ ⟨kb, xb⟩ da db w u v ha hb hd hu hv
    obtain ⟨p, ca, rfl, hpl, hpc, hpi⟩ := hu.open
    obtain ⟨q, cb, rfl, hql, hqc, hqi⟩ := hv.open
    obtain ⟨a4, ak, ax⟩ := Sch.ty_open ha
    obtain ⟨b4, bk, bx⟩ := Sch.ty_open hb
    have HCan := Lib.hid (Rz.can_succ d (.mk ka xa) (.mk kb xb))
    have HIH := Lib.hid ih
    have HU := Lib.hid hu
    have HV := Lib.hid hv
    have HA := Lib.hid ha
    have HBt := Lib.hid hb
    unfold cells2 at HU HV ⊢
    obtain ⟨na, hna⟩ : ∃ n, n = xa.length := ⟨_, rfl⟩
    obtain ⟨nb, hnb⟩ : ∃ n, n = xb.length := ⟨_, rfl⟩
    rw [← hna] at HU hpl hpc ⊢
    rw [← hnb] at HV hql hqc ⊢
    obtain ⟨W0, hW0⟩ : ∃ W0, W0 = ((w.alloc (.cells #[.int .i64 ka, .slice p na ca] 42)).alloc (.cells #[.int .i64 kb, .slice q nb cb] 42)).alloc (.cells #[.int .i64 ka, .int .i64 kb] 77) := ⟨_, rfl⟩
    obtain ⟨l0, l1, l2, lb, ls⟩ := al3 w (.cells #[.int .i64 ka, .slice p na ca] 42) (.cells #[.int .i64 kb, .slice q nb cb] 42) (.cells #[.int .i64 ka, .int .i64 kb] 77)
    rw [← hW0] at l0 l1 l2 lb ls
    have HB0 := Lib.hid lb
    have HCl : Hid (∀ w', Below W0.heap.size W0 w' → w'.cell? ⟨w.heap.size, 0, none⟩ = some (.int .i64 ka) ∧ w'.cell? ⟨w.heap.size, 1, none⟩ = some (.slice p na ca) ∧ w'.cell? ⟨w.heap.size + 1, 0, none⟩ = some (.int .i64 kb) ∧ w'.cell? ⟨w.heap.size + 1, 1, none⟩ = some (.slice q nb cb) ∧ w'.cell? ⟨w.heap.size + 1 + 1, 0, none⟩ = some (.int .i64 ka) ∧ w'.cell? ⟨w.heap.size + 1 + 1, 1, none⟩ = some (.int .i64 kb)) := fun w' h => ⟨blk_at l0 h 0, blk_at l0 h 1, blk_at l1 h 0, blk_at l1 h 1, blk_at l2 h 0, blk_at l2 h 1⟩
    have HW0 := Lib.hid hW0
    have HBo := Lib.hid (isBothOfK ka kb W0)
    clear l0 l1 l2 lb ls hu hv ha hb hW0 ih
    obtain ⟨R, hR⟩ : ∃ R, R = Rz.can (d + 1) (.mk ka xa) (.mk kb xb) := ⟨_, rfl⟩
    rw [← hR] at HCan ⊢
    clear hR
    by_cases hA : bothB ka kb = true
    · -- item by item
      have hk : ka = 6 ∧ kb = 6 ∨ ka = 7 ∧ kb = 7 := by
        unfold bothB at hA
        simpa only [Bool.or_eq_true, Bool.and_eq_true, beq_iff_eq] using hA
      rcases ax with ⟨h, -⟩ | ⟨-, x, rfl, hx⟩
      · omega
      rcases bx with ⟨h, -⟩ | ⟨-, y, rfl, hy⟩
      · omega
      have hna1 : na = 1 := hna
      have hnb1 : nb = 1 := hnb
      clear hna hnb
      subst hna1 hnb1
      have HRr : Hid (R = Rz.can d x y) := by
        show _ = _
        rw [HCan.out]
        rcases hk with ⟨rfl, rfl⟩ | ⟨rfl, rfl⟩ <;> rfl
      obtain ⟨ux, hux, hix⟩ := hpi 0 (by simp)
      obtain ⟨uy, huy, hiy⟩ := hqi 0 (by simp)
      rw [hA] at HBo
      have HX := Lib.hid (And.intro hux hix)
      have HY := Lib.hid (And.intro huy hiy)
      have HD : Hid (∀ w', Below w.heap.size w w' → Calls Tryz.prog 37 #[.agg ux, .agg uy] w' fun e w'' => e = .returned (.bool R) ∧ Below w'.heap.size w' w'') := fun w' hb' => by
        rw [HRr.out]
        exact HIH.out x y (da + 1) (db + 1) w' ux uy hx hy (by omega) (hux.on hb') (huy.on hb')
      clear hk hA hpi hqi hux huy hix hiy HCan HIH HRr
      go_enter Tryz.func37, Tryz.ntmps37
      go_wp2_with fail
      rw [← HW0.out]
      clear HW0
      refine HBo.out.mono ?_
      rintro e w1 ⟨rfl, hb1⟩
      have HB1 := Lib.hid (HB0.out.trans (hb1.mono HB0.out.size))
      obtain ⟨c0, c1, c2, c3, c4, c5⟩ := HCl.out w1 hb1
      obtain ⟨bx, ox, kx, qx, nx, cx, rfl, _, rfl, a0, a1⟩ := (HX.out.2.on HB1.out).lies
      obtain ⟨by', oy, ky, qy, ny, cy, rfl, _, rfl, b0, b1⟩ := (HY.out.2.on HB1.out).lies
      rw [Nat.zero_mul, Nat.add_zero] at a0 a1 b0 b1
      unfold cells2 at HD
      clear HX HY HBo hb1 HCl HU HV hpl hpc hql hqc
      go_wp2_with fail
      go_region_held3 (fun w' => w'.cell? ⟨w.heap.size, 1, none⟩ = some (.slice (some ⟨bx, ox, none⟩) 1 ca) ∧ w'.cell? ⟨w.heap.size + 1, 1, none⟩ = some (.slice (some ⟨by', oy, none⟩) 1 cb) ∧ w'.cell? ⟨bx, ox, none⟩ = some (.int .i64 kx) ∧ w'.cell? ⟨bx, ox + 1, none⟩ = some (.slice qx nx cx) ∧ w'.cell? ⟨by', oy, none⟩ = some (.int .i64 ky) ∧ w'.cell? ⟨by', oy + 1, none⟩ = some (.slice qy ny cy)) (go_keep) (first
        | (go_at_call 37; refine (HD.out _ (below_drewN HB1.out _)).mono ?_; rintro e w4 ⟨rfl, hb4⟩; have hb5 := below_via (w := w1) hb4 (by rfl) (by rfl) (by rfl) (by rfl); have z0 := cell_on hb5 c1; have z1 := cell_on hb5 c3; have z2 := cell_on hb5 a0; have z3 := cell_on hb5 a1; have z4 := cell_on hb5 b0; have z5 := cell_on hb5 b1; have HB4 := Lib.hid (HB1.out.trans (hb5.mono HB1.out.size)); clear hb4 hb5))
      go_wp2
      go_ret
      exact ⟨rfl, HB4.out⟩
    have hA' : bothB ka kb = false := by simpa using hA
    have hk : ¬ (ka = 6 ∧ kb = 6 ∨ ka = 7 ∧ kb = 7) := by
      unfold bothB at hA
      simpa only [Bool.or_eq_true, Bool.and_eq_true, beq_iff_eq] using hA
    rw [hA'] at HBo
    clear hA hA'
    by_cases hB : kb = 6
    · -- to an opt
      rcases bx with ⟨h, -⟩ | ⟨-, y, rfl, hy⟩
      · omega
      have hnb1 : nb = 1 := hnb
      clear hnb
      subst hnb1 hB
      have HRr : Hid (R = Rz.can d (.mk ka xa) y) := by
        show _ = _
        rw [HCan.out, if_pos rfl, if_neg (by show ¬ ka = 6; omega)]
        rfl
      obtain ⟨uy, huy, hiy⟩ := hqi 0 (by simp)
      have HY := Lib.hid (And.intro huy hiy)
      have HD : Hid (∀ w', Below w.heap.size w w' → Calls Tryz.prog 37 #[.agg #[.int .i64 ka, .slice p na ca], .agg uy] w' fun e w'' => e = .returned (.bool R) ∧ Below w'.heap.size w' w'') := fun w' hb' => by
        rw [HRr.out]
        exact HIH.out (.mk ka xa) y da (db + 1) w' _ uy HA.out hy (by omega) (HU.out.on hb') (huy.on hb')
      clear hk hpi hqi huy hiy HCan HIH HRr hna
      go_enter Tryz.func37, Tryz.ntmps37
      go_wp2_with fail
      rw [← HW0.out]
      clear HW0
      refine HBo.out.mono ?_
      rintro e w1 ⟨rfl, hb1⟩
      have HB1 := Lib.hid (HB0.out.trans (hb1.mono HB0.out.size))
      obtain ⟨c0, c1, c2, c3, c4, c5⟩ := HCl.out w1 hb1
      obtain ⟨by', oy, ky, qy, ny, cy, rfl, _, rfl, b0, b1⟩ := (HY.out.2.on HB1.out).lies
      rw [Nat.zero_mul, Nat.add_zero] at b0 b1
      unfold cells2 at HD
      clear HY HBo hb1 HCl HU HV hpl hpc hql hqc
      go_wp2_with fail
      go_region_held3 (fun w' => w'.cell? ⟨w.heap.size, 0, none⟩ = some (.int .i64 ka) ∧ w'.cell? ⟨w.heap.size, 1, none⟩ = some (.slice p na ca) ∧ w'.cell? ⟨w.heap.size + 1, 1, none⟩ = some (.slice (some ⟨by', oy, none⟩) 1 cb) ∧ w'.cell? ⟨by', oy, none⟩ = some (.int .i64 ky) ∧ w'.cell? ⟨by', oy + 1, none⟩ = some (.slice qy ny cy)) (go_keep) (first
        | (go_at_call 37; refine (HD.out _ (below_drewN HB1.out _)).mono ?_; rintro e w4 ⟨rfl, hb4⟩; have hb5 := below_via (w := w1) hb4 (by rfl) (by rfl) (by rfl) (by rfl); have z0 := cell_on hb5 c0; have z1 := cell_on hb5 c1; have z2 := cell_on hb5 c3; have z4 := cell_on hb5 b0; have z5 := cell_on hb5 b1; have HB4 := Lib.hid (HB1.out.trans (hb5.mono HB1.out.size)); clear hb4 hb5))
      go_wp2
      go_ret
      exact ⟨rfl, HB4.out⟩
    have gB := beq_f hB
    by_cases hC : ka = 6
    · -- from an opt
      rcases ax with ⟨h, -⟩ | ⟨-, x, rfl, hx⟩
      · omega
      have hna1 : na = 1 := hna
      clear hna
      subst hna1 hC
      have HRr : Hid (R = Rz.can d x (.mk kb xb)) := by
        show _ = _
        rw [HCan.out, if_neg hB, if_pos rfl]
        rfl
      obtain ⟨ux, hux, hix⟩ := hpi 0 (by simp)
      have HX := Lib.hid (And.intro hux hix)
      have HD : Hid (∀ w', Below w.heap.size w w' → Calls Tryz.prog 37 #[.agg ux, .agg #[.int .i64 kb, .slice q nb cb]] w' fun e w'' => e = .returned (.bool R) ∧ Below w'.heap.size w' w'') := fun w' hb' => by
        rw [HRr.out]
        exact HIH.out x (.mk kb xb) (da + 1) db w' ux _ hx HBt.out (by omega) (hux.on hb') (HV.out.on hb')
      clear hk hpi hqi hux hix HCan HIH HRr hnb hB
      go_enter Tryz.func37, Tryz.ntmps37
      go_wp2_with fail
      rw [← HW0.out]
      clear HW0
      refine HBo.out.mono ?_
      rintro e w1 ⟨rfl, hb1⟩
      have HB1 := Lib.hid (HB0.out.trans (hb1.mono HB0.out.size))
      obtain ⟨c0, c1, c2, c3, c4, c5⟩ := HCl.out w1 hb1
      obtain ⟨bx, ox, kx, qx, nx, cx, rfl, _, rfl, a0, a1⟩ := (HX.out.2.on HB1.out).lies
      rw [Nat.zero_mul, Nat.add_zero] at a0 a1
      unfold cells2 at HD
      clear HX HBo hb1 HCl HU HV hpl hpc hql hqc
      go_wp2_with fail
      go_region_held3 (fun w' => w'.cell? ⟨w.heap.size, 1, none⟩ = some (.slice (some ⟨bx, ox, none⟩) 1 ca) ∧ w'.cell? ⟨w.heap.size + 1, 0, none⟩ = some (.int .i64 kb) ∧ w'.cell? ⟨w.heap.size + 1, 1, none⟩ = some (.slice q nb cb) ∧ w'.cell? ⟨bx, ox, none⟩ = some (.int .i64 kx) ∧ w'.cell? ⟨bx, ox + 1, none⟩ = some (.slice qx nx cx)) (go_keep) (first
        | (go_at_call 37; refine (HD.out _ (below_drewN HB1.out _)).mono ?_; rintro e w4 ⟨rfl, hb4⟩; have hb5 := below_via (w := w1) hb4 (by rfl) (by rfl) (by rfl) (by rfl); have z0 := cell_on hb5 c1; have z1 := cell_on hb5 c2; have z2 := cell_on hb5 c3; have z3 := cell_on hb5 a0; have z4 := cell_on hb5 a1; have HB4 := Lib.hid (HB1.out.trans (hb5.mono HB1.out.size)); clear hb4 hb5))
      go_wp2
      go_ret
      exact ⟨rfl, HB4.out⟩
    have gC := beq_f hC
    have HRr : Hid (R = plainK ka kb) := by
      show _ = _
      rw [HCan.out, if_neg hB, if_neg hC, if_neg (by show ¬ (ka = 7 ∧ kb = 7); omega)]
      exact plain_K (a := ka) (b := kb) (by omega)
    clear hk hpi hqi HCan HIH hna hnb hB hC HA HBt ax bx
    go_enter Tryz.func37, Tryz.ntmps37
    go_wp2_with fail
    rw [← HW0.out]
    clear HW0
    refine HBo.out.mono ?_
    rintro e w1 ⟨rfl, hb1⟩
    have HB1 := Lib.hid (HB0.out.trans (hb1.mono HB0.out.size))
    obtain ⟨c0, c1, c2, c3, c4, c5⟩ := HCl.out w1 hb1
    clear HBo hb1 HCl HU HV hpl hpc hql hqc
    go_wp2_with fail
    refine (canReadPlainK ka kb w1).mono ?_
    rintro e w2 ⟨rfl, hb2⟩
    have HB2 := Lib.hid (HB1.out.trans (hb2.mono HB1.out.size))
    clear hb2
    go_wp2
    go_ret
    exact ⟨by rw [HRr.out]; rfl, HB2.out⟩
end Go.Proofs.YtdahackmmhcjoaaGreat

/- The landed resolve: a value without items, read as one of another kind. -/
namespace Go.Proofs.YtdahackmmhcjoaaGreat
open Go.RowKit

attribute [local go_sem] run_store_float eqKinds

/-- the zero value's cells -/
def zero5 : Array Value := cells5 0 0 0 ⟨#[]⟩ none 0 0
/-- a value and an error are answered -/
def ValR (w : World) (r : Except Nat V) (e : Ending) (w' : World) : Prop := match r with
  | .error er => e = .returned (.tuple #[.agg zero5, .int .i64 (er : Nat)]) ∧ Below w.heap.size w w'
  | .ok y => ∃ u, e = .returned (.tuple #[.agg u, .int .i64 0]) ∧ VOwn w' (fun k => w.heap.size ≤ k ∧ k < w'.heap.size) u y ∧ Below w.heap.size w w'

section
variable {w w1 w2 : World} {g : Nat} {a0 a1 a2 a3 a4 : Value} {T : TypeId} {k i : Int} {b : Nat} {t : ByteArray} {p : Option Addr} {n c : Nat}
/-- a value is written into a place of the call's own -/
theorem put5_block (h : w1.heap[g]? = some (.cells #[a0, a1, a2, a3, a4] T (0, 0))) : (put5 w1 g k i b t (.slice p n c)).heap[g]? = some (.cells (cells5 k i b t p n c) T (0, 0)) := by
  unfold put5
  rw [blk_set (blk_set (blk_set (blk_set (blk_set h 0 _) 1 _) 2 _) 3 _) 4 _]
  rfl
theorem put5_aside (v : Value) : Aside (fun j => j = g) w1 (put5 w1 g k i b t v) := by
  unfold put5
  have h0 : Aside (fun j => j = g) w1 (w1.setCell ⟨g, 0, none⟩ (.int .i64 k)) := (Aside.refl (fun j => j = g) w1).setCell (p := ⟨g, 0, none⟩) (.inl rfl) _
  have h1 := h0.setCell (p := ⟨g, 1, none⟩) (.inl rfl) (.int .i64 i)
  have h2 := h1.setCell (p := ⟨g, 2, none⟩) (.inl rfl) (.float .f64 b)
  have h3 := h2.setCell (p := ⟨g, 3, none⟩) (.inl rfl) (.string t)
  exact h3.setCell (p := ⟨g, 4, none⟩) (.inl rfl) v
theorem put5_below {B : Nat} {v : Value} (h : Below B w w1) (hg : B ≤ g) : Below B w (put5 w1 g k i b t v) := by
  unfold put5
  exact ((((h.setCell (p := ⟨g, 0, none⟩) hg _).setCell (p := ⟨g, 1, none⟩) hg _).setCell (p := ⟨g, 2, none⟩) hg _).setCell (p := ⟨g, 3, none⟩) hg _).setCell (p := ⟨g, 4, none⟩) hg _
theorem put5_size {v : Value} : (put5 w1 g k i b t v).heap.size = w1.heap.size := by
  simp [put5, World.setCell]
/-- the end: a value's place and an error -/
theorem end5 {fn : Func} {R : Ending → World → Prop} {a : Act} {W : World} {q u : Tmp} {cs : Array Value} {fr : Nat × Nat} {x : Value} (h : fn.results = #[.cell q 35, .tmp u]) (hp : a.tmps.getD q undef = .pointer (some ⟨g, 0, none⟩)) (hx : a.tmps.getD u undef = x) (hd : a.defers = []) (hg : W.heap[g]? = some (.cells cs T fr)) (hs : cs.size = 5) (hR : R (.returned (.tuple #[.agg cs, x])) W) : bodyPost Tryz.prog fn R .ret a W := by
  refine bodyPost_ret (results_row2 h _ _ g _ _ _ _ hp hg Tryz.underlying35 rfl ?_) hd (by rw [hx]; exact hR)
  rw [hs]
  kernel_rfl
/-- what a call answered is answered on, through a place of one's own -/
theorem valR_ok {u : Array Value} {y : V} {B : Nat} {v : Value} (hb : Below w.heap.size w w2) (hg : w.heap.size ≤ g) (hB : g < B) (hv : VOwn w2 (fun j => B ≤ j ∧ j < w2.heap.size) u y) : ValR w (.ok y) (.returned (.tuple #[.agg u, .int .i64 0])) (put5 w2 g k i b t v) := by
  refine ⟨u, rfl, ?_, put5_below hb hg⟩
  rw [put5_size]
  exact (hv.aside (put5_aside v) (fun j hj hc => by omega)).mono fun j hj => by omega
theorem valR_err {er : Nat} {v : Value} (hb : Below w.heap.size w w2) (hg : w.heap.size ≤ g) : ValR w (.error er) (.returned (.tuple #[.agg zero5, .int .i64 (er : Nat)])) (put5 w2 g k i b t v) := ⟨rfl, put5_below hb hg⟩
end

set_option maxRecDepth 100000 in
set_option maxHeartbeats 400000 in
theorem asTextK (t : ByteArray) (ht : t.size ≤ 281474976702464) (w : World) : Calls Tryz.prog 68 #[.string t] w fun e w' => e = .returned (.tuple #[.string (if utfT t then t else ⟨#[]⟩), .int .i64 (if utfT t then 0 else 61)]) ∧ Below w.heap.size w w' := by
  have HU := Lib.hid (utfK t ht w)
  cases h : utfT t with
  | true =>
    rw [h] at HU
    clear ht h
    go_enter Tryz.func68, Tryz.ntmps68
    go_wp2_with fail
    refine HU.out.mono ?_
    rintro e w1 ⟨rfl, hb1⟩
    have HB := Lib.hid hb1
    clear hb1
    go_wp2
    go_ret2
    exact ⟨rfl, HB.out⟩
  | false =>
    rw [h] at HU
    clear ht h
    go_enter Tryz.func68, Tryz.ntmps68
    go_wp2_with fail
    refine HU.out.mono ?_
    rintro e w1 ⟨rfl, hb1⟩
    have HB := Lib.hid hb1
    clear hb1
    go_wp2
    go_ret2
    exact ⟨rfl, HB.out⟩

/-- a leaf that is answered -/
theorem leaf_told {w W : World} {k i : Int} {b : Nat} {t : ByteArray} {p : Option Addr} {c : Nat} (hb : Below w.heap.size w W) : ValR w (.ok (.mk k i b t [])) (.returned (.tuple #[.agg (cells5 k i b t p 0 c), .int .i64 0])) W := ⟨_, rfl, VOwn.none, hb⟩

set_option maxRecDepth 100000 in
set_option maxHeartbeats 2000000 in
theorem plain_23 (i : Int) (b : Nat) (t : ByteArray) (p : Option Addr) (n c : Nat) (w : World) : Calls Tryz.prog 46 #[.agg #[.int .i64 2, .int .i64 3], .agg (cells5 2 i b t p n c)] w (ValR w (if fromE i = 0 then .ok (.mk 3 0 (fromB i) ⟨#[]⟩ []) else .error 10)) := by
  unfold cells5
  obtain ⟨r, hr⟩ : ∃ r : Except Nat V, r = (if fromE i = 0 then .ok (.mk 3 0 (fromB i) ⟨#[]⟩ []) else .error 10) := ⟨_, rfl⟩
  rw [← hr]
  have HR := Lib.hid hr
  clear hr
  by_cases h0 : fromE i = 0
  · have HF : Hid (∀ w, Calls Tryz.prog 66 #[.int .i64 i] w fun e w' => e = .returned (.tuple #[.float .f64 (fromB i), .int .i64 0]) ∧ w' = w) := fun w => by have := realFromInt_any i w; rw [h0] at this; exact this
    have HR2 : Hid (r = .ok (.mk 3 0 (fromB i) ⟨#[]⟩ [])) := by show _ = _; rw [HR.out, if_pos h0]
    clear HR h0
    go_enter Tryz.func46, Tryz.ntmps46
    go_wp2_with fail
    refine (HF.out _).mono ?_
    rintro e w1 ⟨rfl, hw1⟩
    rw [hw1]
    clear hw1 w1
    go_wp2
    refine bodyPost_ret (results_row2 rfl _ _ (w.heap.size + 1 + 1) _ _ _ _ rfl (al4 w _ _ _ _).2.2.1 Tryz.underlying35 rfl (by kernel_rfl)) rfl ?_
    rw [HR2.out]
    exact leaf_told (al4 w _ _ _ _).2.2.2.2.1
  · have h1 : fromE i = 10 := by
      unfold fromE at h0 ⊢
      split
      · next h => rw [if_pos h] at h0; exact absurd rfl h0
      · rfl
    have HF : Hid (∀ w, Calls Tryz.prog 66 #[.int .i64 i] w fun e w' => e = .returned (.tuple #[.float .f64 (fromB i), .int .i64 10]) ∧ w' = w) := fun w => by have := realFromInt_any i w; rw [h1] at this; exact this
    have HR2 : Hid (r = .error 10) := by show _ = _; rw [HR.out, if_neg h0]
    clear HR h0 h1
    go_enter Tryz.func46, Tryz.ntmps46
    go_wp2_with fail
    refine (HF.out _).mono ?_
    rintro e w1 ⟨rfl, hw1⟩
    rw [hw1]
    clear hw1 w1
    go_wp2
    refine bodyPost_ret (results_row2 rfl _ _ (w.heap.size + 1 + 1) _ _ _ _ rfl (al4 w _ _ _ _).2.2.1 Tryz.underlying35 rfl (by kernel_rfl)) rfl ?_
    rw [HR2.out]
    exact ⟨rfl, (al4 w _ _ _ _).2.2.2.2.1⟩

set_option maxRecDepth 100000 in
set_option maxHeartbeats 2000000 in
theorem plain_32 (i : Int) (b : Nat) (t : ByteArray) (p : Option Addr) (n c : Nat) (w : World) : Calls Tryz.prog 46 #[.agg #[.int .i64 3, .int .i64 2], .agg (cells5 3 i b t p n c)] w (ValR w (if toE b = 0 then .ok (.mk 2 (toN b) 0 ⟨#[]⟩ []) else .error 10)) := by
  unfold cells5
  obtain ⟨r, hr⟩ : ∃ r : Except Nat V, r = (if toE b = 0 then .ok (.mk 2 (toN b) 0 ⟨#[]⟩ []) else .error 10) := ⟨_, rfl⟩
  rw [← hr]
  have HR := Lib.hid hr
  clear hr
  by_cases h0 : toE b = 0
  · have HF : Hid (∀ w, Calls Tryz.prog 67 #[.float .f64 b] w fun e w' => e = .returned (.tuple #[.int .i64 (toN b), .int .i64 0]) ∧ w' = w) := fun w => by have := realToInt_any b w; rw [h0] at this; exact this
    have HR2 : Hid (r = .ok (.mk 2 (toN b) 0 ⟨#[]⟩ [])) := by show _ = _; rw [HR.out, if_pos h0]
    clear HR h0
    go_enter Tryz.func46, Tryz.ntmps46
    go_wp2_with fail
    refine (HF.out _).mono ?_
    rintro e w1 ⟨rfl, hw1⟩
    rw [hw1]
    clear hw1 w1
    go_wp2
    refine bodyPost_ret (results_row2 rfl _ _ (w.heap.size + 1 + 1) _ _ _ _ rfl (al4 w _ _ _ _).2.2.1 Tryz.underlying35 rfl (by kernel_rfl)) rfl ?_
    rw [HR2.out]
    exact leaf_told (al4 w _ _ _ _).2.2.2.2.1
  · have h1 : toE b = 10 := by
      unfold toE at h0 ⊢
      split
      · next h => rw [if_pos h] at h0; exact absurd rfl h0
      · rfl
    have HF : Hid (∀ w, Calls Tryz.prog 67 #[.float .f64 b] w fun e w' => e = .returned (.tuple #[.int .i64 (toN b), .int .i64 10]) ∧ w' = w) := fun w => by have := realToInt_any b w; rw [h1] at this; exact this
    have HR2 : Hid (r = .error 10) := by show _ = _; rw [HR.out, if_neg h0]
    clear HR h0 h1
    go_enter Tryz.func46, Tryz.ntmps46
    go_wp2_with fail
    refine (HF.out _).mono ?_
    rintro e w1 ⟨rfl, hw1⟩
    rw [hw1]
    clear hw1 w1
    go_wp2
    refine bodyPost_ret (results_row2 rfl _ _ (w.heap.size + 1 + 1) _ _ _ _ rfl (al4 w _ _ _ _).2.2.1 Tryz.underlying35 rfl (by kernel_rfl)) rfl ?_
    rw [HR2.out]
    exact ⟨rfl, (al4 w _ _ _ _).2.2.2.2.1⟩

set_option maxRecDepth 100000 in
set_option maxHeartbeats 2000000 in
theorem plain_54 (i : Int) (b : Nat) (t : ByteArray) (ht : t.size ≤ 281474976702464) (p : Option Addr) (n c : Nat) (w : World) : Calls Tryz.prog 46 #[.agg #[.int .i64 5, .int .i64 4], .agg (cells5 5 i b t p n c)] w (ValR w (if utfT t = false then .error 61 else .ok (.mk 4 0 0 t []))) := by
  unfold cells5
  obtain ⟨r, hr⟩ : ∃ r : Except Nat V, r = (if utfT t = false then .error 61 else .ok (.mk 4 0 0 t [])) := ⟨_, rfl⟩
  rw [← hr]
  have HR := Lib.hid hr
  clear hr
  obtain ⟨W0, hW0⟩ : ∃ W0, W0 = (((w.alloc (.cells #[.int .i64 5, .int .i64 4] 77)).alloc (.cells #[.int .i64 5, .int .i64 i, .float .f64 b, .string t, .slice p n c] 35)).alloc (.cells #[.int .i64 0, .int .i64 0, .float .f64 0, .string ⟨#[]⟩, .slice none 0 0] 35)).alloc (.cells #[.int .i64 4, .int .i64 0, .float .f64 0, .string ⟨#[]⟩, .slice none 0 0] 35) := ⟨_, rfl⟩
  obtain ⟨l0, l1, l2, l3, lb, ls⟩ := al4 w (.cells #[.int .i64 5, .int .i64 4] 77) (.cells #[.int .i64 5, .int .i64 i, .float .f64 b, .string t, .slice p n c] 35) (.cells #[.int .i64 0, .int .i64 0, .float .f64 0, .string ⟨#[]⟩, .slice none 0 0] 35) (.cells #[.int .i64 4, .int .i64 0, .float .f64 0, .string ⟨#[]⟩, .slice none 0 0] 35)
  rw [← hW0] at l0 l1 l2 l3 lb ls
  have HW0 := Lib.hid hW0
  have HB0 := Lib.hid lb
  have HL := Lib.hid (And.intro l2 l3)
  have HA := Lib.hid (asTextK t ht W0)
  clear hW0 l0 l1 l2 l3 lb ht
  cases hu : utfT t with
  | true =>
    have HR2 : Hid (r = .ok (.mk 4 0 0 t [])) := by show _ = _; rw [HR.out, hu]; rfl
    rw [hu] at HA
    clear HR hu
    go_enter Tryz.func46, Tryz.ntmps46
    go_wp2_with fail
    rw [← HW0.out]
    clear HW0
    refine HA.out.mono ?_
    rintro e w1 ⟨rfl, hb1⟩
    have d2 := (hb1.block _ (blk_lt HL.out.1)).trans HL.out.1
    have d3 := (hb1.block _ (blk_lt HL.out.2)).trans HL.out.2
    have e0 : w1.cell? ⟨w.heap.size + 1 + 1, 0, none⟩ = some (.int .i64 0) := blk_cell d2 0
    have e1 : w1.cell? ⟨w.heap.size + 1 + 1, 1, none⟩ = some (.int .i64 0) := blk_cell d2 1
    have e2 : w1.cell? ⟨w.heap.size + 1 + 1, 2, none⟩ = some (.float .f64 0) := blk_cell d2 2
    have e3 : w1.cell? ⟨w.heap.size + 1 + 1, 3, none⟩ = some (.string ⟨#[]⟩) := blk_cell d2 3
    have e4 : w1.cell? ⟨w.heap.size + 1 + 1, 4, none⟩ = some (.slice none 0 0) := blk_cell d2 4
    have f0 : w1.cell? ⟨w.heap.size + 1 + 1 + 1, 0, none⟩ = some (.int .i64 4) := blk_cell d3 0
    have f1 : w1.cell? ⟨w.heap.size + 1 + 1 + 1, 1, none⟩ = some (.int .i64 0) := blk_cell d3 1
    have f2 : w1.cell? ⟨w.heap.size + 1 + 1 + 1, 2, none⟩ = some (.float .f64 0) := blk_cell d3 2
    have f3 : w1.cell? ⟨w.heap.size + 1 + 1 + 1, 3, none⟩ = some (.string ⟨#[]⟩) := blk_cell d3 3
    have f4 : w1.cell? ⟨w.heap.size + 1 + 1 + 1, 4, none⟩ = some (.slice none 0 0) := blk_cell d3 4
    have g0 := blk_free d2 0
    have g1 := blk_free d2 1
    have g2 := blk_free d2 2
    have g3 := blk_free d2 3
    have g4 := blk_free d2 4
    have k3 := blk_free d3 3
    have hne : ¬ w.heap.size + 1 + 1 = w.heap.size + 1 + 1 + 1 := by omega
    have HD := Lib.hid (blk_set_far d2 ⟨w.heap.size + 1 + 1 + 1, 3, none⟩ (.string t) (by show ¬ w.heap.size + 1 + 1 = w.heap.size + 1 + 1 + 1; omega))
    have HB1 : Hid (Below w.heap.size w (w1.setCell ⟨w.heap.size + 1 + 1 + 1, 3, none⟩ (.string t))) := (HB0.out.trans (hb1.mono HB0.out.size)).setCell (p := ⟨w.heap.size + 1 + 1 + 1, 3, none⟩) (by show w.heap.size ≤ w.heap.size + 1 + 1 + 1; omega) _
    clear hb1 HA HL d2 d3
    go_wp2
    refine end5 rfl rfl rfl rfl (put5_block HD.out) rfl ?_
    rw [HR2.out]
    exact leaf_told (put5_below HB1.out (by omega))
  | false =>
    have HR2 : Hid (r = .error 61) := by show _ = _; rw [HR.out, hu]; rfl
    rw [hu] at HA
    clear HR hu
    go_enter Tryz.func46, Tryz.ntmps46
    go_wp2_with fail
    rw [← HW0.out]
    clear HW0
    refine HA.out.mono ?_
    rintro e w1 ⟨rfl, hb1⟩
    have d2 := (hb1.block _ (blk_lt HL.out.1)).trans HL.out.1
    have d3 := (hb1.block _ (blk_lt HL.out.2)).trans HL.out.2
    have e0 : w1.cell? ⟨w.heap.size + 1 + 1, 0, none⟩ = some (.int .i64 0) := blk_cell d2 0
    have e1 : w1.cell? ⟨w.heap.size + 1 + 1, 1, none⟩ = some (.int .i64 0) := blk_cell d2 1
    have e2 : w1.cell? ⟨w.heap.size + 1 + 1, 2, none⟩ = some (.float .f64 0) := blk_cell d2 2
    have e3 : w1.cell? ⟨w.heap.size + 1 + 1, 3, none⟩ = some (.string ⟨#[]⟩) := blk_cell d2 3
    have e4 : w1.cell? ⟨w.heap.size + 1 + 1, 4, none⟩ = some (.slice none 0 0) := blk_cell d2 4
    have f3 : w1.cell? ⟨w.heap.size + 1 + 1 + 1, 3, none⟩ = some (.string ⟨#[]⟩) := blk_cell d3 3
    have g0 := blk_free d2 0
    have g1 := blk_free d2 1
    have g2 := blk_free d2 2
    have g3 := blk_free d2 3
    have g4 := blk_free d2 4
    have k3 := blk_free d3 3
    have hne : ¬ w.heap.size + 1 + 1 = w.heap.size + 1 + 1 + 1 := by omega
    have HD := Lib.hid (blk_set_far d2 ⟨w.heap.size + 1 + 1 + 1, 3, none⟩ (.string ⟨#[]⟩) (by show ¬ w.heap.size + 1 + 1 = w.heap.size + 1 + 1 + 1; omega))
    have HB1 : Hid (Below w.heap.size w (w1.setCell ⟨w.heap.size + 1 + 1 + 1, 3, none⟩ (.string ⟨#[]⟩))) := (HB0.out.trans (hb1.mono HB0.out.size)).setCell (p := ⟨w.heap.size + 1 + 1 + 1, 3, none⟩) (by show w.heap.size ≤ w.heap.size + 1 + 1 + 1; omega) _
    clear hb1 HA HL d2 d3
    go_wp2
    refine end5 rfl rfl rfl rfl (put5_block HD.out) rfl ?_
    rw [HR2.out]
    exact valR_err HB1.out (by omega)

set_option maxRecDepth 100000 in
set_option maxHeartbeats 2000000 in
theorem plain_else (j k i : Int) (b : Nat) (t : ByteArray) (p : Option Addr) (n c : Nat) (w : World) (h1 : ¬ (j = 2 ∧ k = 3)) (h2 : ¬ (j = 3 ∧ k = 2)) (h3 : ¬ (j = 5 ∧ k = 4)) : Calls Tryz.prog 46 #[.agg #[.int .i64 j, .int .i64 k], .agg (cells5 j i b t p n c)] w (ValR w (.ok (.mk k i (fixB b) t []))) := by
  unfold cells5
  have g1 : (j == 2 && k == 3) = false := by rw [Bool.and_eq_false_iff, beq_eq_false_iff_ne, beq_eq_false_iff_ne]; omega
  have g2 : (j == 3 && k == 2) = false := by rw [Bool.and_eq_false_iff, beq_eq_false_iff_ne, beq_eq_false_iff_ne]; omega
  have g3 : (j == 5 && k == 4) = false := by rw [Bool.and_eq_false_iff, beq_eq_false_iff_ne, beq_eq_false_iff_ne]; omega
  have HF := Lib.hid (fun w => realFix_any b w)
  clear h1 h2 h3
  go_enter Tryz.func46, Tryz.ntmps46
  go_wp2_with fail
  go_region_law (first
    | (refine step_call1 (.tmp 15) 33 (by rfl) (by rfl) (by rfl) Tryz.func43 (by kernel_rfl) (by rfl) (HF.out _) ?_
       rintro e w2 ⟨rfl, hw2⟩
       refine ⟨_, rfl, ?_⟩
       rw [hw2]
       clear hw2 w2)
    | fail)
  all_goals
    go_wp2
    refine bodyPost_ret (results_row2 rfl _ _ (w.heap.size + 1 + 1) _ _ _ _ rfl (al4 w _ _ _ _).2.2.1 Tryz.underlying35 rfl (by kernel_rfl)) rfl ?_
    exact leaf_told (al4 w _ _ _ _).2.2.2.2.1.drew
end Go.Proofs.YtdahackmmhcjoaaGreat

/- Calls at a step of a region that draws, which return or panic. -/
namespace Go.Proofs.YtdahackmmhcjoaaGreat
open Go.RowKit

theorem step_call1b {w : World} {ops : Array Oper} {o : Oper} {a : Act} {K : Act → World → Prop} {Q : Exit → Act → World → Prop} {E : Prop} {f : FuncId} {fn : Func} {code : Code} {u0 : Value} {R : Ending → World → Prop} (x : Operand) (t0 : TypeId)
    (hg : o.guard = none) (hop : o.op = Op.call { callee := .value (.func f), args := #[x], argTypes := #[t0] }) (hx : a.eval x = u0)
    (hf : Tryz.prog.funcs[f]? = some fn) (hname : (fn.name == "runtime.NumGoroutine") = false) (hb : fn.body = some code)
    (hc : Calls Tryz.prog f #[u0] w R) (hR : ∀ e w', R e w' → ∃ ch, e = .panicked ch ∧ Q (.panic ch) a w') (v' : Value) (_ : Hid False → K (a.put o.dst v') w) :
    if Region.wanted o (yielded ops a.tmps) = true then Oper.wp Tryz.prog o a w K Q else E := by
  have hw : Region.wanted o (yielded ops a.tmps) = true := by simp [Region.wanted, hg]
  rw [if_pos hw]
  have h1 : fn.name ≠ "runtime.NumGoroutine" := by simpa using hname
  unfold Oper.wp
  have he : (execOp a.eval o).run Tryz.prog w = .ok (.enter f #[u0]) w := by
    have hev : a.eval (.func f) = .func (.func f) #[] #[] := rfl
    simp [execOp, hop, resolve, invoke, hx, hev, Deferred.ofValue, callFunc, hf, h1, hb]
  rw [he, Oper.upon_enter]
  refine hc.mono ?_
  intro e w' hr
  obtain ⟨z, rfl, hk⟩ := hR e w' hr
  exact hk
theorem step_call1g {w : World} {ops : Array Oper} {o : Oper} {a : Act} {K : Act → World → Prop} {Q : Exit → Act → World → Prop} {E : Prop} {f : FuncId} {fn : Func} {code : Code} {u0 : Value} {R : Ending → World → Prop} (x : Operand) (t0 : TypeId)
    (hg : o.guard = none) (hop : o.op = Op.call { callee := .value (.func f), args := #[x], argTypes := #[t0] }) (hx : a.eval x = u0)
    (hf : Tryz.prog.funcs[f]? = some fn) (hname : (fn.name == "runtime.NumGoroutine") = false) (hb : fn.body = some code)
    (hc : Calls Tryz.prog f #[u0] w R) (hR : ∀ e w', R e w' → ∃ z, e = .returned z ∧ K (a.put o.dst z) w') :
    if Region.wanted o (yielded ops a.tmps) = true then Oper.wp Tryz.prog o a w K Q else E := by
  have hw : Region.wanted o (yielded ops a.tmps) = true := by simp [Region.wanted, hg]
  rw [if_pos hw]
  have h1 : fn.name ≠ "runtime.NumGoroutine" := by simpa using hname
  unfold Oper.wp
  have he : (execOp a.eval o).run Tryz.prog w = .ok (.enter f #[u0]) w := by
    have hev : a.eval (.func f) = .func (.func f) #[] #[] := rfl
    simp [execOp, hop, resolve, invoke, hx, hev, Deferred.ofValue, callFunc, hf, h1, hb]
  rw [he, Oper.upon_enter]
  refine hc.mono ?_
  intro e w' hr
  obtain ⟨z, rfl, hk⟩ := hR e w' hr
  exact hk
theorem step_call3b {w : World} {ops : Array Oper} {o : Oper} {a : Act} {K : Act → World → Prop} {Q : Exit → Act → World → Prop} {E : Prop} {f : FuncId} {fn : Func} {code : Code} {u0 u1 u2 : Value} {R : Ending → World → Prop} (x y z : Operand) (t0 t1 t2 : TypeId)
    (hg : o.guard = none) (hop : o.op = Op.call { callee := .value (.func f), args := #[x, y, z], argTypes := #[t0, t1, t2] }) (hx : a.eval x = u0) (hy : a.eval y = u1) (hz : a.eval z = u2)
    (hf : Tryz.prog.funcs[f]? = some fn) (hname : (fn.name == "runtime.NumGoroutine") = false) (hb : fn.body = some code)
    (hc : Calls Tryz.prog f #[u0, u1, u2] w R) (hR : ∀ e w', R e w' → ∃ ch, e = .panicked ch ∧ Q (.panic ch) a w') (v' : Value) (_ : Hid False → K (a.put o.dst v') w) :
    if Region.wanted o (yielded ops a.tmps) = true then Oper.wp Tryz.prog o a w K Q else E := by
  have hw : Region.wanted o (yielded ops a.tmps) = true := by simp [Region.wanted, hg]
  rw [if_pos hw]
  have h1 : fn.name ≠ "runtime.NumGoroutine" := by simpa using hname
  unfold Oper.wp
  have he : (execOp a.eval o).run Tryz.prog w = .ok (.enter f #[u0, u1, u2]) w := by
    have hev : a.eval (.func f) = .func (.func f) #[] #[] := rfl
    simp [execOp, hop, resolve, invoke, hx, hy, hz, hev, Deferred.ofValue, callFunc, hf, h1, hb]
  rw [he, Oper.upon_enter]
  refine hc.mono ?_
  intro e w' hr
  obtain ⟨z, rfl, hk⟩ := hR e w' hr
  exact hk
theorem step_call3g {w : World} {ops : Array Oper} {o : Oper} {a : Act} {K : Act → World → Prop} {Q : Exit → Act → World → Prop} {E : Prop} {f : FuncId} {fn : Func} {code : Code} {u0 u1 u2 : Value} {R : Ending → World → Prop} (x y z : Operand) (t0 t1 t2 : TypeId)
    (hg : o.guard = none) (hop : o.op = Op.call { callee := .value (.func f), args := #[x, y, z], argTypes := #[t0, t1, t2] }) (hx : a.eval x = u0) (hy : a.eval y = u1) (hz : a.eval z = u2)
    (hf : Tryz.prog.funcs[f]? = some fn) (hname : (fn.name == "runtime.NumGoroutine") = false) (hb : fn.body = some code)
    (hc : Calls Tryz.prog f #[u0, u1, u2] w R) (hR : ∀ e w', R e w' → ∃ z, e = .returned z ∧ K (a.put o.dst z) w') :
    if Region.wanted o (yielded ops a.tmps) = true then Oper.wp Tryz.prog o a w K Q else E := by
  have hw : Region.wanted o (yielded ops a.tmps) = true := by simp [Region.wanted, hg]
  rw [if_pos hw]
  have h1 : fn.name ≠ "runtime.NumGoroutine" := by simpa using hname
  unfold Oper.wp
  have he : (execOp a.eval o).run Tryz.prog w = .ok (.enter f #[u0, u1, u2]) w := by
    have hev : a.eval (.func f) = .func (.func f) #[] #[] := rfl
    simp [execOp, hop, resolve, invoke, hx, hy, hz, hev, Deferred.ofValue, callFunc, hf, h1, hb]
  rw [he, Oper.upon_enter]
  refine hc.mono ?_
  intro e w' hr
  obtain ⟨z, rfl, hk⟩ := hR e w' hr
  exact hk

theorem step_call2b {w : World} {ops : Array Oper} {o : Oper} {a : Act} {K : Act → World → Prop} {Q : Exit → Act → World → Prop} {E : Prop} {f : FuncId} {fn : Func} {code : Code} {u v : Value} {R : Ending → World → Prop} (x y : Operand) (t t' : TypeId)
    (hg : o.guard = none) (hop : o.op = Op.call { callee := .value (.func f), args := #[x, y], argTypes := #[t, t'] }) (hx : a.eval x = u) (hy : a.eval y = v)
    (hf : Tryz.prog.funcs[f]? = some fn) (hname : (fn.name == "runtime.NumGoroutine") = false) (hb : fn.body = some code)
    (hc : Calls Tryz.prog f #[u, v] w R) (hR : ∀ e w', R e w' → ∃ ch, e = .panicked ch ∧ Q (.panic ch) a w') (v' : Value) (_ : Hid False → K (a.put o.dst v') w) :
    if Region.wanted o (yielded ops a.tmps) = true then Oper.wp Tryz.prog o a w K Q else E := by
  have hw : Region.wanted o (yielded ops a.tmps) = true := by simp [Region.wanted, hg]
  rw [if_pos hw]
  have h1 : fn.name ≠ "runtime.NumGoroutine" := by simpa using hname
  unfold Oper.wp
  have he : (execOp a.eval o).run Tryz.prog w = .ok (.enter f #[u, v]) w := by
    have hev : a.eval (.func f) = .func (.func f) #[] #[] := rfl
    simp [execOp, hop, resolve, invoke, hx, hy, hev, Deferred.ofValue, callFunc, hf, h1, hb]
  rw [he, Oper.upon_enter]
  refine hc.mono ?_
  intro e w' hr
  obtain ⟨z, rfl, hk⟩ := hR e w' hr
  exact hk
theorem step_never {w : World} {ops : Array Oper} {o : Oper} {a : Act} {K : Act → World → Prop} {Q : Exit → Act → World → Prop} {E : Prop} (h : Hid False) (v' : Value) (_ : K (a.put o.dst v') w) :
    if Region.wanted o (yielded ops a.tmps) = true then Oper.wp Tryz.prog o a w K Q else E := h.out.elim
theorem step_call2g {w : World} {ops : Array Oper} {o : Oper} {a : Act} {K : Act → World → Prop} {Q : Exit → Act → World → Prop} {E : Prop} {f : FuncId} {fn : Func} {code : Code} {u v : Value} {R : Ending → World → Prop} (x y : Operand) (t t' : TypeId)
    (hg : o.guard = none) (hop : o.op = Op.call { callee := .value (.func f), args := #[x, y], argTypes := #[t, t'] }) (hx : a.eval x = u) (hy : a.eval y = v)
    (hf : Tryz.prog.funcs[f]? = some fn) (hname : (fn.name == "runtime.NumGoroutine") = false) (hb : fn.body = some code)
    (hc : Calls Tryz.prog f #[u, v] w R) (hR : ∀ e w', R e w' → ∃ z, e = .returned z ∧ K (a.put o.dst z) w') :
    if Region.wanted o (yielded ops a.tmps) = true then Oper.wp Tryz.prog o a w K Q else E := by
  have hw : Region.wanted o (yielded ops a.tmps) = true := by simp [Region.wanted, hg]
  rw [if_pos hw]
  have h1 : fn.name ≠ "runtime.NumGoroutine" := by simpa using hname
  unfold Oper.wp
  have he : (execOp a.eval o).run Tryz.prog w = .ok (.enter f #[u, v]) w := by
    have hev : a.eval (.func f) = .func (.func f) #[] #[] := rfl
    simp [execOp, hop, resolve, invoke, hx, hy, hev, Deferred.ofValue, callFunc, hf, h1, hb]
  rw [he, Oper.upon_enter]
  refine hc.mono ?_
  intro e w' hr
  obtain ⟨z, rfl, hk⟩ := hR e w' hr
  exact hk

end Go.Proofs.YtdahackmmhcjoaaGreat

/- The landed resolve: readItems. -/
namespace Go.Proofs.YtdahackmmhcjoaaGreat
open Go.RowKit

attribute [local go_sem] run_store_float

/-- values grow in a row of one's own, behind all that was there in w0 -/
structure Grow (w0 : World) (v : Value) (zs : List V) (wr : World) : Prop where
  built : ∃ us Fs, Built wr w0.heap.size v zs.length us Fs zs
  keep : Below w0.heap.size w0 wr
theorem grow_nil (w0 : World) : Grow w0 (.slice none 0 0) [] w0 := ⟨⟨_, _, built_nil _ _⟩, Below.refl _ _⟩
theorem Grow.next {w0 wr w2 w3 w4 : World} {v : Value} {zs : List V} {x : V} {u : Array Value} {F : Nat → Prop} {g cap : Nat} {us : Nat → Array Value} {Fs : Nat → Nat → Prop} (h : Grow w0 v zs wr) (hbt : Built wr w0.heap.size v zs.length us Fs zs) (hb : Below wr.heap.size wr w2) (hx : VOwn w2 F u x)
    (hF : ∀ k, F k → wr.heap.size ≤ k ∧ k < w2.heap.size) (hb3 : Below w2.heap.size w2 w3)
    (hr : w4.ownsRow w0.heap.size 35 5 (.slice (some ⟨g, 0, none⟩) (zs.length + 1) cap) (zs.length + 1) (flat us zs.length ++ u.toList)) (hg : w3.grownBy w4 v.ownBlock) (hn : v.ownBlock = some g ∨ g = w3.heap.size) :
    Grow w0 (.slice (some ⟨g, 0, none⟩) (zs.length + 1) cap) (zs ++ [x]) w4 := by
  have hs := h.keep.size
  have hs2 := hb.size
  have hs3 := hb3.size
  have hst := hbt.step hb hx hF hb3 hs hr hg hn
  refine ⟨⟨_, _, by rw [List.length_append]; exact hst⟩, ((h.keep.trans (hb.mono hs)).trans (hb3.mono (by omega))).grown hg (by omega) (fun k hk => (hbt.lt k hk).1)⟩
theorem Grow.done {w0 wr : World} {p : Option Addr} {c : Nat} {zs : List V} (h : Grow w0 (.slice p zs.length c) zs wr) (hl : zs.length * 64 ≤ 140737488351232) (k i : Int) (b : Nat) (t : ByteArray) : VOwn wr (fun j => w0.heap.size ≤ j ∧ j < wr.heap.size) (cells5 k i b t p zs.length c) (.mk k i b t zs) := by
  obtain ⟨us, Fs, hb⟩ := h.built
  obtain ⟨p', c', he, hv⟩ := hb.done hl k i b t
  injection he with h1 _ h2
  subst h1 h2
  exact hv

/-- an error, or the value that lies in blocks from B on -/
def AnsR (B : Nat) (W : World) (u : Array Value) (er : Int) (r : Except Nat V) : Prop := match r with
  | .error er' => er = (er' : Nat)
  | .ok y => er = 0 ∧ VOwn W (fun j => B ≤ j ∧ j < W.heap.size) u y
/-- a value and an error, whichever -/
theorem ValR.any {w w' : World} {r : Except Nat V} {e : Ending} (h : ValR w r e w') : ∃ k i b t p n c, ∃ er : Int, e = .returned (.tuple #[.agg (cells5 k i b t p n c), .int .i64 er]) ∧ Below w.heap.size w w' ∧ AnsR w.heap.size w' (cells5 k i b t p n c) er r := by
  cases r with
  | error er => exact ⟨_, _, _, _, _, _, _, _, h.1, h.2, rfl⟩
  | ok y =>
    obtain ⟨u, he, hv, hb⟩ := h
    obtain ⟨k, i, b, t, p, n, c, rfl⟩ := hv.shape
    exact ⟨_, _, _, _, _, _, _, 0, he, hb, rfl, hv⟩
/-- a call's answer lies in a place gb, made since wr -/
structure Told5 (wr W : World) (gb : Nat) (er : Int) (r : Except Nat V) : Prop where
  below : Below wr.heap.size wr W
  told : match r with
    | .error er' => er = (er' : Nat)
    | .ok y => er = 0 ∧ ∃ k i b t p n c, W.heap[gb]? = some (.cells #[.int .i64 k, .int .i64 i, .float .f64 b, .string t, .slice p n c] 35 (0, 0)) ∧ VOwn W (fun j => wr.heap.size ≤ j ∧ j < W.heap.size) (cells5 k i b t p n c) y
theorem told5_new {wr wr1 w2 : World} {k i : Int} {b : Nat} {t : ByteArray} {p : Option Addr} {n c : Nat} {er : Int} {r : Except Nat V} (hB : Below wr.heap.size wr wr1) (hb2 : Below wr1.drew.heap.size wr1.drew w2) (hv : AnsR wr1.drew.heap.size w2 (cells5 k i b t p n c) er r) : Told5 wr (w2.alloc (.cells #[.int .i64 k, .int .i64 i, .float .f64 b, .string t, .slice p n c] 35)) w2.heap.size er r := by
  have h2 : Below wr.heap.size wr w2 := hB.drew.trans (hb2.mono hB.size)
  refine ⟨h2.alloc h2.size _, ?_⟩
  cases r with
  | error er' => exact hv
  | ok y =>
    refine ⟨hv.1, _, _, _, _, _, _, _, blk_new w2 _, ?_⟩
    have h1 : Below w2.heap.size w2 (w2.alloc (.cells #[.int .i64 k, .int .i64 i, .float .f64 b, .string t, .slice p n c] 35)) := (Below.refl _ _).alloc (Nat.le_refl _) _
    exact (hv.2.under h1 (fun j hj => hj.2)).mono fun j hj => ⟨Nat.le_trans hB.size hj.1, Nat.lt_of_lt_of_le hj.2 h1.size⟩
theorem told5_old {wr wr1 wx w2 : World} {k i : Int} {b : Nat} {t : ByteArray} {p : Option Addr} {n c : Nat} {er : Int} {r : Except Nat V} {a0 a1 a2 a3 a4 : Value} (hB : Below wr.heap.size wr wr1) (hbk : w2.heap[wr1.heap.size]? = some (.cells #[a0, a1, a2, a3, a4] 35 (0, 0))) (hb2 : Below wx.heap.size wx w2) (hv : AnsR wx.heap.size w2 (cells5 k i b t p n c) er r) (hx : wx.heap = (wr1.alloc (.cells #[a0, a1, a2, a3, a4] 35)).heap := by rfl) (ho : wx.os = wr1.os := by rfl) (ht : wx.tape = wr1.tape := by rfl) (hu : wx.output = wr1.output := by rfl) : Told5 wr (put5 w2 wr1.heap.size k i b t (.slice p n c)) wr1.heap.size er r := by
  have hs : wx.heap.size = wr1.heap.size + 1 := by rw [hx]; simp
  have h1 : Below wr1.heap.size wr1 wx := ⟨ho, ht, hu, by omega, fun j hj => by rw [hx]; exact blk_old wr1 _ hj⟩
  have h2 : Below wr.heap.size wr w2 := (hB.trans (h1.mono hB.size)).trans (hb2.mono (by have := hB.size; omega))
  refine ⟨put5_below h2 hB.size, ?_⟩
  cases r with
  | error er' => exact hv
  | ok y =>
    refine ⟨hv.1, _, _, _, _, _, _, _, put5_block hbk, ?_⟩
    rw [put5_size]
    exact (hv.2.aside (put5_aside _) (fun j hj hc => by omega)).mono fun j hj => ⟨by have := hB.size; omega, hj.2⟩

set_option maxRecDepth 100000 in
set_option maxHeartbeats 4000000 in
theorem itemsK (xs : List V) (kb ka : Int) (f : V → Except Nat V) (pa : Option Addr) (na ca : Nat) (p : Option Addr) (c : Nat) (q : Option Addr) (cb : Nat) (uy : Array Value) (w : World)
    (hne : ∀ x ∈ xs, ∀ e, f x = .error e → e ≠ 0)
    (hC : ∀ x ∈ xs, ∀ w' u, Below w.heap.size w w' → VLies w' u x → Calls Tryz.prog 27 #[.agg (cells2 ka pa na ca), .agg uy, .agg u] w' (ValR w' (f x)))
    (hy : ItemT w q 0 uy) (hx : Items w p xs) (hl : xs.length * 64 ≤ 140737488351232) :
    Calls Tryz.prog 45 #[.agg (cells2 ka pa na ca), .agg (cells2 kb q 1 cb), .slice p xs.length c] w (ValR w (match Rz.allR f xs with
      | .error e => .error e
      | .ok l => .ok (.mk kb 0 0 ⟨#[]⟩ l))) := by
  obtain ⟨r, hr⟩ : ∃ r : Except Nat V, r = (match Rz.allR f xs with
      | .error e => .error e
      | .ok l => .ok (.mk kb 0 0 ⟨#[]⟩ l)) := ⟨_, rfl⟩
  rw [← hr]
  have HR := Lib.hid hr
  obtain ⟨W0, hW0⟩ : ∃ W0, W0 = ((w.alloc (.cells #[.int .i64 ka, .slice pa na ca] 42)).alloc (.cells #[.int .i64 kb, .slice q 1 cb] 42)).alloc (.cells #[.int .i64 0, .int .i64 0, .float .f64 0, .string ⟨#[]⟩, .slice none 0 0] 35) := ⟨_, rfl⟩
  obtain ⟨l0, l1, l2, lb, ls⟩ := al3 w (.cells #[.int .i64 ka, .slice pa na ca] 42) (.cells #[.int .i64 kb, .slice q 1 cb] 42) (.cells #[.int .i64 0, .int .i64 0, .float .f64 0, .string ⟨#[]⟩, .slice none 0 0] 35)
  rw [← hW0] at l0 l1 l2 lb ls
  have HW0 := Lib.hid hW0
  have HB0 := Lib.hid lb
  have HS0 := Lib.hid ls
  have HL := Lib.hid (And.intro l0 (And.intro l1 l2))
  have HNe := Lib.hid hne
  have HC := Lib.hid hC
  have HY := Lib.hid hy
  have HX := Lib.hid hx
  unfold cells2 at HC ⊢
  clear hr hW0 l0 l1 l2 lb ls hne hC hy hx
  go_enter Tryz.func45, Tryz.ntmps45
  go_wp2_with fail
  rw [← HW0.out]
  clear HW0
  go_loopw [8, 15] (fun v8 v15 wr => ∃ (zs : List V) (j : Nat) (q9 : Option Addr) (d9 : Nat), j ≤ xs.length ∧ v15 = .int .i64 j ∧ v8 = .slice q9 j d9 ∧ Hid (zs.length = j ∧ Grow W0 (.slice q9 j d9) zs wr ∧ Rz.allR f (xs.take j) = .ok zs)) (fun _ v15 _ => xs.length - (intOf v15).toNat)
  case atStart => exact ⟨[], 0, none, 0, by omega, rfl, rfl, rfl, grow_nil W0, rfl⟩
  case round =>
    obtain ⟨zs, j, q9, d9, hj, rfl, rfl, HG⟩ := hrel
    have HK : Hid (Below W0.heap.size W0 wr) := HG.out.2.1.keep
    have HBw : Hid (Below w.heap.size w wr) := HB0.out.trans (HK.out.mono (by have := HS0.out; omega))
    by_cases hlt : j < xs.length
    · obtain ⟨ux, hvx, hix⟩ := HX.out j hlt
      obtain ⟨bx, ox, kx, ix, fx, tx, qx, nx, cx, rfl, _, rfl, a0, a1, a2, a3, a4⟩ := (hix.on HBw.out).lies
      obtain ⟨by', oy, ky, qy, ny, cy, hqe, _, rfl, y0, y1⟩ := (HY.out.on HBw.out).lies
      subst hqe
      rw [Nat.zero_mul, Nat.add_zero] at y0 y1
      have hj1 : (j : Int) < (xs.length : Int) := by omega
      obtain ⟨wr1, hwr1⟩ : ∃ W, W = wr.alloc (.cells #[.int .i64 kx, .int .i64 ix, .float .f64 fx, .string tx, .slice qx nx cx] 35) := ⟨_, rfl⟩
      have HBa : Hid (Below wr.heap.size wr wr1) := by rw [hwr1]; exact (Below.refl _ _).alloc (Nat.le_refl _) _
      have hblk : wr1.heap[wr.heap.size]? = some (.cells #[.int .i64 kx, .int .i64 ix, .float .f64 fx, .string tx, .slice qx nx cx] 35 (0, 0)) := by rw [hwr1]; exact blk_new wr _
      have HWr := Lib.hid hwr1
      have HKa : Hid (Below W0.heap.size W0 wr1) := HK.out.trans (HBa.out.mono HK.out.size)
      obtain ⟨rx, hrx⟩ : ∃ rx, rx = f xs[j] := ⟨_, rfl⟩
      have HRx := Lib.hid hrx
      have HCx : Hid (∀ W', Below wr.heap.size wr W' → Calls Tryz.prog 27 #[.agg #[.int .i64 ka, .slice pa na ca], .agg #[.int .i64 ky, .slice qy ny cy], .agg #[.int .i64 kx, .int .i64 ix, .float .f64 fx, .string tx, .slice qx nx cx]] W' (ValR W' rx)) := fun W' hb => by
        rw [hrx]
        exact HC.out _ (List.getElem_mem hlt) W' _ (HBw.out.trans (hb.mono HBw.out.size)) ((hvx.on HBw.out).on hb)
      -- what is read in the region, in wr1 and with one block more
      have HRd : Hid (∀ W', Below wr1.heap.size wr1 W' → (W'.cell? ⟨w.heap.size, 0, none⟩ = some (.int .i64 ka) ∧ W'.cell? ⟨w.heap.size, 1, none⟩ = some (.slice pa na ca) ∧ W'.cell? ⟨w.heap.size + 1, 1, none⟩ = some (.slice (some ⟨by', oy, none⟩) 1 cb)) ∧ (W'.cell? ⟨by', oy, none⟩ = some (.int .i64 ky) ∧ W'.cell? ⟨by', oy + 1, none⟩ = some (.slice qy ny cy)) ∧ (W'.cell? ⟨wr.heap.size, 0, none⟩ = some (.int .i64 kx) ∧ W'.cell? ⟨wr.heap.size, 1, none⟩ = some (.int .i64 ix) ∧ W'.cell? ⟨wr.heap.size, 2, none⟩ = some (.float .f64 fx) ∧ W'.cell? ⟨wr.heap.size, 3, none⟩ = some (.string tx) ∧ W'.cell? ⟨wr.heap.size, 4, none⟩ = some (.slice qx nx cx))) := fun W' hb => by
        have hk := HKa.out.trans (hb.mono HKa.out.size)
        have hy' := HBa.out.trans (hb.mono HBa.out.size)
        exact ⟨⟨blk_at HL.out.1 hk 0, blk_at HL.out.1 hk 1, blk_at HL.out.2.1 hk 1⟩, ⟨cell_on hy' y0, cell_on hy' y1⟩, ⟨blk_at hblk hb 0, blk_at hblk hb 1, blk_at hblk hb 2, blk_at hblk hb 3, blk_at hblk hb 4⟩⟩
      obtain ⟨⟨m0, m1, m2⟩, ⟨n0, n1⟩, ⟨o0, o1, o2, o3, o4⟩⟩ := HRd.out wr1 (Below.refl _ _)
      have HRa := fun o => HRd.out (wr1.alloc o) ((Below.refl _ _).alloc (Nat.le_refl _) o)
      have m0a := fun o => (HRa o).1.1
      have m1a := fun o => (HRa o).1.2.1
      have m2a := fun o => (HRa o).1.2.2
      have n0a := fun o => (HRa o).2.1.1
      have n1a := fun o => (HRa o).2.1.2
      have o0a := fun o => (HRa o).2.2.1
      have o1a := fun o => (HRa o).2.2.2.1
      have o2a := fun o => (HRa o).2.2.2.2.1
      have o3a := fun o => (HRa o).2.2.2.2.2.1
      have o4a := fun o => (HRa o).2.2.2.2.2.2
      -- behind the call: the answer's place
      have HT6 : Hid (∀ W', Below wr.heap.size wr W' → W'.heap[w.heap.size + 1 + 1]? = some (.cells #[.int .i64 0, .int .i64 0, .float .f64 0, .string ⟨#[]⟩, .slice none 0 0] 35 (0, 0))) := fun W' hb => by
        have hk := HK.out.trans (hb.mono HK.out.size)
        exact (hk.block _ (blk_lt HL.out.2.2)).trans HL.out.2.2
      have HSz : Hid (w.heap.size + 3 ≤ wr.heap.size ∧ wr1.heap.size = wr.heap.size + 1) := ⟨by have := HK.out.size; have := HS0.out; omega, by rw [hwr1]; simp⟩
      clear hrx hvx hix hwr1 y0 y1 HRa HRd hblk
      go_wp2_with fail
      rw [← HWr.out]
      clear HWr a0 a1 a2 a3 a4
      go_cut [11, 12, 15] from 15 to 37 (fun v11 v12 v15 wx => ∃ (gb : Nat) (er : Int), v11 = .pointer (some ⟨gb, 0, none⟩) ∧ v12 = .int .i64 er ∧ v15 = .int .i64 j ∧ Hid (Told5 wr wx gb er rx))
      case first =>
        go_region_law (first
          | (refine step_call3g (.tmp 20) (.tmp 24) (.tmp 25) 42 42 35 (by rfl) (by rfl) (by rfl) (by rfl) (by rfl) Tryz.func27 (by kernel_rfl) (by rfl) (HCx.out _ HBa.out.drew) ?_
             intro e w2 hh
             obtain ⟨k5, i5, b5, t5, p5, n5, c5, er, he, hb2, hv2⟩ := hh.any
             unfold cells5 at he
             refine ⟨_, he, ?_⟩
             have HTd : Hid (Told5 wr (w2.alloc (.cells #[.int .i64 k5, .int .i64 i5, .float .f64 b5, .string t5, .slice p5 n5 c5] 35)) w2.heap.size er rx) := told5_new HBa.out hb2 hv2
             clear he hh hb2 hv2)
          | (refine step_call3g (.tmp 20) (.tmp 24) (.tmp 25) 42 42 35 (by rfl) (by rfl) (by rfl) (by rfl) (by rfl) Tryz.func27 (by kernel_rfl) (by rfl) (HCx.out _ (by first | exact (HBa.out.alloc HBa.out.size _).drew | exact HBa.out.drew.alloc HBa.out.size _)) ?_
             intro e w2 hh
             obtain ⟨k5, i5, b5, t5, p5, n5, c5, er, he, hb2, hv2⟩ := hh.any
             unfold cells5 at he
             refine ⟨_, he, ?_⟩
             have hbk : w2.heap[wr1.heap.size]? = some (.cells #[.int .i64 0, .int .i64 0, .float .f64 0, .string ⟨#[]⟩, .slice none 0 0] 35 (0, 0)) := (hb2.block _ (blk_lt (blk_new wr1 _))).trans (blk_new wr1 _)
             have v0 : w2.cell? ⟨wr1.heap.size, 0, none⟩ = some (.int .i64 0) := blk_cell hbk 0
             have v1 : w2.cell? ⟨wr1.heap.size, 1, none⟩ = some (.int .i64 0) := blk_cell hbk 1
             have v2 : w2.cell? ⟨wr1.heap.size, 2, none⟩ = some (.float .f64 0) := blk_cell hbk 2
             have v3 : w2.cell? ⟨wr1.heap.size, 3, none⟩ = some (.string ⟨#[]⟩) := blk_cell hbk 3
             have v4 : w2.cell? ⟨wr1.heap.size, 4, none⟩ = some (.slice none 0 0) := blk_cell hbk 4
             have z0 := blk_free hbk 0
             have z1 := blk_free hbk 1
             have z2 := blk_free hbk 2
             have z3 := blk_free hbk 3
             have z4 := blk_free hbk 4
             have hT := told5_old HBa.out hbk hb2 hv2
             unfold put5 at hT
             have HTd := Lib.hid hT
             clear he hh hb2 hv2 hbk hT)
          | fail)
        all_goals (try go_wp2_with fail)
        all_goals go_meet
        all_goals exact ⟨_, _, rfl, rfl, rfl, HTd⟩
      case rest =>
        obtain ⟨gb, er, rfl, rfl, rfl, HTd⟩ := hcut
        have HB3 := Lib.hid HTd.out.below
        clear m0 m1 m2 n0 n1 o0 o1 o2 o3 o4 m0a m1a m2a n0a n1a o0a o1a o2a o3a o4a HCx
        cases rx with
        | error er' =>
          have hz : er' ≠ 0 := HNe.out _ (List.getElem_mem hlt) er' HRx.out.symm
          have hee : er = (er' : Nat) := HTd.out.told
          subst hee
          have hzb : ((er' : Int) != 0) = true := bne_t (by omega)
          have HRe : Hid (r = .error er') := by
            show _ = _
            rw [HR.out, Rz.allR_err xs j hlt HG.out.2.2 HRx.out.symm]
          have d2 := HT6.out wc HB3.out
          have e0 : wc.cell? ⟨w.heap.size + 1 + 1, 0, none⟩ = some (.int .i64 0) := blk_cell d2 0
          have e1 : wc.cell? ⟨w.heap.size + 1 + 1, 1, none⟩ = some (.int .i64 0) := blk_cell d2 1
          have e2 : wc.cell? ⟨w.heap.size + 1 + 1, 2, none⟩ = some (.float .f64 0) := blk_cell d2 2
          have e3 : wc.cell? ⟨w.heap.size + 1 + 1, 3, none⟩ = some (.string ⟨#[]⟩) := blk_cell d2 3
          have e4 : wc.cell? ⟨w.heap.size + 1 + 1, 4, none⟩ = some (.slice none 0 0) := blk_cell d2 4
          have g0 := blk_free d2 0
          have g1 := blk_free d2 1
          have g2 := blk_free d2 2
          have g3 := blk_free d2 3
          have g4 := blk_free d2 4
          have HD2 := Lib.hid d2
          have HBW : Hid (Below w.heap.size w wc) := HBw.out.trans (HB3.out.mono HBw.out.size)
          clear d2 hz HR
          go_wp2
          refine end5 rfl rfl rfl rfl (put5_block HD2.out) rfl ?_
          rw [HRe.out]
          exact valR_err HBW.out (by omega)
        | ok x9 =>
          obtain ⟨hee, k5, i5, b5, t5, p5, n5, c5, hk3, hv3⟩ := HTd.out.told
          subst hee
          have HRt : Hid (Rz.allR f (xs.take (j + 1)) = .ok (zs ++ [x9])) := Rz.allR_step xs j hlt HG.out.2.2 HRx.out.symm
          obtain ⟨us, Fs, hbt⟩ := HG.out.2.1.built
          have HBt := Lib.hid hbt
          have HGr := Lib.hid HG.out.2.1
          have hzl := HG.out.1
          have HRow : Hid (∀ W', Below wr.heap.size wr W' → W'.ownsRow W0.heap.size 35 5 (.slice q9 j d9) j (flat us j)) := fun W' hb => by
            have := (hbt.on hb).row
            rw [hzl] at this
            exact this
          have f0 := blk_cell hk3 0
          have f1 := blk_cell hk3 1
          have f2 := blk_cell hk3 2
          have f3 := blk_cell hk3 3
          have f4 := blk_cell hk3 4
          have hs3 := HB3.out.size
          have HV3 := Lib.hid hv3
          unfold cells5 at HV3
          have HB4 : Hid (Below wc.heap.size wc (wc.alloc (.cells #[.int .i64 k5, .int .i64 i5, .float .f64 b5, .string t5, .slice p5 n5 c5] 35))) := (Below.refl _ _).alloc (Nat.le_refl _) _
          have HB4w : Hid (Below wr.heap.size wr (wc.alloc (.cells #[.int .i64 k5, .int .i64 i5, .float .f64 b5, .string t5, .slice p5 n5 c5] 35))) := HB3.out.alloc HB3.out.size _
          have hsz := HK.out.size
          clear hbt hk3 hv3
          go_wp2_with (at_builtin; refine wp_more (B := W0.heap.size) (us := us) (HRow.out _ HB4w.out) (u := #[.int .i64 k5, .int .i64 i5, .float .f64 b5, .string t5, .slice p5 n5 c5]) rfl (one5 HV3.out) (ad := wc.heap.size) (blk_new wc _) (by omega) (by simp; omega) rfl rfl rfl rfl rfl ?_
                       intro g2 cap2 w4 hr4 hg4 hn4
                       have HMK : Hid ((zs ++ [x9]).length = j + 1 ∧ Grow W0 (.slice (some ⟨g2, 0, none⟩) (j + 1) cap2) (zs ++ [x9]) w4 ∧ Rz.allR f (xs.take (j + 1)) = .ok (zs ++ [x9])) := by
                         subst hzl
                         exact ⟨by simp, HGr.out.next HBt.out HB3.out HV3.out (fun _ h => h) HB4.out hr4 hg4 hn4, HRt.out⟩
                       clear hr4 hg4 hn4)
          go_roundw
          case rel => exact ⟨zs ++ [x9], j + 1, _, _, by omega, by go_num, rfl, HMK⟩
          case measure => simp [intOf]; omega
    · have hjn : ¬ (j : Int) < (xs.length : Int) := by omega
      have hjj : j = xs.length := by omega
      have c0 : wr.cell? ⟨w.heap.size + 1, 0, none⟩ = some (.int .i64 kb) := blk_at HL.out.2.1 HK.out 0
      have d2 : wr.heap[w.heap.size + 1 + 1]? = some (.cells #[.int .i64 0, .int .i64 0, .float .f64 0, .string ⟨#[]⟩, .slice none 0 0] 35 (0, 0)) := (HK.out.block _ (blk_lt HL.out.2.2)).trans HL.out.2.2
      have e0 : wr.cell? ⟨w.heap.size + 1 + 1, 0, none⟩ = some (.int .i64 0) := blk_cell d2 0
      have e1 : wr.cell? ⟨w.heap.size + 1 + 1, 1, none⟩ = some (.int .i64 0) := blk_cell d2 1
      have e2 : wr.cell? ⟨w.heap.size + 1 + 1, 2, none⟩ = some (.float .f64 0) := blk_cell d2 2
      have e3 : wr.cell? ⟨w.heap.size + 1 + 1, 3, none⟩ = some (.string ⟨#[]⟩) := blk_cell d2 3
      have e4 : wr.cell? ⟨w.heap.size + 1 + 1, 4, none⟩ = some (.slice none 0 0) := blk_cell d2 4
      have g0 := blk_free d2 0
      have g1 := blk_free d2 1
      have g2 := blk_free d2 2
      have g3 := blk_free d2 3
      have g4 := blk_free d2 4
      have HD2 := Lib.hid d2
      have HV : Hid (VOwn wr (fun k => W0.heap.size ≤ k ∧ k < wr.heap.size) (cells5 kb 0 0 ⟨#[]⟩ q9 j d9) (.mk kb 0 0 ⟨#[]⟩ zs)) := by
        have h1 := HG.out.1
        have h2 := HG.out.2.1
        rw [← h1] at h2 ⊢
        exact h2.done (by omega) kb 0 0 ⟨#[]⟩
      have HRe : Hid (r = .ok (.mk kb 0 0 ⟨#[]⟩ zs)) := by
        have h3 := HG.out.2.2
        rw [hjj, List.take_length] at h3
        show _ = _
        rw [HR.out, h3]
      clear d2 hjj HG HR
      go_wp2
      refine end5 rfl rfl rfl rfl (put5_block HD2.out) rfl ?_
      rw [HRe.out]
      exact valR_ok HBw.out (by omega) (by have := HS0.out; omega) HV.out
end Go.Proofs.YtdahackmmhcjoaaGreat
