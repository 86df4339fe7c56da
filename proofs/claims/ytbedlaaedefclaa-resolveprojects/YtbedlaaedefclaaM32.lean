/- K9A: put together. -/
import Derived.Test.YtbedlaaedefclaaM31
import Derived.Test.YtbedlaaedefclaaM24
import Derived.Test.YtbedlaaedefclaaM04
import Derived.Test.YtbedlaaedefclaaM27

/- The landed resolve: two kinds held together; canRead. -/
namespace Go.Proofs.Ytbedlaaedefclaa
open Go.RowKit

theorem eqKinds (a b c d : Int) (w : World) : (Op.equalIn 10000 79 (.agg #[.int .i64 a, .int .i64 b]) (.agg #[.int .i64 c, .int .i64 d])).run Try.prog w = .ok (a == c && b == d) w := by
  have u3 := Try.underlying3
  have a3 := Try.isAgg3
  have z3 := Try.sizeOf3
  rw [show (10000 : Nat) = 9999 + 1 from rfl, Op.equalIn]
  simp only [Sem.run_bind, run_underlying Try.underlying79, Result.andThen_ok]
  simp only [Std.Legacy.Range.forIn_eq_forIn_range', Std.Legacy.Range.size, Nat.sub_zero, Nat.add_sub_cancel, Nat.div_one, List.range'_succ, List.range'_zero, List.forIn_cons, List.forIn_nil]
  go_simp
  by_cases h1 : a = c <;> by_cases h2 : b = d <;> simp [h1, h2]
attribute [local go_sem] eqKinds

/-- kinds of which what they are of is read, item by item -/
def bothB (a b : Int) : Bool := (a == 6 && b == 6) || (a == 7 && b == 7)
set_option maxRecDepth 100000 in
set_option maxHeartbeats 400000 in
theorem isBothOfK (a b : Int) (w : World) : Calls Try.prog 48 #[.agg #[.int .i64 a, .int .i64 b]] w fun e w' => e = .returned (.bool (bothB a b)) ∧ Below w.heap.size w w' := by
  have HB : Hid (Below w.heap.size w (w.alloc (.cells #[.int .i64 a, .int .i64 b] 79))) := (Below.refl _ _).alloc (Nat.le_refl _) _
  by_cases h : a = 6 ∧ b = 6
  · obtain ⟨rfl, rfl⟩ := h
    go_enter Try.func48, Try.ntmps48
    go_wp2
    go_ret
    exact ⟨rfl, HB.out⟩
  · have g : (a == 6 && b == 6) = false := by rw [Bool.and_eq_false_iff, beq_eq_false_iff_ne, beq_eq_false_iff_ne]; omega
    have HE : Hid (bothB a b = (a == 7 && b == 7)) := by show _ = _; unfold bothB; rw [g, Bool.false_or]
    clear h
    go_enter Try.func48, Try.ntmps48
    go_wp2
    go_ret
    exact ⟨by rw [HE.out]; rfl, HB.out⟩

/-- kinds none of which is Opt, nor both List -/
def plainK (a b : Int) : Bool := (a == 2 && b == 3) || (a == 3 && b == 2) || (a == 1 && b == 2) || (a == 4 && b == 5) || (a == 5 && b == 4) || a == b
theorem plain_K {a b : Int} (h : ¬ (a = 7 ∧ b = 7)) : Rz.plain a b = plainK a b := by
  unfold Rz.plain plainK
  rw [Bool.eq_iff_iff]
  simp only [Bool.and_eq_true, Bool.not_eq_true', beq_eq_false_iff_ne, ne_eq, Bool.or_eq_true, beq_iff_eq]
  omega
set_option maxRecDepth 100000 in
set_option maxHeartbeats 1000000 in
theorem canReadPlainK (a b : Int) (w : World) : Calls Try.prog 49 #[.agg #[.int .i64 a, .int .i64 b]] w fun e w' => e = .returned (.bool (plainK a b)) ∧ Below w.heap.size w w' := by
  have HB : Hid (Below w.heap.size w (w.alloc (.cells #[.int .i64 a, .int .i64 b] 79))) := (Below.refl _ _).alloc (Nat.le_refl _) _
  have HP : Hid (plainK a b = true ↔ (a = 2 ∧ b = 3) ∨ (a = 3 ∧ b = 2) ∨ (a = 1 ∧ b = 2) ∨ (a = 4 ∧ b = 5) ∨ (a = 5 ∧ b = 4) ∨ a = b) := by
    show _ ↔ _
    unfold plainK
    simp only [Bool.and_eq_true, Bool.or_eq_true, beq_iff_eq]
    omega
  obtain ⟨r, hr⟩ : ∃ r, r = plainK a b := ⟨_, rfl⟩
  rw [← hr] at HP ⊢
  clear hr
  by_cases h1 : (a = 2 ∧ b = 3)
  · have hr : r = true := HP.out.2 (by omega)
    obtain ⟨rfl, rfl⟩ := h1
    subst hr
    clear HP
    go_enter Try.func49, Try.ntmps49
    go_wp2
    go_ret
    exact ⟨rfl, HB.out⟩
  by_cases h2 : (a = 3 ∧ b = 2)
  · have hr : r = true := HP.out.2 (by omega)
    obtain ⟨rfl, rfl⟩ := h2
    subst hr
    clear HP h1
    go_enter Try.func49, Try.ntmps49
    go_wp2
    go_ret
    exact ⟨rfl, HB.out⟩
  by_cases h3 : (a = 1 ∧ b = 2)
  · have hr : r = true := HP.out.2 (by omega)
    obtain ⟨rfl, rfl⟩ := h3
    subst hr
    clear HP h1 h2
    go_enter Try.func49, Try.ntmps49
    go_wp2
    go_ret
    exact ⟨rfl, HB.out⟩
  by_cases h4 : (a = 4 ∧ b = 5)
  · have hr : r = true := HP.out.2 (by omega)
    obtain ⟨rfl, rfl⟩ := h4
    subst hr
    clear HP h1 h2 h3
    go_enter Try.func49, Try.ntmps49
    go_wp2
    go_ret
    exact ⟨rfl, HB.out⟩
  by_cases h5 : (a = 5 ∧ b = 4)
  · have hr : r = true := HP.out.2 (by omega)
    obtain ⟨rfl, rfl⟩ := h5
    subst hr
    clear HP h1 h2 h3 h4
    go_enter Try.func49, Try.ntmps49
    go_wp2
    go_ret
    exact ⟨rfl, HB.out⟩
  have hr : r = (a == b) := by
    rw [Bool.eq_iff_iff, HP.out, beq_iff_eq]
    omega
  have g1 : (a == 2 && b == 3) = false := by rw [Bool.and_eq_false_iff, beq_eq_false_iff_ne, beq_eq_false_iff_ne]; omega
  have g2 : (a == 3 && b == 2) = false := by rw [Bool.and_eq_false_iff, beq_eq_false_iff_ne, beq_eq_false_iff_ne]; omega
  have g3 : (a == 1 && b == 2) = false := by rw [Bool.and_eq_false_iff, beq_eq_false_iff_ne, beq_eq_false_iff_ne]; omega
  have g4 : (a == 4 && b == 5) = false := by rw [Bool.and_eq_false_iff, beq_eq_false_iff_ne, beq_eq_false_iff_ne]; omega
  have g5 : (a == 5 && b == 4) = false := by rw [Bool.and_eq_false_iff, beq_eq_false_iff_ne, beq_eq_false_iff_ne]; omega
  have HR := Lib.hid hr
  clear HP h1 h2 h3 h4 h5 hr
  go_enter Try.func49, Try.ntmps49
  go_wp2
  go_ret
  exact ⟨by rw [HR.out]; rfl, HB.out⟩

set_option maxRecDepth 100000 in
set_option maxHeartbeats 2000000 in
theorem canReadK : ∀ (d : Nat) (a b : Ty) (da db : Nat) (w : World) (u v : Array Value), Ty.check da a = 0 → Ty.check db b = 0 → 9 ≤ d + da + db → TLies w u a → TLies w v b → Calls Try.prog 25 #[.agg u, .agg v] w fun e w' => e = .returned (.bool (Rz.can d a b)) ∧ Below w.heap.size w w' := by
  intro d
  induction d with
  | zero =>
    rintro ⟨ka, xa⟩ ⟨kb, xb⟩ da db w u v ha hb hd
    have := (Sch.ty_open ha).1
    have := (Sch.ty_open hb).1
    omega
  | succ d ih =>
    rintro ⟨ka, xa⟩ ⟨kb, xb⟩ da db w u v ha hb hd hu hv
    obtain ⟨p, ca, rfl, hpl, hpc, hpi⟩ := hu.open
    obtain ⟨q, cb, rfl, hql, hqc, hqi⟩ := hv.open
    obtain ⟨a4, ak, ax⟩ := Sch.ty_open ha
    obtain ⟨b4, bk, bx⟩ := Sch.ty_open hb
    have HCan := Lib.hid (Rz.can_succ d (.mk ka xa) (.mk kb xb))
    have HIH := Lib.hid ih
    have HU := Lib.hid hu
    have HV := Lib.hid hv
    have HA := Lib.hid ha
    have HBt := Lib.hid hb
    unfold cells2 at HU HV ⊢
    obtain ⟨na, hna⟩ : ∃ n, n = xa.length := ⟨_, rfl⟩
    obtain ⟨nb, hnb⟩ : ∃ n, n = xb.length := ⟨_, rfl⟩
    rw [← hna] at HU hpl hpc ⊢
    rw [← hnb] at HV hql hqc ⊢
    obtain ⟨W0, hW0⟩ : ∃ W0, W0 = ((w.alloc (.cells #[.int .i64 ka, .slice p na ca] 24)).alloc (.cells #[.int .i64 kb, .slice q nb cb] 24)).alloc (.cells #[.int .i64 ka, .int .i64 kb] 79) := ⟨_, rfl⟩
    obtain ⟨l0, l1, l2, lb, ls⟩ := al3 w (.cells #[.int .i64 ka, .slice p na ca] 24) (.cells #[.int .i64 kb, .slice q nb cb] 24) (.cells #[.int .i64 ka, .int .i64 kb] 79)
    rw [← hW0] at l0 l1 l2 lb ls
    have HB0 := Lib.hid lb
    have HCl : Hid (∀ w', Below W0.heap.size W0 w' → w'.cell? ⟨w.heap.size, 0, none⟩ = some (.int .i64 ka) ∧ w'.cell? ⟨w.heap.size, 1, none⟩ = some (.slice p na ca) ∧ w'.cell? ⟨w.heap.size + 1, 0, none⟩ = some (.int .i64 kb) ∧ w'.cell? ⟨w.heap.size + 1, 1, none⟩ = some (.slice q nb cb) ∧ w'.cell? ⟨w.heap.size + 1 + 1, 0, none⟩ = some (.int .i64 ka) ∧ w'.cell? ⟨w.heap.size + 1 + 1, 1, none⟩ = some (.int .i64 kb)) := fun w' h => ⟨blk_at l0 h 0, blk_at l0 h 1, blk_at l1 h 0, blk_at l1 h 1, blk_at l2 h 0, blk_at l2 h 1⟩
    have HW0 := Lib.hid hW0
    have HBo := Lib.hid (isBothOfK ka kb W0)
    clear l0 l1 l2 lb ls hu hv ha hb hW0 ih
    obtain ⟨R, hR⟩ : ∃ R, R = Rz.can (d + 1) (.mk ka xa) (.mk kb xb) := ⟨_, rfl⟩
    rw [← hR] at HCan ⊢
    clear hR
    by_cases hA : bothB ka kb = true
    · -- item by item
      have hk : ka = 6 ∧ kb = 6 ∨ ka = 7 ∧ kb = 7 := by
        unfold bothB at hA
        simpa only [Bool.or_eq_true, Bool.and_eq_true, beq_iff_eq] using hA
      rcases ax with ⟨h, -⟩ | ⟨-, x, rfl, hx⟩
      · omega
      rcases bx with ⟨h, -⟩ | ⟨-, y, rfl, hy⟩
      · omega
      have hna1 : na = 1 := hna
      have hnb1 : nb = 1 := hnb
      clear hna hnb
      subst hna1 hnb1
      have HRr : Hid (R = Rz.can d x y) := by
        show _ = _
        rw [HCan.out]
        rcases hk with ⟨rfl, rfl⟩ | ⟨rfl, rfl⟩ <;> rfl
      obtain ⟨ux, hux, hix⟩ := hpi 0 (by simp)
      obtain ⟨uy, huy, hiy⟩ := hqi 0 (by simp)
      rw [hA] at HBo
      have HX := Lib.hid (And.intro hux hix)
      have HY := Lib.hid (And.intro huy hiy)
      have HD : Hid (∀ w', Below w.heap.size w w' → Calls Try.prog 25 #[.agg ux, .agg uy] w' fun e w'' => e = .returned (.bool R) ∧ Below w'.heap.size w' w'') := fun w' hb' => by
        rw [HRr.out]
        exact HIH.out x y (da + 1) (db + 1) w' ux uy hx hy (by omega) (hux.on hb') (huy.on hb')
      clear hk hA hpi hqi hux huy hix hiy HCan HIH HRr
      go_enter Try.func25, Try.ntmps25
      go_wp2_with fail
      rw [← HW0.out]
      clear HW0
      refine HBo.out.mono ?_
      rintro e w1 ⟨rfl, hb1⟩
      have HB1 := Lib.hid (HB0.out.trans (hb1.mono HB0.out.size))
      obtain ⟨c0, c1, c2, c3, c4, c5⟩ := HCl.out w1 hb1
      obtain ⟨bx, ox, kx, qx, nx, cx, rfl, _, rfl, a0, a1⟩ := (HX.out.2.on HB1.out).lies
      obtain ⟨by', oy, ky, qy, ny, cy, rfl, _, rfl, b0, b1⟩ := (HY.out.2.on HB1.out).lies
      rw [Nat.zero_mul, Nat.add_zero] at a0 a1 b0 b1
      unfold cells2 at HD
      clear HX HY HBo hb1 HCl HU HV hpl hpc hql hqc
      go_wp2_with fail
      go_region_held3 (fun w' => w'.cell? ⟨w.heap.size, 1, none⟩ = some (.slice (some ⟨bx, ox, none⟩) 1 ca) ∧ w'.cell? ⟨w.heap.size + 1, 1, none⟩ = some (.slice (some ⟨by', oy, none⟩) 1 cb) ∧ w'.cell? ⟨bx, ox, none⟩ = some (.int .i64 kx) ∧ w'.cell? ⟨bx, ox + 1, none⟩ = some (.slice qx nx cx) ∧ w'.cell? ⟨by', oy, none⟩ = some (.int .i64 ky) ∧ w'.cell? ⟨by', oy + 1, none⟩ = some (.slice qy ny cy)) (go_keep) (first
        | (go_at_call 25; refine (HD.out _ (below_drewN HB1.out _)).mono ?_; rintro e w4 ⟨rfl, hb4⟩; have hb5 := below_via (w := w1) hb4 (by rfl) (by rfl) (by rfl) (by rfl); have z0 := cell_on hb5 c1; have z1 := cell_on hb5 c3; have z2 := cell_on hb5 a0; have z3 := cell_on hb5 a1; have z4 := cell_on hb5 b0; have z5 := cell_on hb5 b1; have HB4 := Lib.hid (HB1.out.trans (hb5.mono HB1.out.size)); clear hb4 hb5))
      go_wp2
      go_ret
      exact ⟨rfl, HB4.out⟩
    have hA' : bothB ka kb = false := by simpa using hA
    have hk : ¬ (ka = 6 ∧ kb = 6 ∨ ka = 7 ∧ kb = 7) := by
      unfold bothB at hA
      simpa only [Bool.or_eq_true, Bool.and_eq_true, beq_iff_eq] using hA
    rw [hA'] at HBo
    clear hA hA'
    by_cases hB : kb = 6
    · -- to an opt
      rcases bx with ⟨h, -⟩ | ⟨-, y, rfl, hy⟩
      · omega
      have hnb1 : nb = 1 := hnb
      clear hnb
      subst hnb1 hB
      have HRr : Hid (R = Rz.can d (.mk ka xa) y) := by
        show _ = _
        rw [HCan.out, if_pos rfl, if_neg (by show ¬ ka = 6; omega)]
        rfl
      obtain ⟨uy, huy, hiy⟩ := hqi 0 (by simp)
      have HY := Lib.hid (And.intro huy hiy)
      have HD : Hid (∀ w', Below w.heap.size w w' → Calls Try.prog 25 #[.agg #[.int .i64 ka, .slice p na ca], .agg uy] w' fun e w'' => e = .returned (.bool R) ∧ Below w'.heap.size w' w'') := fun w' hb' => by
        rw [HRr.out]
        exact HIH.out (.mk ka xa) y da (db + 1) w' _ uy HA.out hy (by omega) (HU.out.on hb') (huy.on hb')
      clear hk hpi hqi huy hiy HCan HIH HRr hna
      go_enter Try.func25, Try.ntmps25
      go_wp2_with fail
      rw [← HW0.out]
      clear HW0
      refine HBo.out.mono ?_
      rintro e w1 ⟨rfl, hb1⟩
      have HB1 := Lib.hid (HB0.out.trans (hb1.mono HB0.out.size))
      obtain ⟨c0, c1, c2, c3, c4, c5⟩ := HCl.out w1 hb1
      obtain ⟨by', oy, ky, qy, ny, cy, rfl, _, rfl, b0, b1⟩ := (HY.out.2.on HB1.out).lies
      rw [Nat.zero_mul, Nat.add_zero] at b0 b1
      unfold cells2 at HD
      clear HY HBo hb1 HCl HU HV hpl hpc hql hqc
      go_wp2_with fail
      go_region_held3 (fun w' => w'.cell? ⟨w.heap.size, 0, none⟩ = some (.int .i64 ka) ∧ w'.cell? ⟨w.heap.size, 1, none⟩ = some (.slice p na ca) ∧ w'.cell? ⟨w.heap.size + 1, 1, none⟩ = some (.slice (some ⟨by', oy, none⟩) 1 cb) ∧ w'.cell? ⟨by', oy, none⟩ = some (.int .i64 ky) ∧ w'.cell? ⟨by', oy + 1, none⟩ = some (.slice qy ny cy)) (go_keep) (first
        | (go_at_call 25; refine (HD.out _ (below_drewN HB1.out _)).mono ?_; rintro e w4 ⟨rfl, hb4⟩; have hb5 := below_via (w := w1) hb4 (by rfl) (by rfl) (by rfl) (by rfl); have z0 := cell_on hb5 c0; have z1 := cell_on hb5 c1; have z2 := cell_on hb5 c3; have z4 := cell_on hb5 b0; have z5 := cell_on hb5 b1; have HB4 := Lib.hid (HB1.out.trans (hb5.mono HB1.out.size)); clear hb4 hb5))
      go_wp2
      go_ret
      exact ⟨rfl, HB4.out⟩
    have gB := beq_f hB
    by_cases hC : ka = 6
    · -- from an opt
      rcases ax with ⟨h, -⟩ | ⟨-, x, rfl, hx⟩
      · omega
      have hna1 : na = 1 := hna
      clear hna
      subst hna1 hC
      have HRr : Hid (R = Rz.can d x (.mk kb xb)) := by
        show _ = _
        rw [HCan.out, if_neg hB, if_pos rfl]
        rfl
      obtain ⟨ux, hux, hix⟩ := hpi 0 (by simp)
      have HX := Lib.hid (And.intro hux hix)
      have HD : Hid (∀ w', Below w.heap.size w w' → Calls Try.prog 25 #[.agg ux, .agg #[.int .i64 kb, .slice q nb cb]] w' fun e w'' => e = .returned (.bool R) ∧ Below w'.heap.size w' w'') := fun w' hb' => by
        rw [HRr.out]
        exact HIH.out x (.mk kb xb) (da + 1) db w' ux _ hx HBt.out (by omega) (hux.on hb') (HV.out.on hb')
      clear hk hpi hqi hux hix HCan HIH HRr hnb hB
      go_enter Try.func25, Try.ntmps25
      go_wp2_with fail
      rw [← HW0.out]
      clear HW0
      refine HBo.out.mono ?_
      rintro e w1 ⟨rfl, hb1⟩
      have HB1 := Lib.hid (HB0.out.trans (hb1.mono HB0.out.size))
      obtain ⟨c0, c1, c2, c3, c4, c5⟩ := HCl.out w1 hb1
      obtain ⟨bx, ox, kx, qx, nx, cx, rfl, _, rfl, a0, a1⟩ := (HX.out.2.on HB1.out).lies
      rw [Nat.zero_mul, Nat.add_zero] at a0 a1
      unfold cells2 at HD
      clear HX HBo hb1 HCl HU HV hpl hpc hql hqc
      go_wp2_with fail
      go_region_held3 (fun w' => w'.cell? ⟨w.heap.size, 1, none⟩ = some (.slice (some ⟨bx, ox, none⟩) 1 ca) ∧ w'.cell? ⟨w.heap.size + 1, 0, none⟩ = some (.int .i64 kb) ∧ w'.cell? ⟨w.heap.size + 1, 1, none⟩ = some (.slice q nb cb) ∧ w'.cell? ⟨bx, ox, none⟩ = some (.int .i64 kx) ∧ w'.cell? ⟨bx, ox + 1, none⟩ = some (.slice qx nx cx)) (go_keep) (first
        | (go_at_call 25; refine (HD.out _ (below_drewN HB1.out _)).mono ?_; rintro e w4 ⟨rfl, hb4⟩; have hb5 := below_via (w := w1) hb4 (by rfl) (by rfl) (by rfl) (by rfl); have z0 := cell_on hb5 c1; have z1 := cell_on hb5 c2; have z2 := cell_on hb5 c3; have z3 := cell_on hb5 a0; have z4 := cell_on hb5 a1; have HB4 := Lib.hid (HB1.out.trans (hb5.mono HB1.out.size)); clear hb4 hb5))
      go_wp2
      go_ret
      exact ⟨rfl, HB4.out⟩
    have gC := beq_f hC
    have HRr : Hid (R = plainK ka kb) := by
      show _ = _
      rw [HCan.out, if_neg hB, if_neg hC, if_neg (by show ¬ (ka = 7 ∧ kb = 7); omega)]
      exact plain_K (a := ka) (b := kb) (by omega)
    clear hk hpi hqi HCan HIH hna hnb hB hC HA HBt ax bx
    go_enter Try.func25, Try.ntmps25
    go_wp2_with fail
    rw [← HW0.out]
    clear HW0
    refine HBo.out.mono ?_
    rintro e w1 ⟨rfl, hb1⟩
    have HB1 := Lib.hid (HB0.out.trans (hb1.mono HB0.out.size))
    obtain ⟨c0, c1, c2, c3, c4, c5⟩ := HCl.out w1 hb1
    clear HBo hb1 HCl HU HV hpl hpc hql hqc
    go_wp2_with fail
    refine (canReadPlainK ka kb w1).mono ?_
    rintro e w2 ⟨rfl, hb2⟩
    have HB2 := Lib.hid (HB1.out.trans (hb2.mono HB1.out.size))
    clear hb2
    go_wp2
    go_ret
    exact ⟨by rw [HRr.out]; rfl, HB2.out⟩
end Go.Proofs.Ytbedlaaedefclaa
