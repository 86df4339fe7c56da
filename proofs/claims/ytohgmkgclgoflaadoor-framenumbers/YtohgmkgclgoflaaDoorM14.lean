/- K7B, K7C, K7D, K7M: put together. -/
import Derived.Test.YtohgmkgclgoflaaDoorM08
import Derived.Test.YtohgmkgclgoflaaDoorM05
import Derived.Test.YtohgmkgclgoflaaDoorM13
import Derived.Test.YtohgmkgclgoflaaDoorM12
import Derived.Test.YtohgmkgclgoflaaDoorM06
import Derived.Maps.OwnOps
import Derived.Maps.OwnSet
import Derived.StringKeys

/- The landed schema: SameType. -/
namespace Go.Proofs.YtohgmkgclgoflaaDoor
open Go.RowKit

set_option maxRecDepth 100000 in
set_option maxHeartbeats 1000000 in
theorem sameTypeK : ∀ (x y : Ty) (w : World) (u v : Array Value), TLies w u x → TLies w v y → Calls Tryd.prog 101 #[.agg u, .agg v] w fun e w' => e = .returned (.bool (Ty.same x y)) ∧ Below w.heap.size w w' := by
  intro x
  refine Ty.ind (P := fun x => ∀ (y : Ty) (w : World) (u v : Array Value), TLies w u x → TLies w v y → Calls Tryd.prog 101 #[.agg u, .agg v] w fun e w' => e = .returned (.bool (Ty.same x y)) ∧ Below w.heap.size w w') ?_ x
  rintro k xs ih ⟨k', ys⟩ w u v hx hy
  obtain ⟨p, c, rfl, hxl, hxc, hxi⟩ := hx.open
  obtain ⟨q, d, rfl, hyl, hyc, hyi⟩ := hy.open
  unfold cells2
  obtain ⟨W0, hW0⟩ : ∃ W0, W0 = (w.alloc (.cells #[.int .i64 k, .slice p xs.length c] 66)).alloc (.cells #[.int .i64 k', .slice q ys.length d] 66) := ⟨_, rfl⟩
  have HB0 : Hid (Below w.heap.size w W0) := by rw [hW0]; exact ((Below.refl _ _).alloc (Nat.le_refl _) _).alloc (by simp) _
  have HY0 : Hid (W0.cell? ⟨w.heap.size, 1, none⟩ = some (.slice p xs.length c) ∧ W0.cell? ⟨w.heap.size + 1, 1, none⟩ = some (.slice q ys.length d)) := by rw [hW0]; exact ⟨by simp, by simp⟩
  have HW0 := Lib.hid hW0
  clear hW0 hx hy
  by_cases h1 : ¬ k = k'
  · have g1 := bne_t h1
    have HE : Hid (Ty.same (.mk k xs) (.mk k' ys) = false) := by show _ = _; simp [Ty.same_mk, h1]
    clear ih hxi hyi h1
    go_enter Tryd.func101, Tryd.ntmps101
    go_wp2
    rw [← HW0.out]
    go_ret
    exact ⟨by rw [HE.out]; rfl, HB0.out⟩
  replace h1 : k = k' := Classical.not_not.1 h1
  have g1 := bne_f h1
  by_cases h5 : ¬ xs.length = ys.length
  · have g5 : ((xs.length : Int) != (ys.length : Int)) = true := bne_t (by omega)
    have HE : Hid (Ty.same (.mk k xs) (.mk k' ys) = false) := by show _ = _; simp [Ty.same_mk, Ty.sameL_ne xs ys h5]
    clear ih hxi hyi h1 h5
    go_enter Tryd.func101, Tryd.ntmps101
    go_wp2
    rw [← HW0.out]
    go_ret
    exact ⟨by rw [HE.out]; rfl, HB0.out⟩
  replace h5 : xs.length = ys.length := Classical.not_not.1 h5
  have g5 : ((xs.length : Int) != (ys.length : Int)) = false := bne_f (by omega)
  have HE : Hid (Ty.same (.mk k xs) (.mk k' ys) = Ty.sameL xs ys) := by show _ = _; simp [Ty.same_mk, h1]
  have HX : Hid (∀ j (hj : j < xs.length), ∃ u', TLies w u' xs[j] ∧ ItemT w p j u') := hxi
  have HY2 : Hid (∀ j (hj : j < ys.length), ∃ u', TLies w u' ys[j] ∧ ItemT w q j u') := hyi
  have HIH := Lib.hid ih
  have H5 := Lib.hid h5
  clear ih hxi hyi h1 h5
  go_enter Tryd.func101, Tryd.ntmps101
  go_wp2_with fail
  rw [← HW0.out]
  clear HW0
  go_loopw [24] (fun v44 wr => ∃ j : Nat, j ≤ xs.length ∧ v44 = .int .i64 j ∧ Hid (Below W0.heap.size W0 wr ∧ ∀ m (h1 : m < xs.length) (h2 : m < ys.length), m < j → Ty.same xs[m] ys[m] = true)) (fun v44 _ => xs.length - (intOf v44).toNat)
  case atStart => exact ⟨0, by omega, rfl, Below.refl _ _, fun m _ _ h => by omega⟩
  case round =>
    obtain ⟨j, hj, rfl, HL⟩ := hrel
    have hbw : Below w.heap.size w wr := HB0.out.trans (HL.out.1.mono HB0.out.size)
    by_cases hlt : j < xs.length
    · have hlt2 : j < ys.length := by have := H5.out; omega
      obtain ⟨ux, hvx, hix⟩ := HX.out j hlt
      obtain ⟨uy, hvy, hiy⟩ := HY2.out j hlt2
      obtain ⟨bx, ox, kx, qx, nx, cx, rfl, _, rfl, a0, a1⟩ := (hix.on hbw).lies
      obtain ⟨by', oy, ky, qy, ny, cy, rfl, _, rfl, b0, b1⟩ := (hiy.on hbw).lies
      have HC : Hid (∀ w', Below w.heap.size w w' → Calls Tryd.prog 101 #[.agg #[.int .i64 kx, .slice qx nx cx], .agg #[.int .i64 ky, .slice qy ny cy]] w' fun e w'' => e = .returned (.bool (Ty.same xs[j] ys[j])) ∧ Below w'.heap.size w' w'') :=
        fun w' hb => HIH.out _ (List.getElem_mem hlt) ys[j] w' _ _ (hvx.on hb) (hvy.on hb)
      have HAll := Lib.hid HL.out.2
      have hj1 : (j : Int) < (xs.length : Int) := by omega
      have hj2 : (j : Int) < (ys.length : Int) := by omega
      obtain ⟨r, hr⟩ : ∃ r, r = Ty.same xs[j] ys[j] := ⟨_, rfl⟩
      rw [← hr] at HC
      have HRr := Lib.hid hr
      obtain ⟨wa, hwa⟩ : ∃ wa, wa = wr.alloc (.cells #[.int .i64 kx, .slice qx nx cx] 66) := ⟨_, rfl⟩
      have HBa : Hid (Below wr.heap.size wr wa) := by rw [hwa]; exact (Below.refl _ _).alloc (Nat.le_refl _) _
      have HBw : Hid (Below w.heap.size w wa) := hbw.trans (HBa.out.mono hbw.size)
      have HBW : Hid (Below W0.heap.size W0 wa) := HL.out.1.trans (HBa.out.mono HL.out.1.size)
      have HWa := Lib.hid hwa
      have HY4 : Hid (wa.cell? ⟨w.heap.size + 1, 1, none⟩ = some (.slice (some ⟨by', oy, none⟩) ys.length d)) := cell_on HBW.out HY0.out.2
      have HBs : Hid (wa.cell? ⟨by', oy + j * 2, none⟩ = some (.int .i64 ky) ∧ wa.cell? ⟨by', oy + j * 2 + 1, none⟩ = some (.slice qy ny cy)) := ⟨cell_on HBa.out b0, cell_on HBa.out b1⟩
      have HAs : Hid (wa.cell? ⟨wr.heap.size, 0, none⟩ = some (.int .i64 kx) ∧ wa.cell? ⟨wr.heap.size, 1, none⟩ = some (.slice qx nx cx)) := by rw [hwa]; exact ⟨by simp, by simp⟩
      clear hvx hvy hix hiy hbw HL hr hwa b0 b1
      go_wp2_with fail
      rw [← HWa.out]
      obtain ⟨c0, c1⟩ := HAs.out
      obtain ⟨d0, d1⟩ := HBs.out
      have d5 := HY4.out
      clear HAs HBs HY4 HWa a0 a1
      go_region_held3 (fun w' => w'.cell? ⟨wr.heap.size, 0, none⟩ = some (.int .i64 kx) ∧ w'.cell? ⟨wr.heap.size, 1, none⟩ = some (.slice qx nx cx) ∧ w'.cell? ⟨by', oy + j * 2, none⟩ = some (.int .i64 ky) ∧ w'.cell? ⟨by', oy + j * 2 + 1, none⟩ = some (.slice qy ny cy) ∧ w'.cell? ⟨w.heap.size + 1, 1, none⟩ = some (.slice (some ⟨by', oy, none⟩) ys.length d)) (go_keep) (first
        | (go_at_call 101; refine (HC.out _ (below_drewN HBw.out _)).mono ?_; rintro e w4 ⟨rfl, hb4⟩; have hb5 := below_via (w := wa) hb4 (by rfl) (by rfl) (by rfl) (by rfl); have z3 := cell_on hb5 c0; have z4 := cell_on hb5 c1; have z5 := cell_on hb5 d0; have z6 := cell_on hb5 d1; have z7 := cell_on hb5 d5; have HB4 := Lib.hid hb5; clear hb4 hb5))
      clear z3 z4 z5 z6 z7 c0 c1 d0 d1 d5
      cases r with
      | true =>
        have HN : Hid (Below W0.heap.size W0 w4 ∧ ∀ m (h1 : m < xs.length) (h2 : m < ys.length), m < j + 1 → Ty.same xs[m] ys[m] = true) := by
          refine ⟨HBW.out.trans (HB4.out.mono HBW.out.size), fun m h1 h2 hm => ?_⟩
          by_cases hmj : m = j
          · subst hmj; exact HRr.out.symm
          · exact HAll.out m h1 h2 (by omega)
        clear HB4 HAll HC
        go_wp2
        go_roundw
        case rel => exact ⟨j + 1, by omega, by go_num, HN⟩
        case measure => simp [intOf]; omega
      | false =>
        have HF0 : Hid (Ty.sameL xs ys = false) := Ty.sameL_at xs ys j hlt hlt2 HRr.out.symm
        have HF := Lib.hid (HBw.out.trans (HB4.out.mono HBw.out.size))
        clear HB4 HAll HC
        go_wp2
        go_ret
        exact ⟨by rw [HE.out, HF0.out]; rfl, HF.out⟩
    · have HF0 : Hid (Ty.sameL xs ys = true) := Ty.sameL_all xs ys H5.out (fun m h1 h2 => HL.out.2 m h1 h2 (by omega))
      have HF := Lib.hid hbw
      have hjn : ¬ (j : Int) < (xs.length : Int) := by omega
      clear HL hbw hlt
      go_wp2
      go_ret
      exact ⟨by rw [HE.out, HF0.out]; rfl, HF.out⟩
end Go.Proofs.YtohgmkgclgoflaaDoor

/- The landed schema: isOf, Is. -/
namespace Go.Proofs.YtohgmkgclgoflaaDoor
open Go.RowKit

attribute [local go_sem] run_store_float

set_option maxRecDepth 100000 in
set_option maxHeartbeats 1000000 in
theorem isOfK : ∀ (x : V) (y : Ty) (d : Nat) (w : World) (u v : Array Value), chk d x = 0 → Ty.check d y = 0 → VLies w u x → TLies w v y → Calls Tryd.prog 105 #[.agg u, .agg v] w fun e w' => e = .returned (.bool (Sch.of x y)) ∧ Below w.heap.size w w' := by
  intro x
  refine V.ind (P := fun x => ∀ (y : Ty) (d : Nat) (w : World) (u v : Array Value), chk d x = 0 → Ty.check d y = 0 → VLies w u x → TLies w v y → Calls Tryd.prog 105 #[.agg u, .agg v] w fun e w' => e = .returned (.bool (Sch.of x y)) ∧ Below w.heap.size w w') ?_ x
  rintro k i b t xs ih ⟨k', ys⟩ d w u v hc hd hx hy
  obtain ⟨p, c, rfl, hxl, hxc, hxi⟩ := hx.open
  obtain ⟨q, e, rfl, hyl, hyc, hyi⟩ := hy.open
  unfold cells5 cells2
  obtain ⟨W0, hW0⟩ : ∃ W0, W0 = (w.alloc (.cells #[.int .i64 k, .int .i64 i, .float .f64 b, .string t, .slice p xs.length c] 70)).alloc (.cells #[.int .i64 k', .slice q ys.length e] 66) := ⟨_, rfl⟩
  have HB0 : Hid (Below w.heap.size w W0) := by rw [hW0]; exact ((Below.refl _ _).alloc (Nat.le_refl _) _).alloc (by simp) _
  have HY0 : Hid (W0.cell? ⟨w.heap.size + 1, 1, none⟩ = some (.slice q ys.length e)) := by show _ = _; rw [hW0]; simp
  have HW0 := Lib.hid hW0
  clear hW0 hx hy
  by_cases h1 : ¬ k = k'
  · have g1 := bne_t h1
    have HE : Hid (Sch.of (.mk k i b t xs) (.mk k' ys) = false) := by show _ = _; rw [Sch.of_mk, beq_f h1, Bool.false_and]
    clear ih hxi hyi h1 hc hd
    go_enter Tryd.func105, Tryd.ntmps105
    go_wp2
    rw [← HW0.out]
    go_ret
    exact ⟨by rw [HE.out]; rfl, HB0.out⟩
  replace h1 : k = k' := Classical.not_not.1 h1
  have g1 := bne_f h1
  have HE : Hid (Sch.of (.mk k i b t xs) (.mk k' ys) = xs.all (fun x => Sch.of x (Sch.inner (.mk k' ys)))) := by show _ = _; rw [Sch.of_mk, beq_t h1, Bool.true_and]
  obtain ⟨hd4, hcs, hct⟩ := Sch.ty_open hd
  obtain ⟨-, ho, -, hn, -, hcx⟩ := Sch.chk_open hc
  obtain ⟨-, -, -, -, o5, -⟩ := Sch.own_open ho
  have HX : Hid (Items w p xs) := hxi
  have HIH := Lib.hid ih
  -- what the type is of, where there are items
  have HT : Hid (0 < xs.length → ∃ z, ys = [z] ∧ Ty.check (d + 1) z = 0 ∧ Sch.inner (.mk k' ys) = z ∧ ∃ u', TLies w u' z ∧ ItemT w q 0 u') := by
    intro hp
    rcases hct with ⟨h6, -⟩ | ⟨h6, z, rfl, hz⟩
    · omega
    · obtain ⟨u', hu1, hu2⟩ := hyi 0 (by simp)
      exact ⟨z, rfl, hz, rfl, u', hu1, hu2⟩
  have HCX := Lib.hid hcx
  clear ih hxi hyi hc hd hct hcs h1 hcx ho o5
  go_enter Tryd.func105, Tryd.ntmps105
  go_wp2_with fail
  rw [← HW0.out]
  clear HW0
  go_loopw [15] (fun v5 wr => ∃ j : Nat, j ≤ xs.length ∧ v5 = .int .i64 j ∧ Hid (Below W0.heap.size W0 wr ∧ ∀ m (h1 : m < xs.length), m < j → Sch.of xs[m] (Sch.inner (.mk k' ys)) = true)) (fun v5 _ => xs.length - (intOf v5).toNat)
  case atStart => exact ⟨0, by omega, rfl, Below.refl _ _, fun m _ h => by omega⟩
  case round =>
    obtain ⟨j, hj, rfl, HL⟩ := hrel
    have hbw : Below w.heap.size w wr := HB0.out.trans (HL.out.1.mono HB0.out.size)
    by_cases hlt : j < xs.length
    · obtain ⟨ux, hvx, hix⟩ := HX.out j hlt
      obtain ⟨z, hys, hz, hin, uy, hvy, hiy⟩ := HT.out (by omega)
      obtain ⟨bx, ox, kx, ix, fx, tx, qx, nx, cx, rfl, _, rfl, a0, a1, a2, a3, a4⟩ := (hix.on hbw).lies
      obtain ⟨by', oy, ky, qy, ny, cy, rfl, _, rfl, b0, b1⟩ := (hiy.on hbw).lies
      rw [Nat.zero_mul, Nat.add_zero] at b0 b1
      have hl1 : ys.length = 1 := by rw [hys]; rfl
      have HC : Hid (∀ w', Below w.heap.size w w' → Calls Tryd.prog 105 #[.agg #[.int .i64 kx, .int .i64 ix, .float .f64 fx, .string tx, .slice qx nx cx], .agg #[.int .i64 ky, .slice qy ny cy]] w' fun e w'' => e = .returned (.bool (Sch.of xs[j] (Sch.inner (.mk k' ys)))) ∧ Below w'.heap.size w' w'') := fun w' hb => by
        rw [hin]
        exact HIH.out _ (List.getElem_mem hlt) z (d + 1) w' _ _ (HCX.out _ (List.getElem_mem hlt)) hz (hvx.on hb) (hvy.on hb)
      have HAll := Lib.hid HL.out.2
      have hj1 : (j : Int) < (xs.length : Int) := by omega
      obtain ⟨r, hr⟩ : ∃ r, r = Sch.of xs[j] (Sch.inner (.mk k' ys)) := ⟨_, rfl⟩
      rw [← hr] at HC
      have HRr := Lib.hid hr
      obtain ⟨wa, hwa⟩ : ∃ wa, wa = wr.alloc (.cells #[.int .i64 kx, .int .i64 ix, .float .f64 fx, .string tx, .slice qx nx cx] 70) := ⟨_, rfl⟩
      have HBa : Hid (Below wr.heap.size wr wa) := by rw [hwa]; exact (Below.refl _ _).alloc (Nat.le_refl _) _
      have HBw : Hid (Below w.heap.size w wa) := hbw.trans (HBa.out.mono hbw.size)
      have HBW : Hid (Below W0.heap.size W0 wa) := HL.out.1.trans (HBa.out.mono HL.out.1.size)
      have HWa := Lib.hid hwa
      have HY4 : Hid (wa.cell? ⟨w.heap.size + 1, 1, none⟩ = some (.slice (some ⟨by', oy, none⟩) 1 e)) := by have := cell_on HBW.out HY0.out; rw [hl1] at this; exact this
      have HBs : Hid (wa.cell? ⟨by', oy, none⟩ = some (.int .i64 ky) ∧ wa.cell? ⟨by', oy + 1, none⟩ = some (.slice qy ny cy)) := ⟨cell_on HBa.out b0, cell_on HBa.out b1⟩
      have HAs : Hid (wa.cell? ⟨wr.heap.size, 0, none⟩ = some (.int .i64 kx) ∧ wa.cell? ⟨wr.heap.size, 1, none⟩ = some (.int .i64 ix) ∧ wa.cell? ⟨wr.heap.size, 2, none⟩ = some (.float .f64 fx) ∧ wa.cell? ⟨wr.heap.size, 3, none⟩ = some (.string tx) ∧ wa.cell? ⟨wr.heap.size, 4, none⟩ = some (.slice qx nx cx)) := by rw [hwa]; exact ⟨by simp, by simp, by simp, by simp, by simp⟩
      clear hvx hvy hix hiy hbw HL hr hin hz hys hl1 hwa b0 b1
      go_wp2_with fail
      rw [← HWa.out]
      obtain ⟨c0, c1, c2, c3, c4⟩ := HAs.out
      obtain ⟨d0, d1⟩ := HBs.out
      have d5 := HY4.out
      clear HAs HBs HY4 HWa a0 a1 a2 a3 a4
      go_region_held3 (fun w' => w'.cell? ⟨wr.heap.size, 0, none⟩ = some (.int .i64 kx) ∧ w'.cell? ⟨wr.heap.size, 1, none⟩ = some (.int .i64 ix) ∧ w'.cell? ⟨wr.heap.size, 2, none⟩ = some (.float .f64 fx) ∧ w'.cell? ⟨wr.heap.size, 3, none⟩ = some (.string tx) ∧ w'.cell? ⟨wr.heap.size, 4, none⟩ = some (.slice qx nx cx) ∧ w'.cell? ⟨by', oy, none⟩ = some (.int .i64 ky) ∧ w'.cell? ⟨by', oy + 1, none⟩ = some (.slice qy ny cy) ∧ w'.cell? ⟨w.heap.size + 1, 1, none⟩ = some (.slice (some ⟨by', oy, none⟩) 1 e)) (go_keep) (first
        | (go_at_call 105; refine (HC.out _ (below_drewN HBw.out _)).mono ?_; rintro e w4 ⟨rfl, hb4⟩; have hb5 := below_via (w := wa) hb4 (by rfl) (by rfl) (by rfl) (by rfl); have z3 := cell_on hb5 c0; have z4 := cell_on hb5 c1; have z5 := cell_on hb5 c2; have z6 := cell_on hb5 c3; have z7 := cell_on hb5 c4; have z8 := cell_on hb5 d0; have z9 := cell_on hb5 d1; have z10 := cell_on hb5 d5; have HB4 := Lib.hid hb5; clear hb4 hb5))
      clear z3 z4 z5 z6 z7 z8 z9 z10 c0 c1 c2 c3 c4 d0 d1 d5
      cases r with
      | true =>
        have HN : Hid (Below W0.heap.size W0 w4 ∧ ∀ m (h1 : m < xs.length), m < j + 1 → Sch.of xs[m] (Sch.inner (.mk k' ys)) = true) := by
          refine ⟨HBW.out.trans (HB4.out.mono HBW.out.size), fun m h1 hm => ?_⟩
          by_cases hmj : m = j
          · subst hmj; exact HRr.out.symm
          · exact HAll.out m h1 (by omega)
        clear HB4 HAll HC
        go_wp2
        go_roundw
        case rel => exact ⟨j + 1, by omega, by go_num, HN⟩
        case measure => simp [intOf]; omega
      | false =>
        have HF0 : Hid (xs.all (fun x => Sch.of x (Sch.inner (.mk k' ys))) = false) := by
          show _ = _
          rw [List.all_eq_false]
          exact ⟨xs[j], List.getElem_mem hlt, by rw [← HRr.out]; decide⟩
        have HF := Lib.hid (HBw.out.trans (HB4.out.mono HBw.out.size))
        clear HB4 HAll HC
        go_wp2
        go_ret
        exact ⟨by rw [HE.out, HF0.out]; rfl, HF.out⟩
    · have HF0 : Hid (xs.all (fun x => Sch.of x (Sch.inner (.mk k' ys))) = true) := by
        show _ = _
        rw [List.all_eq_true]
        intro x hx
        obtain ⟨m, hm, rfl⟩ := List.getElem_of_mem hx
        exact HL.out.2 m hm (by omega)
      have HF := Lib.hid hbw
      have hjn : ¬ (j : Int) < (xs.length : Int) := by omega
      clear HL hbw hlt
      go_wp2
      go_ret
      exact ⟨by rw [HE.out, HF0.out]; rfl, HF.out⟩

end Go.Proofs.YtohgmkgclgoflaaDoor

/- The landed schema: Find, sameColumn, Same. -/
namespace Go.Proofs.YtohgmkgclgoflaaDoor
open Go.RowKit

attribute [local go_sem] run_store_float

set_option maxRecDepth 100000 in
set_option maxHeartbeats 2000000 in
theorem sameColumnK (x y : Col) (w : World) (u v : Array Value) (hu : CLies w u x) (hw : CLies w v y) : Calls Tryd.prog 94 #[.agg u, .agg v] w fun e w' => e = .returned (.bool (Sch.colSame x y)) ∧ Below w.heap.size w w' := by
  obtain ⟨k, tp, tn, tc, vk, vi, vb, vt, vp, vn, vc, rfl, ht, hv⟩ := hu.out
  obtain ⟨k', tp', tn', tc', vk', vi', vb', vt', vp', vn', vc', rfl, ht', hv'⟩ := hw.out
  obtain ⟨nm, ty, has, df⟩ := x
  obtain ⟨nm', ty', has', df'⟩ := y
  dsimp only at ht hv ht' hv'
  unfold cells9
  obtain ⟨W0, hW0⟩ : ∃ W0, W0 = (w.alloc (.cells #[.string nm, .int .i64 k, .slice tp tn tc, .bool has, .int .i64 vk, .int .i64 vi, .float .f64 vb, .string vt, .slice vp vn vc] 72)).alloc (.cells #[.string nm', .int .i64 k', .slice tp' tn' tc', .bool has', .int .i64 vk', .int .i64 vi', .float .f64 vb', .string vt', .slice vp' vn' vc'] 72) := ⟨_, rfl⟩
  have HB0 : Hid (Below w.heap.size w W0) := by rw [hW0]; exact ((Below.refl _ _).alloc (Nat.le_refl _) _).alloc (by simp) _
  have HY : Hid (W0.cell? ⟨w.heap.size, 4, none⟩ = some (.int .i64 vk) ∧ W0.cell? ⟨w.heap.size, 5, none⟩ = some (.int .i64 vi) ∧ W0.cell? ⟨w.heap.size, 6, none⟩ = some (.float .f64 vb) ∧ W0.cell? ⟨w.heap.size, 7, none⟩ = some (.string vt) ∧ W0.cell? ⟨w.heap.size, 8, none⟩ = some (.slice vp vn vc) ∧ W0.cell? ⟨w.heap.size + 1, 4, none⟩ = some (.int .i64 vk') ∧ W0.cell? ⟨w.heap.size + 1, 5, none⟩ = some (.int .i64 vi') ∧ W0.cell? ⟨w.heap.size + 1, 6, none⟩ = some (.float .f64 vb') ∧ W0.cell? ⟨w.heap.size + 1, 7, none⟩ = some (.string vt') ∧ W0.cell? ⟨w.heap.size + 1, 8, none⟩ = some (.slice vp' vn' vc')) := by rw [hW0]; refine ⟨?_, ?_, ?_, ?_, ?_, ?_, ?_, ?_, ?_, ?_⟩ <;> simp
  have HT := Lib.hid (sameTypeK ty ty' W0 _ _ (ht.on HB0.out) (ht'.on HB0.out))
  have HV := Lib.hid (fun w' (hb : Below W0.heap.size W0 w') => sameK df df' w' _ _ ((hv.on HB0.out).on hb) ((hv'.on HB0.out).on hb))
  unfold cells2 at HT
  unfold cells5 at HV
  have HE : Hid (Sch.colSame ⟨nm, ty, has, df⟩ ⟨nm', ty', has', df'⟩ = (decide (nm = nm') && (has == has') && Ty.same ty ty' && V.same df df')) := rfl
  obtain ⟨R, hR⟩ : ∃ R, R = Sch.colSame ⟨nm, ty, has, df⟩ ⟨nm', ty', has', df'⟩ := ⟨_, rfl⟩
  rw [← hR] at HE ⊢
  obtain ⟨r1, hr1⟩ : ∃ r, r = Ty.same ty ty' := ⟨_, rfl⟩
  rw [← hr1] at HT HE
  obtain ⟨r2, hr2⟩ : ∃ r, r = V.same df df' := ⟨_, rfl⟩
  rw [← hr2] at HV HE
  have HW0 := Lib.hid hW0
  clear hW0 ht ht' hv hv' hu hw hR hr1 hr2
  by_cases hn : nm = nm'
  · have gn : (nm.toList == nm'.toList) = true := by rw [text_eq, decide_eq_true hn]
    by_cases hh : has = has'
    · have HE2 : Hid (R = (r1 && r2)) := by show _ = _; rw [HE.out, decide_eq_true hn, hh, beq_self_eq_true, Bool.true_and, Bool.true_and]
      subst hh
      clear hn HE
      have gh : (has == has) = true := by simp
      go_enter Tryd.func94, Tryd.ntmps94
      go_wp2_with fail
      rw [← HW0.out]
      clear HW0
      refine HT.out.mono ?_
      rintro e w1 ⟨rfl, hb1⟩
      have HB1 := Lib.hid hb1
      have HBw := Lib.hid (HB0.out.trans (hb1.mono HB0.out.size))
      clear hb1 HT
      cases r1 with
      | true =>
        obtain ⟨y0, y1, y2, y3, y4, y5, y6, y7, y8, y9⟩ := HY.out
        have c0 := cell_on HB1.out y0
        have c1 := cell_on HB1.out y1
        have c2 := cell_on HB1.out y2
        have c3 := cell_on HB1.out y3
        have c4 := cell_on HB1.out y4
        have c5 := cell_on HB1.out y5
        have c6 := cell_on HB1.out y6
        have c7 := cell_on HB1.out y7
        have c8 := cell_on HB1.out y8
        have c9 := cell_on HB1.out y9
        have HV1 := Lib.hid (HV.out w1 HB1.out)
        clear y0 y1 y2 y3 y4 y5 y6 y7 y8 y9 HY HV
        go_wp2_with fail
        refine HV1.out.mono ?_
        rintro e w2 ⟨rfl, hb2⟩
        have HB2 := Lib.hid (HBw.out.trans (hb2.mono HBw.out.size))
        clear hb2 c0 c1 c2 c3 c4 c5 c6 c7 c8 c9
        go_wp2
        go_ret
        exact ⟨by rw [HE2.out]; rfl, HB2.out⟩
      | false =>
        clear HV HY
        go_wp2
        go_ret
        exact ⟨by rw [HE2.out]; rfl, HBw.out⟩
    · have HE2 : Hid (R = false) := by
        show _ = _
        have hb : (has == has') = false := by (cases has <;> cases has' <;> first | rfl | exact absurd rfl hh)
        rw [HE.out, hb, Bool.and_false, Bool.false_and, Bool.false_and]
      clear HE hn HV HT
      cases has <;> cases has' <;> try exact absurd rfl hh
      all_goals
        clear hh
        go_enter Tryd.func94, Tryd.ntmps94
        go_wp2
        rw [← HW0.out]
        go_ret
        exact ⟨by rw [HE2.out]; rfl, HB0.out⟩
  · have gn : (nm.toList == nm'.toList) = false := by rw [text_eq, decide_eq_false hn]
    have HE2 : Hid (R = false) := by show _ = _; rw [HE.out, decide_eq_false hn, Bool.false_and, Bool.false_and, Bool.false_and]
    clear HE hn HV HT
    go_enter Tryd.func94, Tryd.ntmps94
    go_wp2
    rw [← HW0.out]
    go_ret
    exact ⟨by rw [HE2.out]; rfl, HB0.out⟩

set_option maxRecDepth 100000 in
set_option maxHeartbeats 4000000 in
theorem sameSK (s t : List Col) (p q : Option Addr) (c d : Nat) (w : World) (hs : s.length * 120 ≤ 140737488351232) (hx : Cols w p s) (hy : Cols w q t) :
    Calls Tryd.prog 90 #[.agg #[.slice p s.length c], .agg #[.slice q t.length d]] w fun e w' => e = .returned (.bool (Sch.same s t)) ∧ Below w.heap.size w w' := by
  obtain ⟨W0, hW0⟩ : ∃ W0, W0 = (w.alloc (.cells #[.slice p s.length c] 28)).alloc (.cells #[.slice q t.length d] 28) := ⟨_, rfl⟩
  have HB0 : Hid (Below w.heap.size w W0) := by rw [hW0]; exact ((Below.refl _ _).alloc (Nat.le_refl _) _).alloc (by simp) _
  have HY0 : Hid (W0.cell? ⟨w.heap.size, 0, none⟩ = some (.slice p s.length c) ∧ W0.cell? ⟨w.heap.size + 1, 0, none⟩ = some (.slice q t.length d)) := by rw [hW0]; exact ⟨by simp, by simp⟩
  have HW0 := Lib.hid hW0
  have HX := Lib.hid hx
  have HY := Lib.hid hy
  clear hW0 hx hy
  by_cases h5 : ¬ s.length = t.length
  · have g5 : ((s.length : Int) != (t.length : Int)) = true := bne_t (by omega)
    have HE := Lib.hid (sameS_ne s t h5)
    clear h5
    go_enter Tryd.func90, Tryd.ntmps90
    go_wp2
    rw [← HW0.out]
    go_ret
    exact ⟨by rw [HE.out]; rfl, HB0.out⟩
  replace h5 : s.length = t.length := Classical.not_not.1 h5
  have g5 : ((s.length : Int) != (t.length : Int)) = false := bne_f (by omega)
  have H5 := Lib.hid h5
  clear h5
  go_enter Tryd.func90, Tryd.ntmps90
  go_wp2_with fail
  rw [← HW0.out]
  clear HW0
  go_loopw [17] (fun v5 wr => ∃ j : Nat, j ≤ s.length ∧ v5 = .int .i64 j ∧ Hid (Below W0.heap.size W0 wr ∧ ∀ m (h1 : m < s.length) (h2 : m < t.length), m < j → Sch.colSame s[m] t[m] = true)) (fun v5 _ => s.length - (intOf v5).toNat)
  case atStart => exact ⟨0, by omega, rfl, Below.refl _ _, fun m _ _ h => by omega⟩
  case round =>
    obtain ⟨j, hj, rfl, HL⟩ := hrel
    have hbw : Below w.heap.size w wr := HB0.out.trans (HL.out.1.mono HB0.out.size)
    by_cases hlt : j < s.length
    · have hlt2 : j < t.length := by have := H5.out; omega
      obtain ⟨bx, ox, k, tp, tn, tc, vk, vi, vb, vt, vp, vn, vc, rfl, _, hx9, htx, hvx⟩ := (HX.out.on hbw).at j hlt
      obtain ⟨by', oy, k', tp', tn', tc', vk', vi', vb', vt', vp', vn', vc', rfl, _, hy9, hty, hvy⟩ := (HY.out.on hbw).at j hlt2
      have HC : Hid (∀ w', Below wr.heap.size wr w' → Calls Tryd.prog 94 #[.agg (cells9 s[j].name k tp tn tc s[j].has vk vi vb vt vp vn vc), .agg (cells9 t[j].name k' tp' tn' tc' t[j].has vk' vi' vb' vt' vp' vn' vc')] w' fun e w'' => e = .returned (.bool (Sch.colSame s[j] t[j])) ∧ Below w'.heap.size w' w'') :=
        fun w' hb => sameColumnK s[j] t[j] w' _ _ ⟨k, tp, tn, tc, vk, vi, vb, vt, vp, vn, vc, rfl, htx.on hb, hvx.on hb⟩ ⟨k', tp', tn', tc', vk', vi', vb', vt', vp', vn', vc', rfl, hty.on hb, hvy.on hb⟩
      unfold cells9 at HC
      have HAll := Lib.hid HL.out.2
      have hj1 : (j : Int) < (s.length : Int) := by omega
      have hj2 : (j : Int) < (t.length : Int) := by omega
      obtain ⟨r, hr⟩ : ∃ r, r = Sch.colSame s[j] t[j] := ⟨_, rfl⟩
      rw [← hr] at HC
      have HRr := Lib.hid hr
      clear hr htx hvx hty hvy
      have HBr := Lib.hid HL.out.1
      clear HL
      obtain ⟨nx, hnx⟩ : ∃ n, n = s[j].name := ⟨_, rfl⟩
      obtain ⟨hx, hhx⟩ : ∃ n, n = s[j].has := ⟨_, rfl⟩
      obtain ⟨ny, hny⟩ : ∃ n, n = t[j].name := ⟨_, rfl⟩
      obtain ⟨hy, hhy⟩ : ∃ n, n = t[j].has := ⟨_, rfl⟩
      rw [← hnx, ← hhx] at hx9 HC
      rw [← hny, ← hhy] at hy9 HC
      clear hnx hhx hny hhy
      obtain ⟨a0, a1, a2, a3, a4, a5, a6, a7, a8⟩ := hx9
      obtain ⟨wa, hwa⟩ : ∃ wa, wa = wr.alloc (.cells #[.string nx, .int .i64 k, .slice tp tn tc, .bool hx, .int .i64 vk, .int .i64 vi, .float .f64 vb, .string vt, .slice vp vn vc] 72) := ⟨_, rfl⟩
      have HBa : Hid (Below wr.heap.size wr wa) := by rw [hwa]; exact (Below.refl _ _).alloc (Nat.le_refl _) _
      have HBw : Hid (Below w.heap.size w wa) := hbw.trans (HBa.out.mono hbw.size)
      have HBW : Hid (Below W0.heap.size W0 wa) := HBr.out.trans (HBa.out.mono HBr.out.size)
      have HWa := Lib.hid hwa
      have HY4 : Hid (wa.cell? ⟨w.heap.size + 1, 0, none⟩ = some (.slice (some ⟨by', oy, none⟩) t.length d)) := cell_on HBW.out HY0.out.2
      have HBs := Lib.hid (hy9.on HBa.out)
      have HAs : Hid (wa.cell? ⟨wr.heap.size, 0, none⟩ = some (.string nx) ∧ wa.cell? ⟨wr.heap.size, 1, none⟩ = some (.int .i64 k) ∧ wa.cell? ⟨wr.heap.size, 2, none⟩ = some (.slice tp tn tc) ∧ wa.cell? ⟨wr.heap.size, 3, none⟩ = some (.bool hx) ∧ wa.cell? ⟨wr.heap.size, 4, none⟩ = some (.int .i64 vk) ∧ wa.cell? ⟨wr.heap.size, 5, none⟩ = some (.int .i64 vi) ∧ wa.cell? ⟨wr.heap.size, 6, none⟩ = some (.float .f64 vb) ∧ wa.cell? ⟨wr.heap.size, 7, none⟩ = some (.string vt) ∧ wa.cell? ⟨wr.heap.size, 8, none⟩ = some (.slice vp vn vc)) := by rw [hwa]; refine ⟨?_, ?_, ?_, ?_, ?_, ?_, ?_, ?_, ?_⟩ <;> simp
      clear hbw hwa hy9
      go_wp2_with fail
      rw [← HWa.out]
      obtain ⟨c0, c1, c2, c3, c4, c5, c6, c7, c8⟩ := HAs.out
      obtain ⟨d0, d1, d2, d3, d4, d5, d6, d7, d8⟩ := HBs.out
      have d9 := HY4.out
      clear HAs HBs HY4 HWa a0 a1 a2 a3 a4 a5 a6 a7 a8
      go_region_held3 (fun w' => w'.cell? ⟨wr.heap.size, 0, none⟩ = some (.string nx) ∧ w'.cell? ⟨wr.heap.size, 1, none⟩ = some (.int .i64 k) ∧ w'.cell? ⟨wr.heap.size, 2, none⟩ = some (.slice tp tn tc) ∧ w'.cell? ⟨wr.heap.size, 3, none⟩ = some (.bool hx) ∧ w'.cell? ⟨wr.heap.size, 4, none⟩ = some (.int .i64 vk) ∧ w'.cell? ⟨wr.heap.size, 5, none⟩ = some (.int .i64 vi) ∧ w'.cell? ⟨wr.heap.size, 6, none⟩ = some (.float .f64 vb) ∧ w'.cell? ⟨wr.heap.size, 7, none⟩ = some (.string vt) ∧ w'.cell? ⟨wr.heap.size, 8, none⟩ = some (.slice vp vn vc) ∧ w'.cell? ⟨by', oy + j * 9, none⟩ = some (.string ny) ∧ w'.cell? ⟨by', oy + j * 9 + 1, none⟩ = some (.int .i64 k') ∧ w'.cell? ⟨by', oy + j * 9 + 2, none⟩ = some (.slice tp' tn' tc') ∧ w'.cell? ⟨by', oy + j * 9 + 3, none⟩ = some (.bool hy) ∧ w'.cell? ⟨by', oy + j * 9 + 4, none⟩ = some (.int .i64 vk') ∧ w'.cell? ⟨by', oy + j * 9 + 5, none⟩ = some (.int .i64 vi') ∧ w'.cell? ⟨by', oy + j * 9 + 6, none⟩ = some (.float .f64 vb') ∧ w'.cell? ⟨by', oy + j * 9 + 7, none⟩ = some (.string vt') ∧ w'.cell? ⟨by', oy + j * 9 + 8, none⟩ = some (.slice vp' vn' vc') ∧ w'.cell? ⟨w.heap.size + 1, 0, none⟩ = some (.slice (some ⟨by', oy, none⟩) t.length d)) (go_keep) (first
        | (go_at_call 94; refine (HC.out _ (below_drewN HBa.out _)).mono ?_; rintro e w4 ⟨rfl, hb4⟩; have hb5 := below_via (w := wa) hb4 (by rfl) (by rfl) (by rfl) (by rfl); have z0 := cell_on hb5 c0; have z1 := cell_on hb5 c1; have z2 := cell_on hb5 c2; have z3 := cell_on hb5 c3; have z4 := cell_on hb5 c4; have z5 := cell_on hb5 c5; have z6 := cell_on hb5 c6; have z7 := cell_on hb5 c7; have z8 := cell_on hb5 c8; have y0 := cell_on hb5 d0; have y1 := cell_on hb5 d1; have y2 := cell_on hb5 d2; have y3 := cell_on hb5 d3; have y4 := cell_on hb5 d4; have y5 := cell_on hb5 d5; have y6 := cell_on hb5 d6; have y7 := cell_on hb5 d7; have y8 := cell_on hb5 d8; have y9 := cell_on hb5 d9; have HB4 := Lib.hid hb5; clear hb4 hb5))
      clear z0 z1 z2 z3 z4 z5 z6 z7 z8 y0 y1 y2 y3 y4 y5 y6 y7 y8 y9 c0 c1 c2 c3 c4 c5 c6 c7 c8 d0 d1 d2 d3 d4 d5 d6 d7 d8 d9
      cases r with
      | true =>
        have HN : Hid (Below W0.heap.size W0 w4 ∧ ∀ m (h1 : m < s.length) (h2 : m < t.length), m < j + 1 → Sch.colSame s[m] t[m] = true) := by
          refine ⟨HBW.out.trans (HB4.out.mono HBW.out.size), fun m h1 h2 hm => ?_⟩
          by_cases hmj : m = j
          · subst hmj; exact HRr.out.symm
          · exact HAll.out m h1 h2 (by omega)
        clear HB4 HAll HC
        go_wp2
        go_roundw
        case rel => exact ⟨j + 1, by omega, by go_num, HN⟩
        case measure => simp [intOf]; omega
      | false =>
        have HF0 : Hid (Sch.same s t = false) := sameS_at s t j hlt hlt2 HRr.out.symm
        have HF := Lib.hid (HBw.out.trans (HB4.out.mono HBw.out.size))
        clear HB4 HAll HC
        go_wp2
        go_ret
        exact ⟨by rw [HF0.out]; rfl, HF.out⟩
    · have HF0 : Hid (Sch.same s t = true) := sameS_all s t H5.out (fun m h1 h2 => HL.out.2 m h1 h2 (by omega))
      have HF := Lib.hid hbw
      have hjn : ¬ (j : Int) < (s.length : Int) := by omega
      clear HL hbw hlt
      go_wp2
      go_ret
      exact ⟨by rw [HF0.out]; rfl, HF.out⟩
end Go.Proofs.YtohgmkgclgoflaaDoor

/- Names in a map: which of them are there. -/
namespace Go.Proofs.YtohgmkgclgoflaaDoor
open Go.RowKit Go.Maps

theorem lawS : Keyed Tryd.prog 9 := string_keyed Tryd.underlying9
theorem zeroI (w : World) : (zeroValue 3).run Tryd.prog w = .ok (.int .i64 0) w := by kernel_rfl
/-- what a name reads as -/
def keyL (t : ByteArray) : Lit := .string t.data.toList
theorem keyL_inj {a b : ByteArray} (h : keyL a = keyL b) : a = b := by
  unfold keyL at h
  injection h with h
  obtain ⟨⟨a⟩⟩ := a
  obtain ⟨⟨b⟩⟩ := b
  simp_all
theorem keyL_of {t : ByteArray} (h : t.size ≤ 140737488351232) : keyOf Tryd.prog 9 (.string t) = some (keyL t) := Go.WideMaps.keyOf_string_mk Tryd.underlying9 (by unfold maxLen; omega)

/-- block M is a map whose keys are the columns' names -/
structure Named (w : World) (M n : Nat) (l : List Col) : Prop where
  out : ∃ D : DataW Unit, w.ownsMap Tryd.prog 9 (plainElem Tryd.prog 3) M n D ∧ ∀ t : ByteArray, has D (keyL t) = l.any (fun x => decide (x.name = t))
theorem named_made (w : World) : Named (w.alloc (.map #[] 0)) w.heap.size 0 [] := ⟨.map [], World.ownsMap_made _ _ _ _, fun _ => rfl⟩
theorem Named.lt {w : World} {M n : Nat} {l : List Col} (h : Named w M n l) : M < w.heap.size := by
  obtain ⟨D, h1, _⟩ := h.out
  exact h1.lt
theorem Named.keep {w w' : World} {M n : Nat} {l : List Col} (h : Named w M n l) (hb : w'.heap[M]? = w.heap[M]?) : Named w' M n l := by
  obtain ⟨D, ⟨es, clock, h1, h2⟩, h3⟩ := h.out
  exact ⟨D, ⟨es, clock, hb.trans h1, h2⟩, h3⟩
theorem has_put {D : DataW Unit} {P : Program} {k : TypeId} {R : Value → Option (DataW Unit × List MemPlace)} {w : World} {M n : Nat} {l : List Col} (hm : w.ownsMap P k R M n D) (h : ∀ t : ByteArray, has D (keyL t) = l.any (fun x => decide (x.name = t))) (c : Col) (d : DataW Unit) (t : ByteArray) :
    has (D.put (keyL c.name) d) (keyL t) = (l ++ [c]).any (fun x => decide (x.name = t)) := by
  rw [List.any_append]
  by_cases hc : c.name = t
  · subst hc
    rw [has_put_same hm.isMap (by trivial)]
    simp
  · rw [has_put_other (fun e => hc (keyL_inj e).symm), h t]
    simp [hc]
end Go.Proofs.YtohgmkgclgoflaaDoor
