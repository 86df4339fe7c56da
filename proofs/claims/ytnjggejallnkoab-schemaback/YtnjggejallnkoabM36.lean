/- K7B, K7C: put together. -/
import Derived.Test.YtnjggejallnkoabM13
import Derived.Test.YtnjggejallnkoabM05
import Derived.Test.YtnjggejallnkoabM35
import Derived.Test.YtnjggejallnkoabM14
import Derived.Test.YtnjggejallnkoabM34

/- The landed schema: SameType. -/
namespace Go.Proofs.Ytnjggejallnkoab
open Go.RowKit

set_option maxRecDepth 100000 in
set_option maxHeartbeats 1000000 in
theorem sameTypeK : ∀ (x y : Ty) (w : World) (u v : Array Value), TLies w u x → TLies w v y → Calls Try.prog 57 #[.agg u, .agg v] w fun e w' => e = .returned (.bool (Ty.same x y)) ∧ Below w.heap.size w w' := by
  intro x
  refine Ty.ind (P := fun x => ∀ (y : Ty) (w : World) (u v : Array Value), TLies w u x → TLies w v y → Calls Try.prog 57 #[.agg u, .agg v] w fun e w' => e = .returned (.bool (Ty.same x y)) ∧ Below w.heap.size w w') ?_ x
  rintro k xs ih ⟨k', ys⟩ w u v hx hy
  obtain ⟨p, c, rfl, hxl, hxc, hxi⟩ := hx.open
  obtain ⟨q, d, rfl, hyl, hyc, hyi⟩ := hy.open
  unfold cells2
  obtain ⟨W0, hW0⟩ : ∃ W0, W0 = (w.alloc (.cells #[.int .i64 k, .slice p xs.length c] 42)).alloc (.cells #[.int .i64 k', .slice q ys.length d] 42) := ⟨_, rfl⟩
  have HB0 : Hid (Below w.heap.size w W0) := by rw [hW0]; exact ((Below.refl _ _).alloc (Nat.le_refl _) _).alloc (by simp) _
  have HY0 : Hid (W0.cell? ⟨w.heap.size, 1, none⟩ = some (.slice p xs.length c) ∧ W0.cell? ⟨w.heap.size + 1, 1, none⟩ = some (.slice q ys.length d)) := by rw [hW0]; exact ⟨by simp, by simp⟩
  have HW0 := Lib.hid hW0
  clear hW0 hx hy
  by_cases h1 : ¬ k = k'
  · have g1 := bne_t h1
    have HE : Hid (Ty.same (.mk k xs) (.mk k' ys) = false) := by show _ = _; simp [Ty.same_mk, h1]
    clear ih hxi hyi h1
    go_enter Try.func57, Try.ntmps57
    go_wp2
    rw [← HW0.out]
    go_ret
    exact ⟨by rw [HE.out]; rfl, HB0.out⟩
  replace h1 : k = k' := Classical.not_not.1 h1
  have g1 := bne_f h1
  by_cases h5 : ¬ xs.length = ys.length
  · have g5 : ((xs.length : Int) != (ys.length : Int)) = true := bne_t (by omega)
    have HE : Hid (Ty.same (.mk k xs) (.mk k' ys) = false) := by show _ = _; simp [Ty.same_mk, Ty.sameL_ne xs ys h5]
    clear ih hxi hyi h1 h5
    go_enter Try.func57, Try.ntmps57
    go_wp2
    rw [← HW0.out]
    go_ret
    exact ⟨by rw [HE.out]; rfl, HB0.out⟩
  replace h5 : xs.length = ys.length := Classical.not_not.1 h5
  have g5 : ((xs.length : Int) != (ys.length : Int)) = false := bne_f (by omega)
  have HE : Hid (Ty.same (.mk k xs) (.mk k' ys) = Ty.sameL xs ys) := by show _ = _; simp [Ty.same_mk, h1]
  have HX : Hid (∀ j (hj : j < xs.length), ∃ u', TLies w u' xs[j] ∧ ItemT w p j u') := hxi
  have HY2 : Hid (∀ j (hj : j < ys.length), ∃ u', TLies w u' ys[j] ∧ ItemT w q j u') := hyi
  have HIH := Lib.hid ih
  have H5 := Lib.hid h5
  clear ih hxi hyi h1 h5
  go_enter Try.func57, Try.ntmps57
  go_wp2_with fail
  rw [← HW0.out]
  clear HW0
  go_loopw [24] (fun v44 wr => ∃ j : Nat, j ≤ xs.length ∧ v44 = .int .i64 j ∧ Hid (Below W0.heap.size W0 wr ∧ ∀ m (h1 : m < xs.length) (h2 : m < ys.length), m < j → Ty.same xs[m] ys[m] = true)) (fun v44 _ => xs.length - (intOf v44).toNat)
  case atStart => exact ⟨0, by omega, rfl, Below.refl _ _, fun m _ _ h => by omega⟩
  case round =>
    obtain ⟨j, hj, rfl, HL⟩ := hrel
    have hbw : Below w.heap.size w wr := HB0.out.trans (HL.out.1.mono HB0.out.size)
    by_cases hlt : j < xs.length
    · have hlt2 : j < ys.length := by have := H5.out; omega
      obtain ⟨ux, hvx, hix⟩ := HX.out j hlt
      obtain ⟨uy, hvy, hiy⟩ := HY2.out j hlt2
      obtain ⟨bx, ox, kx, qx, nx, cx, rfl, _, rfl, a0, a1⟩ := (hix.on hbw).lies
      obtain ⟨by', oy, ky, qy, ny, cy, rfl, _, rfl, b0, b1⟩ := (hiy.on hbw).lies
      have HC : Hid (∀ w', Below w.heap.size w w' → Calls Try.prog 57 #[.agg #[.int .i64 kx, .slice qx nx cx], .agg #[.int .i64 ky, .slice qy ny cy]] w' fun e w'' => e = .returned (.bool (Ty.same xs[j] ys[j])) ∧ Below w'.heap.size w' w'') :=
        fun w' hb => HIH.out _ (List.getElem_mem hlt) ys[j] w' _ _ (hvx.on hb) (hvy.on hb)
      have HAll := Lib.hid HL.out.2
      have hj1 : (j : Int) < (xs.length : Int) := by omega
      have hj2 : (j : Int) < (ys.length : Int) := by omega
      obtain ⟨r, hr⟩ : ∃ r, r = Ty.same xs[j] ys[j] := ⟨_, rfl⟩
      rw [← hr] at HC
      have HRr := Lib.hid hr
      obtain ⟨wa, hwa⟩ : ∃ wa, wa = wr.alloc (.cells #[.int .i64 kx, .slice qx nx cx] 42) := ⟨_, rfl⟩
      have HBa : Hid (Below wr.heap.size wr wa) := by rw [hwa]; exact (Below.refl _ _).alloc (Nat.le_refl _) _
      have HBw : Hid (Below w.heap.size w wa) := hbw.trans (HBa.out.mono hbw.size)
      have HBW : Hid (Below W0.heap.size W0 wa) := HL.out.1.trans (HBa.out.mono HL.out.1.size)
      have HWa := Lib.hid hwa
      have HY4 : Hid (wa.cell? ⟨w.heap.size + 1, 1, none⟩ = some (.slice (some ⟨by', oy, none⟩) ys.length d)) := cell_on HBW.out HY0.out.2
      have HBs : Hid (wa.cell? ⟨by', oy + j * 2, none⟩ = some (.int .i64 ky) ∧ wa.cell? ⟨by', oy + j * 2 + 1, none⟩ = some (.slice qy ny cy)) := ⟨cell_on HBa.out b0, cell_on HBa.out b1⟩
      have HAs : Hid (wa.cell? ⟨wr.heap.size, 0, none⟩ = some (.int .i64 kx) ∧ wa.cell? ⟨wr.heap.size, 1, none⟩ = some (.slice qx nx cx)) := by rw [hwa]; exact ⟨by simp, by simp⟩
      clear hvx hvy hix hiy hbw HL hr hwa b0 b1
      go_wp2_with fail
      rw [← HWa.out]
      obtain ⟨c0, c1⟩ := HAs.out
      obtain ⟨d0, d1⟩ := HBs.out
      have d5 := HY4.out
      clear HAs HBs HY4 HWa a0 a1
      go_region_held3 (fun w' => w'.cell? ⟨wr.heap.size, 0, none⟩ = some (.int .i64 kx) ∧ w'.cell? ⟨wr.heap.size, 1, none⟩ = some (.slice qx nx cx) ∧ w'.cell? ⟨by', oy + j * 2, none⟩ = some (.int .i64 ky) ∧ w'.cell? ⟨by', oy + j * 2 + 1, none⟩ = some (.slice qy ny cy) ∧ w'.cell? ⟨w.heap.size + 1, 1, none⟩ = some (.slice (some ⟨by', oy, none⟩) ys.length d)) (go_keep) (first
        | (go_at_call 57; refine (HC.out _ (below_drewN HBw.out _)).mono ?_; rintro e w4 ⟨rfl, hb4⟩; have hb5 := below_via (w := wa) hb4 (by rfl) (by rfl) (by rfl) (by rfl); have z3 := cell_on hb5 c0; have z4 := cell_on hb5 c1; have z5 := cell_on hb5 d0; have z6 := cell_on hb5 d1; have z7 := cell_on hb5 d5; have HB4 := Lib.hid hb5; clear hb4 hb5))
      clear z3 z4 z5 z6 z7 c0 c1 d0 d1 d5
      cases r with
      | true =>
        have HN : Hid (Below W0.heap.size W0 w4 ∧ ∀ m (h1 : m < xs.length) (h2 : m < ys.length), m < j + 1 → Ty.same xs[m] ys[m] = true) := by
          refine ⟨HBW.out.trans (HB4.out.mono HBW.out.size), fun m h1 h2 hm => ?_⟩
          by_cases hmj : m = j
          · subst hmj; exact HRr.out.symm
          · exact HAll.out m h1 h2 (by omega)
        clear HB4 HAll HC
        go_wp2
        go_roundw
        case rel => exact ⟨j + 1, by omega, by go_num, HN⟩
        case measure => simp [intOf]; omega
      | false =>
        have HF0 : Hid (Ty.sameL xs ys = false) := Ty.sameL_at xs ys j hlt hlt2 HRr.out.symm
        have HF := Lib.hid (HBw.out.trans (HB4.out.mono HBw.out.size))
        clear HB4 HAll HC
        go_wp2
        go_ret
        exact ⟨by rw [HE.out, HF0.out]; rfl, HF.out⟩
    · have HF0 : Hid (Ty.sameL xs ys = true) := Ty.sameL_all xs ys H5.out (fun m h1 h2 => HL.out.2 m h1 h2 (by omega))
      have HF := Lib.hid hbw
      have hjn : ¬ (j : Int) < (xs.length : Int) := by omega
      clear HL hbw hlt
      go_wp2
      go_ret
      exact ⟨by rw [HE.out, HF0.out]; rfl, HF.out⟩
end Go.Proofs.Ytnjggejallnkoab

/- The landed schema: isOf, Is. -/
namespace Go.Proofs.Ytnjggejallnkoab
open Go.RowKit

attribute [local go_sem] run_store_float

set_option maxRecDepth 100000 in
set_option maxHeartbeats 1000000 in
theorem isOfK : ∀ (x : V) (y : Ty) (d : Nat) (w : World) (u v : Array Value), chk d x = 0 → Ty.check d y = 0 → VLies w u x → TLies w v y → Calls Try.prog 63 #[.agg u, .agg v] w fun e w' => e = .returned (.bool (Sch.of x y)) ∧ Below w.heap.size w w' := by
  intro x
  refine V.ind (P := fun x => ∀ (y : Ty) (d : Nat) (w : World) (u v : Array Value), chk d x = 0 → Ty.check d y = 0 → VLies w u x → TLies w v y → Calls Try.prog 63 #[.agg u, .agg v] w fun e w' => e = .returned (.bool (Sch.of x y)) ∧ Below w.heap.size w w') ?_ x
  rintro k i b t xs ih ⟨k', ys⟩ d w u v hc hd hx hy
  obtain ⟨p, c, rfl, hxl, hxc, hxi⟩ := hx.open
  obtain ⟨q, e, rfl, hyl, hyc, hyi⟩ := hy.open
  unfold cells5 cells2
  obtain ⟨W0, hW0⟩ : ∃ W0, W0 = (w.alloc (.cells #[.int .i64 k, .int .i64 i, .float .f64 b, .string t, .slice p xs.length c] 46)).alloc (.cells #[.int .i64 k', .slice q ys.length e] 42) := ⟨_, rfl⟩
  have HB0 : Hid (Below w.heap.size w W0) := by rw [hW0]; exact ((Below.refl _ _).alloc (Nat.le_refl _) _).alloc (by simp) _
  have HY0 : Hid (W0.cell? ⟨w.heap.size + 1, 1, none⟩ = some (.slice q ys.length e)) := by show _ = _; rw [hW0]; simp
  have HW0 := Lib.hid hW0
  clear hW0 hx hy
  by_cases h1 : ¬ k = k'
  · have g1 := bne_t h1
    have HE : Hid (Sch.of (.mk k i b t xs) (.mk k' ys) = false) := by show _ = _; rw [Sch.of_mk, beq_f h1, Bool.false_and]
    clear ih hxi hyi h1 hc hd
    go_enter Try.func63, Try.ntmps63
    go_wp2
    rw [← HW0.out]
    go_ret
    exact ⟨by rw [HE.out]; rfl, HB0.out⟩
  replace h1 : k = k' := Classical.not_not.1 h1
  have g1 := bne_f h1
  have HE : Hid (Sch.of (.mk k i b t xs) (.mk k' ys) = xs.all (fun x => Sch.of x (Sch.inner (.mk k' ys)))) := by show _ = _; rw [Sch.of_mk, beq_t h1, Bool.true_and]
  obtain ⟨hd4, hcs, hct⟩ := Sch.ty_open hd
  obtain ⟨-, ho, -, hn, -, hcx⟩ := Sch.chk_open hc
  obtain ⟨-, -, -, -, o5, -⟩ := Sch.own_open ho
  have HX : Hid (Items w p xs) := hxi
  have HIH := Lib.hid ih
  -- what the type is of, where there are items
  have HT : Hid (0 < xs.length → ∃ z, ys = [z] ∧ Ty.check (d + 1) z = 0 ∧ Sch.inner (.mk k' ys) = z ∧ ∃ u', TLies w u' z ∧ ItemT w q 0 u') := by
    intro hp
    rcases hct with ⟨h6, -⟩ | ⟨h6, z, rfl, hz⟩
    · omega
    · obtain ⟨u', hu1, hu2⟩ := hyi 0 (by simp)
      exact ⟨z, rfl, hz, rfl, u', hu1, hu2⟩
  have HCX := Lib.hid hcx
  clear ih hxi hyi hc hd hct hcs h1 hcx ho o5
  go_enter Try.func63, Try.ntmps63
  go_wp2_with fail
  rw [← HW0.out]
  clear HW0
  go_loopw [15] (fun v5 wr => ∃ j : Nat, j ≤ xs.length ∧ v5 = .int .i64 j ∧ Hid (Below W0.heap.size W0 wr ∧ ∀ m (h1 : m < xs.length), m < j → Sch.of xs[m] (Sch.inner (.mk k' ys)) = true)) (fun v5 _ => xs.length - (intOf v5).toNat)
  case atStart => exact ⟨0, by omega, rfl, Below.refl _ _, fun m _ h => by omega⟩
  case round =>
    obtain ⟨j, hj, rfl, HL⟩ := hrel
    have hbw : Below w.heap.size w wr := HB0.out.trans (HL.out.1.mono HB0.out.size)
    by_cases hlt : j < xs.length
    · obtain ⟨ux, hvx, hix⟩ := HX.out j hlt
      obtain ⟨z, hys, hz, hin, uy, hvy, hiy⟩ := HT.out (by omega)
      obtain ⟨bx, ox, kx, ix, fx, tx, qx, nx, cx, rfl, _, rfl, a0, a1, a2, a3, a4⟩ := (hix.on hbw).lies
      obtain ⟨by', oy, ky, qy, ny, cy, rfl, _, rfl, b0, b1⟩ := (hiy.on hbw).lies
      rw [Nat.zero_mul, Nat.add_zero] at b0 b1
      have hl1 : ys.length = 1 := by rw [hys]; rfl
      have HC : Hid (∀ w', Below w.heap.size w w' → Calls Try.prog 63 #[.agg #[.int .i64 kx, .int .i64 ix, .float .f64 fx, .string tx, .slice qx nx cx], .agg #[.int .i64 ky, .slice qy ny cy]] w' fun e w'' => e = .returned (.bool (Sch.of xs[j] (Sch.inner (.mk k' ys)))) ∧ Below w'.heap.size w' w'') := fun w' hb => by
        rw [hin]
        exact HIH.out _ (List.getElem_mem hlt) z (d + 1) w' _ _ (HCX.out _ (List.getElem_mem hlt)) hz (hvx.on hb) (hvy.on hb)
      have HAll := Lib.hid HL.out.2
      have hj1 : (j : Int) < (xs.length : Int) := by omega
      obtain ⟨r, hr⟩ : ∃ r, r = Sch.of xs[j] (Sch.inner (.mk k' ys)) := ⟨_, rfl⟩
      rw [← hr] at HC
      have HRr := Lib.hid hr
      obtain ⟨wa, hwa⟩ : ∃ wa, wa = wr.alloc (.cells #[.int .i64 kx, .int .i64 ix, .float .f64 fx, .string tx, .slice qx nx cx] 46) := ⟨_, rfl⟩
      have HBa : Hid (Below wr.heap.size wr wa) := by rw [hwa]; exact (Below.refl _ _).alloc (Nat.le_refl _) _
      have HBw : Hid (Below w.heap.size w wa) := hbw.trans (HBa.out.mono hbw.size)
      have HBW : Hid (Below W0.heap.size W0 wa) := HL.out.1.trans (HBa.out.mono HL.out.1.size)
      have HWa := Lib.hid hwa
      have HY4 : Hid (wa.cell? ⟨w.heap.size + 1, 1, none⟩ = some (.slice (some ⟨by', oy, none⟩) 1 e)) := by have := cell_on HBW.out HY0.out; rw [hl1] at this; exact this
      have HBs : Hid (wa.cell? ⟨by', oy, none⟩ = some (.int .i64 ky) ∧ wa.cell? ⟨by', oy + 1, none⟩ = some (.slice qy ny cy)) := ⟨cell_on HBa.out b0, cell_on HBa.out b1⟩
      have HAs : Hid (wa.cell? ⟨wr.heap.size, 0, none⟩ = some (.int .i64 kx) ∧ wa.cell? ⟨wr.heap.size, 1, none⟩ = some (.int .i64 ix) ∧ wa.cell? ⟨wr.heap.size, 2, none⟩ = some (.float .f64 fx) ∧ wa.cell? ⟨wr.heap.size, 3, none⟩ = some (.string tx) ∧ wa.cell? ⟨wr.heap.size, 4, none⟩ = some (.slice qx nx cx)) := by rw [hwa]; exact ⟨by simp, by simp, by simp, by simp, by simp⟩
      clear hvx hvy hix hiy hbw HL hr hin hz hys hl1 hwa b0 b1
      go_wp2_with fail
      rw [← HWa.out]
      obtain ⟨c0, c1, c2, c3, c4⟩ := HAs.out
      obtain ⟨d0, d1⟩ := HBs.out
      have d5 := HY4.out
      clear HAs HBs HY4 HWa a0 a1 a2 a3 a4
      go_region_held3 (fun w' => w'.cell? ⟨wr.heap.size, 0, none⟩ = some (.int .i64 kx) ∧ w'.cell? ⟨wr.heap.size, 1, none⟩ = some (.int .i64 ix) ∧ w'.cell? ⟨wr.heap.size, 2, none⟩ = some (.float .f64 fx) ∧ w'.cell? ⟨wr.heap.size, 3, none⟩ = some (.string tx) ∧ w'.cell? ⟨wr.heap.size, 4, none⟩ = some (.slice qx nx cx) ∧ w'.cell? ⟨by', oy, none⟩ = some (.int .i64 ky) ∧ w'.cell? ⟨by', oy + 1, none⟩ = some (.slice qy ny cy) ∧ w'.cell? ⟨w.heap.size + 1, 1, none⟩ = some (.slice (some ⟨by', oy, none⟩) 1 e)) (go_keep) (first
        | (go_at_call 63; refine (HC.out _ (below_drewN HBw.out _)).mono ?_; rintro e w4 ⟨rfl, hb4⟩; have hb5 := below_via (w := wa) hb4 (by rfl) (by rfl) (by rfl) (by rfl); have z3 := cell_on hb5 c0; have z4 := cell_on hb5 c1; have z5 := cell_on hb5 c2; have z6 := cell_on hb5 c3; have z7 := cell_on hb5 c4; have z8 := cell_on hb5 d0; have z9 := cell_on hb5 d1; have z10 := cell_on hb5 d5; have HB4 := Lib.hid hb5; clear hb4 hb5))
      clear z3 z4 z5 z6 z7 z8 z9 z10 c0 c1 c2 c3 c4 d0 d1 d5
      cases r with
      | true =>
        have HN : Hid (Below W0.heap.size W0 w4 ∧ ∀ m (h1 : m < xs.length), m < j + 1 → Sch.of xs[m] (Sch.inner (.mk k' ys)) = true) := by
          refine ⟨HBW.out.trans (HB4.out.mono HBW.out.size), fun m h1 hm => ?_⟩
          by_cases hmj : m = j
          · subst hmj; exact HRr.out.symm
          · exact HAll.out m h1 (by omega)
        clear HB4 HAll HC
        go_wp2
        go_roundw
        case rel => exact ⟨j + 1, by omega, by go_num, HN⟩
        case measure => simp [intOf]; omega
      | false =>
        have HF0 : Hid (xs.all (fun x => Sch.of x (Sch.inner (.mk k' ys))) = false) := by
          show _ = _
          rw [List.all_eq_false]
          exact ⟨xs[j], List.getElem_mem hlt, by rw [← HRr.out]; decide⟩
        have HF := Lib.hid (HBw.out.trans (HB4.out.mono HBw.out.size))
        clear HB4 HAll HC
        go_wp2
        go_ret
        exact ⟨by rw [HE.out, HF0.out]; rfl, HF.out⟩
    · have HF0 : Hid (xs.all (fun x => Sch.of x (Sch.inner (.mk k' ys))) = true) := by
        show _ = _
        rw [List.all_eq_true]
        intro x hx
        obtain ⟨m, hm, rfl⟩ := List.getElem_of_mem hx
        exact HL.out.2 m hm (by omega)
      have HF := Lib.hid hbw
      have hjn : ¬ (j : Int) < (xs.length : Int) := by omega
      clear HL hbw hlt
      go_wp2
      go_ret
      exact ⟨by rw [HE.out, HF0.out]; rfl, HF.out⟩

end Go.Proofs.Ytnjggejallnkoab
