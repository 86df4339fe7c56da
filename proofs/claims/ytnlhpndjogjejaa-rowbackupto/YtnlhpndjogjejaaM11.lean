/- K7C, K7D, K7M, K7E, K7F, K7G: put together. -/
import Derived.Test.YtnlhpndjogjejaaM10
import Derived.Test.YtnlhpndjogjejaaM06
import Derived.Test.YtnlhpndjogjejaaM09
import Derived.Test.YtnlhpndjogjejaaM05
import Derived.Maps.OwnOps
import Derived.Maps.OwnSet
import Derived.StringKeys
import Derived.Test.YtnlhpndjogjejaaM01
import Derived.Test.YtnlhpndjogjejaaM02
import Derived.Test.YtnlhpndjogjejaaM03
import Derived.Test.YtnlhpndjogjejaaM08

/- The landed schema: isOf, Is. -/
namespace Go.Proofs.Ytnlhpndjogjejaa
open Go.RowKit

attribute [local go_sem] run_store_float

set_option maxRecDepth 100000 in
set_option maxHeartbeats 1000000 in
theorem isOfK : ∀ (x : V) (y : Ty) (d : Nat) (w : World) (u v : Array Value), chk d x = 0 → Ty.check d y = 0 → VLies w u x → TLies w v y → Calls Try.prog 77 #[.agg u, .agg v] w fun e w' => e = .returned (.bool (Sch.of x y)) ∧ Below w.heap.size w w' := by
  intro x
  refine V.ind (P := fun x => ∀ (y : Ty) (d : Nat) (w : World) (u v : Array Value), chk d x = 0 → Ty.check d y = 0 → VLies w u x → TLies w v y → Calls Try.prog 77 #[.agg u, .agg v] w fun e w' => e = .returned (.bool (Sch.of x y)) ∧ Below w.heap.size w w') ?_ x
  rintro k i b t xs ih ⟨k', ys⟩ d w u v hc hd hx hy
  obtain ⟨p, c, rfl, hxl, hxc, hxi⟩ := hx.open
  obtain ⟨q, e, rfl, hyl, hyc, hyi⟩ := hy.open
  unfold cells5 cells2
  obtain ⟨W0, hW0⟩ : ∃ W0, W0 = (w.alloc (.cells #[.int .i64 k, .int .i64 i, .float .f64 b, .string t, .slice p xs.length c] 46)).alloc (.cells #[.int .i64 k', .slice q ys.length e] 43) := ⟨_, rfl⟩
  have HB0 : Hid (Below w.heap.size w W0) := by rw [hW0]; exact ((Below.refl _ _).alloc (Nat.le_refl _) _).alloc (by simp) _
  have HY0 : Hid (W0.cell? ⟨w.heap.size + 1, 1, none⟩ = some (.slice q ys.length e)) := by show _ = _; rw [hW0]; simp
  have HW0 := Lib.hid hW0
  clear hW0 hx hy
  by_cases h1 : ¬ k = k'
  · have g1 := bne_t h1
    have HE : Hid (Sch.of (.mk k i b t xs) (.mk k' ys) = false) := by show _ = _; rw [Sch.of_mk, beq_f h1, Bool.false_and]
    clear ih hxi hyi h1 hc hd
    go_enter Try.func77, Try.ntmps77
    go_wp2
    rw [← HW0.out]
    go_ret
    exact ⟨by rw [HE.out]; rfl, HB0.out⟩
  replace h1 : k = k' := Classical.not_not.1 h1
  have g1 := bne_f h1
  have HE : Hid (Sch.of (.mk k i b t xs) (.mk k' ys) = xs.all (fun x => Sch.of x (Sch.inner (.mk k' ys)))) := by show _ = _; rw [Sch.of_mk, beq_t h1, Bool.true_and]
  obtain ⟨hd4, hcs, hct⟩ := Sch.ty_open hd
  obtain ⟨-, ho, -, hn, -, hcx⟩ := Sch.chk_open hc
  obtain ⟨-, -, -, -, o5, -⟩ := Sch.own_open ho
  have HX : Hid (Items w p xs) := hxi
  have HIH := Lib.hid ih
  -- what the type is of, where there are items
  have HT : Hid (0 < xs.length → ∃ z, ys = [z] ∧ Ty.check (d + 1) z = 0 ∧ Sch.inner (.mk k' ys) = z ∧ ∃ u', TLies w u' z ∧ ItemT w q 0 u') := by
    intro hp
    rcases hct with ⟨h6, -⟩ | ⟨h6, z, rfl, hz⟩
    · omega
    · obtain ⟨u', hu1, hu2⟩ := hyi 0 (by simp)
      exact ⟨z, rfl, hz, rfl, u', hu1, hu2⟩
  have HCX := Lib.hid hcx
  clear ih hxi hyi hc hd hct hcs h1 hcx ho o5
  go_enter Try.func77, Try.ntmps77
  go_wp2_with fail
  rw [← HW0.out]
  clear HW0
  go_loopw [15] (fun v5 wr => ∃ j : Nat, j ≤ xs.length ∧ v5 = .int .i64 j ∧ Hid (Below W0.heap.size W0 wr ∧ ∀ m (h1 : m < xs.length), m < j → Sch.of xs[m] (Sch.inner (.mk k' ys)) = true)) (fun v5 _ => xs.length - (intOf v5).toNat)
  case atStart => exact ⟨0, by omega, rfl, Below.refl _ _, fun m _ h => by omega⟩
  case round =>
    obtain ⟨j, hj, rfl, HL⟩ := hrel
    have hbw : Below w.heap.size w wr := HB0.out.trans (HL.out.1.mono HB0.out.size)
    by_cases hlt : j < xs.length
    · obtain ⟨ux, hvx, hix⟩ := HX.out j hlt
      obtain ⟨z, hys, hz, hin, uy, hvy, hiy⟩ := HT.out (by omega)
      obtain ⟨bx, ox, kx, ix, fx, tx, qx, nx, cx, rfl, _, rfl, a0, a1, a2, a3, a4⟩ := (hix.on hbw).lies
      obtain ⟨by', oy, ky, qy, ny, cy, rfl, _, rfl, b0, b1⟩ := (hiy.on hbw).lies
      rw [Nat.zero_mul, Nat.add_zero] at b0 b1
      have hl1 : ys.length = 1 := by rw [hys]; rfl
      have HC : Hid (∀ w', Below w.heap.size w w' → Calls Try.prog 77 #[.agg #[.int .i64 kx, .int .i64 ix, .float .f64 fx, .string tx, .slice qx nx cx], .agg #[.int .i64 ky, .slice qy ny cy]] w' fun e w'' => e = .returned (.bool (Sch.of xs[j] (Sch.inner (.mk k' ys)))) ∧ Below w'.heap.size w' w'') := fun w' hb => by
        rw [hin]
        exact HIH.out _ (List.getElem_mem hlt) z (d + 1) w' _ _ (HCX.out _ (List.getElem_mem hlt)) hz (hvx.on hb) (hvy.on hb)
      have HAll := Lib.hid HL.out.2
      have hj1 : (j : Int) < (xs.length : Int) := by omega
      obtain ⟨r, hr⟩ : ∃ r, r = Sch.of xs[j] (Sch.inner (.mk k' ys)) := ⟨_, rfl⟩
      rw [← hr] at HC
      have HRr := Lib.hid hr
      obtain ⟨wa, hwa⟩ : ∃ wa, wa = wr.alloc (.cells #[.int .i64 kx, .int .i64 ix, .float .f64 fx, .string tx, .slice qx nx cx] 46) := ⟨_, rfl⟩
      have HBa : Hid (Below wr.heap.size wr wa) := by rw [hwa]; exact (Below.refl _ _).alloc (Nat.le_refl _) _
      have HBw : Hid (Below w.heap.size w wa) := hbw.trans (HBa.out.mono hbw.size)
      have HBW : Hid (Below W0.heap.size W0 wa) := HL.out.1.trans (HBa.out.mono HL.out.1.size)
      have HWa := Lib.hid hwa
      have HY4 : Hid (wa.cell? ⟨w.heap.size + 1, 1, none⟩ = some (.slice (some ⟨by', oy, none⟩) 1 e)) := by have := cell_on HBW.out HY0.out; rw [hl1] at this; exact this
      have HBs : Hid (wa.cell? ⟨by', oy, none⟩ = some (.int .i64 ky) ∧ wa.cell? ⟨by', oy + 1, none⟩ = some (.slice qy ny cy)) := ⟨cell_on HBa.out b0, cell_on HBa.out b1⟩
      have HAs : Hid (wa.cell? ⟨wr.heap.size, 0, none⟩ = some (.int .i64 kx) ∧ wa.cell? ⟨wr.heap.size, 1, none⟩ = some (.int .i64 ix) ∧ wa.cell? ⟨wr.heap.size, 2, none⟩ = some (.float .f64 fx) ∧ wa.cell? ⟨wr.heap.size, 3, none⟩ = some (.string tx) ∧ wa.cell? ⟨wr.heap.size, 4, none⟩ = some (.slice qx nx cx)) := by rw [hwa]; exact ⟨by simp, by simp, by simp, by simp, by simp⟩
      clear hvx hvy hix hiy hbw HL hr hin hz hys hl1 hwa b0 b1
      go_wp2_with fail
      rw [← HWa.out]
      obtain ⟨c0, c1, c2, c3, c4⟩ := HAs.out
      obtain ⟨d0, d1⟩ := HBs.out
      have d5 := HY4.out
      clear HAs HBs HY4 HWa a0 a1 a2 a3 a4
      go_region_held3 (fun w' => w'.cell? ⟨wr.heap.size, 0, none⟩ = some (.int .i64 kx) ∧ w'.cell? ⟨wr.heap.size, 1, none⟩ = some (.int .i64 ix) ∧ w'.cell? ⟨wr.heap.size, 2, none⟩ = some (.float .f64 fx) ∧ w'.cell? ⟨wr.heap.size, 3, none⟩ = some (.string tx) ∧ w'.cell? ⟨wr.heap.size, 4, none⟩ = some (.slice qx nx cx) ∧ w'.cell? ⟨by', oy, none⟩ = some (.int .i64 ky) ∧ w'.cell? ⟨by', oy + 1, none⟩ = some (.slice qy ny cy) ∧ w'.cell? ⟨w.heap.size + 1, 1, none⟩ = some (.slice (some ⟨by', oy, none⟩) 1 e)) (go_keep) (first
        | (go_at_call 77; refine (HC.out _ (below_drewN HBw.out _)).mono ?_; rintro e w4 ⟨rfl, hb4⟩; have hb5 := below_via (w := wa) hb4 (by rfl) (by rfl) (by rfl) (by rfl); have z3 := cell_on hb5 c0; have z4 := cell_on hb5 c1; have z5 := cell_on hb5 c2; have z6 := cell_on hb5 c3; have z7 := cell_on hb5 c4; have z8 := cell_on hb5 d0; have z9 := cell_on hb5 d1; have z10 := cell_on hb5 d5; have HB4 := Lib.hid hb5; clear hb4 hb5))
      clear z3 z4 z5 z6 z7 z8 z9 z10 c0 c1 c2 c3 c4 d0 d1 d5
      cases r with
      | true =>
        have HN : Hid (Below W0.heap.size W0 w4 ∧ ∀ m (h1 : m < xs.length), m < j + 1 → Sch.of xs[m] (Sch.inner (.mk k' ys)) = true) := by
          refine ⟨HBW.out.trans (HB4.out.mono HBW.out.size), fun m h1 hm => ?_⟩
          by_cases hmj : m = j
          · subst hmj; exact HRr.out.symm
          · exact HAll.out m h1 (by omega)
        clear HB4 HAll HC
        go_wp2
        go_roundw
        case rel => exact ⟨j + 1, by omega, by go_num, HN⟩
        case measure => simp [intOf]; omega
      | false =>
        have HF0 : Hid (xs.all (fun x => Sch.of x (Sch.inner (.mk k' ys))) = false) := by
          show _ = _
          rw [List.all_eq_false]
          exact ⟨xs[j], List.getElem_mem hlt, by rw [← HRr.out]; decide⟩
        have HF := Lib.hid (HBw.out.trans (HB4.out.mono HBw.out.size))
        clear HB4 HAll HC
        go_wp2
        go_ret
        exact ⟨by rw [HE.out, HF0.out]; rfl, HF.out⟩
    · have HF0 : Hid (xs.all (fun x => Sch.of x (Sch.inner (.mk k' ys))) = true) := by
        show _ = _
        rw [List.all_eq_true]
        intro x hx
        obtain ⟨m, hm, rfl⟩ := List.getElem_of_mem hx
        exact HL.out.2 m hm (by omega)
      have HF := Lib.hid hbw
      have hjn : ¬ (j : Int) < (xs.length : Int) := by omega
      clear HL hbw hlt
      go_wp2
      go_ret
      exact ⟨by rw [HE.out, HF0.out]; rfl, HF.out⟩

set_option maxRecDepth 100000 in
set_option maxHeartbeats 1000000 in
theorem isK (x : V) (y : Ty) (w : World) (u v : Array Value) (hx : VLies w u x) (hy : TLies w v y) : Calls Try.prog 53 #[.agg u, .agg v] w fun e w' => e = .returned (.bool (Sch.is x y)) ∧ Below w.heap.size w w' := by
  obtain ⟨k, i, b, t, xs⟩ := x
  obtain ⟨k', ys⟩ := y
  obtain ⟨p, c, rfl, -⟩ := hx.open
  obtain ⟨q, e, rfl, -⟩ := hy.open
  obtain ⟨W0, hW0⟩ : ∃ W0, W0 = (w.alloc (.cells (cells5 k i b t p xs.length c) 46)).alloc (.cells (cells2 k' q ys.length e) 43) := ⟨_, rfl⟩
  have HB0 : Hid (Below w.heap.size w W0) := by rw [hW0]; exact ((Below.refl _ _).alloc (Nat.le_refl _) _).alloc (by simp) _
  have HX := Lib.hid (hx.on HB0.out)
  have HTy := Lib.hid (hy.on HB0.out)
  have HCt := Lib.hid (fun w' (hb : Below W0.heap.size W0 w') => checkTypeK _ w' _ (HTy.out.on hb))
  have HCv := Lib.hid (fun w' (hb : Below W0.heap.size W0 w') => checkK _ w' _ (HX.out.on hb))
  have HI : Hid (Sch.is (.mk k i b t xs) (.mk k' ys) = (decide (Ty.check 1 (.mk k' ys) = 0) && decide (chk 1 (.mk k i b t xs) = 0) && Sch.of (.mk k i b t xs) (.mk k' ys))) := rfl
  have HOf := Lib.hid (fun w' (hb : Below W0.heap.size W0 w') h1 h2 => isOfK _ _ 1 w' _ _ h1 h2 (HX.out.on hb) (HTy.out.on hb))
  have HY : Hid (W0.cell? ⟨w.heap.size, 0, none⟩ = some (.int .i64 k) ∧ W0.cell? ⟨w.heap.size, 1, none⟩ = some (.int .i64 i) ∧ W0.cell? ⟨w.heap.size, 2, none⟩ = some (.float .f64 b) ∧ W0.cell? ⟨w.heap.size, 3, none⟩ = some (.string t) ∧ W0.cell? ⟨w.heap.size, 4, none⟩ = some (.slice p xs.length c) ∧ W0.cell? ⟨w.heap.size + 1, 0, none⟩ = some (.int .i64 k') ∧ W0.cell? ⟨w.heap.size + 1, 1, none⟩ = some (.slice q ys.length e)) := by rw [hW0]; exact ⟨by simp [cells5], by simp [cells5], by simp [cells5], by simp [cells5], by simp [cells5], by simp [cells2], by simp [cells2]⟩
  have HW0 := Lib.hid hW0
  obtain ⟨R, hR⟩ : ∃ R, R = Sch.is (.mk k i b t xs) (.mk k' ys) := ⟨_, rfl⟩
  rw [← hR] at HI ⊢
  obtain ⟨ct, hct⟩ : ∃ ct, ct = Ty.check 1 (.mk k' ys) := ⟨_, rfl⟩
  have HCT := Lib.hid hct
  rw [← hct] at HCt HI HOf
  obtain ⟨cv, hcv⟩ : ∃ cv, cv = chk 1 (.mk k i b t xs) := ⟨_, rfl⟩
  have HCV := Lib.hid hcv
  rw [← hcv] at HCv HI HOf
  obtain ⟨co, hco⟩ : ∃ co, co = Sch.of (.mk k i b t xs) (.mk k' ys) := ⟨_, rfl⟩
  rw [← hco] at HI HOf
  clear hW0 hx hy hR hct hcv hco HX HTy
  unfold cells5 cells2 at *
  go_enter Try.func53, Try.ntmps53
  go_wp2_with fail
  rw [← HW0.out]
  clear HW0
  refine (HCt.out _ (Below.refl _ _)).mono ?_
  rintro e w1 ⟨rfl, hb1⟩
  obtain ⟨y0, y1, y2, y3, y4, y5, y6⟩ := HY.out
  have c0 := cell_on hb1 y0
  have c1 := cell_on hb1 y1
  have c2 := cell_on hb1 y2
  have c3 := cell_on hb1 y3
  have c4 := cell_on hb1 y4
  have HB1 := Lib.hid hb1
  have HBw1 := Lib.hid (HB0.out.trans (hb1.mono HB0.out.size))
  clear y0 y1 y2 y3 y4 y5 y6 hb1
  by_cases h1 : ct = 0
  · have g1 : ((ct : Int) == 0) = true := beq_t (by omega)
    go_wp2_with fail
    refine (HCv.out w1 HB1.out).mono ?_
    rintro e w2 ⟨rfl, hb2⟩
    have HB2 := Lib.hid (HB1.out.trans (hb2.mono HB1.out.size))
    have HBw := Lib.hid (HB0.out.trans (HB2.out.mono HB0.out.size))
    clear hb2 HB1 c0 c1 c2 c3 c4
    by_cases h2 : cv = 0
    · have g2 : ((cv : Int) == 0) = true := beq_t (by omega)
      obtain ⟨y0, y1, y2, y3, y4, y5, y6⟩ := HY.out
      have c0 := cell_on HB2.out y0
      have c1 := cell_on HB2.out y1
      have c2 := cell_on HB2.out y2
      have c3 := cell_on HB2.out y3
      have c4 := cell_on HB2.out y4
      have c5 := cell_on HB2.out y5
      have c6 := cell_on HB2.out y6
      have HRc : Hid (R = co) := by show _ = _; rw [HI.out, decide_eq_true h1, decide_eq_true h2]; rfl
      have HCo := Lib.hid (HOf.out w2 HB2.out h2 h1)
      clear y0 y1 y2 y3 y4 y5 y6 h1 h2 HI HOf HY HCT HCV
      go_wp2_with fail
      refine HCo.out.mono ?_
      rintro e w3 ⟨rfl, hb3⟩
      have HB3 := Lib.hid (HBw.out.trans (hb3.mono HBw.out.size))
      clear hb3 c0 c1 c2 c3 c4 c5 c6
      go_wp2
      go_ret
      exact ⟨by rw [HRc.out]; rfl, HB3.out⟩
    · have g2 : ((cv : Int) == 0) = false := beq_f (by omega)
      have HRc : Hid (R = false) := by show _ = _; rw [HI.out, decide_eq_false h2, Bool.and_false, Bool.false_and]
      clear h1 h2 HI HOf
      go_wp2
      go_ret
      exact ⟨by rw [HRc.out]; rfl, HBw.out⟩
  · have g1 : ((ct : Int) == 0) = false := beq_f (by omega)
    have HRc : Hid (R = false) := by show _ = _; rw [HI.out, decide_eq_false h1, Bool.false_and, Bool.false_and]
    clear h1 HI HOf
    go_wp2
    go_ret
    exact ⟨by rw [HRc.out]; rfl, HBw1.out⟩
end Go.Proofs.Ytnlhpndjogjejaa

/- The landed schema: Find, sameColumn, Same. -/
namespace Go.Proofs.Ytnlhpndjogjejaa
open Go.RowKit

attribute [local go_sem] run_store_float

set_option maxRecDepth 100000 in
set_option maxHeartbeats 1000000 in
theorem findK (s : List Col) (t : ByteArray) (p : Option Addr) (c : Nat) (w : World) (hs : s.length * 120 ≤ 140737488351232) (hx : Cols w p s) : Calls Try.prog 63 #[.agg #[.slice p s.length c], .string t] w fun e w' => e = .returned (foundV (Sch.find t s 0)) ∧ Below w.heap.size w w' := by
  have HX := Lib.hid hx
  clear hx
  obtain ⟨W0, hW0⟩ : ∃ W0, W0 = w.alloc (.cells #[.slice p s.length c] 24) := ⟨_, rfl⟩
  have HB0 : Hid (Below w.heap.size w W0) := by rw [hW0]; exact (Below.refl _ _).alloc (Nat.le_refl _) _
  have y0 : W0.cell? ⟨w.heap.size, 0, none⟩ = some (.slice p s.length c) := by rw [hW0]; simp
  have HW0 := Lib.hid hW0
  obtain ⟨R, hR⟩ : ∃ R, R = Sch.find t s 0 := ⟨_, rfl⟩
  have HR := Lib.hid hR
  rw [← hR]
  clear hW0 hR
  go_enter Try.func63, Try.ntmps63
  go_wp2_with fail
  rw [← HW0.out]
  go_loopw [11] (fun v6 wr => ∃ j : Nat, j ≤ s.length ∧ v6 = .int .i64 j ∧ Hid (Below w.heap.size w wr) ∧ Hid (R = Sch.find t (s.drop j) j)) (fun v6 _ => s.length - (intOf v6).toNat)
  case atStart => exact ⟨0, by omega, rfl, HB0, HR.out⟩
  case round =>
    obtain ⟨j, hj, rfl, HBr, HF⟩ := hrel
    by_cases hlt : j < s.length
    · obtain ⟨bx, ox, k, tp, tn, tc, vk, vi, vb, vt, vp, vn, vc, rfl, _, h9, -⟩ := (HX.out.on HBr.out).at j hlt
      obtain ⟨a0, a1, a2, a3, a4, a5, a6, a7, a8⟩ := h9
      have hj1 : (j : Int) < (s.length : Int) := by omega
      have HD := Lib.hid (HF.out.trans (find_drop t s j hlt))
      have HBa : Hid (∀ o, Below w.heap.size w (wr.alloc o)) := fun o => HBr.out.alloc HBr.out.size o
      by_cases hn : s[j].name = t
      · have g : (s[j].name.toList == t.toList) = true := by rw [text_eq, decide_eq_true hn]
        have HE : Hid (foundV R = .tuple #[.int .i64 j, .bool true]) := by show _ = _; rw [HD.out, if_pos hn]; rfl
        generalize s[j].name = nm at *
        generalize s[j].has = hs at *
        clear HF HD hn
        go_wp2
        go_ret2
        exact ⟨by rw [HE.out]; rfl, HBa.out _⟩
      · have g : (s[j].name.toList == t.toList) = false := by rw [text_eq, decide_eq_false hn]
        have HE : Hid (R = Sch.find t (s.drop (j + 1)) (j + 1)) := by show _ = _; rw [HD.out, if_neg hn]
        generalize s[j].name = nm at *
        generalize s[j].has = hs at *
        clear HF HD hn
        go_wp2
        go_roundw
        case rel => exact ⟨j + 1, by omega, by go_num, HBa.out _, HE⟩
        case measure => simp [intOf]; omega
    · have hjn : ¬ (j : Int) < (s.length : Int) := by omega
      have HE : Hid (foundV R = .tuple #[.int .i64 0, .bool false]) := by show _ = _; rw [HF.out, List.drop_eq_nil_of_le (by omega)]; rfl
      clear HF
      go_wp2
      go_ret2
      exact ⟨by rw [HE.out]; rfl, HBr.out⟩

end Go.Proofs.Ytnlhpndjogjejaa

/- Names in a map: which of them are there. -/
namespace Go.Proofs.Ytnlhpndjogjejaa
open Go.RowKit Go.Maps

theorem lawS : Keyed Try.prog 9 := string_keyed Try.underlying9
theorem zeroI (w : World) : (zeroValue 3).run Try.prog w = .ok (.int .i64 0) w := by kernel_rfl
/-- what a name reads as -/
def keyL (t : ByteArray) : Lit := .string t.data.toList
theorem keyL_inj {a b : ByteArray} (h : keyL a = keyL b) : a = b := by
  unfold keyL at h
  injection h with h
  obtain ⟨⟨a⟩⟩ := a
  obtain ⟨⟨b⟩⟩ := b
  simp_all
theorem keyL_of {t : ByteArray} (h : t.size ≤ 140737488351232) : keyOf Try.prog 9 (.string t) = some (keyL t) := Go.WideMaps.keyOf_string_mk Try.underlying9 (by unfold maxLen; omega)

/-- block M is a map whose keys are the columns' names -/
structure Named (w : World) (M n : Nat) (l : List Col) : Prop where
  out : ∃ D : DataW Unit, w.ownsMap Try.prog 9 (plainElem Try.prog 3) M n D ∧ ∀ t : ByteArray, has D (keyL t) = l.any (fun x => decide (x.name = t))
theorem named_made (w : World) : Named (w.alloc (.map #[] 0)) w.heap.size 0 [] := ⟨.map [], World.ownsMap_made _ _ _ _, fun _ => rfl⟩
theorem Named.lt {w : World} {M n : Nat} {l : List Col} (h : Named w M n l) : M < w.heap.size := by
  obtain ⟨D, h1, _⟩ := h.out
  exact h1.lt
theorem Named.keep {w w' : World} {M n : Nat} {l : List Col} (h : Named w M n l) (hb : w'.heap[M]? = w.heap[M]?) : Named w' M n l := by
  obtain ⟨D, ⟨es, clock, h1, h2⟩, h3⟩ := h.out
  exact ⟨D, ⟨es, clock, hb.trans h1, h2⟩, h3⟩
theorem has_put {D : DataW Unit} {P : Program} {k : TypeId} {R : Value → Option (DataW Unit × List MemPlace)} {w : World} {M n : Nat} {l : List Col} (hm : w.ownsMap P k R M n D) (h : ∀ t : ByteArray, has D (keyL t) = l.any (fun x => decide (x.name = t))) (c : Col) (d : DataW Unit) (t : ByteArray) :
    has (D.put (keyL c.name) d) (keyL t) = (l ++ [c]).any (fun x => decide (x.name = t)) := by
  rw [List.any_append]
  by_cases hc : c.name = t
  · subst hc
    rw [has_put_same hm.isMap (by trivial)]
    simp
  · rw [has_put_other (fun e => hc (keyL_inj e).symm), h t]
    simp [hc]
end Go.Proofs.Ytnlhpndjogjejaa

/- The landed schema: checkDefault, checkColumns. -/
namespace Go.Proofs.Ytnlhpndjogjejaa
open Go.RowKit Go.Maps

attribute [local go_sem] run_store_float

/-- why a column's default may not be, where its type may -/
def dflErr (c : Col) : Nat := if c.has = false then (if V.same c.dflt V0 then 0 else 80) else if chk 1 c.dflt ≠ 0 then chk 1 c.dflt else if Sch.is c.dflt c.ty then 0 else 80
theorem colErr_eq (l : List Col) (c : Col) : Sch.colErr l c = if Sch.name c.name = false then 70 else if l.any (fun x => decide (x.name = c.name)) then 71 else if Ty.check 1 c.ty ≠ 0 then Ty.check 1 c.ty else dflErr c := rfl
theorem vlies_zero (w : World) : VLies w (cells5 0 0 0 ⟨#[]⟩ none 0 0) V0 := VLies.mk (xs := []) (fun _ => #[]) (by simp) (by simp) (fun hc => absurd rfl hc) (fun j hj => by simp at hj)

set_option maxRecDepth 100000 in
set_option maxHeartbeats 2000000 in
theorem checkDefaultK (x : Col) (w : World) (u : Array Value) (hu : CLies w u x) (hty : Ty.check 1 x.ty = 0) : Calls Try.prog 95 #[.agg u] w fun e w' => e = .returned (.int .i64 (dflErr x : Nat)) ∧ Below w.heap.size w w' := by
  obtain ⟨k, tp, tn, tc, vk, vi, vb, vt, vp, vn, vc, rfl, ht, hv⟩ := hu.out
  obtain ⟨nm, ty, has, df⟩ := x
  dsimp only at ht hv hty
  unfold cells9
  obtain ⟨W0, hW0⟩ : ∃ W0, W0 = w.alloc (.cells #[.string nm, .int .i64 k, .slice tp tn tc, .bool has, .int .i64 vk, .int .i64 vi, .float .f64 vb, .string vt, .slice vp vn vc] 61) := ⟨_, rfl⟩
  have HB0 : Hid (Below w.heap.size w W0) := by rw [hW0]; exact (Below.refl _ _).alloc (Nat.le_refl _) _
  have HY : Hid (W0.cell? ⟨w.heap.size, 1, none⟩ = some (.int .i64 k) ∧ W0.cell? ⟨w.heap.size, 2, none⟩ = some (.slice tp tn tc) ∧ W0.cell? ⟨w.heap.size, 4, none⟩ = some (.int .i64 vk) ∧ W0.cell? ⟨w.heap.size, 5, none⟩ = some (.int .i64 vi) ∧ W0.cell? ⟨w.heap.size, 6, none⟩ = some (.float .f64 vb) ∧ W0.cell? ⟨w.heap.size, 7, none⟩ = some (.string vt) ∧ W0.cell? ⟨w.heap.size, 8, none⟩ = some (.slice vp vn vc)) := by rw [hW0]; refine ⟨?_, ?_, ?_, ?_, ?_, ?_, ?_⟩ <;> simp
  have HS := Lib.hid (sameK df V0 W0 _ _ (hv.on HB0.out) (vlies_zero W0))
  have HC := Lib.hid (checkK df W0 _ (hv.on HB0.out))
  have HO := Lib.hid (fun w' (hb : Below W0.heap.size W0 w') h1 => isOfK df ty 1 w' _ _ h1 hty ((hv.on HB0.out).on hb) ((ht.on HB0.out).on hb))
  have HI : Hid (chk 1 df = 0 → Sch.is df ty = Sch.of df ty) := fun h => by
    unfold Sch.is
    rw [decide_eq_true hty, decide_eq_true h]
    rfl
  have HE : Hid (dflErr ⟨nm, ty, has, df⟩ = if has = false then (if V.same df V0 then 0 else 80) else if chk 1 df ≠ 0 then chk 1 df else if Sch.is df ty then 0 else 80) := rfl
  obtain ⟨R, hR⟩ : ∃ R, R = dflErr ⟨nm, ty, has, df⟩ := ⟨_, rfl⟩
  rw [← hR] at HE ⊢
  obtain ⟨r1, hr1⟩ : ∃ r, r = V.same df V0 := ⟨_, rfl⟩
  rw [← hr1] at HS HE
  obtain ⟨r2, hr2⟩ : ∃ r, r = chk 1 df := ⟨_, rfl⟩
  rw [← hr2] at HC HE HO HI
  obtain ⟨r3, hr3⟩ : ∃ r, r = Sch.is df ty := ⟨_, rfl⟩
  rw [← hr3] at HE HI
  have HW0 := Lib.hid hW0
  unfold cells5 at HS HC HO
  unfold cells2 at HO
  clear hW0 ht hv hu hty hR hr1 hr2 hr3
  cases has with
  | false =>
    have HE2 : Hid (R = if r1 then 0 else 80) := by show _ = _; rw [HE.out, if_pos rfl]
    clear HE HC HO HI HY
    go_enter Try.func95, Try.ntmps95
    go_wp2_with fail
    rw [← HW0.out]
    clear HW0
    refine HS.out.mono ?_
    rintro e w1 ⟨rfl, hb1⟩
    have HBw := Lib.hid (HB0.out.trans (hb1.mono HB0.out.size))
    clear hb1 HS
    cases r1 with
    | true =>
      go_wp2
      go_ret
      exact ⟨by rw [HE2.out]; rfl, HBw.out⟩
    | false =>
      go_wp2
      go_ret
      exact ⟨by rw [HE2.out]; rfl, HBw.out⟩
  | true =>
    have HE2 : Hid (R = if r2 ≠ 0 then r2 else if r3 then 0 else 80) := by show _ = _; rw [HE.out, if_neg (by decide)]
    clear HE HS
    go_enter Try.func95, Try.ntmps95
    go_wp2_with fail
    rw [← HW0.out]
    clear HW0
    refine HC.out.mono ?_
    rintro e w1 ⟨rfl, hb1⟩
    have HB1 := Lib.hid hb1
    have HBw := Lib.hid (HB0.out.trans (hb1.mono HB0.out.size))
    clear hb1 HC
    by_cases h2 : r2 = 0
    · have g2 : ((r2 : Int) != 0) = false := bne_f (by omega)
      obtain ⟨y0, y1, y2, y3, y4, y5, y6⟩ := HY.out
      have c0 := cell_on HB1.out y0
      have c1 := cell_on HB1.out y1
      have c2 := cell_on HB1.out y2
      have c3 := cell_on HB1.out y3
      have c4 := cell_on HB1.out y4
      have c5 := cell_on HB1.out y5
      have c6 := cell_on HB1.out y6
      have HO1 := Lib.hid (HO.out w1 HB1.out h2)
      have HE3 : Hid (R = if Sch.of df ty then 0 else 80) := by
        show _ = _
        rw [HE2.out, if_neg (by omega), HI.out h2]
      obtain ⟨r4, hr4⟩ : ∃ r, r = Sch.of df ty := ⟨_, rfl⟩
      rw [← hr4] at HO1 HE3
      clear y0 y1 y2 y3 y4 y5 y6 HY HO HI HE2 hr4 h2
      go_wp2_with fail
      refine HO1.out.mono ?_
      rintro e w2 ⟨rfl, hb2⟩
      have HB2 := Lib.hid (HBw.out.trans (hb2.mono HBw.out.size))
      clear hb2 c0 c1 c2 c3 c4 c5 c6 HO1
      cases r4 with
      | true =>
        go_wp2
        go_ret
        exact ⟨by rw [HE3.out]; rfl, HB2.out⟩
      | false =>
        go_wp2
        go_ret
        exact ⟨by rw [HE3.out]; rfl, HB2.out⟩
    · have g2 : ((r2 : Int) != 0) = true := bne_t (by omega)
      have HE3 : Hid (R = r2) := by show _ = _; rw [HE2.out, if_pos h2]
      clear HO HI HE2 h2 HY
      go_wp2
      go_ret
      exact ⟨by rw [HE3.out]; rfl, HBw.out⟩

/-- what checkColumns tells -/
def colsK (s : List Col) : Nat := if s.length = 0 then 4 else if 16 < s.length then 3 else Sch.colsErr [] s
theorem colsErr_step (s : List Col) (j : Nat) (hj : j < s.length) : Sch.colsErr (s.take j) (s.drop j) = if Sch.colErr (s.take j) s[j] = 0 then Sch.colsErr (s.take (j + 1)) (s.drop (j + 1)) else Sch.colErr (s.take j) s[j] := by
  rw [List.drop_eq_getElem_cons hj, Sch.colsErr, List.take_succ_eq_append_getElem hj]

set_option maxRecDepth 100000 in
set_option maxHeartbeats 4000000 in
theorem checkColumnsK (s : List Col) (p : Option Addr) (c : Nat) (w : World) (hx : Cols w p s) (hwf : ∀ x ∈ s, x.wf) :
    Calls Try.prog 70 #[.slice p s.length c] w fun e w' => e = .returned (.int .i64 (colsK s : Nat)) ∧ Below w.heap.size w w' := by
  have hmm := @run_makeMap Try.prog
  obtain ⟨R, hR⟩ : ∃ R, R = colsK s := ⟨_, rfl⟩
  have HR : Hid (R = if s.length = 0 then 4 else if 16 < s.length then 3 else Sch.colsErr [] s) := hR
  rw [← hR]
  clear hR
  have HX := Lib.hid hx
  have HWf := Lib.hid hwf
  clear hx hwf
  by_cases h0 : s.length = 0
  · have g0 : ((s.length : Int) == 0) = true := beq_t (by omega)
    have HE : Hid (R = 4) := by show _ = _; rw [HR.out, if_pos h0]
    clear HR h0
    go_enter Try.func70, Try.ntmps70
    go_wp2
    go_ret
    exact ⟨by rw [HE.out]; rfl, Below.refl _ _⟩
  have g0 : ((s.length : Int) == 0) = false := beq_f (by omega)
  by_cases h1 : 16 < s.length
  · have g1 : (16 : Int) < (s.length : Int) := by omega
    have HE : Hid (R = 3) := by show _ = _; rw [HR.out, if_neg h0, if_pos h1]
    clear HR h0 h1
    go_enter Try.func70, Try.ntmps70
    go_wp2
    go_ret
    exact ⟨by rw [HE.out]; rfl, Below.refl _ _⟩
  have g1 : ¬ (16 : Int) < (s.length : Int) := by omega
  have HE : Hid (R = Sch.colsErr (s.take 0) (s.drop 0)) := by show _ = _; rw [HR.out, if_neg h0, if_neg h1]; simp
  have hs16 : s.length ≤ 16 := by omega
  clear HR h0 h1
  obtain ⟨W0, hW0⟩ : ∃ W0, W0 = w.alloc (.map #[] 0) := ⟨_, rfl⟩
  have HB0 : Hid (Below w.heap.size w W0) := by rw [hW0]; exact (Below.refl _ _).alloc (Nat.le_refl _) _
  have HN0 : Hid (Named W0 w.heap.size 0 (s.take 0)) := by rw [hW0]; exact named_made w
  have HW0 := Lib.hid hW0
  clear hW0
  go_enter Try.func70, Try.ntmps70
  go_wp2_with fail
  rw [← HW0.out]
  clear HW0
  go_loopw [19] (fun v19 wr => ∃ j : Nat, j ≤ s.length ∧ v19 = .int .i64 j ∧ Hid (Below w.heap.size w wr ∧ Named wr w.heap.size j (s.take j) ∧ R = Sch.colsErr (s.take j) (s.drop j))) (fun v19 _ => s.length - (intOf v19).toNat)
  case atStart => exact ⟨0, by omega, rfl, HB0.out, HN0.out, HE.out⟩
  case round =>
    obtain ⟨j, hj, rfl, HL⟩ := hrel
    by_cases hlt : j < s.length
    · obtain ⟨bx, ox, k, tp, tn, tc, vk, vi, vb, vt, vp, vn, vc, rfl, _, h9, htx, hvx⟩ := HX.out.at j hlt
      obtain ⟨a0, a1, a2, a3, a4, a5, a6, a7, a8⟩ := h9.on HL.out.1
      clear h9
      have hj1 : (j : Int) < (s.length : Int) := by omega
      have HCe := Lib.hid ((colErr_eq (s.take j) s[j]))
      have HRj := Lib.hid (HL.out.2.2.trans (colsErr_step s j hlt))
      have hnm : s[j].name.size ≤ 140737488351232 := (HWf.out _ (List.getElem_mem hlt)).1
      have HKey := Lib.hid (keyL_of hnm)
      have HNm := Lib.hid (nameK s[j].name)
      have HTk := Lib.hid (s.take_succ_eq_append_getElem hlt)
      obtain ⟨D, hown, hhas⟩ := HL.out.2.1.out
      have HOwn := Lib.hid hown
      have HHas := Lib.hid (hhas s[j].name)
      have HPut := Lib.hid (fun d t => has_put hown hhas s[j] d t)
      have HMlt := Lib.hid hown.lt
      have HBr := Lib.hid HL.out.1
      -- the copy of the column
      have HCT := Lib.hid (fun w' (hb : Below w.heap.size w w') => checkTypeK s[j].ty w' _ (htx.on hb))
      have HCD := Lib.hid (fun w' (hb : Below w.heap.size w w') (h : Ty.check 1 s[j].ty = 0) => checkDefaultK s[j] w' _ ⟨k, tp, tn, tc, vk, vi, vb, vt, vp, vn, vc, rfl, htx.on hb, hvx.on hb⟩ h)
      unfold cells9 at HCD
      unfold cells2 at HCT
      obtain ⟨nm, hn⟩ : ∃ n, n = s[j].name := ⟨_, rfl⟩
      obtain ⟨hs, hhs⟩ : ∃ n, n = s[j].has := ⟨_, rfl⟩
      rw [← hn] at a0 HCe HKey HNm HHas HPut HCD
      rw [← hhs] at a3 HCD
      obtain ⟨rn, hrn⟩ : ∃ r, r = Sch.name nm := ⟨_, rfl⟩
      rw [← hrn] at HNm HCe
      obtain ⟨rt, hrt⟩ : ∃ r, r = Ty.check 1 s[j].ty := ⟨_, rfl⟩
      rw [← hrt] at HCT HCe HCD
      obtain ⟨rd, hrd⟩ : ∃ r, r = dflErr s[j] := ⟨_, rfl⟩
      rw [← hrd] at HCD HCe
      obtain ⟨ra, hra⟩ : ∃ r, r = (s.take j).any (fun x => decide (x.name = nm)) := ⟨_, rfl⟩
      rw [← hra] at HHas HCe
      obtain ⟨wa, hwa⟩ : ∃ wa, wa = wr.alloc (.cells #[.string nm, .int .i64 k, .slice tp tn tc, .bool hs, .int .i64 vk, .int .i64 vi, .float .f64 vb, .string vt, .slice vp vn vc] 61) := ⟨_, rfl⟩
      have HBa : Hid (Below wr.heap.size wr wa) := by rw [hwa]; exact (Below.refl _ _).alloc (Nat.le_refl _) _
      have HAs : Hid (wa.cell? ⟨wr.heap.size, 0, none⟩ = some (.string nm) ∧ wa.cell? ⟨wr.heap.size, 1, none⟩ = some (.int .i64 k) ∧ wa.cell? ⟨wr.heap.size, 2, none⟩ = some (.slice tp tn tc) ∧ wa.cell? ⟨wr.heap.size, 3, none⟩ = some (.bool hs) ∧ wa.cell? ⟨wr.heap.size, 4, none⟩ = some (.int .i64 vk) ∧ wa.cell? ⟨wr.heap.size, 5, none⟩ = some (.int .i64 vi) ∧ wa.cell? ⟨wr.heap.size, 6, none⟩ = some (.float .f64 vb) ∧ wa.cell? ⟨wr.heap.size, 7, none⟩ = some (.string vt) ∧ wa.cell? ⟨wr.heap.size, 8, none⟩ = some (.slice vp vn vc)) := by rw [hwa]; refine ⟨?_, ?_, ?_, ?_, ?_, ?_, ?_, ?_, ?_⟩ <;> simp
      have HBw : Hid (Below w.heap.size w wa) := HBr.out.trans (HBa.out.mono HBr.out.size)
      have HOa : Hid (wa.ownsMap Try.prog 9 (plainElem Try.prog 3) w.heap.size j D) := by rw [hwa]; exact HOwn.out.alloc _
      have hsz : wr.heap.size < wa.heap.size := by rw [hwa]; simp
      have HWa := Lib.hid hwa
      clear hn hhs hrn hrt hrd hra htx hvx hown hhas hwa HL HOwn
      go_wp2_with fail
      rw [← HWa.out]
      clear HWa a0 a1 a2 a3 a4 a5 a6 a7 a8
      refine (HNm.out _).mono ?_
      rintro e w2 ⟨rfl, hw2⟩
      rw [hw2]
      clear hw2 w2 HNm
      cases rn with
      | false =>
        have HE2 : Hid (R = 70) := by show _ = _; rw [HRj.out, HCe.out]; rfl
        go_wp2
        go_ret
        exact ⟨by rw [HE2.out]; rfl, HBw.out⟩
      | true =>
        obtain ⟨c0, c1, c2, c3, c4, c5, c6, c7, c8⟩ := HAs.out
        cases ra with
        | true =>
          have HE2 : Hid (R = 71) := by show _ = _; rw [HRj.out, HCe.out]; rfl
          go_wp2_with (first | (at_lookup; refine wpList_lookup_own_ok_int _ rfl _ _ 126 rfl 9 3 .i64 lawS Try.underlying126 Try.underlying3 (zeroI _) w.heap.size j D rfl HOa.out _ _ rfl HKey.out ?_; intro cc hat hwc; rw [HHas.out]; clear hat hwc))
          go_ret
          exact ⟨by rw [HE2.out]; rfl, HBw.out⟩
        | false =>
          go_wp2_with (first
            | (at_lookup; refine wpList_lookup_own_ok_int _ rfl _ _ 126 rfl 9 3 .i64 lawS Try.underlying126 Try.underlying3 (zeroI _) w.heap.size j D rfl HOa.out _ _ rfl HKey.out ?_; intro cc hat hwc; rw [HHas.out]; clear hat hwc)
            | (at_mapUpdate; refine wpList_mapUpdate_own _ rfl _ _ _ 126 rfl 9 3 lawS Try.underlying126 _ w.heap.size j D rfl HOa.out (by unfold maxLen; omega) _ _ _ rfl rfl HKey.out _ [] (plainElem_int Try.underlying3 (WalkArith.wf_i64 (by omega))) ?_; intro w1 hown1 hgr1
               have HO1 := Lib.hid hown1
               have HG1 := Lib.hid hgr1
               have hne : ¬ wr.heap.size = w.heap.size := by have := HMlt.out; omega
               have hblk : w1.heap[wr.heap.size]? = wa.heap[wr.heap.size]? := hgr1.block _ hsz (fun hc => hne (by injection hc))
               have q0 : w1.cell? ⟨wr.heap.size, 0, none⟩ = some (.string nm) := (World.cell?_of_block (w := wa) hblk).trans c0
               have q1 : w1.cell? ⟨wr.heap.size, 1, none⟩ = some (.int .i64 k) := (World.cell?_of_block (w := wa) hblk).trans c1
               have q2 : w1.cell? ⟨wr.heap.size, 2, none⟩ = some (.slice tp tn tc) := (World.cell?_of_block (w := wa) hblk).trans c2
               have q3 : w1.cell? ⟨wr.heap.size, 3, none⟩ = some (.bool hs) := (World.cell?_of_block (w := wa) hblk).trans c3
               have q4 : w1.cell? ⟨wr.heap.size, 4, none⟩ = some (.int .i64 vk) := (World.cell?_of_block (w := wa) hblk).trans c4
               have q5 : w1.cell? ⟨wr.heap.size, 5, none⟩ = some (.int .i64 vi) := (World.cell?_of_block (w := wa) hblk).trans c5
               have q6 : w1.cell? ⟨wr.heap.size, 6, none⟩ = some (.float .f64 vb) := (World.cell?_of_block (w := wa) hblk).trans c6
               have q7 : w1.cell? ⟨wr.heap.size, 7, none⟩ = some (.string vt) := (World.cell?_of_block (w := wa) hblk).trans c7
               have q8 : w1.cell? ⟨wr.heap.size, 8, none⟩ = some (.slice vp vn vc) := (World.cell?_of_block (w := wa) hblk).trans c8
               clear c0 c1 c2 c3 c4 c5 c6 c7 c8 hown1 hgr1 hblk hne))
          have HB1 : Hid (Below w.heap.size w w1) := HBw.out.grown HG1.out HBw.out.size (fun k hk => by injection hk with hk; omega)
          have HN1 : Hid (Named w1 w.heap.size (j + 1) (s.take (j + 1))) := by
            rw [HTk.out]
            exact ⟨_, HO1.out, HPut.out _⟩
          have HC1 := Lib.hid (HCT.out w1 HB1.out)
          clear HCT HO1 HPut HOa HHas HKey HTk HG1
          go_wp2_with fail
          refine HC1.out.mono ?_
          rintro e w2 ⟨rfl, hb2⟩
          have HB2 : Hid (Below w.heap.size w w2) := HB1.out.trans (hb2.mono HB1.out.size)
          have HN2 : Hid (Named w2 w.heap.size (j + 1) (s.take (j + 1))) := HN1.out.keep (hb2.block _ HN1.out.lt)
          by_cases ht0 : rt = 0
          · have gt : ((rt : Int) != 0) = false := bne_f (by omega)
            have z0 := cell_on hb2 q0
            have z1 := cell_on hb2 q1
            have z2 := cell_on hb2 q2
            have z3 := cell_on hb2 q3
            have z4 := cell_on hb2 q4
            have z5 := cell_on hb2 q5
            have z6 := cell_on hb2 q6
            have z7 := cell_on hb2 q7
            have z8 := cell_on hb2 q8
            have HD1 := Lib.hid (HCD.out w2 HB2.out ht0)
            clear q0 q1 q2 q3 q4 q5 q6 q7 q8 hb2 HC1 HCD HN1
            have HCe2 : Hid (Sch.colErr (s.take j) s[j] = rd) := by
              show _ = _
              rw [HCe.out, ht0]
              rfl
            clear HCe ht0
            go_wp2_with fail
            refine HD1.out.mono ?_
            rintro e w3 ⟨rfl, hb3⟩
            have HB3 : Hid (Below w.heap.size w w3) := HB2.out.trans (hb3.mono HB2.out.size)
            have HN3 : Hid (Named w3 w.heap.size (j + 1) (s.take (j + 1))) := HN2.out.keep (hb3.block _ HN2.out.lt)
            clear hb3 z0 z1 z2 z3 z4 z5 z6 z7 z8 HD1 HN2
            by_cases hd0 : rd = 0
            · have gd : ((rd : Int) != 0) = false := bne_f (by omega)
              have HR2 : Hid (R = Sch.colsErr (s.take (j + 1)) (s.drop (j + 1))) := by show _ = _; rw [HRj.out, HCe2.out, if_pos hd0]
              clear hd0 HRj HCe2
              go_wp2
              go_roundw
              case rel => exact ⟨j + 1, by omega, by go_num, HB3.out, HN3.out, HR2.out⟩
              case measure => simp [intOf]; omega
            · have gd : ((rd : Int) != 0) = true := bne_t (by omega)
              have HR2 : Hid (R = rd) := by show _ = _; rw [HRj.out, HCe2.out, if_neg hd0]
              clear hd0 HRj HCe2
              go_wp2
              go_ret
              exact ⟨by rw [HR2.out]; rfl, HB3.out⟩
          · have gt : ((rt : Int) != 0) = true := bne_t (by omega)
            have HR2 : Hid (R = rt) := by
              show _ = _
              have e1 : Sch.colErr (s.take j) s[j] = rt := by rw [HCe.out, if_neg (by decide), if_neg (by decide), if_pos ht0]
              rw [HRj.out, e1, if_neg ht0]
            clear ht0 hb2 HC1 HCD HN1 HCe HRj
            go_wp2
            go_ret
            exact ⟨by rw [HR2.out]; rfl, HB2.out⟩
    · have HF := Lib.hid HL.out.1
      have HF0 : Hid (R = 0) := by show _ = _; rw [HL.out.2.2, List.drop_eq_nil_of_le (by omega)]; rfl
      have hjn : ¬ (j : Int) < (s.length : Int) := by omega
      clear HL hlt
      go_wp2
      go_ret
      exact ⟨by rw [HF0.out]; rfl, HF.out⟩
end Go.Proofs.Ytnlhpndjogjejaa

/- The landed schema: appendText, appendType, appendFloat. -/
namespace Go.Proofs.Ytnlhpndjogjejaa
open Go.RowKit

/-- a slice of bytes of the call's own became another one: nothing else changed -/
structure Grew (w : World) (B : Nat) (v : Value) (w' : World) (v' : Value) (l : List UInt8) : Prop where
  has : Has w' B v' l
  aside : Aside (fun k => v.ownBlock = some k) w w'
  fresh : ∀ k, v'.ownBlock = some k → v.ownBlock = some k ∨ w.heap.size ≤ k
theorem Grew.refl {w : World} {B : Nat} {v : Value} {l : List UInt8} (h : Has w B v l) : Grew w B v w v l := ⟨h, Aside.refl _ _, fun _ hk => .inl hk⟩
theorem Grew.trans {w w1 w2 : World} {B : Nat} {v v1 v2 : Value} {l1 l2 : List UInt8} (h : Grew w B v w1 v1 l1) (k : Grew w1 B v1 w2 v2 l2) : Grew w B v w2 v2 l2 := by
  have hs := h.aside.size
  refine ⟨k.has, h.aside.trans k.aside (fun i hi hc => ?_), fun i hi => ?_⟩
  · rcases h.fresh i hc with h1 | h1
    · exact h1
    · omega
  · rcases k.fresh i hi with h1 | h1
    · rcases h.fresh i h1 with h2 | h2
      · exact .inl h2
      · exact .inr h2
    · exact .inr (by omega)
theorem Grew.on {w w1 w2 : World} {B : Nat} {v v1 : Value} {l : List UInt8} (h : Grew w B v w1 v1 l) (hb : Below w1.heap.size w1 w2) : Grew w B v w2 v1 l :=
  ⟨h.has.on hb, h.aside.trans (aside_new hb (fun _ => False)) (fun _ _ hc => hc.elim), h.fresh⟩
/-- from an earlier world on, of which nothing was changed -/
theorem Grew.from {w w0 w1 : World} {B : Nat} {v v1 : Value} {l l0 : List UInt8} (h : Grew w0 B v w1 v1 l) (hb : Below w.heap.size w w0) (_ : Has w B v l0) : Grew w B v w1 v1 l := by
  have hs := hb.size
  refine ⟨h.has, (aside_new hb (fun k => v.ownBlock = some k)).trans h.aside (fun _ _ hc => hc), fun k hk => ?_⟩
  rcases h.fresh k hk with h1 | h1
  · exact .inl h1
  · exact .inr (by omega)
theorem Grew.low {w w1 : World} {B : Nat} {v v1 : Value} {l l0 : List UInt8} (h : Grew w B v w1 v1 l) (h0 : Has w B v l0) (hB : B ≤ w.heap.size) : Below B w w1 := aside_low h.aside h0 hB
/-- what an append of bytes answers -/
def GrewV (w : World) (B : Nat) (v : Value) (l : List UInt8) (e : Ending) (w' : World) : Prop := ∃ q cap, e = .returned (.slice q l.length cap) ∧ Grew w B v w' (.slice q l.length cap) l

set_option maxHeartbeats 1000000 in
theorem appendTextK (v : Value) (xs : List UInt8) (t : ByteArray) (B : Nat) (w : World) (hv : Has w B v xs) (hB : B ≤ w.heap.size) (hx : xs.length ≤ 1000000) (ht : t.size ≤ 1024) :
    Calls Try.prog 97 #[v, .string t] w (GrewV w B v (xs ++ (Leb.put t.size ++ t.data.toList))) := by
  have HP := Lib.hid (put_any t.size (by omega))
  have hlen := Leb.put_length_le t.size
  obtain ⟨l0, hl0⟩ : ∃ l0, l0 = Leb.put t.size := ⟨_, rfl⟩
  rw [← hl0] at HP hlen ⊢
  have hts : (t.size : Int) ≤ 1024 := by omega
  have HV := Lib.hid hv
  clear hl0 hv
  go_enter Try.func97, Try.ntmps97
  go_wp2_with fail
  refine (HP.out _).mono ?_
  rintro e w1 ⟨g, cap, rfl, hm, hb⟩
  have HM := Lib.hid hm
  have HV1 := Lib.hid (HV.out.on hb)
  have HG0 := Lib.hid ((Grew.refl HV.out).on hb)
  have hB1 : B ≤ w1.heap.size := Nat.le_trans hB hb.size
  clear hm hb HP
  go_wp2_with (first
    | (at_builtin; refine wp_ontoL (B := B) HV1.out HM.out.at (by omega) hB1 rfl rfl rfl rfl rfl ?_; intro ys q3 cap3 W HY hH3 ha3 hb3; have hlY : ys.length ≤ 1000010 := by (rw [HY.out, List.length_append]; omega)
       have HH3 := Lib.hid hH3
       have HG1 : Hid (Grew w B v W (.slice q3 ys.length cap3) ys) := HG0.out.trans ⟨hH3, ha3, hb3⟩
       have hBW : B ≤ W.heap.size := Nat.le_trans hB1 ha3.size
       clear hH3 ha3 hb3)
    | (at_builtin; refine wp_ontoS (B := B) (t := t) HH3.out (by omega) hBW rfl rfl rfl rfl rfl ?_; intro ys2 q4 cap4 W2 HY2 hH4 ha4 hb4
       have HG2 : Hid (Grew w B v W2 (.slice q4 ys2.length cap4) ys2) := HG1.out.trans ⟨hH4, ha4, hb4⟩
       clear hH4 ha4 hb4))
  go_ret
  rw [HY.out, List.append_assoc] at HY2
  rw [← HY2.out]
  exact ⟨q4, cap4, rfl, HG2.out⟩

theorem tyB_len4 {x : Ty} {d : Nat} (h : Ty.check d x = 0) : (Sch.tyB x).length ≤ 5 := by have := Sch.tyB_len x d h; omega
theorem one_atK (w : World) (z : Int) (c : UInt8) (hz : z = (c.toNat : Int)) : At (w.alloc (.cells #[.int .u8 z] 5)) (some ⟨w.heap.size, 0, none⟩) [c] := by
  obtain ⟨p, cc, he, hat, -⟩ := (has_lit (B := 0) (w := w) [c] (C := #[.int .u8 z]) (by rw [hz]; rfl) (Nat.zero_le _) (by simp)).at
  injection he with he
  rw [he]; exact hat
/-- one byte more, out of a block that was just made -/
theorem wp_pushG {B : Nat} {v : Value} {xs : List UInt8} {w : World} {H : Nat} (hH : w.heap.size = H) (hown : Has w B v xs) (c : UInt8) (hlen : xs.length + 1 ≤ 140737488355328) (hB : B ≤ w.heap.size)
    {z : Int} {ops : Array Oper} {rest : List Oper} {o : Oper} {a : Act} {Q : Exit → Act → World → Prop} {s x : Operand}
    (hz : z = (c.toNat : Int)) (ht : o.type = 28) (hg : o.guard = none) (hop : o.op = Op.call { callee := Callee.builtin Builtin.append, args := #[s, x], argTypes := #[28, 28] })
    (hs : a.eval s = v) (hx : a.eval x = .slice (some ⟨H, 0, none⟩) 1 1)
    (hK : ∀ q cap W ys, Hid (ys = xs ++ [c]) → Grew w B v W (.slice q ys.length cap) ys → wpList Try.prog ops Q rest (a.put o.dst (.slice q ys.length cap)) W) :
    wpList Try.prog ops Q (o :: rest) a (w.alloc (.cells #[.int .u8 z] 5)) := by
  subst hH
  have hb : Below w.heap.size w (w.alloc (.cells #[.int .u8 z] 5)) := (Below.refl _ _).alloc (Nat.le_refl _) _
  refine wp_ontoL (hown.alloc _) (one_atK w z c hz) (by simpa using hlen) (Nat.le_trans hB hb.size) ht hg hop hs hx ?_
  intro ys q cap W hy h1 h2 h3
  exact hK q cap W ys hy (Grew.from ⟨h1, h2, h3⟩ hb hown)

set_option maxRecDepth 100000 in
set_option maxHeartbeats 1000000 in
theorem appendTypeK : ∀ (x : Ty) (d : Nat) (w0 w : World) (u : Array Value) (v : Value) (xs : List UInt8), Ty.check d x = 0 → TLies w0 u x → Below w0.heap.size w0 w → Has w w0.heap.size v xs → xs.length + 5 * (5 - d) ≤ 1000000 → Calls Try.prog 98 #[v, .agg u] w (GrewV w w0.heap.size v (xs ++ Sch.tyB x)) := by
  intro x
  refine Ty.ind (P := fun x => ∀ (d : Nat) (w0 w : World) (u : Array Value) (v : Value) (xs : List UInt8), Ty.check d x = 0 → TLies w0 u x → Below w0.heap.size w0 w → Has w w0.heap.size v xs → xs.length + 5 * (5 - d) ≤ 1000000 → Calls Try.prog 98 #[v, .agg u] w (GrewV w w0.heap.size v (xs ++ Sch.tyB x))) ?_ x
  rintro k ts ih d w0 w u v xs hd hx hb0 hv hlen
  obtain ⟨p, c, rfl, hxl, hxc, hxi⟩ := hx.open
  unfold cells2
  have hBs := hb0.size
  have hB1 : Below w.heap.size w (w.alloc (.cells #[.int .i64 k, .slice p ts.length c] 43)) := (Below.refl _ _).alloc (Nat.le_refl _) _
  have HB1 := Lib.hid hB1
  have HB0 := Lib.hid hb0
  have HV := Lib.hid hv
  clear hB1 hx hb0 hv
  obtain ⟨hd4, hk, htt⟩ := Sch.ty_open hd
  obtain ⟨hk1, hk7⟩ := hk
  have hcn := Sch.kind_byte ⟨hk1, hk7⟩
  obtain ⟨c0, hc0⟩ : ∃ c0, c0 = UInt8.ofNat k.toNat := ⟨_, rfl⟩
  have hkz : k = (c0.toNat : Int) := by rw [hc0, hcn]; omega
  have HKz := Lib.hid hkz
  have HH1 := Lib.hid (HV.out.on HB1.out)
  have hB1s : w0.heap.size ≤ (w.alloc (.cells #[.int .i64 k, .slice p ts.length c] 43)).heap.size := Nat.le_trans hBs HB1.out.size
  have HT : Hid (Sch.tyB (.mk k ts) = [c0] ++ (ts.map Sch.tyB).flatten ∧ ts.length ≤ 1 ∧ ∀ y ∈ ts, Ty.check (d + 1) y = 0) := by
    show _ ∧ _ ∧ _
    rcases htt with ⟨h67, rfl⟩ | ⟨h67, y, rfl, hy⟩
    · exact ⟨by rw [Sch.tyB_mk, if_neg h67, hc0]; rfl, by simp, fun y hy => by cases hy⟩
    · refine ⟨by rw [Sch.tyB_mk, if_pos h67, hc0]; simp, by simp, fun z hz => ?_⟩
      rw [List.mem_singleton] at hz
      rw [hz]; exact hy
  have HX : Hid (∀ j (hj : j < ts.length), ∃ u', TLies w0 u' ts[j] ∧ ItemT w0 p j u') := hxi
  have HIH := Lib.hid ih
  have HAt : Hid (At ((w.alloc (.cells #[.int .i64 k, .slice p ts.length c] 43)).alloc (.cells #[.int .u8 k] 5)) (some ⟨w.heap.size + 1, 0, none⟩) [c0]) := by
    show At _ _ _
    have := one_atK (w.alloc (.cells #[.int .i64 k, .slice p ts.length c] 43)) k c0 HKz.out
    simpa using this
  clear ih hxi hd hkz hcn hc0 htt
  go_enter Try.func98, Try.ntmps98
  go_wp2_with (first
    | (at_builtin; refine wp_ontoL (B := w0.heap.size) (l := [c0]) (HH1.out.alloc _) HAt.out (by simp; omega) (Nat.le_trans hB1s (by simp)) rfl rfl rfl rfl rfl ?_
       intro ys q3 cap3 W HY hH3 ha3 hb3
       have HG1 : Hid (Grew w w0.heap.size v W (.slice q3 ys.length cap3) ys) := by
         refine Grew.from (w0 := (w.alloc (.cells #[.int .i64 k, .slice p ts.length c] 43)).alloc (.cells #[.int .u8 k] 5)) ⟨hH3, ha3, hb3⟩ ?_ HV.out
         exact HB1.out.alloc HB1.out.size _
       have c1 : W.cell? ⟨w.heap.size, 1, none⟩ = some (.slice p ts.length c) := by
         rw [ha3.cell (by simp; omega) (fun hc => by have := (HV.out.lt _ hc).2; simp at this)]
         simp
       clear hH3 ha3 hb3))
  have HY0 : Hid (ys = xs ++ ([c0] ++ ((ts.take 0).map Sch.tyB).flatten)) := by show _ = _; rw [HY.out]; simp
  clear HY HAt HH1 c1
  go_loopw [0, 16] (fun v0 v16 wr => ∃ (j : Nat) (zs : List UInt8) (q : Option Addr) (cap : Nat), j ≤ ts.length ∧ v16 = .int .i64 j ∧ v0 = .slice q zs.length cap ∧ Hid (zs = xs ++ ([c0] ++ ((ts.take j).map Sch.tyB).flatten) ∧ Grew w w0.heap.size v wr (.slice q zs.length cap) zs)) (fun _ v16 _ => ts.length - (intOf v16).toNat)
  case atStart => exact ⟨0, ys, q3, cap3, by omega, rfl, rfl, HY0.out, HG1.out⟩
  case round =>
    obtain ⟨j, zs, q, cap, hj, rfl, rfl, HL⟩ := hrel
    have hbr : Below w0.heap.size w0 wr := HB0.out.trans (HL.out.2.low HV.out hBs)
    by_cases hlt : j < ts.length
    · obtain ⟨ux, hvx, hix⟩ := HX.out j hlt
      obtain ⟨bx, ox, kx, qx, nx, cx, rfl, _, rfl, a0, a1⟩ := (hix.on hbr).lies
      have hj1 : (j : Int) < (ts.length : Int) := by omega
      have hj0 : j = 0 := by have := HT.out.2.1; omega
      have hz1 : zs.length = xs.length + 1 := by rw [HL.out.1, hj0]; simp
      obtain ⟨wa, hwa⟩ : ∃ wa, wa = wr.alloc (.cells #[.int .i64 kx, .slice qx nx cx] 43) := ⟨_, rfl⟩
      have HBa : Hid (Below wr.heap.size wr wa) := by rw [hwa]; exact (Below.refl _ _).alloc (Nat.le_refl _) _
      have HC := Lib.hid (HIH.out _ (List.getElem_mem hlt) (d + 1) w0 wa _ (.slice q zs.length cap) zs (HT.out.2.2 _ (List.getElem_mem hlt)) hvx (hbr.trans (HBa.out.mono hbr.size)) (HL.out.2.has.on HBa.out) (by omega))
      have HGa := Lib.hid (HL.out.2.on HBa.out)
      have HZ : Hid (zs ++ Sch.tyB ts[j] = xs ++ ([c0] ++ ((ts.take (j + 1)).map Sch.tyB).flatten)) := by
        show _ = _
        rw [HL.out.1, Sch.flatten_take Sch.tyB ts j hlt]
        simp
      obtain ⟨l2, hl2⟩ : ∃ l, l = zs ++ Sch.tyB ts[j] := ⟨_, rfl⟩
      rw [← hl2] at HC HZ
      unfold cells2 at HC
      have HWa := Lib.hid hwa
      clear hvx hix hbr HL hwa hl2 hj0 hz1
      go_wp2_with fail
      rw [← HWa.out]
      clear HWa a0 a1
      refine HC.out.mono ?_
      rintro e w2 ⟨q2, cap2, rfl, hg2⟩
      have HG2 := Lib.hid (HGa.out.trans hg2)
      clear hg2 HC HGa
      go_wp2
      go_roundw
      case rel => exact ⟨j + 1, l2, q2, cap2, by omega, by go_num, rfl, HZ.out, HG2.out⟩
      case measure => simp [intOf]; omega
    · have hjn : ¬ (j : Int) < (ts.length : Int) := by omega
      have HE : Hid (xs ++ Sch.tyB (.mk k ts) = zs) := by
        show _ = _
        rw [HL.out.1, HT.out.1, List.take_of_length_le (by omega)]
      have HG := Lib.hid HL.out.2
      clear HL hbr
      go_wp2
      go_ret
      rw [HE.out]
      exact ⟨q, cap, rfl, HG.out⟩

set_option maxRecDepth 100000 in
set_option maxHeartbeats 1000000 in
theorem appendFloatK (v : Value) (xs : List UInt8) (b : Nat) (hb64 : b < 18446744073709551616) (B : Nat) (w : World) (hv : Has w B v xs) (hB : B ≤ w.heap.size) (hx : xs.length ≤ 1000000) :
    Calls Try.prog 117 #[v, .float .f64 b] w (GrewV w B v (xs ++ Sch.le 8 (fixB b))) := by
  have hf := Sch.fixB_lt hb64
  have HBits := Lib.hid (realBits_any b)
  generalize fixB b = m at *
  have HS : Hid (Eight m [] m) := ⟨by simp, hf, rfl⟩
  have HV := Lib.hid hv
  obtain ⟨q0, cap0, rfl, -, -⟩ := hv.at
  clear hf hb64 hv
  go_enter Try.func117, Try.ntmps117
  go_wp2_with fail
  refine (HBits.out _).mono ?_
  rintro e w1 ⟨rfl, hw1⟩
  rw [hw1]
  clear hw1 w1
  go_wp2_with fail
  go_loopw [0, 5, 8] (fun v0 v5 v8 wr => ∃ (n : Nat) (es zs : List UInt8) (q : Option Addr) (cap : Nat), v0 = .slice q zs.length cap ∧ v5 = .int .u64 n ∧ v8 = .int .i64 es.length ∧ es.length ≤ 8 ∧ n < 18446744073709551616 ∧ Hid (Eight m es n ∧ zs = xs ++ es ∧ Grew w B (.slice q0 xs.length cap0) wr (.slice q zs.length cap) zs)) (fun _ _ v8 _ => 8 - (intOf v8).toNat)
  case atStart => exact ⟨m, [], xs, q0, cap0, rfl, rfl, rfl, by simp, HS.out.2.1, HS.out, by simp, Grew.refl HV.out⟩
  case round =>
    obtain ⟨z, es, zs, q, cap, rfl, rfl, rfl, h8, hz, HK⟩ := hrel
    have hBr : B ≤ wr.heap.size := Nat.le_trans hB HK.out.2.2.aside.size
    have HZl : Hid (zs.length = xs.length + es.length) := by show _ = _; rw [HK.out.2.1, List.length_append]
    by_cases hlt : es.length < 8
    · have hlt' : (es.length : Int) < 8 := by omega
      have HN := Lib.hid (eight_next HK.out.1 hlt)
      have hcn : (UInt8.ofNat (z % 256)).toNat = z % 256 := by rw [UInt8.toNat_ofNat']; omega
      generalize UInt8.ofNat (z % 256) = c1 at hcn HN
      have HO := Lib.hid HK.out.2.2.has
      go_wp2_with (first
        | (at_builtin; refine wp_pushG rfl HO.out c1 (by have := HZl.out; omega) hBr (by omega) rfl rfl rfl rfl rfl ?_
           intro q2 cap2 W ys HY hg2
           have HG2 := Lib.hid (HK.out.2.2.trans hg2)
           clear hg2))
      go_roundw
      case rel => exact ⟨z / 256, es ++ [c1], ys, q2, cap2, rfl, by go_num, by simp, by simp; omega, by omega, HN.out, by rw [HY.out, HK.out.2.1, List.append_assoc], HG2.out⟩
      case measure => simp [intOf]; omega
    · have hjn : ¬ (es.length : Int) < 8 := by omega
      have he : Sch.le 8 m = es := by
        rw [HK.out.1.2.2, show 8 - es.length = 0 by omega]
        simp [Sch.le]
      have HE : Hid (xs ++ Sch.le 8 m = zs) := by show _ = _; rw [he, HK.out.2.1]
      have HF := Lib.hid HK.out.2.2
      clear HK he
      go_wp2
      go_ret
      rw [HE.out]
      exact ⟨q, cap, rfl, HF.out⟩
end Go.Proofs.Ytnlhpndjogjejaa

/- The landed schema: appendItems, appendValue. -/
namespace Go.Proofs.Ytnlhpndjogjejaa
open Go.RowKit

attribute [local go_sem] run_store_float

/-- bytes put behind others; what is too long already need not grow on -/
structure PutV (xs full ys : List UInt8) : Prop where
  eq : ys = xs ++ full ∨ (1024 < ys.length ∧ 1024 < (xs ++ full).length)
  len : ys.length ≤ max xs.length 1024 + 1034
theorem PutV.all {xs full : List UInt8} (h : full.length ≤ 1034) : PutV xs full (xs ++ full) := ⟨.inl rfl, by rw [List.length_append]; omega⟩
/-- what such a call answers -/
def PutA (w : World) (B : Nat) (v : Value) (xs full : List UInt8) (e : Ending) (w' : World) : Prop := ∃ ys q cap, PutV xs full ys ∧ e = .returned (.slice q ys.length cap) ∧ Grew w B v w' (.slice q ys.length cap) ys
theorem putA_of {w w' : World} {B : Nat} {v : Value} {xs full : List UInt8} {e : Ending} (h : GrewV w B v (xs ++ full) e w') (hl : full.length ≤ 1034) : PutA w B v xs full e w' := by
  obtain ⟨q, cap, h1, h2⟩ := h
  exact ⟨_, q, cap, PutV.all hl, h1, h2⟩
/-- what was asked of the items -/
def ItemsOk (items : List V) : Prop := ∀ x ∈ items, ∀ (w0 w : World) (u : Array Value) (v : Value) (xs : List UInt8), VLies w0 u x → Below w0.heap.size w0 w → Has w w0.heap.size v xs → xs.length ≤ 100000 → Calls Try.prog 99 #[v, .agg u] w (PutA w w0.heap.size v xs (Sch.vB x))

set_option maxRecDepth 100000 in
set_option maxHeartbeats 1000000 in
theorem appendItemsK (items : List V) (hn : items.length ≤ 256) (ih : ItemsOk items) (p : Option Addr) (c : Nat) (w0 w : World) (v : Value) (xs : List UInt8) (hx : Items w0 p items) (hb0 : Below w0.heap.size w0 w) (hv : Has w w0.heap.size v xs) (hlen : xs.length ≤ 100000) :
    Calls Try.prog 118 #[v, .slice p items.length c] w (PutA w w0.heap.size v xs (Leb.put items.length ++ (items.map Sch.vB).flatten)) := by
  have HP := Lib.hid (put_any items.length (by omega))
  have hpl := Leb.put_length_le items.length
  obtain ⟨l0, hl0⟩ : ∃ l0, l0 = Leb.put items.length := ⟨_, rfl⟩
  rw [← hl0] at HP hpl ⊢
  have hn' : (items.length : Int) ≤ 256 := by omega
  have HV := Lib.hid hv
  have HX := Lib.hid hx
  have HIH := Lib.hid ih
  have HB0 := Lib.hid hb0
  have hBs := hb0.size
  obtain ⟨q0, cap0, rfl, -, -⟩ := hv.at
  clear hl0 hv hx ih hb0
  go_enter Try.func118, Try.ntmps118
  go_wp2_with fail
  refine (HP.out _).mono ?_
  rintro e w1 ⟨g, cap, rfl, hm, hb⟩
  have HM := Lib.hid hm
  have HV1 := Lib.hid (HV.out.on hb)
  have HG0 := Lib.hid ((Grew.refl HV.out).on hb)
  have hB1 : w0.heap.size ≤ w1.heap.size := Nat.le_trans hBs hb.size
  clear hm hb HP
  go_wp2_with (first
    | (at_builtin; refine wp_ontoL (B := w0.heap.size) HV1.out HM.out.at (by omega) hB1 rfl rfl rfl rfl rfl ?_; intro ys q3 cap3 W HY hH3 ha3 hb3
       have HG1 : Hid (Grew w w0.heap.size (.slice q0 xs.length cap0) W (.slice q3 ys.length cap3) ys) := HG0.out.trans ⟨hH3, ha3, hb3⟩
       clear hH3 ha3 hb3))
  have HY0 : Hid ((ys = xs ++ (l0 ++ ((items.take 0).map Sch.vB).flatten) ∨ (1024 < ys.length ∧ 1024 < (xs ++ (l0 ++ ((items.take 0).map Sch.vB).flatten)).length)) ∧ ys.length ≤ max xs.length 1024 + 1034) := by
    refine ⟨.inl ?_, ?_⟩
    · rw [HY.out]; simp
    · rw [HY.out, List.length_append]; omega
  clear HY HM HV1 HG0
  go_loopw [0, 15] (fun v0 v15 wr => ∃ (j : Nat) (zs : List UInt8) (q : Option Addr) (cap : Nat), j ≤ items.length ∧ v15 = .int .i64 j ∧ v0 = .slice q zs.length cap ∧ zs.length ≤ 200000 ∧ Hid (((zs = xs ++ (l0 ++ ((items.take j).map Sch.vB).flatten) ∨ (1024 < zs.length ∧ 1024 < (xs ++ (l0 ++ ((items.take j).map Sch.vB).flatten)).length)) ∧ zs.length ≤ max xs.length 1024 + 1034) ∧ Grew w w0.heap.size (.slice q0 xs.length cap0) wr (.slice q zs.length cap) zs)) (fun _ v15 _ => items.length - (intOf v15).toNat)
  case atStart => exact ⟨0, ys, q3, cap3, by omega, rfl, rfl, by have := HY0.out.2; omega, HY0.out, HG1.out⟩
  case round =>
    obtain ⟨j, zs, q, cap, hj, rfl, rfl, hzl, HL⟩ := hrel
    have hbr : Below w0.heap.size w0 wr := HB0.out.trans (HL.out.2.low HV.out hBs)
    by_cases hlt : j < items.length
    · obtain ⟨ux, hvx, hix⟩ := HX.out j hlt
      obtain ⟨bx, ox, kx, ix, fx, tx, qx, nx, cx, rfl, _, rfl, a0, a1, a2, a3, a4⟩ := (hix.on hbr).lies
      have hj1 : (j : Int) < (items.length : Int) := by omega
      obtain ⟨wa, hwa⟩ : ∃ wa, wa = wr.alloc (.cells #[.int .i64 kx, .int .i64 ix, .float .f64 fx, .string tx, .slice qx nx cx] 46) := ⟨_, rfl⟩
      have HBa : Hid (Below wr.heap.size wr wa) := by rw [hwa]; exact (Below.refl _ _).alloc (Nat.le_refl _) _
      have HAs : Hid (wa.cell? ⟨wr.heap.size, 0, none⟩ = some (.int .i64 kx) ∧ wa.cell? ⟨wr.heap.size, 1, none⟩ = some (.int .i64 ix) ∧ wa.cell? ⟨wr.heap.size, 2, none⟩ = some (.float .f64 fx) ∧ wa.cell? ⟨wr.heap.size, 3, none⟩ = some (.string tx) ∧ wa.cell? ⟨wr.heap.size, 4, none⟩ = some (.slice qx nx cx)) := by rw [hwa]; exact ⟨by simp, by simp, by simp, by simp, by simp⟩
      have HGa := Lib.hid (HL.out.2.on HBa.out)
      have HWa := Lib.hid hwa
      by_cases hbig : 1024 < zs.length
      · have gb : (1024 : Int) < (zs.length : Int) := by omega
        have HPv : Hid (PutV xs (l0 ++ (items.map Sch.vB).flatten) zs) := by
          refine ⟨.inr ⟨hbig, ?_⟩, HL.out.1.2⟩
          have h1 := Sch.flatten_take_le Sch.vB items j
          rw [List.length_append, List.length_append]
          rcases HL.out.1.1 with h2 | h2
          · rw [h2, List.length_append, List.length_append] at hbig
            omega
          · have h3 := h2.2
            rw [List.length_append, List.length_append] at h3
            omega
        clear hvx hix hbr HL hwa HAs hbig
        go_wp2
        go_ret
        rw [← HWa.out]
        exact ⟨zs, q, cap, HPv.out, rfl, HGa.out⟩
      · have gb : ¬ (1024 : Int) < (zs.length : Int) := by omega
        have HC := Lib.hid (HIH.out _ (List.getElem_mem hlt) w0 wa _ (.slice q zs.length cap) zs hvx (hbr.trans (HBa.out.mono hbr.size)) (HL.out.2.has.on HBa.out) (by omega))
        unfold cells5 at HC
        have HZ : Hid (zs = xs ++ (l0 ++ ((items.take j).map Sch.vB).flatten)) := by
          rcases HL.out.1.1 with h2 | h2
          · exact h2
          · exact absurd h2.1 hbig
        have HTk := Lib.hid (Sch.flatten_take Sch.vB items j hlt)
        have hzs : zs.length ≤ 1024 := by omega
        obtain ⟨full, hfull⟩ : ∃ l, l = Sch.vB items[j] := ⟨_, rfl⟩
        rw [← hfull] at HC HTk
        clear hvx hix hbr HL hwa hbig hfull
        go_wp2_with fail
        rw [← HWa.out]
        clear HWa a0 a1 a2 a3 a4 HAs
        refine HC.out.mono ?_
        rintro e w2 ⟨ys2, q2, cap2, hpv, rfl, hg2⟩
        have HG2 := Lib.hid (HGa.out.trans hg2)
        have HZ2 : Hid ((ys2 = xs ++ (l0 ++ ((items.take (j + 1)).map Sch.vB).flatten) ∨ (1024 < ys2.length ∧ 1024 < (xs ++ (l0 ++ ((items.take (j + 1)).map Sch.vB).flatten)).length)) ∧ ys2.length ≤ max xs.length 1024 + 1034) := by
          have e1 : xs ++ (l0 ++ ((items.take (j + 1)).map Sch.vB).flatten) = zs ++ full := by rw [HTk.out, HZ.out]; simp
          rw [e1]
          refine ⟨hpv.eq, ?_⟩
          have := hpv.len
          omega
        have hys : ys2.length ≤ 200000 := by have := HZ2.out.2; omega
        clear hg2 HC HGa hpv HTk HZ
        go_wp2
        go_roundw
        case rel => exact ⟨j + 1, ys2, q2, cap2, by omega, by go_num, rfl, hys, HZ2.out, HG2.out⟩
        case measure => simp [intOf]; omega
    · have hjn : ¬ (j : Int) < (items.length : Int) := by omega
      have HPv : Hid (PutV xs (l0 ++ (items.map Sch.vB).flatten) zs) := by
        have h1 := HL.out.1
        rw [List.take_of_length_le (by omega)] at h1
        exact ⟨h1.1, h1.2⟩
      have HG := Lib.hid HL.out.2
      clear HL hbr
      go_wp2
      go_ret
      exact ⟨zs, q, cap, HPv.out, rfl, HG.out⟩
end Go.Proofs.Ytnlhpndjogjejaa
