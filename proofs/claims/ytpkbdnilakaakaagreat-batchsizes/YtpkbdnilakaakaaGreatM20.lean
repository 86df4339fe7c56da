/- KSame, WColR, WBytesR, K7Eight: put together. -/
import Derived.Test.YtpkbdnilakaakaaGreatM06
import Derived.Test.YtpkbdnilakaakaaGreatM05
import Derived.Test.YtpkbdnilakaakaaGreatM15
import Derived.Test.YtpkbdnilakaakaaGreatM02
import Derived.Test.YtpkbdnilakaakaaGreatM04
import Derived.Test.YtpkbdnilakaakaaGreatM11

/- Package value's Same and SameRow. -/
namespace Go.Proofs.YtpkbdnilakaakaaGreat
open Go.RowKit

attribute [local go_sem] run_store_float

set_option maxRecDepth 100000 in
set_option maxHeartbeats 1000000 in
theorem sameK : ∀ (x y : V) (w : World) (u v : Array Value), VLies w u x → VLies w v y → Calls Tryz.prog 138 #[.agg u, .agg v] w fun e w' => e = .returned (.bool (V.same x y)) ∧ Below w.heap.size w w' := by
  intro x
  refine V.ind (P := fun x => ∀ (y : V) (w : World) (u v : Array Value), VLies w u x → VLies w v y → Calls Tryz.prog 138 #[.agg u, .agg v] w fun e w' => e = .returned (.bool (V.same x y)) ∧ Below w.heap.size w w') ?_ x
  rintro k i b t xs ih ⟨k', i', b', t', ys⟩ w u v hx hy
  obtain ⟨p, c, rfl, hxl, hxc, hxi⟩ := hx.open
  obtain ⟨q, d, rfl, hyl, hyc, hyi⟩ := hy.open
  unfold cells5
  have hB2 : Below w.heap.size w ((w.alloc (.cells #[.int .i64 k, .int .i64 i, .float .f64 b, .string t, .slice p xs.length c] 44)).alloc (.cells #[.int .i64 k', .int .i64 i', .float .f64 b', .string t', .slice q ys.length d] 44)) := ((Below.refl _ _).alloc (Nat.le_refl _) _).alloc (by simp) _
  have HB2 := Lib.hid hB2
  clear hB2 hx hy
  by_cases h1 : ¬ k = k'
  · have g1 := bne_t h1
    have HE : Hid (V.same (.mk k i b t xs) (.mk k' i' b' t' ys) = false) := by show _ = _; simp [V.same_mk, h1]
    clear ih hxi hyi h1
    go_enter Tryz.func138, Tryz.ntmps138
    go_wp2
    go_ret
    exact ⟨by rw [HE.out]; rfl, HB2.out⟩
  replace h1 : k = k' := Classical.not_not.1 h1
  have g1 := bne_f h1
  by_cases h2 : ¬ i = i'
  · have g2 := bne_t h2
    have HE : Hid (V.same (.mk k i b t xs) (.mk k' i' b' t' ys) = false) := by show _ = _; simp [V.same_mk, h2]
    clear ih hxi hyi h1 h2
    go_enter Tryz.func138, Tryz.ntmps138
    go_wp2
    go_ret
    exact ⟨by rw [HE.out]; rfl, HB2.out⟩
  replace h2 : i = i' := Classical.not_not.1 h2
  have g2 := bne_f h2
  by_cases h3 : ¬ t = t'
  · have g3 : (t.toList == t'.toList) = false := by rw [text_eq, decide_eq_false h3]
    have HE : Hid (V.same (.mk k i b t xs) (.mk k' i' b' t' ys) = false) := by show _ = _; simp [V.same_mk, h3]
    clear ih hxi hyi h1 h2 h3
    go_enter Tryz.func138, Tryz.ntmps138
    go_wp2
    go_ret
    exact ⟨by rw [HE.out]; rfl, HB2.out⟩
  replace h3 : t = t' := Classical.not_not.1 h3
  have g3 : (t.toList == t'.toList) = true := by rw [text_eq, decide_eq_true h3]
  have HRS := Lib.hid (realSame_any b b')
  by_cases h4 : ¬ fixB b = fixB b'
  · have g4 : ((fixB b : Int) == (fixB b' : Int)) = false := beq_f (by omega)
    rw [g4] at HRS
    have HE : Hid (V.same (.mk k i b t xs) (.mk k' i' b' t' ys) = false) := by show _ = _; simp [V.same_mk, h4]
    clear ih hxi hyi h1 h2 h3 h4
    go_enter Tryz.func138, Tryz.ntmps138
    go_wp2_with fail
    refine (HRS.out _).mono ?_
    rintro e w1 ⟨rfl, hw1⟩
    rw [hw1]
    clear hw1 w1
    go_wp2
    go_ret
    exact ⟨by rw [HE.out]; rfl, HB2.out⟩
  replace h4 : fixB b = fixB b' := Classical.not_not.1 h4
  have g4 : ((fixB b : Int) == (fixB b' : Int)) = true := beq_t (by omega)
  rw [g4] at HRS
  by_cases h5 : ¬ xs.length = ys.length
  · have g5 : ((xs.length : Int) != (ys.length : Int)) = true := bne_t (by omega)
    have HE : Hid (V.same (.mk k i b t xs) (.mk k' i' b' t' ys) = false) := by show _ = _; simp [V.same_mk, V.sameL_ne xs ys h5]
    clear ih hxi hyi h1 h2 h3 h4 h5
    go_enter Tryz.func138, Tryz.ntmps138
    go_wp2_with fail
    refine (HRS.out _).mono ?_
    rintro e w1 ⟨rfl, hw1⟩
    rw [hw1]
    clear hw1 w1
    go_wp2
    go_ret
    exact ⟨by rw [HE.out]; rfl, HB2.out⟩
  replace h5 : xs.length = ys.length := Classical.not_not.1 h5
  have g5 : ((xs.length : Int) != (ys.length : Int)) = false := bne_f (by omega)
  have HE : Hid (V.same (.mk k i b t xs) (.mk k' i' b' t' ys) = V.sameL xs ys) := by show _ = _; simp [V.same_mk, h1, h2, h3, h4]
  have HX : Hid (Items w p xs) := hxi
  have HY : Hid (Items w q ys) := hyi
  have HIH := Lib.hid ih
  have H5 := Lib.hid h5
  clear ih hxi hyi h1 h2 h3 h4 h5
  obtain ⟨W0, hW0⟩ : ∃ W0, W0 = (w.alloc (.cells #[.int .i64 k, .int .i64 i, .float .f64 b, .string t, .slice p xs.length c] 44)).alloc (.cells #[.int .i64 k', .int .i64 i', .float .f64 b', .string t', .slice q ys.length d] 44) := ⟨_, rfl⟩
  have Y4 : Hid (W0.cell? ⟨w.heap.size + 1, 4, none⟩ = some (.slice q ys.length d)) := by show _ = _; rw [hW0]; simp
  have HB0 : Hid (Below w.heap.size w W0) := by rw [hW0]; exact HB2.out
  have HW0 := Lib.hid hW0
  clear HB2 hW0
  go_enter Tryz.func138, Tryz.ntmps138
  go_wp2_with fail
  refine (HRS.out _).mono ?_
  rintro e w1 ⟨rfl, hw1⟩
  rw [hw1]
  clear hw1 w1
  go_wp2_with fail
  rw [← HW0.out]
  clear HW0
  go_loopw [44] (fun v44 wr => ∃ j : Nat, j ≤ xs.length ∧ v44 = .int .i64 j ∧ Hid (Below W0.heap.size W0 wr ∧ ∀ m (h1 : m < xs.length) (h2 : m < ys.length), m < j → V.same xs[m] ys[m] = true)) (fun v44 _ => xs.length - (intOf v44).toNat)
  case atStart => exact ⟨0, by omega, rfl, Below.refl _ _, fun m _ _ h => by omega⟩
  case round =>
    obtain ⟨j, hj, rfl, HL⟩ := hrel
    have hbw : Below w.heap.size w wr := HB0.out.trans (HL.out.1.mono HB0.out.size)
    by_cases hlt : j < xs.length
    · have hlt2 : j < ys.length := by have := H5.out; omega
      obtain ⟨ux, hvx, hix⟩ := HX.out j hlt
      obtain ⟨uy, hvy, hiy⟩ := HY.out j hlt2
      obtain ⟨bx, ox, kx, ix, fx, tx, qx, nx, cx, rfl, _, rfl, a0, a1, a2, a3, a4⟩ := (hix.on hbw).lies
      obtain ⟨by', oy, ky, iy, fy, ty, qy, ny, cy, rfl, _, rfl, b0, b1, b2, b3, b4⟩ := (hiy.on hbw).lies
      have HC : Hid (∀ w', Below w.heap.size w w' → Calls Tryz.prog 138 #[.agg #[.int .i64 kx, .int .i64 ix, .float .f64 fx, .string tx, .slice qx nx cx], .agg #[.int .i64 ky, .int .i64 iy, .float .f64 fy, .string ty, .slice qy ny cy]] w' fun e w'' => e = .returned (.bool (V.same xs[j] ys[j])) ∧ Below w'.heap.size w' w'') :=
        fun w' hb => HIH.out _ (List.getElem_mem hlt) ys[j] w' _ _ (hvx.on hb) (hvy.on hb)
      have HAll := Lib.hid HL.out.2
      have hj1 : (j : Int) < (xs.length : Int) := by omega
      have hj2 : (j : Int) < (ys.length : Int) := by omega
      obtain ⟨r, hr⟩ : ∃ r, r = V.same xs[j] ys[j] := ⟨_, rfl⟩
      rw [← hr] at HC
      have HRr := Lib.hid hr
      obtain ⟨wa, hwa⟩ : ∃ wa, wa = wr.alloc (.cells #[.int .i64 kx, .int .i64 ix, .float .f64 fx, .string tx, .slice qx nx cx] 44) := ⟨_, rfl⟩
      have HBa : Hid (Below wr.heap.size wr wa) := by rw [hwa]; exact (Below.refl _ _).alloc (Nat.le_refl _) _
      have HBw : Hid (Below w.heap.size w wa) := hbw.trans (HBa.out.mono hbw.size)
      have HBW : Hid (Below W0.heap.size W0 wa) := HL.out.1.trans (HBa.out.mono HL.out.1.size)
      have HWa := Lib.hid hwa
      have HY4 : Hid (wa.cell? ⟨w.heap.size + 1, 4, none⟩ = some (.slice (some ⟨by', oy, none⟩) ys.length d)) := cell_on HBW.out Y4.out
      have HBs : Hid (wa.cell? ⟨by', oy + j * 5, none⟩ = some (.int .i64 ky) ∧ wa.cell? ⟨by', oy + j * 5 + 1, none⟩ = some (.int .i64 iy) ∧ wa.cell? ⟨by', oy + j * 5 + 2, none⟩ = some (.float .f64 fy) ∧ wa.cell? ⟨by', oy + j * 5 + 3, none⟩ = some (.string ty) ∧ wa.cell? ⟨by', oy + j * 5 + 4, none⟩ = some (.slice qy ny cy)) :=
        ⟨cell_on HBa.out b0, cell_on HBa.out b1, cell_on HBa.out b2, cell_on HBa.out b3, cell_on HBa.out b4⟩
      have HAs : Hid (wa.cell? ⟨wr.heap.size, 0, none⟩ = some (.int .i64 kx) ∧ wa.cell? ⟨wr.heap.size, 1, none⟩ = some (.int .i64 ix) ∧ wa.cell? ⟨wr.heap.size, 2, none⟩ = some (.float .f64 fx) ∧ wa.cell? ⟨wr.heap.size, 3, none⟩ = some (.string tx) ∧ wa.cell? ⟨wr.heap.size, 4, none⟩ = some (.slice qx nx cx)) := by rw [hwa]; exact ⟨by simp, by simp, by simp, by simp, by simp⟩
      clear hvx hvy hix hiy hbw HL hr hwa b0 b1 b2 b3 b4
      go_wp2_with fail
      rw [← HWa.out]
      obtain ⟨c0, c1, c2, c3, c4⟩ := HAs.out
      obtain ⟨d0, d1, d2, d3, d4⟩ := HBs.out
      have d5 := HY4.out
      clear HAs HBs HY4 HWa a0 a1 a2 a3 a4
      go_region_held3 (fun w' => w'.cell? ⟨wr.heap.size, 0, none⟩ = some (.int .i64 kx) ∧ w'.cell? ⟨wr.heap.size, 1, none⟩ = some (.int .i64 ix) ∧ w'.cell? ⟨wr.heap.size, 2, none⟩ = some (.float .f64 fx) ∧ w'.cell? ⟨wr.heap.size, 3, none⟩ = some (.string tx) ∧ w'.cell? ⟨wr.heap.size, 4, none⟩ = some (.slice qx nx cx) ∧ w'.cell? ⟨by', oy + j * 5, none⟩ = some (.int .i64 ky) ∧ w'.cell? ⟨by', oy + j * 5 + 1, none⟩ = some (.int .i64 iy) ∧ w'.cell? ⟨by', oy + j * 5 + 2, none⟩ = some (.float .f64 fy) ∧ w'.cell? ⟨by', oy + j * 5 + 3, none⟩ = some (.string ty) ∧ w'.cell? ⟨by', oy + j * 5 + 4, none⟩ = some (.slice qy ny cy) ∧ w'.cell? ⟨w.heap.size + 1, 4, none⟩ = some (.slice (some ⟨by', oy, none⟩) ys.length d)) (go_keep) (first
        | (go_at_call 138; refine (HC.out _ (below_drewN HBw.out _)).mono ?_; rintro e w4 ⟨rfl, hb4⟩; have hb5 := below_via (w := wa) hb4 (by rfl) (by rfl) (by rfl) (by rfl); have z3 := cell_on hb5 c0; have z4 := cell_on hb5 c1; have z5 := cell_on hb5 c2; have z6 := cell_on hb5 c3; have z7 := cell_on hb5 c4; have z8 := cell_on hb5 d0; have z9 := cell_on hb5 d1; have z10 := cell_on hb5 d2; have z11 := cell_on hb5 d3; have z12 := cell_on hb5 d4; have z13 := cell_on hb5 d5; have HB4 := Lib.hid hb5; clear hb4 hb5))
      clear z3 z4 z5 z6 z7 z8 z9 z10 z11 z12 z13 c0 c1 c2 c3 c4 d0 d1 d2 d3 d4 d5
      cases r with
      | true =>
        have HN : Hid (Below W0.heap.size W0 w4 ∧ ∀ m (h1 : m < xs.length) (h2 : m < ys.length), m < j + 1 → V.same xs[m] ys[m] = true) := by
          refine ⟨HBW.out.trans (HB4.out.mono HBW.out.size), fun m h1 h2 hm => ?_⟩
          by_cases hmj : m = j
          · subst hmj; exact HRr.out.symm
          · exact HAll.out m h1 h2 (by omega)
        clear HB4 HAll HC
        go_wp2
        go_roundw
        case rel => exact ⟨j + 1, by omega, by go_num, HN⟩
        case measure => simp [intOf]; omega
      | false =>
        have HF0 : Hid (V.sameL xs ys = false) := V.sameL_at xs ys j hlt hlt2 HRr.out.symm
        have HF := Lib.hid (HBw.out.trans (HB4.out.mono HBw.out.size))
        clear HB4 HAll HC
        go_wp2
        go_ret
        exact ⟨by rw [HE.out, HF0.out]; rfl, HF.out⟩
    · have HF0 : Hid (V.sameL xs ys = true) := V.sameL_all xs ys H5.out (fun m h1 h2 => HL.out.2 m h1 h2 (by omega))
      have HF := Lib.hid hbw
      have hjn : ¬ (j : Int) < (xs.length : Int) := by omega
      clear HL hbw hlt
      go_wp2
      go_ret
      exact ⟨by rw [HE.out, HF0.out]; rfl, HF.out⟩

end Go.Proofs.YtpkbdnilakaakaaGreat

/- The document's column. -/
namespace Go.Proofs.YtpkbdnilakaakaaGreat
open Go.RowKit

theorem any_no {l : List Col} {n : ByteArray} (h : ∀ m (hm : m < l.length), ¬ l[m].name = n) : l.any (fun x => decide (x.name = n)) = false := by
  rw [List.any_eq_false]
  intro x hx
  obtain ⟨m, hm, rfl⟩ := List.getElem_of_mem hx
  simpa using h m hm
theorem any_yes {l : List Col} {n : ByteArray} (m : Nat) (hm : m < l.length) (h : l[m].name = n) : l.any (fun x => decide (x.name = n)) = true := by
  rw [List.any_eq_true]
  exact ⟨l[m], List.getElem_mem hm, by simpa using h⟩

theorem v0_lies (w : World) (p : Option Addr) (c : Nat) : VLies w (cells5 0 0 0 ⟨#[]⟩ p 0 c) V0 :=
  VLies.mk (xs := []) (fun _ => #[]) (by simp) (by simp) (fun hc => absurd rfl hc) (fun j hj => by simp at hj)

set_option maxRecDepth 100000 in
set_option maxHeartbeats 1000000 in
theorem refColumn7 (l : List Col) (c : Col) (p : Option Addr) (cp : Nat) (u : Array Value) (w : World) (hl : l.length * 120 ≤ 140737488351232) (hx : Cols w p l) (hc : CLies w u c) :
    Calls Tryz.prog 33 #[.slice p l.length cp, .agg u] w fun e w' => e = .returned (.int .i64 (Sch.colErr l c : Nat)) ∧ Below w.heap.size w w' := by
  obtain ⟨k, tp, tn, tc, vk, vi, vb, vt, vp, vn, vc, rfl, ht, hv⟩ := hc.out
  obtain ⟨nm, ty, has, dv⟩ := c
  simp only at ht hv ⊢
  unfold cells9
  obtain ⟨W0, hW0⟩ : ∃ W0, W0 = w.alloc (.cells #[.string nm, .int .i64 k, .slice tp tn tc, .bool has, .int .i64 vk, .int .i64 vi, .float .f64 vb, .string vt, .slice vp vn vc] 69) := ⟨_, rfl⟩
  have HB0 : Hid (Below w.heap.size w W0) := by rw [hW0]; exact (Below.refl _ _).alloc (Nat.le_refl _) _
  have H9 : Hid (At9 W0 w.heap.size 0 nm k tp tn tc has vk vi vb vt vp vn vc) := by rw [hW0]; exact ⟨by simp, by simp, by simp, by simp, by simp, by simp, by simp, by simp, by simp⟩
  have HW0 := Lib.hid hW0
  have HX := Lib.hid (hx.on HB0.out)
  have HT := Lib.hid (ht.on HB0.out)
  have HV := Lib.hid (hv.on HB0.out)
  have HNm := Lib.hid (refName7 nm)
  obtain ⟨R, hR⟩ : ∃ R, R = Sch.colErr l ⟨nm, ty, has, dv⟩ := ⟨_, rfl⟩
  have HR := Lib.hid (hR.trans (by rw [Sch.colErr] : Sch.colErr l ⟨nm, ty, has, dv⟩ = _))
  rw [← hR]
  obtain ⟨rn, hrn⟩ : ∃ rn, rn = Sch.name nm := ⟨_, rfl⟩
  rw [← hrn] at HNm HR
  clear hW0 hx ht hv hR hrn hc
  go_enter Tryz.func33, Tryz.ntmps33
  go_wp2_with fail
  rw [← HW0.out]
  clear HW0
  refine (HNm.out _).mono ?_
  rintro e w1 ⟨rfl, hw1⟩
  rw [hw1]
  clear hw1 w1 HNm
  cases rn with
  | false =>
    have HE : Hid (R = 70) := by show _ = _; rw [HR.out, if_pos rfl]
    clear HR
    go_wp2
    go_ret
    exact ⟨by rw [HE.out]; rfl, HB0.out⟩
  | true =>
    have HR1 := Lib.hid (HR.out.trans (if_neg (by decide)))
    clear HR
    obtain ⟨y0, y1, y2, y3, y4, y5, y6, y7, y8⟩ := H9.out
    go_wp2_with fail
    go_loopw [6] (fun v6 wr => ∃ j n : Nat, j ≤ l.length ∧ v6 = .int .i64 j ∧ wr = W0.drewN n ∧ Hid (∀ m (hm : m < l.length), m < j → ¬ l[m].name = nm)) (fun v6 _ => l.length - (intOf v6).toNat)
    case atStart => exact ⟨0, 0, by omega, rfl, rfl, fun m _ h => by omega⟩
    case round =>
      obtain ⟨j, n, hj, rfl, rfl, HF⟩ := hrel
      by_cases hlt : j < l.length
      · obtain ⟨bx, ox, k2, tp2, tn2, tc2, vk2, vi2, vb2, vt2, vp2, vn2, vc2, rfl, _, h9, -⟩ := HX.out.at j hlt
        have a0 := h9.1
        have hj1 : (j : Int) < (l.length : Int) := by omega
        by_cases hn : l[j].name = nm
        · have g : (l[j].name.toList == nm.toList) = true := by rw [text_eq, decide_eq_true hn]
          have HE : Hid (R = 71) := by show _ = _; rw [HR1.out, if_pos (any_yes j hlt hn)]
          generalize l[j].name = nj at *
          clear HF HR1 h9 hn
          go_wp2
          go_quiet (fail)
          go_wp2
          go_ret
          exact ⟨by rw [HE.out]; rfl, below_drewN (below_drewN HB0.out _) _⟩
        · have g : (l[j].name.toList == nm.toList) = false := by rw [text_eq, decide_eq_false hn]
          have HN : Hid (∀ m (hm : m < l.length), m < j + 1 → ¬ l[m].name = nm) := fun m hm hmj => by
            by_cases hmj2 : m = j
            · subst hmj2; exact hn
            · exact HF.out m hm (by omega)
          generalize l[j].name = nj at *
          clear HF HR1 h9 hn
          go_wp2
          go_quiet (fail)
          go_wp2
          go_roundw
          case rel => exact ⟨j + 1, _, by omega, by go_num, rfl, HN⟩
          case measure => simp [intOf]; omega
      · have hjn : ¬ (j : Int) < (l.length : Int) := by omega
        have HR2 := Lib.hid (HR1.out.trans (if_neg (by rw [any_no (fun m hm => HF.out m hm (by omega))]; decide)))
        have HCt := Lib.hid (refCheckType7 ty (W0.drewN n) _ (HT.out.on (below_drewN (Below.refl _ _) n)))
        have HCv := Lib.hid (fun w' (hb : Below W0.heap.size W0 w') => refCheck6 dv w' _ (HV.out.on hb))
        have HIs := Lib.hid (fun w' (hb : Below W0.heap.size W0 w') => refIs7 dv ty w' _ _ (HV.out.on hb) (HT.out.on hb))
        have HSm := Lib.hid (fun w' (hb : Below W0.heap.size W0 w') => refSame6 dv V0 w' _ _ (HV.out.on hb) (v0_lies w' none 0))
        have HBn : Hid (Below W0.heap.size W0 (W0.drewN n)) := below_drewN (Below.refl _ _) n
        obtain ⟨ct, hct⟩ : ∃ ct, ct = Ty.check 1 ty := ⟨_, rfl⟩
        obtain ⟨cv, hcv⟩ : ∃ cv, cv = chk 1 dv := ⟨_, rfl⟩
        obtain ⟨ci, hci⟩ : ∃ ci, ci = Sch.is dv ty := ⟨_, rfl⟩
        obtain ⟨cs, hcs⟩ : ∃ cs, cs = V.same dv V0 := ⟨_, rfl⟩
        rw [← hct] at HCt HR2
        rw [← hcv] at HCv HR2
        rw [← hci] at HIs HR2
        rw [← hcs] at HSm HR2
        clear HF HR1 hct hcv hci hcs HX HT HV
        unfold cells2 cells5 at *
        go_wp2_with fail
        refine HCt.out.mono ?_
        rintro e w1 ⟨rfl, hb1⟩
        have HB1 := Lib.hid (HBn.out.trans (hb1.mono (by simp [World.drewN])))
        have HBw := Lib.hid (HB0.out.trans (HB1.out.mono HB0.out.size))
        have c1 := cell_on HB1.out y1
        have c2 := cell_on HB1.out y2
        have c3 := cell_on HB1.out y3
        have c4 := cell_on HB1.out y4
        have c5 := cell_on HB1.out y5
        have c6 := cell_on HB1.out y6
        have c7 := cell_on HB1.out y7
        have c8 := cell_on HB1.out y8
        clear hb1 HCt y0 y1 y2 y3 y4 y5 y6 y7 y8
        by_cases h1 : ct = 0
        · have g1 : ((ct : Int) != 0) = false := by rw [h1]; rfl
          have HR3 := Lib.hid (HR2.out.trans (if_neg (by simp [h1])))
          clear HR2 h1
          cases has with
          | false =>
            have HR4 := Lib.hid (HR3.out.trans (if_pos rfl))
            clear HR3
            go_wp2_with fail
            refine (HSm.out w1 HB1.out).mono ?_
            rintro e w2 ⟨rfl, hb2⟩
            have HB2 := Lib.hid (HBw.out.trans (hb2.mono HBw.out.size))
            clear hb2 c1 c2 c3 c4 c5 c6 c7 c8
            cases cs with
            | false =>
              have HE : Hid (R = 80) := HR4.out
              clear HR4
              go_wp2
              go_ret
              exact ⟨by rw [HE.out]; rfl, HB2.out⟩
            | true =>
              have HE : Hid (R = 0) := HR4.out
              clear HR4
              go_wp2
              go_ret
              exact ⟨by rw [HE.out]; rfl, HB2.out⟩
          | true =>
            have HR4 := Lib.hid (HR3.out.trans (if_neg (by decide)))
            clear HR3
            go_wp2_with fail
            refine (HCv.out w1 HB1.out).mono ?_
            rintro e w2 ⟨rfl, hb2⟩
            have HB2 := Lib.hid (HB1.out.trans (hb2.mono HB1.out.size))
            have HBw2 := Lib.hid (HBw.out.trans (hb2.mono HBw.out.size))
            have d1 := cell_on hb2 c1
            have d2 := cell_on hb2 c2
            have d4 := cell_on hb2 c4
            have d5 := cell_on hb2 c5
            have d6 := cell_on hb2 c6
            have d7 := cell_on hb2 c7
            have d8 := cell_on hb2 c8
            clear hb2 c1 c2 c3 c4 c5 c6 c7 c8
            by_cases h2 : cv = 0
            · have g2 : ((cv : Int) != 0) = false := by rw [h2]; rfl
              have HR5 := Lib.hid (HR4.out.trans (if_neg (by simp [h2])))
              clear HR4 h2
              go_wp2_with fail
              refine (HIs.out w2 HB2.out).mono ?_
              rintro e w3 ⟨rfl, hb3⟩
              have HB3 := Lib.hid (HBw2.out.trans (hb3.mono HBw2.out.size))
              clear hb3 d1 d2 d4 d5 d6 d7 d8
              cases ci with
              | false =>
                have HE : Hid (R = 80) := HR5.out
                clear HR5
                go_wp2
                go_ret
                exact ⟨by rw [HE.out]; rfl, HB3.out⟩
              | true =>
                have HE : Hid (R = 0) := HR5.out
                clear HR5
                go_wp2
                go_ret
                exact ⟨by rw [HE.out]; rfl, HB3.out⟩
            · have g2 : ((cv : Int) != 0) = true := by rw [bne_iff_ne]; omega
              have HE : Hid (R = cv) := by show _ = _; rw [HR4.out, if_pos h2]
              clear HR4 h2
              go_wp2
              go_ret
              exact ⟨by rw [HE.out]; rfl, HBw2.out⟩
        · have g1 : ((ct : Int) != 0) = true := by rw [bne_iff_ne]; omega
          have HE : Hid (R = ct) := by show _ = _; rw [HR2.out, if_pos h1]
          clear HR2 h1
          go_wp2
          go_ret
          exact ⟨by rw [HE.out]; rfl, HBw.out⟩
end Go.Proofs.YtpkbdnilakaakaaGreat

/- The document's flag, typeBytes, ValueBytes. -/
namespace Go.Proofs.YtpkbdnilakaakaaGreat
open Go.RowKit

/-- what bytes of one's own a call answers -/
def FreshB (w : World) (l : List UInt8) (e : Ending) (w' : World) : Prop := ∃ q cap, e = .returned (.slice q l.length cap) ∧ Has w' w.heap.size (.slice q l.length cap) l ∧ Below w.heap.size w w'

set_option maxHeartbeats 400000 in
theorem refFlag7 (b : Bool) (w : World) : Calls Tryz.prog 62 #[.bool b] w fun e w' => e = .returned (.int .u8 (if b then 1 else 0)) ∧ w' = w := by
  cases b
  all_goals
    go_enter Tryz.func62, Tryz.ntmps62
    go_wp2
    go_ret
    exact ⟨rfl, rfl⟩

set_option maxRecDepth 100000 in
set_option maxHeartbeats 1000000 in
theorem refTypeBytes7 : ∀ (x : Ty) (d : Nat) (w : World) (u : Array Value), Ty.check d x = 0 → TLies w u x → Calls Tryz.prog 61 #[.agg u] w (FreshB w (Sch.tyB x)) := by
  intro x
  refine Ty.ind (P := fun x => ∀ (d : Nat) (w : World) (u : Array Value), Ty.check d x = 0 → TLies w u x → Calls Tryz.prog 61 #[.agg u] w (FreshB w (Sch.tyB x))) ?_ x
  rintro k xs ih d w u hd hx
  obtain ⟨p, c, rfl, hxl, hxc, hxi⟩ := hx.open
  unfold cells2
  have hB1 : Below w.heap.size w (w.alloc (.cells #[.int .i64 k, .slice p xs.length c] 67)) := (Below.refl _ _).alloc (Nat.le_refl _) _
  have HB1 := Lib.hid hB1
  clear hB1 hx
  obtain ⟨hd4, hk, htt⟩ := Sch.ty_open hd
  have hcn := Sch.kind_byte hk
  obtain ⟨c0, hc0⟩ : ∃ c0, c0 = UInt8.ofNat k.toNat := ⟨_, rfl⟩
  have hkz : k = (c0.toNat : Int) := by rw [hc0, hcn]; omega
  have HL : Hid (∀ (w : World), Has (w.alloc (.cells #[.int .u8 k] 5)) w.heap.size (.slice (some ⟨w.heap.size, 0, none⟩) 1 1) [c0]) := fun w => has_lit [c0] (by rw [hkz]; rfl) (Nat.le_refl _) (by simp)
  have HB1b : Hid (∀ o, Below w.heap.size w ((w.alloc (.cells #[.int .i64 k, .slice p xs.length c] 67)).alloc o)) := fun o => HB1.out.alloc HB1.out.size o
  clear hkz
  rcases htt with ⟨h67, rfl⟩ | ⟨h67, x, rfl, hx⟩
  · have e6 : (k == 6) = false := beq_f (by omega)
    have e7 : (k == 7) = false := beq_f (by omega)
    have HE : Hid (Sch.tyB (.mk k []) = [c0]) := by show _ = _; rw [Sch.tyB_mk, if_neg h67, hc0]
    clear ih hxi hd
    go_enter Tryz.func61, Tryz.ntmps61
    go_wp2
    go_ret
    rw [HE.out]
    have hh := HL.out (w.alloc (.cells #[.int .i64 k, .slice p 0 c] 67))
    exact ⟨_, _, rfl, by have := hh.lower HB1.out.size; simpa using this, HB1b.out _⟩
  · obtain ⟨ux, hvx, hix⟩ := hxi 0 (by simp)
    obtain ⟨bx, ox, kx, qx, nx, cx, rfl, _, rfl, a0, a1⟩ := (hix.on (HB1b.out (.cells #[.int .u8 k] 5))).lies
    rw [Nat.zero_mul, Nat.add_zero] at a0 a1
    simp only [List.length_singleton] at a0 a1
    have HE : Hid (Sch.tyB (.mk k [x]) = [c0] ++ Sch.tyB x) := by show _ = _; rw [Sch.tyB_mk, if_pos h67, hc0]; rfl
    have HC : Hid (∀ w', Below w.heap.size w w' → Calls Tryz.prog 61 #[.agg #[.int .i64 kx, .slice qx nx cx]] w' (FreshB w' (Sch.tyB x))) := fun w' hb => ih x (by simp) (d + 1) w' _ hx (hvx.on hb)
    have HN : Hid ((Sch.tyB x).length ≤ 4) := by
      have key : ∀ (x : Ty) (d : Nat), Ty.check d x = 0 → (Sch.tyB x).length + d ≤ 5 := by
        refine Ty.ind ?_
        intro k xs ih d h
        obtain ⟨h1, h2, h3⟩ := Sch.ty_open h
        rcases h3 with ⟨h3, rfl⟩ | ⟨h3, y, rfl, hy⟩
        · rw [Sch.tyB_mk, if_neg h3, List.length_singleton]; omega
        · have := ih y (by simp) (d + 1) hy
          rw [Sch.tyB_mk, if_pos h3, List.length_cons]
          have e : ([y].map Sch.tyB).headD [] = Sch.tyB y := rfl
          rw [e]
          omega
      have := key x (d + 1) hx
      show _ ≤ _
      omega
    clear ih hxi hd hvx hix
    obtain ⟨W1, hW1⟩ : ∃ W1, W1 = (w.alloc (.cells #[.int .i64 k, .slice (some ⟨bx, ox, none⟩) 1 c] 67)).alloc (.cells #[.int .u8 k] 5) := ⟨_, rfl⟩
    have HW1 := Lib.hid hW1
    have HBW : Hid (Below w.heap.size w W1) := by rw [hW1]; exact HB1b.out _
    have HH : Hid (Has W1 w.heap.size (.slice (some ⟨w.heap.size + 1, 0, none⟩) 1 1) [c0]) := by
      show Has _ _ _ _
      have hh := HL.out (w.alloc (.cells #[.int .i64 k, .slice (some ⟨bx, ox, none⟩) 1 c] 67))
      rw [hW1]
      have := hh.lower HB1.out.size
      simpa using this
    clear hW1
    rcases h67 with h6 | h6
    all_goals
      first
        | have e6 : (k == 6) = true := beq_t h6
        | (have e6 : (k == 6) = false := beq_f (by omega)
           have e7 : (k == 7) = true := beq_t h6)
      clear h6
      go_enter Tryz.func61, Tryz.ntmps61
      go_wp2_with fail
      rw [← HW1.out]
      refine (HC.out _ HBW.out).mono ?_
      rintro e w2 ⟨q, cap, rfl, hq, hb2⟩
      obtain ⟨l2, hl2⟩ : ∃ l2, l2 = Sch.tyB x := ⟨_, rfl⟩
      rw [← hl2] at hq ⊢
      have HQ := Lib.hid hq
      have HO := Lib.hid (HH.out.on hb2)
      have HB2 := Lib.hid (HBW.out.trans (hb2.mono HBW.out.size))
      have hn : l2.length ≤ 4 := by rw [hl2]; exact HN.out
      have HE2 : Hid (Sch.tyB (.mk k [x]) = [c0] ++ l2) := by rw [hl2]; exact HE.out
      clear hb2 hq hl2
      go_wp2_with (at_builtin; obtain ⟨p2, c2, he2, hat2, -⟩ := HQ.out.at; injection he2 with he2; refine wp_ontoL (B := w.heap.size) (p := q) HO.out (by rw [he2]; exact hat2) (by simp; omega) HB2.out.size rfl rfl rfl rfl rfl ?_; intro ys q3 cap3 W HY hH3 ha3 hb3)
      go_ret
      rw [HE2.out, ← HY.out]
      exact ⟨q3, cap3, rfl, hH3, HB2.out.trans (aside_low ha3 HO.out HB2.out.size)⟩
end Go.Proofs.YtpkbdnilakaakaaGreat

/- Plain: eight bytes, one by one. -/
namespace Go.Proofs.YtpkbdnilakaakaaGreat

/-- while eight bytes are put -/
def Eight (m : Nat) (xs : List UInt8) (n : Nat) : Prop := xs.length ≤ 8 ∧ n < 18446744073709551616 ∧ Sch.le 8 m = xs ++ Sch.le (8 - xs.length) n
theorem eight_next {m n : Nat} {xs : List UInt8} (h : Eight m xs n) (h8 : xs.length < 8) : Eight m (xs ++ [UInt8.ofNat (n % 256)]) (n / 256) := by
  obtain ⟨h1, h2, h3⟩ := h
  refine ⟨by rw [List.length_append, List.length_singleton]; omega, by omega, ?_⟩
  rw [h3, List.append_assoc, List.length_append, List.length_singleton, show 8 - xs.length = (8 - (xs.length + 1)) + 1 by omega, Sch.le]
  rfl

end Go.Proofs.YtpkbdnilakaakaaGreat
