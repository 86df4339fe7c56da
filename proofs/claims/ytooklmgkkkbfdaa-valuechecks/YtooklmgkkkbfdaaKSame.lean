/- Package value's Same and SameRow. -/
import Derived.Test.YtooklmgkkkbfdaaWSameR
import Derived.Test.YtooklmgkkkbfdaaVMore
namespace Go.Proofs.Ytooklmgkkkbfdaa
open Go.RowKit

attribute [local go_sem] run_store_float

set_option maxRecDepth 100000 in
set_option maxHeartbeats 1000000 in
theorem sameK : ∀ (x y : V) (w : World) (u v : Array Value), VLies w u x → VLies w v y → Calls Try.prog 17 #[.agg u, .agg v] w fun e w' => e = .returned (.bool (V.same x y)) ∧ Below w.heap.size w w' := by
  intro x
  refine V.ind (P := fun x => ∀ (y : V) (w : World) (u v : Array Value), VLies w u x → VLies w v y → Calls Try.prog 17 #[.agg u, .agg v] w fun e w' => e = .returned (.bool (V.same x y)) ∧ Below w.heap.size w w') ?_ x
  rintro k i b t xs ih ⟨k', i', b', t', ys⟩ w u v hx hy
  obtain ⟨p, c, rfl, hxl, hxc, hxi⟩ := hx.open
  obtain ⟨q, d, rfl, hyl, hyc, hyi⟩ := hy.open
  unfold cells5
  have hB2 : Below w.heap.size w ((w.alloc (.cells #[.int .i64 k, .int .i64 i, .float .f64 b, .string t, .slice p xs.length c] 25)).alloc (.cells #[.int .i64 k', .int .i64 i', .float .f64 b', .string t', .slice q ys.length d] 25)) := ((Below.refl _ _).alloc (Nat.le_refl _) _).alloc (by simp) _
  have HB2 := Lib.hid hB2
  clear hB2 hx hy
  by_cases h1 : ¬ k = k'
  · have g1 := bne_t h1
    have HE : Hid (V.same (.mk k i b t xs) (.mk k' i' b' t' ys) = false) := by show _ = _; simp [V.same_mk, h1]
    clear ih hxi hyi h1
    go_enter Try.func17, Try.ntmps17
    go_wp2
    go_ret
    exact ⟨by rw [HE.out]; rfl, HB2.out⟩
  replace h1 : k = k' := Classical.not_not.1 h1
  have g1 := bne_f h1
  by_cases h2 : ¬ i = i'
  · have g2 := bne_t h2
    have HE : Hid (V.same (.mk k i b t xs) (.mk k' i' b' t' ys) = false) := by show _ = _; simp [V.same_mk, h2]
    clear ih hxi hyi h1 h2
    go_enter Try.func17, Try.ntmps17
    go_wp2
    go_ret
    exact ⟨by rw [HE.out]; rfl, HB2.out⟩
  replace h2 : i = i' := Classical.not_not.1 h2
  have g2 := bne_f h2
  by_cases h3 : ¬ t = t'
  · have g3 : (t.toList == t'.toList) = false := by rw [text_eq, decide_eq_false h3]
    have HE : Hid (V.same (.mk k i b t xs) (.mk k' i' b' t' ys) = false) := by show _ = _; simp [V.same_mk, h3]
    clear ih hxi hyi h1 h2 h3
    go_enter Try.func17, Try.ntmps17
    go_wp2
    go_ret
    exact ⟨by rw [HE.out]; rfl, HB2.out⟩
  replace h3 : t = t' := Classical.not_not.1 h3
  have g3 : (t.toList == t'.toList) = true := by rw [text_eq, decide_eq_true h3]
  have HRS := Lib.hid (realSame_any b b')
  by_cases h4 : ¬ fixB b = fixB b'
  · have g4 : ((fixB b : Int) == (fixB b' : Int)) = false := beq_f (by omega)
    rw [g4] at HRS
    have HE : Hid (V.same (.mk k i b t xs) (.mk k' i' b' t' ys) = false) := by show _ = _; simp [V.same_mk, h4]
    clear ih hxi hyi h1 h2 h3 h4
    go_enter Try.func17, Try.ntmps17
    go_wp2_with fail
    refine (HRS.out _).mono ?_
    rintro e w1 ⟨rfl, hw1⟩
    rw [hw1]
    clear hw1 w1
    go_wp2
    go_ret
    exact ⟨by rw [HE.out]; rfl, HB2.out⟩
  replace h4 : fixB b = fixB b' := Classical.not_not.1 h4
  have g4 : ((fixB b : Int) == (fixB b' : Int)) = true := beq_t (by omega)
  rw [g4] at HRS
  by_cases h5 : ¬ xs.length = ys.length
  · have g5 : ((xs.length : Int) != (ys.length : Int)) = true := bne_t (by omega)
    have HE : Hid (V.same (.mk k i b t xs) (.mk k' i' b' t' ys) = false) := by show _ = _; simp [V.same_mk, V.sameL_ne xs ys h5]
    clear ih hxi hyi h1 h2 h3 h4 h5
    go_enter Try.func17, Try.ntmps17
    go_wp2_with fail
    refine (HRS.out _).mono ?_
    rintro e w1 ⟨rfl, hw1⟩
    rw [hw1]
    clear hw1 w1
    go_wp2
    go_ret
    exact ⟨by rw [HE.out]; rfl, HB2.out⟩
  replace h5 : xs.length = ys.length := Classical.not_not.1 h5
  have g5 : ((xs.length : Int) != (ys.length : Int)) = false := bne_f (by omega)
  have HE : Hid (V.same (.mk k i b t xs) (.mk k' i' b' t' ys) = V.sameL xs ys) := by show _ = _; simp [V.same_mk, h1, h2, h3, h4]
  have HX : Hid (Items w p xs) := hxi
  have HY : Hid (Items w q ys) := hyi
  have HIH := Lib.hid ih
  have H5 := Lib.hid h5
  clear ih hxi hyi h1 h2 h3 h4 h5
  obtain ⟨W0, hW0⟩ : ∃ W0, W0 = (w.alloc (.cells #[.int .i64 k, .int .i64 i, .float .f64 b, .string t, .slice p xs.length c] 25)).alloc (.cells #[.int .i64 k', .int .i64 i', .float .f64 b', .string t', .slice q ys.length d] 25) := ⟨_, rfl⟩
  have Y4 : Hid (W0.cell? ⟨w.heap.size + 1, 4, none⟩ = some (.slice q ys.length d)) := by show _ = _; rw [hW0]; simp
  have HB0 : Hid (Below w.heap.size w W0) := by rw [hW0]; exact HB2.out
  have HW0 := Lib.hid hW0
  clear HB2 hW0
  go_enter Try.func17, Try.ntmps17
  go_wp2_with fail
  refine (HRS.out _).mono ?_
  rintro e w1 ⟨rfl, hw1⟩
  rw [hw1]
  clear hw1 w1
  go_wp2_with fail
  rw [← HW0.out]
  clear HW0
  go_loopw [44] (fun v44 wr => ∃ j : Nat, j ≤ xs.length ∧ v44 = .int .i64 j ∧ Hid (Below W0.heap.size W0 wr ∧ ∀ m (h1 : m < xs.length) (h2 : m < ys.length), m < j → V.same xs[m] ys[m] = true)) (fun v44 _ => xs.length - (intOf v44).toNat)
  case atStart => exact ⟨0, by omega, rfl, Below.refl _ _, fun m _ _ h => by omega⟩
  case round =>
    obtain ⟨j, hj, rfl, HL⟩ := hrel
    have hbw : Below w.heap.size w wr := HB0.out.trans (HL.out.1.mono HB0.out.size)
    by_cases hlt : j < xs.length
    · have hlt2 : j < ys.length := by have := H5.out; omega
      obtain ⟨ux, hvx, hix⟩ := HX.out j hlt
      obtain ⟨uy, hvy, hiy⟩ := HY.out j hlt2
      obtain ⟨bx, ox, kx, ix, fx, tx, qx, nx, cx, rfl, _, rfl, a0, a1, a2, a3, a4⟩ := (hix.on hbw).lies
      obtain ⟨by', oy, ky, iy, fy, ty, qy, ny, cy, rfl, _, rfl, b0, b1, b2, b3, b4⟩ := (hiy.on hbw).lies
      have HC : Hid (∀ w', Below w.heap.size w w' → Calls Try.prog 17 #[.agg #[.int .i64 kx, .int .i64 ix, .float .f64 fx, .string tx, .slice qx nx cx], .agg #[.int .i64 ky, .int .i64 iy, .float .f64 fy, .string ty, .slice qy ny cy]] w' fun e w'' => e = .returned (.bool (V.same xs[j] ys[j])) ∧ Below w'.heap.size w' w'') :=
        fun w' hb => HIH.out _ (List.getElem_mem hlt) ys[j] w' _ _ (hvx.on hb) (hvy.on hb)
      have HAll := Lib.hid HL.out.2
      have hj1 : (j : Int) < (xs.length : Int) := by omega
      have hj2 : (j : Int) < (ys.length : Int) := by omega
      obtain ⟨r, hr⟩ : ∃ r, r = V.same xs[j] ys[j] := ⟨_, rfl⟩
      rw [← hr] at HC
      have HRr := Lib.hid hr
      obtain ⟨wa, hwa⟩ : ∃ wa, wa = wr.alloc (.cells #[.int .i64 kx, .int .i64 ix, .float .f64 fx, .string tx, .slice qx nx cx] 25) := ⟨_, rfl⟩
      have HBa : Hid (Below wr.heap.size wr wa) := by rw [hwa]; exact (Below.refl _ _).alloc (Nat.le_refl _) _
      have HBw : Hid (Below w.heap.size w wa) := hbw.trans (HBa.out.mono hbw.size)
      have HBW : Hid (Below W0.heap.size W0 wa) := HL.out.1.trans (HBa.out.mono HL.out.1.size)
      have HWa := Lib.hid hwa
      have HY4 : Hid (wa.cell? ⟨w.heap.size + 1, 4, none⟩ = some (.slice (some ⟨by', oy, none⟩) ys.length d)) := cell_on HBW.out Y4.out
      have HBs : Hid (wa.cell? ⟨by', oy + j * 5, none⟩ = some (.int .i64 ky) ∧ wa.cell? ⟨by', oy + j * 5 + 1, none⟩ = some (.int .i64 iy) ∧ wa.cell? ⟨by', oy + j * 5 + 2, none⟩ = some (.float .f64 fy) ∧ wa.cell? ⟨by', oy + j * 5 + 3, none⟩ = some (.string ty) ∧ wa.cell? ⟨by', oy + j * 5 + 4, none⟩ = some (.slice qy ny cy)) :=
        ⟨cell_on HBa.out b0, cell_on HBa.out b1, cell_on HBa.out b2, cell_on HBa.out b3, cell_on HBa.out b4⟩
      have HAs : Hid (wa.cell? ⟨wr.heap.size, 0, none⟩ = some (.int .i64 kx) ∧ wa.cell? ⟨wr.heap.size, 1, none⟩ = some (.int .i64 ix) ∧ wa.cell? ⟨wr.heap.size, 2, none⟩ = some (.float .f64 fx) ∧ wa.cell? ⟨wr.heap.size, 3, none⟩ = some (.string tx) ∧ wa.cell? ⟨wr.heap.size, 4, none⟩ = some (.slice qx nx cx)) := by rw [hwa]; exact ⟨by simp, by simp, by simp, by simp, by simp⟩
      clear hvx hvy hix hiy hbw HL hr hwa b0 b1 b2 b3 b4
      go_wp2_with fail
      rw [← HWa.out]
      obtain ⟨c0, c1, c2, c3, c4⟩ := HAs.out
      obtain ⟨d0, d1, d2, d3, d4⟩ := HBs.out
      have d5 := HY4.out
      clear HAs HBs HY4 HWa a0 a1 a2 a3 a4
      go_region_held3 (fun w' => w'.cell? ⟨wr.heap.size, 0, none⟩ = some (.int .i64 kx) ∧ w'.cell? ⟨wr.heap.size, 1, none⟩ = some (.int .i64 ix) ∧ w'.cell? ⟨wr.heap.size, 2, none⟩ = some (.float .f64 fx) ∧ w'.cell? ⟨wr.heap.size, 3, none⟩ = some (.string tx) ∧ w'.cell? ⟨wr.heap.size, 4, none⟩ = some (.slice qx nx cx) ∧ w'.cell? ⟨by', oy + j * 5, none⟩ = some (.int .i64 ky) ∧ w'.cell? ⟨by', oy + j * 5 + 1, none⟩ = some (.int .i64 iy) ∧ w'.cell? ⟨by', oy + j * 5 + 2, none⟩ = some (.float .f64 fy) ∧ w'.cell? ⟨by', oy + j * 5 + 3, none⟩ = some (.string ty) ∧ w'.cell? ⟨by', oy + j * 5 + 4, none⟩ = some (.slice qy ny cy) ∧ w'.cell? ⟨w.heap.size + 1, 4, none⟩ = some (.slice (some ⟨by', oy, none⟩) ys.length d)) (go_keep) (first
        | (go_at_call 17; refine (HC.out _ (below_drewN HBw.out _)).mono ?_; rintro e w4 ⟨rfl, hb4⟩; have hb5 := below_via (w := wa) hb4 (by rfl) (by rfl) (by rfl) (by rfl); have z3 := cell_on hb5 c0; have z4 := cell_on hb5 c1; have z5 := cell_on hb5 c2; have z6 := cell_on hb5 c3; have z7 := cell_on hb5 c4; have z8 := cell_on hb5 d0; have z9 := cell_on hb5 d1; have z10 := cell_on hb5 d2; have z11 := cell_on hb5 d3; have z12 := cell_on hb5 d4; have z13 := cell_on hb5 d5; have HB4 := Lib.hid hb5; clear hb4 hb5))
      clear z3 z4 z5 z6 z7 z8 z9 z10 z11 z12 z13 c0 c1 c2 c3 c4 d0 d1 d2 d3 d4 d5
      cases r with
      | true =>
        have HN : Hid (Below W0.heap.size W0 w4 ∧ ∀ m (h1 : m < xs.length) (h2 : m < ys.length), m < j + 1 → V.same xs[m] ys[m] = true) := by
          refine ⟨HBW.out.trans (HB4.out.mono HBW.out.size), fun m h1 h2 hm => ?_⟩
          by_cases hmj : m = j
          · subst hmj; exact HRr.out.symm
          · exact HAll.out m h1 h2 (by omega)
        clear HB4 HAll HC
        go_wp2
        go_roundw
        case rel => exact ⟨j + 1, by omega, by go_num, HN⟩
        case measure => simp [intOf]; omega
      | false =>
        have HF0 : Hid (V.sameL xs ys = false) := V.sameL_at xs ys j hlt hlt2 HRr.out.symm
        have HF := Lib.hid (HBw.out.trans (HB4.out.mono HBw.out.size))
        clear HB4 HAll HC
        go_wp2
        go_ret
        exact ⟨by rw [HE.out, HF0.out]; rfl, HF.out⟩
    · have HF0 : Hid (V.sameL xs ys = true) := V.sameL_all xs ys H5.out (fun m h1 h2 => HL.out.2 m h1 h2 (by omega))
      have HF := Lib.hid hbw
      have hjn : ¬ (j : Int) < (xs.length : Int) := by omega
      clear HL hbw hlt
      go_wp2
      go_ret
      exact ⟨by rw [HE.out, HF0.out]; rfl, HF.out⟩

set_option maxHeartbeats 400000 in
theorem sameRowK (xs ys : List V) (w : World) (p q : Option Addr) (c d : Nat) (hx : Items w p xs) (hy : Items w q ys) (hxl : xs.length * 64 ≤ 140737488351232) (hyl : ys.length * 64 ≤ 140737488351232) (hc : xs.length ≤ c) (hd : ys.length ≤ d) :
    Calls Try.prog 19 #[.agg #[.slice p xs.length c], .agg #[.slice q ys.length d]] w fun e w' => e = .returned (.bool (V.sameL xs ys)) ∧ Below w.heap.size w w' := by
  have hlies : ∀ (w : World) (zs : List V) (p : Option Addr) (c : Nat), Items w p zs → zs.length * 64 ≤ 140737488351232 → zs.length ≤ c → VLies w (cells5 0 0 0 ⟨#[]⟩ p zs.length c) (.mk 0 0 0 ⟨#[]⟩ zs) := by
    intro w zs p c hz hl hc
    have key : ∃ us : Nat → Array Value, ∀ j (hj : j < zs.length), VLies w (us j) zs[j] ∧ Item w p j (us j) := by
      refine ⟨fun j => if hj : j < zs.length then Classical.choose (hz j hj) else #[], fun j hj => ?_⟩
      simp only [hj, dite_true]
      exact Classical.choose_spec (hz j hj)
    obtain ⟨us, hus⟩ := key
    refine .mk us hl hc (fun hne => ?_) (fun j hj => (hus j hj).1)
    have h0 : 0 < zs.length := List.length_pos_iff.2 hne
    obtain ⟨blk, off, _, _, _, _, _, _, _, hp, hb, -⟩ := (hus 0 h0).2.lies
    refine ⟨blk, off, hp, hb, fun j hj m hm => ?_⟩
    obtain ⟨blk', off', _, _, _, _, _, _, _, hp', _, hu, a0, a1, a2, a3, a4⟩ := (hus j hj).2.lies
    rw [hp] at hp'
    simp only [Option.some.injEq, Addr.mk.injEq, and_true] at hp'
    obtain ⟨rfl, rfl⟩ := hp'
    rw [hu]
    rcases (show m = 0 ∨ m = 1 ∨ m = 2 ∨ m = 3 ∨ m = 4 by omega) with rfl | rfl | rfl | rfl | rfl
    · exact a0
    · exact a1
    · exact a2
    · exact a3
    · exact a4
  have hB2 : Below w.heap.size w ((w.alloc (.cells #[.slice p xs.length c] 34)).alloc (.cells #[.slice q ys.length d] 34)) := ((Below.refl _ _).alloc (Nat.le_refl _) _).alloc (by simp) _
  have HB2 := Lib.hid hB2
  have HC := sameK _ _ _ _ _ (hlies _ xs p c (hx.on hB2) hxl hc) (hlies _ ys q d (hy.on hB2) hyl hd)
  rw [V.same_mk] at HC
  simp only [beq_self_eq_true, decide_true, Bool.and_self, Bool.true_and] at HC
  replace HC := Lib.hid HC
  unfold cells5 at HC
  clear hB2 hx hy hlies
  go_enter Try.func19, Try.ntmps19
  go_wp2_with fail
  refine HC.out.mono ?_
  rintro e w3 ⟨rfl, hb3⟩
  have HB3 := Lib.hid (HB2.out.trans (hb3.mono HB2.out.size))
  clear hb3
  go_wp2
  go_ret
  exact ⟨rfl, HB3.out⟩
end Go.Proofs.Ytooklmgkkkbfdaa
