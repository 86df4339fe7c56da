/- WExact9: put together. -/
import Derived.Test.YtdahackmmhcjoaaGreatM02

/- The law's own exact(a, b), of stage 9. -/
namespace Go.Proofs.YtdahackmmhcjoaaGreat
open Go.RowKit

attribute [local go_sem] run_frombits run_bits

set_option maxRecDepth 100000 in
set_option maxHeartbeats 400000 in
theorem exact9 : ∀ (x y : V) (w : World) (u v : Array Value), VLies w u x → VLies w v y → Calls Tryz.prog 17 #[.agg u, .agg v] w fun e w' => e = .returned (.bool (V.exact x y)) ∧ Below w.heap.size w w' := by
  intro x
  refine V.ind (P := fun x => ∀ (y : V) (w : World) (u v : Array Value), VLies w u x → VLies w v y → Calls Tryz.prog 17 #[.agg u, .agg v] w fun e w' => e = .returned (.bool (V.exact x y)) ∧ Below w.heap.size w w') ?_ x
  rintro k i b t xs ih ⟨k', i', b', t', ys⟩ w u v hx hy
  obtain ⟨p, c, rfl, hxl, hxc, hxi⟩ := hx.open
  obtain ⟨q, d, rfl, hyl, hyc, hyi⟩ := hy.open
  unfold cells5
  have hB2 : Below w.heap.size w ((w.alloc (.cells #[.int .i64 k, .int .i64 i, .float .f64 b, .string t, .slice p xs.length c] 35)).alloc (.cells #[.int .i64 k', .int .i64 i', .float .f64 b', .string t', .slice q ys.length d] 35)) := ((Below.refl _ _).alloc (Nat.le_refl _) _).alloc (by simp) _
  have HB2 := Lib.hid hB2
  clear hB2 hx hy
  by_cases h1 : ¬ k = k'
  · have g1 := bne_t h1
    have HE : Hid (V.exact (.mk k i b t xs) (.mk k' i' b' t' ys) = false) := by show _ = _; simp [V.exact_mk, h1]
    clear ih hxi hyi h1
    go_enter Tryz.func17, Tryz.ntmps17
    go_wp2_with fail
    go_quiet (fail)
    go_wp2
    go_ret
    exact ⟨by rw [HE.out]; rfl, below_drewN HB2.out _⟩
  replace h1 : k = k' := Classical.not_not.1 h1
  have g1 := bne_f h1
  by_cases h2 : ¬ i = i'
  · have g2 := bne_t h2
    have HE : Hid (V.exact (.mk k i b t xs) (.mk k' i' b' t' ys) = false) := by show _ = _; simp [V.exact_mk, h2]
    clear ih hxi hyi h2 h1
    go_enter Tryz.func17, Tryz.ntmps17
    go_wp2_with fail
    go_quiet (fail)
    go_wp2
    go_ret
    exact ⟨by rw [HE.out]; rfl, below_drewN HB2.out _⟩
  replace h2 : i = i' := Classical.not_not.1 h2
  have g2 := bne_f h2
  by_cases h3 : ¬ t = t'
  · have g3 : (t.toList == t'.toList) = false := by rw [text_eq, decide_eq_false h3]
    have HE : Hid (V.exact (.mk k i b t xs) (.mk k' i' b' t' ys) = false) := by show _ = _; simp [V.exact_mk, h3]
    clear ih hxi hyi h3 h1 h2
    go_enter Tryz.func17, Tryz.ntmps17
    go_wp2_with fail
    go_quiet (fail)
    go_wp2
    go_ret
    exact ⟨by rw [HE.out]; rfl, below_drewN HB2.out _⟩
  replace h3 : t = t' := Classical.not_not.1 h3
  have g3 : (t.toList == t'.toList) = true := by rw [text_eq, decide_eq_true h3]
  by_cases h4 : ¬ b = b'
  · have g4 : ((b : Int) != (b' : Int)) = true := bne_t (by omega)
    have HE : Hid (V.exact (.mk k i b t xs) (.mk k' i' b' t' ys) = false) := by show _ = _; simp [V.exact_mk, h4]
    clear ih hxi hyi h4 h1 h2 h3
    go_enter Tryz.func17, Tryz.ntmps17
    go_wp2_with fail
    go_quiet (fail)
    go_wp2
    go_ret
    exact ⟨by rw [HE.out]; rfl, below_drewN HB2.out _⟩
  replace h4 : b = b' := Classical.not_not.1 h4
  have g4 : ((b : Int) != (b' : Int)) = false := bne_f (by omega)
  by_cases h5 : ¬ xs.length = ys.length
  · have g5 : ((xs.length : Int) != (ys.length : Int)) = true := bne_t (by omega)
    have HE : Hid (V.exact (.mk k i b t xs) (.mk k' i' b' t' ys) = false) := by show _ = _; simp [V.exact_mk, V.exactL_len xs ys h5]
    clear ih hxi hyi h5 h1 h2 h3 h4
    go_enter Tryz.func17, Tryz.ntmps17
    go_wp2_with fail
    go_quiet (fail)
    go_wp2
    go_ret
    exact ⟨by rw [HE.out]; rfl, below_drewN HB2.out _⟩
  replace h5 : xs.length = ys.length := Classical.not_not.1 h5
  have g5 : ((xs.length : Int) != (ys.length : Int)) = false := bne_f (by omega)
  subst h1 h2 h3 h4
  have hEL : V.exact (.mk k i b t xs) (.mk k i b t ys) = V.exactL xs ys := by simp [V.exact_mk]
  rw [hEL]
  have HX : Hid (∀ j (hj : j < xs.length), ∃ u', VLies w u' xs[j] ∧ Item w p j u') := hxi
  have HY : Hid (∀ j (hj : j < ys.length), ∃ u', VLies w u' ys[j] ∧ Item w q j u') := hyi
  have HIH := Lib.hid ih
  have H5 := Lib.hid h5
  clear ih hxi hyi h5 hEL
  go_enter Tryz.func17, Tryz.ntmps17
  go_wp2_with fail
  go_quiet (fail)
  have HB3 := Lib.hid (below_drewN HB2.out nq)
  have hs3 : w.heap.size + 2 = (((w.alloc (.cells #[.int .i64 k, .int .i64 i, .float .f64 b, .string t, .slice p xs.length c] 35)).alloc (.cells #[.int .i64 k, .int .i64 i, .float .f64 b, .string t, .slice q ys.length d] 35)).drewN nq).heap.size := by simp [World.drewN]
  have k1 : (((w.alloc (.cells #[.int .i64 k, .int .i64 i, .float .f64 b, .string t, .slice p xs.length c] 35)).alloc (.cells #[.int .i64 k, .int .i64 i, .float .f64 b, .string t, .slice q ys.length d] 35)).drewN nq).cell? ⟨w.heap.size, 4, none⟩ = some (.slice p xs.length c) := by simp
  have k2 : (((w.alloc (.cells #[.int .i64 k, .int .i64 i, .float .f64 b, .string t, .slice p xs.length c] 35)).alloc (.cells #[.int .i64 k, .int .i64 i, .float .f64 b, .string t, .slice q ys.length d] 35)).drewN nq).cell? ⟨w.heap.size + 1, 4, none⟩ = some (.slice q ys.length d) := by simp
  generalize (((w.alloc (.cells #[.int .i64 k, .int .i64 i, .float .f64 b, .string t, .slice p xs.length c] 35)).alloc (.cells #[.int .i64 k, .int .i64 i, .float .f64 b, .string t, .slice q ys.length d] 35)).drewN nq) = w3 at HB3 hs3 k1 k2 ⊢
  clear HB2 g1 g2 g3 g4 g5
  go_wp2
  go_loopw [5] (fun v5 wr => ∃ j : Nat, j ≤ xs.length ∧ v5 = .int .i64 j ∧ Hid (Below w3.heap.size w3 wr ∧ ∀ m (h1 : m < xs.length) (h2 : m < ys.length), m < j → V.exact xs[m] ys[m] = true)) (fun v5 _ => xs.length - (intOf v5).toNat)
  case atStart => exact ⟨0, by omega, rfl, Below.refl _ _, fun m _ _ h => by omega⟩
  case round =>
    obtain ⟨j, hj, rfl, HL⟩ := hrel
    have n1 : wr.cell? ⟨w.heap.size, 4, none⟩ = some (.slice p xs.length c) := by rw [HL.out.1.cell (p := ⟨w.heap.size, 4, none⟩) (by simp only; omega)]; exact k1
    have n2 : wr.cell? ⟨w.heap.size + 1, 4, none⟩ = some (.slice q ys.length d) := by rw [HL.out.1.cell (p := ⟨w.heap.size + 1, 4, none⟩) (by simp only; omega)]; exact k2
    have hbw : Below w.heap.size w wr := HB3.out.trans (HL.out.1.mono (by have := HB3.out.size; omega))
    by_cases hlt : j < xs.length
    · have hlt2 : j < ys.length := by have := H5.out; omega
      obtain ⟨ux, hvx, hix⟩ := HX.out j hlt
      obtain ⟨uy, hvy, hiy⟩ := HY.out j hlt2
      obtain ⟨bx, ox, kx, ix, fx, tx, qx, nx, cx, rfl, _, rfl, a0, a1, a2, a3, a4⟩ := (hix.on hbw).lies
      obtain ⟨by', oy, ky, iy, fy, ty, qy, ny, cy, rfl, _, rfl, b0, b1, b2, b3, b4⟩ := (hiy.on hbw).lies
      have HC : Hid (∀ w', Below w.heap.size w w' → Calls Tryz.prog 17 #[.agg #[.int .i64 kx, .int .i64 ix, .float .f64 fx, .string tx, .slice qx nx cx], .agg #[.int .i64 ky, .int .i64 iy, .float .f64 fy, .string ty, .slice qy ny cy]] w' fun e w'' => e = .returned (.bool (V.exact xs[j] ys[j])) ∧ Below w'.heap.size w' w'') :=
        fun w' hb => HIH.out _ (List.getElem_mem hlt) ys[j] w' _ _ (hvx.on hb) (hvy.on hb)
      have HBw := Lib.hid hbw
      have HAll := Lib.hid HL.out.2
      have HBr := Lib.hid HL.out.1
      have hj1 : (j : Int) < (xs.length : Int) := by omega
      have hj2 : (j : Int) < (ys.length : Int) := by omega
      obtain ⟨r, hr⟩ : ∃ r, r = V.exact xs[j] ys[j] := ⟨_, rfl⟩
      rw [← hr] at HC
      have HRr := Lib.hid hr
      clear hvx hvy hix hiy hbw HL hr
      go_wp2_with fail
      go_region_held3 (fun w' => w'.cell? ⟨w.heap.size, 4, none⟩ = some (.slice (some ⟨bx, ox, none⟩) xs.length c) ∧ w'.cell? ⟨w.heap.size + 1, 4, none⟩ = some (.slice (some ⟨by', oy, none⟩) ys.length d) ∧ w'.cell? ⟨bx, ox + j * 5, none⟩ = some (.int .i64 kx) ∧ w'.cell? ⟨bx, ox + j * 5 + 1, none⟩ = some (.int .i64 ix) ∧ w'.cell? ⟨bx, ox + j * 5 + 2, none⟩ = some (.float .f64 fx) ∧ w'.cell? ⟨bx, ox + j * 5 + 3, none⟩ = some (.string tx) ∧ w'.cell? ⟨bx, ox + j * 5 + 4, none⟩ = some (.slice qx nx cx) ∧ w'.cell? ⟨by', oy + j * 5, none⟩ = some (.int .i64 ky) ∧ w'.cell? ⟨by', oy + j * 5 + 1, none⟩ = some (.int .i64 iy) ∧ w'.cell? ⟨by', oy + j * 5 + 2, none⟩ = some (.float .f64 fy) ∧ w'.cell? ⟨by', oy + j * 5 + 3, none⟩ = some (.string ty) ∧ w'.cell? ⟨by', oy + j * 5 + 4, none⟩ = some (.slice qy ny cy)) (go_keep) (first
        | (go_at_call 17; refine (HC.out _ (below_drewN HBw.out _)).mono ?_; rintro e w4 ⟨rfl, hb4⟩; have hb5 := below_via (w := wr) hb4 (by rfl) (by rfl) (by rfl) (by rfl); have z1 := cell_on hb5 n1; have z2 := cell_on hb5 n2; have z3 := cell_on hb5 a0; have z4 := cell_on hb5 a1; have z5 := cell_on hb5 a2; have z6 := cell_on hb5 a3; have z7 := cell_on hb5 a4; have z8 := cell_on hb5 b0; have z9 := cell_on hb5 b1; have z10 := cell_on hb5 b2; have z11 := cell_on hb5 b3; have z12 := cell_on hb5 b4; have HB4 := Lib.hid hb5; clear hb4 hb5))
      clear z1 z2 z3 z4 z5 z6 z7 z8 z9 z10 z11 z12 a0 a1 a2 a3 a4 b0 b1 b2 b3 b4 n1 n2
      cases r with
      | true =>
        have HN : Hid (Below w3.heap.size w3 w4 ∧ ∀ m (h1 : m < xs.length) (h2 : m < ys.length), m < j + 1 → V.exact xs[m] ys[m] = true) := by
          refine ⟨HBr.out.trans (HB4.out.mono HBr.out.size), fun m h1 h2 hm => ?_⟩
          by_cases hmj : m = j
          · subst hmj; exact HRr.out.symm
          · exact HAll.out m h1 h2 (by omega)
        clear HBr HB4 HAll HC
        go_wp2
        go_roundw
        case rel => exact ⟨j + 1, by omega, by go_num, HN⟩
        case measure => simp [intOf]; omega
      | false =>
        have HE : Hid (V.exactL xs ys = false) := V.exactL_at xs ys j hlt hlt2 HRr.out.symm
        have HF := Lib.hid (HBw.out.trans (HB4.out.mono HBw.out.size))
        clear HBr HB4 HAll HC
        go_wp2
        go_ret
        exact ⟨by rw [HE.out]; rfl, HF.out⟩
    · have HE : Hid (V.exactL xs ys = true) := V.exactL_all xs ys H5.out (fun m h1 h2 => HL.out.2 m h1 h2 (by omega))
      have HF := Lib.hid hbw
      have hjn : ¬ (j : Int) < (xs.length : Int) := by omega
      clear HL hbw hlt
      go_wp2
      go_ret
      exact ⟨by rw [HE.out]; rfl, HF.out⟩
end Go.Proofs.YtdahackmmhcjoaaGreat
