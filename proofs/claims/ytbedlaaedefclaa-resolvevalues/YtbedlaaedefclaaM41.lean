/- WExact9, WScal9: put together. -/
import Derived.Test.YtbedlaaedefclaaM04
import Derived.Test.YtbedlaaedefclaaM31
import Derived.Test.YtbedlaaedefclaaM21
import Derived.Test.YtbedlaaedefclaaM08

/- The law's own exact(a, b), of stage 9. -/
namespace Go.Proofs.Ytbedlaaedefclaa
open Go.RowKit

attribute [local go_sem] run_frombits run_bits

set_option maxRecDepth 100000 in
set_option maxHeartbeats 400000 in
theorem exact9 : ∀ (x y : V) (w : World) (u v : Array Value), VLies w u x → VLies w v y → Calls Try.prog 11 #[.agg u, .agg v] w fun e w' => e = .returned (.bool (V.exact x y)) ∧ Below w.heap.size w w' := by
  intro x
  refine V.ind (P := fun x => ∀ (y : V) (w : World) (u v : Array Value), VLies w u x → VLies w v y → Calls Try.prog 11 #[.agg u, .agg v] w fun e w' => e = .returned (.bool (V.exact x y)) ∧ Below w.heap.size w w') ?_ x
  rintro k i b t xs ih ⟨k', i', b', t', ys⟩ w u v hx hy
  obtain ⟨p, c, rfl, hxl, hxc, hxi⟩ := hx.open
  obtain ⟨q, d, rfl, hyl, hyc, hyi⟩ := hy.open
  unfold cells5
  have hB2 : Below w.heap.size w ((w.alloc (.cells #[.int .i64 k, .int .i64 i, .float .f64 b, .string t, .slice p xs.length c] 28)).alloc (.cells #[.int .i64 k', .int .i64 i', .float .f64 b', .string t', .slice q ys.length d] 28)) := ((Below.refl _ _).alloc (Nat.le_refl _) _).alloc (by simp) _
  have HB2 := Lib.hid hB2
  clear hB2 hx hy
  by_cases h1 : ¬ k = k'
  · have g1 := bne_t h1
    have HE : Hid (V.exact (.mk k i b t xs) (.mk k' i' b' t' ys) = false) := by show _ = _; simp [V.exact_mk, h1]
    clear ih hxi hyi h1
    go_enter Try.func11, Try.ntmps11
    go_wp2_with fail
    go_quiet (fail)
    go_wp2
    go_ret
    exact ⟨by rw [HE.out]; rfl, below_drewN HB2.out _⟩
  replace h1 : k = k' := Classical.not_not.1 h1
  have g1 := bne_f h1
  by_cases h2 : ¬ i = i'
  · have g2 := bne_t h2
    have HE : Hid (V.exact (.mk k i b t xs) (.mk k' i' b' t' ys) = false) := by show _ = _; simp [V.exact_mk, h2]
    clear ih hxi hyi h2 h1
    go_enter Try.func11, Try.ntmps11
    go_wp2_with fail
    go_quiet (fail)
    go_wp2
    go_ret
    exact ⟨by rw [HE.out]; rfl, below_drewN HB2.out _⟩
  replace h2 : i = i' := Classical.not_not.1 h2
  have g2 := bne_f h2
  by_cases h3 : ¬ t = t'
  · have g3 : (t.toList == t'.toList) = false := by rw [text_eq, decide_eq_false h3]
    have HE : Hid (V.exact (.mk k i b t xs) (.mk k' i' b' t' ys) = false) := by show _ = _; simp [V.exact_mk, h3]
    clear ih hxi hyi h3 h1 h2
    go_enter Try.func11, Try.ntmps11
    go_wp2_with fail
    go_quiet (fail)
    go_wp2
    go_ret
    exact ⟨by rw [HE.out]; rfl, below_drewN HB2.out _⟩
  replace h3 : t = t' := Classical.not_not.1 h3
  have g3 : (t.toList == t'.toList) = true := by rw [text_eq, decide_eq_true h3]
  by_cases h4 : ¬ b = b'
  · have g4 : ((b : Int) != (b' : Int)) = true := bne_t (by omega)
    have HE : Hid (V.exact (.mk k i b t xs) (.mk k' i' b' t' ys) = false) := by show _ = _; simp [V.exact_mk, h4]
    clear ih hxi hyi h4 h1 h2 h3
    go_enter Try.func11, Try.ntmps11
    go_wp2_with fail
    go_quiet (fail)
    go_wp2
    go_ret
    exact ⟨by rw [HE.out]; rfl, below_drewN HB2.out _⟩
  replace h4 : b = b' := Classical.not_not.1 h4
  have g4 : ((b : Int) != (b' : Int)) = false := bne_f (by omega)
  by_cases h5 : ¬ xs.length = ys.length
  · have g5 : ((xs.length : Int) != (ys.length : Int)) = true := bne_t (by omega)
    have HE : Hid (V.exact (.mk k i b t xs) (.mk k' i' b' t' ys) = false) := by show _ = _; simp [V.exact_mk, V.exactL_len xs ys h5]
    clear ih hxi hyi h5 h1 h2 h3 h4
    go_enter Try.func11, Try.ntmps11
    go_wp2_with fail
    go_quiet (fail)
    go_wp2
    go_ret
    exact ⟨by rw [HE.out]; rfl, below_drewN HB2.out _⟩
  replace h5 : xs.length = ys.length := Classical.not_not.1 h5
  have g5 : ((xs.length : Int) != (ys.length : Int)) = false := bne_f (by omega)
  subst h1 h2 h3 h4
  have hEL : V.exact (.mk k i b t xs) (.mk k i b t ys) = V.exactL xs ys := by simp [V.exact_mk]
  rw [hEL]
  have HX : Hid (∀ j (hj : j < xs.length), ∃ u', VLies w u' xs[j] ∧ Item w p j u') := hxi
  have HY : Hid (∀ j (hj : j < ys.length), ∃ u', VLies w u' ys[j] ∧ Item w q j u') := hyi
  have HIH := Lib.hid ih
  have H5 := Lib.hid h5
  clear ih hxi hyi h5 hEL
  go_enter Try.func11, Try.ntmps11
  go_wp2_with fail
  go_quiet (fail)
  have HB3 := Lib.hid (below_drewN HB2.out nq)
  have hs3 : w.heap.size + 2 = (((w.alloc (.cells #[.int .i64 k, .int .i64 i, .float .f64 b, .string t, .slice p xs.length c] 28)).alloc (.cells #[.int .i64 k, .int .i64 i, .float .f64 b, .string t, .slice q ys.length d] 28)).drewN nq).heap.size := by simp [World.drewN]
  have k1 : (((w.alloc (.cells #[.int .i64 k, .int .i64 i, .float .f64 b, .string t, .slice p xs.length c] 28)).alloc (.cells #[.int .i64 k, .int .i64 i, .float .f64 b, .string t, .slice q ys.length d] 28)).drewN nq).cell? ⟨w.heap.size, 4, none⟩ = some (.slice p xs.length c) := by simp
  have k2 : (((w.alloc (.cells #[.int .i64 k, .int .i64 i, .float .f64 b, .string t, .slice p xs.length c] 28)).alloc (.cells #[.int .i64 k, .int .i64 i, .float .f64 b, .string t, .slice q ys.length d] 28)).drewN nq).cell? ⟨w.heap.size + 1, 4, none⟩ = some (.slice q ys.length d) := by simp
  generalize (((w.alloc (.cells #[.int .i64 k, .int .i64 i, .float .f64 b, .string t, .slice p xs.length c] 28)).alloc (.cells #[.int .i64 k, .int .i64 i, .float .f64 b, .string t, .slice q ys.length d] 28)).drewN nq) = w3 at HB3 hs3 k1 k2 ⊢
  clear HB2 g1 g2 g3 g4 g5
  go_wp2
  go_loopw [5] (fun v5 wr => ∃ j : Nat, j ≤ xs.length ∧ v5 = .int .i64 j ∧ Hid (Below w3.heap.size w3 wr ∧ ∀ m (h1 : m < xs.length) (h2 : m < ys.length), m < j → V.exact xs[m] ys[m] = true)) (fun v5 _ => xs.length - (intOf v5).toNat)
  case atStart => exact ⟨0, by omega, rfl, Below.refl _ _, fun m _ _ h => by omega⟩
  case round =>
    obtain ⟨j, hj, rfl, HL⟩ := hrel
    have n1 : wr.cell? ⟨w.heap.size, 4, none⟩ = some (.slice p xs.length c) := by rw [HL.out.1.cell (p := ⟨w.heap.size, 4, none⟩) (by simp only; omega)]; exact k1
    have n2 : wr.cell? ⟨w.heap.size + 1, 4, none⟩ = some (.slice q ys.length d) := by rw [HL.out.1.cell (p := ⟨w.heap.size + 1, 4, none⟩) (by simp only; omega)]; exact k2
    have hbw : Below w.heap.size w wr := HB3.out.trans (HL.out.1.mono (by have := HB3.out.size; omega))
    by_cases hlt : j < xs.length
    · have hlt2 : j < ys.length := by have := H5.out; omega
      obtain ⟨ux, hvx, hix⟩ := HX.out j hlt
      obtain ⟨uy, hvy, hiy⟩ := HY.out j hlt2
      obtain ⟨bx, ox, kx, ix, fx, tx, qx, nx, cx, rfl, _, rfl, a0, a1, a2, a3, a4⟩ := (hix.on hbw).lies
      obtain ⟨by', oy, ky, iy, fy, ty, qy, ny, cy, rfl, _, rfl, b0, b1, b2, b3, b4⟩ := (hiy.on hbw).lies
      have HC : Hid (∀ w', Below w.heap.size w w' → Calls Try.prog 11 #[.agg #[.int .i64 kx, .int .i64 ix, .float .f64 fx, .string tx, .slice qx nx cx], .agg #[.int .i64 ky, .int .i64 iy, .float .f64 fy, .string ty, .slice qy ny cy]] w' fun e w'' => e = .returned (.bool (V.exact xs[j] ys[j])) ∧ Below w'.heap.size w' w'') :=
        fun w' hb => HIH.out _ (List.getElem_mem hlt) ys[j] w' _ _ (hvx.on hb) (hvy.on hb)
      have HBw := Lib.hid hbw
      have HAll := Lib.hid HL.out.2
      have HBr := Lib.hid HL.out.1
      have hj1 : (j : Int) < (xs.length : Int) := by omega
      have hj2 : (j : Int) < (ys.length : Int) := by omega
      obtain ⟨r, hr⟩ : ∃ r, r = V.exact xs[j] ys[j] := ⟨_, rfl⟩
      rw [← hr] at HC
      have HRr := Lib.hid hr
      clear hvx hvy hix hiy hbw HL hr
      go_wp2_with fail
      go_region_held3 (fun w' => w'.cell? ⟨w.heap.size, 4, none⟩ = some (.slice (some ⟨bx, ox, none⟩) xs.length c) ∧ w'.cell? ⟨w.heap.size + 1, 4, none⟩ = some (.slice (some ⟨by', oy, none⟩) ys.length d) ∧ w'.cell? ⟨bx, ox + j * 5, none⟩ = some (.int .i64 kx) ∧ w'.cell? ⟨bx, ox + j * 5 + 1, none⟩ = some (.int .i64 ix) ∧ w'.cell? ⟨bx, ox + j * 5 + 2, none⟩ = some (.float .f64 fx) ∧ w'.cell? ⟨bx, ox + j * 5 + 3, none⟩ = some (.string tx) ∧ w'.cell? ⟨bx, ox + j * 5 + 4, none⟩ = some (.slice qx nx cx) ∧ w'.cell? ⟨by', oy + j * 5, none⟩ = some (.int .i64 ky) ∧ w'.cell? ⟨by', oy + j * 5 + 1, none⟩ = some (.int .i64 iy) ∧ w'.cell? ⟨by', oy + j * 5 + 2, none⟩ = some (.float .f64 fy) ∧ w'.cell? ⟨by', oy + j * 5 + 3, none⟩ = some (.string ty) ∧ w'.cell? ⟨by', oy + j * 5 + 4, none⟩ = some (.slice qy ny cy)) (go_keep) (first
        | (go_at_call 11; refine (HC.out _ (below_drewN HBw.out _)).mono ?_; rintro e w4 ⟨rfl, hb4⟩; have hb5 := below_via (w := wr) hb4 (by rfl) (by rfl) (by rfl) (by rfl); have z1 := cell_on hb5 n1; have z2 := cell_on hb5 n2; have z3 := cell_on hb5 a0; have z4 := cell_on hb5 a1; have z5 := cell_on hb5 a2; have z6 := cell_on hb5 a3; have z7 := cell_on hb5 a4; have z8 := cell_on hb5 b0; have z9 := cell_on hb5 b1; have z10 := cell_on hb5 b2; have z11 := cell_on hb5 b3; have z12 := cell_on hb5 b4; have HB4 := Lib.hid hb5; clear hb4 hb5))
      clear z1 z2 z3 z4 z5 z6 z7 z8 z9 z10 z11 z12 a0 a1 a2 a3 a4 b0 b1 b2 b3 b4 n1 n2
      cases r with
      | true =>
        have HN : Hid (Below w3.heap.size w3 w4 ∧ ∀ m (h1 : m < xs.length) (h2 : m < ys.length), m < j + 1 → V.exact xs[m] ys[m] = true) := by
          refine ⟨HBr.out.trans (HB4.out.mono HBr.out.size), fun m h1 h2 hm => ?_⟩
          by_cases hmj : m = j
          · subst hmj; exact HRr.out.symm
          · exact HAll.out m h1 h2 (by omega)
        clear HBr HB4 HAll HC
        go_wp2
        go_roundw
        case rel => exact ⟨j + 1, by omega, by go_num, HN⟩
        case measure => simp [intOf]; omega
      | false =>
        have HE : Hid (V.exactL xs ys = false) := V.exactL_at xs ys j hlt hlt2 HRr.out.symm
        have HF := Lib.hid (HBw.out.trans (HB4.out.mono HBw.out.size))
        clear HBr HB4 HAll HC
        go_wp2
        go_ret
        exact ⟨by rw [HE.out]; rfl, HF.out⟩
    · have HE : Hid (V.exactL xs ys = true) := V.exactL_all xs ys H5.out (fun m h1 h2 => HL.out.2 m h1 h2 (by omega))
      have HF := Lib.hid hbw
      have hjn : ¬ (j : Int) < (xs.length : Int) := by omega
      clear HL hbw hlt
      go_wp2
      go_ret
      exact ⟨by rw [HE.out]; rfl, HF.out⟩
end Go.Proofs.Ytbedlaaedefclaa

/- The document's scalar. -/
namespace Go.Proofs.Ytbedlaaedefclaa
open Go.RowKit

attribute [local go_sem] run_store_float

set_option maxRecDepth 100000 in
set_option maxHeartbeats 2000000 in
theorem scal_23 (i : Int) (b : Nat) (p : Option Addr) (n c : Nat) (w : World) : Calls Try.prog 54 #[.agg (cells5 2 i b ⟨#[]⟩ p n c), .int .i64 3] w (ValR w (if fromE i = 0 then .ok (.mk 3 0 (fromB i) ⟨#[]⟩ []) else .error 10)) := by
  unfold cells5
  obtain ⟨r, hr⟩ : ∃ r : Except Nat V, r = (if fromE i = 0 then .ok (.mk 3 0 (fromB i) ⟨#[]⟩ []) else .error 10) := ⟨_, rfl⟩
  rw [← hr]
  have HR := Lib.hid hr
  clear hr
  by_cases h0 : fromE i = 0
  · have HF : Hid (∀ w, Calls Try.prog 74 #[.int .i64 i] w fun e w' => e = .returned (.tuple #[.float .f64 (fromB i), .int .i64 0]) ∧ w' = w) := fun w => by have := refFromInt_any i w; rw [h0] at this; exact this
    have HR2 : Hid (r = .ok (.mk 3 0 (fromB i) ⟨#[]⟩ [])) := by show _ = _; rw [HR.out, if_pos h0]
    clear HR h0
    go_enter Try.func54, Try.ntmps54
    go_wp2_with fail
    refine (refFix_any b _).mono ?_
    rintro e w1 ⟨rfl, hw1⟩
    rw [hw1]
    clear hw1 w1
    go_wp2_with fail
    refine (HF.out _).mono ?_
    rintro e w1 ⟨rfl, hw1⟩
    rw [hw1]
    clear hw1 w1
    go_wp2
    refine end5 rfl rfl rfl rfl (al3 w _ _ _).2.1 rfl ?_
    rw [HR2.out]
    exact leaf_told (al3 w _ _ _).2.2.2.1
  · have h1 : fromE i = 10 := by
      unfold fromE at h0 ⊢
      split
      · next h => rw [if_pos h] at h0; exact absurd rfl h0
      · rfl
    have HF : Hid (∀ w, Calls Try.prog 74 #[.int .i64 i] w fun e w' => e = .returned (.tuple #[.float .f64 (fromB i), .int .i64 10]) ∧ w' = w) := fun w => by have := refFromInt_any i w; rw [h1] at this; exact this
    have HR2 : Hid (r = .error 10) := by show _ = _; rw [HR.out, if_neg h0]
    clear HR h0 h1
    go_enter Try.func54, Try.ntmps54
    go_wp2_with fail
    refine (refFix_any b _).mono ?_
    rintro e w1 ⟨rfl, hw1⟩
    rw [hw1]
    clear hw1 w1
    go_wp2_with fail
    refine (HF.out _).mono ?_
    rintro e w1 ⟨rfl, hw1⟩
    rw [hw1]
    clear hw1 w1
    go_wp2
    refine end5 rfl rfl rfl rfl (al3 w _ _ _).2.1 rfl ?_
    rw [HR2.out]
    exact ⟨rfl, (al3 w _ _ _).2.2.2.1⟩

set_option maxRecDepth 100000 in
set_option maxHeartbeats 2000000 in
theorem scal_32 (b : Nat) (p : Option Addr) (n c : Nat) (w : World) : Calls Try.prog 54 #[.agg (cells5 3 0 b ⟨#[]⟩ p n c), .int .i64 2] w (ValR w (if toE b = 0 then .ok (.mk 2 (toN b) 0 ⟨#[]⟩ []) else .error 10)) := by
  unfold cells5
  obtain ⟨r, hr⟩ : ∃ r : Except Nat V, r = (if toE b = 0 then .ok (.mk 2 (toN b) 0 ⟨#[]⟩ []) else .error 10) := ⟨_, rfl⟩
  rw [← hr]
  have HR := Lib.hid hr
  clear hr
  by_cases h0 : toE b = 0
  · have HF : Hid (∀ w, Calls Try.prog 75 #[.float .f64 b] w fun e w' => e = .returned (.tuple #[.int .i64 (toN b), .int .i64 0]) ∧ w' = w) := fun w => by have := refToInt_any b w; rw [h0] at this; exact this
    have HR2 : Hid (r = .ok (.mk 2 (toN b) 0 ⟨#[]⟩ [])) := by show _ = _; rw [HR.out, if_pos h0]
    clear HR h0
    go_enter Try.func54, Try.ntmps54
    go_wp2_with fail
    refine (refFix_any b _).mono ?_
    rintro e w1 ⟨rfl, hw1⟩
    rw [hw1]
    clear hw1 w1
    go_wp2_with fail
    refine (HF.out _).mono ?_
    rintro e w1 ⟨rfl, hw1⟩
    rw [hw1]
    clear hw1 w1
    go_wp2
    refine end5 rfl rfl rfl rfl (al3 w _ _ _).2.1 rfl ?_
    rw [HR2.out]
    exact leaf_told (al3 w _ _ _).2.2.2.1
  · have h1 : toE b = 10 := by
      unfold toE at h0 ⊢
      split
      · next h => rw [if_pos h] at h0; exact absurd rfl h0
      · rfl
    have HF : Hid (∀ w, Calls Try.prog 75 #[.float .f64 b] w fun e w' => e = .returned (.tuple #[.int .i64 (toN b), .int .i64 10]) ∧ w' = w) := fun w => by have := refToInt_any b w; rw [h1] at this; exact this
    have HR2 : Hid (r = .error 10) := by show _ = _; rw [HR.out, if_neg h0]
    clear HR h0 h1
    go_enter Try.func54, Try.ntmps54
    go_wp2_with fail
    refine (refFix_any b _).mono ?_
    rintro e w1 ⟨rfl, hw1⟩
    rw [hw1]
    clear hw1 w1
    go_wp2_with fail
    refine (HF.out _).mono ?_
    rintro e w1 ⟨rfl, hw1⟩
    rw [hw1]
    clear hw1 w1
    go_wp2
    refine end5 rfl rfl rfl rfl (al3 w _ _ _).2.1 rfl ?_
    rw [HR2.out]
    exact ⟨rfl, (al3 w _ _ _).2.2.2.1⟩

set_option maxRecDepth 100000 in
set_option maxHeartbeats 2000000 in
theorem scal_4 (j i : Int) (b : Nat) (t : ByteArray) (ht : t.size ≤ 281474976702464) (p : Option Addr) (n c : Nat) (w : World) (hj : j = 4 ∨ j = 5) : Calls Try.prog 54 #[.agg (cells5 j i b t p n c), .int .i64 4] w (ValR w (if utfT t = false then .error 61 else .ok (.mk 4 i (fixB b) t []))) := by
  unfold cells5
  obtain ⟨r, hr⟩ : ∃ r : Except Nat V, r = (if utfT t = false then .error 61 else .ok (.mk 4 i (fixB b) t [])) := ⟨_, rfl⟩
  rw [← hr]
  have HR := Lib.hid hr
  have HU : Hid (∀ w, Calls Try.prog 73 #[.string t] w fun e w' => e = .returned (.bool (utfT t)) ∧ w' = w) := fun w => refUtf6 t ht w
  have g2 : (j == 2) = false := by rw [beq_eq_false_iff_ne]; omega
  have g3 : (j == 3) = false := by rw [beq_eq_false_iff_ne]; omega
  clear hr ht hj
  cases hu : utfT t with
  | true =>
    have HR2 : Hid (r = .ok (.mk 4 i (fixB b) t [])) := by show _ = _; rw [HR.out, hu]; rfl
    rw [hu] at HU
    clear HR hu
    go_enter Try.func54, Try.ntmps54
    go_wp2_with fail
    refine (refFix_any b _).mono ?_
    rintro e w1 ⟨rfl, hw1⟩
    rw [hw1]
    clear hw1 w1
    go_wp2_with fail
    refine (HU.out _).mono ?_
    rintro e w1 ⟨rfl, hw1⟩
    rw [hw1]
    clear hw1 w1
    go_wp2
    refine end5 rfl rfl rfl rfl (al3 w _ _ _).2.1 rfl ?_
    rw [HR2.out]
    exact leaf_told (al3 w _ _ _).2.2.2.1
  | false =>
    have HR2 : Hid (r = .error 61) := by show _ = _; rw [HR.out, hu]; rfl
    rw [hu] at HU
    clear HR hu
    go_enter Try.func54, Try.ntmps54
    go_wp2_with fail
    refine (refFix_any b _).mono ?_
    rintro e w1 ⟨rfl, hw1⟩
    rw [hw1]
    clear hw1 w1
    go_wp2_with fail
    refine (HU.out _).mono ?_
    rintro e w1 ⟨rfl, hw1⟩
    rw [hw1]
    clear hw1 w1
    go_wp2
    refine end5 rfl rfl rfl rfl (al3 w _ _ _).2.1 rfl ?_
    rw [HR2.out]
    exact ⟨rfl, (al3 w _ _ _).2.2.2.1⟩

set_option maxRecDepth 100000 in
set_option maxHeartbeats 2000000 in
theorem scal_else (j k i : Int) (b : Nat) (t : ByteArray) (p : Option Addr) (n c : Nat) (w : World) (h1 : ¬ (j = 2 ∧ k = 3)) (h2 : ¬ (j = 3 ∧ k = 2)) (h3 : ¬ k = 4) : Calls Try.prog 54 #[.agg (cells5 j i b t p n c), .int .i64 k] w (ValR w (.ok (.mk k i (fixB b) t []))) := by
  unfold cells5
  have g4 := beq_f h3
  by_cases a2 : j = 2
  · have g2 := beq_t a2
    have g3 : (j == 3) = false := beq_f (by omega)
    have q3 : (k == 3) = false := beq_f (by omega)
    clear h1 h2 h3 a2
    go_enter Try.func54, Try.ntmps54
    go_wp2_with fail
    refine (refFix_any b _).mono ?_
    rintro e w1 ⟨rfl, hw1⟩
    rw [hw1]
    clear hw1 w1
    go_wp2
    refine end5 rfl rfl rfl rfl (al3 w _ _ _).2.1 rfl ?_
    exact leaf_told (al3 w _ _ _).2.2.2.1
  have g2 := beq_f a2
  by_cases a3 : j = 3
  · have g3 := beq_t a3
    have q3 : (k == 2) = false := beq_f (by omega)
    clear h1 h2 h3 a2 a3
    go_enter Try.func54, Try.ntmps54
    go_wp2_with fail
    refine (refFix_any b _).mono ?_
    rintro e w1 ⟨rfl, hw1⟩
    rw [hw1]
    clear hw1 w1
    go_wp2
    refine end5 rfl rfl rfl rfl (al3 w _ _ _).2.1 rfl ?_
    exact leaf_told (al3 w _ _ _).2.2.2.1
  have g3 := beq_f a3
  clear h1 h2 h3 a2 a3
  go_enter Try.func54, Try.ntmps54
  go_wp2_with fail
  refine (refFix_any b _).mono ?_
  rintro e w1 ⟨rfl, hw1⟩
  rw [hw1]
  clear hw1 w1
  go_wp2
  refine end5 rfl rfl rfl rfl (al3 w _ _ _).2.1 rfl ?_
  exact leaf_told (al3 w _ _ _).2.2.2.1

/-- P9.1, of a value without items that can be read so -/
theorem refScalar9 {dv : Nat} {j k i : Int} {b : Nat} {t : ByteArray} (p : Option Addr) (c : Nat) (w : World) (h : chk dv (.mk j i b t []) = 0) (hp : Rz.plain j k = true) : Calls Try.prog 54 #[.agg (cells5 j i b t p 0 c), .int .i64 k] w (ValR w (Rz.scalar k (.mk j i b t []))) := by
  obtain ⟨-, ho, ht, -, -, -⟩ := Sch.chk_open h
  obtain ⟨-, o2, o3, o4, -, -, -⟩ := Sch.own_open ho
  have hp' : j = k ∨ (j = 2 ∧ k = 3) ∨ (j = 3 ∧ k = 2) ∨ (j = 1 ∧ k = 2) ∨ (j = 4 ∧ k = 5) ∨ (j = 5 ∧ k = 4) := by
    unfold Rz.plain at hp
    simp only [Bool.and_eq_true, Bool.not_eq_true', beq_eq_false_iff_ne, ne_eq, Bool.or_eq_true, beq_iff_eq] at hp
    rcases hp.2 with ((((h | h) | h) | h) | h) | h
    · exact .inl h
    · exact .inr (.inl h)
    · exact .inr (.inr (.inl h))
    · exact .inr (.inr (.inr (.inl h)))
    · exact .inr (.inr (.inr (.inr (.inl h))))
    · exact .inr (.inr (.inr (.inr (.inr h))))
  unfold Rz.scalar
  by_cases c1 : j = 2 ∧ k = 3
  · rw [if_pos c1]
    have e3 : t = ⟨#[]⟩ := by
      rcases o4 with o4 | o4 | o4
      · omega
      · omega
      · exact o4
    obtain ⟨rfl, rfl⟩ := c1
    subst e3
    exact scal_23 i b p 0 c w
  rw [if_neg c1]
  by_cases c2 : j = 3 ∧ k = 2
  · rw [if_pos c2]
    have e3 : t = ⟨#[]⟩ := by
      rcases o4 with o4 | o4 | o4
      · omega
      · omega
      · exact o4
    have e1 : i = 0 := by omega
    obtain ⟨rfl, rfl⟩ := c2
    subst e3 e1
    exact scal_32 b p 0 c w
  rw [if_neg c2]
  by_cases c3 : k = 4
  · have hj : j = 4 ∨ j = 5 := by rcases hp' with h | h | h | h | h | h <;> omega
    subst c3
    have hh := scal_4 j i b t (by omega) p 0 c w hj
    show Calls _ _ _ _ (ValR w (if (4 : Int) = 4 ∧ utfT t = false then .error 61 else .ok (.mk 4 i (fixB b) t [])))
    simp only [true_and]
    exact hh
  · rw [if_neg (by rintro ⟨h4, -⟩; exact c3 h4)]
    exact scal_else j k i b t p 0 c w c1 c2 c3
end Go.Proofs.Ytbedlaaedefclaa
