/- K9E: put together. -/
import Derived.Test.YtbedlaaedefclaaM35
import Derived.Test.YtbedlaaedefclaaM27
import Derived.Test.YtbedlaaedefclaaM28
import Derived.Test.YtbedlaaedefclaaM31
import Derived.Test.YtbedlaaedefclaaM26

/- The landed resolve: checkValue, Value; checkColumn, Check, checkRow. -/
namespace Go.Proofs.Ytbedlaaedefclaa
open Go.RowKit

attribute [local go_sem] run_store_float

set_option maxRecDepth 100000 in
set_option maxHeartbeats 1000000 in
theorem checkValueK (y : Ty) (x : V) (w : World) (u v : Array Value) (hy : TLies w u y) (hx : VLies w v x) : Calls Try.prog 24 #[.agg u, .agg v] w fun e w' => e = .returned (.int .i64 (Rw.vErr y x : Nat)) ∧ Below w.heap.size w w' := by
  obtain ⟨k', ys⟩ := y
  obtain ⟨k, i, b, t, xs⟩ := x
  obtain ⟨q, cq, rfl, -⟩ := hy.open
  obtain ⟨p, c, rfl, -⟩ := hx.open
  obtain ⟨W0, hW0⟩ : ∃ W0, W0 = (w.alloc (.cells (cells2 k' q ys.length cq) 24)).alloc (.cells (cells5 k i b t p xs.length c) 28) := ⟨_, rfl⟩
  obtain ⟨l0, l1, lb, ls⟩ := al2 w (.cells (cells2 k' q ys.length cq) 24) (.cells (cells5 k i b t p xs.length c) 28)
  rw [← hW0] at l0 l1 lb ls
  have HB0 := Lib.hid lb
  have HCv := Lib.hid (checkK _ W0 _ (hx.on lb))
  have HIs := Lib.hid (fun w' (hb : Below w.heap.size w w') => isK (.mk k i b t xs) (.mk k' ys) w' _ _ (hx.on hb) (hy.on hb))
  have HE : Hid (Rw.vErr (.mk k' ys) (.mk k i b t xs) = if chk 1 (.mk k i b t xs) ≠ 0 then chk 1 (.mk k i b t xs) else if Sch.is (.mk k i b t xs) (.mk k' ys) then 0 else 80) := rfl
  obtain ⟨R, hR⟩ : ∃ R, R = Rw.vErr (.mk k' ys) (.mk k i b t xs) := ⟨_, rfl⟩
  rw [← hR] at HE ⊢
  obtain ⟨cv, hcv⟩ : ∃ cv, cv = chk 1 (.mk k i b t xs) := ⟨_, rfl⟩
  rw [← hcv] at HCv HE
  obtain ⟨si, hsi⟩ : ∃ si, si = Sch.is (.mk k i b t xs) (.mk k' ys) := ⟨_, rfl⟩
  rw [← hsi] at HIs HE
  have HCl : Hid (∀ w', Below W0.heap.size W0 w' → (w'.cell? ⟨w.heap.size, 0, none⟩ = some (.int .i64 k') ∧ w'.cell? ⟨w.heap.size, 1, none⟩ = some (.slice q ys.length cq)) ∧ w'.cell? ⟨w.heap.size + 1, 0, none⟩ = some (.int .i64 k) ∧ w'.cell? ⟨w.heap.size + 1, 1, none⟩ = some (.int .i64 i) ∧ w'.cell? ⟨w.heap.size + 1, 2, none⟩ = some (.float .f64 b) ∧ w'.cell? ⟨w.heap.size + 1, 3, none⟩ = some (.string t) ∧ w'.cell? ⟨w.heap.size + 1, 4, none⟩ = some (.slice p xs.length c)) := fun w' h => ⟨⟨blk_at l0 h 0, blk_at l0 h 1⟩, blk_at l1 h 0, blk_at l1 h 1, blk_at l1 h 2, blk_at l1 h 3, blk_at l1 h 4⟩
  unfold cells2 at hW0 HIs ⊢
  unfold cells5 at hW0 HCv HIs ⊢
  have HW0 := Lib.hid hW0
  generalize xs.length = nx at *
  generalize ys.length = ny at *
  clear hR hcv hsi hW0 l0 l1 lb ls hx hy
  go_enter Try.func24, Try.ntmps24
  go_wp2_with fail
  rw [← HW0.out]
  clear HW0
  refine HCv.out.mono ?_
  rintro e w1 ⟨rfl, hb1⟩
  have HB1 := Lib.hid (HB0.out.trans (hb1.mono HB0.out.size))
  obtain ⟨⟨c0, c1⟩, c2, c3, c4, c5, c6⟩ := HCl.out w1 hb1
  clear hb1 HCv HCl
  by_cases h0 : cv = 0
  · have g0 : ((cv : Int) != 0) = false := bne_f (by omega)
    have HE2 : Hid (R = if si then 0 else 80) := by show _ = _; rw [HE.out, if_neg (by omega)]
    clear h0 HE
    go_wp2_with fail
    refine (HIs.out w1 HB1.out).mono ?_
    rintro e w2 ⟨rfl, hb2⟩
    have HB2 := Lib.hid (HB1.out.trans (hb2.mono HB1.out.size))
    clear hb2 HIs
    cases si with
    | true =>
      go_wp2
      go_ret
      exact ⟨by rw [HE2.out]; rfl, HB2.out⟩
    | false =>
      go_wp2
      go_ret
      exact ⟨by rw [HE2.out]; rfl, HB2.out⟩
  · have g0 : ((cv : Int) != 0) = true := bne_t (by omega)
    have HE2 : Hid (R = cv) := by show _ = _; rw [HE.out, if_pos h0]
    clear h0 HE
    go_wp2
    go_ret
    exact ⟨by rw [HE2.out]; rfl, HB1.out⟩

set_option maxRecDepth 100000 in
set_option maxHeartbeats 2000000 in
theorem valueK9 (a b : Ty) (x : V) (w : World) (ua ub uv : Array Value) (ha : TLies w ua a) (hb : TLies w ub b) (hx : VLies w uv x) (hw : x.wf) : Calls Try.prog 8 #[.agg ua, .agg ub, .agg uv] w (ValR w (Rz.value a b x)) := by
  have HG := Lib.hid (Rz.value_good (a := a) (b := b) hw)
  obtain ⟨r, hr⟩ : ∃ r, r = Rz.value a b x := ⟨_, rfl⟩
  have HR : Hid (r = if Ty.check 1 a ≠ 0 then .error (Ty.check 1 a) else if Ty.check 1 b ≠ 0 then .error (Ty.check 1 b) else if Rw.vErr a x ≠ 0 then .error (Rw.vErr a x) else if Rz.can 7 a b = false then .error 60 else Rz.read 7 x a b) := hr
  rw [← hr]
  have HCa := Lib.hid (fun w' (h : Below w.heap.size w w') => checkTypeK a w' ua (ha.on h))
  have HCb := Lib.hid (fun w' (h : Below w.heap.size w w') => checkTypeK b w' ub (hb.on h))
  have HCv := Lib.hid (fun w' (h : Below w.heap.size w w') => checkValueK a x w' ua uv (ha.on h) (hx.on h))
  have HCn := Lib.hid (fun w' (h : Below w.heap.size w w') h1 h2 => canReadK 7 a b 1 1 w' ua ub h1 h2 (by omega) (ha.on h) (hb.on h))
  have HRd := Lib.hid (fun w' (h : Below w.heap.size w w') h1 h2 h3 h4 h5 => readK 7 x a b 1 1 1 w' ua ub uv h1 h2 h3 h4 hw (by omega) h5 (ha.on h) (hb.on h) (hx.on h))
  have HVz := Lib.hid (fun h => Rw.vErr_zero (t := a) (v := x) h)
  obtain ⟨ea, hea⟩ : ∃ n, n = Ty.check 1 a := ⟨_, rfl⟩
  obtain ⟨eb, heb⟩ : ∃ n, n = Ty.check 1 b := ⟨_, rfl⟩
  obtain ⟨ev, hev⟩ : ∃ n, n = Rw.vErr a x := ⟨_, rfl⟩
  obtain ⟨cn, hcn⟩ : ∃ n, n = Rz.can 7 a b := ⟨_, rfl⟩
  rw [← hea] at HR HCa HCn HRd HVz
  rw [← heb] at HR HCb HCn HRd
  rw [← hev] at HR HCv HVz
  rw [← hcn] at HR HCn HRd
  obtain ⟨ka, xa⟩ := a
  obtain ⟨kb, xb⟩ := b
  obtain ⟨k, i, f, t, xs⟩ := x
  obtain ⟨pa, ca, rfl, -⟩ := ha.open
  obtain ⟨pb, cb, rfl, -⟩ := hb.open
  obtain ⟨pv, cv, rfl, -⟩ := hx.open
  unfold cells2 at HCa HCb HCv HCn HRd ⊢
  unfold cells5 at HCv HRd ⊢
  generalize xs.length = nv at *
  generalize xa.length = na at *
  generalize xb.length = nb at *
  obtain ⟨W0, hW0⟩ : ∃ W0, W0 = (((w.alloc (.cells #[.int .i64 ka, .slice pa na ca] 24)).alloc (.cells #[.int .i64 kb, .slice pb nb cb] 24)).alloc (.cells #[.int .i64 k, .int .i64 i, .float .f64 f, .string t, .slice pv nv cv] 28)).alloc (.cells #[.int .i64 0, .int .i64 0, .float .f64 0, .string ⟨#[]⟩, .slice none 0 0] 28) := ⟨_, rfl⟩
  obtain ⟨l0, l1, l2, l3, lb, ls⟩ := al4 w (.cells #[.int .i64 ka, .slice pa na ca] 24) (.cells #[.int .i64 kb, .slice pb nb cb] 24) (.cells #[.int .i64 k, .int .i64 i, .float .f64 f, .string t, .slice pv nv cv] 28) (.cells #[.int .i64 0, .int .i64 0, .float .f64 0, .string ⟨#[]⟩, .slice none 0 0] 28)
  rw [← hW0] at l0 l1 l2 l3 lb ls
  have HW0 := Lib.hid hW0
  have HB0 := Lib.hid lb
  have HS0 := Lib.hid ls
  have HCl : Hid (∀ w', Below W0.heap.size W0 w' → (w'.cell? ⟨w.heap.size, 0, none⟩ = some (.int .i64 ka) ∧ w'.cell? ⟨w.heap.size, 1, none⟩ = some (.slice pa na ca)) ∧ (w'.cell? ⟨w.heap.size + 1, 0, none⟩ = some (.int .i64 kb) ∧ w'.cell? ⟨w.heap.size + 1, 1, none⟩ = some (.slice pb nb cb)) ∧ (w'.cell? ⟨w.heap.size + 1 + 1, 0, none⟩ = some (.int .i64 k) ∧ w'.cell? ⟨w.heap.size + 1 + 1, 1, none⟩ = some (.int .i64 i) ∧ w'.cell? ⟨w.heap.size + 1 + 1, 2, none⟩ = some (.float .f64 f) ∧ w'.cell? ⟨w.heap.size + 1 + 1, 3, none⟩ = some (.string t) ∧ w'.cell? ⟨w.heap.size + 1 + 1, 4, none⟩ = some (.slice pv nv cv)) ∧ (w'.cell? ⟨w.heap.size + 1 + 1 + 1, 0, none⟩ = some (.int .i64 0) ∧ w'.cell? ⟨w.heap.size + 1 + 1 + 1, 1, none⟩ = some (.int .i64 0) ∧ w'.cell? ⟨w.heap.size + 1 + 1 + 1, 2, none⟩ = some (.float .f64 0) ∧ w'.cell? ⟨w.heap.size + 1 + 1 + 1, 3, none⟩ = some (.string ⟨#[]⟩) ∧ w'.cell? ⟨w.heap.size + 1 + 1 + 1, 4, none⟩ = some (.slice none 0 0)) ∧ ∀ m, w'.frozen? ⟨w.heap.size + 1 + 1 + 1, m, none⟩ = false) := fun w' h => ⟨⟨blk_at l0 h 0, blk_at l0 h 1⟩, ⟨blk_at l1 h 0, blk_at l1 h 1⟩, ⟨blk_at l2 h 0, blk_at l2 h 1, blk_at l2 h 2, blk_at l2 h 3, blk_at l2 h 4⟩, ⟨blk_at l3 h 0, blk_at l3 h 1, blk_at l3 h 2, blk_at l3 h 3, blk_at l3 h 4⟩, fun m => blk_free ((h.block _ (blk_lt l3)).trans l3) m⟩
  have HT6 : Hid (∀ w', Below W0.heap.size W0 w' → w'.heap[w.heap.size + 1 + 1 + 1]? = some (.cells #[.int .i64 0, .int .i64 0, .float .f64 0, .string ⟨#[]⟩, .slice none 0 0] 28 (0, 0))) := fun w' h => (h.block _ (blk_lt l3)).trans l3
  have HEa := Lib.hid hea
  have HEb := Lib.hid heb
  have HEv := Lib.hid hev
  have HEc := Lib.hid hcn
  clear hr hea heb hev hcn ha hb hx hw l0 l1 l2 l3 lb ls hW0
  go_enter Try.func8, Try.ntmps8
  go_wp2_with fail
  rw [← HW0.out]
  clear HW0
  refine (HCa.out W0 HB0.out).mono ?_
  rintro e w1 ⟨rfl, hb1⟩
  have HB1 := Lib.hid hb1
  have HB1w := Lib.hid (HB0.out.trans (hb1.mono HB0.out.size))
  obtain ⟨⟨c0, c1⟩, ⟨c2, c3⟩, ⟨c4, c5, c6, c7, c8⟩, ⟨e0, e1, e2, e3, e4⟩, hf⟩ := HCl.out w1 hb1
  clear hb1 HCa
  by_cases h0 : ¬ ea = 0
  · have g0 : ((ea : Int) != 0) = true := bne_t (by omega)
    have HE2 : Hid (r = .error ea) := by show _ = _; rw [HR.out, if_pos h0]
    clear h0 HR HG
    go_wp2
    refine end5 rfl rfl rfl rfl (put5_block (HT6.out w1 HB1.out)) rfl ?_
    rw [HE2.out]
    exact valR_err HB1w.out (by omega)
  replace h0 : ea = 0 := Classical.not_not.1 h0
  have g0 : ((ea : Int) != 0) = false := bne_f (by omega)
  go_wp2_with fail
  refine (HCb.out w1 HB1w.out).mono ?_
  rintro e w2 ⟨rfl, hb2⟩
  have HB2 := Lib.hid (HB1.out.trans (hb2.mono HB1.out.size))
  have HB2w := Lib.hid (HB1w.out.trans (hb2.mono HB1w.out.size))
  clear hb2 HCb c0 c1 c2 c3 c4 c5 c6 c7 c8 e0 e1 e2 e3 e4 hf
  obtain ⟨⟨c0, c1⟩, ⟨c2, c3⟩, ⟨c4, c5, c6, c7, c8⟩, ⟨e0, e1, e2, e3, e4⟩, hf⟩ := HCl.out w2 HB2.out
  by_cases h1 : ¬ eb = 0
  · have g1 : ((eb : Int) != 0) = true := bne_t (by omega)
    have HE2 : Hid (r = .error eb) := by show _ = _; rw [HR.out, if_neg (by omega), if_pos h1]
    clear h0 h1 HR HG
    go_wp2
    refine end5 rfl rfl rfl rfl (put5_block (HT6.out w2 HB2.out)) rfl ?_
    rw [HE2.out]
    exact valR_err HB2w.out (by omega)
  replace h1 : eb = 0 := Classical.not_not.1 h1
  have g1 : ((eb : Int) != 0) = false := bne_f (by omega)
  go_wp2_with fail
  refine (HCv.out w2 HB2w.out).mono ?_
  rintro e w3 ⟨rfl, hb3⟩
  have HB3 := Lib.hid (HB2.out.trans (hb3.mono HB2.out.size))
  have HB3w := Lib.hid (HB2w.out.trans (hb3.mono HB2w.out.size))
  clear hb3 HCv c0 c1 c2 c3 c4 c5 c6 c7 c8 e0 e1 e2 e3 e4 hf
  obtain ⟨⟨c0, c1⟩, ⟨c2, c3⟩, ⟨c4, c5, c6, c7, c8⟩, ⟨e0, e1, e2, e3, e4⟩, hf⟩ := HCl.out w3 HB3.out
  by_cases h2 : ¬ ev = 0
  · have g2 : ((ev : Int) != 0) = true := bne_t (by omega)
    have HE2 : Hid (r = .error ev) := by show _ = _; rw [HR.out, if_neg (by omega), if_neg (by omega), if_pos h2]
    clear h0 h1 h2 HR HG
    go_wp2
    refine end5 rfl rfl rfl rfl (put5_block (HT6.out w3 HB3.out)) rfl ?_
    rw [HE2.out]
    exact valR_err HB3w.out (by omega)
  replace h2 : ev = 0 := Classical.not_not.1 h2
  have g2 : ((ev : Int) != 0) = false := bne_f (by omega)
  go_wp2_with fail
  refine (HCn.out w3 HB3w.out h0 h1).mono ?_
  rintro e w4 ⟨rfl, hb4⟩
  have HB4 := Lib.hid (HB3.out.trans (hb4.mono HB3.out.size))
  have HB4w := Lib.hid (HB3w.out.trans (hb4.mono HB3w.out.size))
  clear hb4 HCn c0 c1 c2 c3 c4 c5 c6 c7 c8 e0 e1 e2 e3 e4 hf
  obtain ⟨⟨c0, c1⟩, ⟨c2, c3⟩, ⟨c4, c5, c6, c7, c8⟩, ⟨e0, e1, e2, e3, e4⟩, hf⟩ := HCl.out w4 HB4.out
  have HS4 : Hid (w.heap.size + 4 ≤ w4.heap.size) := by have := HB4.out.size; have := HS0.out; show _ ≤ _; omega
  cases cn with
  | false =>
    have HE2 : Hid (r = .error 60) := by show _ = _; rw [HR.out, if_neg (by omega), if_neg (by omega), if_neg (by omega), if_pos rfl]
    clear h0 h1 h2 HR HG
    go_wp2
    refine end5 rfl rfl rfl rfl (put5_block (HT6.out w4 HB4.out)) rfl ?_
    rw [HE2.out]
    exact valR_err HB4w.out (by omega)
  | true =>
    have hz := HVz.out h2
    have HE2 : Hid (r = Rz.read 7 (.mk k i f t xs) (.mk ka xa) (.mk kb xb)) := by show _ = _; rw [HR.out, if_neg (by omega), if_neg (by omega), if_neg (by omega), if_neg (by simp)]
    have HD := Lib.hid (HRd.out w4 HB4w.out h0 h1 hz.2.1 hz.2.2 rfl)
    rw [← HE2.out] at HD
    clear h0 h1 h2 HR HG hz
    go_wp2_with fail
    refine HD.out.mono ?_
    intro e w5 hh
    obtain ⟨k5, i5, b5, t5, p5, n5, c5', er, he, hb5, hv5⟩ := hh.pass (w0 := w) (g := w.heap.size + 1 + 1 + 1) HB4w.out (by omega) (by have := HS4.out; omega)
    unfold cells5 at he
    subst he
    have hb6 : Below W0.heap.size W0 w5 := HB4.out.trans (hb5.mono HB4.out.size)
    clear c0 c1 c2 c3 c4 c5 c6 c7 c8 e0 e1 e2 e3 e4 hf
    obtain ⟨-, -, -, ⟨e0, e1, e2, e3, e4⟩, hf⟩ := HCl.out w5 hb6
    have HD6 := Lib.hid (HT6.out w5 hb6)
    have HV2 := Lib.hid hv5
    unfold put5 at HV2
    clear hh hb5 hb6 hv5
    go_wp2
    refine end5 rfl rfl rfl rfl (put5_block HD6.out) rfl ?_
    exact HV2.out
end Go.Proofs.Ytbedlaaedefclaa
