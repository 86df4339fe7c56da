/- K9D: put together. -/
import Derived.Test.YtbedlaaedefclaaM34
import Derived.Test.YtbedlaaedefclaaM25

/- The landed resolve: read. -/
namespace Go.Proofs.Ytbedlaaedefclaa
open Go.RowKit

attribute [local go_sem] run_store_float eqKinds

/-- what a call answered is answered on, through a place of one's own -/
theorem ValR.pass {w0 w1 w2 : World} {g : Nat} {r : Except Nat V} {e : Ending} (h : ValR w1 r e w2) (hb : Below w0.heap.size w0 w1) (h1 : w0.heap.size ≤ g) (h2 : g < w1.heap.size) : ∃ k i b t p n c, ∃ er : Int, e = .returned (.tuple #[.agg (cells5 k i b t p n c), .int .i64 er]) ∧ Below w1.heap.size w1 w2 ∧ ValR w0 r (.returned (.tuple #[.agg (cells5 k i b t p n c), .int .i64 er])) (put5 w2 g k i b t (.slice p n c)) := by
  cases r with
  | error er =>
    have hb2 : Below w0.heap.size w0 w2 := hb.trans (h.2.mono hb.size)
    exact ⟨_, _, _, _, _, _, _, _, h.1, h.2, rfl, put5_below hb2 h1⟩
  | ok y =>
    obtain ⟨u, he, hv, hb2⟩ := h
    obtain ⟨k, i, b, t, p, n, c, rfl⟩ := hv.shape
    exact ⟨_, _, _, _, _, _, _, 0, he, hb2, valR_ok (hb.trans (hb2.mono hb.size)) h1 h2 hv⟩
theorem items_one {w : World} {g : Nat} {k i : Int} {b : Nat} {t : ByteArray} {p : Option Addr} {n c : Nat} {T : TypeId} {x : V} (hg : w.heap[g]? = some (.cells #[.int .i64 k, .int .i64 i, .float .f64 b, .string t, .slice p n c] T (0, 0))) (hx : VLies w (cells5 k i b t p n c) x) : Items w (some ⟨g, 0, none⟩) [x] := by
  intro j hj
  have hj0 : j = 0 := by simpa using hj
  subst hj0
  exact ⟨_, hx, ⟨g, 0, k, i, b, t, p, n, c, rfl, blk_lt hg, rfl, blk_cell hg 0, blk_cell hg 1, blk_cell hg 2, blk_cell hg 3, blk_cell hg 4⟩⟩

set_option maxRecDepth 100000 in
set_option maxHeartbeats 4000000 in
theorem readK : ∀ (d : Nat) (v : V) (a b : Ty) (da db dv : Nat) (w : World) (ua ub uv : Array Value), Ty.check da a = 0 → Ty.check db b = 0 → chk dv v = 0 → Sch.of v a = true → v.wf → 9 ≤ d + da + db → Rz.can d a b = true → TLies w ua a → TLies w ub b → VLies w uv v → Calls Try.prog 26 #[.agg ua, .agg ub, .agg uv] w (ValR w (Rz.read d v a b)) := by
  intro d
  induction d with
  | zero =>
    rintro v ⟨ka, xa⟩ ⟨kb, xb⟩ da db dv w ua ub uv ha hb - - - hd
    have := (Sch.ty_open ha).1
    have := (Sch.ty_open hb).1
    omega
  | succ d ih =>
    rintro ⟨kv, iv, bv, tv, vs⟩ ⟨ka, xa⟩ ⟨kb, xb⟩ da db dv w ua ub uv ha hb hc ho hw hd hcan hua hub huv
    obtain ⟨p, ca, rfl, -, hpc, hpi⟩ := hua.open
    obtain ⟨q, cb, rfl, -, hqc, hqi⟩ := hub.open
    obtain ⟨pv, cv, rfl, hvl, hvc, hvi⟩ := huv.open
    obtain ⟨a4, ak, ax⟩ := Sch.ty_open ha
    obtain ⟨b4, bk, bx⟩ := Sch.ty_open hb
    obtain ⟨hj, hi⟩ := Rz.of_open ho
    have hj' : kv = ka := hj
    subst hj'
    obtain ⟨-, hown, htx, hn, hutf, hcx⟩ := Sch.chk_open hc
    obtain ⟨-, o2, o3, o4, -, -, o7⟩ := Sch.own_open hown
    have hwx := (V.wf_mk.1 hw).2.2.2.2
    have HCk := Lib.hid hc
    have HOf := Lib.hid ho
    have HWf := Lib.hid hw
    have HUA := Lib.hid hua
    have HUB := Lib.hid hub
    have HUV := Lib.hid huv
    have HA := Lib.hid ha
    have HBb := Lib.hid hb
    have HIH := Lib.hid ih
    have HVI : Hid (Items w pv vs) := hvi
    have HCn := Lib.hid hcan
    have HCc := Lib.hid (Rz.can_succ d (.mk kv xa) (.mk kb xb))
    rw [HCn.out] at HCc
    have HRs := Lib.hid (Rz.read_succ d (.mk kv iv bv tv vs) (.mk kv xa) (.mk kb xb))
    unfold cells2 at HUA HUB ⊢
    unfold cells5 at HUV ⊢
    obtain ⟨na, hna⟩ : ∃ n, n = xa.length := ⟨_, rfl⟩
    obtain ⟨nb, hnb⟩ : ∃ n, n = xb.length := ⟨_, rfl⟩
    obtain ⟨nv, hnv⟩ : ∃ n, n = vs.length := ⟨_, rfl⟩
    rw [← hna] at HUA ⊢
    rw [← hnb] at HUB ⊢
    rw [← hnv] at HUV hn hvl hvc ⊢
    obtain ⟨r, hr⟩ : ∃ r, r = Rz.read (d + 1) (.mk kv iv bv tv vs) (.mk kv xa) (.mk kb xb) := ⟨_, rfl⟩
    rw [← hr] at HRs ⊢
    obtain ⟨W0, hW0⟩ : ∃ W0, W0 = ((((w.alloc (.cells #[.int .i64 kv, .slice p na ca] 24)).alloc (.cells #[.int .i64 kb, .slice q nb cb] 24)).alloc (.cells #[.int .i64 kv, .int .i64 iv, .float .f64 bv, .string tv, .slice pv nv cv] 28)).alloc (.cells #[.int .i64 0, .int .i64 0, .float .f64 0, .string ⟨#[]⟩, .slice none 0 0] 28)).alloc (.cells #[.int .i64 kv, .int .i64 kb] 79) := ⟨_, rfl⟩
    obtain ⟨l0, l1, l2, l3, l4, lb, ls⟩ := al5 w (.cells #[.int .i64 kv, .slice p na ca] 24) (.cells #[.int .i64 kb, .slice q nb cb] 24) (.cells #[.int .i64 kv, .int .i64 iv, .float .f64 bv, .string tv, .slice pv nv cv] 28) (.cells #[.int .i64 0, .int .i64 0, .float .f64 0, .string ⟨#[]⟩, .slice none 0 0] 28) (.cells #[.int .i64 kv, .int .i64 kb] 79)
    rw [← hW0] at l0 l1 l2 l3 l4 lb ls
    have HW0 := Lib.hid hW0
    have HB0 := Lib.hid lb
    have HS0 := Lib.hid ls
    have HBo := Lib.hid (isBothOfK kv kb W0)
    have HCl : Hid (∀ w', Below W0.heap.size W0 w' → (w'.cell? ⟨w.heap.size, 0, none⟩ = some (.int .i64 kv) ∧ w'.cell? ⟨w.heap.size, 1, none⟩ = some (.slice p na ca)) ∧ (w'.cell? ⟨w.heap.size + 1, 0, none⟩ = some (.int .i64 kb) ∧ w'.cell? ⟨w.heap.size + 1, 1, none⟩ = some (.slice q nb cb)) ∧ (w'.cell? ⟨w.heap.size + 1 + 1, 0, none⟩ = some (.int .i64 kv) ∧ w'.cell? ⟨w.heap.size + 1 + 1, 1, none⟩ = some (.int .i64 iv) ∧ w'.cell? ⟨w.heap.size + 1 + 1, 2, none⟩ = some (.float .f64 bv) ∧ w'.cell? ⟨w.heap.size + 1 + 1, 3, none⟩ = some (.string tv) ∧ w'.cell? ⟨w.heap.size + 1 + 1, 4, none⟩ = some (.slice pv nv cv)) ∧ (w'.cell? ⟨w.heap.size + 1 + 1 + 1 + 1, 0, none⟩ = some (.int .i64 kv) ∧ w'.cell? ⟨w.heap.size + 1 + 1 + 1 + 1, 1, none⟩ = some (.int .i64 kb))) := fun w' h => ⟨⟨blk_at l0 h 0, blk_at l0 h 1⟩, ⟨blk_at l1 h 0, blk_at l1 h 1⟩, ⟨blk_at l2 h 0, blk_at l2 h 1, blk_at l2 h 2, blk_at l2 h 3, blk_at l2 h 4⟩, ⟨blk_at l4 h 0, blk_at l4 h 1⟩⟩
    have HT6 : Hid (∀ w', Below W0.heap.size W0 w' → w'.heap[w.heap.size + 1 + 1 + 1]? = some (.cells #[.int .i64 0, .int .i64 0, .float .f64 0, .string ⟨#[]⟩, .slice none 0 0] 28 (0, 0))) := fun w' h => (h.block _ (blk_lt l3)).trans l3
    clear hua hub huv ha hb hr hW0 l0 l1 l2 l3 l4 lb ls ih hvi hcan hc ho hw hj
    -- the beginning
    by_cases hA : bothB kv kb = true
    · -- item by item
      have hk : kv = 6 ∧ kb = 6 ∨ kv = 7 ∧ kb = 7 := by
        unfold bothB at hA
        simpa only [Bool.or_eq_true, Bool.and_eq_true, beq_iff_eq] using hA
      rcases ax with ⟨h, -⟩ | ⟨-, x, rfl, hx⟩
      · omega
      rcases bx with ⟨h, -⟩ | ⟨-, y, rfl, hy⟩
      · omega
      have hna1 : na = 1 := hna
      have hnb1 : nb = 1 := hnb
      clear hna hnb
      subst hna1 hnb1
      have HRr : Hid (r = match Rz.allR (fun z => Rz.read d z x y) vs with
          | .error e => .error e
          | .ok l => .ok (.mk kb 0 0 ⟨#[]⟩ l)) := by
        show _ = _
        rw [HRs.out]
        rcases hk with ⟨rfl, rfl⟩ | ⟨rfl, rfl⟩ <;> rfl
      have hcn : Rz.can d x y = true := by
        rw [HCc.out]
        rcases hk with ⟨rfl, rfl⟩ | ⟨rfl, rfl⟩ <;> rfl
      obtain ⟨ux, hux, hix⟩ := hpi 0 (by simp)
      obtain ⟨uy, huy, hiy⟩ := hqi 0 (by simp)
      rw [hA] at HBo
      have HX := Lib.hid (And.intro hux hix)
      have HD : Hid (∀ w', Below w.heap.size w w' → Calls Try.prog 50 #[.agg ux, .agg #[.int .i64 kb, .slice q 1 cb], .slice pv nv cv] w' (ValR w' r)) := fun w' hb' => by
        obtain ⟨bx', ox', kx', qx', nx', cx', -, -, hue, -⟩ := hix.lies
        rw [HRr.out, hue, hnv]
        rw [hue] at hux
        refine itemsK vs kb kx' (fun z => Rz.read d z x y) qx' nx' cx' pv cv q cb uy w' ?_ ?_ (hiy.on hb') ?_ (by omega)
        · intro z hz e he
          have := Rz.read_good d z x y (da + 1) (db + 1) (dv + 1) hx hy (hcx z hz) (hi z hz) (hwx z hz) (by omega) hcn
          rw [he] at this
          exact this
        · intro z hz w'' u hb'' hu
          have hb3 := hb'.trans (hb''.mono hb'.size)
          exact HIH.out z x y (da + 1) (db + 1) (dv + 1) w'' _ _ u hx hy (hcx z hz) (hi z hz) (hwx z hz) (by omega) hcn (hux.on hb3) (huy.on hb3) hu
        · intro j hj
          obtain ⟨u', h1, h2⟩ := HVI.out j hj
          exact ⟨u', h1.on hb', h2.on hb'⟩
      clear hk hA hpi hqi hux huy hix hiy HRr HRs HCc HCn hcn HIH hnv
      go_enter Try.func26, Try.ntmps26
      go_wp2_with fail
      rw [← HW0.out]
      clear HW0
      refine HBo.out.mono ?_
      rintro e w1 ⟨rfl, hb1⟩
      have HB1 := Lib.hid hb1
      have HB1w := Lib.hid (HB0.out.trans (hb1.mono HB0.out.size))
      have HS1 : Hid (w.heap.size + 5 ≤ w1.heap.size) := by have := hb1.size; have := HS0.out; show _ ≤ _; omega
      obtain ⟨⟨c0, c1⟩, ⟨c2, c3⟩, ⟨c4, c5, c6, c7, c8⟩, ⟨c9, c10⟩⟩ := HCl.out w1 hb1
      clear hb1
      obtain ⟨bx, ox, kx, qx, nx, cx, rfl, _, rfl, a0, a1⟩ := (HX.out.2.on HB1w.out).lies
      rw [Nat.zero_mul, Nat.add_zero] at a0 a1
      unfold cells2 at HD
      clear HX HBo HCl
      go_wp2_with fail
      go_region_law (first
        | (refine step_call3g (.tmp 25) (.tmp 26) (.tmp 28) 24 24 26 (by rfl) (by rfl) (by rfl) (by rfl) (by rfl) Try.func50 (by kernel_rfl) (by rfl) (HD.out _ HB1w.out.drew) ?_
           intro e w2 hh
           obtain ⟨k5, i5, b5, t5, p5, n5, c5, er, he, hb2, hv2⟩ := hh.pass (w0 := w) (g := w.heap.size + 1 + 1 + 1) HB1w.out.drew (by omega) (by have := HS1.out; first | omega | (simp; omega) | (show w.heap.size + 1 + 1 + 1 < w1.heap.size; omega))
           unfold cells5 at he
           refine ⟨_, he, ?_⟩
           have hb3 : Below W0.heap.size W0 w2 := HB1.out.drew.trans (hb2.mono HB1.out.size)
           have d6 := HT6.out w2 hb3
           have e0 : w2.cell? ⟨w.heap.size + 1 + 1 + 1, 0, none⟩ = some (.int .i64 0) := blk_cell d6 0
           have e1 : w2.cell? ⟨w.heap.size + 1 + 1 + 1, 1, none⟩ = some (.int .i64 0) := blk_cell d6 1
           have e2 : w2.cell? ⟨w.heap.size + 1 + 1 + 1, 2, none⟩ = some (.float .f64 0) := blk_cell d6 2
           have e3 : w2.cell? ⟨w.heap.size + 1 + 1 + 1, 3, none⟩ = some (.string ⟨#[]⟩) := blk_cell d6 3
           have e4 : w2.cell? ⟨w.heap.size + 1 + 1 + 1, 4, none⟩ = some (.slice none 0 0) := blk_cell d6 4
           have g0 := blk_free d6 0
           have g1 := blk_free d6 1
           have g2 := blk_free d6 2
           have g3 := blk_free d6 3
           have g4 := blk_free d6 4
           have HD6 := Lib.hid d6
           have HV2 := Lib.hid hv2
           unfold put5 at HV2
           clear he hh hb2 hb3 hv2 d6)
        | fail)
      all_goals
        go_wp2
        refine end5 rfl rfl rfl rfl (put5_block HD6.out) rfl ?_
        exact HV2.out
    have hA' : bothB kv kb = false := by simpa using hA
    have hk : ¬ (kv = 6 ∧ kb = 6 ∨ kv = 7 ∧ kb = 7) := by
      unfold bothB at hA
      simpa only [Bool.or_eq_true, Bool.and_eq_true, beq_iff_eq] using hA
    rw [hA'] at HBo
    clear hA hA'
    by_cases hB : kb = 6
    · -- to an opt
      rcases bx with ⟨h, -⟩ | ⟨-, y, rfl, hy⟩
      · omega
      have hnb1 : nb = 1 := hnb
      clear hnb
      subst hnb1 hB
      have hk6 : ¬ kv = 6 := by omega
      have HRr : Hid (r = match Rz.allR (fun z => Rz.read d z (.mk kv xa) y) [.mk kv iv bv tv vs] with
          | .error e => .error e
          | .ok l => .ok (.mk 6 0 0 ⟨#[]⟩ l)) := by
        show _ = _
        rw [HRs.out, if_pos ⟨rfl, hk6⟩, Rz.allR_cons, Rz.allR_nil]
        show (match Rz.read d (.mk kv iv bv tv vs) (.mk kv xa) y with
          | .error e => Except.error e
          | .ok z => Except.ok (V.mk 6 0 0 ⟨#[]⟩ [z])) = _
        cases Rz.read d (.mk kv iv bv tv vs) (.mk kv xa) y <;> rfl
      have hcn : Rz.can d (.mk kv xa) y = true := by
        rw [HCc.out, if_pos rfl, if_neg (by exact hk6)]
        rfl
      obtain ⟨uy, huy, hiy⟩ := hqi 0 (by simp)
      have HD : Hid (∀ w' g, Below w.heap.size w w' → w'.heap[g]? = some (.cells #[.int .i64 kv, .int .i64 iv, .float .f64 bv, .string tv, .slice pv nv cv] 28 (0, 0)) → Calls Try.prog 50 #[.agg #[.int .i64 kv, .slice p na ca], .agg #[.int .i64 6, .slice q 1 cb], .slice (some ⟨g, 0, none⟩) 1 1] w' (ValR w' r)) := fun w' g hb' hg => by
        rw [HRr.out]
        refine itemsK [.mk kv iv bv tv vs] 6 kv (fun z => Rz.read d z (.mk kv xa) y) p na ca (some ⟨g, 0, none⟩) 1 q cb uy w' ?_ ?_ (hiy.on hb') (items_one hg (HUV.out.on hb')) (by simp)
        · intro z hz e he
          rcases List.mem_singleton.1 hz with rfl
          have := Rz.read_good d (.mk kv iv bv tv vs) (.mk kv xa) y da (db + 1) dv HA.out hy HCk.out HOf.out HWf.out (by omega) hcn
          rw [he] at this
          exact this
        · intro z hz w'' u hb'' hu
          rcases List.mem_singleton.1 hz with rfl
          have hb3 := hb'.trans (hb''.mono hb'.size)
          exact HIH.out _ (.mk kv xa) y da (db + 1) dv w'' _ _ u HA.out hy HCk.out HOf.out HWf.out (by omega) hcn (HUA.out.on hb3) (huy.on hb3) hu
      clear hk hpi hqi huy hiy HRr HRs HCc HCn hcn HIH hk6 hna hnv
      go_enter Try.func26, Try.ntmps26
      go_wp2_with fail
      rw [← HW0.out]
      clear HW0
      refine HBo.out.mono ?_
      rintro e w1 ⟨rfl, hb1⟩
      have HB1 := Lib.hid hb1
      have HB1w := Lib.hid (HB0.out.trans (hb1.mono HB0.out.size))
      have HS1 : Hid (w.heap.size + 5 ≤ w1.heap.size) := by have := hb1.size; have := HS0.out; show _ ≤ _; omega
      obtain ⟨⟨c0, c1⟩, ⟨c2, c3⟩, ⟨c4, c5, c6, c7, c8⟩, ⟨c9, c10⟩⟩ := HCl.out w1 hb1
      clear hb1
      clear HBo HCl
      obtain ⟨W2, hW2⟩ : ∃ W, W = w1.alloc (.cells #[.int .i64 kv, .int .i64 iv, .float .f64 bv, .string tv, .slice pv nv cv] 28) := ⟨_, rfl⟩
      have hb12 : Below w1.heap.size w1 W2 := by rw [hW2]; exact (Below.refl _ _).alloc (Nat.le_refl _) _
      have HBW2 := Lib.hid (HB1w.out.trans (hb12.mono HB1w.out.size))
      have HBW2o := Lib.hid (HB1.out.trans (hb12.mono HB1.out.size))
      have HD2 : Hid (Calls Try.prog 50 #[.agg #[.int .i64 kv, .slice p na ca], .agg #[.int .i64 6, .slice q 1 cb], .slice (some ⟨w1.heap.size, 0, none⟩) 1 1] W2 (ValR W2 r)) := HD.out W2 w1.heap.size HBW2.out (by rw [hW2]; exact blk_new w1 _)
      have HW2 := Lib.hid hW2
      clear hW2 hb12 HD
      go_wp2_with fail
      rw [← HW2.out]
      clear HW2
      refine HD2.out.mono ?_
      intro e w2 hh
      obtain ⟨k5, i5, b5, t5, p5, n5, c5, er, he, hb2, hv2⟩ := hh.pass (w0 := w) (g := w.heap.size + 1 + 1 + 1) HBW2.out (by omega) (by have := HS1.out; have := HBW2o.out.size; have := HS0.out; omega)
      unfold cells5 at he
      subst he
      have hb3 : Below W0.heap.size W0 w2 := HBW2o.out.trans (hb2.mono HBW2o.out.size)
      have d6 := HT6.out w2 hb3
      have e0 : w2.cell? ⟨w.heap.size + 1 + 1 + 1, 0, none⟩ = some (.int .i64 0) := blk_cell d6 0
      have e1 : w2.cell? ⟨w.heap.size + 1 + 1 + 1, 1, none⟩ = some (.int .i64 0) := blk_cell d6 1
      have e2 : w2.cell? ⟨w.heap.size + 1 + 1 + 1, 2, none⟩ = some (.float .f64 0) := blk_cell d6 2
      have e3 : w2.cell? ⟨w.heap.size + 1 + 1 + 1, 3, none⟩ = some (.string ⟨#[]⟩) := blk_cell d6 3
      have e4 : w2.cell? ⟨w.heap.size + 1 + 1 + 1, 4, none⟩ = some (.slice none 0 0) := blk_cell d6 4
      have g0 := blk_free d6 0
      have g1 := blk_free d6 1
      have g2 := blk_free d6 2
      have g3 := blk_free d6 3
      have g4 := blk_free d6 4
      have HD6 := Lib.hid d6
      have HV2 := Lib.hid hv2
      unfold put5 at HV2
      clear hh hb2 hb3 hv2 d6
      go_wp2
      refine end5 rfl rfl rfl rfl (put5_block HD6.out) rfl ?_
      exact HV2.out
    have gB := beq_f hB
    by_cases hC : kv = 6
    · -- from an opt
      rcases ax with ⟨h, -⟩ | ⟨-, x, rfl, hx⟩
      · omega
      have hna1 : na = 1 := hna
      clear hna
      subst hna1 hC
      have hcn : Rz.can d x (.mk kb xb) = true := by
        rw [HCc.out, if_neg hB, if_pos rfl]
        rfl
      obtain ⟨ux, hux, hix⟩ := hpi 0 (by simp)
      have HX := Lib.hid (And.intro hux hix)
      cases vs with
      | nil =>
        have HRr : Hid (r = .error 91) := by
          show _ = _
          rw [HRs.out, if_neg (by rintro ⟨h, -⟩; exact hB h), if_pos ⟨rfl, hB⟩]
        have hnv0 : nv = 0 := hnv
        clear hnv
        subst hnv0
        clear hk hpi hqi hux hix HRs HCc HCn hcn HIH hB hnb
        go_enter Try.func26, Try.ntmps26
        go_wp2_with fail
        rw [← HW0.out]
        clear HW0
        refine HBo.out.mono ?_
        rintro e w1 ⟨rfl, hb1⟩
        have HB1 := Lib.hid hb1
        have HB1w := Lib.hid (HB0.out.trans (hb1.mono HB0.out.size))
        have HS1 : Hid (w.heap.size + 5 ≤ w1.heap.size) := by have := hb1.size; have := HS0.out; show _ ≤ _; omega
        obtain ⟨⟨c0, c1⟩, ⟨c2, c3⟩, ⟨c4, c5, c6, c7, c8⟩, ⟨c9, c10⟩⟩ := HCl.out w1 hb1
        clear hb1
        clear HBo HCl HX
        have d6 := HT6.out w1 HB1.out
        have e0 : w1.cell? ⟨w.heap.size + 1 + 1 + 1, 0, none⟩ = some (.int .i64 0) := blk_cell d6 0
        have e1 : w1.cell? ⟨w.heap.size + 1 + 1 + 1, 1, none⟩ = some (.int .i64 0) := blk_cell d6 1
        have e2 : w1.cell? ⟨w.heap.size + 1 + 1 + 1, 2, none⟩ = some (.float .f64 0) := blk_cell d6 2
        have e3 : w1.cell? ⟨w.heap.size + 1 + 1 + 1, 3, none⟩ = some (.string ⟨#[]⟩) := blk_cell d6 3
        have e4 : w1.cell? ⟨w.heap.size + 1 + 1 + 1, 4, none⟩ = some (.slice none 0 0) := blk_cell d6 4
        have g0 := blk_free d6 0
        have g1 := blk_free d6 1
        have g2 := blk_free d6 2
        have g3 := blk_free d6 3
        have g4 := blk_free d6 4
        have HD6 := Lib.hid d6
        clear d6
        go_wp2
        refine end5 rfl rfl rfl rfl (put5_block HD6.out) rfl ?_
        rw [HRr.out]
        exact valR_err HB1w.out (by omega)
      | cons z rs =>
        have HRr : Hid (r = Rz.read d z x (.mk kb xb)) := by
          show _ = _
          rw [HRs.out, if_neg (by rintro ⟨h, -⟩; exact hB h), if_pos ⟨rfl, hB⟩]
          rfl
        have hnv1 : nv = 1 := by
          have h2 := o7 rfl
          rw [List.length_cons] at hnv h2
          omega
        obtain ⟨uz, huz, hiz⟩ := HVI.out 0 (by simp)
        have HZ := Lib.hid (And.intro huz hiz)
        have HD : Hid (∀ w', Below w.heap.size w w' → Calls Try.prog 26 #[.agg ux, .agg #[.int .i64 kb, .slice q nb cb], .agg uz] w' (ValR w' r)) := fun w' hb' => by
          rw [HRr.out]
          exact HIH.out z x (.mk kb xb) (da + 1) db (dv + 1) w' ux _ uz hx HBb.out (hcx z (by simp)) (hi z (by simp)) (hwx z (by simp)) (by omega) hcn (hux.on hb') (HUB.out.on hb') (huz.on hb')
        clear hk hpi hqi hux hix huz hiz HRr HRs HCc HCn hcn HIH hB hnv hnb
        subst hnv1
        go_enter Try.func26, Try.ntmps26
        go_wp2_with fail
        rw [← HW0.out]
        clear HW0
        refine HBo.out.mono ?_
        rintro e w1 ⟨rfl, hb1⟩
        have HB1 := Lib.hid hb1
        have HB1w := Lib.hid (HB0.out.trans (hb1.mono HB0.out.size))
        have HS1 : Hid (w.heap.size + 5 ≤ w1.heap.size) := by have := hb1.size; have := HS0.out; show _ ≤ _; omega
        obtain ⟨⟨c0, c1⟩, ⟨c2, c3⟩, ⟨c4, c5, c6, c7, c8⟩, ⟨c9, c10⟩⟩ := HCl.out w1 hb1
        clear hb1
        obtain ⟨bx, ox, kx, qx, nx, cx, rfl, _, rfl, a0, a1⟩ := (HX.out.2.on HB1w.out).lies
        rw [Nat.zero_mul, Nat.add_zero] at a0 a1
        obtain ⟨bz, oz, kz, iz, fz, tz, qz, nz, cz, rfl, _, rfl, z0, z1, z2, z3, z4⟩ := (HZ.out.2.on HB1w.out).lies
        rw [Nat.zero_mul, Nat.add_zero] at z0 z1 z2 z3 z4
        unfold cells2 cells5 at HD
        clear HX HZ HBo HCl
        go_wp2_with fail
        go_region_law (first
          | (refine step_call3g (.tmp 61) (.tmp 62) (.tmp 66) 24 24 28 (by rfl) (by rfl) (by rfl) (by rfl) (by rfl) Try.func26 (by kernel_rfl) (by rfl) (HD.out _ HB1w.out.drew) ?_
             intro e w2 hh
             obtain ⟨k5, i5, b5, t5, p5, n5, c5, er, he, hb2, hv2⟩ := hh.pass (w0 := w) (g := w.heap.size + 1 + 1 + 1) HB1w.out.drew (by omega) (by have := HS1.out; first | omega | (simp; omega) | (show w.heap.size + 1 + 1 + 1 < w1.heap.size; omega))
             unfold cells5 at he
             refine ⟨_, he, ?_⟩
             have hb3 : Below W0.heap.size W0 w2 := HB1.out.drew.trans (hb2.mono HB1.out.size)
             have d6 := HT6.out w2 hb3
             have e0 : w2.cell? ⟨w.heap.size + 1 + 1 + 1, 0, none⟩ = some (.int .i64 0) := blk_cell d6 0
             have e1 : w2.cell? ⟨w.heap.size + 1 + 1 + 1, 1, none⟩ = some (.int .i64 0) := blk_cell d6 1
             have e2 : w2.cell? ⟨w.heap.size + 1 + 1 + 1, 2, none⟩ = some (.float .f64 0) := blk_cell d6 2
             have e3 : w2.cell? ⟨w.heap.size + 1 + 1 + 1, 3, none⟩ = some (.string ⟨#[]⟩) := blk_cell d6 3
             have e4 : w2.cell? ⟨w.heap.size + 1 + 1 + 1, 4, none⟩ = some (.slice none 0 0) := blk_cell d6 4
             have g0 := blk_free d6 0
             have g1 := blk_free d6 1
             have g2 := blk_free d6 2
             have g3 := blk_free d6 3
             have g4 := blk_free d6 4
             have HD6 := Lib.hid d6
             have HV2 := Lib.hid hv2
             unfold put5 at HV2
             clear he hh hb2 hb3 hv2 d6)
          | fail)
        all_goals
          go_wp2
          refine end5 rfl rfl rfl rfl (put5_block HD6.out) rfl ?_
          exact HV2.out
    have gC := beq_f hC
    have hb7 : kb ≠ 7 ∧ kv ≠ 7 ∧ Rz.plain kv kb = true := by
      have h := HCc.out
      rw [if_neg (by exact hB), if_neg (by exact hC), if_neg (by show ¬ (kv = 7 ∧ kb = 7); omega)] at h
      have h' : Rz.plain kv kb = true := h.symm
      refine ⟨?_, ?_, h'⟩
      · intro hc
        rw [hc] at h'
        unfold Rz.plain at h'
        simp at h'
      · intro hc
        rw [hc] at h'
        unfold Rz.plain at h'
        simp at h'
    have hvn := Rz.no_items HCk.out (by omega)
    subst hvn
    have hnv0 : nv = 0 := hnv
    clear hnv
    subst hnv0
    have HRr : Hid (r = Rz.scalar kb (.mk kv iv bv tv [])) := by
      show _ = _
      rw [HRs.out, if_neg (by rintro ⟨h, -⟩; exact hB h), if_neg (by rintro ⟨h, -⟩; exact hC h), if_pos ⟨hB, hb7.1⟩]
    have HD : Hid (∀ w', Calls Try.prog 51 #[.agg #[.int .i64 kv, .int .i64 kb], .agg #[.int .i64 kv, .int .i64 iv, .float .f64 bv, .string tv, .slice pv 0 cv]] w' (ValR w' r)) := fun w' => by
      rw [HRr.out]
      unfold Rz.scalar
      by_cases c1 : kv = 2 ∧ kb = 3
      · rw [if_pos c1]
        obtain ⟨rfl, rfl⟩ := c1
        exact plain_23 iv bv tv pv 0 cv w'
      rw [if_neg c1]
      by_cases c2 : kv = 3 ∧ kb = 2
      · rw [if_pos c2]
        obtain ⟨rfl, rfl⟩ := c2
        exact plain_32 iv bv tv pv 0 cv w'
      rw [if_neg c2]
      by_cases c3 : kv = 5 ∧ kb = 4
      · have e1 : iv = 0 := by have := c3.1; omega
        have e2 : fixB bv = 0 := by have := c3.1; omega
        have h := plain_54 iv bv tv (by omega) pv 0 cv w'
        rw [c3.1, c3.2]
        show Calls _ _ _ _ (ValR w' (if (4 : Int) = 4 ∧ utfT tv = false then .error 61 else .ok (.mk 4 iv (fixB bv) tv [])))
        rw [e1, e2]
        rw [e1] at h
        simp only [true_and]
        exact h
      · rw [if_neg]
        · exact plain_else kv kb iv bv tv pv 0 cv w' c1 c2 c3
        · rintro ⟨h4, h5⟩
          have h5' : utfT tv = false := h5
          have hkv : kv = 4 := by
            have := hb7.2.2
            unfold Rz.plain at this
            rw [h4] at this
            simp only [Bool.and_eq_true, Bool.not_eq_true', beq_eq_false_iff_ne, ne_eq, Bool.or_eq_true, beq_iff_eq] at this
            omega
          rw [hutf hkv] at h5'
          cases h5'
    clear hk hpi hqi HRr HRs HCc HCn HIH hB hC hb7 hna hnb ax bx
    go_enter Try.func26, Try.ntmps26
    go_wp2_with fail
    rw [← HW0.out]
    clear HW0
    refine HBo.out.mono ?_
    rintro e w1 ⟨rfl, hb1⟩
    have HB1 := Lib.hid hb1
    have HB1w := Lib.hid (HB0.out.trans (hb1.mono HB0.out.size))
    have HS1 : Hid (w.heap.size + 5 ≤ w1.heap.size) := by have := hb1.size; have := HS0.out; show _ ≤ _; omega
    obtain ⟨⟨c0, c1⟩, ⟨c2, c3⟩, ⟨c4, c5, c6, c7, c8⟩, ⟨c9, c10⟩⟩ := HCl.out w1 hb1
    clear hb1
    clear HBo HCl
    go_wp2_with fail
    refine (HD.out w1).mono ?_
    intro e w2 hh
    obtain ⟨k5, i5, b5, t5, p5, n5, c5, er, he, hb2, hv2⟩ := hh.pass (w0 := w) (g := w.heap.size + 1 + 1 + 1) HB1w.out (by omega) (by have := HS1.out; omega)
    unfold cells5 at he
    subst he
    have hb3 : Below W0.heap.size W0 w2 := HB1.out.trans (hb2.mono HB1.out.size)
    have d6 := HT6.out w2 hb3
    have e0 : w2.cell? ⟨w.heap.size + 1 + 1 + 1, 0, none⟩ = some (.int .i64 0) := blk_cell d6 0
    have e1 : w2.cell? ⟨w.heap.size + 1 + 1 + 1, 1, none⟩ = some (.int .i64 0) := blk_cell d6 1
    have e2 : w2.cell? ⟨w.heap.size + 1 + 1 + 1, 2, none⟩ = some (.float .f64 0) := blk_cell d6 2
    have e3 : w2.cell? ⟨w.heap.size + 1 + 1 + 1, 3, none⟩ = some (.string ⟨#[]⟩) := blk_cell d6 3
    have e4 : w2.cell? ⟨w.heap.size + 1 + 1 + 1, 4, none⟩ = some (.slice none 0 0) := blk_cell d6 4
    have g0 := blk_free d6 0
    have g1 := blk_free d6 1
    have g2 := blk_free d6 2
    have g3 := blk_free d6 3
    have g4 := blk_free d6 4
    have HD6 := Lib.hid d6
    have HV2 := Lib.hid hv2
    unfold put5 at HV2
    clear hh hb2 hb3 hv2 d6
    go_wp2
    refine end5 rfl rfl rfl rfl (put5_block HD6.out) rfl ?_
    exact HV2.out
end Go.Proofs.Ytbedlaaedefclaa
