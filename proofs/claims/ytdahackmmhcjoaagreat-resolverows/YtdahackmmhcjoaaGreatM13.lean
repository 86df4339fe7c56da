/- K9D, K9E, K9F: put together. -/
import Derived.Test.YtdahackmmhcjoaaGreatM12
import Derived.Test.YtdahackmmhcjoaaGreatM09
import Derived.Test.YtdahackmmhcjoaaGreatM10
import Derived.Test.YtdahackmmhcjoaaGreatM11

/- The landed resolve: read. -/
namespace Go.Proofs.YtdahackmmhcjoaaGreat
open Go.RowKit

attribute [local go_sem] run_store_float eqKinds

/-- what a call answered is answered on, through a place of one's own -/
theorem ValR.pass {w0 w1 w2 : World} {g : Nat} {r : Except Nat V} {e : Ending} (h : ValR w1 r e w2) (hb : Below w0.heap.size w0 w1) (h1 : w0.heap.size ≤ g) (h2 : g < w1.heap.size) : ∃ k i b t p n c, ∃ er : Int, e = .returned (.tuple #[.agg (cells5 k i b t p n c), .int .i64 er]) ∧ Below w1.heap.size w1 w2 ∧ ValR w0 r (.returned (.tuple #[.agg (cells5 k i b t p n c), .int .i64 er])) (put5 w2 g k i b t (.slice p n c)) := by
  cases r with
  | error er =>
    have hb2 : Below w0.heap.size w0 w2 := hb.trans (h.2.mono hb.size)
    exact ⟨_, _, _, _, _, _, _, _, h.1, h.2, rfl, put5_below hb2 h1⟩
  | ok y =>
    obtain ⟨u, he, hv, hb2⟩ := h
    obtain ⟨k, i, b, t, p, n, c, rfl⟩ := hv.shape
    exact ⟨_, _, _, _, _, _, _, 0, he, hb2, valR_ok (hb.trans (hb2.mono hb.size)) h1 h2 hv⟩
theorem items_one {w : World} {g : Nat} {k i : Int} {b : Nat} {t : ByteArray} {p : Option Addr} {n c : Nat} {T : TypeId} {x : V} (hg : w.heap[g]? = some (.cells #[.int .i64 k, .int .i64 i, .float .f64 b, .string t, .slice p n c] T (0, 0))) (hx : VLies w (cells5 k i b t p n c) x) : Items w (some ⟨g, 0, none⟩) [x] := by
  intro j hj
  have hj0 : j = 0 := by simpa using hj
  subst hj0
  exact ⟨_, hx, ⟨g, 0, k, i, b, t, p, n, c, rfl, blk_lt hg, rfl, blk_cell hg 0, blk_cell hg 1, blk_cell hg 2, blk_cell hg 3, blk_cell hg 4⟩⟩

set_option maxRecDepth 100000 in
set_option maxHeartbeats 4000000 in
theorem readK : ∀ (d : Nat) (v : V) (a b : Ty) (da db dv : Nat) (w : World) (ua ub uv : Array Value), Ty.check da a = 0 → Ty.check db b = 0 → chk dv v = 0 → Sch.of v a = true → v.wf → 9 ≤ d + da + db → Rz.can d a b = true → TLies w ua a → TLies w ub b → VLies w uv v → Calls Tryz.prog 27 #[.agg ua, .agg ub, .agg uv] w (ValR w (Rz.read d v a b)) := by
  intro d
  induction d with
  | zero =>
    rintro v ⟨ka, xa⟩ ⟨kb, xb⟩ da db dv w ua ub uv ha hb - - - hd
    have := (Sch.ty_open ha).1
    have := (Sch.ty_open hb).1
    omega
  | succ d ih =>
    rintro ⟨kv, iv, bv, tv, vs⟩ ⟨ka, xa⟩ ⟨kb, xb⟩ da db dv w ua ub uv ha hb hc ho hw hd hcan hua hub huv
    obtain ⟨p, ca, rfl, -, hpc, hpi⟩ := hua.open
    obtain ⟨q, cb, rfl, -, hqc, hqi⟩ := hub.open
    obtain ⟨pv, cv, rfl, hvl, hvc, hvi⟩ := huv.open
    obtain ⟨a4, ak, ax⟩ := Sch.ty_open ha
    obtain ⟨b4, bk, bx⟩ := Sch.ty_open hb
    obtain ⟨hj, hi⟩ := Rz.of_open ho
    have hj' : kv = ka := hj
    subst hj'
    obtain ⟨-, hown, htx, hn, hutf, hcx⟩ := Sch.chk_open hc
    obtain ⟨-, o2, o3, o4, -, -, o7⟩ := Sch.own_open hown
    have hwx := (V.wf_mk.1 hw).2.2.2.2
    have HCk := Lib.hid hc
    have HOf := Lib.hid ho
    have HWf := Lib.hid hw
    have HUA := Lib.hid hua
    have HUB := Lib.hid hub
    have HUV := Lib.hid huv
    have HA := Lib.hid ha
    have HBb := Lib.hid hb
    have HIH := Lib.hid ih
    have HVI : Hid (Items w pv vs) := hvi
    have HCn := Lib.hid hcan
    have HCc := Lib.hid (Rz.can_succ d (.mk kv xa) (.mk kb xb))
    rw [HCn.out] at HCc
    have HRs := Lib.hid (Rz.read_succ d (.mk kv iv bv tv vs) (.mk kv xa) (.mk kb xb))
    unfold cells2 at HUA HUB ⊢
    unfold cells5 at HUV ⊢
    obtain ⟨na, hna⟩ : ∃ n, n = xa.length := ⟨_, rfl⟩
    obtain ⟨nb, hnb⟩ : ∃ n, n = xb.length := ⟨_, rfl⟩
    obtain ⟨nv, hnv⟩ : ∃ n, n = vs.length := ⟨_, rfl⟩
    rw [← hna] at HUA ⊢
    rw [← hnb] at HUB ⊢
    rw [← hnv] at HUV hn hvl hvc ⊢
    obtain ⟨r, hr⟩ : ∃ r, r = Rz.read (d + 1) (.mk kv iv bv tv vs) (.mk kv xa) (.mk kb xb) := ⟨_, rfl⟩
    rw [← hr] at HRs ⊢
    obtain ⟨W0, hW0⟩ : ∃ W0, W0 = ((((w.alloc (.cells #[.int .i64 kv, .slice p na ca] 42)).alloc (.cells #[.int .i64 kb, .slice q nb cb] 42)).alloc (.cells #[.int .i64 kv, .int .i64 iv, .float .f64 bv, .string tv, .slice pv nv cv] 35)).alloc (.cells #[.int .i64 0, .int .i64 0, .float .f64 0, .string ⟨#[]⟩, .slice none 0 0] 35)).alloc (.cells #[.int .i64 kv, .int .i64 kb] 77) := ⟨_, rfl⟩
    obtain ⟨l0, l1, l2, l3, l4, lb, ls⟩ := al5 w (.cells #[.int .i64 kv, .slice p na ca] 42) (.cells #[.int .i64 kb, .slice q nb cb] 42) (.cells #[.int .i64 kv, .int .i64 iv, .float .f64 bv, .string tv, .slice pv nv cv] 35) (.cells #[.int .i64 0, .int .i64 0, .float .f64 0, .string ⟨#[]⟩, .slice none 0 0] 35) (.cells #[.int .i64 kv, .int .i64 kb] 77)
    rw [← hW0] at l0 l1 l2 l3 l4 lb ls
    have HW0 := Lib.hid hW0
    have HB0 := Lib.hid lb
    have HS0 := Lib.hid ls
    have HBo := Lib.hid (isBothOfK kv kb W0)
    have HCl : Hid (∀ w', Below W0.heap.size W0 w' → (w'.cell? ⟨w.heap.size, 0, none⟩ = some (.int .i64 kv) ∧ w'.cell? ⟨w.heap.size, 1, none⟩ = some (.slice p na ca)) ∧ (w'.cell? ⟨w.heap.size + 1, 0, none⟩ = some (.int .i64 kb) ∧ w'.cell? ⟨w.heap.size + 1, 1, none⟩ = some (.slice q nb cb)) ∧ (w'.cell? ⟨w.heap.size + 1 + 1, 0, none⟩ = some (.int .i64 kv) ∧ w'.cell? ⟨w.heap.size + 1 + 1, 1, none⟩ = some (.int .i64 iv) ∧ w'.cell? ⟨w.heap.size + 1 + 1, 2, none⟩ = some (.float .f64 bv) ∧ w'.cell? ⟨w.heap.size + 1 + 1, 3, none⟩ = some (.string tv) ∧ w'.cell? ⟨w.heap.size + 1 + 1, 4, none⟩ = some (.slice pv nv cv)) ∧ (w'.cell? ⟨w.heap.size + 1 + 1 + 1 + 1, 0, none⟩ = some (.int .i64 kv) ∧ w'.cell? ⟨w.heap.size + 1 + 1 + 1 + 1, 1, none⟩ = some (.int .i64 kb))) := fun w' h => ⟨⟨blk_at l0 h 0, blk_at l0 h 1⟩, ⟨blk_at l1 h 0, blk_at l1 h 1⟩, ⟨blk_at l2 h 0, blk_at l2 h 1, blk_at l2 h 2, blk_at l2 h 3, blk_at l2 h 4⟩, ⟨blk_at l4 h 0, blk_at l4 h 1⟩⟩
    have HT6 : Hid (∀ w', Below W0.heap.size W0 w' → w'.heap[w.heap.size + 1 + 1 + 1]? = some (.cells #[.int .i64 0, .int .i64 0, .float .f64 0, .string ⟨#[]⟩, .slice none 0 0] 35 (0, 0))) := fun w' h => (h.block _ (blk_lt l3)).trans l3
    clear hua hub huv ha hb hr hW0 l0 l1 l2 l3 l4 lb ls ih hvi hcan hc ho hw hj
    -- the beginning
    by_cases hA : bothB kv kb = true
    · -- item by item
      have hk : kv = 6 ∧ kb = 6 ∨ kv = 7 ∧ kb = 7 := by
        unfold bothB at hA
        simpa only [Bool.or_eq_true, Bool.and_eq_true, beq_iff_eq] using hA
      rcases ax with ⟨h, -⟩ | ⟨-, x, rfl, hx⟩
      · omega
      rcases bx with ⟨h, -⟩ | ⟨-, y, rfl, hy⟩
      · omega
      have hna1 : na = 1 := hna
      have hnb1 : nb = 1 := hnb
      clear hna hnb
      subst hna1 hnb1
      have HRr : Hid (r = match Rz.allR (fun z => Rz.read d z x y) vs with
          | .error e => .error e
          | .ok l => .ok (.mk kb 0 0 ⟨#[]⟩ l)) := by
        show _ = _
        rw [HRs.out]
        rcases hk with ⟨rfl, rfl⟩ | ⟨rfl, rfl⟩ <;> rfl
      have hcn : Rz.can d x y = true := by
        rw [HCc.out]
        rcases hk with ⟨rfl, rfl⟩ | ⟨rfl, rfl⟩ <;> rfl
      obtain ⟨ux, hux, hix⟩ := hpi 0 (by simp)
      obtain ⟨uy, huy, hiy⟩ := hqi 0 (by simp)
      rw [hA] at HBo
      have HX := Lib.hid (And.intro hux hix)
      have HD : Hid (∀ w', Below w.heap.size w w' → Calls Tryz.prog 45 #[.agg ux, .agg #[.int .i64 kb, .slice q 1 cb], .slice pv nv cv] w' (ValR w' r)) := fun w' hb' => by
        obtain ⟨bx', ox', kx', qx', nx', cx', -, -, hue, -⟩ := hix.lies
        rw [HRr.out, hue, hnv]
        rw [hue] at hux
        refine itemsK vs kb kx' (fun z => Rz.read d z x y) qx' nx' cx' pv cv q cb uy w' ?_ ?_ (hiy.on hb') ?_ (by omega)
        · intro z hz e he
          have := Rz.read_good d z x y (da + 1) (db + 1) (dv + 1) hx hy (hcx z hz) (hi z hz) (hwx z hz) (by omega) hcn
          rw [he] at this
          exact this
        · intro z hz w'' u hb'' hu
          have hb3 := hb'.trans (hb''.mono hb'.size)
          exact HIH.out z x y (da + 1) (db + 1) (dv + 1) w'' _ _ u hx hy (hcx z hz) (hi z hz) (hwx z hz) (by omega) hcn (hux.on hb3) (huy.on hb3) hu
        · intro j hj
          obtain ⟨u', h1, h2⟩ := HVI.out j hj
          exact ⟨u', h1.on hb', h2.on hb'⟩
      clear hk hA hpi hqi hux huy hix hiy HRr HRs HCc HCn hcn HIH hnv
      go_enter Tryz.func27, Tryz.ntmps27
      go_wp2_with fail
      rw [← HW0.out]
      clear HW0
      refine HBo.out.mono ?_
      rintro e w1 ⟨rfl, hb1⟩
      have HB1 := Lib.hid hb1
      have HB1w := Lib.hid (HB0.out.trans (hb1.mono HB0.out.size))
      have HS1 : Hid (w.heap.size + 5 ≤ w1.heap.size) := by have := hb1.size; have := HS0.out; show _ ≤ _; omega
      obtain ⟨⟨c0, c1⟩, ⟨c2, c3⟩, ⟨c4, c5, c6, c7, c8⟩, ⟨c9, c10⟩⟩ := HCl.out w1 hb1
      clear hb1
      obtain ⟨bx, ox, kx, qx, nx, cx, rfl, _, rfl, a0, a1⟩ := (HX.out.2.on HB1w.out).lies
      rw [Nat.zero_mul, Nat.add_zero] at a0 a1
      unfold cells2 at HD
      clear HX HBo HCl
      go_wp2_with fail
      go_region_law (first
        | (refine step_call3g (.tmp 25) (.tmp 26) (.tmp 28) 42 42 25 (by rfl) (by rfl) (by rfl) (by rfl) (by rfl) Tryz.func45 (by kernel_rfl) (by rfl) (HD.out _ HB1w.out.drew) ?_
           intro e w2 hh
           obtain ⟨k5, i5, b5, t5, p5, n5, c5, er, he, hb2, hv2⟩ := hh.pass (w0 := w) (g := w.heap.size + 1 + 1 + 1) HB1w.out.drew (by omega) (by have := HS1.out; first | omega | (simp; omega) | (show w.heap.size + 1 + 1 + 1 < w1.heap.size; omega))
           unfold cells5 at he
           refine ⟨_, he, ?_⟩
           have hb3 : Below W0.heap.size W0 w2 := HB1.out.drew.trans (hb2.mono HB1.out.size)
           have d6 := HT6.out w2 hb3
           have e0 : w2.cell? ⟨w.heap.size + 1 + 1 + 1, 0, none⟩ = some (.int .i64 0) := blk_cell d6 0
           have e1 : w2.cell? ⟨w.heap.size + 1 + 1 + 1, 1, none⟩ = some (.int .i64 0) := blk_cell d6 1
           have e2 : w2.cell? ⟨w.heap.size + 1 + 1 + 1, 2, none⟩ = some (.float .f64 0) := blk_cell d6 2
           have e3 : w2.cell? ⟨w.heap.size + 1 + 1 + 1, 3, none⟩ = some (.string ⟨#[]⟩) := blk_cell d6 3
           have e4 : w2.cell? ⟨w.heap.size + 1 + 1 + 1, 4, none⟩ = some (.slice none 0 0) := blk_cell d6 4
           have g0 := blk_free d6 0
           have g1 := blk_free d6 1
           have g2 := blk_free d6 2
           have g3 := blk_free d6 3
           have g4 := blk_free d6 4
           have HD6 := Lib.hid d6
           have HV2 := Lib.hid hv2
           unfold put5 at HV2
           clear he hh hb2 hb3 hv2 d6)
        | fail)
      all_goals
        go_wp2
        refine end5 rfl rfl rfl rfl (put5_block HD6.out) rfl ?_
        exact HV2.out
    have hA' : bothB kv kb = false := by simpa using hA
    have hk : ¬ (kv = 6 ∧ kb = 6 ∨ kv = 7 ∧ kb = 7) := by
      unfold bothB at hA
      simpa only [Bool.or_eq_true, Bool.and_eq_true, beq_iff_eq] using hA
    rw [hA'] at HBo
    clear hA hA'
    by_cases hB : kb = 6
    · -- to an opt
      rcases bx with ⟨h, -⟩ | ⟨-, y, rfl, hy⟩
      · omega
      have hnb1 : nb = 1 := hnb
      clear hnb
      subst hnb1 hB
      have hk6 : ¬ kv = 6 := by omega
      have HRr : Hid (r = match Rz.allR (fun z => Rz.read d z (.mk kv xa) y) [.mk kv iv bv tv vs] with
          | .error e => .error e
          | .ok l => .ok (.mk 6 0 0 ⟨#[]⟩ l)) := by
        show _ = _
        rw [HRs.out, if_pos ⟨rfl, hk6⟩, Rz.allR_cons, Rz.allR_nil]
        show (match Rz.read d (.mk kv iv bv tv vs) (.mk kv xa) y with
          | .error e => Except.error e
          | .ok z => Except.ok (V.mk 6 0 0 ⟨#[]⟩ [z])) = _
        cases Rz.read d (.mk kv iv bv tv vs) (.mk kv xa) y <;> rfl
      have hcn : Rz.can d (.mk kv xa) y = true := by
        rw [HCc.out, if_pos rfl, if_neg (by exact hk6)]
        rfl
      obtain ⟨uy, huy, hiy⟩ := hqi 0 (by simp)
      have HD : Hid (∀ w' g, Below w.heap.size w w' → w'.heap[g]? = some (.cells #[.int .i64 kv, .int .i64 iv, .float .f64 bv, .string tv, .slice pv nv cv] 35 (0, 0)) → Calls Tryz.prog 45 #[.agg #[.int .i64 kv, .slice p na ca], .agg #[.int .i64 6, .slice q 1 cb], .slice (some ⟨g, 0, none⟩) 1 1] w' (ValR w' r)) := fun w' g hb' hg => by
        rw [HRr.out]
        refine itemsK [.mk kv iv bv tv vs] 6 kv (fun z => Rz.read d z (.mk kv xa) y) p na ca (some ⟨g, 0, none⟩) 1 q cb uy w' ?_ ?_ (hiy.on hb') (items_one hg (HUV.out.on hb')) (by simp)
        · intro z hz e he
          rcases List.mem_singleton.1 hz with rfl
          have := Rz.read_good d (.mk kv iv bv tv vs) (.mk kv xa) y da (db + 1) dv HA.out hy HCk.out HOf.out HWf.out (by omega) hcn
          rw [he] at this
          exact this
        · intro z hz w'' u hb'' hu
          rcases List.mem_singleton.1 hz with rfl
          have hb3 := hb'.trans (hb''.mono hb'.size)
          exact HIH.out _ (.mk kv xa) y da (db + 1) dv w'' _ _ u HA.out hy HCk.out HOf.out HWf.out (by omega) hcn (HUA.out.on hb3) (huy.on hb3) hu
      clear hk hpi hqi huy hiy HRr HRs HCc HCn hcn HIH hk6 hna hnv
      go_enter Tryz.func27, Tryz.ntmps27
      go_wp2_with fail
      rw [← HW0.out]
      clear HW0
      refine HBo.out.mono ?_
      rintro e w1 ⟨rfl, hb1⟩
      have HB1 := Lib.hid hb1
      have HB1w := Lib.hid (HB0.out.trans (hb1.mono HB0.out.size))
      have HS1 : Hid (w.heap.size + 5 ≤ w1.heap.size) := by have := hb1.size; have := HS0.out; show _ ≤ _; omega
      obtain ⟨⟨c0, c1⟩, ⟨c2, c3⟩, ⟨c4, c5, c6, c7, c8⟩, ⟨c9, c10⟩⟩ := HCl.out w1 hb1
      clear hb1
      clear HBo HCl
      obtain ⟨W2, hW2⟩ : ∃ W, W = w1.alloc (.cells #[.int .i64 kv, .int .i64 iv, .float .f64 bv, .string tv, .slice pv nv cv] 35) := ⟨_, rfl⟩
      have hb12 : Below w1.heap.size w1 W2 := by rw [hW2]; exact (Below.refl _ _).alloc (Nat.le_refl _) _
      have HBW2 := Lib.hid (HB1w.out.trans (hb12.mono HB1w.out.size))
      have HBW2o := Lib.hid (HB1.out.trans (hb12.mono HB1.out.size))
      have HD2 : Hid (Calls Tryz.prog 45 #[.agg #[.int .i64 kv, .slice p na ca], .agg #[.int .i64 6, .slice q 1 cb], .slice (some ⟨w1.heap.size, 0, none⟩) 1 1] W2 (ValR W2 r)) := HD.out W2 w1.heap.size HBW2.out (by rw [hW2]; exact blk_new w1 _)
      have HW2 := Lib.hid hW2
      clear hW2 hb12 HD
      go_wp2_with fail
      rw [← HW2.out]
      clear HW2
      refine HD2.out.mono ?_
      intro e w2 hh
      obtain ⟨k5, i5, b5, t5, p5, n5, c5, er, he, hb2, hv2⟩ := hh.pass (w0 := w) (g := w.heap.size + 1 + 1 + 1) HBW2.out (by omega) (by have := HS1.out; have := HBW2o.out.size; have := HS0.out; omega)
      unfold cells5 at he
      subst he
      have hb3 : Below W0.heap.size W0 w2 := HBW2o.out.trans (hb2.mono HBW2o.out.size)
      have d6 := HT6.out w2 hb3
      have e0 : w2.cell? ⟨w.heap.size + 1 + 1 + 1, 0, none⟩ = some (.int .i64 0) := blk_cell d6 0
      have e1 : w2.cell? ⟨w.heap.size + 1 + 1 + 1, 1, none⟩ = some (.int .i64 0) := blk_cell d6 1
      have e2 : w2.cell? ⟨w.heap.size + 1 + 1 + 1, 2, none⟩ = some (.float .f64 0) := blk_cell d6 2
      have e3 : w2.cell? ⟨w.heap.size + 1 + 1 + 1, 3, none⟩ = some (.string ⟨#[]⟩) := blk_cell d6 3
      have e4 : w2.cell? ⟨w.heap.size + 1 + 1 + 1, 4, none⟩ = some (.slice none 0 0) := blk_cell d6 4
      have g0 := blk_free d6 0
      have g1 := blk_free d6 1
      have g2 := blk_free d6 2
      have g3 := blk_free d6 3
      have g4 := blk_free d6 4
      have HD6 := Lib.hid d6
      have HV2 := Lib.hid hv2
      unfold put5 at HV2
      clear hh hb2 hb3 hv2 d6
      go_wp2
      refine end5 rfl rfl rfl rfl (put5_block HD6.out) rfl ?_
      exact HV2.out
    have gB := beq_f hB
    by_cases hC : kv = 6
    · -- from an opt
      rcases ax with ⟨h, -⟩ | ⟨-, x, rfl, hx⟩
      · omega
      have hna1 : na = 1 := hna
      clear hna
      subst hna1 hC
      have hcn : Rz.can d x (.mk kb xb) = true := by
        rw [HCc.out, if_neg hB, if_pos rfl]
        rfl
      obtain ⟨ux, hux, hix⟩ := hpi 0 (by simp)
      have HX := Lib.hid (And.intro hux hix)
      cases vs with
      | nil =>
        have HRr : Hid (r = .error 91) := by
          show _ = _
          rw [HRs.out, if_neg (by rintro ⟨h, -⟩; exact hB h), if_pos ⟨rfl, hB⟩]
        have hnv0 : nv = 0 := hnv
        clear hnv
        subst hnv0
        clear hk hpi hqi hux hix HRs HCc HCn hcn HIH hB hnb
        go_enter Tryz.func27, Tryz.ntmps27
        go_wp2_with fail
        rw [← HW0.out]
        clear HW0
        refine HBo.out.mono ?_
        rintro e w1 ⟨rfl, hb1⟩
        have HB1 := Lib.hid hb1
        have HB1w := Lib.hid (HB0.out.trans (hb1.mono HB0.out.size))
        have HS1 : Hid (w.heap.size + 5 ≤ w1.heap.size) := by have := hb1.size; have := HS0.out; show _ ≤ _; omega
        obtain ⟨⟨c0, c1⟩, ⟨c2, c3⟩, ⟨c4, c5, c6, c7, c8⟩, ⟨c9, c10⟩⟩ := HCl.out w1 hb1
        clear hb1
        clear HBo HCl HX
        have d6 := HT6.out w1 HB1.out
        have e0 : w1.cell? ⟨w.heap.size + 1 + 1 + 1, 0, none⟩ = some (.int .i64 0) := blk_cell d6 0
        have e1 : w1.cell? ⟨w.heap.size + 1 + 1 + 1, 1, none⟩ = some (.int .i64 0) := blk_cell d6 1
        have e2 : w1.cell? ⟨w.heap.size + 1 + 1 + 1, 2, none⟩ = some (.float .f64 0) := blk_cell d6 2
        have e3 : w1.cell? ⟨w.heap.size + 1 + 1 + 1, 3, none⟩ = some (.string ⟨#[]⟩) := blk_cell d6 3
        have e4 : w1.cell? ⟨w.heap.size + 1 + 1 + 1, 4, none⟩ = some (.slice none 0 0) := blk_cell d6 4
        have g0 := blk_free d6 0
        have g1 := blk_free d6 1
        have g2 := blk_free d6 2
        have g3 := blk_free d6 3
        have g4 := blk_free d6 4
        have HD6 := Lib.hid d6
        clear d6
        go_wp2
        refine end5 rfl rfl rfl rfl (put5_block HD6.out) rfl ?_
        rw [HRr.out]
        exact valR_err HB1w.out (by omega)
      | cons z rs =>
        have HRr : Hid (r = Rz.read d z x (.mk kb xb)) := by
          show _ = _
          rw [HRs.out, if_neg (by rintro ⟨h, -⟩; exact hB h), if_pos ⟨rfl, hB⟩]
          rfl
        have hnv1 : nv = 1 := by
          have h2 := o7 rfl
          rw [List.length_cons] at hnv h2
          omega
        obtain ⟨uz, huz, hiz⟩ := HVI.out 0 (by simp)
        have HZ := Lib.hid (And.intro huz hiz)
        have HD : Hid (∀ w', Below w.heap.size w w' → Calls Tryz.prog 27 #[.agg ux, .agg #[.int .i64 kb, .slice q nb cb], .agg uz] w' (ValR w' r)) := fun w' hb' => by
          rw [HRr.out]
          exact HIH.out z x (.mk kb xb) (da + 1) db (dv + 1) w' ux _ uz hx HBb.out (hcx z (by simp)) (hi z (by simp)) (hwx z (by simp)) (by omega) hcn (hux.on hb') (HUB.out.on hb') (huz.on hb')
        clear hk hpi hqi hux hix huz hiz HRr HRs HCc HCn hcn HIH hB hnv hnb
        subst hnv1
        go_enter Tryz.func27, Tryz.ntmps27
        go_wp2_with fail
        rw [← HW0.out]
        clear HW0
        refine HBo.out.mono ?_
        rintro e w1 ⟨rfl, hb1⟩
        have HB1 := Lib.hid hb1
        have HB1w := Lib.hid (HB0.out.trans (hb1.mono HB0.out.size))
        have HS1 : Hid (w.heap.size + 5 ≤ w1.heap.size) := by have := hb1.size; have := HS0.out; show _ ≤ _; omega
        obtain ⟨⟨c0, c1⟩, ⟨c2, c3⟩, ⟨c4, c5, c6, c7, c8⟩, ⟨c9, c10⟩⟩ := HCl.out w1 hb1
        clear hb1
        obtain ⟨bx, ox, kx, qx, nx, cx, rfl, _, rfl, a0, a1⟩ := (HX.out.2.on HB1w.out).lies
        rw [Nat.zero_mul, Nat.add_zero] at a0 a1
        obtain ⟨bz, oz, kz, iz, fz, tz, qz, nz, cz, rfl, _, rfl, z0, z1, z2, z3, z4⟩ := (HZ.out.2.on HB1w.out).lies
        rw [Nat.zero_mul, Nat.add_zero] at z0 z1 z2 z3 z4
        unfold cells2 cells5 at HD
        clear HX HZ HBo HCl
        go_wp2_with fail
        go_region_law (first
          | (refine step_call3g (.tmp 61) (.tmp 62) (.tmp 66) 42 42 35 (by rfl) (by rfl) (by rfl) (by rfl) (by rfl) Tryz.func27 (by kernel_rfl) (by rfl) (HD.out _ HB1w.out.drew) ?_
             intro e w2 hh
             obtain ⟨k5, i5, b5, t5, p5, n5, c5, er, he, hb2, hv2⟩ := hh.pass (w0 := w) (g := w.heap.size + 1 + 1 + 1) HB1w.out.drew (by omega) (by have := HS1.out; first | omega | (simp; omega) | (show w.heap.size + 1 + 1 + 1 < w1.heap.size; omega))
             unfold cells5 at he
             refine ⟨_, he, ?_⟩
             have hb3 : Below W0.heap.size W0 w2 := HB1.out.drew.trans (hb2.mono HB1.out.size)
             have d6 := HT6.out w2 hb3
             have e0 : w2.cell? ⟨w.heap.size + 1 + 1 + 1, 0, none⟩ = some (.int .i64 0) := blk_cell d6 0
             have e1 : w2.cell? ⟨w.heap.size + 1 + 1 + 1, 1, none⟩ = some (.int .i64 0) := blk_cell d6 1
             have e2 : w2.cell? ⟨w.heap.size + 1 + 1 + 1, 2, none⟩ = some (.float .f64 0) := blk_cell d6 2
             have e3 : w2.cell? ⟨w.heap.size + 1 + 1 + 1, 3, none⟩ = some (.string ⟨#[]⟩) := blk_cell d6 3
             have e4 : w2.cell? ⟨w.heap.size + 1 + 1 + 1, 4, none⟩ = some (.slice none 0 0) := blk_cell d6 4
             have g0 := blk_free d6 0
             have g1 := blk_free d6 1
             have g2 := blk_free d6 2
             have g3 := blk_free d6 3
             have g4 := blk_free d6 4
             have HD6 := Lib.hid d6
             have HV2 := Lib.hid hv2
             unfold put5 at HV2
             clear he hh hb2 hb3 hv2 d6)
          | fail)
        all_goals
          go_wp2
          refine end5 rfl rfl rfl rfl (put5_block HD6.out) rfl ?_
          exact HV2.out
    have gC := beq_f hC
    have hb7 : kb ≠ 7 ∧ kv ≠ 7 ∧ Rz.plain kv kb = true := by
      have h := HCc.out
      rw [if_neg (by exact hB), if_neg (by exact hC), if_neg (by show ¬ (kv = 7 ∧ kb = 7); omega)] at h
      have h' : Rz.plain kv kb = true := h.symm
      refine ⟨?_, ?_, h'⟩
      · intro hc
        rw [hc] at h'
        unfold Rz.plain at h'
        simp at h'
      · intro hc
        rw [hc] at h'
        unfold Rz.plain at h'
        simp at h'
    have hvn := Rz.no_items HCk.out (by omega)
    subst hvn
    have hnv0 : nv = 0 := hnv
    clear hnv
    subst hnv0
    have HRr : Hid (r = Rz.scalar kb (.mk kv iv bv tv [])) := by
      show _ = _
      rw [HRs.out, if_neg (by rintro ⟨h, -⟩; exact hB h), if_neg (by rintro ⟨h, -⟩; exact hC h), if_pos ⟨hB, hb7.1⟩]
    have HD : Hid (∀ w', Calls Tryz.prog 46 #[.agg #[.int .i64 kv, .int .i64 kb], .agg #[.int .i64 kv, .int .i64 iv, .float .f64 bv, .string tv, .slice pv 0 cv]] w' (ValR w' r)) := fun w' => by
      rw [HRr.out]
      unfold Rz.scalar
      by_cases c1 : kv = 2 ∧ kb = 3
      · rw [if_pos c1]
        obtain ⟨rfl, rfl⟩ := c1
        exact plain_23 iv bv tv pv 0 cv w'
      rw [if_neg c1]
      by_cases c2 : kv = 3 ∧ kb = 2
      · rw [if_pos c2]
        obtain ⟨rfl, rfl⟩ := c2
        exact plain_32 iv bv tv pv 0 cv w'
      rw [if_neg c2]
      by_cases c3 : kv = 5 ∧ kb = 4
      · have e1 : iv = 0 := by have := c3.1; omega
        have e2 : fixB bv = 0 := by have := c3.1; omega
        have h := plain_54 iv bv tv (by omega) pv 0 cv w'
        rw [c3.1, c3.2]
        show Calls _ _ _ _ (ValR w' (if (4 : Int) = 4 ∧ utfT tv = false then .error 61 else .ok (.mk 4 iv (fixB bv) tv [])))
        rw [e1, e2]
        rw [e1] at h
        simp only [true_and]
        exact h
      · rw [if_neg]
        · exact plain_else kv kb iv bv tv pv 0 cv w' c1 c2 c3
        · rintro ⟨h4, h5⟩
          have h5' : utfT tv = false := h5
          have hkv : kv = 4 := by
            have := hb7.2.2
            unfold Rz.plain at this
            rw [h4] at this
            simp only [Bool.and_eq_true, Bool.not_eq_true', beq_eq_false_iff_ne, ne_eq, Bool.or_eq_true, beq_iff_eq] at this
            omega
          rw [hutf hkv] at h5'
          cases h5'
    clear hk hpi hqi HRr HRs HCc HCn HIH hB hC hb7 hna hnb ax bx
    go_enter Tryz.func27, Tryz.ntmps27
    go_wp2_with fail
    rw [← HW0.out]
    clear HW0
    refine HBo.out.mono ?_
    rintro e w1 ⟨rfl, hb1⟩
    have HB1 := Lib.hid hb1
    have HB1w := Lib.hid (HB0.out.trans (hb1.mono HB0.out.size))
    have HS1 : Hid (w.heap.size + 5 ≤ w1.heap.size) := by have := hb1.size; have := HS0.out; show _ ≤ _; omega
    obtain ⟨⟨c0, c1⟩, ⟨c2, c3⟩, ⟨c4, c5, c6, c7, c8⟩, ⟨c9, c10⟩⟩ := HCl.out w1 hb1
    clear hb1
    clear HBo HCl
    go_wp2_with fail
    refine (HD.out w1).mono ?_
    intro e w2 hh
    obtain ⟨k5, i5, b5, t5, p5, n5, c5, er, he, hb2, hv2⟩ := hh.pass (w0 := w) (g := w.heap.size + 1 + 1 + 1) HB1w.out (by omega) (by have := HS1.out; omega)
    unfold cells5 at he
    subst he
    have hb3 : Below W0.heap.size W0 w2 := HB1.out.trans (hb2.mono HB1.out.size)
    have d6 := HT6.out w2 hb3
    have e0 : w2.cell? ⟨w.heap.size + 1 + 1 + 1, 0, none⟩ = some (.int .i64 0) := blk_cell d6 0
    have e1 : w2.cell? ⟨w.heap.size + 1 + 1 + 1, 1, none⟩ = some (.int .i64 0) := blk_cell d6 1
    have e2 : w2.cell? ⟨w.heap.size + 1 + 1 + 1, 2, none⟩ = some (.float .f64 0) := blk_cell d6 2
    have e3 : w2.cell? ⟨w.heap.size + 1 + 1 + 1, 3, none⟩ = some (.string ⟨#[]⟩) := blk_cell d6 3
    have e4 : w2.cell? ⟨w.heap.size + 1 + 1 + 1, 4, none⟩ = some (.slice none 0 0) := blk_cell d6 4
    have g0 := blk_free d6 0
    have g1 := blk_free d6 1
    have g2 := blk_free d6 2
    have g3 := blk_free d6 3
    have g4 := blk_free d6 4
    have HD6 := Lib.hid d6
    have HV2 := Lib.hid hv2
    unfold put5 at HV2
    clear hh hb2 hb3 hv2 d6
    go_wp2
    refine end5 rfl rfl rfl rfl (put5_block HD6.out) rfl ?_
    exact HV2.out
end Go.Proofs.YtdahackmmhcjoaaGreat

/- The landed resolve: checkValue, Value; checkColumn, Check, checkRow. -/
namespace Go.Proofs.YtdahackmmhcjoaaGreat
open Go.RowKit

attribute [local go_sem] run_store_float

set_option maxRecDepth 100000 in
set_option maxHeartbeats 1000000 in
theorem checkValueK (y : Ty) (x : V) (w : World) (u v : Array Value) (hy : TLies w u y) (hx : VLies w v x) : Calls Tryz.prog 24 #[.agg u, .agg v] w fun e w' => e = .returned (.int .i64 (Rw.vErr y x : Nat)) ∧ Below w.heap.size w w' := by
  obtain ⟨k', ys⟩ := y
  obtain ⟨k, i, b, t, xs⟩ := x
  obtain ⟨q, cq, rfl, -⟩ := hy.open
  obtain ⟨p, c, rfl, -⟩ := hx.open
  obtain ⟨W0, hW0⟩ : ∃ W0, W0 = (w.alloc (.cells (cells2 k' q ys.length cq) 42)).alloc (.cells (cells5 k i b t p xs.length c) 35) := ⟨_, rfl⟩
  obtain ⟨l0, l1, lb, ls⟩ := al2 w (.cells (cells2 k' q ys.length cq) 42) (.cells (cells5 k i b t p xs.length c) 35)
  rw [← hW0] at l0 l1 lb ls
  have HB0 := Lib.hid lb
  have HCv := Lib.hid (checkK _ W0 _ (hx.on lb))
  have HIs := Lib.hid (fun w' (hb : Below w.heap.size w w') => isK (.mk k i b t xs) (.mk k' ys) w' _ _ (hx.on hb) (hy.on hb))
  have HE : Hid (Rw.vErr (.mk k' ys) (.mk k i b t xs) = if chk 1 (.mk k i b t xs) ≠ 0 then chk 1 (.mk k i b t xs) else if Sch.is (.mk k i b t xs) (.mk k' ys) then 0 else 80) := rfl
  obtain ⟨R, hR⟩ : ∃ R, R = Rw.vErr (.mk k' ys) (.mk k i b t xs) := ⟨_, rfl⟩
  rw [← hR] at HE ⊢
  obtain ⟨cv, hcv⟩ : ∃ cv, cv = chk 1 (.mk k i b t xs) := ⟨_, rfl⟩
  rw [← hcv] at HCv HE
  obtain ⟨si, hsi⟩ : ∃ si, si = Sch.is (.mk k i b t xs) (.mk k' ys) := ⟨_, rfl⟩
  rw [← hsi] at HIs HE
  have HCl : Hid (∀ w', Below W0.heap.size W0 w' → (w'.cell? ⟨w.heap.size, 0, none⟩ = some (.int .i64 k') ∧ w'.cell? ⟨w.heap.size, 1, none⟩ = some (.slice q ys.length cq)) ∧ w'.cell? ⟨w.heap.size + 1, 0, none⟩ = some (.int .i64 k) ∧ w'.cell? ⟨w.heap.size + 1, 1, none⟩ = some (.int .i64 i) ∧ w'.cell? ⟨w.heap.size + 1, 2, none⟩ = some (.float .f64 b) ∧ w'.cell? ⟨w.heap.size + 1, 3, none⟩ = some (.string t) ∧ w'.cell? ⟨w.heap.size + 1, 4, none⟩ = some (.slice p xs.length c)) := fun w' h => ⟨⟨blk_at l0 h 0, blk_at l0 h 1⟩, blk_at l1 h 0, blk_at l1 h 1, blk_at l1 h 2, blk_at l1 h 3, blk_at l1 h 4⟩
  unfold cells2 at hW0 HIs ⊢
  unfold cells5 at hW0 HCv HIs ⊢
  have HW0 := Lib.hid hW0
  generalize xs.length = nx at *
  generalize ys.length = ny at *
  clear hR hcv hsi hW0 l0 l1 lb ls hx hy
  go_enter Tryz.func24, Tryz.ntmps24
  go_wp2_with fail
  rw [← HW0.out]
  clear HW0
  refine HCv.out.mono ?_
  rintro e w1 ⟨rfl, hb1⟩
  have HB1 := Lib.hid (HB0.out.trans (hb1.mono HB0.out.size))
  obtain ⟨⟨c0, c1⟩, c2, c3, c4, c5, c6⟩ := HCl.out w1 hb1
  clear hb1 HCv HCl
  by_cases h0 : cv = 0
  · have g0 : ((cv : Int) != 0) = false := bne_f (by omega)
    have HE2 : Hid (R = if si then 0 else 80) := by show _ = _; rw [HE.out, if_neg (by omega)]
    clear h0 HE
    go_wp2_with fail
    refine (HIs.out w1 HB1.out).mono ?_
    rintro e w2 ⟨rfl, hb2⟩
    have HB2 := Lib.hid (HB1.out.trans (hb2.mono HB1.out.size))
    clear hb2 HIs
    cases si with
    | true =>
      go_wp2
      go_ret
      exact ⟨by rw [HE2.out]; rfl, HB2.out⟩
    | false =>
      go_wp2
      go_ret
      exact ⟨by rw [HE2.out]; rfl, HB2.out⟩
  · have g0 : ((cv : Int) != 0) = true := bne_t (by omega)
    have HE2 : Hid (R = cv) := by show _ = _; rw [HE.out, if_pos h0]
    clear h0 HE
    go_wp2
    go_ret
    exact ⟨by rw [HE2.out]; rfl, HB1.out⟩

set_option maxRecDepth 100000 in
set_option maxHeartbeats 2000000 in
theorem valueK9 (a b : Ty) (x : V) (w : World) (ua ub uv : Array Value) (ha : TLies w ua a) (hb : TLies w ub b) (hx : VLies w uv x) (hw : x.wf) : Calls Tryz.prog 18 #[.agg ua, .agg ub, .agg uv] w (ValR w (Rz.value a b x)) := by
  have HG := Lib.hid (Rz.value_good (a := a) (b := b) hw)
  obtain ⟨r, hr⟩ : ∃ r, r = Rz.value a b x := ⟨_, rfl⟩
  have HR : Hid (r = if Ty.check 1 a ≠ 0 then .error (Ty.check 1 a) else if Ty.check 1 b ≠ 0 then .error (Ty.check 1 b) else if Rw.vErr a x ≠ 0 then .error (Rw.vErr a x) else if Rz.can 7 a b = false then .error 60 else Rz.read 7 x a b) := hr
  rw [← hr]
  have HCa := Lib.hid (fun w' (h : Below w.heap.size w w') => checkTypeK a w' ua (ha.on h))
  have HCb := Lib.hid (fun w' (h : Below w.heap.size w w') => checkTypeK b w' ub (hb.on h))
  have HCv := Lib.hid (fun w' (h : Below w.heap.size w w') => checkValueK a x w' ua uv (ha.on h) (hx.on h))
  have HCn := Lib.hid (fun w' (h : Below w.heap.size w w') h1 h2 => canReadK 7 a b 1 1 w' ua ub h1 h2 (by omega) (ha.on h) (hb.on h))
  have HRd := Lib.hid (fun w' (h : Below w.heap.size w w') h1 h2 h3 h4 h5 => readK 7 x a b 1 1 1 w' ua ub uv h1 h2 h3 h4 hw (by omega) h5 (ha.on h) (hb.on h) (hx.on h))
  have HVz := Lib.hid (fun h => Rw.vErr_zero (t := a) (v := x) h)
  obtain ⟨ea, hea⟩ : ∃ n, n = Ty.check 1 a := ⟨_, rfl⟩
  obtain ⟨eb, heb⟩ : ∃ n, n = Ty.check 1 b := ⟨_, rfl⟩
  obtain ⟨ev, hev⟩ : ∃ n, n = Rw.vErr a x := ⟨_, rfl⟩
  obtain ⟨cn, hcn⟩ : ∃ n, n = Rz.can 7 a b := ⟨_, rfl⟩
  rw [← hea] at HR HCa HCn HRd HVz
  rw [← heb] at HR HCb HCn HRd
  rw [← hev] at HR HCv HVz
  rw [← hcn] at HR HCn HRd
  obtain ⟨ka, xa⟩ := a
  obtain ⟨kb, xb⟩ := b
  obtain ⟨k, i, f, t, xs⟩ := x
  obtain ⟨pa, ca, rfl, -⟩ := ha.open
  obtain ⟨pb, cb, rfl, -⟩ := hb.open
  obtain ⟨pv, cv, rfl, -⟩ := hx.open
  unfold cells2 at HCa HCb HCv HCn HRd ⊢
  unfold cells5 at HCv HRd ⊢
  generalize xs.length = nv at *
  generalize xa.length = na at *
  generalize xb.length = nb at *
  obtain ⟨W0, hW0⟩ : ∃ W0, W0 = (((w.alloc (.cells #[.int .i64 ka, .slice pa na ca] 42)).alloc (.cells #[.int .i64 kb, .slice pb nb cb] 42)).alloc (.cells #[.int .i64 k, .int .i64 i, .float .f64 f, .string t, .slice pv nv cv] 35)).alloc (.cells #[.int .i64 0, .int .i64 0, .float .f64 0, .string ⟨#[]⟩, .slice none 0 0] 35) := ⟨_, rfl⟩
  obtain ⟨l0, l1, l2, l3, lb, ls⟩ := al4 w (.cells #[.int .i64 ka, .slice pa na ca] 42) (.cells #[.int .i64 kb, .slice pb nb cb] 42) (.cells #[.int .i64 k, .int .i64 i, .float .f64 f, .string t, .slice pv nv cv] 35) (.cells #[.int .i64 0, .int .i64 0, .float .f64 0, .string ⟨#[]⟩, .slice none 0 0] 35)
  rw [← hW0] at l0 l1 l2 l3 lb ls
  have HW0 := Lib.hid hW0
  have HB0 := Lib.hid lb
  have HS0 := Lib.hid ls
  have HCl : Hid (∀ w', Below W0.heap.size W0 w' → (w'.cell? ⟨w.heap.size, 0, none⟩ = some (.int .i64 ka) ∧ w'.cell? ⟨w.heap.size, 1, none⟩ = some (.slice pa na ca)) ∧ (w'.cell? ⟨w.heap.size + 1, 0, none⟩ = some (.int .i64 kb) ∧ w'.cell? ⟨w.heap.size + 1, 1, none⟩ = some (.slice pb nb cb)) ∧ (w'.cell? ⟨w.heap.size + 1 + 1, 0, none⟩ = some (.int .i64 k) ∧ w'.cell? ⟨w.heap.size + 1 + 1, 1, none⟩ = some (.int .i64 i) ∧ w'.cell? ⟨w.heap.size + 1 + 1, 2, none⟩ = some (.float .f64 f) ∧ w'.cell? ⟨w.heap.size + 1 + 1, 3, none⟩ = some (.string t) ∧ w'.cell? ⟨w.heap.size + 1 + 1, 4, none⟩ = some (.slice pv nv cv)) ∧ (w'.cell? ⟨w.heap.size + 1 + 1 + 1, 0, none⟩ = some (.int .i64 0) ∧ w'.cell? ⟨w.heap.size + 1 + 1 + 1, 1, none⟩ = some (.int .i64 0) ∧ w'.cell? ⟨w.heap.size + 1 + 1 + 1, 2, none⟩ = some (.float .f64 0) ∧ w'.cell? ⟨w.heap.size + 1 + 1 + 1, 3, none⟩ = some (.string ⟨#[]⟩) ∧ w'.cell? ⟨w.heap.size + 1 + 1 + 1, 4, none⟩ = some (.slice none 0 0)) ∧ ∀ m, w'.frozen? ⟨w.heap.size + 1 + 1 + 1, m, none⟩ = false) := fun w' h => ⟨⟨blk_at l0 h 0, blk_at l0 h 1⟩, ⟨blk_at l1 h 0, blk_at l1 h 1⟩, ⟨blk_at l2 h 0, blk_at l2 h 1, blk_at l2 h 2, blk_at l2 h 3, blk_at l2 h 4⟩, ⟨blk_at l3 h 0, blk_at l3 h 1, blk_at l3 h 2, blk_at l3 h 3, blk_at l3 h 4⟩, fun m => blk_free ((h.block _ (blk_lt l3)).trans l3) m⟩
  have HT6 : Hid (∀ w', Below W0.heap.size W0 w' → w'.heap[w.heap.size + 1 + 1 + 1]? = some (.cells #[.int .i64 0, .int .i64 0, .float .f64 0, .string ⟨#[]⟩, .slice none 0 0] 35 (0, 0))) := fun w' h => (h.block _ (blk_lt l3)).trans l3
  have HEa := Lib.hid hea
  have HEb := Lib.hid heb
  have HEv := Lib.hid hev
  have HEc := Lib.hid hcn
  clear hr hea heb hev hcn ha hb hx hw l0 l1 l2 l3 lb ls hW0
  go_enter Tryz.func18, Tryz.ntmps18
  go_wp2_with fail
  rw [← HW0.out]
  clear HW0
  refine (HCa.out W0 HB0.out).mono ?_
  rintro e w1 ⟨rfl, hb1⟩
  have HB1 := Lib.hid hb1
  have HB1w := Lib.hid (HB0.out.trans (hb1.mono HB0.out.size))
  obtain ⟨⟨c0, c1⟩, ⟨c2, c3⟩, ⟨c4, c5, c6, c7, c8⟩, ⟨e0, e1, e2, e3, e4⟩, hf⟩ := HCl.out w1 hb1
  clear hb1 HCa
  by_cases h0 : ¬ ea = 0
  · have g0 : ((ea : Int) != 0) = true := bne_t (by omega)
    have HE2 : Hid (r = .error ea) := by show _ = _; rw [HR.out, if_pos h0]
    clear h0 HR HG
    go_wp2
    refine end5 rfl rfl rfl rfl (put5_block (HT6.out w1 HB1.out)) rfl ?_
    rw [HE2.out]
    exact valR_err HB1w.out (by omega)
  replace h0 : ea = 0 := Classical.not_not.1 h0
  have g0 : ((ea : Int) != 0) = false := bne_f (by omega)
  go_wp2_with fail
  refine (HCb.out w1 HB1w.out).mono ?_
  rintro e w2 ⟨rfl, hb2⟩
  have HB2 := Lib.hid (HB1.out.trans (hb2.mono HB1.out.size))
  have HB2w := Lib.hid (HB1w.out.trans (hb2.mono HB1w.out.size))
  clear hb2 HCb c0 c1 c2 c3 c4 c5 c6 c7 c8 e0 e1 e2 e3 e4 hf
  obtain ⟨⟨c0, c1⟩, ⟨c2, c3⟩, ⟨c4, c5, c6, c7, c8⟩, ⟨e0, e1, e2, e3, e4⟩, hf⟩ := HCl.out w2 HB2.out
  by_cases h1 : ¬ eb = 0
  · have g1 : ((eb : Int) != 0) = true := bne_t (by omega)
    have HE2 : Hid (r = .error eb) := by show _ = _; rw [HR.out, if_neg (by omega), if_pos h1]
    clear h0 h1 HR HG
    go_wp2
    refine end5 rfl rfl rfl rfl (put5_block (HT6.out w2 HB2.out)) rfl ?_
    rw [HE2.out]
    exact valR_err HB2w.out (by omega)
  replace h1 : eb = 0 := Classical.not_not.1 h1
  have g1 : ((eb : Int) != 0) = false := bne_f (by omega)
  go_wp2_with fail
  refine (HCv.out w2 HB2w.out).mono ?_
  rintro e w3 ⟨rfl, hb3⟩
  have HB3 := Lib.hid (HB2.out.trans (hb3.mono HB2.out.size))
  have HB3w := Lib.hid (HB2w.out.trans (hb3.mono HB2w.out.size))
  clear hb3 HCv c0 c1 c2 c3 c4 c5 c6 c7 c8 e0 e1 e2 e3 e4 hf
  obtain ⟨⟨c0, c1⟩, ⟨c2, c3⟩, ⟨c4, c5, c6, c7, c8⟩, ⟨e0, e1, e2, e3, e4⟩, hf⟩ := HCl.out w3 HB3.out
  by_cases h2 : ¬ ev = 0
  · have g2 : ((ev : Int) != 0) = true := bne_t (by omega)
    have HE2 : Hid (r = .error ev) := by show _ = _; rw [HR.out, if_neg (by omega), if_neg (by omega), if_pos h2]
    clear h0 h1 h2 HR HG
    go_wp2
    refine end5 rfl rfl rfl rfl (put5_block (HT6.out w3 HB3.out)) rfl ?_
    rw [HE2.out]
    exact valR_err HB3w.out (by omega)
  replace h2 : ev = 0 := Classical.not_not.1 h2
  have g2 : ((ev : Int) != 0) = false := bne_f (by omega)
  go_wp2_with fail
  refine (HCn.out w3 HB3w.out h0 h1).mono ?_
  rintro e w4 ⟨rfl, hb4⟩
  have HB4 := Lib.hid (HB3.out.trans (hb4.mono HB3.out.size))
  have HB4w := Lib.hid (HB3w.out.trans (hb4.mono HB3w.out.size))
  clear hb4 HCn c0 c1 c2 c3 c4 c5 c6 c7 c8 e0 e1 e2 e3 e4 hf
  obtain ⟨⟨c0, c1⟩, ⟨c2, c3⟩, ⟨c4, c5, c6, c7, c8⟩, ⟨e0, e1, e2, e3, e4⟩, hf⟩ := HCl.out w4 HB4.out
  have HS4 : Hid (w.heap.size + 4 ≤ w4.heap.size) := by have := HB4.out.size; have := HS0.out; show _ ≤ _; omega
  cases cn with
  | false =>
    have HE2 : Hid (r = .error 60) := by show _ = _; rw [HR.out, if_neg (by omega), if_neg (by omega), if_neg (by omega), if_pos rfl]
    clear h0 h1 h2 HR HG
    go_wp2
    refine end5 rfl rfl rfl rfl (put5_block (HT6.out w4 HB4.out)) rfl ?_
    rw [HE2.out]
    exact valR_err HB4w.out (by omega)
  | true =>
    have hz := HVz.out h2
    have HE2 : Hid (r = Rz.read 7 (.mk k i f t xs) (.mk ka xa) (.mk kb xb)) := by show _ = _; rw [HR.out, if_neg (by omega), if_neg (by omega), if_neg (by omega), if_neg (by simp)]
    have HD := Lib.hid (HRd.out w4 HB4w.out h0 h1 hz.2.1 hz.2.2 rfl)
    rw [← HE2.out] at HD
    clear h0 h1 h2 HR HG hz
    go_wp2_with fail
    refine HD.out.mono ?_
    intro e w5 hh
    obtain ⟨k5, i5, b5, t5, p5, n5, c5', er, he, hb5, hv5⟩ := hh.pass (w0 := w) (g := w.heap.size + 1 + 1 + 1) HB4w.out (by omega) (by have := HS4.out; omega)
    unfold cells5 at he
    subst he
    have hb6 : Below W0.heap.size W0 w5 := HB4.out.trans (hb5.mono HB4.out.size)
    clear c0 c1 c2 c3 c4 c5 c6 c7 c8 e0 e1 e2 e3 e4 hf
    obtain ⟨-, -, -, ⟨e0, e1, e2, e3, e4⟩, hf⟩ := HCl.out w5 hb6
    have HD6 := Lib.hid (HT6.out w5 hb6)
    have HV2 := Lib.hid hv5
    unfold put5 at HV2
    clear hh hb5 hb6 hv5
    go_wp2
    refine end5 rfl rfl rfl rfl (put5_block HD6.out) rfl ?_
    exact HV2.out
end Go.Proofs.YtdahackmmhcjoaaGreat

/- The landed resolve: checkColumn, Check, checkRow. -/
namespace Go.Proofs.YtdahackmmhcjoaaGreat
open Go.RowKit

attribute [local go_sem] run_store_float

set_option maxRecDepth 100000 in
set_option maxHeartbeats 2000000 in
theorem checkColumnK9 (s : List Col) (p : Option Addr) (cp : Nat) (y : Col) (u : Array Value) (w : World) (hs : s.length * 120 ≤ 140737488351232) (hx : Cols w p s) (hu : CLies w u y) (hts : ∀ c ∈ s, Ty.check 1 c.ty = 0) (hty : Ty.check 1 y.ty = 0) :
    Calls Tryz.prog 23 #[.agg #[.slice p s.length cp], .agg u] w fun e w' => e = .returned (.int .i64 (Rz.colErr s y : Nat)) ∧ Below w.heap.size w w' := by
  obtain ⟨k, tp, tn, tc, vk, vi, vb, vt, vp, vn, vc, rfl, hT, -⟩ := hu.out
  unfold cells9
  obtain ⟨W0, hW0⟩ : ∃ W0, W0 = (w.alloc (.cells #[.slice p s.length cp] 24)).alloc (.cells #[.string y.name, .int .i64 k, .slice tp tn tc, .bool y.has, .int .i64 vk, .int .i64 vi, .float .f64 vb, .string vt, .slice vp vn vc] 44) := ⟨_, rfl⟩
  obtain ⟨l0, l1, lb, ls⟩ := al2 w (.cells #[.slice p s.length cp] 24) (.cells #[.string y.name, .int .i64 k, .slice tp tn tc, .bool y.has, .int .i64 vk, .int .i64 vi, .float .f64 vb, .string vt, .slice vp vn vc] 44)
  rw [← hW0] at l0 l1 lb ls
  have HW0 := Lib.hid hW0
  have HB0 := Lib.hid lb
  have HCl : Hid (∀ w', Below W0.heap.size W0 w' → w'.cell? ⟨w.heap.size, 0, none⟩ = some (.slice p s.length cp) ∧ w'.cell? ⟨w.heap.size + 1, 0, none⟩ = some (.string y.name) ∧ w'.cell? ⟨w.heap.size + 1, 1, none⟩ = some (.int .i64 k) ∧ w'.cell? ⟨w.heap.size + 1, 2, none⟩ = some (.slice tp tn tc) ∧ w'.cell? ⟨w.heap.size + 1, 3, none⟩ = some (.bool y.has)) := fun w' h => ⟨blk_at l0 h 0, blk_at l1 h 0, blk_at l1 h 1, blk_at l1 h 2, blk_at l1 h 3⟩
  have HF := Lib.hid (findK s y.name p cp W0 hs (hx.on lb))
  have HE : Hid (Rz.colErr s y = match Sch.find y.name s 0 with
    | none => if y.has then 0 else 90
    | some k => if Rz.can 7 (Rz.colAt s k).ty y.ty then 0 else 60) := rfl
  have HX := Lib.hid hx
  have HT := Lib.hid hT
  have HTs := Lib.hid hts
  obtain ⟨R, hR⟩ : ∃ R, R = Rz.colErr s y := ⟨_, rfl⟩
  rw [← hR] at HE ⊢
  have HFo := Lib.hid (fun j h => Rz.find_here (n := y.name) (s := s) (k := j) h)
  obtain ⟨fo, hfo⟩ : ∃ fo, fo = Sch.find y.name s 0 := ⟨_, rfl⟩
  rw [← hfo] at HF HE
  have HFo2 := Lib.hid hfo
  generalize hhs : y.has = hs' at *
  generalize hnm : y.name = nm at *
  clear hR hfo hW0 l0 l1 lb ls hx hu hT hts hhs hnm
  go_enter Tryz.func23, Tryz.ntmps23
  go_wp2_with fail
  rw [← HW0.out]
  clear HW0
  refine HF.out.mono ?_
  rintro e w1 ⟨he, hb1⟩
  have HB1 := Lib.hid (HB0.out.trans (hb1.mono HB0.out.size))
  obtain ⟨c0, c1, c2, c3, c4⟩ := HCl.out w1 hb1
  clear hb1 HF HCl
  cases fo with
  | none =>
    have he' : e = .returned (.tuple #[.int .i64 0, .bool false]) := he
    subst he'
    cases hs' with
    | true =>
      have HE2 : Hid (R = 0) := HE.out
      clear HE he
      go_wp2_with fail
      go_quiet (fail)
      go_wp2
      go_ret
      exact ⟨by rw [HE2.out]; rfl, below_drewN HB1.out _⟩
    | false =>
      have HE2 : Hid (R = 90) := HE.out
      clear HE he
      go_wp2_with fail
      go_quiet (fail)
      go_wp2
      go_ret
      exact ⟨by rw [HE2.out]; rfl, below_drewN HB1.out _⟩
  | some j =>
    have he' : e = .returned (.tuple #[.int .i64 j, .bool true]) := he
    subst he'
    obtain ⟨hj, -⟩ := HFo.out j HFo2.out.symm
    obtain ⟨bx, ox, k', tp', tn', tc', vk', vi', vb', vt', vp', vn', vc', rfl, _, h9, hT', -⟩ := (HX.out.on HB1.out).at j hj
    obtain ⟨-, a1, a2, -⟩ := h9
    have HC : Hid (∀ w', Below w1.heap.size w1 w' → Calls Tryz.prog 37 #[.agg #[.int .i64 k', .slice tp' tn' tc'], .agg #[.int .i64 k, .slice tp tn tc]] w' fun e w'' => e = .returned (.bool (Rz.can 7 (Rz.colAt s j).ty y.ty)) ∧ Below w'.heap.size w' w'') := fun w' hb => by
      rw [Rz.colAt_get hj]
      exact canReadK 7 s[j].ty y.ty 1 1 w' _ _ (HTs.out _ (List.getElem_mem hj)) hty (by omega) (hT'.on hb) ((HT.out.on HB1.out).on hb)
    have HE2 : Hid (R = if Rz.can 7 (Rz.colAt s j).ty y.ty then 0 else 60) := HE.out
    obtain ⟨cn, hcn⟩ : ∃ cn, cn = Rz.can 7 (Rz.colAt s j).ty y.ty := ⟨_, rfl⟩
    rw [← hcn] at HC HE2
    have hj1 : (j : Int) < (s.length : Int) := by omega
    clear HE he hcn hT' HX HT HTs HFo HFo2 hty
    go_wp2_with fail
    go_region_held3 (fun w' => w'.cell? ⟨w.heap.size, 0, none⟩ = some (.slice (some ⟨bx, ox, none⟩) s.length cp) ∧ w'.cell? ⟨w.heap.size + 1, 1, none⟩ = some (.int .i64 k) ∧ w'.cell? ⟨w.heap.size + 1, 2, none⟩ = some (.slice tp tn tc) ∧ w'.cell? ⟨bx, ox + j * 9 + 1, none⟩ = some (.int .i64 k') ∧ w'.cell? ⟨bx, ox + j * 9 + 2, none⟩ = some (.slice tp' tn' tc')) (go_keep) (first
      | (go_at_call 37; refine (HC.out _ (below_drewN (Below.refl _ _) _)).mono ?_; rintro e w4 ⟨rfl, hb4⟩; have hb5 := below_via (w := w1) hb4 (by rfl) (by rfl) (by rfl) (by rfl); have z0 := cell_on hb5 c0; have z1 := cell_on hb5 c2; have z2 := cell_on hb5 c3; have z3 := cell_on hb5 a1; have z4 := cell_on hb5 a2; have HB4 := Lib.hid (HB1.out.trans (hb5.mono HB1.out.size)); clear hb4 hb5))
    cases cn with
    | true =>
      go_wp2
      go_ret
      exact ⟨by rw [HE2.out]; rfl, HB4.out⟩
    | false =>
      go_wp2
      go_ret
      exact ⟨by rw [HE2.out]; rfl, HB4.out⟩

set_option maxRecDepth 100000 in
set_option maxHeartbeats 2000000 in
theorem checkK9 (s t : List Col) (p q : Option Addr) (cp cq : Nat) (w : World) (hs : s.length * 120 ≤ 140737488351232) (ht : t.length * 120 ≤ 140737488351232) (hx : Cols w p s) (hy : Cols w q t) (hws : ∀ x ∈ s, x.wf) (hwt : ∀ x ∈ t, x.wf) :
    Calls Tryz.prog 9 #[.agg #[.slice p s.length cp], .agg #[.slice q t.length cq]] w fun e w' => e = .returned (.int .i64 (Rz.check s t : Nat)) ∧ Below w.heap.size w w' := by
  obtain ⟨W0, hW0⟩ : ∃ W0, W0 = (w.alloc (.cells #[.slice p s.length cp] 24)).alloc (.cells #[.slice q t.length cq] 24) := ⟨_, rfl⟩
  obtain ⟨l0, l1, lb, ls⟩ := al2 w (.cells #[.slice p s.length cp] 24) (.cells #[.slice q t.length cq] 24)
  rw [← hW0] at l0 l1 lb ls
  have HW0 := Lib.hid hW0
  have HB0 := Lib.hid lb
  have HCl : Hid (∀ w', Below W0.heap.size W0 w' → w'.cell? ⟨w.heap.size, 0, none⟩ = some (.slice p s.length cp) ∧ w'.cell? ⟨w.heap.size + 1, 0, none⟩ = some (.slice q t.length cq)) := fun w' h => ⟨blk_at l0 h 0, blk_at l1 h 0⟩
  have HCs := Lib.hid (fun w' (h : Below w.heap.size w w') => checkSK s p cp w' hs (hx.on h) hws)
  have HCt := Lib.hid (fun w' (h : Below w.heap.size w w') => checkSK t q cq w' ht (hy.on h) hwt)
  have HE : Hid (Rz.check s t = if Sch.err s ≠ 0 then Sch.err s else if Sch.err t ≠ 0 then Sch.err t else V.first (t.map (Rz.colErr s))) := rfl
  have HTs := Lib.hid (fun h c hc => Rz.ty_ok (s := s) h (c := c) hc)
  have HTt := Lib.hid (fun h c hc => Rz.ty_ok (s := t) h (c := c) hc)
  obtain ⟨R, hR⟩ : ∃ R, R = Rz.check s t := ⟨_, rfl⟩
  rw [← hR] at HE ⊢
  obtain ⟨es, hes⟩ : ∃ n, n = Sch.err s := ⟨_, rfl⟩
  obtain ⟨et, het⟩ : ∃ n, n = Sch.err t := ⟨_, rfl⟩
  rw [← hes] at HCs HE HTs
  rw [← het] at HCt HE HTt
  have HX := Lib.hid hx
  have HY := Lib.hid hy
  clear hR hes het hW0 l0 l1 lb ls hx hy hws hwt
  go_enter Tryz.func9, Tryz.ntmps9
  go_wp2_with fail
  rw [← HW0.out]
  clear HW0
  refine (HCs.out W0 HB0.out).mono ?_
  rintro e w1 ⟨rfl, hb1⟩
  have HB1 := Lib.hid hb1
  have HB1w := Lib.hid (HB0.out.trans (hb1.mono HB0.out.size))
  obtain ⟨c0, c1⟩ := HCl.out w1 hb1
  clear hb1 HCs
  by_cases h0 : ¬ es = 0
  · have g0 : ((es : Int) != 0) = true := bne_t (by omega)
    have HE2 : Hid (R = es) := by show _ = _; rw [HE.out, if_pos h0]
    clear h0 HE
    go_wp2
    go_ret
    exact ⟨by rw [HE2.out]; rfl, HB1w.out⟩
  replace h0 : es = 0 := Classical.not_not.1 h0
  have g0 : ((es : Int) != 0) = false := bne_f (by omega)
  have HTs2 := Lib.hid (HTs.out h0)
  clear HTs
  go_wp2_with fail
  refine (HCt.out w1 HB1w.out).mono ?_
  rintro e w2 ⟨rfl, hb2⟩
  have HB2 := Lib.hid (HB1.out.trans (hb2.mono HB1.out.size))
  have HB2w := Lib.hid (HB1w.out.trans (hb2.mono HB1w.out.size))
  clear hb2 HCt c0 c1
  obtain ⟨c0, c1⟩ := HCl.out w2 HB2.out
  by_cases h1 : ¬ et = 0
  · have g1 : ((et : Int) != 0) = true := bne_t (by omega)
    have HE2 : Hid (R = et) := by show _ = _; rw [HE.out, if_neg (by omega), if_pos h1]
    clear h0 h1 HE
    go_wp2
    go_ret
    exact ⟨by rw [HE2.out]; rfl, HB2w.out⟩
  replace h1 : et = 0 := Classical.not_not.1 h1
  have g1 : ((et : Int) != 0) = false := bne_f (by omega)
  have HTt2 := Lib.hid (HTt.out h1)
  have HE2 : Hid (R = V.first (t.map (Rz.colErr s))) := by show _ = _; rw [HE.out, if_neg (by omega), if_neg (by omega)]
  clear HTt HE h0 h1
  go_wp2_with fail
  go_loopw [23] (fun v23 wr => ∃ j : Nat, j ≤ t.length ∧ v23 = .int .i64 j ∧ Hid (Below w2.heap.size w2 wr ∧ ∀ m (h : m < t.length), m < j → Rz.colErr s t[m] = 0)) (fun v23 _ => t.length - (intOf v23).toNat)
  case atStart => exact ⟨0, by omega, rfl, Below.refl _ _, fun m _ h => by omega⟩
  case round =>
    obtain ⟨j, hj, rfl, HL⟩ := hrel
    have HBr : Hid (Below w.heap.size w wr) := HB2w.out.trans (HL.out.1.mono HB2w.out.size)
    have HBr0 : Hid (Below W0.heap.size W0 wr) := HB2.out.trans (HL.out.1.mono HB2.out.size)
    by_cases hlt : j < t.length
    · obtain ⟨bx, ox, k, tp, tn, tc, vk, vi, vb, vt, vp, vn, vc, rfl, _, h9, hT, hV⟩ := (HY.out.on HBr.out).at j hlt
      obtain ⟨a0, a1, a2, a3, a4, a5, a6, a7, a8⟩ := h9
      have hj1 : (j : Int) < (t.length : Int) := by omega
      obtain ⟨wa, hwa⟩ : ∃ W, W = wr.alloc (.cells #[.string t[j].name, .int .i64 k, .slice tp tn tc, .bool t[j].has, .int .i64 vk, .int .i64 vi, .float .f64 vb, .string vt, .slice vp vn vc] 44) := ⟨_, rfl⟩
      have hba : Below wr.heap.size wr wa := by rw [hwa]; exact (Below.refl _ _).alloc (Nat.le_refl _) _
      have HBa := Lib.hid (HBr.out.trans (hba.mono HBr.out.size))
      have HBa2 := Lib.hid (HL.out.1.trans (hba.mono HL.out.1.size))
      have HC : Hid (Calls Tryz.prog 23 #[.agg #[.slice p s.length cp], .agg #[.string t[j].name, .int .i64 k, .slice tp tn tc, .bool t[j].has, .int .i64 vk, .int .i64 vi, .float .f64 vb, .string vt, .slice vp vn vc]] wa fun e w' => e = .returned (.int .i64 (Rz.colErr s t[j] : Nat)) ∧ Below wa.heap.size wa w') :=
        checkColumnK9 s p cp t[j] _ wa hs (HX.out.on HBa.out) ⟨k, tp, tn, tc, vk, vi, vb, vt, vp, vn, vc, rfl, hT.on hba, hV.on hba⟩ HTs2.out (HTt2.out _ (List.getElem_mem hlt))
      have HC0 : Hid (∀ w', Below wr.heap.size wr w' → w'.cell? ⟨w.heap.size, 0, none⟩ = some (.slice p s.length cp)) := fun w' hb => (HCl.out w' (HBr0.out.trans (hb.mono HBr0.out.size))).1
      have cc := HC0.out wr (Below.refl _ _)
      have cca := fun o => HC0.out (wr.alloc o) ((Below.refl _ _).alloc (Nat.le_refl _) o)
      have HWa := Lib.hid hwa
      obtain ⟨er, her⟩ : ∃ er, er = Rz.colErr s t[j] := ⟨_, rfl⟩
      rw [← her] at HC
      have HEr := Lib.hid her
      generalize t[j].name = nm at *
      generalize t[j].has = hh at *
      clear hwa hba hT hV her HC0
      go_wp2_with fail
      rw [← HWa.out]
      clear HWa cc cca a0 a1 a2 a3 a4 a5 a6 a7 a8
      refine HC.out.mono ?_
      rintro e w4 ⟨rfl, hb4⟩
      have HB4 := Lib.hid (HBa.out.trans (hb4.mono HBa.out.size))
      have HB42 := Lib.hid (HBa2.out.trans (hb4.mono HBa2.out.size))
      clear hb4 HC
      by_cases hz : er = 0
      · have gz : ((er : Int) != 0) = false := bne_f (by omega)
        have HN : Hid (Below w2.heap.size w2 w4 ∧ ∀ m (h : m < t.length), m < j + 1 → Rz.colErr s t[m] = 0) := by
          refine ⟨HB42.out, fun m h1 h2 => ?_⟩
          by_cases hmj : m = j
          · subst hmj
            rw [← HEr.out]
            exact hz
          · exact HL.out.2 m h1 (by omega)
        clear hz
        go_wp2
        go_roundw
        case rel => exact ⟨j + 1, by omega, by go_num, HN⟩
        case measure => simp [intOf]; omega
      · have gz : ((er : Int) != 0) = true := bne_t (by omega)
        have HF : Hid (R = er) := by
          show _ = _
          rw [HE2.out, Rz.first_at (Rz.colErr s) t j hlt (fun m h1 h2 => HL.out.2 m h1 h2) (by rw [← HEr.out]; exact hz), HEr.out]
        clear hz
        go_wp2
        go_ret
        exact ⟨by rw [HF.out]; rfl, HB4.out⟩
    · have hjn : ¬ (j : Int) < (t.length : Int) := by omega
      have HF : Hid (R = 0) := by
        show _ = _
        rw [HE2.out]
        refine Rz.first_all _ _ fun c hc => ?_
        obtain ⟨m, hm, rfl⟩ := List.mem_iff_getElem.1 hc
        exact HL.out.2 m hm (by omega)
      clear hlt
      go_wp2
      go_ret
      exact ⟨by rw [HF.out]; rfl, HBr.out⟩

theorem colsErr_drop9 (s : List Col) (vs : List V) (j : Nat) (h1 : j < s.length) (h2 : j < vs.length) : Rw.colsErr (s.drop j) (vs.drop j) = if Rw.vErr s[j].ty vs[j] = 0 then Rw.colsErr (s.drop (j + 1)) (vs.drop (j + 1)) else Rw.vErr s[j].ty vs[j] := by
  rw [List.drop_eq_getElem_cons h1, List.drop_eq_getElem_cons h2, Rw.colsErr]

set_option maxRecDepth 100000 in
set_option maxHeartbeats 2000000 in
theorem checkRowK9 (s : List Col) (vs : List V) (p q : Option Addr) (cp cq : Nat) (w : World) (hs : s.length * 120 ≤ 140737488351232) (hx : Cols w p s) (hy : Items w q vs) :
    Calls Tryz.prog 10 #[.agg #[.slice p s.length cp], .agg #[.slice q vs.length cq]] w fun e w' => e = .returned (.int .i64 (Rz.given s vs : Nat)) ∧ Below w.heap.size w w' := by
  obtain ⟨W0, hW0⟩ : ∃ W0, W0 = (w.alloc (.cells #[.slice p s.length cp] 24)).alloc (.cells #[.slice q vs.length cq] 27) := ⟨_, rfl⟩
  obtain ⟨l0, l1, lb, ls⟩ := al2 w (.cells #[.slice p s.length cp] 24) (.cells #[.slice q vs.length cq] 27)
  rw [← hW0] at l0 l1 lb ls
  have HW0 := Lib.hid hW0
  have HB0 := Lib.hid lb
  have HCl : Hid (∀ w', Below W0.heap.size W0 w' → w'.cell? ⟨w.heap.size, 0, none⟩ = some (.slice p s.length cp) ∧ w'.cell? ⟨w.heap.size + 1, 0, none⟩ = some (.slice q vs.length cq)) := fun w' h => ⟨blk_at l0 h 0, blk_at l1 h 0⟩
  have HE : Hid (Rz.given s vs = if vs.length ≠ s.length then 80 else Rw.colsErr s vs) := rfl
  obtain ⟨R, hR⟩ : ∃ R, R = Rz.given s vs := ⟨_, rfl⟩
  rw [← hR] at HE ⊢
  have HX := Lib.hid hx
  have HY := Lib.hid hy
  obtain ⟨c0, c1⟩ := HCl.out W0 (Below.refl _ _)
  clear hR hW0 l0 l1 lb ls hx hy
  by_cases hl : ¬ vs.length = s.length
  · have gl : ((vs.length : Int) != (s.length : Int)) = true := bne_t (by omega)
    have HE2 : Hid (R = 80) := by show _ = _; rw [HE.out, if_pos hl]
    clear hl HE
    go_enter Tryz.func10, Tryz.ntmps10
    go_wp2
    rw [← HW0.out]
    go_ret
    exact ⟨by rw [HE2.out]; rfl, HB0.out⟩
  replace hl : vs.length = s.length := Classical.not_not.1 hl
  have gl : ((vs.length : Int) != (s.length : Int)) = false := bne_f (by omega)
  have HE2 : Hid (R = Rw.colsErr (s.drop 0) (vs.drop 0)) := by show _ = _; rw [HE.out, if_neg (by simpa using hl)]; rfl
  have HLn := Lib.hid hl
  clear hl HE
  go_enter Tryz.func10, Tryz.ntmps10
  go_wp2_with fail
  rw [← HW0.out]
  clear HW0 c0 c1
  go_loopw [18] (fun v18 wr => ∃ j : Nat, j ≤ s.length ∧ v18 = .int .i64 j ∧ Hid (Below W0.heap.size W0 wr ∧ R = Rw.colsErr (s.drop j) (vs.drop j))) (fun v18 _ => s.length - (intOf v18).toNat)
  case atStart => exact ⟨0, by omega, rfl, Below.refl _ _, HE2.out⟩
  case round =>
    obtain ⟨j, hj, rfl, HL⟩ := hrel
    have HBr : Hid (Below w.heap.size w wr) := HB0.out.trans (HL.out.1.mono HB0.out.size)
    by_cases hlt : j < s.length
    · obtain ⟨bx, ox, k, tp, tn, tc, vk, vi, vb, vt, vp, vn, vc, rfl, _, h9, hT, -⟩ := (HX.out.on HBr.out).at j hlt
      obtain ⟨a0, a1, a2, a3, a4, a5, a6, a7, a8⟩ := h9
      have hlv : j < vs.length := by have := HLn.out; omega
      obtain ⟨uv, hv1, hv2⟩ := HY.out j hlv
      obtain ⟨by', oy, ky, iy, fy, ty, qy, ny, cy, rfl, _, rfl, b0, b1, b2, b3, b4⟩ := (hv2.on HBr.out).lies
      have hj1 : (j : Int) < (s.length : Int) := by omega
      have hj2 : (j : Int) < (vs.length : Int) := by omega
      obtain ⟨wa, hwa⟩ : ∃ W, W = wr.alloc (.cells #[.string s[j].name, .int .i64 k, .slice tp tn tc, .bool s[j].has, .int .i64 vk, .int .i64 vi, .float .f64 vb, .string vt, .slice vp vn vc] 44) := ⟨_, rfl⟩
      have hba : Below wr.heap.size wr wa := by rw [hwa]; exact (Below.refl _ _).alloc (Nat.le_refl _) _
      have hblk : wa.heap[wr.heap.size]? = some (.cells #[.string s[j].name, .int .i64 k, .slice tp tn tc, .bool s[j].has, .int .i64 vk, .int .i64 vi, .float .f64 vb, .string vt, .slice vp vn vc] 44 (0, 0)) := by rw [hwa]; exact blk_new wr _
      have HBa := Lib.hid (HBr.out.trans (hba.mono HBr.out.size))
      have HBa2 := Lib.hid (HL.out.1.trans (hba.mono HL.out.1.size))
      have HC : Hid (∀ w', Below wa.heap.size wa w' → Calls Tryz.prog 24 #[.agg #[.int .i64 k, .slice tp tn tc], .agg #[.int .i64 ky, .int .i64 iy, .float .f64 fy, .string ty, .slice qy ny cy]] w' fun e w'' => e = .returned (.int .i64 (Rw.vErr s[j].ty vs[j] : Nat)) ∧ Below w'.heap.size w' w'') := fun w' hb =>
        checkValueK s[j].ty vs[j] w' _ _ ((hT.on hba).on hb) ((hv1.on HBa.out).on hb)
      have d0 : wa.cell? ⟨w.heap.size + 1, 0, none⟩ = some (.slice (some ⟨by', oy, none⟩) vs.length cq) := (HCl.out wa HBa2.out).2
      have d1 : wa.cell? ⟨wr.heap.size, 1, none⟩ = some (.int .i64 k) := blk_cell hblk 1
      have d2 : wa.cell? ⟨wr.heap.size, 2, none⟩ = some (.slice tp tn tc) := blk_cell hblk 2
      have d3 := cell_on hba b0
      have d4 := cell_on hba b1
      have d5 := cell_on hba b2
      have d6 := cell_on hba b3
      have d7 := cell_on hba b4
      have HWa := Lib.hid hwa
      have HDr := Lib.hid (colsErr_drop9 s vs j hlt hlv)
      obtain ⟨er, her⟩ : ∃ er, er = Rw.vErr s[j].ty vs[j] := ⟨_, rfl⟩
      rw [← her] at HC HDr
      generalize s[j].name = nm at *
      generalize s[j].has = hh at *
      clear hwa hba hblk hT her hv1 hv2 b0 b1 b2 b3 b4
      go_wp2_with fail
      rw [← HWa.out]
      clear HWa a0 a1 a2 a3 a4 a5 a6 a7 a8
      go_region_held3 (fun w' => w'.cell? ⟨w.heap.size + 1, 0, none⟩ = some (.slice (some ⟨by', oy, none⟩) vs.length cq) ∧ w'.cell? ⟨wr.heap.size, 1, none⟩ = some (.int .i64 k) ∧ w'.cell? ⟨wr.heap.size, 2, none⟩ = some (.slice tp tn tc) ∧ w'.cell? ⟨by', oy + j * 5, none⟩ = some (.int .i64 ky) ∧ w'.cell? ⟨by', oy + j * 5 + 1, none⟩ = some (.int .i64 iy) ∧ w'.cell? ⟨by', oy + j * 5 + 2, none⟩ = some (.float .f64 fy) ∧ w'.cell? ⟨by', oy + j * 5 + 3, none⟩ = some (.string ty) ∧ w'.cell? ⟨by', oy + j * 5 + 4, none⟩ = some (.slice qy ny cy)) (go_keep) (first
        | (go_at_call 24; refine (HC.out _ (below_drewN (Below.refl _ _) _)).mono ?_; rintro e w4 ⟨rfl, hb4⟩; have hb5 := below_via (w := wa) hb4 (by rfl) (by rfl) (by rfl) (by rfl); have z0 := cell_on hb5 d0; have z1 := cell_on hb5 d1; have z2 := cell_on hb5 d2; have z3 := cell_on hb5 d3; have z4 := cell_on hb5 d4; have z5 := cell_on hb5 d5; have z6 := cell_on hb5 d6; have z7 := cell_on hb5 d7; have HB4 := Lib.hid (HBa.out.trans (hb5.mono HBa.out.size)); have HB42 := Lib.hid (HBa2.out.trans (hb5.mono HBa2.out.size)); clear hb4 hb5))
      clear z0 z1 z2 z3 z4 z5 z6 z7 d0 d1 d2 d3 d4 d5 d6 d7 HC
      by_cases hz : er = 0
      · have gz : ((er : Int) != 0) = false := bne_f (by omega)
        have HN : Hid (Below W0.heap.size W0 w4 ∧ R = Rw.colsErr (s.drop (j + 1)) (vs.drop (j + 1))) := ⟨HB42.out, by rw [HL.out.2, HDr.out, if_pos hz]⟩
        clear hz
        go_wp2
        go_roundw
        case rel => exact ⟨j + 1, by omega, by go_num, HN⟩
        case measure => simp [intOf]; omega
      · have gz : ((er : Int) != 0) = true := bne_t (by omega)
        have HF : Hid (R = er) := by show _ = _; rw [HL.out.2, HDr.out, if_neg hz]
        clear hz
        go_wp2
        go_ret
        exact ⟨by rw [HF.out]; rfl, HB4.out⟩
    · have hjn : ¬ (j : Int) < (s.length : Int) := by omega
      have HF : Hid (R = 0) := by
        show _ = _
        rw [HL.out.2, List.drop_eq_nil_of_le (by omega)]
        rfl
      clear hlt
      go_wp2
      go_ret
      exact ⟨by rw [HF.out]; rfl, HBr.out⟩
end Go.Proofs.YtdahackmmhcjoaaGreat
