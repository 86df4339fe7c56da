/- WRead9: put together. -/
import Derived.Test.YtdahackmmhcjoaaGreatM19
import Derived.Test.YtdahackmmhcjoaaGreatM13

/- The document's read. -/
namespace Go.Proofs.YtdahackmmhcjoaaGreat
open Go.RowKit

attribute [local go_sem] run_store_float

/-- a value that holds one, in a block of its own -/
theorem vown_one {w : World} {F G : Nat → Prop} {k i : Int} {b : Nat} {t : ByteArray} {g : Nat} {u : Array Value} {x : V} {T : TypeId} (hg : w.heap[g]? = some (.cells u T (0, 0))) (h : VOwn w F u x) (hF : ∀ k, F k → G k) (hgF : ¬ F g) (hGg : G g) : VOwn w G (cells5 k i b t (some ⟨g, 0, none⟩) 1 1) (.mk k i b t [x]) := by
  have h0 : ∀ j, j < [x].length → j = 0 := fun j hj => by simpa using hj
  refine VOwn.some (xs := [x]) (fun _ => u) (fun _ => F) (by simp) (by simp) (fun _ _ => h.five) ⟨blk_lt hg, fun j hj m hm => ?_⟩ (fun j hj m hm => ?_) hGg (fun _ _ => hgF) (fun j n hj hn hne => ?_) (fun _ _ k hk => hF k hk) (fun j hj => ?_)
  · rw [h0 j hj, Nat.zero_mul, Nat.add_zero, Nat.zero_add]; exact blk_cell hg m
  · rw [h0 j hj]; exact blk_free hg _
  · rw [h0 j hj, h0 n hn] at hne; exact absurd rfl hne
  · have e0 := h0 j hj
    subst e0
    exact h

/-- a list, or an opt, of what was read -/
def lisR (k : Int) (l : Except Nat (List V)) : Except Nat V := match l with
  | .error e => .error e
  | .ok l => .ok (.mk k 0 0 ⟨#[]⟩ l)
/-- made an opt -/
def optR (r : Except Nat V) : Except Nat V := match r with
  | .error e => .error e
  | .ok z => .ok (.mk 6 0 0 ⟨#[]⟩ [z])

set_option maxRecDepth 100000 in
set_option maxHeartbeats 4000000 in
theorem refRead9 : ∀ (d : Nat) (v : V) (a b : Ty) (da db dv : Nat) (w : World) (ua ub uv : Array Value), Ty.check da a = 0 → Ty.check db b = 0 → chk dv v = 0 → Sch.of v a = true → v.wf → 9 ≤ d + da + db → Rz.can d a b = true → TLies w ua a → TLies w ub b → VLies w uv v → Calls Tryz.prog 16 #[.agg uv, .agg ua, .agg ub] w (ValR w (Rz.read d v a b)) := by
  intro d
  induction d with
  | zero =>
    rintro v ⟨ka, xa⟩ ⟨kb, xb⟩ da db dv w ua ub uv ha hb - - - hd
    have := (Sch.ty_open ha).1
    have := (Sch.ty_open hb).1
    omega
  | succ d ih =>
    rintro ⟨kv, iv, bv, tv, vs⟩ ⟨ka, xa⟩ ⟨kb, xb⟩ da db dv w ua ub uv ha hb hc ho hw hd hcan hua hub huv
    obtain ⟨p, ca, rfl, -, hpc, hpi⟩ := hua.open
    obtain ⟨q, cb, rfl, -, hqc, hqi⟩ := hub.open
    obtain ⟨pv, cv, rfl, hvl, hvc, hvi⟩ := huv.open
    obtain ⟨a4, ak, ax⟩ := Sch.ty_open ha
    obtain ⟨b4, bk, bx⟩ := Sch.ty_open hb
    obtain ⟨hj, hi⟩ := Rz.of_open ho
    have hj' : kv = ka := hj
    subst hj'
    obtain ⟨-, hown, htx, hn, hutf, hcx⟩ := Sch.chk_open hc
    obtain ⟨-, -, -, -, -, -, o7⟩ := Sch.own_open hown
    have hwx := (V.wf_mk.1 hw).2.2.2.2
    have HCk := Lib.hid hc
    have HOf := Lib.hid ho
    have HWf := Lib.hid hw
    have HUA := Lib.hid hua
    have HUB := Lib.hid hub
    have HUV := Lib.hid huv
    have HA := Lib.hid ha
    have HBb := Lib.hid hb
    have HIH := Lib.hid ih
    have HVI : Hid (Items w pv vs) := hvi
    have HCn := Lib.hid hcan
    have HCc := Lib.hid (Rz.can_succ d (.mk kv xa) (.mk kb xb))
    rw [HCn.out] at HCc
    have HRs := Lib.hid (Rz.read_succ d (.mk kv iv bv tv vs) (.mk kv xa) (.mk kb xb))
    unfold cells2 at HUA HUB ⊢
    unfold cells5 at HUV ⊢
    obtain ⟨na, hna⟩ : ∃ n, n = xa.length := ⟨_, rfl⟩
    obtain ⟨nb, hnb⟩ : ∃ n, n = xb.length := ⟨_, rfl⟩
    obtain ⟨nv, hnv⟩ : ∃ n, n = vs.length := ⟨_, rfl⟩
    rw [← hna] at HUA ⊢
    rw [← hnb] at HUB ⊢
    rw [← hnv] at HUV hn hvl hvc ⊢
    obtain ⟨r, hr⟩ : ∃ r, r = Rz.read (d + 1) (.mk kv iv bv tv vs) (.mk kv xa) (.mk kb xb) := ⟨_, rfl⟩
    rw [← hr] at HRs ⊢
    obtain ⟨W0, hW0⟩ : ∃ W0, W0 = (((w.alloc (.cells #[.int .i64 kv, .int .i64 iv, .float .f64 bv, .string tv, .slice pv nv cv] 35)).alloc (.cells #[.int .i64 kv, .slice p na ca] 42)).alloc (.cells #[.int .i64 kb, .slice q nb cb] 42)).alloc (.cells #[.int .i64 0, .int .i64 0, .float .f64 0, .string ⟨#[]⟩, .slice none 0 0] 35) := ⟨_, rfl⟩
    obtain ⟨l0, l1, l2, l3, lb, ls⟩ := al4 w (.cells #[.int .i64 kv, .int .i64 iv, .float .f64 bv, .string tv, .slice pv nv cv] 35) (.cells #[.int .i64 kv, .slice p na ca] 42) (.cells #[.int .i64 kb, .slice q nb cb] 42) (.cells #[.int .i64 0, .int .i64 0, .float .f64 0, .string ⟨#[]⟩, .slice none 0 0] 35)
    rw [← hW0] at l0 l1 l2 l3 lb ls
    have HW0 := Lib.hid hW0
    have HB0 := Lib.hid lb
    have HS0 := Lib.hid ls
    have HCl : Hid (∀ w', Below W0.heap.size W0 w' → (w'.cell? ⟨w.heap.size, 0, none⟩ = some (.int .i64 kv) ∧ w'.cell? ⟨w.heap.size, 1, none⟩ = some (.int .i64 iv) ∧ w'.cell? ⟨w.heap.size, 2, none⟩ = some (.float .f64 bv) ∧ w'.cell? ⟨w.heap.size, 3, none⟩ = some (.string tv) ∧ w'.cell? ⟨w.heap.size, 4, none⟩ = some (.slice pv nv cv)) ∧ (w'.cell? ⟨w.heap.size + 1, 0, none⟩ = some (.int .i64 kv) ∧ w'.cell? ⟨w.heap.size + 1, 1, none⟩ = some (.slice p na ca)) ∧ (w'.cell? ⟨w.heap.size + 1 + 1, 0, none⟩ = some (.int .i64 kb) ∧ w'.cell? ⟨w.heap.size + 1 + 1, 1, none⟩ = some (.slice q nb cb))) := fun w' h => ⟨⟨blk_at l0 h 0, blk_at l0 h 1, blk_at l0 h 2, blk_at l0 h 3, blk_at l0 h 4⟩, ⟨blk_at l1 h 0, blk_at l1 h 1⟩, ⟨blk_at l2 h 0, blk_at l2 h 1⟩⟩
    have HT6 : Hid (∀ w', Below W0.heap.size W0 w' → w'.heap[w.heap.size + 1 + 1 + 1]? = some (.cells #[.int .i64 0, .int .i64 0, .float .f64 0, .string ⟨#[]⟩, .slice none 0 0] 35 (0, 0))) := fun w' h => (h.block _ (blk_lt l3)).trans l3
    obtain ⟨⟨c4, c5, c6, c7, c8⟩, ⟨c0, c1⟩, ⟨c2, c3⟩⟩ := HCl.out W0 (Below.refl _ _)
    have HClo := fun o => HCl.out (W0.alloc o) ((Below.refl _ _).alloc (Nat.le_refl _) o)
    have c4a := fun o => (HClo o).1.1
    have c5a := fun o => (HClo o).1.2.1
    have c6a := fun o => (HClo o).1.2.2.1
    have c7a := fun o => (HClo o).1.2.2.2.1
    have c8a := fun o => (HClo o).1.2.2.2.2
    have c0a := fun o => (HClo o).2.1.1
    have c1a := fun o => (HClo o).2.1.2
    have c3a := fun o => (HClo o).2.2.2
    clear hua hub huv ha hb hr hW0 l0 l1 l2 l3 lb ls ih hvi hcan hc ho hw hj HClo
    by_cases h1 : kb = 6 ∧ kv ≠ 6
    · obtain ⟨hB, hk6⟩ := h1
      rcases bx with ⟨h, -⟩ | ⟨-, y, rfl, hy⟩
      · omega
      have hnb1 : nb = 1 := hnb
      clear hnb
      subst hnb1 hB
      have gk := bne_t hk6
      obtain ⟨r1, hr1⟩ : ∃ r1, r1 = Rz.read d (.mk kv iv bv tv vs) (.mk kv xa) y := ⟨_, rfl⟩
      have HRr : Hid (r = optR r1) := by
        show _ = _
        rw [HRs.out, if_pos ⟨rfl, hk6⟩, hr1]
        rfl
      have hcn : Rz.can d (.mk kv xa) y = true := by
        rw [HCc.out, if_pos rfl, if_neg (by exact hk6)]
        rfl
      have HNe : Hid (∀ e, r1 = .error e → e ≠ 0) := fun e he => by
        have := Rz.read_good d (.mk kv iv bv tv vs) (.mk kv xa) y da (db + 1) dv HA.out hy HCk.out HOf.out HWf.out (by omega) hcn
        rw [← hr1, he] at this
        exact this
      obtain ⟨uy, huy, hiy⟩ := hqi 0 (by simp)
      have HD : Hid (∀ w', Below w.heap.size w w' → Calls Tryz.prog 16 #[.agg #[.int .i64 kv, .int .i64 iv, .float .f64 bv, .string tv, .slice pv nv cv], .agg #[.int .i64 kv, .slice p na ca], .agg uy] w' (ValR w' r1)) := fun w' hb' => by
        rw [hr1]
        exact HIH.out _ (.mk kv xa) y da (db + 1) dv w' _ _ _ HA.out hy HCk.out HOf.out HWf.out (by omega) hcn (HUA.out.on hb') (huy.on hb') (HUV.out.on hb')
      obtain ⟨by', oy, ky, qy, ny, cy, rfl, _, rfl, y0, y1⟩ := (hiy.on HB0.out).lies
      rw [Nat.zero_mul, Nat.add_zero] at y0 y1
      have y0a := fun o => cell_on (w := W0) (w' := W0.alloc o) ((Below.refl _ _).alloc (Nat.le_refl _) o) y0
      have y1a := fun o => cell_on (w := W0) (w' := W0.alloc o) ((Below.refl _ _).alloc (Nat.le_refl _) o) y1
      have HBa : Hid (Below W0.heap.size W0 W0) := Below.refl _ _
      have HD2 : Hid (∀ w', Below W0.heap.size W0 w' → Calls Tryz.prog 16 #[.agg #[.int .i64 kv, .int .i64 iv, .float .f64 bv, .string tv, .slice pv nv cv], .agg #[.int .i64 kv, .slice p na ca], .agg #[.int .i64 ky, .slice qy ny cy]] w' (ValR w' r1)) := fun w' hb' => HD.out w' (HB0.out.trans (hb'.mono HB0.out.size))
      clear hpi hqi huy hiy HRs HCc HCn hcn HIH hk6 hna hnv hr1 HD
      go_enter Tryz.func16, Tryz.ntmps16
      go_wp2_with fail
      rw [← HW0.out]
      clear HW0
      go_cut [8, 9] from 20 (fun v8 v9 wx => ∃ (gb : Nat) (er : Int), v8 = .pointer (some ⟨gb, 0, none⟩) ∧ v9 = .int .i64 er ∧ Hid (Told5 W0 wx gb er r1))
      case first =>
        go_region_law (first
          | (refine step_call3g (.tmp 21) (.tmp 22) (.tmp 26) 35 42 42 (by rfl) (by rfl) (by rfl) (by rfl) (by rfl) Tryz.func16 (by kernel_rfl) (by rfl) (HD2.out _ HBa.out.drew) ?_
             intro e w2 hh
             obtain ⟨k5, i5, b5, t5, p5, n5, c5', er, he, hb2, hv2⟩ := hh.any
             unfold cells5 at he
             refine ⟨_, he, ?_⟩
             have HTd : Hid (Told5 W0 (w2.alloc (.cells #[.int .i64 k5, .int .i64 i5, .float .f64 b5, .string t5, .slice p5 n5 c5'] 35)) w2.heap.size er r1) := told5_new HBa.out hb2 hv2
             clear he hh hb2 hv2)
          | (refine step_call3g (.tmp 21) (.tmp 22) (.tmp 26) 35 42 42 (by rfl) (by rfl) (by rfl) (by rfl) (by rfl) Tryz.func16 (by kernel_rfl) (by rfl) (HD2.out _ (by first | exact (HBa.out.alloc HBa.out.size _).drew | exact HBa.out.drew.alloc HBa.out.size _)) ?_
             intro e w2 hh
             obtain ⟨k5, i5, b5, t5, p5, n5, c5', er, he, hb2, hv2⟩ := hh.any
             unfold cells5 at he
             refine ⟨_, he, ?_⟩
             have hbk : w2.heap[W0.heap.size]? = some (.cells #[.int .i64 0, .int .i64 0, .float .f64 0, .string ⟨#[]⟩, .slice none 0 0] 35 (0, 0)) := (hb2.block _ (blk_lt (blk_new W0 _))).trans (blk_new W0 _)
             have v0 : w2.cell? ⟨W0.heap.size, 0, none⟩ = some (.int .i64 0) := blk_cell hbk 0
             have v1 : w2.cell? ⟨W0.heap.size, 1, none⟩ = some (.int .i64 0) := blk_cell hbk 1
             have v2 : w2.cell? ⟨W0.heap.size, 2, none⟩ = some (.float .f64 0) := blk_cell hbk 2
             have v3 : w2.cell? ⟨W0.heap.size, 3, none⟩ = some (.string ⟨#[]⟩) := blk_cell hbk 3
             have v4 : w2.cell? ⟨W0.heap.size, 4, none⟩ = some (.slice none 0 0) := blk_cell hbk 4
             have z0 := blk_free hbk 0
             have z1 := blk_free hbk 1
             have z2 := blk_free hbk 2
             have z3 := blk_free hbk 3
             have z4 := blk_free hbk 4
             have hT := told5_old HBa.out hbk hb2 hv2
             unfold put5 at hT
             have HTd := Lib.hid hT
             clear he hh hb2 hv2 hbk hT)
          | fail)
        all_goals (try go_wp2_with fail)
        all_goals go_meet
        all_goals exact ⟨_, _, rfl, rfl, HTd⟩
      case rest =>
        obtain ⟨gb, er, rfl, rfl, HTd⟩ := hcut
        have HB3 := Lib.hid HTd.out.below
        have HB3w := Lib.hid (HB0.out.trans (HB3.out.mono HB0.out.size))
        have d6 := HT6.out wc HB3.out
        have e0 : wc.cell? ⟨w.heap.size + 1 + 1 + 1, 0, none⟩ = some (.int .i64 0) := blk_cell d6 0
        have e1 : wc.cell? ⟨w.heap.size + 1 + 1 + 1, 1, none⟩ = some (.int .i64 0) := blk_cell d6 1
        have e2 : wc.cell? ⟨w.heap.size + 1 + 1 + 1, 2, none⟩ = some (.float .f64 0) := blk_cell d6 2
        have e3 : wc.cell? ⟨w.heap.size + 1 + 1 + 1, 3, none⟩ = some (.string ⟨#[]⟩) := blk_cell d6 3
        have e4 : wc.cell? ⟨w.heap.size + 1 + 1 + 1, 4, none⟩ = some (.slice none 0 0) := blk_cell d6 4
        have g0 := blk_free d6 0
        have g1 := blk_free d6 1
        have g2 := blk_free d6 2
        have g3 := blk_free d6 3
        have g4 := blk_free d6 4
        have HD6 := Lib.hid d6
        clear d6 HD2 c0 c1 c2 c3 c4 c5 c6 c7 c8 c0a c1a c3a c4a c5a c6a c7a c8a y0 y1 y0a y1a
        cases r1 with
        | error er' =>
          have hz : er' ≠ 0 := HNe.out er' rfl
          have hee : er = (er' : Nat) := HTd.out.told
          subst hee
          have hzb : ((er' : Int) != 0) = true := bne_t (by omega)
          have HRe : Hid (r = .error er') := HRr.out
          clear hz HRr
          go_wp2
          refine end5 rfl rfl rfl rfl (put5_block HD6.out) rfl ?_
          rw [HRe.out]
          exact valR_err HB3w.out (by omega)
        | ok x9 =>
          obtain ⟨hee, k5, i5, b5, t5, p5, n5, c5', hk3, hv3⟩ := HTd.out.told
          subst hee
          have HRe : Hid (r = .ok (.mk 6 0 0 ⟨#[]⟩ [x9])) := HRr.out
          have f0 := blk_cell hk3 0
          have f1 := blk_cell hk3 1
          have f2 := blk_cell hk3 2
          have f3 := blk_cell hk3 3
          have f4 := blk_cell hk3 4
          obtain ⟨W4, hW4⟩ : ∃ W, W = wc.alloc (.cells #[.int .i64 k5, .int .i64 i5, .float .f64 b5, .string t5, .slice p5 n5 c5'] 35) := ⟨_, rfl⟩
          have h34 : Below wc.heap.size wc W4 := by rw [hW4]; exact (Below.refl _ _).alloc (Nat.le_refl _) _
          have hk4 : W4.heap[wc.heap.size]? = some (.cells (cells5 k5 i5 b5 t5 p5 n5 c5') 35 (0, 0)) := by rw [hW4]; exact blk_new wc _
          have hs4 : W4.heap.size = wc.heap.size + 1 := by rw [hW4]; simp
          have hs3 := HB3.out.size
          have HV4 : Hid (VOwn W4 (fun j => W0.heap.size ≤ j ∧ j < W4.heap.size) (cells5 6 0 0 ⟨#[]⟩ (some ⟨wc.heap.size, 0, none⟩) 1 1) (.mk 6 0 0 ⟨#[]⟩ [x9])) :=
            vown_one hk4 (hv3.under h34 (fun k hk => hk.2)) (fun k hk => ⟨hk.1, by omega⟩) (fun hc => by omega) ⟨by omega, by omega⟩
          have HB4 := Lib.hid (HB3w.out.trans (h34.mono HB3w.out.size))
          have HK4 := Lib.hid (HT6.out W4 (HB3.out.trans (h34.mono HB3.out.size)))
          have d6 := HK4.out
          have e0' : W4.cell? ⟨w.heap.size + 1 + 1 + 1, 0, none⟩ = some (.int .i64 0) := blk_cell d6 0
          have e1' : W4.cell? ⟨w.heap.size + 1 + 1 + 1, 1, none⟩ = some (.int .i64 0) := blk_cell d6 1
          have e2' : W4.cell? ⟨w.heap.size + 1 + 1 + 1, 2, none⟩ = some (.float .f64 0) := blk_cell d6 2
          have e3' : W4.cell? ⟨w.heap.size + 1 + 1 + 1, 3, none⟩ = some (.string ⟨#[]⟩) := blk_cell d6 3
          have e4' : W4.cell? ⟨w.heap.size + 1 + 1 + 1, 4, none⟩ = some (.slice none 0 0) := blk_cell d6 4
          have q0 := blk_free d6 0
          have q1 := blk_free d6 1
          have q2 := blk_free d6 2
          have q3 := blk_free d6 3
          have q4 := blk_free d6 4
          have HW4 := Lib.hid hW4
          rw [hW4] at e0' e1' e2' e3' e4' q0 q1 q2 q3 q4
          clear hW4 h34 hk4 hs4 hk3 hv3 HRr d6 e0 e1 e2 e3 e4 g0 g1 g2 g3 g4
          go_wp2
          rw [← HW4.out]
          refine end5 rfl rfl rfl rfl (put5_block HK4.out) rfl ?_
          rw [HRe.out]
          exact valR_ok HB4.out (by omega) (by have := HS0.out; omega) HV4.out
    by_cases h2 : kv = 6 ∧ kb ≠ 6
    · obtain ⟨hC, hB⟩ := h2
      have gB := beq_f hB
      have gBn := bne_t hB
      rcases ax with ⟨h, -⟩ | ⟨-, x, rfl, hx⟩
      · omega
      have hna1 : na = 1 := hna
      clear hna
      subst hna1 hC
      have hcn : Rz.can d x (.mk kb xb) = true := by
        rw [HCc.out, if_neg hB, if_pos rfl]
        rfl
      obtain ⟨ux, hux, hix⟩ := hpi 0 (by simp)
      have HX := Lib.hid (And.intro hux hix)
      cases vs with
      | nil =>
        have HRr : Hid (r = .error 91) := by
          show _ = _
          rw [HRs.out, if_neg (by rintro ⟨h, -⟩; exact hB h), if_pos ⟨rfl, hB⟩]
        have hnv0 : nv = 0 := hnv
        clear hnv
        subst hnv0
        have d6 := HT6.out W0 (Below.refl _ _)
        have HD6 := Lib.hid d6
        clear hpi hqi hux hix HRs HCc HCn hcn HIH hB hnb HX d6
        go_enter Tryz.func16, Tryz.ntmps16
        go_wp2
        refine end5 rfl rfl rfl rfl (al4 w _ _ _ _).2.2.2.1 rfl ?_
        rw [HRr.out]
        exact ⟨rfl, (al4 w _ _ _ _).2.2.2.2.1⟩
      | cons z rs =>
        have HRr : Hid (r = Rz.read d z x (.mk kb xb)) := by
          show _ = _
          rw [HRs.out, if_neg (by rintro ⟨h, -⟩; exact hB h), if_pos ⟨rfl, hB⟩]
          rfl
        have hnv1 : nv = 1 := by
          have h2 := o7 rfl
          rw [List.length_cons] at hnv h2
          omega
        obtain ⟨uz, huz, hiz⟩ := HVI.out 0 (by simp)
        have HD : Hid (∀ w', Below w.heap.size w w' → Calls Tryz.prog 16 #[.agg uz, .agg ux, .agg #[.int .i64 kb, .slice q nb cb]] w' (ValR w' r)) := fun w' hb' => by
          rw [HRr.out]
          exact HIH.out z x (.mk kb xb) (da + 1) db (dv + 1) w' ux _ uz hx HBb.out (hcx z (by simp)) (hi z (by simp)) (hwx z (by simp)) (by omega) hcn (hux.on hb') (HUB.out.on hb') (huz.on hb')
        obtain ⟨bx, ox, kx, qx, nx, cx, rfl, _, rfl, a0, a1⟩ := (hix.on HB0.out).lies
        rw [Nat.zero_mul, Nat.add_zero] at a0 a1
        obtain ⟨bz, oz, kz, iz, fz, tz, qz, nz, cz, rfl, _, rfl, z0, z1, z2, z3, z4⟩ := (hiz.on HB0.out).lies
        rw [Nat.zero_mul, Nat.add_zero] at z0 z1 z2 z3 z4
        unfold cells2 cells5 at HD
        clear hpi hqi hux hix huz hiz HRr HRs HCc HCn hcn HIH hB hnv hnb HX
        subst hnv1
        go_enter Tryz.func16, Tryz.ntmps16
        go_wp2_with fail
        rw [← HW0.out]
        clear HW0
        go_region_law (first
          | (refine step_call3g (.tmp 53) (.tmp 57) (.tmp 58) 35 42 42 (by rfl) (by rfl) (by rfl) (by rfl) (by rfl) Tryz.func16 (by kernel_rfl) (by rfl) (HD.out _ HB0.out.drew) ?_
             intro e w2 hh
             obtain ⟨k5, i5, b5, t5, p5, n5, c5', er, he, hb2, hv2⟩ := hh.pass (w0 := w) (g := w.heap.size + 1 + 1 + 1) HB0.out.drew (by omega) (by have := HS0.out; show w.heap.size + 1 + 1 + 1 < W0.heap.size; omega)
             unfold cells5 at he
             refine ⟨_, he, ?_⟩
             have hb3 : Below W0.heap.size W0 w2 := (Below.refl _ _).drew.trans hb2
             have d6 := HT6.out w2 hb3
             have e0 : w2.cell? ⟨w.heap.size + 1 + 1 + 1, 0, none⟩ = some (.int .i64 0) := blk_cell d6 0
             have e1 : w2.cell? ⟨w.heap.size + 1 + 1 + 1, 1, none⟩ = some (.int .i64 0) := blk_cell d6 1
             have e2 : w2.cell? ⟨w.heap.size + 1 + 1 + 1, 2, none⟩ = some (.float .f64 0) := blk_cell d6 2
             have e3 : w2.cell? ⟨w.heap.size + 1 + 1 + 1, 3, none⟩ = some (.string ⟨#[]⟩) := blk_cell d6 3
             have e4 : w2.cell? ⟨w.heap.size + 1 + 1 + 1, 4, none⟩ = some (.slice none 0 0) := blk_cell d6 4
             have g0 := blk_free d6 0
             have g1 := blk_free d6 1
             have g2 := blk_free d6 2
             have g3 := blk_free d6 3
             have g4 := blk_free d6 4
             have HD6 := Lib.hid d6
             have HV2 := Lib.hid hv2
             unfold put5 at HV2
             clear he hh hb2 hb3 hv2 d6)
          | fail)
        all_goals
          go_wp2
          refine end5 rfl rfl rfl rfl (put5_block HD6.out) rfl ?_
          exact HV2.out
    by_cases h3 : kb ≠ 6 ∧ kb ≠ 7
    · have hC : ¬ kv = 6 := fun h => h2 ⟨h, h3.1⟩
      have gB := beq_f h3.1
      have gBn := bne_t h3.1
      have gB7 := bne_t h3.2
      have gC := beq_f hC
      have hpl : Rz.plain kv kb = true := by
        have h := HCc.out
        rw [if_neg (by exact h3.1), if_neg (by exact hC), if_neg (by rintro ⟨-, h7⟩; exact h3.2 h7)] at h
        exact h.symm
      have hv7 : kv ≠ 7 := by
        intro h7
        rw [h7] at hpl
        unfold Rz.plain at hpl
        simp at hpl
      have hvn := Rz.no_items HCk.out (by omega)
      subst hvn
      have hnv0 : nv = 0 := hnv
      clear hnv
      subst hnv0
      have HRr : Hid (r = Rz.scalar kb (.mk kv iv bv tv [])) := by
        show _ = _
        rw [HRs.out, if_neg (by exact h1), if_neg (by exact h2), if_pos (by exact h3)]
      have HD : Hid (∀ w', Calls Tryz.prog 33 #[.agg #[.int .i64 kv, .int .i64 iv, .float .f64 bv, .string tv, .slice pv 0 cv], .int .i64 kb] w' (ValR w' r)) := fun w' => by
        rw [HRr.out]
        exact refScalar9 pv cv w' HCk.out hpl
      clear h1 h2 h3 hC hpl hv7 hpi hqi HRr HRs HCc HCn HIH hna hnb ax bx
      go_enter Tryz.func16, Tryz.ntmps16
      go_wp2_with fail
      rw [← HW0.out]
      clear HW0
      refine (HD.out W0).mono ?_
      intro e w2 hh
      obtain ⟨k5, i5, b5, t5, p5, n5, c5', er, he, hb2, hv2⟩ := hh.pass (w0 := w) (g := w.heap.size + 1 + 1 + 1) HB0.out (by omega) (by have := HS0.out; show w.heap.size + 1 + 1 + 1 < W0.heap.size; omega)
      unfold cells5 at he
      subst he
      have d6 := HT6.out w2 hb2
      have e0 : w2.cell? ⟨w.heap.size + 1 + 1 + 1, 0, none⟩ = some (.int .i64 0) := blk_cell d6 0
      have e1 : w2.cell? ⟨w.heap.size + 1 + 1 + 1, 1, none⟩ = some (.int .i64 0) := blk_cell d6 1
      have e2 : w2.cell? ⟨w.heap.size + 1 + 1 + 1, 2, none⟩ = some (.float .f64 0) := blk_cell d6 2
      have e3 : w2.cell? ⟨w.heap.size + 1 + 1 + 1, 3, none⟩ = some (.string ⟨#[]⟩) := blk_cell d6 3
      have e4 : w2.cell? ⟨w.heap.size + 1 + 1 + 1, 4, none⟩ = some (.slice none 0 0) := blk_cell d6 4
      have g0 := blk_free d6 0
      have g1 := blk_free d6 1
      have g2 := blk_free d6 2
      have g3 := blk_free d6 3
      have g4 := blk_free d6 4
      have HD6 := Lib.hid d6
      have HV2 := Lib.hid hv2
      unfold put5 at HV2
      clear hh hb2 hv2 d6
      go_wp2
      refine end5 rfl rfl rfl rfl (put5_block HD6.out) rfl ?_
      exact HV2.out
    -- item by item
    have hk : kv = 6 ∧ kb = 6 ∨ kv = 7 ∧ kb = 7 := by
      by_cases h6 : kb = 6
      · exact .inl ⟨Classical.not_not.1 fun h => h1 ⟨h6, h⟩, h6⟩
      · have hC : ¬ kv = 6 := fun h => h2 ⟨h, h6⟩
        have h7 : kb = 7 := Classical.not_not.1 fun h => h3 ⟨h6, h⟩
        refine .inr ⟨Classical.not_not.1 fun hv7 => ?_, h7⟩
        have h := HCc.out
        rw [if_neg (by exact h6), if_neg (by exact hC), if_neg (by rintro ⟨h7', -⟩; exact hv7 h7')] at h
        have h' : Rz.plain kv kb = true := h.symm
        rw [h7] at h'
        unfold Rz.plain at h'
        simp at h'
    rcases ax with ⟨h, -⟩ | ⟨-, x, rfl, hx⟩
    · omega
    rcases bx with ⟨h, -⟩ | ⟨-, y, rfl, hy⟩
    · omega
    have hna1 : na = 1 := hna
    have hnb1 : nb = 1 := hnb
    clear hna hnb
    subst hna1 hnb1
    obtain ⟨l1, hl1⟩ : ∃ l1, l1 = Rz.allR (fun z => Rz.read d z x y) vs := ⟨_, rfl⟩
    have HRr : Hid (r = lisR kb l1) := by
      show _ = _
      rw [HRs.out, hl1]
      rcases hk with ⟨rfl, rfl⟩ | ⟨rfl, rfl⟩ <;> rfl
    have hcn : Rz.can d x y = true := by
      rw [HCc.out]
      rcases hk with ⟨rfl, rfl⟩ | ⟨rfl, rfl⟩ <;> rfl
    obtain ⟨ux, hux, hix⟩ := hpi 0 (by simp)
    obtain ⟨uy, huy, hiy⟩ := hqi 0 (by simp)
    have HGd : Hid (∀ z ∈ vs, ∀ e, Rz.read d z x y = .error e → e ≠ 0) := fun z hz e he => by
      have := Rz.read_good d z x y (da + 1) (db + 1) (dv + 1) hx hy (hcx z hz) (hi z hz) (hwx z hz) (by omega) hcn
      rw [he] at this
      exact this
    have HNe : Hid (∀ e, l1 = .error e → e ≠ 0) := fun e he => by
      rw [hl1] at he
      obtain ⟨z, hz, hf⟩ := Rz.allR_bad vs he
      exact HGd.out z hz e hf
    have HD : Hid (∀ w', Below w.heap.size w w' → Calls Tryz.prog 34 #[.slice pv nv cv, .agg ux, .agg uy] w' (SlR w' l1)) := fun w' hb' => by
      obtain ⟨bx', ox', kx', qx', nx', cx', -, -, hue, -⟩ := hix.lies
      obtain ⟨by9, oy9, ky9, qy9, ny9, cy9, -, -, hue2, -⟩ := hiy.lies
      rw [hl1, hue, hue2, hnv]
      rw [hue] at hux
      rw [hue2] at huy
      refine refItems9 vs ky9 kx' (fun z => Rz.read d z x y) qx' nx' cx' pv cv qy9 ny9 cy9 w' HGd.out ?_ ?_ (by omega)
      · intro z hz w'' u hb'' hu
        have hb3 := hb'.trans (hb''.mono hb'.size)
        exact HIH.out z x y (da + 1) (db + 1) (dv + 1) w'' _ _ u hx hy (hcx z hz) (hi z hz) (hwx z hz) (by omega) hcn (hux.on hb3) (huy.on hb3) hu
      · intro j hj
        obtain ⟨u', h1, h2⟩ := HVI.out j hj
        exact ⟨u', h1.on hb', h2.on hb'⟩
    obtain ⟨bx, ox, kx, qx, nx, cx, rfl, _, rfl, a0, a1⟩ := (hix.on HB0.out).lies
    obtain ⟨by', oy, ky, qy, ny, cy, rfl, _, rfl, y0, y1⟩ := (hiy.on HB0.out).lies
    rw [Nat.zero_mul, Nat.add_zero] at a0 a1 y0 y1
    unfold cells2 at HD
    have HK := Lib.hid hk
    clear h1 h2 h3 hpi hqi hux huy hix hiy HRs HCc HCn hcn HIH hnv hl1 HGd hk
    rcases HK.out with ⟨rfl, rfl⟩ | ⟨rfl, rfl⟩
    all_goals
      clear HK
      go_enter Tryz.func16, Tryz.ntmps16
      go_wp2_with fail
      rw [← HW0.out]
      clear HW0
      cases l1 with
      | error er =>
        have hz : er ≠ 0 := HNe.out er rfl
        have hzb : ((er : Int) != 0) = true := bne_t (by omega)
        have HRe : Hid (r = .error er) := HRr.out
        clear hz HRr HNe
        go_region_held3 (fun w' => w'.cell? ⟨w.heap.size, 4, none⟩ = some (.slice pv nv cv) ∧ w'.cell? ⟨w.heap.size + 1, 1, none⟩ = some (.slice (some ⟨bx, ox, none⟩) 1 ca) ∧ w'.cell? ⟨w.heap.size + 1 + 1, 1, none⟩ = some (.slice (some ⟨by', oy, none⟩) 1 cb) ∧ w'.cell? ⟨bx, ox, none⟩ = some (.int .i64 kx) ∧ w'.cell? ⟨bx, ox + 1, none⟩ = some (.slice qx nx cx) ∧ w'.cell? ⟨by', oy, none⟩ = some (.int .i64 ky) ∧ w'.cell? ⟨by', oy + 1, none⟩ = some (.slice qy ny cy)) (go_keep) (first
          | (go_at_call 34; refine (HD.out _ (below_drewN HB0.out _)).mono ?_; rintro e w4 ⟨rfl, hb4⟩; have hb5 := below_via (w := W0) hb4 (by rfl) (by rfl) (by rfl) (by rfl); have z0 := cell_on hb5 c8; have z1 := cell_on hb5 c1; have z2 := cell_on hb5 c3; have z3 := cell_on hb5 a0; have z4 := cell_on hb5 a1; have z5 := cell_on hb5 y0; have z6 := cell_on hb5 y1; have HB4 := Lib.hid hb5; clear hb4 hb5))
        have d6 := HT6.out w4 HB4.out
        have e0 : w4.cell? ⟨w.heap.size + 1 + 1 + 1, 0, none⟩ = some (.int .i64 0) := blk_cell d6 0
        have e1 : w4.cell? ⟨w.heap.size + 1 + 1 + 1, 1, none⟩ = some (.int .i64 0) := blk_cell d6 1
        have e2 : w4.cell? ⟨w.heap.size + 1 + 1 + 1, 2, none⟩ = some (.float .f64 0) := blk_cell d6 2
        have e3 : w4.cell? ⟨w.heap.size + 1 + 1 + 1, 3, none⟩ = some (.string ⟨#[]⟩) := blk_cell d6 3
        have e4 : w4.cell? ⟨w.heap.size + 1 + 1 + 1, 4, none⟩ = some (.slice none 0 0) := blk_cell d6 4
        have g0 := blk_free d6 0
        have g1 := blk_free d6 1
        have g2 := blk_free d6 2
        have g3 := blk_free d6 3
        have g4 := blk_free d6 4
        have HD6 := Lib.hid d6
        have HB4w := Lib.hid (HB0.out.trans (HB4.out.mono HB0.out.size))
        clear d6 z0 z1 z2 z3 z4 z5 z6
        go_wp2
        refine end5 rfl rfl rfl rfl (put5_block HD6.out) rfl ?_
        rw [HRe.out]
        exact valR_err HB4w.out (by omega)
      | ok ys =>
        have HRe : Hid (r = .ok (.mk _ 0 0 ⟨#[]⟩ ys)) := HRr.out
        clear HRr HNe
        go_region_held3 (fun w' => w'.cell? ⟨w.heap.size, 4, none⟩ = some (.slice pv nv cv) ∧ w'.cell? ⟨w.heap.size + 1, 1, none⟩ = some (.slice (some ⟨bx, ox, none⟩) 1 ca) ∧ w'.cell? ⟨w.heap.size + 1 + 1, 1, none⟩ = some (.slice (some ⟨by', oy, none⟩) 1 cb) ∧ w'.cell? ⟨bx, ox, none⟩ = some (.int .i64 kx) ∧ w'.cell? ⟨bx, ox + 1, none⟩ = some (.slice qx nx cx) ∧ w'.cell? ⟨by', oy, none⟩ = some (.int .i64 ky) ∧ w'.cell? ⟨by', oy + 1, none⟩ = some (.slice qy ny cy)) (go_keep) (first
          | (go_at_call 34; refine (HD.out _ (below_drewN HB0.out _)).mono ?_; rintro e w4 ⟨q4, c4', rfl, hv4, hb4⟩; have hb5 := below_via (w := W0) hb4 (by rfl) (by rfl) (by rfl) (by rfl); have z0 := cell_on hb5 c8; have z1 := cell_on hb5 c1; have z2 := cell_on hb5 c3; have z3 := cell_on hb5 a0; have z4 := cell_on hb5 a1; have z5 := cell_on hb5 y0; have z6 := cell_on hb5 y1; have HV4 := Lib.hid hv4; have HB4 := Lib.hid hb5; clear hb4 hb5 hv4))
        have d6 := HT6.out w4 HB4.out
        obtain ⟨-, -, ⟨kk, -⟩⟩ := HCl.out w4 HB4.out
        have e0 : w4.cell? ⟨w.heap.size + 1 + 1 + 1, 0, none⟩ = some (.int .i64 0) := blk_cell d6 0
        have e1 : w4.cell? ⟨w.heap.size + 1 + 1 + 1, 1, none⟩ = some (.int .i64 0) := blk_cell d6 1
        have e2 : w4.cell? ⟨w.heap.size + 1 + 1 + 1, 2, none⟩ = some (.float .f64 0) := blk_cell d6 2
        have e3 : w4.cell? ⟨w.heap.size + 1 + 1 + 1, 3, none⟩ = some (.string ⟨#[]⟩) := blk_cell d6 3
        have e4 : w4.cell? ⟨w.heap.size + 1 + 1 + 1, 4, none⟩ = some (.slice none 0 0) := blk_cell d6 4
        have g0 := blk_free d6 0
        have g1 := blk_free d6 1
        have g2 := blk_free d6 2
        have g3 := blk_free d6 3
        have g4 := blk_free d6 4
        have HD6 := Lib.hid d6
        have HB4w := Lib.hid (HB0.out.trans (HB4.out.mono HB0.out.size))
        clear d6 z0 z1 z2 z3 z4 z5 z6
        go_wp2
        refine end5 rfl rfl rfl rfl (put5_block HD6.out) rfl ?_
        rw [HRe.out]
        exact valR_ok (B := W0.heap.size) HB4w.out (by omega) (by have := HS0.out; omega) (HV4.out _ 0 0 ⟨#[]⟩)
end Go.Proofs.YtdahackmmhcjoaaGreat
