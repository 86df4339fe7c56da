/- K8X, K8Y: put together. -/
import Derived.Test.YticmkgbjannkkaaM33

/- The landed row's reader: opts and lists. -/
namespace Go.Proofs.Yticmkgbjannkkaa
open Go.RowKit


attribute [local go_sem] run_store_float

theorem many_6 (l : List UInt8) : Sch.many 6 l = Sch.bit l := rfl
theorem many_7 (l : List UInt8) : Sch.many 7 l = countR 256 3 l := by
  unfold Sch.many countR
  rw [if_neg (by decide)]
  rfl
theorem rdV_67 (k : Int) (h : k = 6 ∨ k = 7) (x : Ty) (l : List UInt8) : Sch.rdV (.mk k [x]) l = thenR (Sch.many k l) fun m j => thenR (Sch.rdN (Sch.rdV x) m (l.drop j)) fun vs j2 => .ok (.mk k 0 0 ⟨#[]⟩ vs, j + j2) := by
  rw [Sch.rdV_mk, if_neg (by omega)]
  cases Sch.many k l with
  | error e => rfl
  | ok p =>
    obtain ⟨m, j⟩ := p
    rw [thenR_ok]
    have e : (([x] : List Ty).map Sch.rdV).headD (fun _ => .error 0) = Sch.rdV x := rfl
    dsimp only
    rw [e]
    cases Sch.rdN (Sch.rdV x) m (l.drop j) with
    | error e => rfl
    | ok q => rfl
theorem count_le {most er : Nat} {l : List UInt8} {n k : Nat} (h : countR most er l = .ok (n, k)) : n ≤ most := by
  unfold countR at h
  split at h
  · cases h
  · split at h
    · cases h
    · injection h with h
      injection h with h1 _
      omega

section
variable {L : List UInt8}
theorem RdA.undrew {α : Type} {w w' : World} {A R : Nat} {l : List UInt8} {r : Except Nat (α × Nat)} {V : α → Value → World → Prop} {e : Ending} (h : RdA L w.drew A R l r V e w') : RdA L w A R l r V e w' := by
  cases r with
  | error k =>
    obtain ⟨h1, h2⟩ := h.bad
    exact ⟨h1, ⟨h2.os, h2.tape, h2.output, h2.size, h2.block⟩⟩
  | ok aj =>
    obtain ⟨a, j⟩ := aj
    obtain ⟨v, h1, h2, h3, h4⟩ := h.good
    exact ⟨v, h1, h2, h3, ⟨h4.os, h4.tape, h4.output, h4.size, h4.block⟩⟩
set_option maxRecDepth 100000 in
set_option maxHeartbeats 2000000 in
theorem readOptK (x : Ty) (hx : ValOk x) (l : List UInt8) (A R : Nat) (w : World) (u : Array Value) (hf : TFar w R u (.mk 6 [x])) (h : Rdr L w A R l) : Calls Try.prog 48 #[.pointer (some ⟨R, 0, none⟩), .agg u] w (RdA L w A R l (Sch.rdV (.mk 6 [x]) l) (isV w)) := by
  have hR := h.lt
  obtain ⟨g, off, c, k', q', n', c', rfl, hfx, hRg, hgw, y0, y1⟩ := hf.one
  unfold cells2
  obtain ⟨W, hW⟩ : ∃ W, W = (w.alloc (.cells #[.int .i64 6, .slice (some ⟨g, off, none⟩) 1 c] 50)).alloc (.cells #[.int .i64 0, .int .i64 0, .float .f64 0, .string ⟨#[]⟩, .slice none 0 0] 53) := ⟨_, rfl⟩
  have HI : Hid (ValIn L w W A R #[.int .i64 6, .slice (some ⟨g, off, none⟩) 1 c] l) := by rw [hW]; exact valIn_start _ h
  have HW := Lib.hid hW
  obtain ⟨r, hr⟩ : ∃ r, r = Sch.rdV (.mk 6 [x]) l := ⟨_, rfl⟩
  have HR0 := Lib.hid (hr.trans (rdV_67 6 (by omega) x l))
  rw [← hr]
  have HR : Hid (r = thenR (Sch.bit l) fun m j => thenR (Sch.rdN (Sch.rdV x) m (l.drop j)) fun vs j2 => .ok (.mk 6 0 0 ⟨#[]⟩ vs, j + j2)) := by show _ = _; rw [HR0.out, many_6]
  have HC : Hid (Calls Try.prog 62 #[.pointer (some ⟨R, 0, none⟩)] W.drew (RdA L W A R l (Sch.bit l) isI)) := (flagK l A R W.drew HI.out.rd.drew).mono fun _ _ h => h.undrew
  have HFx := Lib.hid hfx
  have HX := Lib.hid hx
  -- the cells that are read, wherever only the reader has changed
  have HCells : Hid (∀ W', Aside (fun i => i = R) W W' → W'.cell? ⟨w.heap.size, 0, none⟩ = some (.int .i64 6) ∧ W'.cell? ⟨w.heap.size, 1, none⟩ = some (.slice (some ⟨g, off, none⟩) 1 c) ∧ W'.cell? ⟨g, off, none⟩ = some (.int .i64 k') ∧ W'.cell? ⟨g, off + 1, none⟩ = some (.slice q' n' c')) := fun W' ha => by
    have hs := HI.out.size
    have hgW : g < W.heap.size := by omega
    refine ⟨?_, ?_, ?_, ?_⟩
    · rw [ha.cell (show w.heap.size < W.heap.size by omega) (show ¬ w.heap.size = R by omega)]; exact blk_cell HI.out.b0 0
    · rw [ha.cell (show w.heap.size < W.heap.size by omega) (show ¬ w.heap.size = R by omega)]; exact blk_cell HI.out.b0 1
    · rw [ha.cell (show g < W.heap.size from hgW) (show ¬ g = R by omega), HI.out.aside.cell hgw (show ¬ g = R by omega)]; exact y0
    · rw [ha.cell (show g < W.heap.size from hgW) (show ¬ g = R by omega), HI.out.aside.cell hgw (show ¬ g = R by omega)]; exact y1
  obtain ⟨x0, x1, x2, x3⟩ := HCells.out W (Aside.refl _ _)
  have q0 : W.cell? ⟨w.heap.size + 1, 0, none⟩ = some (.int .i64 0) := blk_cell HI.out.b1 0
  have qf0 : W.frozen? ⟨w.heap.size + 1, 0, none⟩ = false := blk_free HI.out.b1 0
  have q1 : W.cell? ⟨w.heap.size + 1, 1, none⟩ = some (.int .i64 0) := blk_cell HI.out.b1 1
  have qf1 : W.frozen? ⟨w.heap.size + 1, 1, none⟩ = false := blk_free HI.out.b1 1
  have q2 : W.cell? ⟨w.heap.size + 1, 2, none⟩ = some (.float .f64 0) := blk_cell HI.out.b1 2
  have qf2 : W.frozen? ⟨w.heap.size + 1, 2, none⟩ = false := blk_free HI.out.b1 2
  have q3 : W.cell? ⟨w.heap.size + 1, 3, none⟩ = some (.string ⟨#[]⟩) := blk_cell HI.out.b1 3
  have qf3 : W.frozen? ⟨w.heap.size + 1, 3, none⟩ = false := blk_free HI.out.b1 3
  have q4 : W.cell? ⟨w.heap.size + 1, 4, none⟩ = some (.slice none 0 0) := blk_cell HI.out.b1 4
  have qf4 : W.frozen? ⟨w.heap.size + 1, 4, none⟩ = false := blk_free HI.out.b1 4
  obtain ⟨m0, hm0⟩ : ∃ m, m = Sch.bit l := ⟨_, rfl⟩
  rw [← hm0] at HR HC
  have HM := Lib.hid hm0
  clear hr hm0 h hW hfx hx y0 y1 hf HR0
  cases m0 with
  | error er =>
    have HErr : Hid (∀ w2, Aside (fun i => i = R) W w2 → RdA L w A R l r (isV w) (.panicked (errV er)) w2) := fun w2 ha => by
      have e : r = .error er := HR.out
      rw [e]
      exact ⟨rfl, HI.out.aside.trans ha (fun _ _ h => h)⟩
    clear HR
    go_enter Try.func48, Try.ntmps48
    go_wp2_with fail
    rw [← HW.out]
    go_region_law (first
      | (refine step_call1b (.tmp 8) 58 (by rfl) (by rfl) (by rfl) Try.func62 (by kernel_rfl) (by rfl) HC.out (fun e w2 hh => ⟨_, hh.bad.1, rfl, HErr.out w2 hh.bad.2⟩) (.int .i64 0) ?_
         intro HF)
      | (refine step_never HF (.slice none 0 0) ?_))
    all_goals exact HF.out.elim
  | ok mj =>
    obtain ⟨m, j⟩ := mj
    have hm256 : m ≤ 256 := by have := (Sch.bit_ok HM.out.symm).1; omega
    have HR2 : Hid (r = thenR (Sch.rdN (Sch.rdV x) m (l.drop j)) fun vs j2 => .ok (.mk 6 0 0 ⟨#[]⟩ vs, j + j2)) := HR.out
    have HCi := Lib.hid (fun w1 (ha : Aside (fun i => i = R) W w1) (hrd : Rdr L w1 A R (l.drop j)) => itemsK x HX.out m hm256 (l.drop j) A R w1 _ ((HFx.out.aside HI.out.aside).aside ha) hrd)
    unfold cells2 at HCi
    obtain ⟨m1, hm1⟩ : ∃ m1, m1 = Sch.rdN (Sch.rdV x) m (l.drop j) := ⟨_, rfl⟩
    rw [← hm1] at HR2 HCi
    clear HR hm1 HM HX HFx
    cases m1 with
    | error er =>
      have HErr : Hid (∀ w1 w2, Aside (fun i => i = R) W w1 → Aside (fun i => i = R) w1 w2 → RdA L w A R l r (isV w) (.panicked (errV er)) w2) := fun w1 w2 ha ha2 => by
        have e : r = .error er := HR2.out
        rw [e]
        exact ⟨rfl, (HI.out.aside.trans ha (fun _ _ h => h)).trans ha2 (fun _ _ h => h)⟩
      clear HR2
      go_enter Try.func48, Try.ntmps48
      go_wp2_with fail
      rw [← HW.out]
      go_region_law (first
        | (refine step_call1g (.tmp 8) 58 (by rfl) (by rfl) (by rfl) Try.func62 (by kernel_rfl) (by rfl) HC.out ?_
           intro e w1 hh
           obtain ⟨v, he, hv, hrd, ha⟩ := hh.good
           clear hh
           replace hv : v = .int .i64 (m : Nat) := hv
           subst hv
           refine ⟨_, he, ?_⟩
           clear he
           have HA1 := Lib.hid ha
           have HRd1 := Lib.hid hrd
           obtain ⟨x0', x1', x2', x3'⟩ := HCells.out w1 ha
           have HI1 := Lib.hid (HI.out.step ha hrd hR)
           have r0 : w1.cell? ⟨w.heap.size + 1, 0, none⟩ = some (.int .i64 0) := blk_cell HI1.out.b1 0
           have rf0 : w1.frozen? ⟨w.heap.size + 1, 0, none⟩ = false := blk_free HI1.out.b1 0
           have r1 : w1.cell? ⟨w.heap.size + 1, 1, none⟩ = some (.int .i64 0) := blk_cell HI1.out.b1 1
           have rf1 : w1.frozen? ⟨w.heap.size + 1, 1, none⟩ = false := blk_free HI1.out.b1 1
           have r2 : w1.cell? ⟨w.heap.size + 1, 2, none⟩ = some (.float .f64 0) := blk_cell HI1.out.b1 2
           have rf2 : w1.frozen? ⟨w.heap.size + 1, 2, none⟩ = false := blk_free HI1.out.b1 2
           have r3 : w1.cell? ⟨w.heap.size + 1, 3, none⟩ = some (.string ⟨#[]⟩) := blk_cell HI1.out.b1 3
           have rf3 : w1.frozen? ⟨w.heap.size + 1, 3, none⟩ = false := blk_free HI1.out.b1 3
           have r4 : w1.cell? ⟨w.heap.size + 1, 4, none⟩ = some (.slice none 0 0) := blk_cell HI1.out.b1 4
           have rf4 : w1.frozen? ⟨w.heap.size + 1, 4, none⟩ = false := blk_free HI1.out.b1 4
           clear ha hrd)
        | (refine step_call3b (.tmp 7) (.tmp 9) (.tmp 13) 58 3 50 (by rfl) (by rfl) (by rfl) (by rfl) (by rfl) Try.func69 (by kernel_rfl) (by rfl) (HCi.out w1 HA1.out HRd1.out) (fun e w2 hh => ⟨_, hh.bad.1, rfl, HErr.out w1 w2 HA1.out hh.bad.2⟩) (.slice none 0 0) ?_
           intro HF))
      all_goals exact HF.out.elim
    | ok vj =>
      obtain ⟨vs, j2⟩ := vj
      have HRok : Hid (r = .ok (.mk 6 0 0 ⟨#[]⟩ vs, j + j2)) := HR2.out
      clear HR2
      go_enter Try.func48, Try.ntmps48
      go_wp2_with fail
      rw [← HW.out]
      go_region_law (first
        | (refine step_call1g (.tmp 8) 58 (by rfl) (by rfl) (by rfl) Try.func62 (by kernel_rfl) (by rfl) HC.out ?_
           intro e w1 hh
           obtain ⟨v, he, hv, hrd, ha⟩ := hh.good
           clear hh
           replace hv : v = .int .i64 (m : Nat) := hv
           subst hv
           refine ⟨_, he, ?_⟩
           clear he
           have HA1 := Lib.hid ha
           have HRd1 := Lib.hid hrd
           obtain ⟨x0', x1', x2', x3'⟩ := HCells.out w1 ha
           have HI1 := Lib.hid (HI.out.step ha hrd hR)
           clear ha hrd)
        | (refine step_call3g (.tmp 7) (.tmp 9) (.tmp 13) 58 3 50 (by rfl) (by rfl) (by rfl) (by rfl) (by rfl) Try.func69 (by kernel_rfl) (by rfl) (HCi.out w1 HA1.out HRd1.out) ?_
           intro e w2 hh
           obtain ⟨v, he, hv, hrd, ha⟩ := hh.good
           obtain ⟨qi, ci, hv2, hown⟩ := hv.open
           clear hh hv
           subst hv2
           refine ⟨_, he, ?_⟩
           clear he
           have HI2 := Lib.hid (HI1.out.step ha hrd hR)
           have HOn := Lib.hid hown
           have hs1 := HI1.out.size
           have hs2 := ha.size
           have k2 : w2.cell? ⟨w.heap.size, 0, none⟩ = some (.int .i64 6) := blk_cell HI2.out.b0 0
           have t0 : w2.cell? ⟨w.heap.size + 1, 0, none⟩ = some (.int .i64 0) := blk_cell HI2.out.b1 0
           have tf0 : w2.frozen? ⟨w.heap.size + 1, 0, none⟩ = false := blk_free HI2.out.b1 0
           have t1 : w2.cell? ⟨w.heap.size + 1, 1, none⟩ = some (.int .i64 0) := blk_cell HI2.out.b1 1
           have tf1 : w2.frozen? ⟨w.heap.size + 1, 1, none⟩ = false := blk_free HI2.out.b1 1
           have t2 : w2.cell? ⟨w.heap.size + 1, 2, none⟩ = some (.float .f64 0) := blk_cell HI2.out.b1 2
           have tf2 : w2.frozen? ⟨w.heap.size + 1, 2, none⟩ = false := blk_free HI2.out.b1 2
           have t3 : w2.cell? ⟨w.heap.size + 1, 3, none⟩ = some (.string ⟨#[]⟩) := blk_cell HI2.out.b1 3
           have tf3 : w2.frozen? ⟨w.heap.size + 1, 3, none⟩ = false := blk_free HI2.out.b1 3
           have t4 : w2.cell? ⟨w.heap.size + 1, 4, none⟩ = some (.slice none 0 0) := blk_cell HI2.out.b1 4
           have tf4 : w2.frozen? ⟨w.heap.size + 1, 4, none⟩ = false := blk_free HI2.out.b1 4
           clear ha hrd hown))
      all_goals
        have HFin := Lib.hid (finV (k := 6) (i := 0) (b := 0) (t := ⟨#[]⟩) (q := qi) (n := vs.length) (c := ci) (x := .mk 6 0 0 ⟨#[]⟩ vs) (N := w.heap.size + 1) hR (by omega) HI2.out.b1 (HOn.out 6) (fun i hi => ⟨by omega, by omega⟩) HI2.out.rd HI2.out.aside)
        clear x0 x1 x2 x3 x0' x1' x2' x3'
        go_wp2
        obtain ⟨f1, f2, f3, f4⟩ := HFin.out
        refine bodyPost_ret (v := .agg (cells5 6 0 0 ⟨#[]⟩ qi vs.length ci)) (results_cell_row rfl _ _ (w.heap.size + 1) _ _ _ _ rfl f1 Try.underlying53 rfl (by kernel_rfl)) rfl ?_
        rw [HRok.out]
        refine ⟨_, rfl, f2, ?_, f4⟩
        rw [← List.drop_drop]
        exact f3


set_option maxRecDepth 100000 in
set_option maxHeartbeats 2000000 in
theorem readListK (x : Ty) (hx : ValOk x) (l : List UInt8) (A R : Nat) (w : World) (u : Array Value) (hf : TFar w R u (.mk 7 [x])) (h : Rdr L w A R l) : Calls Try.prog 49 #[.pointer (some ⟨R, 0, none⟩), .agg u] w (RdA L w A R l (Sch.rdV (.mk 7 [x]) l) (isV w)) := by
  have hR := h.lt
  obtain ⟨g, off, c, k', q', n', c', rfl, hfx, hRg, hgw, y0, y1⟩ := hf.one
  unfold cells2
  obtain ⟨W, hW⟩ : ∃ W, W = (w.alloc (.cells #[.int .i64 7, .slice (some ⟨g, off, none⟩) 1 c] 50)).alloc (.cells #[.int .i64 0, .int .i64 0, .float .f64 0, .string ⟨#[]⟩, .slice none 0 0] 53) := ⟨_, rfl⟩
  have HI : Hid (ValIn L w W A R #[.int .i64 7, .slice (some ⟨g, off, none⟩) 1 c] l) := by rw [hW]; exact valIn_start _ h
  have HW := Lib.hid hW
  obtain ⟨r, hr⟩ : ∃ r, r = Sch.rdV (.mk 7 [x]) l := ⟨_, rfl⟩
  have HR0 := Lib.hid (hr.trans (rdV_67 7 (by omega) x l))
  rw [← hr]
  have HR : Hid (r = thenR (countR 256 3 l) fun m j => thenR (Sch.rdN (Sch.rdV x) m (l.drop j)) fun vs j2 => .ok (.mk 7 0 0 ⟨#[]⟩ vs, j + j2)) := by show _ = _; rw [HR0.out, many_7]
  have HC := Lib.hid (countK 256 3 (by omega) l A R W HI.out.rd)
  have HFx := Lib.hid hfx
  have HX := Lib.hid hx
  have HCells : Hid (∀ W', Aside (fun i => i = R) W W' → W'.cell? ⟨w.heap.size, 0, none⟩ = some (.int .i64 7) ∧ W'.cell? ⟨w.heap.size, 1, none⟩ = some (.slice (some ⟨g, off, none⟩) 1 c) ∧ W'.cell? ⟨g, off, none⟩ = some (.int .i64 k') ∧ W'.cell? ⟨g, off + 1, none⟩ = some (.slice q' n' c')) := fun W' ha => by
    have hs := HI.out.size
    have hgW : g < W.heap.size := by omega
    refine ⟨?_, ?_, ?_, ?_⟩
    · rw [ha.cell (show w.heap.size < W.heap.size by omega) (show ¬ w.heap.size = R by omega)]; exact blk_cell HI.out.b0 0
    · rw [ha.cell (show w.heap.size < W.heap.size by omega) (show ¬ w.heap.size = R by omega)]; exact blk_cell HI.out.b0 1
    · rw [ha.cell (show g < W.heap.size from hgW) (show ¬ g = R by omega), HI.out.aside.cell hgw (show ¬ g = R by omega)]; exact y0
    · rw [ha.cell (show g < W.heap.size from hgW) (show ¬ g = R by omega), HI.out.aside.cell hgw (show ¬ g = R by omega)]; exact y1
  obtain ⟨m0, hm0⟩ : ∃ m, m = countR 256 3 l := ⟨_, rfl⟩
  rw [← hm0] at HR HC
  have HM := Lib.hid hm0
  clear hr hm0 h hW hfx hx y0 y1 hf HR0
  cases m0 with
  | error er =>
    have HR2 : Hid (r = .error er) := HR.out
    clear HR
    go_enter Try.func49, Try.ntmps49
    go_wp2_with fail
    rw [← HW.out]
    refine HC.out.mono ?_
    intro e w1 hh
    obtain ⟨he, ha⟩ := hh.bad
    subst he
    clear hh
    have HA := Lib.hid (HI.out.aside.trans ha (fun _ _ h => h))
    clear ha HC
    go_wp2
    rw [HR2.out]
    exact ⟨rfl, rfl, HA.out⟩
  | ok mj =>
    obtain ⟨m, j⟩ := mj
    have hm256 : m ≤ 256 := count_le HM.out.symm
    have HR2 : Hid (r = thenR (Sch.rdN (Sch.rdV x) m (l.drop j)) fun vs j2 => .ok (.mk 7 0 0 ⟨#[]⟩ vs, j + j2)) := HR.out
    clear HR HM
    go_enter Try.func49, Try.ntmps49
    go_wp2_with fail
    rw [← HW.out]
    refine HC.out.mono ?_
    intro e w1 hh
    obtain ⟨v, he, hv, hrd, ha⟩ := hh.good
    clear hh
    replace hv : v = .int .i64 (m : Nat) := hv
    subst hv
    subst he
    obtain ⟨x0, x1, x2, x3⟩ := HCells.out w1 ha
    have HI1 := Lib.hid (HI.out.step ha hrd hR)
    have HCi := Lib.hid (itemsK x HX.out m hm256 (l.drop j) A R w1.drew _ (((HFx.out.aside HI.out.aside).aside ha).on (Below.refl _ _).drew) hrd.drew)
    unfold cells2 at HCi
    have q0 : w1.cell? ⟨w.heap.size + 1, 0, none⟩ = some (.int .i64 0) := blk_cell HI1.out.b1 0
    have qf0 : w1.frozen? ⟨w.heap.size + 1, 0, none⟩ = false := blk_free HI1.out.b1 0
    have q1 : w1.cell? ⟨w.heap.size + 1, 1, none⟩ = some (.int .i64 0) := blk_cell HI1.out.b1 1
    have qf1 : w1.frozen? ⟨w.heap.size + 1, 1, none⟩ = false := blk_free HI1.out.b1 1
    have q2 : w1.cell? ⟨w.heap.size + 1, 2, none⟩ = some (.float .f64 0) := blk_cell HI1.out.b1 2
    have qf2 : w1.frozen? ⟨w.heap.size + 1, 2, none⟩ = false := blk_free HI1.out.b1 2
    have q3 : w1.cell? ⟨w.heap.size + 1, 3, none⟩ = some (.string ⟨#[]⟩) := blk_cell HI1.out.b1 3
    have qf3 : w1.frozen? ⟨w.heap.size + 1, 3, none⟩ = false := blk_free HI1.out.b1 3
    have q4 : w1.cell? ⟨w.heap.size + 1, 4, none⟩ = some (.slice none 0 0) := blk_cell HI1.out.b1 4
    have qf4 : w1.frozen? ⟨w.heap.size + 1, 4, none⟩ = false := blk_free HI1.out.b1 4
    clear ha hrd HC HW HCells HFx HX
    obtain ⟨m1, hm1⟩ : ∃ m1, m1 = Sch.rdN (Sch.rdV x) m (l.drop j) := ⟨_, rfl⟩
    rw [← hm1] at HR2 HCi
    clear hm1
    cases m1 with
    | error er =>
      have HErr : Hid (r = .error er) := HR2.out
      clear HR2
      go_wp2_with fail
      go_region_law (first
        | (refine step_call3b (.tmp 10) (.tmp 11) (.tmp 15) 58 3 50 (by rfl) (by rfl) (by rfl) (by rfl) (by rfl) Try.func69 (by kernel_rfl) (by rfl) HCi.out (fun e w2 hh => ⟨_, hh.bad.1, rfl, by rw [HErr.out]; exact ⟨rfl, HI1.out.aside.drew.trans hh.bad.2 (fun _ _ h => h)⟩⟩) (.slice none 0 0) ?_
           intro HF)
        | fail)
      all_goals exact HF.out.elim
    | ok vj =>
      obtain ⟨vs, j2⟩ := vj
      have HRok : Hid (r = .ok (.mk 7 0 0 ⟨#[]⟩ vs, j + j2)) := HR2.out
      clear HR2
      go_wp2_with fail
      go_region_law (first
        | (refine step_call3g (.tmp 10) (.tmp 11) (.tmp 15) 58 3 50 (by rfl) (by rfl) (by rfl) (by rfl) (by rfl) Try.func69 (by kernel_rfl) (by rfl) HCi.out ?_
           intro e w2 hh
           obtain ⟨v, he, hv, hrd, ha⟩ := hh.good
           obtain ⟨qi, ci, hv2, hown⟩ := hv.open
           clear hh hv
           subst hv2
           refine ⟨_, he, ?_⟩
           clear he
           have HI2 := Lib.hid (HI1.out.drew.step ha hrd hR)
           have HOn := Lib.hid hown
           have hs1 := HI1.out.size
           have hs2 := ha.size
           have k2 : w2.cell? ⟨w.heap.size, 0, none⟩ = some (.int .i64 7) := blk_cell HI2.out.b0 0
           have t0 : w2.cell? ⟨w.heap.size + 1, 0, none⟩ = some (.int .i64 0) := blk_cell HI2.out.b1 0
           have tf0 : w2.frozen? ⟨w.heap.size + 1, 0, none⟩ = false := blk_free HI2.out.b1 0
           have t1 : w2.cell? ⟨w.heap.size + 1, 1, none⟩ = some (.int .i64 0) := blk_cell HI2.out.b1 1
           have tf1 : w2.frozen? ⟨w.heap.size + 1, 1, none⟩ = false := blk_free HI2.out.b1 1
           have t2 : w2.cell? ⟨w.heap.size + 1, 2, none⟩ = some (.float .f64 0) := blk_cell HI2.out.b1 2
           have tf2 : w2.frozen? ⟨w.heap.size + 1, 2, none⟩ = false := blk_free HI2.out.b1 2
           have t3 : w2.cell? ⟨w.heap.size + 1, 3, none⟩ = some (.string ⟨#[]⟩) := blk_cell HI2.out.b1 3
           have tf3 : w2.frozen? ⟨w.heap.size + 1, 3, none⟩ = false := blk_free HI2.out.b1 3
           have t4 : w2.cell? ⟨w.heap.size + 1, 4, none⟩ = some (.slice none 0 0) := blk_cell HI2.out.b1 4
           have tf4 : w2.frozen? ⟨w.heap.size + 1, 4, none⟩ = false := blk_free HI2.out.b1 4
           clear ha hrd hown)
        | fail)
      all_goals
        have HFin := Lib.hid (finV (k := 7) (i := 0) (b := 0) (t := ⟨#[]⟩) (q := qi) (n := vs.length) (c := ci) (x := .mk 7 0 0 ⟨#[]⟩ vs) (N := w.heap.size + 1) hR (by omega) HI2.out.b1 (HOn.out 7) (fun i hi => ⟨by have := hi.1; have : w1.drew.heap.size = w1.heap.size := rfl; omega, hi.2⟩) HI2.out.rd HI2.out.aside)
        go_wp2
        obtain ⟨f1, f2, f3, f4⟩ := HFin.out
        refine bodyPost_ret (v := .agg (cells5 7 0 0 ⟨#[]⟩ qi vs.length ci)) (results_cell_row rfl _ _ (w.heap.size + 1) _ _ _ _ rfl f1 Try.underlying53 rfl (by kernel_rfl)) rfl ?_
        rw [HRok.out]
        refine ⟨_, rfl, f2, ?_, f4⟩
        rw [← List.drop_drop]
        exact f3
end
end Go.Proofs.Yticmkgbjannkkaa

/- The landed row's reader: value, by the table. -/
namespace Go.Proofs.Yticmkgbjannkkaa
open Go.RowKit

attribute [local go_sem] run_store_float

theorem cells5_own {w : World} {F : Nat → Prop} {k i : Int} {b : Nat} {t : ByteArray} {p : Option Addr} {n c : Nat} {x : V} (h : VOwn w F #[.int .i64 k, .int .i64 i, .float .f64 b, .string t, .slice p n c] x) : VOwn w F (cells5 k i b t p n c) x := h

section
variable {L : List UInt8}

set_option maxRecDepth 100000 in
set_option maxHeartbeats 1000000 in
theorem valueR_at (k : Nat) (f : FuncId) (hk : k < 8) (hf : waysR[k]? = some (.func (.func f) #[] #[])) (l : List UInt8) (A R : Nat) (w : World) (p : Option Addr) (n c : Nat) (h : Rdr L w A R l) (rr : Except Nat (V × Nat))
    (hE : ∀ (args : Array Value) (w : World), (callFunc f args).run Try.prog w = .ok (.enter f args) w)
    (hc : ∀ w', Below w.heap.size w w' → Rdr L w' A R l → Calls Try.prog f #[.pointer (some ⟨R, 0, none⟩), .agg #[.int .i64 k, .slice p n c]] w' (RdA L w' A R l rr (isV w'))) :
    Calls Try.prog 17 #[.pointer (some ⟨R, 0, none⟩), .agg #[.int .i64 k, .slice p n c]] w (RdA L w A R l rr (isV w)) := by
  have hR := h.lt
  obtain ⟨W, hW⟩ : ∃ W, W = (w.alloc (.cells #[.int .i64 k, .slice p n c] 50)).alloc (.cells #[.int .i64 0, .int .i64 0, .float .f64 0, .string ⟨#[]⟩, .slice none 0 0] 53) := ⟨_, rfl⟩
  have HI : Hid (ValIn L w W A R #[.int .i64 k, .slice p n c] l) := by rw [hW]; exact valIn_start _ h
  have HBW : Hid (Below w.heap.size w W) := by rw [hW]; exact ((Below.refl _ _).alloc (Nat.le_refl _) _).alloc (by simp) _
  obtain ⟨T, pp, cc, a, h1, -⟩ := HI.out.rd.out
  have c0 : W.cell? ⟨R, 0, none⟩ = some (.slice (some ⟨T, 0, none⟩) 8 8) := blk_cell h1.b0 0
  have ck : W.cell? ⟨T, k, none⟩ = some (.func (.func f) #[] #[]) := (blk_cell h1.b1 k).trans hf
  have k0 : W.cell? ⟨w.heap.size, 0, none⟩ = some (.int .i64 k) := blk_cell HI.out.b0 0
  have k1 : W.cell? ⟨w.heap.size, 1, none⟩ = some (.slice p n c) := blk_cell HI.out.b0 1
  have hki : (k : Int) < 8 := by omega
  have HC := Lib.hid (hc W.drew HBW.out.drew HI.out.rd.drew)
  have HE := Lib.hid hE
  have HW := Lib.hid hW
  have q0 : W.cell? ⟨w.heap.size + 1, 0, none⟩ = some (.int .i64 0) := blk_cell HI.out.b1 0
  have q1 : W.cell? ⟨w.heap.size + 1, 1, none⟩ = some (.int .i64 0) := blk_cell HI.out.b1 1
  have q2 : W.cell? ⟨w.heap.size + 1, 2, none⟩ = some (.float .f64 0) := blk_cell HI.out.b1 2
  have q3 : W.cell? ⟨w.heap.size + 1, 3, none⟩ = some (.string ⟨#[]⟩) := blk_cell HI.out.b1 3
  have q4 : W.cell? ⟨w.heap.size + 1, 4, none⟩ = some (.slice none 0 0) := blk_cell HI.out.b1 4
  have qf0 := blk_free HI.out.b1 0
  have qf1 := blk_free HI.out.b1 1
  have qf2 := blk_free HI.out.b1 2
  have qf3 := blk_free HI.out.b1 3
  have qf4 := blk_free HI.out.b1 4
  clear h hW hc hE h1 hf
  cases rr with
  | error er =>
    go_enter Try.func17, Try.ntmps17
    go_wp2_with fail
    rw [← HW.out]
    clear HW
    go_region_law (first
      | (refine step_callv2b (.tmp 12) (.tmp 13) (.tmp 14) 58 50 (by rfl) (by rfl) (by rfl) (by rfl) (by rfl) HE.out HC.out (fun e w1 hh => ⟨_, hh.bad.1, rfl, rfl, HI.out.aside.drew.trans hh.bad.2 (fun _ _ h => h)⟩) (.agg #[.int .i64 0, .int .i64 0, .float .f64 0, .string ⟨#[]⟩, .slice none 0 0]) ?_
         intro HF)
      | fail)
    all_goals exact HF.out.elim
  | ok xj =>
    obtain ⟨x, j⟩ := xj
    go_enter Try.func17, Try.ntmps17
    go_wp2_with fail
    rw [← HW.out]
    clear HW
    go_region_law (first
      | (refine step_callv2 (.tmp 12) (.tmp 13) (.tmp 14) 58 50 (by rfl) (by rfl) (by rfl) (by rfl) (by rfl) HE.out HC.out ?_
         intro e w1 hh
         obtain ⟨v, he, hv, hrd, ha⟩ := hh.good
         obtain ⟨u, hv, hown⟩ := hv.open
         clear hh
         obtain ⟨k9, i9, b9, t9, p9, n9, c9, hu⟩ := hown.shape
         subst hu
         subst hv
         unfold cells5 at he hown
         refine ⟨_, he, ?_⟩
         clear he
         have HI1 := Lib.hid (HI.out.drew.step ha hrd hR)
         have HOn := Lib.hid hown
         have hsW := HI.out.size
         have hs1 := ha.size
         have t0 : w1.cell? ⟨w.heap.size + 1, 0, none⟩ = some (.int .i64 0) := blk_cell HI1.out.b1 0
         have t1 : w1.cell? ⟨w.heap.size + 1, 1, none⟩ = some (.int .i64 0) := blk_cell HI1.out.b1 1
         have t2 : w1.cell? ⟨w.heap.size + 1, 2, none⟩ = some (.float .f64 0) := blk_cell HI1.out.b1 2
         have t3 : w1.cell? ⟨w.heap.size + 1, 3, none⟩ = some (.string ⟨#[]⟩) := blk_cell HI1.out.b1 3
         have t4 : w1.cell? ⟨w.heap.size + 1, 4, none⟩ = some (.slice none 0 0) := blk_cell HI1.out.b1 4
         have tf0 := blk_free HI1.out.b1 0
         have tf1 := blk_free HI1.out.b1 1
         have tf2 := blk_free HI1.out.b1 2
         have tf3 := blk_free HI1.out.b1 3
         have tf4 := blk_free HI1.out.b1 4
         clear ha hrd hown)
      | fail)
    all_goals
      have hsd : W.drew.heap.size = W.heap.size := rfl
      have HFin := Lib.hid (finV (N := w.heap.size + 1) hR (by omega) HI1.out.b1 (cells5_own HOn.out) (fun i hi => ⟨by have := hi.1; omega, hi.2⟩) HI1.out.rd HI1.out.aside)
      go_wp2
      obtain ⟨f1, f2, f3, f4⟩ := HFin.out
      refine bodyPost_ret (v := .agg (cells5 k9 i9 b9 t9 p9 n9 c9)) (results_cell_row rfl _ _ (w.heap.size + 1) _ _ _ _ rfl f1 Try.underlying53 rfl (by kernel_rfl)) rfl ?_
      exact ⟨_, rfl, f2, f3, f4⟩

theorem valueR : ∀ (t : Ty) (d : Nat), Ty.check d t = 0 → ValOk t := by
  intro t
  refine Ty.ind (P := fun t => ∀ (d : Nat), Ty.check d t = 0 → ValOk t) ?_ t
  rintro k ts ih d hd L l A R w u hf hr
  obtain ⟨hd4, hk, htt⟩ := Sch.ty_open hd
  rcases htt with ⟨h67, rfl⟩ | ⟨h67, y, rfl, hy⟩
  · obtain ⟨k', p, n, c, hu⟩ := hf.shape
    have hk' : k' = k := by
      obtain ⟨w0, h1, -⟩ := hf.out
      obtain ⟨p2, c2, hu2, -⟩ := h1.open
      rw [hu] at hu2
      unfold cells2 at hu2
      simp only [Array.mk.injEq, List.cons.injEq, Value.int.injEq, true_and] at hu2
      exact hu2.1
    subst hk' hu
    unfold cells2
    have hcase : k' = 1 ∨ k' = 2 ∨ k' = 3 ∨ k' = 4 ∨ k' = 5 := by omega
    have e : Sch.rdV (.mk k' []) l = Sch.scalar k' l := by rw [Sch.rdV_mk, if_pos (by omega)]
    rw [e]
    rcases hcase with h | h | h | h | h <;> subst h
    · exact valueR_at 1 43 (by omega) rfl l A R w p n c hr _ (enters Try.func43 (by kernel_rfl) rfl) (fun w' _ h => readBoolK l A R w' p n c h)
    · exact valueR_at 2 44 (by omega) rfl l A R w p n c hr _ (enters Try.func44 (by kernel_rfl) rfl) (fun w' _ h => readIntK l A R w' p n c h)
    · exact valueR_at 3 45 (by omega) rfl l A R w p n c hr _ (enters Try.func45 (by kernel_rfl) rfl) (fun w' _ h => readFloatK l A R w' p n c h)
    · exact valueR_at 4 46 (by omega) rfl l A R w p n c hr _ (enters Try.func46 (by kernel_rfl) rfl) (fun w' _ h => readTextK l A R w' p n c h)
    · have e5 : Sch.scalar 5 l = bytesR 5 l := scalar_5 l
      rw [e5]
      exact valueR_at 5 47 (by omega) rfl l A R w p n c hr _ (enters Try.func47 (by kernel_rfl) rfl) (fun w' _ h => readBytesK 5 l A R w' p n c h)
  · obtain ⟨g, off, c, k', q', n', c', hu, -⟩ := hf.one
    have hv := ih y (by simp) (d + 1) hy
    subst hu
    unfold cells2 at hf ⊢
    rcases h67 with h | h <;> subst h
    · exact valueR_at 6 48 (by omega) rfl l A R w _ _ c hr _ (enters Try.func48 (by kernel_rfl) rfl) (fun w' hb h => readOptK y hv l A R w' _ (hf.on hb) h)
    · exact valueR_at 7 49 (by omega) rfl l A R w _ _ c hr _ (enters Try.func49 (by kernel_rfl) rfl) (fun w' hb h => readListK y hv l A R w' _ (hf.on hb) h)
end
end Go.Proofs.Yticmkgbjannkkaa
