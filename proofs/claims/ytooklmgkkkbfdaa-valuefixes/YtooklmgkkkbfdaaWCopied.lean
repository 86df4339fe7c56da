/- The law's own copied(v). -/
import Derived.Test.YtooklmgkkkbfdaaWFixR
import Derived.Deep.RegionLaw
namespace Go.Proofs.Ytooklmgkkkbfdaa
open Go.RowKit

attribute [local go_sem] run_store_float

theorem fresh_from {w W w2 : World} {y : V} {e : Ending} (h : Fresh W y e w2) (h1 : W.os = w.os) (h2 : W.tape = w.tape) (h3 : W.output = w.output) (h4 : W.heap = w.heap) : Fresh w y e w2 := by
  obtain ⟨u', rfl, hv, hb⟩ := h
  rw [h4] at hv hb
  exact ⟨u', rfl, hv, below_via hb h1 h2 h3 h4⟩

set_option maxRecDepth 100000 in
set_option maxHeartbeats 1000000 in
theorem copied6 : ∀ (x : V) (w : World) (u : Array Value), VLies w u x → Calls Try.prog 10 #[.agg u] w (Fresh w x) := by
  intro x
  refine V.ind (P := fun x => ∀ (w : World) (u : Array Value), VLies w u x → Calls Try.prog 10 #[.agg u] w (Fresh w x)) ?_ x
  intro k i b t xs ih w u hx
  obtain ⟨p, c, rfl, hl, hc, hxi⟩ := hx.open
  unfold cells5
  have HIH := Lib.hid ih
  have HX : Hid (∀ j (hj : j < xs.length), ∃ u', VLies w u' xs[j] ∧ Item w p j u') := hxi
  clear ih hxi hx
  go_enter Try.func10, Try.ntmps10
  go_wp2_with fail
  go_loopw [4] (fun v4 wr => ∃ (j : Nat) (q : Option Addr) (d : Nat), j ≤ xs.length ∧ v4 = .int .i64 j ∧ Hid (Making w #[.int .i64 k, .int .i64 i, .float .f64 b, .string t, .slice p xs.length c] k i b t xs j (.slice q j d) wr)) (fun v4 _ => xs.length - (intOf v4).toNat)
  case atStart => exact ⟨0, none, 0, by omega, rfl, making_start w _ k i b t _⟩
  case round =>
    obtain ⟨j, q, d, hj, rfl, HM⟩ := hrel
    have c0 : wr.cell? ⟨w.heap.size, 4, none⟩ = some (.slice p xs.length c) := blk_cell HM.out.b0 4
    have c2 : wr.cell? ⟨w.heap.size + 1 + 1, 4, none⟩ = some (.slice q j d) := blk_cell HM.out.b2 4
    by_cases hlt : j < xs.length
    · obtain ⟨ux, hvx, hix⟩ := HX.out j hlt
      obtain ⟨bx, ox, kx, ix, fx, tx, qx, nx, cx, rfl, hbx, rfl, y0, y1, y2, y3, y4⟩ := hix.lies
      have HY := Lib.hid (And.intro y0 (And.intro y1 (And.intro y2 (And.intro y3 y4))))
      have a0 := cell_on HM.out.below y0
      have a1 := cell_on HM.out.below y1
      have a2 := cell_on HM.out.below y2
      have a3 := cell_on HM.out.below y3
      have a4 := cell_on HM.out.below y4
      have hn1 : ¬ bx = w.heap.size + 1 + 1 := by omega
      have hn2 : ¬ w.heap.size = w.heap.size + 1 + 1 := by omega
      clear y0 y1 y2 y3 y4
      have HC : Hid (∀ w', Below w.heap.size w w' → Calls Try.prog 10 #[.agg #[.int .i64 kx, .int .i64 ix, .float .f64 fx, .string tx, .slice qx nx cx]] w' (Fresh w' xs[j])) := fun w' hb => HIH.out _ (List.getElem_mem hlt) w' _ (hvx.on hb)
      have HBw := Lib.hid HM.out.below
      have hj1 : (j : Int) < (xs.length : Int) := by omega
      obtain ⟨us, Fs, hbt⟩ := HM.out.built
      have HBt := Lib.hid hbt
      clear hvx hix hbt
      go_wp2_with fail
      go_region_law (first
        | (refine step_call1 (.tmp 20) 25 (by rfl) (by rfl) (by rfl) Try.func10 (by kernel_rfl) (by rfl) (HC.out _ HBw.out.drew) ?_
           intro e w2 hf
           obtain ⟨u', rfl, hv, hb2⟩ := fresh_from (w := wr) hf (by rfl) (by rfl) (by rfl) (by rfl)
           obtain ⟨k', i', b', t', p', n', c', rfl⟩ := hv.shape
           refine ⟨_, rfl, ?_⟩
           unfold cells5 at hv ⊢
           have z2 := cell_on hb2 c2
           have z3 : ∀ o, (w2.alloc o).cell? ⟨w.heap.size + 1 + 1, 4, none⟩ = some (.slice q j d) := fun o => cell_on (hb2.alloc hb2.size o) c2
           have HV := Lib.hid hv
           have HB2 := Lib.hid hb2
           have HB3 : Hid (Below w2.heap.size w2 (w2.alloc (.cells #[.int .i64 k', .int .i64 i', .float .f64 b', .string t', .slice p' n' c'] 25))) := (Below.refl _ _).alloc (Nat.le_refl _) _
           have hsz : w.heap.size + 3 ≤ w2.heap.size := Nat.le_trans HM.out.size HB2.out.size
           clear hv hb2 hf)
        | (refine step_more (B := w.heap.size + 3) (us := us) (v := .slice q j d) (n := j) (by exact ((HBt.out.on HB2.out).on HB3.out).row) (u := #[.int .i64 k', .int .i64 i', .float .f64 b', .string t', .slice p' n' c']) rfl (one5 HV.out) (ad := w2.heap.size) (by exact blk_new w2 _) (by omega) (by simp; omega) (H := w2.heap.size + 1) (by simp) (.tmp 15) (.tmp 22) (by rfl) (by rfl) (by rfl) (by rfl) ?_
           intro g2 cap2 w4 hr4 hg4 hn4
           obtain ⟨hb4, hold, hmk⟩ := HM.out.next (w3 := w2.alloc (.cells #[.int .i64 k', .int .i64 i', .float .f64 b', .string t', .slice p' n' c'] 25)) HBt.out hlt HB2.out HV.out (fun _ h => h) HB3.out hr4 (by exact ⟨hg4.os, hg4.tape, hg4.output, hg4.size, hg4.block⟩) (by simpa using hn4)
           have f4 : w4.frozen? ⟨w.heap.size + 1 + 1, 4, none⟩ = false := blk_free ((hold 2 (by omega)).trans HM.out.b2) 4
           have g4 : w4.cell? ⟨w.heap.size + 1 + 1, 4, none⟩ = some (.slice q j d) := blk_cell ((hold 2 (by omega)).trans HM.out.b2) 4
           have HMK := Lib.hid hmk
           clear hb4 hold hmk hr4 hg4 hn4))
      all_goals
        go_wp2
        go_roundw
        case rel => exact ⟨j + 1, _, _, by omega, by go_num, HMK⟩
        case measure => simp [intOf]; omega
    · have hjn : ¬ (j : Int) < (xs.length : Int) := by omega
      have hjj : j = xs.length := by omega
      have e0 : wr.cell? ⟨w.heap.size + 1 + 1, 0, none⟩ = some (.int .i64 k) := blk_cell HM.out.b2 0
      have e1 : wr.cell? ⟨w.heap.size + 1 + 1, 1, none⟩ = some (.int .i64 i) := blk_cell HM.out.b2 1
      have e2 : wr.cell? ⟨w.heap.size + 1 + 1, 2, none⟩ = some (.float .f64 b) := blk_cell HM.out.b2 2
      have e3 : wr.cell? ⟨w.heap.size + 1 + 1, 3, none⟩ = some (.string t) := blk_cell HM.out.b2 3
      have r0 : wr.cell? ⟨w.heap.size + 1, 0, none⟩ = some (.int .i64 0) := blk_cell HM.out.b1 0
      have r1 : wr.cell? ⟨w.heap.size + 1, 1, none⟩ = some (.int .i64 0) := blk_cell HM.out.b1 1
      have r2 : wr.cell? ⟨w.heap.size + 1, 2, none⟩ = some (.float .f64 0) := blk_cell HM.out.b1 2
      have r3 : wr.cell? ⟨w.heap.size + 1, 3, none⟩ = some (.string ⟨#[]⟩) := blk_cell HM.out.b1 3
      have r4 : wr.cell? ⟨w.heap.size + 1, 4, none⟩ = some (.slice none 0 0) := blk_cell HM.out.b1 4
      have s0 := blk_free HM.out.b1 0
      have s1 := blk_free HM.out.b1 1
      have s2 := blk_free HM.out.b1 2
      have s3 := blk_free HM.out.b1 3
      have s4 := blk_free HM.out.b1 4
      have HF := Lib.hid (HM.out.finish (by omega) (by omega))
      subst hjj
      go_wp2
      refine bodyPost_ret (v := .agg (cells5 k i b t q xs.length d)) (results_cell_row rfl _ _ (w.heap.size + 1) _ _ _ _ rfl HF.out.1 Try.underlying25 rfl (by kernel_rfl)) rfl ?_
      exact HF.out.2
end Go.Proofs.Ytooklmgkkkbfdaa
