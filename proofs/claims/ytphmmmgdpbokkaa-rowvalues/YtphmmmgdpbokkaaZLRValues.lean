/- RowValues over what the laws ask of package row. -/
import Derived.Test.YtphmmmgdpbokkaaM26
namespace Go.Proofs.Ytphmmmgdpbokkaa
open Go.RowKit

attribute [local go_sem] run_store_float

theorem EncR.told {w w' : World} {er : Nat} {l : List UInt8} {e : Ending} (h : EncR w er l e w') : Told w er (if er = 0 then l else []) e w' := by
  rcases h with ⟨h0, q, cap, rfl, hh, hb⟩ | ⟨h0, rfl, hb⟩
  · rw [if_pos h0, h0]
    obtain ⟨p, c, he, hat, hc⟩ := hh.at
    injection he with h1 h2 h3
    subst h1 h3
    exact ⟨q, cap, rfl, hat, hc, hb⟩
  · rw [if_neg h0]
    exact ⟨none, 0, rfl, .inl rfl, Nat.le_refl _, hb⟩

set_option maxRecDepth 100000 in
set_option maxHeartbeats 2000000 in
theorem rowValues_any {I : World → Prop} (K : RowsOk I) (x : V) (y : Ty) (u v : Array Value) (w : World) (hx : VLies w v x) (hy : TLies w u y) (wx : x.wf) (wy : y.wf) (hI : I w) :
    Calls Try.prog 5 #[.agg u, .agg v] w fun e w' => e = .returned (.bool true) ∧ Below w.heap.size w w' := by
  obtain ⟨k, i, b, t, xs⟩ := x
  obtain ⟨k', ys⟩ := y
  obtain ⟨p, c, rfl, -⟩ := hx.open
  obtain ⟨q, e, rfl, -⟩ := hy.open
  obtain ⟨W0, hW0⟩ : ∃ W0, W0 = (w.alloc (.cells (cells2 k' q ys.length e) 24)).alloc (.cells (cells5 k i b t p xs.length c) 33) := ⟨_, rfl⟩
  have HB0 : Hid (Below w.heap.size w W0) := by rw [hW0]; exact ((Below.refl _ _).alloc (Nat.le_refl _) _).alloc (by simp) _
  have HY : Hid (W0.cell? ⟨w.heap.size + 1, 0, none⟩ = some (.int .i64 k) ∧ W0.cell? ⟨w.heap.size + 1, 1, none⟩ = some (.int .i64 i) ∧ W0.cell? ⟨w.heap.size + 1, 2, none⟩ = some (.float .f64 b) ∧ W0.cell? ⟨w.heap.size + 1, 3, none⟩ = some (.string t) ∧ W0.cell? ⟨w.heap.size + 1, 4, none⟩ = some (.slice p xs.length c) ∧ W0.cell? ⟨w.heap.size, 0, none⟩ = some (.int .i64 k') ∧ W0.cell? ⟨w.heap.size, 1, none⟩ = some (.slice q ys.length e)) := by rw [hW0]; exact ⟨by simp [cells5], by simp [cells5], by simp [cells5], by simp [cells5], by simp [cells5], by simp [cells2], by simp [cells2]⟩
  have HW0 := Lib.hid hW0
  have HE1 := Lib.hid (K.encodeValue _ _ _ _ W0 (hy.on HB0.out) wy (hx.on HB0.out) wx (K.on hI HB0.out))
  have HE2 : Hid (∀ w', Below w.heap.size w w' → Calls Try.prog 16 #[.agg (cells2 k' q ys.length e), .agg (cells5 k i b t p xs.length c)] w' (Told w' (Rw.encErr (.mk k' ys) (.mk k i b t xs)) (Rw.encB (.mk k' ys) (.mk k i b t xs)))) := fun w' hb => (refEncodeValue8 _ _ w' _ _ (hy.on hb) (hx.on hb) wx).mono (fun _ _ h => h.told)
  have HLv := Lib.hid (fun w' (hb : Below w.heap.size w w') => rowLive_ok K w' (K.on hI hb))
  have HLen : Hid ((Rw.encB (.mk k' ys) (.mk k i b t xs)).length ≤ 20000000000) := by
    show _ ≤ _
    unfold Rw.encB
    split
    · next h0 =>
      have h1 : chk 1 (.mk k i b t xs) = 0 := by
        unfold Rw.encErr at h0
        split at h0
        · next h => exact absurd h0 h
        · exact (Rw.vErr_zero h0).2.1
      exact Sch.vB_small h1 (Nat.le_refl _)
    · simp
  obtain ⟨r, hr⟩ : ∃ r, r = Rw.encErr (.mk k' ys) (.mk k i b t xs) := ⟨_, rfl⟩
  obtain ⟨L, hL⟩ : ∃ L, L = Rw.encB (.mk k' ys) (.mk k i b t xs) := ⟨_, rfl⟩
  rw [← hr, ← hL] at HE1 HE2
  rw [← hL] at HLen
  clear hW0 hx hy wx wy hI K hr hL
  unfold cells5 cells2 at *
  go_enter Try.func5, Try.ntmps5
  go_wp2_with fail
  rw [← HW0.out]
  clear HW0
  refine HE1.out.mono ?_
  rintro e w1 ⟨q1, cap1, rfl, hat1, -, hb1⟩
  have HB1 := Lib.hid (HB0.out.trans (hb1.mono HB0.out.size))
  obtain ⟨y0, y1, y2, y3, y4, y5, y6⟩ := HY.out
  have c0 := cell_on hb1 y0
  have c1 := cell_on hb1 y1
  have c2 := cell_on hb1 y2
  have c3 := cell_on hb1 y3
  have c4 := cell_on hb1 y4
  have c5 := cell_on hb1 y5
  have c6 := cell_on hb1 y6
  have HAt1 := Lib.hid hat1
  clear hb1 hat1 y0 y1 y2 y3 y4 y5 y6 HE1 HY
  go_wp2_with fail
  refine (HE2.out w1 HB1.out).mono ?_
  rintro e w2 ⟨q2, cap2, rfl, hat2, -, hb2⟩
  have HB2 := Lib.hid (HB1.out.trans (hb2.mono HB1.out.size))
  have HAt1b := Lib.hid (HAt1.out.on hb2)
  have HAt2 := Lib.hid hat2
  clear hb2 hat2 c0 c1 c2 c3 c4 c5 c6 HE2 HAt1
  go_wp2_with fail
  refine (HLv.out w2 HB2.out).mono ?_
  rintro e w3 ⟨rfl, hb3⟩
  have HB3 := Lib.hid (HB2.out.trans (hb3.mono HB2.out.size))
  have HSm := Lib.hid (same_any q1 q2 cap1 cap2 L L (by have := HLen.out; omega) w3 (HAt1b.out.on hb3) (HAt2.out.on hb3))
  clear hb3 HLv
  go_wp2_with fail
  refine HSm.out.mono ?_
  rintro e w4 ⟨rfl, n, rfl⟩
  go_wp2
  go_ret
  exact ⟨by simp, below_drewN HB3.out n⟩
end Go.Proofs.Ytphmmmgdpbokkaa
