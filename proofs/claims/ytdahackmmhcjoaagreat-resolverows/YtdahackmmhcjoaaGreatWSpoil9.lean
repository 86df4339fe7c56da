/- The law's own spoil(v), of stage 9: all items of a value that lies in blocks of its own are written over; nothing else changes. -/
import Derived.Test.YtdahackmmhcjoaaGreatM02
namespace Go.Proofs.YtdahackmmhcjoaaGreat
open Go.RowKit

attribute [local go_sem] run_store_float

/-- five cells in the midst of a block are written: the other cells stay -/
theorem set5_cell {w : World} {g o m : Nat} (h : m < o ∨ o + 5 ≤ m) (v0 v1 v2 v3 v4 : Value) : (((((w.setCell ⟨g, o, none⟩ v0).setCell ⟨g, o + 1, none⟩ v1).setCell ⟨g, o + 2, none⟩ v2).setCell ⟨g, o + 3, none⟩ v3).setCell ⟨g, o + 4, none⟩ v4).cell? ⟨g, m, none⟩ = w.cell? ⟨g, m, none⟩ := by
  rw [World.cell?_setCell_other (h := by intro hc; injection hc; omega), World.cell?_setCell_other (h := by intro hc; injection hc; omega), World.cell?_setCell_other (h := by intro hc; injection hc; omega), World.cell?_setCell_other (h := by intro hc; injection hc; omega), World.cell?_setCell_other (h := by intro hc; injection hc; omega)]

theorem aside5 (w : World) (g o0 o1 o2 o3 o4 : Nat) (v0 v1 v2 v3 v4 : Value) : Aside (fun k => k = g) w (((((w.setCell ⟨g, o0, none⟩ v0).setCell ⟨g, o1, none⟩ v1).setCell ⟨g, o2, none⟩ v2).setCell ⟨g, o3, none⟩ v3).setCell ⟨g, o4, none⟩ v4) := by
  have h0 : Aside (fun k => k = g) w (w.setCell ⟨g, o0, none⟩ v0) := (Aside.refl (fun k => k = g) w).setCell (p := ⟨g, o0, none⟩) (.inl rfl) v0
  have h1 := h0.setCell (p := ⟨g, o1, none⟩) (.inl rfl) v1
  have h2 := h1.setCell (p := ⟨g, o2, none⟩) (.inl rfl) v2
  have h3 := h2.setCell (p := ⟨g, o3, none⟩) (.inl rfl) v3
  exact h3.setCell (p := ⟨g, o4, none⟩) (.inl rfl) v4

set_option maxRecDepth 100000 in
set_option maxHeartbeats 1000000 in
theorem spoil9 : ∀ (x : V) (w : World) (F : Nat → Prop) (u : Array Value), VOwn w F u x → (∀ k, F k → k < w.heap.size) → Calls Tryz.prog 7 #[.agg u] w fun e w' => e = .returned (.tuple #[]) ∧ Aside F w w' := by
  intro x
  refine V.ind (P := fun x => ∀ (w : World) (F : Nat → Prop) (u : Array Value), VOwn w F u x → (∀ k, F k → k < w.heap.size) → Calls Tryz.prog 7 #[.agg u] w fun e w' => e = .returned (.tuple #[]) ∧ Aside F w w') ?_ x
  intro k i b t xs ih w F u hx hF
  have HIH := Lib.hid ih
  clear ih
  rcases hx.inv with ⟨k0, i0, b0, t0, p, c, rfl, hx0⟩ | ⟨k0, i0, b0, t0, g, off, c, xs0, us, Fs, rfl, hx0, hl, hc, h5, hp, hf, hg, hgs, hd, hs, hr⟩
  · simp only [V.mk.injEq] at hx0
    obtain ⟨rfl, rfl, rfl, rfl, rfl⟩ := hx0
    unfold cells5
    go_enter Tryz.func7, Tryz.ntmps7
    go_wp2
    go_loopw [2] (fun v2 wr => v2 = .int .i64 0 ∧ wr = w.alloc (.cells #[.int .i64 k, .int .i64 i, .float .f64 b, .string t, .slice p 0 c] 35)) (fun _ _ => 0)
    case atStart => exact ⟨rfl, rfl⟩
    case round =>
      obtain ⟨rfl, rfl⟩ := hrel
      go_wp2
      go_end0
      exact ⟨rfl, (Aside.refl _ _).alloc _⟩
  · simp only [V.mk.injEq] at hx0
    obtain ⟨rfl, rfl, rfl, rfl, rfl⟩ := hx0
    unfold cells5
    have HS : Hid ((∀ j, j < xs.length → ∀ m, m < 5 → w.cell? ⟨g, off + j * 5 + m, none⟩ = (us j)[m]?) ∧ (∀ j, j < xs.length → ∀ m, m < 5 → w.frozen? ⟨g, off + j * 5 + m, none⟩ = false) ∧ (∀ j, j < xs.length → ¬ Fs j g) ∧ (∀ j n, j < xs.length → n < xs.length → j ≠ n → ∀ k, Fs j k → ¬ Fs n k) ∧ (∀ j, j < xs.length → ∀ k, Fs j k → F k) ∧ ∀ j (h : j < xs.length), VOwn w (Fs j) (us j) xs[j]) := ⟨hp.2, hf, hgs, hd, hs, hr⟩
    have hgl := hp.1
    have HF := Lib.hid hF
    have HG := Lib.hid hg
    clear hp hf hgs hd hs hr hF h5 hg
    have hA0 : Aside F w (w.alloc (.cells #[.int .i64 k, .int .i64 i, .float .f64 b, .string t, .slice (some ⟨g, off, none⟩) xs.length c] 35)) := (Aside.refl _ _).alloc _
    have HA0 := Lib.hid hA0
    clear hA0
    go_enter Tryz.func7, Tryz.ntmps7
    go_wp2
    go_loopw [2] (fun v2 wr => ∃ j : Nat, j ≤ xs.length ∧ v2 = .int .i64 j ∧ Hid (wr.heap[w.heap.size]? = some (.cells #[.int .i64 k, .int .i64 i, .float .f64 b, .string t, .slice (some ⟨g, off, none⟩) xs.length c] 35 (0, 0)) ∧ Aside F w wr ∧ (∀ n, n < xs.length → ∀ m, m < 5 → j ≤ n → wr.cell? ⟨g, off + n * 5 + m, none⟩ = (us n)[m]?) ∧ (∀ n, n < xs.length → ∀ m, m < 5 → wr.frozen? ⟨g, off + n * 5 + m, none⟩ = false) ∧ ∀ n (h : n < xs.length), j ≤ n → VOwn wr (Fs n) (us n) xs[n])) (fun v2 _ => xs.length - (intOf v2).toNat)
    case atStart =>
      refine ⟨0, by omega, rfl, blk_new w _, HA0.out, fun n hn m hm _ => ?_, fun n hn m hm => ?_, fun n hn _ => ?_⟩
      · rw [World.cell?_alloc_past _ _ _ hgl]; exact HS.out.1 n hn m hm
      · rw [World.frozen?_of_block (w := w) (blk_old w _ hgl)]; exact HS.out.2.1 n hn m hm
      · exact (HS.out.2.2.2.2.2 n hn).aside (G := fun _ => False) ((Aside.refl _ _).alloc _) (fun _ _ h => h)
    case round =>
      obtain ⟨j, hj, rfl, HL⟩ := hrel
      have c0 : wr.cell? ⟨w.heap.size, 4, none⟩ = some (.slice (some ⟨g, off, none⟩) xs.length c) := blk_cell HL.out.1 4
      by_cases hlt : j < xs.length
      · obtain ⟨k1, i1, b1, t1, p1, n1, c1, hu⟩ := (HS.out.2.2.2.2.2 j hlt).shape
        have cm : ∀ m, m < 5 → wr.cell? ⟨g, off + j * 5 + m, none⟩ = (cells5 k1 i1 b1 t1 p1 n1 c1)[m]? := fun m hm => by rw [← hu]; exact HL.out.2.2.1 j hlt m hm (Nat.le_refl _)
        have a0 : wr.cell? ⟨g, off + j * 5, none⟩ = some (.int .i64 k1) := cm 0 (by omega)
        have a1 : wr.cell? ⟨g, off + j * 5 + 1, none⟩ = some (.int .i64 i1) := cm 1 (by omega)
        have a2 : wr.cell? ⟨g, off + j * 5 + 2, none⟩ = some (.float .f64 b1) := cm 2 (by omega)
        have a3 : wr.cell? ⟨g, off + j * 5 + 3, none⟩ = some (.string t1) := cm 3 (by omega)
        have a4 : wr.cell? ⟨g, off + j * 5 + 4, none⟩ = some (.slice p1 n1 c1) := cm 4 (by omega)
        have hv := HL.out.2.2.2.2 j hlt (Nat.le_refl _)
        rw [hu] at hv
        have hsz := HL.out.2.1.size
        have HC := Lib.hid (HIH.out _ (List.getElem_mem hlt) wr (Fs j) _ hv (fun k hk => by have := HF.out k (HS.out.2.2.2.2.1 j hlt k hk); omega))
        have hj1 : (j : Int) < (xs.length : Int) := by omega
        unfold cells5 at HC
        clear cm hv hu
        go_wp2_with fail
        refine HC.out.mono ?_
        rintro e w2 ⟨rfl, ha⟩
        have hgF : ¬ Fs j g := HS.out.2.2.1 j hlt
        have hgw : g < wr.heap.size := by omega
        have hwF : ¬ Fs j w.heap.size := fun hc => by have := HF.out _ (HS.out.2.2.2.2.1 j hlt _ hc); omega
        have e0 : w2.cell? ⟨w.heap.size, 4, none⟩ = some (.slice (some ⟨g, off, none⟩) xs.length c) := by rw [ha.cell (blk_lt HL.out.1) hwF]; exact c0
        have d0 : w2.cell? ⟨g, off + j * 5, none⟩ = some (.int .i64 k1) := by rw [ha.cell hgw hgF]; exact a0
        have d1 : w2.cell? ⟨g, off + j * 5 + 1, none⟩ = some (.int .i64 i1) := by rw [ha.cell hgw hgF]; exact a1
        have d2 : w2.cell? ⟨g, off + j * 5 + 2, none⟩ = some (.float .f64 b1) := by rw [ha.cell hgw hgF]; exact a2
        have d3 : w2.cell? ⟨g, off + j * 5 + 3, none⟩ = some (.string t1) := by rw [ha.cell hgw hgF]; exact a3
        have d4 : w2.cell? ⟨g, off + j * 5 + 4, none⟩ = some (.slice p1 n1 c1) := by rw [ha.cell hgw hgF]; exact a4
        have hfz : ∀ n, n < xs.length → ∀ m, m < 5 → w2.frozen? ⟨g, off + n * 5 + m, none⟩ = false := fun n hn m hm => by rw [ha.frozen hgw hgF]; exact HL.out.2.2.2.1 n hn m hm
        have f0 : w2.frozen? ⟨g, off + j * 5, none⟩ = false := hfz j hlt 0 (by omega)
        have f1 := hfz j hlt 1 (by omega)
        have f2 := hfz j hlt 2 (by omega)
        have f3 := hfz j hlt 3 (by omega)
        have f4 := hfz j hlt 4 (by omega)
        have HFz := Lib.hid hfz
        have HAs := Lib.hid ha
        clear a0 a1 a2 a3 a4 c0 HC ha hfz
        go_wp2
        go_roundw
        case rel =>
          have hA5 : Aside (fun k => k = g) w2 (((((w2.setCell ⟨g, off + j * 5, none⟩ (.int .i64 77)).setCell ⟨g, off + j * 5 + 1, none⟩ (.int .i64 0)).setCell ⟨g, off + j * 5 + 2, none⟩ (.float .f64 0)).setCell ⟨g, off + j * 5 + 3, none⟩ (.string ⟨#[]⟩)).setCell ⟨g, off + j * 5 + 4, none⟩ (.slice none 0 0)) :=
            aside5 w2 g _ _ _ _ _ _ _ _ _ _
          have hs2 := HAs.out.size
          refine ⟨j + 1, by omega, by go_num, ?_, ?_, fun n hn m hm hjn => ?_, fun n hn m hm => ?_, fun n hn hjn => ?_⟩
          · rw [hA5.block w.heap.size (by have := blk_lt HL.out.1; omega) (by omega), HAs.out.block w.heap.size (blk_lt HL.out.1) hwF]
            exact HL.out.1
          · refine (HL.out.2.1.trans HAs.out (fun q _ hq => HS.out.2.2.2.2.1 j hlt q hq)).trans hA5 (fun q _ hq => by rw [hq]; exact HG.out)
          · rw [set5_cell (by omega), HAs.out.cell hgw hgF]
            exact HL.out.2.2.1 n hn m hm (by omega)
          · rw [World.frozen?_setCell, World.frozen?_setCell, World.frozen?_setCell, World.frozen?_setCell, World.frozen?_setCell]
            exact HFz.out n hn m hm
          · exact ((HL.out.2.2.2.2 n hn (by omega)).aside HAs.out (fun q hq hc => HS.out.2.2.2.1 n j hn hlt (by omega) q hq hc)).aside hA5 (fun q hq hc => HS.out.2.2.1 n hn (by rw [← hc]; exact hq))
        case measure => simp [intOf]; omega
      · have hjn : ¬ (j : Int) < (xs.length : Int) := by omega
        have HA := Lib.hid HL.out.2.1
        clear HL
        go_wp2
        go_end0
        exact ⟨rfl, HA.out⟩
end Go.Proofs.YtdahackmmhcjoaaGreat
