/- The landed frame: Decode. -/
import Derived.Test.YtclhbhhlddbocaaGreatDoorK12L
import Derived.Test.YtclhbhhlddbocaaGreatDoorK12M
import Derived.Test.YtclhbhhlddbocaaGreatDoorK12N
import Derived.Defers
import Derived.Recover
namespace Go.Proofs.YtclhbhhlddbocaaGreatDoor
open Go.RowKit

theorem heap_drew12 (w : World) : w.drew.heap = w.heap := rfl
/-- eleven cells of a block, one behind the other -/
def set11 (w : World) (g : Nat) (c0 c1 c2 c3 c4 c5 c6 c7 c8 c9 c10 : Value) : World := ((((((((((w.setCell ⟨g, 0, none⟩ c0).setCell ⟨g, 1, none⟩ c1).setCell ⟨g, 2, none⟩ c2).setCell ⟨g, 3, none⟩ c3).setCell ⟨g, 4, none⟩ c4).setCell ⟨g, 5, none⟩ c5).setCell ⟨g, 6, none⟩ c6).setCell ⟨g, 7, none⟩ c7).setCell ⟨g, 8, none⟩ c8).setCell ⟨g, 9, none⟩ c9).setCell ⟨g, 10, none⟩ c10
theorem set11_block {w : World} {g : Nat} {T : TypeId} {d0 d1 d2 d3 d4 d5 d6 d7 d8 d9 d10 : Value} (h : w.heap[g]? = some (.cells #[d0, d1, d2, d3, d4, d5, d6, d7, d8, d9, d10] T (0, 0))) (c0 c1 c2 c3 c4 c5 c6 c7 c8 c9 c10 : Value) : (set11 w g c0 c1 c2 c3 c4 c5 c6 c7 c8 c9 c10).heap[g]? = some (.cells #[c0, c1, c2, c3, c4, c5, c6, c7, c8, c9, c10] T (0, 0)) := by
  have b0 : (w.setCell ⟨g, 0, none⟩ c0).heap[g]? = some (.cells #[c0, d1, d2, d3, d4, d5, d6, d7, d8, d9, d10] T (0, 0)) := blk_set h 0 _
  have b1 : ((w.setCell ⟨g, 0, none⟩ c0).setCell ⟨g, 1, none⟩ c1).heap[g]? = some (.cells #[c0, c1, d2, d3, d4, d5, d6, d7, d8, d9, d10] T (0, 0)) := blk_set b0 1 _
  have b2 : (((w.setCell ⟨g, 0, none⟩ c0).setCell ⟨g, 1, none⟩ c1).setCell ⟨g, 2, none⟩ c2).heap[g]? = some (.cells #[c0, c1, c2, d3, d4, d5, d6, d7, d8, d9, d10] T (0, 0)) := blk_set b1 2 _
  have b3 : ((((w.setCell ⟨g, 0, none⟩ c0).setCell ⟨g, 1, none⟩ c1).setCell ⟨g, 2, none⟩ c2).setCell ⟨g, 3, none⟩ c3).heap[g]? = some (.cells #[c0, c1, c2, c3, d4, d5, d6, d7, d8, d9, d10] T (0, 0)) := blk_set b2 3 _
  have b4 : (((((w.setCell ⟨g, 0, none⟩ c0).setCell ⟨g, 1, none⟩ c1).setCell ⟨g, 2, none⟩ c2).setCell ⟨g, 3, none⟩ c3).setCell ⟨g, 4, none⟩ c4).heap[g]? = some (.cells #[c0, c1, c2, c3, c4, d5, d6, d7, d8, d9, d10] T (0, 0)) := blk_set b3 4 _
  have b5 : ((((((w.setCell ⟨g, 0, none⟩ c0).setCell ⟨g, 1, none⟩ c1).setCell ⟨g, 2, none⟩ c2).setCell ⟨g, 3, none⟩ c3).setCell ⟨g, 4, none⟩ c4).setCell ⟨g, 5, none⟩ c5).heap[g]? = some (.cells #[c0, c1, c2, c3, c4, c5, d6, d7, d8, d9, d10] T (0, 0)) := blk_set b4 5 _
  have b6 : (((((((w.setCell ⟨g, 0, none⟩ c0).setCell ⟨g, 1, none⟩ c1).setCell ⟨g, 2, none⟩ c2).setCell ⟨g, 3, none⟩ c3).setCell ⟨g, 4, none⟩ c4).setCell ⟨g, 5, none⟩ c5).setCell ⟨g, 6, none⟩ c6).heap[g]? = some (.cells #[c0, c1, c2, c3, c4, c5, c6, d7, d8, d9, d10] T (0, 0)) := blk_set b5 6 _
  have b7 : ((((((((w.setCell ⟨g, 0, none⟩ c0).setCell ⟨g, 1, none⟩ c1).setCell ⟨g, 2, none⟩ c2).setCell ⟨g, 3, none⟩ c3).setCell ⟨g, 4, none⟩ c4).setCell ⟨g, 5, none⟩ c5).setCell ⟨g, 6, none⟩ c6).setCell ⟨g, 7, none⟩ c7).heap[g]? = some (.cells #[c0, c1, c2, c3, c4, c5, c6, c7, d8, d9, d10] T (0, 0)) := blk_set b6 7 _
  have b8 : (((((((((w.setCell ⟨g, 0, none⟩ c0).setCell ⟨g, 1, none⟩ c1).setCell ⟨g, 2, none⟩ c2).setCell ⟨g, 3, none⟩ c3).setCell ⟨g, 4, none⟩ c4).setCell ⟨g, 5, none⟩ c5).setCell ⟨g, 6, none⟩ c6).setCell ⟨g, 7, none⟩ c7).setCell ⟨g, 8, none⟩ c8).heap[g]? = some (.cells #[c0, c1, c2, c3, c4, c5, c6, c7, c8, d9, d10] T (0, 0)) := blk_set b7 8 _
  have b9 : ((((((((((w.setCell ⟨g, 0, none⟩ c0).setCell ⟨g, 1, none⟩ c1).setCell ⟨g, 2, none⟩ c2).setCell ⟨g, 3, none⟩ c3).setCell ⟨g, 4, none⟩ c4).setCell ⟨g, 5, none⟩ c5).setCell ⟨g, 6, none⟩ c6).setCell ⟨g, 7, none⟩ c7).setCell ⟨g, 8, none⟩ c8).setCell ⟨g, 9, none⟩ c9).heap[g]? = some (.cells #[c0, c1, c2, c3, c4, c5, c6, c7, c8, c9, d10] T (0, 0)) := blk_set b8 9 _
  have b10 : (((((((((((w.setCell ⟨g, 0, none⟩ c0).setCell ⟨g, 1, none⟩ c1).setCell ⟨g, 2, none⟩ c2).setCell ⟨g, 3, none⟩ c3).setCell ⟨g, 4, none⟩ c4).setCell ⟨g, 5, none⟩ c5).setCell ⟨g, 6, none⟩ c6).setCell ⟨g, 7, none⟩ c7).setCell ⟨g, 8, none⟩ c8).setCell ⟨g, 9, none⟩ c9).setCell ⟨g, 10, none⟩ c10).heap[g]? = some (.cells #[c0, c1, c2, c3, c4, c5, c6, c7, c8, c9, c10] T (0, 0)) := blk_set b9 10 _
  exact b10
theorem set11_aside (w : World) (g : Nat) (c0 c1 c2 c3 c4 c5 c6 c7 c8 c9 c10 : Value) : Aside (fun i => i = g) w (set11 w g c0 c1 c2 c3 c4 c5 c6 c7 c8 c9 c10) := (((((((((((aside_set w g 0 _).trans (aside_set _ g 1 _) (fun _ _ h => h)).trans (aside_set _ g 2 _) (fun _ _ h => h)).trans (aside_set _ g 3 _) (fun _ _ h => h)).trans (aside_set _ g 4 _) (fun _ _ h => h)).trans (aside_set _ g 5 _) (fun _ _ h => h)).trans (aside_set _ g 6 _) (fun _ _ h => h)).trans (aside_set _ g 7 _) (fun _ _ h => h)).trans (aside_set _ g 8 _) (fun _ _ h => h)).trans (aside_set _ g 9 _) (fun _ _ h => h)).trans (aside_set _ g 10 _) (fun _ _ h => h))

/-- while Decode runs: its two results' places -/
structure DecIn12 (w W : World) (y : Int) : Prop where
  b0 : W.heap[w.heap.size]? = some (.cells #[.int .i64 0, .int .i64 0, .slice none 0 0, .int .i64 0, .int .i64 0, .int .i64 0, .slice none 0 0, .int .i64 0, .int .i64 0, .int .i64 0, .slice none 0 0] 30 (0, 0))
  b1 : W.heap[w.heap.size + 1]? = some (.cells #[.int .i64 y] 31 (0, 0))
  size : w.heap.size + 2 ≤ W.heap.size
  below : Below w.heap.size w W
theorem decIn12_start (w : World) : DecIn12 w ((w.alloc (.cells #[.int .i64 0, .int .i64 0, .slice none 0 0, .int .i64 0, .int .i64 0, .int .i64 0, .slice none 0 0, .int .i64 0, .int .i64 0, .int .i64 0, .slice none 0 0] 30)).alloc (.cells #[.int .i64 0] 31)) 0 :=
  ⟨blk_first w _ _, blk_second w _ _, by simp, ((Below.refl _ _).alloc (Nat.le_refl _) _).alloc (by simp) _⟩
theorem DecIn12.on {w W W' : World} {y : Int} (h : DecIn12 w W y) (hb : Below W.heap.size W W') : DecIn12 w W' y := by
  have hs := h.size
  exact ⟨(hb.block _ (by omega)).trans h.b0, (hb.block _ (by omega)).trans h.b1, Nat.le_trans hs hb.size, h.below.trans (hb.mono (by omega))⟩
theorem DecIn12.step {w W W' : World} {y : Int} {R : Nat} (h : DecIn12 w W y) (ha : Aside (fun i => i = R) W W') (hR : w.heap.size + 2 ≤ R) : DecIn12 w W' y := by
  have hs := h.size
  exact ⟨(ha.block _ (by omega) (by omega)).trans h.b0, (ha.block _ (by omega) (by omega)).trans h.b1, Nat.le_trans hs ha.size, h.below.trans (ha.below (by omega) (fun k hk => by omega))⟩
theorem DecIn12.setE {w W : World} {y : Int} (h : DecIn12 w W y) (y' : Int) : DecIn12 w (W.setCell ⟨w.heap.size + 1, 0, none⟩ (.int .i64 y')) y' := by
  have hs := h.size
  have ha : Aside (fun i => i = w.heap.size + 1) W (W.setCell ⟨w.heap.size + 1, 0, none⟩ (.int .i64 y')) := aside_set _ _ _ _
  exact ⟨(ha.block _ (by omega) (by omega)).trans h.b0, blk_set h.b1 0 _, Nat.le_trans hs ha.size, h.below.trans (ha.below (by omega) (fun k hk => by omega))⟩
theorem DecIn12.drew {w W : World} {y : Int} (h : DecIn12 w W y) : DecIn12 w W.drew y := ⟨h.b0, h.b1, h.size, h.below.drew⟩

theorem run_assert12 (k : Int) (w : World) : (Instr.typeAssert (.iface 31 (.int .i64 k)) 20 31 false).run Tryz.prog w = .ok (.int .i64 k) w := by kernel_rfl

set_option maxRecDepth 100000 in
set_option maxHeartbeats 2000000 in
theorem catch12_panicking (G E : Nat) (k : Int) (y : Int) (w : World) (hG : w.heap[G]? = some (.cells #[.int .i64 0, .int .i64 0, .slice none 0 0, .int .i64 0, .int .i64 0, .int .i64 0, .slice none 0 0, .int .i64 0, .int .i64 0, .int .i64 0, .slice none 0 0] 30 (0, 0))) (hE : w.heap[E]? = some (.cells #[.int .i64 y] 31 (0, 0))) (hne : G ≠ E) :
    CallsD Tryz.prog 55 #[.pointer (some ⟨G, 0, none⟩), .pointer (some ⟨E, 0, none⟩)] (.panicking [{ v := .iface 31 (.int .i64 k), recovered := false }]) w fun e u' w' =>
      e = .returned (.tuple #[]) ∧ u' = .panicking [{ v := .iface 31 (.int .i64 k), recovered := true }] ∧ w'.heap[G]? = some (.cells #[.int .i64 0, .int .i64 0, .slice none 0 0, .int .i64 0, .int .i64 0, .int .i64 0, .slice none 0 0, .int .i64 0, .int .i64 0, .int .i64 0, .slice none 0 0] 30 (0, 0)) ∧ w'.heap[E]? = some (.cells #[.int .i64 k] 31 (0, 0)) ∧ Aside (fun i => i = G ∨ i = E) w w' := by
  have hta := run_assert12 k
  have x0 : w.cell? ⟨G, 0, none⟩ = some (.int .i64 0) := blk_cell hG 0
  have xf0 := blk_free hG 0
  have x1 : w.cell? ⟨G, 1, none⟩ = some (.int .i64 0) := blk_cell hG 1
  have xf1 := blk_free hG 1
  have x2 : w.cell? ⟨G, 2, none⟩ = some (.slice none 0 0) := blk_cell hG 2
  have xf2 := blk_free hG 2
  have x3 : w.cell? ⟨G, 3, none⟩ = some (.int .i64 0) := blk_cell hG 3
  have xf3 := blk_free hG 3
  have x4 : w.cell? ⟨G, 4, none⟩ = some (.int .i64 0) := blk_cell hG 4
  have xf4 := blk_free hG 4
  have x5 : w.cell? ⟨G, 5, none⟩ = some (.int .i64 0) := blk_cell hG 5
  have xf5 := blk_free hG 5
  have x6 : w.cell? ⟨G, 6, none⟩ = some (.slice none 0 0) := blk_cell hG 6
  have xf6 := blk_free hG 6
  have x7 : w.cell? ⟨G, 7, none⟩ = some (.int .i64 0) := blk_cell hG 7
  have xf7 := blk_free hG 7
  have x8 : w.cell? ⟨G, 8, none⟩ = some (.int .i64 0) := blk_cell hG 8
  have xf8 := blk_free hG 8
  have x9 : w.cell? ⟨G, 9, none⟩ = some (.int .i64 0) := blk_cell hG 9
  have xf9 := blk_free hG 9
  have x10 : w.cell? ⟨G, 10, none⟩ = some (.slice none 0 0) := blk_cell hG 10
  have xf10 := blk_free hG 10
  have y0 : w.cell? ⟨E, 0, none⟩ = some (.int .i64 y) := blk_cell hE 0
  have yf0 := blk_free hE 0
  have hne2 : E ≠ G := fun h => hne h.symm
  obtain ⟨W, hW⟩ : ∃ W, W = ((((((((((((w.setCell ⟨G, 0, none⟩ (.int .i64 0)).setCell ⟨G, 1, none⟩ (.int .i64 0)).setCell ⟨G, 2, none⟩ (.slice none 0 0)).setCell ⟨G, 3, none⟩ (.int .i64 0)).setCell ⟨G, 4, none⟩ (.int .i64 0)).setCell ⟨G, 5, none⟩ (.int .i64 0)).setCell ⟨G, 6, none⟩ (.slice none 0 0)).setCell ⟨G, 7, none⟩ (.int .i64 0)).setCell ⟨G, 8, none⟩ (.int .i64 0)).setCell ⟨G, 9, none⟩ (.int .i64 0)).setCell ⟨G, 10, none⟩ (.slice none 0 0)).setCell ⟨E, 0, none⟩ (.int .i64 k)).drew := ⟨_, rfl⟩
  have hA1 : Aside (fun i => i = G) w (((((((((((w.setCell ⟨G, 0, none⟩ (.int .i64 0)).setCell ⟨G, 1, none⟩ (.int .i64 0)).setCell ⟨G, 2, none⟩ (.slice none 0 0)).setCell ⟨G, 3, none⟩ (.int .i64 0)).setCell ⟨G, 4, none⟩ (.int .i64 0)).setCell ⟨G, 5, none⟩ (.int .i64 0)).setCell ⟨G, 6, none⟩ (.slice none 0 0)).setCell ⟨G, 7, none⟩ (.int .i64 0)).setCell ⟨G, 8, none⟩ (.int .i64 0)).setCell ⟨G, 9, none⟩ (.int .i64 0)).setCell ⟨G, 10, none⟩ (.slice none 0 0)) := set11_aside w G (.int .i64 0) (.int .i64 0) (.slice none 0 0) (.int .i64 0) (.int .i64 0) (.int .i64 0) (.slice none 0 0) (.int .i64 0) (.int .i64 0) (.int .i64 0) (.slice none 0 0)
  have hG1 : (((((((((((w.setCell ⟨G, 0, none⟩ (.int .i64 0)).setCell ⟨G, 1, none⟩ (.int .i64 0)).setCell ⟨G, 2, none⟩ (.slice none 0 0)).setCell ⟨G, 3, none⟩ (.int .i64 0)).setCell ⟨G, 4, none⟩ (.int .i64 0)).setCell ⟨G, 5, none⟩ (.int .i64 0)).setCell ⟨G, 6, none⟩ (.slice none 0 0)).setCell ⟨G, 7, none⟩ (.int .i64 0)).setCell ⟨G, 8, none⟩ (.int .i64 0)).setCell ⟨G, 9, none⟩ (.int .i64 0)).setCell ⟨G, 10, none⟩ (.slice none 0 0)).heap[G]? = some (.cells #[.int .i64 0, .int .i64 0, .slice none 0 0, .int .i64 0, .int .i64 0, .int .i64 0, .slice none 0 0, .int .i64 0, .int .i64 0, .int .i64 0, .slice none 0 0] 30 (0, 0)) := set11_block hG (.int .i64 0) (.int .i64 0) (.slice none 0 0) (.int .i64 0) (.int .i64 0) (.int .i64 0) (.slice none 0 0) (.int .i64 0) (.int .i64 0) (.int .i64 0) (.slice none 0 0)
  have hE1 : (((((((((((w.setCell ⟨G, 0, none⟩ (.int .i64 0)).setCell ⟨G, 1, none⟩ (.int .i64 0)).setCell ⟨G, 2, none⟩ (.slice none 0 0)).setCell ⟨G, 3, none⟩ (.int .i64 0)).setCell ⟨G, 4, none⟩ (.int .i64 0)).setCell ⟨G, 5, none⟩ (.int .i64 0)).setCell ⟨G, 6, none⟩ (.slice none 0 0)).setCell ⟨G, 7, none⟩ (.int .i64 0)).setCell ⟨G, 8, none⟩ (.int .i64 0)).setCell ⟨G, 9, none⟩ (.int .i64 0)).setCell ⟨G, 10, none⟩ (.slice none 0 0)).heap[E]? = some (.cells #[.int .i64 y] 31 (0, 0)) := (hA1.block E (blk_lt hE) hne2).trans hE
  have HF1 : Hid (W.heap[G]? = some (.cells #[.int .i64 0, .int .i64 0, .slice none 0 0, .int .i64 0, .int .i64 0, .int .i64 0, .slice none 0 0, .int .i64 0, .int .i64 0, .int .i64 0, .slice none 0 0] 30 (0, 0))) := by
    show _ = _
    rw [hW, heap_drew12]
    exact ((aside_set (((((((((((w.setCell ⟨G, 0, none⟩ (.int .i64 0)).setCell ⟨G, 1, none⟩ (.int .i64 0)).setCell ⟨G, 2, none⟩ (.slice none 0 0)).setCell ⟨G, 3, none⟩ (.int .i64 0)).setCell ⟨G, 4, none⟩ (.int .i64 0)).setCell ⟨G, 5, none⟩ (.int .i64 0)).setCell ⟨G, 6, none⟩ (.slice none 0 0)).setCell ⟨G, 7, none⟩ (.int .i64 0)).setCell ⟨G, 8, none⟩ (.int .i64 0)).setCell ⟨G, 9, none⟩ (.int .i64 0)).setCell ⟨G, 10, none⟩ (.slice none 0 0)) E 0 (.int .i64 k)).block G (blk_lt hG1) hne).trans hG1
  have HF2 : Hid (W.heap[E]? = some (.cells #[.int .i64 k] 31 (0, 0))) := by
    show _ = _
    rw [hW, heap_drew12]
    exact blk_set hE1 0 _
  have HF3 : Hid (Aside (fun i => i = G ∨ i = E) w W) := by
    rw [hW]
    exact ((hA1.mono (fun _ _ h => .inl h)).trans (aside_set _ E 0 _) (fun _ _ h => .inr h)).drew
  have HW : Hid (((((((((((((w.setCell ⟨G, 0, none⟩ (.int .i64 0)).setCell ⟨G, 1, none⟩ (.int .i64 0)).setCell ⟨G, 2, none⟩ (.slice none 0 0)).setCell ⟨G, 3, none⟩ (.int .i64 0)).setCell ⟨G, 4, none⟩ (.int .i64 0)).setCell ⟨G, 5, none⟩ (.int .i64 0)).setCell ⟨G, 6, none⟩ (.slice none 0 0)).setCell ⟨G, 7, none⟩ (.int .i64 0)).setCell ⟨G, 8, none⟩ (.int .i64 0)).setCell ⟨G, 9, none⟩ (.int .i64 0)).setCell ⟨G, 10, none⟩ (.slice none 0 0)).setCell ⟨E, 0, none⟩ (.int .i64 k)).drew = W) := by rw [hW]; exact rfl
  clear hG hE hW hA1 hG1 hE1
  refine callsD_of_wpS Tryz.func55 rfl fun c₀ cs hu => ?_
  apply wpS_seq
  apply wpS_region
  simp [wpOpsS, go_sem, recoverD, hu, Tryz.ntmps55, Exit.thenS]
  refine wpS_of_wp ?_
  go_wp2_with fail
  go_region_law (fail)
  all_goals
    show bodyPostS Tryz.prog Tryz.f55 c₀ cs _ Exit.normal _ _ _
    rw [HW.out]
    simp [bodyPostS, results, Tryz.results55]
    exact ⟨HF1.out, HF2.out, HF3.out⟩

set_option maxRecDepth 100000 in
set_option maxHeartbeats 1000000 in
theorem catch12_idle (p q : Addr) (w : World) :
    CallsD Tryz.prog 55 #[.pointer (some p), .pointer (some q)] .returning w fun e u' w' => e = .returned (.tuple #[]) ∧ u' = .returning ∧ w' = w := by
  refine callsD_of_wpS Tryz.func55 rfl fun c₀ cs hu => ?_
  apply wpS_seq
  apply wpS_region
  simp [wpOpsS, go_sem, recoverD, hu, Tryz.ntmps55, Exit.thenS]
  refine wpS_of_wp ?_
  go_wp2_with fail
  cases c₀
  simp_all [bodyPostS, results, Tryz.results55]
end Go.Proofs.YtclhbhhlddbocaaGreatDoor
