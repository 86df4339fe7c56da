/- The landed frame: Decode of a run that is none. -/
import Derived.Test.YtclhbhhlddbocaaGreatDoorK12R
namespace Go.Proofs.YtclhbhhlddbocaaGreatDoor
open Go.RowKit

set_option maxRecDepth 100000 in
set_option maxHeartbeats 8000000 in
theorem decodeF_bad (er : Nat) (p : Option Addr) (c : Nat) (l : List UInt8) (hl : l.length ≤ 140737488351232) (hlc : l.length ≤ c) (w : World) (hv : Hv w) (h : At w p l) (mo : Fr.open_ l = .error er) :
    Calls Tryz.prog 21 #[.slice p l.length c] w (DecF w (Fr.dec l)) := by
  have hmf : ∀ (fn : Fn) (first cap : Array Value) (w : World), (Instr.makeFunc fn first cap).run Tryz.prog w = .ok (.func fn first cap) w := fun _ _ _ _ => rfl
  obtain ⟨r, hr⟩ : ∃ r, r = Fr.dec l := ⟨_, rfl⟩
  have HR : Hid (r = match Fr.open_ l with
    | .error e => .error e
    | .ok b => Fr.rdF (b.headD 0).toNat b.tail) := hr
  have HDe := Lib.hid hr
  rw [← hr]
  obtain ⟨W0, hW0⟩ : ∃ W0, W0 = (w.alloc (.cells #[.int .i64 0, .int .i64 0, .slice none 0 0, .int .i64 0, .int .i64 0, .int .i64 0, .slice none 0 0, .int .i64 0, .int .i64 0, .int .i64 0, .slice none 0 0] 30)).alloc (.cells #[.int .i64 0] 31) := ⟨_, rfl⟩
  have HI0 : Hid (DecIn12 w W0 0) := by rw [hW0]; exact decIn12_start w
  have HW0 : Hid ((w.alloc (.cells #[.int .i64 0, .int .i64 0, .slice none 0 0, .int .i64 0, .int .i64 0, .int .i64 0, .slice none 0 0, .int .i64 0, .int .i64 0, .int .i64 0, .slice none 0 0] 30)).alloc (.cells #[.int .i64 0] 31) = W0) := by rw [hW0]; exact rfl
  have HO := Lib.hid (openF p c l hl hlc W0 (hv.next HI0.out.below) (h.on HI0.out.below))
  clear hr hW0 hv h
  rw [mo] at HO
  have hne := open_ne mo
  have g0 : ((er : Int) != 0) = true := by rw [bne_iff_ne]; omega
  have HR2 : Hid (r = .error er) := by show _ = _; rw [HR.out, mo]
  clear mo HR hne HDe
  go_enter_defers Tryz.func21, Tryz.ntmps21
  go_wp2_with fail
  rw [HW0.out]
  refine HO.out.mono ?_
  rintro e w1 ⟨rfl, hb⟩
  have hI1 := HI0.out.on hb
  have x0 : w1.cell? ⟨w.heap.size, 0, none⟩ = some (.int .i64 0) := blk_cell hI1.b0 0
  have xf0 := blk_free hI1.b0 0
  have x1 : w1.cell? ⟨w.heap.size, 1, none⟩ = some (.int .i64 0) := blk_cell hI1.b0 1
  have xf1 := blk_free hI1.b0 1
  have x2 : w1.cell? ⟨w.heap.size, 2, none⟩ = some (.slice none 0 0) := blk_cell hI1.b0 2
  have xf2 := blk_free hI1.b0 2
  have x3 : w1.cell? ⟨w.heap.size, 3, none⟩ = some (.int .i64 0) := blk_cell hI1.b0 3
  have xf3 := blk_free hI1.b0 3
  have x4 : w1.cell? ⟨w.heap.size, 4, none⟩ = some (.int .i64 0) := blk_cell hI1.b0 4
  have xf4 := blk_free hI1.b0 4
  have x5 : w1.cell? ⟨w.heap.size, 5, none⟩ = some (.int .i64 0) := blk_cell hI1.b0 5
  have xf5 := blk_free hI1.b0 5
  have x6 : w1.cell? ⟨w.heap.size, 6, none⟩ = some (.slice none 0 0) := blk_cell hI1.b0 6
  have xf6 := blk_free hI1.b0 6
  have x7 : w1.cell? ⟨w.heap.size, 7, none⟩ = some (.int .i64 0) := blk_cell hI1.b0 7
  have xf7 := blk_free hI1.b0 7
  have x8 : w1.cell? ⟨w.heap.size, 8, none⟩ = some (.int .i64 0) := blk_cell hI1.b0 8
  have xf8 := blk_free hI1.b0 8
  have x9 : w1.cell? ⟨w.heap.size, 9, none⟩ = some (.int .i64 0) := blk_cell hI1.b0 9
  have xf9 := blk_free hI1.b0 9
  have x10 : w1.cell? ⟨w.heap.size, 10, none⟩ = some (.slice none 0 0) := blk_cell hI1.b0 10
  have xf10 := blk_free hI1.b0 10
  have y0 : w1.cell? ⟨w.heap.size + 1, 0, none⟩ = some (.int .i64 0) := blk_cell hI1.b1 0
  have yf0 := blk_free hI1.b1 0
  have hI2 := hI1.setE er
  obtain ⟨W2, hW2⟩ : ∃ W2, W2 = (((((((((((((w1.setCell ⟨w.heap.size + 1, 0, none⟩ (.int .i64 er)).setCell ⟨w.heap.size, 0, none⟩ (.int .i64 0)).setCell ⟨w.heap.size, 1, none⟩ (.int .i64 0)).setCell ⟨w.heap.size, 2, none⟩ (.slice none 0 0)).setCell ⟨w.heap.size, 3, none⟩ (.int .i64 0)).setCell ⟨w.heap.size, 4, none⟩ (.int .i64 0)).setCell ⟨w.heap.size, 5, none⟩ (.int .i64 0)).setCell ⟨w.heap.size, 6, none⟩ (.slice none 0 0)).setCell ⟨w.heap.size, 7, none⟩ (.int .i64 0)).setCell ⟨w.heap.size, 8, none⟩ (.int .i64 0)).setCell ⟨w.heap.size, 9, none⟩ (.int .i64 0)).setCell ⟨w.heap.size, 10, none⟩ (.slice none 0 0)).setCell ⟨w.heap.size + 1, 0, none⟩ (.int .i64 er)).drew := ⟨_, rfl⟩
  have hA1 : Aside (fun i => i = w.heap.size) (w1.setCell ⟨w.heap.size + 1, 0, none⟩ (.int .i64 er)) ((((((((((((w1.setCell ⟨w.heap.size + 1, 0, none⟩ (.int .i64 er)).setCell ⟨w.heap.size, 0, none⟩ (.int .i64 0)).setCell ⟨w.heap.size, 1, none⟩ (.int .i64 0)).setCell ⟨w.heap.size, 2, none⟩ (.slice none 0 0)).setCell ⟨w.heap.size, 3, none⟩ (.int .i64 0)).setCell ⟨w.heap.size, 4, none⟩ (.int .i64 0)).setCell ⟨w.heap.size, 5, none⟩ (.int .i64 0)).setCell ⟨w.heap.size, 6, none⟩ (.slice none 0 0)).setCell ⟨w.heap.size, 7, none⟩ (.int .i64 0)).setCell ⟨w.heap.size, 8, none⟩ (.int .i64 0)).setCell ⟨w.heap.size, 9, none⟩ (.int .i64 0)).setCell ⟨w.heap.size, 10, none⟩ (.slice none 0 0)) := set11_aside _ w.heap.size (.int .i64 0) (.int .i64 0) (.slice none 0 0) (.int .i64 0) (.int .i64 0) (.int .i64 0) (.slice none 0 0) (.int .i64 0) (.int .i64 0) (.int .i64 0) (.slice none 0 0)
  have hG1 : ((((((((((((w1.setCell ⟨w.heap.size + 1, 0, none⟩ (.int .i64 er)).setCell ⟨w.heap.size, 0, none⟩ (.int .i64 0)).setCell ⟨w.heap.size, 1, none⟩ (.int .i64 0)).setCell ⟨w.heap.size, 2, none⟩ (.slice none 0 0)).setCell ⟨w.heap.size, 3, none⟩ (.int .i64 0)).setCell ⟨w.heap.size, 4, none⟩ (.int .i64 0)).setCell ⟨w.heap.size, 5, none⟩ (.int .i64 0)).setCell ⟨w.heap.size, 6, none⟩ (.slice none 0 0)).setCell ⟨w.heap.size, 7, none⟩ (.int .i64 0)).setCell ⟨w.heap.size, 8, none⟩ (.int .i64 0)).setCell ⟨w.heap.size, 9, none⟩ (.int .i64 0)).setCell ⟨w.heap.size, 10, none⟩ (.slice none 0 0)).heap[w.heap.size]? = some (.cells #[.int .i64 0, .int .i64 0, .slice none 0 0, .int .i64 0, .int .i64 0, .int .i64 0, .slice none 0 0, .int .i64 0, .int .i64 0, .int .i64 0, .slice none 0 0] 30 (0, 0)) := set11_block hI2.b0 (.int .i64 0) (.int .i64 0) (.slice none 0 0) (.int .i64 0) (.int .i64 0) (.int .i64 0) (.slice none 0 0) (.int .i64 0) (.int .i64 0) (.int .i64 0) (.slice none 0 0)
  have hE1 : ((((((((((((w1.setCell ⟨w.heap.size + 1, 0, none⟩ (.int .i64 er)).setCell ⟨w.heap.size, 0, none⟩ (.int .i64 0)).setCell ⟨w.heap.size, 1, none⟩ (.int .i64 0)).setCell ⟨w.heap.size, 2, none⟩ (.slice none 0 0)).setCell ⟨w.heap.size, 3, none⟩ (.int .i64 0)).setCell ⟨w.heap.size, 4, none⟩ (.int .i64 0)).setCell ⟨w.heap.size, 5, none⟩ (.int .i64 0)).setCell ⟨w.heap.size, 6, none⟩ (.slice none 0 0)).setCell ⟨w.heap.size, 7, none⟩ (.int .i64 0)).setCell ⟨w.heap.size, 8, none⟩ (.int .i64 0)).setCell ⟨w.heap.size, 9, none⟩ (.int .i64 0)).setCell ⟨w.heap.size, 10, none⟩ (.slice none 0 0)).heap[w.heap.size + 1]? = some (.cells #[.int .i64 er] 31 (0, 0)) := (hA1.block _ (blk_lt hI2.b1) (by omega)).trans hI2.b1
  have hA2 := aside_set ((((((((((((w1.setCell ⟨w.heap.size + 1, 0, none⟩ (.int .i64 er)).setCell ⟨w.heap.size, 0, none⟩ (.int .i64 0)).setCell ⟨w.heap.size, 1, none⟩ (.int .i64 0)).setCell ⟨w.heap.size, 2, none⟩ (.slice none 0 0)).setCell ⟨w.heap.size, 3, none⟩ (.int .i64 0)).setCell ⟨w.heap.size, 4, none⟩ (.int .i64 0)).setCell ⟨w.heap.size, 5, none⟩ (.int .i64 0)).setCell ⟨w.heap.size, 6, none⟩ (.slice none 0 0)).setCell ⟨w.heap.size, 7, none⟩ (.int .i64 0)).setCell ⟨w.heap.size, 8, none⟩ (.int .i64 0)).setCell ⟨w.heap.size, 9, none⟩ (.int .i64 0)).setCell ⟨w.heap.size, 10, none⟩ (.slice none 0 0)) (w.heap.size + 1) 0 (.int .i64 er)
  have HF1 : Hid (W2.heap[w.heap.size]? = some (.cells #[.int .i64 0, .int .i64 0, .slice none 0 0, .int .i64 0, .int .i64 0, .int .i64 0, .slice none 0 0, .int .i64 0, .int .i64 0, .int .i64 0, .slice none 0 0] 30 (0, 0))) := by
    show _ = _
    rw [hW2, heap_drew12]
    exact (hA2.block _ (blk_lt hG1) (by omega)).trans hG1
  have HF2 : Hid (W2.cell? ⟨w.heap.size + 1, 0, none⟩ = some (.int .i64 er)) := by
    have : W2.heap[w.heap.size + 1]? = some (.cells #[.int .i64 er] 31 (0, 0)) := by rw [hW2, heap_drew12]; exact blk_set hE1 0 _
    exact blk_cell this 0
  have HF3 : Hid (Below w.heap.size w W2) := by
    have hs := hI2.size
    rw [hW2]
    exact (hI2.below.trans (((hA1.mono (G := fun i => i = w.heap.size ∨ i = w.heap.size + 1) (fun _ _ h => .inl h)).trans hA2 (fun _ _ h => .inr h)).below (by omega) (fun k hk => by omega))).drew
  have HW2 : Hid ((((((((((((((w1.setCell ⟨w.heap.size + 1, 0, none⟩ (.int .i64 er)).setCell ⟨w.heap.size, 0, none⟩ (.int .i64 0)).setCell ⟨w.heap.size, 1, none⟩ (.int .i64 0)).setCell ⟨w.heap.size, 2, none⟩ (.slice none 0 0)).setCell ⟨w.heap.size, 3, none⟩ (.int .i64 0)).setCell ⟨w.heap.size, 4, none⟩ (.int .i64 0)).setCell ⟨w.heap.size, 5, none⟩ (.int .i64 0)).setCell ⟨w.heap.size, 6, none⟩ (.slice none 0 0)).setCell ⟨w.heap.size, 7, none⟩ (.int .i64 0)).setCell ⟨w.heap.size, 8, none⟩ (.int .i64 0)).setCell ⟨w.heap.size, 9, none⟩ (.int .i64 0)).setCell ⟨w.heap.size, 10, none⟩ (.slice none 0 0)).setCell ⟨w.heap.size + 1, 0, none⟩ (.int .i64 er)).drew = W2) := by rw [hW2]; exact rfl
  clear hI1 hI2 hb hW2 hA1 hG1 hE1 hA2 HO HI0 HW0
  go_wp2_with fail
  refine wp_calm12 ?_
  go_region_law (fail)
  all_goals
    rw [calm12_normal]
    rw [HW2.out]
    go_wp2
    refine ⟨_, results_rowcell rfl _ _ w.heap.size (w.heap.size + 1) _ #[.int .i64 0, .int .i64 0, .slice none 0 0, .int .i64 0, .int .i64 0, .int .i64 0, .slice none 0 0, .int .i64 0, .int .i64 0, .int .i64 0, .slice none 0 0] _ _ (er : Int) rfl HF1.out Tryz.underlying30 rfl (by kernel_rfl) rfl HF2.out Tryz.underlying31, ?_⟩
    rw [HR2.out]
    exact ⟨rfl, HF3.out⟩
end Go.Proofs.YtclhbhhlddbocaaGreatDoor
