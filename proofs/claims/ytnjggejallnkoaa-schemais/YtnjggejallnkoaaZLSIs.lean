/- SchemaIs over what the laws ask of package schema. -/
import Derived.Test.YtnjggejallnkoaaM19
namespace Go.Proofs.Ytnjggejallnkoaa
open Go.RowKit

attribute [local go_sem] run_store_float

set_option maxRecDepth 100000 in
set_option maxHeartbeats 2000000 in
theorem schemaIs_any {I : World → Prop} (K : SchemaOk I) (K2 : IsOk I) (x : V) (y : Ty) (u v : Array Value) (w : World) (hx : VLies w u x) (hy : TLies w v y) (wx : x.wf) (wy : y.wf) (hI : I w) :
    Calls Try.prog 8 #[.agg u, .agg v] w fun e w' => e = .returned (.bool true) ∧ Below w.heap.size w w' := by
  obtain ⟨k, i, b, t, xs⟩ := x
  obtain ⟨k', ys⟩ := y
  obtain ⟨p, c, rfl, -⟩ := hx.open
  obtain ⟨q, e, rfl, -⟩ := hy.open
  obtain ⟨W0, hW0⟩ : ∃ W0, W0 = (w.alloc (.cells (cells5 k i b t p xs.length c) 43)).alloc (.cells (cells2 k' q ys.length e) 28) := ⟨_, rfl⟩
  have HB0 : Hid (Below w.heap.size w W0) := by rw [hW0]; exact ((Below.refl _ _).alloc (Nat.le_refl _) _).alloc (by simp) _
  have HY : Hid (W0.cell? ⟨w.heap.size, 0, none⟩ = some (.int .i64 k) ∧ W0.cell? ⟨w.heap.size, 1, none⟩ = some (.int .i64 i) ∧ W0.cell? ⟨w.heap.size, 2, none⟩ = some (.float .f64 b) ∧ W0.cell? ⟨w.heap.size, 3, none⟩ = some (.string t) ∧ W0.cell? ⟨w.heap.size, 4, none⟩ = some (.slice p xs.length c) ∧ W0.cell? ⟨w.heap.size + 1, 0, none⟩ = some (.int .i64 k') ∧ W0.cell? ⟨w.heap.size + 1, 1, none⟩ = some (.slice q ys.length e)) := by rw [hW0]; exact ⟨by simp [cells5], by simp [cells5], by simp [cells5], by simp [cells5], by simp [cells5], by simp [cells2], by simp [cells2]⟩
  have HW0 := Lib.hid hW0
  obtain ⟨r, hr⟩ : ∃ r, r = Sch.is (.mk k i b t xs) (.mk k' ys) := ⟨_, rfl⟩
  have HR0 := Lib.hid (refIs7 _ _ W0 _ _ (hx.on HB0.out) (hy.on HB0.out))
  have HIs := Lib.hid (fun w' (hb : Below w.heap.size w w') => K2 _ _ _ _ w' (hx.on hb) (hy.on hb) wx wy (K.on hI hb))
  have HLv := Lib.hid (fun w' (hb : Below w.heap.size w w') => schemaLive_ok K w' (K.on hI hb))
  rw [← hr] at HIs HR0
  clear hW0 hx hy wx wy hI K hr
  unfold cells5 cells2 at *
  go_enter Try.func8, Try.ntmps8
  go_wp2_with fail
  rw [← HW0.out]
  clear HW0
  refine HR0.out.mono ?_
  rintro e w2 ⟨rfl, hb1⟩
  have HB2 := Lib.hid (HB0.out.trans (hb1.mono HB0.out.size))
  have HCell0 : Hid (∀ w', Below w2.heap.size w2 w' → w'.cell? ⟨w.heap.size, 0, none⟩ = some (.int .i64 k) ∧ w'.cell? ⟨w.heap.size, 1, none⟩ = some (.int .i64 i) ∧ w'.cell? ⟨w.heap.size, 2, none⟩ = some (.float .f64 b) ∧ w'.cell? ⟨w.heap.size, 3, none⟩ = some (.string t) ∧ w'.cell? ⟨w.heap.size, 4, none⟩ = some (.slice p xs.length c) ∧ w'.cell? ⟨w.heap.size + 1, 0, none⟩ = some (.int .i64 k') ∧ w'.cell? ⟨w.heap.size + 1, 1, none⟩ = some (.slice q ys.length e)) := fun w' h => by
    obtain ⟨h0, h1, h2, h3, h4, h5, h6⟩ := HY.out
    have hh := hb1.trans (h.mono hb1.size)
    exact ⟨cell_on hh h0, cell_on hh h1, cell_on hh h2, cell_on hh h3, cell_on hh h4, cell_on hh h5, cell_on hh h6⟩
  clear hb1 HR0 HY
  obtain ⟨G, hG⟩ : ∃ G : World → Prop, G = fun w' => Below w2.heap.size w2 w' := ⟨_, rfl⟩
  have hG0 := keepG_here hG
  have HFin := Lib.hid (keepG_fin hG HB2.out)
  have HLive := Lib.hid (keepG hG HB2.out HLv.out)
  have HS1 := Lib.hid (keepG hG HB2.out HIs.out)
  have HCell := Lib.hid (fun w' (h : G w') => HCell0.out w' (by rw [hG] at h; exact h))
  obtain ⟨h0, h1, h2, h3, h4, h5, h6⟩ := HCell.out w2 hG0
  clear hG HLv HIs HB2 HCell0
  go_wp2_with fail
  refine (HLive.out _ hG0).mono ?_
  rintro e w3 ⟨rfl, hG3⟩
  clear h0 h1 h2 h3 h4 h5 h6
  obtain ⟨h0, h1, h2, h3, h4, h5, h6⟩ := HCell.out w3 hG3
  go_wp2_with fail
  refine (HS1.out _ hG3).mono ?_
  rintro e w4 ⟨rfl, hG4⟩
  go_wp2
  go_ret
  exact ⟨by simp, HFin.out _ hG4⟩
end Go.Proofs.Ytnjggejallnkoaa
