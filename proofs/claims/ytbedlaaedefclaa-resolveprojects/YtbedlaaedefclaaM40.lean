/- K9J: put together. -/
import Derived.Test.YtbedlaaedefclaaM39
import Derived.Test.YtbedlaaedefclaaM31
import Derived.Test.YtbedlaaedefclaaM13

/- The landed resolve: copyColumn. -/
namespace Go.Proofs.Ytbedlaaedefclaa
open Go.RowKit

attribute [local go_sem] run_store_float

/-- a column is written into a place of the call's own -/
def put9 (w : World) (g : Nat) (v0 v1 v2 v3 v4 v5 v6 v7 v8 : Value) : World := (((((((((w.setCell ⟨g, 0, none⟩ v0).setCell ⟨g, 1, none⟩ v1).setCell ⟨g, 2, none⟩ v2).setCell ⟨g, 3, none⟩ v3).setCell ⟨g, 4, none⟩ v4).setCell ⟨g, 5, none⟩ v5).setCell ⟨g, 6, none⟩ v6).setCell ⟨g, 7, none⟩ v7).setCell ⟨g, 8, none⟩ v8)
section
variable {w w1 : World} {g : Nat} {a0 a1 a2 a3 a4 a5 a6 a7 a8 v0 v1 v2 v3 v4 v5 v6 v7 v8 : Value} {T : TypeId}
theorem put9_block (h : w1.heap[g]? = some (.cells #[a0, a1, a2, a3, a4, a5, a6, a7, a8] T (0, 0))) : (put9 w1 g v0 v1 v2 v3 v4 v5 v6 v7 v8).heap[g]? = some (.cells #[v0, v1, v2, v3, v4, v5, v6, v7, v8] T (0, 0)) := by
  unfold put9
  have h0 : ((w1.setCell ⟨g, 0, none⟩ v0)).heap[g]? = some (.cells #[v0, a1, a2, a3, a4, a5, a6, a7, a8] T (0, 0)) := blk_set h 0 v0
  have h1 : (((w1.setCell ⟨g, 0, none⟩ v0).setCell ⟨g, 1, none⟩ v1)).heap[g]? = some (.cells #[v0, v1, a2, a3, a4, a5, a6, a7, a8] T (0, 0)) := blk_set h0 1 v1
  have h2 : ((((w1.setCell ⟨g, 0, none⟩ v0).setCell ⟨g, 1, none⟩ v1).setCell ⟨g, 2, none⟩ v2)).heap[g]? = some (.cells #[v0, v1, v2, a3, a4, a5, a6, a7, a8] T (0, 0)) := blk_set h1 2 v2
  have h3 : (((((w1.setCell ⟨g, 0, none⟩ v0).setCell ⟨g, 1, none⟩ v1).setCell ⟨g, 2, none⟩ v2).setCell ⟨g, 3, none⟩ v3)).heap[g]? = some (.cells #[v0, v1, v2, v3, a4, a5, a6, a7, a8] T (0, 0)) := blk_set h2 3 v3
  have h4 : ((((((w1.setCell ⟨g, 0, none⟩ v0).setCell ⟨g, 1, none⟩ v1).setCell ⟨g, 2, none⟩ v2).setCell ⟨g, 3, none⟩ v3).setCell ⟨g, 4, none⟩ v4)).heap[g]? = some (.cells #[v0, v1, v2, v3, v4, a5, a6, a7, a8] T (0, 0)) := blk_set h3 4 v4
  have h5 : (((((((w1.setCell ⟨g, 0, none⟩ v0).setCell ⟨g, 1, none⟩ v1).setCell ⟨g, 2, none⟩ v2).setCell ⟨g, 3, none⟩ v3).setCell ⟨g, 4, none⟩ v4).setCell ⟨g, 5, none⟩ v5)).heap[g]? = some (.cells #[v0, v1, v2, v3, v4, v5, a6, a7, a8] T (0, 0)) := blk_set h4 5 v5
  have h6 : ((((((((w1.setCell ⟨g, 0, none⟩ v0).setCell ⟨g, 1, none⟩ v1).setCell ⟨g, 2, none⟩ v2).setCell ⟨g, 3, none⟩ v3).setCell ⟨g, 4, none⟩ v4).setCell ⟨g, 5, none⟩ v5).setCell ⟨g, 6, none⟩ v6)).heap[g]? = some (.cells #[v0, v1, v2, v3, v4, v5, v6, a7, a8] T (0, 0)) := blk_set h5 6 v6
  have h7 : (((((((((w1.setCell ⟨g, 0, none⟩ v0).setCell ⟨g, 1, none⟩ v1).setCell ⟨g, 2, none⟩ v2).setCell ⟨g, 3, none⟩ v3).setCell ⟨g, 4, none⟩ v4).setCell ⟨g, 5, none⟩ v5).setCell ⟨g, 6, none⟩ v6).setCell ⟨g, 7, none⟩ v7)).heap[g]? = some (.cells #[v0, v1, v2, v3, v4, v5, v6, v7, a8] T (0, 0)) := blk_set h6 7 v7
  have h8 : ((((((((((w1.setCell ⟨g, 0, none⟩ v0).setCell ⟨g, 1, none⟩ v1).setCell ⟨g, 2, none⟩ v2).setCell ⟨g, 3, none⟩ v3).setCell ⟨g, 4, none⟩ v4).setCell ⟨g, 5, none⟩ v5).setCell ⟨g, 6, none⟩ v6).setCell ⟨g, 7, none⟩ v7).setCell ⟨g, 8, none⟩ v8)).heap[g]? = some (.cells #[v0, v1, v2, v3, v4, v5, v6, v7, v8] T (0, 0)) := blk_set h7 8 v8
  exact h8
theorem put9_aside : Aside (fun j => j = g) w1 (put9 w1 g v0 v1 v2 v3 v4 v5 v6 v7 v8) := by
  unfold put9
  have h0 : Aside (fun j => j = g) w1 (w1.setCell ⟨g, 0, none⟩ v0) := (Aside.refl (fun j => j = g) w1).setCell (p := ⟨g, 0, none⟩) (.inl rfl) _
  have h1 := h0.setCell (p := ⟨g, 1, none⟩) (.inl rfl) v1
  have h2 := h1.setCell (p := ⟨g, 2, none⟩) (.inl rfl) v2
  have h3 := h2.setCell (p := ⟨g, 3, none⟩) (.inl rfl) v3
  have h4 := h3.setCell (p := ⟨g, 4, none⟩) (.inl rfl) v4
  have h5 := h4.setCell (p := ⟨g, 5, none⟩) (.inl rfl) v5
  have h6 := h5.setCell (p := ⟨g, 6, none⟩) (.inl rfl) v6
  have h7 := h6.setCell (p := ⟨g, 7, none⟩) (.inl rfl) v7
  have h8 := h7.setCell (p := ⟨g, 8, none⟩) (.inl rfl) v8
  exact h8
theorem put9_below {B : Nat} (h : Below B w w1) (hg : B ≤ g) : Below B w (put9 w1 g v0 v1 v2 v3 v4 v5 v6 v7 v8) := by
  unfold put9
  have h0 := h.setCell (p := ⟨g, 0, none⟩) hg v0
  have h1 := h0.setCell (p := ⟨g, 1, none⟩) hg v1
  have h2 := h1.setCell (p := ⟨g, 2, none⟩) hg v2
  have h3 := h2.setCell (p := ⟨g, 3, none⟩) hg v3
  have h4 := h3.setCell (p := ⟨g, 4, none⟩) hg v4
  have h5 := h4.setCell (p := ⟨g, 5, none⟩) hg v5
  have h6 := h5.setCell (p := ⟨g, 6, none⟩) hg v6
  have h7 := h6.setCell (p := ⟨g, 7, none⟩) hg v7
  have h8 := h7.setCell (p := ⟨g, 8, none⟩) hg v8
  exact h8
theorem put9_size : (put9 w1 g v0 v1 v2 v3 v4 v5 v6 v7 v8).heap.size = w1.heap.size := by
  simp [put9, World.setCell]
end
/-- what a fresh column's call answers -/
def FreshC (w : World) (y : Col) (e : Ending) (w' : World) : Prop := ∃ u', e = .returned (.agg u') ∧ COwn w' (fun k => w.heap.size ≤ k ∧ k < w'.heap.size) u' y ∧ Below w.heap.size w w'
/-- a type and a value of one's own, made since w0 -/
structure CopyC (w0 W : World) (uT uV : Array Value) (y : Ty) (x : V) : Prop where
  below : Below w0.heap.size w0 W
  own : ∃ F1 F2 : Nat → Prop, TOwn W F1 uT y ∧ VOwn W F2 uV x ∧ (∀ k, F1 k → w0.heap.size ≤ k ∧ k < W.heap.size) ∧ (∀ k, F2 k → w0.heap.size ≤ k ∧ k < W.heap.size) ∧ ∀ k, F1 k → ¬ F2 k
theorem copyC_tv {w0 wA wZ : World} {uT uV : Array Value} {y : Ty} {x : V} (hb : Below w0.heap.size w0 wA) (hT : TOwn wA (fun k => w0.heap.size ≤ k ∧ k < wA.heap.size) uT y) (hb2 : Below wA.heap.size wA wZ) (hV : VOwn wZ (fun k => wA.heap.size ≤ k ∧ k < wZ.heap.size) uV x) : CopyC w0 wZ uT uV y x :=
  ⟨hb.trans (hb2.mono hb.size), _, _, hT.under hb2 (fun k hk => hk.2), hV, fun k hk => ⟨hk.1, Nat.lt_of_lt_of_le hk.2 hb2.size⟩, fun k hk => ⟨Nat.le_trans hb.size hk.1, hk.2⟩, fun k h1 h2 => by have := h1.2; have := h2.1; omega⟩
theorem copyC_vt {w0 wA wZ : World} {uT uV : Array Value} {y : Ty} {x : V} (hb : Below w0.heap.size w0 wA) (hV : VOwn wA (fun k => w0.heap.size ≤ k ∧ k < wA.heap.size) uV x) (hb2 : Below wA.heap.size wA wZ) (hT : TOwn wZ (fun k => wA.heap.size ≤ k ∧ k < wZ.heap.size) uT y) : CopyC w0 wZ uT uV y x :=
  ⟨hb.trans (hb2.mono hb.size), _, _, hT, hV.under hb2 (fun k hk => hk.2), fun k hk => ⟨Nat.le_trans hb.size hk.1, hk.2⟩, fun k hk => ⟨hk.1, Nat.lt_of_lt_of_le hk.2 hb2.size⟩, fun k h1 h2 => by have := h1.1; have := h2.2; omega⟩

set_option maxRecDepth 100000 in
set_option maxHeartbeats 4000000 in
theorem copyColumnK (y : Col) (w : World) (u : Array Value) (hu : CLies w u y) : Calls Try.prog 36 #[.agg u] w (FreshC w y.fix) := by
  obtain ⟨k, tp, tn, tc, vk, vi, vb, vt, vp, vn, vc, rfl, hT, hV⟩ := hu.out
  unfold cells9
  obtain ⟨nm, hnm⟩ : ∃ nm, nm = y.name := ⟨_, rfl⟩
  obtain ⟨hh, hhh⟩ : ∃ hh, hh = y.has := ⟨_, rfl⟩
  rw [← hnm, ← hhh]
  obtain ⟨W0, hW0⟩ : ∃ W0, W0 = (w.alloc (.cells #[.string nm, .int .i64 k, .slice tp tn tc, .bool hh, .int .i64 vk, .int .i64 vi, .float .f64 vb, .string vt, .slice vp vn vc] 58)).alloc (.cells #[.string ⟨#[]⟩, .int .i64 0, .slice none 0 0, .bool false, .int .i64 0, .int .i64 0, .float .f64 0, .string ⟨#[]⟩, .slice none 0 0] 58) := ⟨_, rfl⟩
  obtain ⟨l0, l1, lb, ls⟩ := al2 w (.cells #[.string nm, .int .i64 k, .slice tp tn tc, .bool hh, .int .i64 vk, .int .i64 vi, .float .f64 vb, .string vt, .slice vp vn vc] 58) (.cells #[.string ⟨#[]⟩, .int .i64 0, .slice none 0 0, .bool false, .int .i64 0, .int .i64 0, .float .f64 0, .string ⟨#[]⟩, .slice none 0 0] 58)
  rw [← hW0] at l0 l1 lb ls
  have HW0 := Lib.hid hW0
  have HB0 := Lib.hid lb
  have HS0 := Lib.hid ls
  have HL := Lib.hid (And.intro l0 l1)
  have HCt : Hid (∀ w', Below W0.heap.size W0 w' → Calls Try.prog 59 #[.agg #[.int .i64 k, .slice tp tn tc]] w' (FreshT w' y.ty)) := fun w' h => copyTypeK y.ty w' _ ((hT.on lb).on h)
  have HCv : Hid (∀ w', Below W0.heap.size W0 w' → Calls Try.prog 60 #[.agg #[.int .i64 vk, .int .i64 vi, .float .f64 vb, .string vt, .slice vp vn vc]] w' (Fresh w' (V.fix y.dflt))) := fun w' h => fixK y.dflt w' _ ((hV.on lb).on h)
  have HEnd : Hid (∀ wZ kT pT nT cT kV iV bV tV pV nV cV, CopyC W0 wZ (cells2 kT pT nT cT) (cells5 kV iV bV tV pV nV cV) y.ty (V.fix y.dflt) → FreshC w y.fix (.returned (.agg #[.string nm, .int .i64 kT, .slice pT nT cT, .bool hh, .int .i64 kV, .int .i64 iV, .float .f64 bV, .string tV, .slice pV nV cV])) (put9 wZ (w.heap.size + 1) (.string nm) (.int .i64 kT) (.slice pT nT cT) (.bool hh) (.int .i64 kV) (.int .i64 iV) (.float .f64 bV) (.string tV) (.slice pV nV cV))) := fun wZ kT pT nT cT kV iV bV tV pV nV cV h => by
    obtain ⟨F1, F2, h1, h2, h3, h4, h5⟩ := h.own
    refine ⟨_, rfl, ?_, put9_below (lb.trans (h.below.mono lb.size)) (by omega)⟩
    refine ⟨F1, F2, kT, pT, nT, cT, kV, iV, bV, tV, pV, nV, cV, by rw [hnm, hhh]; rfl, h1.aside put9_aside (fun j hj hc => ?_), h2.aside put9_aside (fun j hj hc => ?_), fun j hj => ?_, fun j hj => ?_, h5⟩
    · have := h3 j hj; omega
    · have := h4 j hj; omega
    · rw [put9_size]; have := h3 j hj; omega
    · rw [put9_size]; have := h4 j hj; omega
  obtain ⟨xT, hxT⟩ : ∃ xT, xT = y.ty := ⟨_, rfl⟩
  obtain ⟨xV, hxV⟩ : ∃ xV, xV = V.fix y.dflt := ⟨_, rfl⟩
  rw [← hxT] at HCt HEnd
  rw [← hxV] at HCv HEnd
  have r0 : W0.cell? ⟨w.heap.size, 0, none⟩ = some (.string nm) := blk_at HL.out.1 (Below.refl _ _) 0
  have r1 : W0.cell? ⟨w.heap.size, 1, none⟩ = some (.int .i64 k) := blk_at HL.out.1 (Below.refl _ _) 1
  have r2 : W0.cell? ⟨w.heap.size, 2, none⟩ = some (.slice tp tn tc) := blk_at HL.out.1 (Below.refl _ _) 2
  have r3 : W0.cell? ⟨w.heap.size, 3, none⟩ = some (.bool hh) := blk_at HL.out.1 (Below.refl _ _) 3
  have r4 : W0.cell? ⟨w.heap.size, 4, none⟩ = some (.int .i64 vk) := blk_at HL.out.1 (Below.refl _ _) 4
  have r5 : W0.cell? ⟨w.heap.size, 5, none⟩ = some (.int .i64 vi) := blk_at HL.out.1 (Below.refl _ _) 5
  have r6 : W0.cell? ⟨w.heap.size, 6, none⟩ = some (.float .f64 vb) := blk_at HL.out.1 (Below.refl _ _) 6
  have r7 : W0.cell? ⟨w.heap.size, 7, none⟩ = some (.string vt) := blk_at HL.out.1 (Below.refl _ _) 7
  have r8 : W0.cell? ⟨w.heap.size, 8, none⟩ = some (.slice vp vn vc) := blk_at HL.out.1 (Below.refl _ _) 8
  clear hu hT hV hnm hhh hW0 l0 l1 lb ls hxT hxV
  go_enter Try.func36, Try.ntmps36
  go_wp2_with fail
  rw [← HW0.out]
  clear HW0
  go_region_law (first
    | (refine step_call1 (.tmp 6) 24 (by rfl) (by rfl) (by rfl) Try.func59 (by kernel_rfl) (by rfl) (HCt.out W0.drew (Below.refl _ _).drew) ?_
       rintro e wA ⟨u', he, hvT, hbA⟩
       obtain ⟨kT, pT, nT, cT, hu'⟩ := hvT.shape
       subst hu'
       unfold cells2 at he
       refine ⟨_, he, ?_⟩
       have hb' : Below W0.heap.size W0 wA := (Below.refl _ _).drew.trans hbA
       have r0 : wA.cell? ⟨w.heap.size, 0, none⟩ = some (.string nm) := blk_at HL.out.1 hb' 0
       have r1 : wA.cell? ⟨w.heap.size, 1, none⟩ = some (.int .i64 k) := blk_at HL.out.1 hb' 1
       have r2 : wA.cell? ⟨w.heap.size, 2, none⟩ = some (.slice tp tn tc) := blk_at HL.out.1 hb' 2
       have r3 : wA.cell? ⟨w.heap.size, 3, none⟩ = some (.bool hh) := blk_at HL.out.1 hb' 3
       have r4 : wA.cell? ⟨w.heap.size, 4, none⟩ = some (.int .i64 vk) := blk_at HL.out.1 hb' 4
       have r5 : wA.cell? ⟨w.heap.size, 5, none⟩ = some (.int .i64 vi) := blk_at HL.out.1 hb' 5
       have r6 : wA.cell? ⟨w.heap.size, 6, none⟩ = some (.float .f64 vb) := blk_at HL.out.1 hb' 6
       have r7 : wA.cell? ⟨w.heap.size, 7, none⟩ = some (.string vt) := blk_at HL.out.1 hb' 7
       have r8 : wA.cell? ⟨w.heap.size, 8, none⟩ = some (.slice vp vn vc) := blk_at HL.out.1 hb' 8
       have HTA := Lib.hid (And.intro hb' hvT)
       clear he hvT hbA hb')
    | (refine step_call1 (.tmp 11) 28 (by rfl) (by rfl) (by rfl) Try.func60 (by kernel_rfl) (by rfl) (HCv.out W0.drew (Below.refl _ _).drew) ?_
       rintro e wA ⟨u', he, hvV, hbA⟩
       obtain ⟨kV, iV, bV, tV, pV, nV, cV, hu'⟩ := hvV.shape
       subst hu'
       unfold cells5 at he
       refine ⟨_, he, ?_⟩
       have hb' : Below W0.heap.size W0 wA := (Below.refl _ _).drew.trans hbA
       have r0 : wA.cell? ⟨w.heap.size, 0, none⟩ = some (.string nm) := blk_at HL.out.1 hb' 0
       have r1 : wA.cell? ⟨w.heap.size, 1, none⟩ = some (.int .i64 k) := blk_at HL.out.1 hb' 1
       have r2 : wA.cell? ⟨w.heap.size, 2, none⟩ = some (.slice tp tn tc) := blk_at HL.out.1 hb' 2
       have r3 : wA.cell? ⟨w.heap.size, 3, none⟩ = some (.bool hh) := blk_at HL.out.1 hb' 3
       have r4 : wA.cell? ⟨w.heap.size, 4, none⟩ = some (.int .i64 vk) := blk_at HL.out.1 hb' 4
       have r5 : wA.cell? ⟨w.heap.size, 5, none⟩ = some (.int .i64 vi) := blk_at HL.out.1 hb' 5
       have r6 : wA.cell? ⟨w.heap.size, 6, none⟩ = some (.float .f64 vb) := blk_at HL.out.1 hb' 6
       have r7 : wA.cell? ⟨w.heap.size, 7, none⟩ = some (.string vt) := blk_at HL.out.1 hb' 7
       have r8 : wA.cell? ⟨w.heap.size, 8, none⟩ = some (.slice vp vn vc) := blk_at HL.out.1 hb' 8
       have HVA := Lib.hid (And.intro hb' hvV)
       clear he hvV hbA hb')
    | (refine step_call1 (.tmp 11) 28 (by rfl) (by rfl) (by rfl) Try.func60 (by kernel_rfl) (by rfl) (HCv.out wA HTA.out.1) ?_
       rintro e wZ ⟨u', he, hvV, hbZ⟩
       obtain ⟨kV, iV, bV, tV, pV, nV, cV, hu'⟩ := hvV.shape
       subst hu'
       have HZ := Lib.hid (copyC_tv HTA.out.1 HTA.out.2 hbZ hvV)
       unfold cells5 at he
       refine ⟨_, he, ?_⟩
       have hb' : Below W0.heap.size W0 wZ := HZ.out.below
       have r0 : wZ.cell? ⟨w.heap.size, 0, none⟩ = some (.string nm) := blk_at HL.out.1 hb' 0
       have r1 : wZ.cell? ⟨w.heap.size, 1, none⟩ = some (.int .i64 k) := blk_at HL.out.1 hb' 1
       have r2 : wZ.cell? ⟨w.heap.size, 2, none⟩ = some (.slice tp tn tc) := blk_at HL.out.1 hb' 2
       have r3 : wZ.cell? ⟨w.heap.size, 3, none⟩ = some (.bool hh) := blk_at HL.out.1 hb' 3
       have r4 : wZ.cell? ⟨w.heap.size, 4, none⟩ = some (.int .i64 vk) := blk_at HL.out.1 hb' 4
       have r5 : wZ.cell? ⟨w.heap.size, 5, none⟩ = some (.int .i64 vi) := blk_at HL.out.1 hb' 5
       have r6 : wZ.cell? ⟨w.heap.size, 6, none⟩ = some (.float .f64 vb) := blk_at HL.out.1 hb' 6
       have r7 : wZ.cell? ⟨w.heap.size, 7, none⟩ = some (.string vt) := blk_at HL.out.1 hb' 7
       have r8 : wZ.cell? ⟨w.heap.size, 8, none⟩ = some (.slice vp vn vc) := blk_at HL.out.1 hb' 8
       have s0 : wZ.cell? ⟨w.heap.size + 1, 0, none⟩ = some (.string ⟨#[]⟩) := blk_at HL.out.2 hb' 0
       have s1 : wZ.cell? ⟨w.heap.size + 1, 1, none⟩ = some (.int .i64 0) := blk_at HL.out.2 hb' 1
       have s2 : wZ.cell? ⟨w.heap.size + 1, 2, none⟩ = some (.slice none 0 0) := blk_at HL.out.2 hb' 2
       have s3 : wZ.cell? ⟨w.heap.size + 1, 3, none⟩ = some (.bool false) := blk_at HL.out.2 hb' 3
       have s4 : wZ.cell? ⟨w.heap.size + 1, 4, none⟩ = some (.int .i64 0) := blk_at HL.out.2 hb' 4
       have s5 : wZ.cell? ⟨w.heap.size + 1, 5, none⟩ = some (.int .i64 0) := blk_at HL.out.2 hb' 5
       have s6 : wZ.cell? ⟨w.heap.size + 1, 6, none⟩ = some (.float .f64 0) := blk_at HL.out.2 hb' 6
       have s7 : wZ.cell? ⟨w.heap.size + 1, 7, none⟩ = some (.string ⟨#[]⟩) := blk_at HL.out.2 hb' 7
       have s8 : wZ.cell? ⟨w.heap.size + 1, 8, none⟩ = some (.slice none 0 0) := blk_at HL.out.2 hb' 8
       have f0 : wZ.frozen? ⟨w.heap.size + 1, 0, none⟩ = false := blk_free ((hb'.block _ (blk_lt HL.out.2)).trans HL.out.2) 0
       have f1 : wZ.frozen? ⟨w.heap.size + 1, 1, none⟩ = false := blk_free ((hb'.block _ (blk_lt HL.out.2)).trans HL.out.2) 1
       have f2 : wZ.frozen? ⟨w.heap.size + 1, 2, none⟩ = false := blk_free ((hb'.block _ (blk_lt HL.out.2)).trans HL.out.2) 2
       have f3 : wZ.frozen? ⟨w.heap.size + 1, 3, none⟩ = false := blk_free ((hb'.block _ (blk_lt HL.out.2)).trans HL.out.2) 3
       have f4 : wZ.frozen? ⟨w.heap.size + 1, 4, none⟩ = false := blk_free ((hb'.block _ (blk_lt HL.out.2)).trans HL.out.2) 4
       have f5 : wZ.frozen? ⟨w.heap.size + 1, 5, none⟩ = false := blk_free ((hb'.block _ (blk_lt HL.out.2)).trans HL.out.2) 5
       have f6 : wZ.frozen? ⟨w.heap.size + 1, 6, none⟩ = false := blk_free ((hb'.block _ (blk_lt HL.out.2)).trans HL.out.2) 6
       have f7 : wZ.frozen? ⟨w.heap.size + 1, 7, none⟩ = false := blk_free ((hb'.block _ (blk_lt HL.out.2)).trans HL.out.2) 7
       have f8 : wZ.frozen? ⟨w.heap.size + 1, 8, none⟩ = false := blk_free ((hb'.block _ (blk_lt HL.out.2)).trans HL.out.2) 8
       clear he hvV hbZ hb' HTA)
    | (refine step_call1 (.tmp 6) 24 (by rfl) (by rfl) (by rfl) Try.func59 (by kernel_rfl) (by rfl) (HCt.out wA HVA.out.1) ?_
       rintro e wZ ⟨u', he, hvT, hbZ⟩
       obtain ⟨kT, pT, nT, cT, hu'⟩ := hvT.shape
       subst hu'
       have HZ := Lib.hid (copyC_vt HVA.out.1 HVA.out.2 hbZ hvT)
       unfold cells2 at he
       refine ⟨_, he, ?_⟩
       have hb' : Below W0.heap.size W0 wZ := HZ.out.below
       have r0 : wZ.cell? ⟨w.heap.size, 0, none⟩ = some (.string nm) := blk_at HL.out.1 hb' 0
       have r1 : wZ.cell? ⟨w.heap.size, 1, none⟩ = some (.int .i64 k) := blk_at HL.out.1 hb' 1
       have r2 : wZ.cell? ⟨w.heap.size, 2, none⟩ = some (.slice tp tn tc) := blk_at HL.out.1 hb' 2
       have r3 : wZ.cell? ⟨w.heap.size, 3, none⟩ = some (.bool hh) := blk_at HL.out.1 hb' 3
       have r4 : wZ.cell? ⟨w.heap.size, 4, none⟩ = some (.int .i64 vk) := blk_at HL.out.1 hb' 4
       have r5 : wZ.cell? ⟨w.heap.size, 5, none⟩ = some (.int .i64 vi) := blk_at HL.out.1 hb' 5
       have r6 : wZ.cell? ⟨w.heap.size, 6, none⟩ = some (.float .f64 vb) := blk_at HL.out.1 hb' 6
       have r7 : wZ.cell? ⟨w.heap.size, 7, none⟩ = some (.string vt) := blk_at HL.out.1 hb' 7
       have r8 : wZ.cell? ⟨w.heap.size, 8, none⟩ = some (.slice vp vn vc) := blk_at HL.out.1 hb' 8
       have s0 : wZ.cell? ⟨w.heap.size + 1, 0, none⟩ = some (.string ⟨#[]⟩) := blk_at HL.out.2 hb' 0
       have s1 : wZ.cell? ⟨w.heap.size + 1, 1, none⟩ = some (.int .i64 0) := blk_at HL.out.2 hb' 1
       have s2 : wZ.cell? ⟨w.heap.size + 1, 2, none⟩ = some (.slice none 0 0) := blk_at HL.out.2 hb' 2
       have s3 : wZ.cell? ⟨w.heap.size + 1, 3, none⟩ = some (.bool false) := blk_at HL.out.2 hb' 3
       have s4 : wZ.cell? ⟨w.heap.size + 1, 4, none⟩ = some (.int .i64 0) := blk_at HL.out.2 hb' 4
       have s5 : wZ.cell? ⟨w.heap.size + 1, 5, none⟩ = some (.int .i64 0) := blk_at HL.out.2 hb' 5
       have s6 : wZ.cell? ⟨w.heap.size + 1, 6, none⟩ = some (.float .f64 0) := blk_at HL.out.2 hb' 6
       have s7 : wZ.cell? ⟨w.heap.size + 1, 7, none⟩ = some (.string ⟨#[]⟩) := blk_at HL.out.2 hb' 7
       have s8 : wZ.cell? ⟨w.heap.size + 1, 8, none⟩ = some (.slice none 0 0) := blk_at HL.out.2 hb' 8
       have f0 : wZ.frozen? ⟨w.heap.size + 1, 0, none⟩ = false := blk_free ((hb'.block _ (blk_lt HL.out.2)).trans HL.out.2) 0
       have f1 : wZ.frozen? ⟨w.heap.size + 1, 1, none⟩ = false := blk_free ((hb'.block _ (blk_lt HL.out.2)).trans HL.out.2) 1
       have f2 : wZ.frozen? ⟨w.heap.size + 1, 2, none⟩ = false := blk_free ((hb'.block _ (blk_lt HL.out.2)).trans HL.out.2) 2
       have f3 : wZ.frozen? ⟨w.heap.size + 1, 3, none⟩ = false := blk_free ((hb'.block _ (blk_lt HL.out.2)).trans HL.out.2) 3
       have f4 : wZ.frozen? ⟨w.heap.size + 1, 4, none⟩ = false := blk_free ((hb'.block _ (blk_lt HL.out.2)).trans HL.out.2) 4
       have f5 : wZ.frozen? ⟨w.heap.size + 1, 5, none⟩ = false := blk_free ((hb'.block _ (blk_lt HL.out.2)).trans HL.out.2) 5
       have f6 : wZ.frozen? ⟨w.heap.size + 1, 6, none⟩ = false := blk_free ((hb'.block _ (blk_lt HL.out.2)).trans HL.out.2) 6
       have f7 : wZ.frozen? ⟨w.heap.size + 1, 7, none⟩ = false := blk_free ((hb'.block _ (blk_lt HL.out.2)).trans HL.out.2) 7
       have f8 : wZ.frozen? ⟨w.heap.size + 1, 8, none⟩ = false := blk_free ((hb'.block _ (blk_lt HL.out.2)).trans HL.out.2) 8
       clear he hvT hbZ hb' HVA)
    | fail)
  all_goals
    have HE := Lib.hid (HEnd.out wZ kT pT nT cT kV iV bV tV pV nV cV HZ.out)
    have HP := Lib.hid (put9_block (w1 := wZ) (g := w.heap.size + 1) (T := 58) (v0 := .string nm) (v1 := .int .i64 kT) (v2 := .slice pT nT cT) (v3 := .bool hh) (v4 := .int .i64 kV) (v5 := .int .i64 iV) (v6 := .float .f64 bV) (v7 := .string tV) (v8 := .slice pV nV cV) ((HZ.out.below.block _ (blk_lt HL.out.2)).trans HL.out.2))
    unfold put9 at HE HP
    go_wp2
    refine bodyPost_ret (results_cell_row rfl _ _ (w.heap.size + 1) _ _ _ _ rfl HP.out Try.underlying58 rfl (by kernel_rfl)) rfl ?_
    exact HE.out
end Go.Proofs.Ytbedlaaedefclaa
