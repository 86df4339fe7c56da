/- SchemaTypes over what the laws ask of package schema. -/
import Derived.Test.YtnjggejallnkoaaM19
namespace Go.Proofs.Ytnjggejallnkoaa
open Go.RowKit

theorem sameTy_self (a : Ty) : Ty.same a a = true := (Ty.same_iff a a).2 rfl
theorem sameTy_swap (a b : Ty) : Ty.same b a = Ty.same a b := by
  rw [Bool.eq_iff_iff, Ty.same_iff, Ty.same_iff]; exact ⟨Eq.symm, Eq.symm⟩

set_option maxRecDepth 100000 in
set_option maxHeartbeats 2000000 in
theorem schemaTypes_any {I : World → Prop} (K : SchemaOk I) (x y : Ty) (u v : Array Value) (w : World) (hx : TLies w u x) (hy : TLies w v y) (wx : x.wf) (wy : y.wf) (hI : I w) :
    Calls Try.prog 5 #[.agg u, .agg v] w fun e w' => e = .returned (.bool true) ∧ Below w.heap.size w w' := by
  obtain ⟨k, xs⟩ := x
  obtain ⟨k', ys⟩ := y
  obtain ⟨p, c, rfl, -⟩ := hx.open
  obtain ⟨q, e, rfl, -⟩ := hy.open
  obtain ⟨W0, hW0⟩ : ∃ W0, W0 = (w.alloc (.cells (cells2 k p xs.length c) 28)).alloc (.cells (cells2 k' q ys.length e) 28) := ⟨_, rfl⟩
  have HB0 : Hid (Below w.heap.size w W0) := by rw [hW0]; exact ((Below.refl _ _).alloc (Nat.le_refl _) _).alloc (by simp) _
  have HY : Hid (W0.cell? ⟨w.heap.size, 0, none⟩ = some (.int .i64 k) ∧ W0.cell? ⟨w.heap.size, 1, none⟩ = some (.slice p xs.length c) ∧ W0.cell? ⟨w.heap.size + 1, 0, none⟩ = some (.int .i64 k') ∧ W0.cell? ⟨w.heap.size + 1, 1, none⟩ = some (.slice q ys.length e)) := by rw [hW0]; exact ⟨by simp [cells2], by simp [cells2], by simp [cells2], by simp [cells2]⟩
  have HW0 := Lib.hid hW0
  obtain ⟨r, hr⟩ : ∃ r, r = Ty.same (.mk k xs) (.mk k' ys) := ⟨_, rfl⟩
  obtain ⟨n, hn⟩ : ∃ n, n = Ty.check 1 (.mk k xs) := ⟨_, rfl⟩
  have HC0 := Lib.hid (K.checkType _ _ W0 (hx.on HB0.out) wx (K.on hI HB0.out))
  have HC1 := Lib.hid (fun w' (hb : Below w.heap.size w w') => refCheckType7 _ w' _ (hx.on hb))
  have HC2 := Lib.hid (fun w' (hb : Below w.heap.size w w') => refSameType7 _ _ w' _ _ (hx.on hb) (hy.on hb))
  have HSab := Lib.hid (fun w' (hb : Below w.heap.size w w') => K.sameType _ _ _ _ w' (hx.on hb) (hy.on hb) wx wy (K.on hI hb))
  have HSba := Lib.hid (fun w' (hb : Below w.heap.size w w') => K.sameType _ _ _ _ w' (hy.on hb) (hx.on hb) wy wx (K.on hI hb))
  have HSaa := Lib.hid (fun w' (hb : Below w.heap.size w w') => K.sameType _ _ _ _ w' (hx.on hb) (hx.on hb) wx wx (K.on hI hb))
  have HLv := Lib.hid (fun w' (hb : Below w.heap.size w w') => schemaLive_ok K w' (K.on hI hb))
  rw [sameTy_swap, ← hr] at HSba
  rw [sameTy_self] at HSaa
  rw [← hr] at HSab HC2
  rw [← hn] at HC0 HC1
  clear hW0 hx hy wx wy hI K hr hn
  unfold cells2 at *
  go_enter Try.func5, Try.ntmps5
  go_wp2_with fail
  rw [← HW0.out]
  clear HW0
  refine HC0.out.mono ?_
  rintro e w2 ⟨rfl, hb1⟩
  have HB2 := Lib.hid (HB0.out.trans (hb1.mono HB0.out.size))
  have HCell0 : Hid (∀ w', Below w2.heap.size w2 w' → w'.cell? ⟨w.heap.size, 0, none⟩ = some (.int .i64 k) ∧ w'.cell? ⟨w.heap.size, 1, none⟩ = some (.slice p xs.length c) ∧ w'.cell? ⟨w.heap.size + 1, 0, none⟩ = some (.int .i64 k') ∧ w'.cell? ⟨w.heap.size + 1, 1, none⟩ = some (.slice q ys.length e)) := fun w' h => by
    obtain ⟨h0, h1, h2, h3⟩ := HY.out
    have hh := hb1.trans (h.mono hb1.size)
    exact ⟨cell_on hh h0, cell_on hh h1, cell_on hh h2, cell_on hh h3⟩
  clear hb1 HC0 HY
  obtain ⟨G, hG⟩ : ∃ G : World → Prop, G = fun w' => Below w2.heap.size w2 w' := ⟨_, rfl⟩
  have hG0 := keepG_here hG
  have HFin := Lib.hid (keepG_fin hG HB2.out)
  have HLive := Lib.hid (keepG hG HB2.out HLv.out)
  have HR1 := Lib.hid (keepG hG HB2.out HC1.out)
  have HR2 := Lib.hid (keepG hG HB2.out HC2.out)
  have HS1 := Lib.hid (keepG hG HB2.out HSab.out)
  have HS2 := Lib.hid (keepG hG HB2.out HSba.out)
  have HS3 := Lib.hid (keepG hG HB2.out HSaa.out)
  have HCell := Lib.hid (fun w' (h : G w') => HCell0.out w' (by rw [hG] at h; exact h))
  obtain ⟨h0, h1, h2, h3⟩ := HCell.out w2 hG0
  clear hG HLv HSab HSba HSaa HC1 HC2 HB2 HCell0
  go_wp2_with fail
  refine (HR1.out _ hG0).mono ?_
  rintro e w3 ⟨rfl, hG3⟩
  clear h0 h1 h2 h3
  obtain ⟨h0, h1, h2, h3⟩ := HCell.out w3 hG3
  go_wp2_with fail
  refine (HR2.out _ hG3).mono ?_
  rintro e w4 ⟨rfl, hG4⟩
  clear h0 h1 h2 h3
  obtain ⟨h0, h1, h2, h3⟩ := HCell.out w4 hG4
  go_wp2_with fail
  refine (HLive.out _ hG4).mono ?_
  rintro e w5 ⟨rfl, hG5⟩
  clear h0 h1 h2 h3
  obtain ⟨h0, h1, h2, h3⟩ := HCell.out w5 hG5
  go_wp2_with fail
  try simp only [beq_self_eq_true]
  try go_wp2_with fail
  refine (HS1.out _ hG5).mono ?_
  rintro e w6 ⟨rfl, hG6⟩
  clear h0 h1 h2 h3
  obtain ⟨h0, h1, h2, h3⟩ := HCell.out w6 hG6
  go_wp2_with fail
  try simp only [beq_self_eq_true]
  try go_wp2_with fail
  refine (HS2.out _ hG6).mono ?_
  rintro e w7 ⟨rfl, hG7⟩
  clear h0 h1 h2 h3
  obtain ⟨h0, h1, h2, h3⟩ := HCell.out w7 hG7
  go_wp2_with fail
  try simp only [beq_self_eq_true]
  try go_wp2_with fail
  refine (HS3.out _ hG7).mono ?_
  rintro e w8 ⟨rfl, hG8⟩
  go_wp2
  go_ret
  exact ⟨by simp, HFin.out _ hG8⟩
end Go.Proofs.Ytnjggejallnkoaa
