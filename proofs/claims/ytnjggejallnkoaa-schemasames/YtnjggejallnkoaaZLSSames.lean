/- SchemaSames over what the laws ask of package schema. -/
import Derived.Test.YtnjggejallnkoaaM19
import Derived.Test.YtnjggejallnkoaaM17
namespace Go.Proofs.Ytnjggejallnkoaa
open Go.RowKit

theorem sameS_self (s : List Col) : Sch.same s s = true := (Sch.same_fix s s).2 rfl
theorem sameS_swap (s t : List Col) : Sch.same t s = Sch.same s t := by
  rw [Bool.eq_iff_iff, Sch.same_fix, Sch.same_fix]; exact ⟨Eq.symm, Eq.symm⟩

set_option maxRecDepth 100000 in
set_option maxHeartbeats 2000000 in
theorem schemaSames_any {I : World → Prop} (K : SchemaOk I) (s t : List Col) (p q : Option Addr) (c d : Nat) (w : World) (hs : s.length * 120 ≤ 140737488351232) (ht : t.length * 120 ≤ 140737488351232) (hsc : s.length ≤ c) (htd : t.length ≤ d) (hx : Cols w p s) (hy : Cols w q t) (ws : ∀ x ∈ s, x.wf) (wt : ∀ x ∈ t, x.wf) (hI : I w) :
    Calls Try.prog 7 #[.agg #[.slice p s.length c], .agg #[.slice q t.length d]] w fun e w' => e = .returned (.bool true) ∧ Below w.heap.size w w' := by
  obtain ⟨W0, hW0⟩ : ∃ W0, W0 = (w.alloc (.cells #[.slice p s.length c] 31)).alloc (.cells #[.slice q t.length d] 31) := ⟨_, rfl⟩
  have HB0 : Hid (Below w.heap.size w W0) := by rw [hW0]; exact ((Below.refl _ _).alloc (Nat.le_refl _) _).alloc (by simp) _
  have HY0 : Hid (W0.cell? ⟨w.heap.size, 0, none⟩ = some (.slice p s.length c) ∧ W0.cell? ⟨w.heap.size + 1, 0, none⟩ = some (.slice q t.length d)) := by rw [hW0]; exact ⟨by simp, by simp⟩
  have HW0 := Lib.hid hW0
  obtain ⟨r, hr⟩ : ∃ r, r = Sch.same s t := ⟨_, rfl⟩
  have HR0 := Lib.hid (refSameS7 s t p q c d W0 hs (hx.on HB0.out) (hy.on HB0.out))
  have HSab := Lib.hid (fun w' (hb : Below w.heap.size w w') => K.same s t p q c d w' hs ht hsc htd (hx.on hb) (hy.on hb) ws wt (K.on hI hb))
  have HSba := Lib.hid (fun w' (hb : Below w.heap.size w w') => K.same t s q p d c w' ht hs htd hsc (hy.on hb) (hx.on hb) wt ws (K.on hI hb))
  have HSaa := Lib.hid (fun w' (hb : Below w.heap.size w w') => K.same s s p p c c w' hs hs hsc hsc (hx.on hb) (hx.on hb) ws ws (K.on hI hb))
  have HLv := Lib.hid (fun w' (hb : Below w.heap.size w w') => schemaLive_ok K w' (K.on hI hb))
  rw [sameS_swap, ← hr] at HSba
  rw [sameS_self] at HSaa
  rw [← hr] at HSab HR0
  clear hW0 hx hy ws wt hI K hr hs ht hsc htd
  go_enter Try.func7, Try.ntmps7
  go_wp2_with fail
  rw [← HW0.out]
  clear HW0
  refine HR0.out.mono ?_
  rintro e w2 ⟨rfl, hb1⟩
  have HB2 := Lib.hid (HB0.out.trans (hb1.mono HB0.out.size))
  have HC2 := Lib.hid (And.intro (cell_on hb1 HY0.out.1) (cell_on hb1 HY0.out.2))
  clear hb1 HR0 HY0
  obtain ⟨G, hG⟩ : ∃ G : World → Prop, G = fun w' => Below w2.heap.size w2 w' := ⟨_, rfl⟩
  have hG0 := keepG_here hG
  have hGd := keepG_drew hG
  have HFin := Lib.hid (keepG_fin hG HB2.out)
  have HCell := Lib.hid (fun w' (h : G w') => And.intro (keepG_cell hG HC2.out.1 w' h) (keepG_cell hG HC2.out.2 w' h))
  have HLive := Lib.hid (keepG hG HB2.out HLv.out)
  have HS1 := Lib.hid (keepG hG HB2.out HSab.out)
  have HS2 := Lib.hid (keepG hG HB2.out HSba.out)
  have HS3 := Lib.hid (keepG hG HB2.out HSaa.out)
  obtain ⟨hca, hcb⟩ := HCell.out w2 hG0
  clear hG HLv HSab HSba HSaa HC2 HB2
  go_wp2_with fail
  refine (HLive.out _ hG0).mono ?_
  rintro e w3 ⟨rfl, hG3⟩
  obtain ⟨hca3, hcb3⟩ := HCell.out _ hG3
  go_wp2_with fail
  refine (HS1.out _ hG3).mono ?_
  rintro e w4 ⟨rfl, hG4⟩
  obtain ⟨hca4, hcb4⟩ := HCell.out _ hG4
  go_wp2_with fail
  try simp only [beq_self_eq_true]
  go_wp2_with fail
  refine (HS2.out _ hG4).mono ?_
  rintro e w5 ⟨rfl, hG5⟩
  obtain ⟨hca5, hcb5⟩ := HCell.out _ hG5
  go_wp2_with fail
  try simp only [beq_self_eq_true]
  go_wp2_with fail
  refine (HS3.out _ hG5).mono ?_
  rintro e w6 ⟨rfl, hG6⟩
  go_wp2
  go_ret
  exact ⟨by simp, HFin.out _ hG6⟩
end Go.Proofs.Ytnjggejallnkoaa
