/- SchemaChecks over what the laws ask of package schema. -/
import Derived.Test.YtnjggejallnkoaaM19
import Derived.Test.YtnjggejallnkoaaM20
namespace Go.Proofs.Ytnjggejallnkoaa
open Go.RowKit

set_option maxRecDepth 100000 in
set_option maxHeartbeats 2000000 in
theorem schemaChecks_any {I : World → Prop} (K : SchemaOk I) (s : List Col) (p : Option Addr) (c : Nat) (w : World) (hs : s.length * 120 ≤ 140737488351232) (hsc : s.length ≤ c) (hx : Cols w p s) (ws : ∀ x ∈ s, x.wf) (hI : I w) :
    Calls Try.prog 4 #[.agg #[.slice p s.length c]] w fun e w' => e = .returned (.bool true) ∧ Below w.heap.size w w' := by
  obtain ⟨W0, hW0⟩ : ∃ W0, W0 = w.alloc (.cells #[.slice p s.length c] 31) := ⟨_, rfl⟩
  have HB0 : Hid (Below w.heap.size w W0) := by rw [hW0]; exact (Below.refl _ _).alloc (Nat.le_refl _) _
  have HY0 : Hid (W0.cell? ⟨w.heap.size, 0, none⟩ = some (.slice p s.length c)) := by rw [hW0]; show _ = _; simp
  have HW0 := Lib.hid hW0
  obtain ⟨n, hn⟩ : ∃ n, n = Sch.err s := ⟨_, rfl⟩
  have HCp := Lib.hid (copied7 s p c W0 hs (hx.on HB0.out))
  have HCk := Lib.hid (fun w' (hb : Below w.heap.size w w') => K.check s p c w' hs hsc (hx.on hb) ws (K.on hI hb))
  have HRk := Lib.hid (fun p' c' w' (h1 : s.length ≤ c') (h2 : Cols w' p' s) => refCheck7 s p' c' w' hs h1 h2 ws)
  have HWh := Lib.hid (fun p' c' w' (hb : Below w.heap.size w w') (h2 : Cols w' p' s) => whole7 s s p p' c c' w' hs (hx.on hb) h2)
  have HLv := Lib.hid (fun w' (hb : Below w.heap.size w w') => schemaLive_ok K w' (K.on hI hb))
  rw [← hn] at HCk HRk
  rw [(wholeL_iff s s).2 rfl] at HWh
  clear hW0 hx ws hI K hn hs hsc
  go_enter Try.func4, Try.ntmps4
  go_wp2_with fail
  rw [← HW0.out]
  clear HW0
  refine HCp.out.mono ?_
  rintro e w1 ⟨u1, rfl, hso, hb1⟩
  obtain ⟨p1, c1, rfl, hl1, hc1, hcols1⟩ := hso.lies.out
  obtain ⟨w2, hw2⟩ : ∃ w2, w2 = w1.alloc (.cells #[.slice p1 s.length c1] 31) := ⟨_, rfl⟩
  have hb2 : Below w1.heap.size w1 w2 := by rw [hw2]; exact (Below.refl _ _).alloc (Nat.le_refl _) _
  have hca := cell_on hb2 (cell_on hb1 HY0.out)
  have hcb : w2.cell? ⟨w1.heap.size, 0, none⟩ = some (.slice p1 s.length c1) := by rw [hw2]; simp
  have HCc := Lib.hid (And.intro hca hcb)
  have HB1 := Lib.hid (HB0.out.trans (hb1.mono HB0.out.size))
  have HB2 := Lib.hid (HB1.out.trans (hb2.mono HB1.out.size))
  have HC2 := Lib.hid (hcols1.on hb2)
  have HL1 := Lib.hid hc1
  have HW2 := Lib.hid hw2
  rw [hw2] at hca hcb
  clear hb1 hso hl1 hc1 hcols1 hb2 hw2 HCp HY0 HB1
  obtain ⟨G, hG⟩ : ∃ G : World → Prop, G = fun w' => Below w2.heap.size w2 w' := ⟨_, rfl⟩
  have hG0 := keepG_here hG
  have hGd := keepG_drew hG
  have HFin := Lib.hid (keepG_fin hG HB2.out)
  have HCell := Lib.hid (fun w' (h : G w') => And.intro (keepG_cell hG HCc.out.1 w' h) (keepG_cell hG HCc.out.2 w' h))
  have HLive := Lib.hid (keepG hG HB2.out HLv.out)
  have HS1 := Lib.hid (keepG hG HB2.out HCk.out)
  have HS2 : Hid (∀ w', G w' → Calls Try.prog 14 #[.agg #[.slice p1 s.length c1]] w' fun e w'' => e = .returned (.int .i64 n) ∧ G w'') := fun w' h => by
    have h' := h
    rw [hG] at h'
    refine (HRk.out p1 c1 w' HL1.out (HC2.out.on h')).mono ?_
    rintro e w'' ⟨rfl, h3⟩
    refine ⟨rfl, ?_⟩
    rw [hG]
    exact h'.trans (h3.mono h'.size)
  have HS3 : Hid (∀ w', G w' → Calls Try.prog 15 #[.agg #[.slice p s.length c], .agg #[.slice p1 s.length c1]] w' fun e w'' => e = .returned (.bool true) ∧ G w'') := fun w' h => by
    have h' := h
    rw [hG] at h'
    refine (HWh.out p1 c1 w' (HFin.out w' h) (HC2.out.on h')).mono ?_
    rintro e w'' ⟨rfl, h3⟩
    refine ⟨rfl, ?_⟩
    rw [hG]
    exact h'.trans (h3.mono h'.size)
  clear hG HLv HCk HRk HWh HC2 HB2 HCc HL1
  go_wp2_with fail
  rw [← HW2.out]
  clear HW2 hca hcb
  refine (HS1.out _ hG0).mono ?_
  rintro e w3 ⟨rfl, hG3⟩
  obtain ⟨hca, hcb⟩ := HCell.out _ hG3
  go_wp2_with fail
  refine (HS2.out _ hG3).mono ?_
  rintro e w4 ⟨rfl, hG4⟩
  clear hca hcb
  obtain ⟨hca, hcb⟩ := HCell.out _ hG4
  go_wp2_with fail
  refine (HLive.out _ hG4).mono ?_
  rintro e w5 ⟨rfl, hG5⟩
  clear hca hcb
  obtain ⟨hca, hcb⟩ := HCell.out _ hG5
  go_wp2_with fail
  try simp only [beq_self_eq_true]
  try go_wp2_with fail
  refine (HS3.out _ hG5).mono ?_
  rintro e w6 ⟨rfl, hG6⟩
  go_wp2
  go_ret
  exact ⟨by simp, HFin.out _ hG6⟩
end Go.Proofs.Ytnjggejallnkoaa
