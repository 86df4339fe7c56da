/- SchemaEncodes over what the laws ask of package schema. -/
import Derived.Test.YtnjggejallnkoabM25
import Derived.Test.YtnjggejallnkoabM26
namespace Go.Proofs.Ytnjggejallnkoab
open Go.RowKit

set_option maxRecDepth 100000 in
set_option maxHeartbeats 2000000 in
theorem schemaEncodes_any {I : World → Prop} (K : SchemaOk I) (s : List Col) (p : Option Addr) (c : Nat) (w : World) (hs : s.length * 120 ≤ 140737488351232) (hsc : s.length ≤ c) (hx : Cols w p s) (ws : ∀ x ∈ s, x.wf) (hI : I w) :
    Calls Try.prog 3 #[.agg #[.slice p s.length c]] w fun e w' => e = .returned (.bool true) ∧ Below w.heap.size w w' := by
  obtain ⟨W0, hW0⟩ : ∃ W0, W0 = w.alloc (.cells #[.slice p s.length c] 24) := ⟨_, rfl⟩
  have HB0 : Hid (Below w.heap.size w W0) := by rw [hW0]; exact (Below.refl _ _).alloc (Nat.le_refl _) _
  have HY0 : Hid (W0.cell? ⟨w.heap.size, 0, none⟩ = some (.slice p s.length c)) := by rw [hW0]; show _ = _; simp
  have HW0 := Lib.hid hW0
  obtain ⟨n, hn⟩ : ∃ n, n = Sch.err s := ⟨_, rfl⟩
  obtain ⟨L, hL⟩ : ∃ L, L = if Sch.err s = 0 then Sch.bytes s else [] := ⟨_, rfl⟩
  have hLl : L.length ≤ 140737488351232 := by
    rw [hL]
    split
    · next h0 => exact Nat.le_trans (Sch.err_open h0).2.2.2 (by decide)
    · decide
  have HLl := Lib.hid hLl
  have HCp := Lib.hid (copied7 s p c W0 hs (hx.on HB0.out))
  have HEn := Lib.hid (fun w' (hb : Below w.heap.size w w') => K.encode s p c w' hs hsc (hx.on hb) ws (K.on hI hb))
  have HRe : Hid (∀ p' c' w', s.length ≤ c' → Cols w' p' s → Calls Try.prog 9 #[.agg #[.slice p' s.length c']] w' fun e w'' => ∃ q cap, e = .returned (.tuple #[.slice q L.length cap, .int .i64 (n : Nat)]) ∧ At w'' q L ∧ Below w'.heap.size w' w'') := fun p' c' w' h1 h2 => by
    refine (refEncode7 s p' c' w' hs h1 h2 ws).mono ?_
    rintro e w'' (⟨h0, q, cap, rfl, hh, hb⟩ | ⟨h0, rfl, hb⟩)
    · rw [if_pos h0] at hL
      rw [hL, hn, h0]
      exact ⟨q, cap, rfl, hh.here, hb⟩
    · rw [if_neg h0] at hL
      rw [hL, hn]
      exact ⟨none, 0, rfl, .inl rfl, hb⟩
  have HWh := Lib.hid (fun p' c' w' (hb : Below w.heap.size w w') (h2 : Cols w' p' s) => whole7 s s p p' c c' w' hs (hx.on hb) h2)
  have HLv := Lib.hid (fun w' (hb : Below w.heap.size w w') => schemaLive_ok K w' (K.on hI hb))
  rw [← hL, ← hn] at HEn
  rw [(wholeL_iff s s).2 rfl] at HWh
  clear hW0 hx ws hI K hn hs hsc hL hLl
  go_enter Try.func3, Try.ntmps3
  go_wp2_with fail
  rw [← HW0.out]
  clear HW0
  refine HCp.out.mono ?_
  rintro e w1 ⟨u1, rfl, hso, hb1⟩
  obtain ⟨p1, c1, rfl, hl1, hc1, hcols1⟩ := hso.lies.out
  obtain ⟨w2, hw2⟩ : ∃ w2, w2 = w1.alloc (.cells #[.slice p1 s.length c1] 24) := ⟨_, rfl⟩
  have hb2 : Below w1.heap.size w1 w2 := by rw [hw2]; exact (Below.refl _ _).alloc (Nat.le_refl _) _
  have hca := cell_on hb2 (cell_on hb1 HY0.out)
  have hcb : w2.cell? ⟨w1.heap.size, 0, none⟩ = some (.slice p1 s.length c1) := by rw [hw2]; simp
  have HCc := Lib.hid (And.intro hca hcb)
  have HCd := Lib.hid (And.intro hca hcb)
  have HB1 := Lib.hid (HB0.out.trans (hb1.mono HB0.out.size))
  have HB2 := Lib.hid (HB1.out.trans (hb2.mono HB1.out.size))
  have HC2 := Lib.hid (hcols1.on hb2)
  have HL1 := Lib.hid hc1
  have HW2 := Lib.hid hw2
  rw [hw2] at hca hcb
  clear hb1 hso hl1 hc1 hcols1 hb2 hw2 HCp HY0 HB1
  clear HCc
  go_wp2_with fail
  rw [← HW2.out]
  clear HW2 hca hcb
  refine (HEn.out _ HB2.out).mono ?_
  rintro e w3 ⟨q3, cap3, rfl, hat3, hn3, hb3⟩
  have HB3 := Lib.hid (HB2.out.trans (hb3.mono HB2.out.size))
  have hca := cell_on hb3 HCd.out.1
  have hcb := cell_on hb3 HCd.out.2
  have HCe := Lib.hid (And.intro hca hcb)
  have HC3 := Lib.hid (HC2.out.on hb3)
  have HAt3 := Lib.hid hat3
  have HRr := Lib.hid (HRe.out p1 c1 w3 HL1.out HC3.out)
  clear hb3 hat3 hn3 HEn HRe HC2 HCd HB2
  go_wp2_with fail
  refine HRr.out.mono ?_
  rintro e w4 ⟨q4, cap4, rfl, hat4, hb4⟩
  have HB4 := Lib.hid (HB3.out.trans (hb4.mono HB3.out.size))
  have HCf := Lib.hid (And.intro (cell_on hb4 HCe.out.1) (cell_on hb4 HCe.out.2))
  have HAt4 := Lib.hid (And.intro (HAt3.out.on hb4) hat4)
  have HC4 := Lib.hid (HC3.out.on hb4)
  clear hb4 hat4 HRr HCe HAt3 HC3 HB3 hca hcb
  obtain ⟨G, hG⟩ : ∃ G : World → Prop, G = fun w' => Below w4.heap.size w4 w' := ⟨_, rfl⟩
  have hG0 := keepG_here hG
  have hGd := keepG_drew hG
  have HFin := Lib.hid (keepG_fin hG HB4.out)
  have HCell := Lib.hid (fun w' (h : G w') => And.intro (keepG_cell hG HCf.out.1 w' h) (keepG_cell hG HCf.out.2 w' h))
  have HLive := Lib.hid (keepG hG HB4.out HLv.out)
  have HSame : Hid (∀ w', G w' → Calls Try.prog 11 #[.slice q3 L.length cap3, .slice q4 L.length cap4] w' fun e w'' => e = .returned (.bool true) ∧ G w'') := fun w' h => by
    have h' := h
    rw [hG] at h'
    refine (same_any q3 q4 cap3 cap4 L L HLl.out w' (HAt4.out.1.on h') (HAt4.out.2.on h')).mono ?_
    rintro e w'' ⟨rfl, n, rfl⟩
    refine ⟨by simp, ?_⟩
    rw [hG]
    exact below_drewN h' n
  have HS3 : Hid (∀ w', G w' → Calls Try.prog 12 #[.agg #[.slice p s.length c], .agg #[.slice p1 s.length c1]] w' fun e w'' => e = .returned (.bool true) ∧ G w'') := fun w' h => by
    have h' := h
    rw [hG] at h'
    refine (HWh.out p1 c1 w' (HFin.out w' h) (HC4.out.on h')).mono ?_
    rintro e w'' ⟨rfl, h3⟩
    refine ⟨rfl, ?_⟩
    rw [hG]
    exact h'.trans (h3.mono h'.size)
  obtain ⟨hca, hcb⟩ := HCell.out _ hG0
  clear hG HLv HWh HC4 HB4 HCf HL1 HLl HAt4
  go_wp2_with fail
  refine (HLive.out _ hG0).mono ?_
  rintro e w5 ⟨rfl, hG5⟩
  clear hca hcb
  obtain ⟨hca, hcb⟩ := HCell.out _ hG5
  go_wp2_with fail
  try simp only [beq_self_eq_true]
  try go_wp2_with fail
  refine (HSame.out _ hG5).mono ?_
  rintro e w6 ⟨rfl, hG6⟩
  clear hca hcb
  obtain ⟨hca, hcb⟩ := HCell.out _ hG6
  go_wp2_with fail
  refine (HS3.out _ hG6).mono ?_
  rintro e w7 ⟨rfl, hG7⟩
  go_wp2
  go_ret
  exact ⟨by simp, HFin.out _ hG7⟩
end Go.Proofs.Ytnjggejallnkoab
