/- SchemaNames over what the laws ask of package schema. -/
import Derived.Test.YtnjggejallnkoaaM19
import Derived.Test.YtnjggejallnkoaaM12
namespace Go.Proofs.Ytnjggejallnkoaa
open Go.RowKit

set_option maxRecDepth 100000 in
set_option maxHeartbeats 2000000 in
theorem schemaNames_any {I : World → Prop} (K : SchemaOk I) (s : List Col) (t : ByteArray) (p : Option Addr) (c : Nat) (w : World) (hs : s.length * 120 ≤ 140737488351232) (hsc : s.length ≤ c) (ht : t.size ≤ 140737488351232) (hx : Cols w p s) (ws : ∀ x ∈ s, x.wf) (hI : I w) :
    Calls Try.prog 6 #[.agg #[.slice p s.length c], .string t] w fun e w' => e = .returned (.bool true) ∧ Below w.heap.size w w' := by
  obtain ⟨W0, hW0⟩ : ∃ W0, W0 = w.alloc (.cells #[.slice p s.length c] 31) := ⟨_, rfl⟩
  have HB0 : Hid (Below w.heap.size w W0) := by rw [hW0]; exact (Below.refl _ _).alloc (Nat.le_refl _) _
  have HY0 : Hid (W0.cell? ⟨w.heap.size, 0, none⟩ = some (.slice p s.length c)) := by rw [hW0]; show _ = _; simp
  have HW0 := Lib.hid hW0
  obtain ⟨n, f, hf⟩ : ∃ (n : Nat) (f : Bool), foundV (Sch.find t s 0) = .tuple #[.int .i64 n, .bool f] := by
    cases Sch.find t s 0 with
    | none => exact ⟨0, false, rfl⟩
    | some k => exact ⟨k, true, rfl⟩
  obtain ⟨r, hr⟩ : ∃ r, r = Sch.name t := ⟨_, rfl⟩
  have HF0 := Lib.hid (K.find s t p c W0 hs hsc ht (hx.on HB0.out) ws (K.on hI HB0.out))
  have HF1 := Lib.hid (fun w' (hb : Below w.heap.size w w') => refFind7 s t p c w' hs (hx.on hb))
  have HN0 := Lib.hid (fun w' (hb : Below w.heap.size w w') => K.name t w' ht (K.on hI hb))
  have HN1 : Hid (∀ w', Below w.heap.size w w' → Calls Try.prog 21 #[.string t] w' fun e w'' => e = .returned (.bool (Sch.name t)) ∧ Below w'.heap.size w' w'') := fun w' hb => (refName7 t w').mono (by rintro e w'' ⟨rfl, rfl⟩; exact ⟨rfl, Below.refl _ _⟩)
  have HLv := Lib.hid (fun w' (hb : Below w.heap.size w w') => schemaLive_ok K w' (K.on hI hb))
  rw [hf] at HF0 HF1
  rw [← hr] at HN0 HN1
  clear hW0 hx ws hI K hr hf hs hsc ht
  go_enter Try.func6, Try.ntmps6
  go_wp2_with fail
  rw [← HW0.out]
  clear HW0
  refine HF0.out.mono ?_
  rintro e w2 ⟨rfl, hb1⟩
  have HB2 := Lib.hid (HB0.out.trans (hb1.mono HB0.out.size))
  have HC2 := Lib.hid (cell_on hb1 HY0.out)
  clear hb1 HF0 HY0
  obtain ⟨G, hG⟩ : ∃ G : World → Prop, G = fun w' => Below w2.heap.size w2 w' := ⟨_, rfl⟩
  have hG0 := keepG_here hG
  have hGd := keepG_drew hG
  have HFin := Lib.hid (keepG_fin hG HB2.out)
  have HCell := Lib.hid (keepG_cell hG HC2.out)
  have HLive := Lib.hid (keepG hG HB2.out HLv.out)
  have HR1 := Lib.hid (keepG hG HB2.out HF1.out)
  have HS1 := Lib.hid (keepG hG HB2.out HN0.out)
  have HS2 := Lib.hid (keepG hG HB2.out HN1.out)
  have hca := HCell.out w2 hG0
  clear hG HLv HF1 HN0 HN1 HC2 HB2
  go_wp2_with fail
  refine (HR1.out _ hG0).mono ?_
  rintro e w3 ⟨rfl, hG3⟩
  clear hca
  have hca := HCell.out _ hG3
  go_wp2_with fail
  refine (HLive.out _ hG3).mono ?_
  rintro e w4 ⟨rfl, hG4⟩
  go_wp2_with fail
  try simp only [beq_self_eq_true]
  try go_wp2_with fail
  refine (HS1.out _ hG4).mono ?_
  rintro e w5 ⟨rfl, hG5⟩
  go_wp2_with fail
  refine (HS2.out _ hG5).mono ?_
  rintro e w6 ⟨rfl, hG6⟩
  go_wp2
  go_ret
  exact ⟨by simp, HFin.out _ hG6⟩
end Go.Proofs.Ytnjggejallnkoaa
