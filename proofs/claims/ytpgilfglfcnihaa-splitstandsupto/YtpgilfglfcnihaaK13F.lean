/- The landed splitter: New, Held, At, Clone, Runs. -/
import Derived.Test.YtpgilfglfcnihaaK13E
namespace Go.Proofs.Ytpgilfglfcnihaa
open Go.RowKit
attribute [local go_sem] runK_store_func

theorem heldK (w : World) (B g : Nat) (v : Value) (d : Sp) (h : Spl w B g v d) : Calls Try.prog 17 #[.pointer (some ⟨g, 0, none⟩)] w fun e w' => e = .returned (.int .i64 (d.held.length : Nat)) ∧ w' = w := by
  have c2 : w.cell? ⟨g, 2, none⟩ = some v := s_cell h.lies 2
  obtain ⟨p, cap, hv, -, -⟩ := h.held.at
  subst hv
  clear h
  go_enter Try.func17, Try.ntmps17
  go_wp2
  go_ret
  exact ⟨rfl, rfl⟩
theorem atK (w : World) (B g : Nat) (v : Value) (d : Sp) (h : Spl w B g v d) : Calls Try.prog 19 #[.pointer (some ⟨g, 0, none⟩)] w fun e w' => e = .returned (.int .i64 (d.n : Nat)) ∧ w' = w := by
  have c0 : w.cell? ⟨g, 0, none⟩ = some (.int .i64 d.n) := s_cell h.lies 0
  clear h
  go_enter Try.func19, Try.ntmps19
  go_wp2
  go_ret
  exact ⟨rfl, rfl⟩

set_option maxHeartbeats 1000000 in
theorem newK (w : World) : Calls Try.prog 15 #[] w fun e w' => ∃ g v, e = .returned (.pointer (some ⟨g, 0, none⟩)) ∧ Spl w' w.heap.size g v Sp.start ∧ Below w.heap.size w w' := by
  have h0 : (w.alloc (.cells (sCells 0 0 (.slice none 0 0) .nilFunc) 42)).heap[w.heap.size]? = some (.cells (sCells 0 0 (.slice none 0 0) .nilFunc) 42) := heap_new w _
  have HF := Lib.hid (followK w.heap.size 0 0 0 none 0 .nilFunc _ none h0)
  simp only [opI] at HF
  go_enter Try.func15, Try.ntmps15
  go_wp2_with fail
  refine HF.out.mono ?_
  rintro e w1 ⟨rfl, hl, ha⟩
  go_wp2
  go_ret
  refine ⟨w.heap.size, _, rfl, ⟨hl, has_nil _ _, Nat.le_refl _⟩, ?_⟩
  exact ((Below.refl w.heap.size w).alloc (Nat.le_refl _) _).trans (ha.below (by simp) (fun k hk hc => by omega))

set_option maxHeartbeats 1000000 in
theorem cloneS (w : World) (B g : Nat) (v : Value) (d : Sp) (h : Spl w B g v d) : Calls Try.prog 20 #[.pointer (some ⟨g, 0, none⟩)] w fun e w' => ∃ g' v', e = .returned (.pointer (some ⟨g', 0, none⟩)) ∧ Spl w' w.heap.size g' v' d ∧ Below w.heap.size w w' := by
  have c0 : w.cell? ⟨g, 0, none⟩ = some (.int .i64 d.n) := s_cell h.lies 0
  obtain ⟨p, cap, hv, hA, -⟩ := h.held.at
  subst hv
  obtain ⟨W0, hW0⟩ : ∃ W0, W0 = w.alloc (.cells (sCells d.n 0 (.slice none 0 0) .nilFunc) 42) := ⟨_, rfl⟩
  have hb : Below w.heap.size w W0 := by rw [hW0]; exact (Below.refl _ _).alloc (Nat.le_refl _) _
  have h0 := h.on hb
  have c1 : W0.cell? ⟨g, 1, none⟩ = some (.int .i64 (opI d.op)) := s_cell h0.lies 1
  have hr : W0.heap[w.heap.size]? = some (.cells (sCells d.n 0 (.slice none 0 0) .nilFunc) 42) := by rw [hW0]; exact heap_new w _
  have HF := Lib.hid (followK w.heap.size d.n 0 0 none 0 .nilFunc W0 d.op hr)
  have HS := Lib.hid h0
  have HB := Lib.hid hb
  have hlt := h.lt
  clear h hb h0 hr hA
  subst hW0
  simp only [sCells] at c1
  go_enter Try.func20, Try.ntmps20
  go_wp2_with fail
  refine HF.out.mono ?_
  rintro e w1 ⟨rfl, hl, ha⟩
  have h1 := HS.out.aside ha (by omega) (fun k hk hc => by
    have := (HS.out.held.lt k hk)
    subst hc
    obtain ⟨C, hC⟩ := has_block HS.out.held hk
    rw [show (w.alloc (.cells (sCells d.n 0 (.slice none 0 0) .nilFunc) 42)).heap[w.heap.size]? = _ from heap_new w _] at hC
    injection hC with hC
    injection hC with _ hC
    exact absurd hC (by decide))
  have c2 : w1.cell? ⟨g, 2, none⟩ = some (.slice p d.held.length cap) := s_cell h1.lies 2
  have HC : Hid (Calls Try.prog 22 #[.slice p d.held.length cap] w1 fun e w' => ∃ q cap, e = .returned (.slice q d.held.length cap) ∧ Has w' w1.heap.size (.slice q d.held.length cap) d.held ∧ Below w1.heap.size w1 w') := by
    obtain ⟨p', c', he, hA, -⟩ := h1.held.at
    injection he with e1
    subst e1
    exact cloneK p cap d.held (by have := d.held_le; omega) w1 hA
  have HL := Lib.hid hl
  have HB1 := Lib.hid (HB.out.trans (ha.below (by simp) (fun k hk hc => by omega)))
  clear hl ha h1 HF HS HB c0 c1
  go_wp2_with fail
  refine HC.out.mono ?_
  rintro e w2 ⟨q, cq, rfl, hh, hb2⟩
  have hl2 := lies_on HL.out hb2
  have f2 := s_free hl2 2
  have d2 := s_cell hl2 2
  have HL2 := Lib.hid hl2
  have HH := Lib.hid hh
  have HB2 := Lib.hid hb2
  simp only [sCells] at d2
  clear hl2 hh hb2 HC
  go_wp2
  go_ret
  have hs1 := HB1.out.size
  refine ⟨w.heap.size, .slice q d.held.length cq, rfl, ⟨s_set HL2.out 2 _ rfl, ?_, Nat.le_refl _⟩, ?_⟩
  · exact (HH.out.low hs1).aside ((Aside.refl (· = w.heap.size) w2).setCell (p := ⟨w.heap.size, 2, none⟩) (.inl rfl) _) (fun k hk hc => by
      have := (HH.out.lt k hk).1
      have h3 := lies_lt HL.out
      omega)
  · exact (HB1.out.trans (HB2.out.mono hs1)).setCell (by simp) _

theorem RunsO.low {w : World} {B B' : Nat} {v : Value} {bs : List Nat} {rs : List Run} (h : RunsO w B v bs rs) (hB : B' ≤ B) : RunsO w B' v bs rs := by
  obtain ⟨us, h1, hl, h2⟩ := h.out
  refine ⟨us, ⟨h1.1, ?_⟩, hl, fun j hj => ?_⟩
  · rcases h1.2 with h3 | ⟨g, cap, cur, rfl, h4, h5⟩
    · exact .inl h3
    · exact .inr ⟨g, cap, cur, rfl, by omega, h5⟩
  · obtain ⟨g, cap, e1, e2, e3, hm⟩ := h2 j hj
    exact ⟨g, cap, e1, e2, e3, mine_low hm hB⟩

set_option maxHeartbeats 1000000 in
theorem runsK (w : World) (p : Option Addr) (c : Nat) (l : List UInt8) (hA : At w p l) (hl : l.length ≤ 100000000) : Calls Try.prog 10 #[.slice p l.length c] w fun e w' => ∃ q cap bs, e = .returned (.slice q (Sp.of l).out.length cap) ∧ RunsO w' w.heap.size (.slice q (Sp.of l).out.length cap) bs (Sp.of l).out ∧ Below w.heap.size w w' := by
  have HN := Lib.hid (newK w)
  have HA := Lib.hid hA
  clear hA
  go_enter Try.func10, Try.ntmps10
  go_wp2_with fail
  refine HN.out.mono ?_
  rintro e w1 ⟨g, v, rfl, hs, hb⟩
  have HF := Lib.hid (feedK w1 w.heap.size g v Sp.start p c l hs (HA.out.on hb) (fun hne b o hp => by
    rcases HA.out with h0 | ⟨b', o', h1, h2, h3⟩
    · exact absurd h0 hne
    · rw [h1] at hp
      injection hp with hp
      injection hp with e1 _
      subst e1
      exact ⟨by have := hs.base; omega, fun hc => by have := (hs.held.lt _ hc).1; omega⟩) (by simp [Sp.start]; omega))
  have HB := Lib.hid hb
  have HS := Lib.hid hs
  have HE : Hid (Sp.start.tolds l = (Sp.of l).out) := by
    show _ = _
    have := Sp.tolds_out Sp.start l
    simpa [Sp.start, Sp.of] using this.symm
  clear hs hb HN HA
  go_wp2_with fail
  refine HF.out.mono ?_
  rintro e w2 ⟨q, cap, v', bs, rfl, hf⟩
  rw [HE.out] at hf ⊢
  have HFi := Lib.hid hf
  clear hf HF
  go_wp2
  go_ret
  have hfo := HFi.out.runs
  rw [HE.out] at hfo
  have hs1 := HB.out.size
  refine ⟨q, cap, bs, rfl, hfo.low hs1, HB.out.trans (HFi.out.aside.below hs1 (fun k hk hc => ?_))⟩
  rcases hc with hc | hc
  · have := HS.out.base
    omega
  · have := (HS.out.held.lt _ hc).1
    omega
end Go.Proofs.Ytpgilfglfcnihaa
