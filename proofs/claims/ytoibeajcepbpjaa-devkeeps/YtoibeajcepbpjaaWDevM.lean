/- The document's own file: New, All, Damage, Read. -/
import Derived.Test.YtoibeajcepbpjaaWDeed
namespace Go.Proofs.Ytoibeajcepbpjaa
open Go.RowKit

theorem refNew_bad (q : Int) (h : q < 0 ∨ 1048576 < q) (w : World) : Calls Try.prog 10 #[.int .i64 q] w fun e w' => e = .returned (.tuple #[.pointer none, .int .i64 1]) ∧ w' = w := by
  by_cases h0 : q < 0
  · clear h
    go_enter Try.func10, Try.ntmps10
    go_wp2
    go_ret2
    exact ⟨rfl, rfl⟩
  · have h1 : 1048576 < q := by omega
    have h2 : 0 ≤ q := by omega
    clear h h0
    go_enter Try.func10, Try.ntmps10
    go_wp2
    go_ret2
    exact ⟨rfl, rfl⟩

theorem refNew_ok (q : Nat) (h : q ≤ 1048576) (w : World) : Calls Try.prog 10 #[.int .i64 q] w fun e w' => e = .returned (.tuple #[.pointer (some ⟨w.heap.size, 0, none⟩), .int .i64 0]) ∧ RDev w' w.heap.size w.heap.size (.slice none 0 0) (Dv.new q) ∧ Below w.heap.size w w' := by
  have HR : Hid (RDev (w.alloc (.cells (devCells (.slice none 0 0) (Dv.new q)) 55)) w.heap.size w.heap.size (.slice none 0 0) (Dv.new q)) :=
    ⟨heap_new w _, has_nil _ _, Nat.le_refl _, by simp [Value.ownBlock]⟩
  have HB : Hid (Below w.heap.size w (w.alloc (.cells (devCells (.slice none 0 0) (Dv.new q)) 55))) := (Below.refl _ _).alloc (Nat.le_refl _) _
  have h1 : (q : Int) ≤ 1048576 := by omega
  go_enter Try.func10, Try.ntmps10
  go_wp2
  go_ret2
  exact ⟨rfl, HR.out, HB.out⟩

theorem Has.set {w : World} {B g cap : Nat} {l : List UInt8} (h : Has w B (.slice (some ⟨g, 0, none⟩) l.length cap) l) (i : Nat) (c : UInt8) : Has (w.setCell ⟨g, i, none⟩ (.int .u8 (c.toNat : Int))) B (.slice (some ⟨g, 0, none⟩) l.length cap) (l.set i c) := by
  have el : (l.set i c).length = l.length := List.length_set
  unfold Has World.ownsRow
  rw [el]
  refine ⟨by rw [cellsOf_length, el, Nat.mul_one], ?_⟩
  rcases h.2 with ⟨h1, _⟩ | ⟨g', cap', cur, h1, h2, h3, h4, h5, h6, h7⟩
  · cases h1
  · cases h1
    refine .inr ⟨g, cap, cur.setIfInBounds i (.int .u8 (c.toNat : Int)), rfl, h2, ?_, h4, h5, by simpa using h6, ?_⟩
    · simp only [World.setCell, Array.getElem?_modify, h3, if_true, Option.map_some]
      rw [if_neg (by simp)]
    · rw [Array.toList_setIfInBounds, List.take_set, h7]
      simp [cellsOf, List.map_set]

section
variable {B g : Nat} {v : Value} {s : Dv.St} {w : World}

set_option maxHeartbeats 1000000 in
theorem refDamage (h : RDev w B g v s) (a : Int) (c : UInt8) : Calls Try.prog 38 #[.pointer (some ⟨g, 0, none⟩), .int .i64 a, .int .u8 (c.toNat : Int)] w (RPost w B g v (Dv.damage s a c)) := by
  have c0 : w.cell? ⟨g, 0, none⟩ = some v := h.cell 0
  have HR := Lib.hid h
  by_cases hx : a < 0 ∨ (s.b.length : Int) ≤ a
  · have HE : Hid (Dv.damage s a c = (7, s)) := by show _ = _; unfold Dv.damage; rw [if_pos hx]
    obtain ⟨p, cap, hv, -, -⟩ := h.has.at
    subst hv
    clear h
    by_cases h0 : a < 0
    · clear hx
      go_enter Try.func38, Try.ntmps38
      go_wp2
      go_ret
      unfold RPost
      rw [HE.out]
      exact ⟨rfl, _, HR.out, Aside.refl _ _, .inl rfl⟩
    · have h1 : (s.b.length : Int) ≤ a := by omega
      have h2 : 0 ≤ a := by omega
      clear hx h0
      go_enter Try.func38, Try.ntmps38
      go_wp2
      go_ret
      unfold RPost
      rw [HE.out]
      exact ⟨rfl, _, HR.out, Aside.refl _ _, .inl rfl⟩
  · obtain ⟨i, rfl⟩ : ∃ i : Nat, a = (i : Int) := ⟨a.toNat, by omega⟩
    have hi : i < s.b.length := by omega
    have hi1 : (i : Int) < (s.b.length : Int) := by omega
    have HE : Hid (Dv.damage s i c = (0, { s with b := s.b.set i c })) := by show _ = _; unfold Dv.damage; rw [if_neg hx]; rfl
    rcases h.has.form with ⟨_, h0⟩ | ⟨g2, cap, hv, hm⟩
    · rw [h0] at hi; simp at hi
    · subst hv
      have hne : g2 ≠ g := fun hc => h.apart (by rw [hc]; rfl)
      have hcell := hm.free.2.1 i hi
      have hfz := hm.free.2.2 i hi
      rw [Nat.zero_add] at hcell hfz
      have hS : Has (w.setCell ⟨g2, i, none⟩ (.int .u8 (c.toNat : Int))) B (.slice (some ⟨g2, 0, none⟩) s.b.length cap) (s.b.set i c) := Has.set h.has i c
      have HR2 : Hid (RDev (w.setCell ⟨g2, i, none⟩ (.int .u8 (c.toNat : Int))) B g (.slice (some ⟨g2, 0, none⟩) s.b.length cap) { s with b := s.b.set i c }) := by
        refine ⟨?_, hS, h.base, h.apart⟩
        rw [Below.heap_setCell _ _ _ _ (fun hc => hne hc.symm)]
        exact h.lies
      have hc256 := c.toNat_lt
      clear h hm hS hx HR
      generalize c.toNat = cv at HR2 hc256 ⊢
      go_enter Try.func38, Try.ntmps38
      go_wp2
      go_ret
      unfold RPost
      rw [HE.out]
      exact ⟨rfl, _, HR2.out, (Aside.refl _ _).setCell (.inl (.inr rfl)) _, .inl rfl⟩

set_option maxHeartbeats 1000000 in
theorem refAll (h : RDev w B g v s) (hl : s.b.length ≤ 1073741824) : Calls Try.prog 40 #[.pointer (some ⟨g, 0, none⟩)] w fun e w' => ∃ q cap, e = .returned (.slice q s.b.length cap) ∧ Has w' w.heap.size (.slice q s.b.length cap) s.b ∧ Below w.heap.size w w' := by
  have c0 : w.cell? ⟨g, 0, none⟩ = some v := h.cell 0
  obtain ⟨p, cap, hv, hA, -⟩ := h.has.at
  subst hv
  have HFst : Hid (∀ w' : World, w'.heap = w.heap → Calls Try.prog 55 #[.slice p s.b.length cap, .int .i64 (s.b.length : Nat)] w' fun e w'' => ∃ q c', e = .returned (.slice q s.b.length c') ∧ Has w'' w'.heap.size (.slice q s.b.length c') s.b ∧ Below w'.heap.size w' w'') := by
    intro w' e
    have := refFirst p cap s.b hl s.b.length (Nat.le_refl _) w' (at_heap hA e)
    refine this.mono ?_
    rintro e w'' ⟨u, rfl, hu, hb⟩
    rw [List.take_length] at hu
    obtain ⟨q, c', rfl, -, -⟩ := hu.at
    exact ⟨q, c', rfl, hu, hb⟩
  clear h hA
  go_enter Try.func40, Try.ntmps40
  go_wp2
  go_region_with (go_at_call 55; refine (HFst.out _ (by rfl)).mono ?_; rintro e w1 ⟨q1, c1, rfl, hu, hb⟩; have HU := Lib.hid hu; have HBl := Lib.hid hb; clear hu hb)
  all_goals
    go_wp2
    go_ret
    exact ⟨q1, c1, rfl, HU.out, (Below.refl w.heap.size w).drew.trans HBl.out⟩
end
end Go.Proofs.Ytoibeajcepbpjaa
