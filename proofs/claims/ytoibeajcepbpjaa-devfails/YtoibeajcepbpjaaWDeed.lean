/- The document's own file: New, All, deed. -/
import Derived.Test.YtoibeajcepbpjaaWDevR
import Derived.Deep.RegionWith
namespace Go.Proofs.Ytoibeajcepbpjaa
open Go.RowKit

theorem RDev.drewN {w : World} {B g : Nat} {v : Value} {s : Dv.St} (h : RDev w B g v s) (n : Nat) : RDev (w.drewN n) B g v s := ⟨h.lies, h.has, h.base, h.apart⟩
theorem RDev.drew {w : World} {B g : Nat} {v : Value} {s : Dv.St} (h : RDev w B g v s) : RDev w.drew B g v s := ⟨h.lies, h.has, h.base, h.apart⟩

/-- its bytes are put by others: u is a list of its own, laid since -/
theorem RDev.swap {w w' : World} {B g : Nat} {v u : Value} {s : Dv.St} {l : List UInt8} (h : RDev w B g v s) (hb : Below w.heap.size w w') (hu : Has w' w.heap.size u l) (hB : B ≤ w.heap.size) :
    RDev (w'.setCell ⟨g, 0, none⟩ u) B g u { s with b := l } := by
  have hg := h.lt
  have hl : w'.heap[g]? = some (.cells (devCells v s) 55) := by rw [hb.block g hg]; exact h.lies
  have hne : u.ownBlock ≠ some g := fun hc => by have := (hu.lt g hc).1; omega
  have ha : Aside (· = g) w' (w'.setCell ⟨g, 0, none⟩ u) := (Aside.refl (· = g) w').setCell (p := ⟨g, 0, none⟩) (.inl rfl) u
  refine ⟨?_, (hu.low hB).aside ha (fun k hk hc => hne (by rw [hk, hc])), h.base, hne⟩
  simp only [World.setCell, Array.getElem?_modify, hl, if_true, Option.map_some]
  rw [if_neg (by simp)]
  rfl

def DPost (w : World) (B g : Nat) (v : Value) (s : Dv.St) (e : Ending) (w' : World) : Prop :=
  e = .returned (.bool (Dv.may s)) ∧ ∃ v', RDev w' B g v' (if Dv.may s then Dv.did s else Dv.fails s) ∧ Aside (fun k => k = g ∨ v.ownBlock = some k) w w' ∧ (v' = v ∨ ∀ k, v'.ownBlock = some k → v.ownBlock = some k ∨ w.heap.size ≤ k)

section
variable {B g : Nat} {v : Value} {s : Dv.St} {w : World}

set_option maxHeartbeats 1000000 in
theorem refDeed_did (h : RDev w B g v s) (hm : Dv.may s = true) (hd : s.done < 4611686018427387904) (ha : s.after < 9223372036854775808) : Calls Try.prog 54 #[.pointer (some ⟨g, 0, none⟩)] w (DPost w B g v s) := by
  have c4 : w.cell? ⟨g, 4, none⟩ = some (.bool s.bound) := h.cell 4
  have c5 : w.cell? ⟨g, 5, none⟩ = some (.int .i64 s.after) := h.cell 5
  have c8 : w.cell? ⟨g, 8, none⟩ = some (.int .i64 s.done) := h.cell 8
  have f5 := h.thawed 5
  have f8 := h.thawed 8
  cases hbd : s.bound with
  | false =>
    have HR : Hid (RDev (w.setCell ⟨g, 8, none⟩ (.int .i64 ((s.done : Int) + 1))) B g v (Dv.did s)) := h.put 8 _ (by simp [devCells, Dv.did, hbd]) rfl
    have HM := Lib.hid hm
    rw [hbd] at c4
    clear h hm hbd
    go_enter Try.func54, Try.ntmps54
    go_wp2
    go_ret
    unfold DPost
    rw [HM.out]
    exact ⟨rfl, _, HR.out, (Aside.refl _ _).setCell (.inl (.inl rfl)) _, .inl rfl⟩
  | true =>
    have hpos : 0 < s.after := by simpa [Dv.may, hbd] using hm
    have hpos1 : (0 : Int) < (s.after : Int) := by omega
    have r1 : RDev (w.setCell ⟨g, 5, none⟩ (.int .i64 ((s.after : Int) - 1))) B g v { s with after := s.after - 1 } := h.put 5 _ (by simp [devCells]; omega) rfl
    have HR : Hid (RDev ((w.setCell ⟨g, 5, none⟩ (.int .i64 ((s.after : Int) - 1))).setCell ⟨g, 8, none⟩ (.int .i64 ((s.done : Int) + 1))) B g v (Dv.did s)) := r1.put 8 _ (by simp [devCells, Dv.did, hbd]) rfl
    have HM := Lib.hid hm
    rw [hbd] at c4
    clear h hm hbd r1
    go_enter Try.func54, Try.ntmps54
    go_wp2
    go_ret
    unfold DPost
    rw [HM.out]
    exact ⟨rfl, _, HR.out, ((Aside.refl _ _).setCell (.inl (.inl rfl)) _).setCell (.inl (.inl rfl)) _, .inl rfl⟩

theorem at_heap {w w' : World} {p : Option Addr} {l : List UInt8} (h : At w p l) (e : w'.heap = w.heap) : At w' p l := by
  rcases h with rfl | ⟨b, o, rfl, hlt, hc⟩
  · exact .inl rfl
  · refine .inr ⟨b, o, rfl, by rw [e]; exact hlt, fun j hj => ?_⟩
    rw [World.cell?_of_block (w := w) (by rw [e])]
    exact hc j hj
theorem has_heap {w w' : World} {B : Nat} {v : Value} {l : List UInt8} (h : Has w B v l) (e : w'.heap = w.heap) : Has w' B v l := by
  refine ⟨h.1, ?_⟩
  rw [e]
  exact h.2
theorem rdev_heap {w w' : World} {B g : Nat} {v : Value} {s : Dv.St} (h : RDev w B g v s) (e : w'.heap = w.heap) : RDev w' B g v s := ⟨by rw [e]; exact h.lies, has_heap h.has e, h.base, h.apart⟩
/-- what a call in whose place power fails needs of the world behind 'first' -/
theorem swap_facts {w w0 w1 : World} {B g : Nat} {v u : Value} {s : Dv.St} {l : List UInt8} (h : RDev w B g v s) (e : w0.heap = w.heap) (hb : Below w0.heap.size w0 w1) (hu : Has w1 w0.heap.size u l) (hB : B ≤ w.heap.size) :
    w1.cell? ⟨g, 0, none⟩ = some v ∧ w1.cell? ⟨g, 3, none⟩ = some (.bool s.down) ∧ w1.cell? ⟨g, 4, none⟩ = some (.bool s.bound) ∧ w1.frozen? ⟨g, 0, none⟩ = false ∧ w1.frozen? ⟨g, 3, none⟩ = false ∧ w1.frozen? ⟨g, 4, none⟩ = false ∧
      RDev (w1.setCell ⟨g, 0, none⟩ u) B g u { s with b := l } ∧ (∀ k, u.ownBlock = some k → w.heap.size ≤ k) := by
  have h0 := rdev_heap h e
  have hg := h0.lt
  refine ⟨?_, ?_, ?_, ?_, ?_, ?_, h0.swap hb hu (by rw [e]; exact hB), fun k hk => by have := (hu.lt k hk).1; rw [e] at this; exact this⟩
  · rw [hb.cell (p := ⟨g, 0, none⟩) hg]; exact h0.cell 0
  · rw [hb.cell (p := ⟨g, 3, none⟩) hg]; exact h0.cell 3
  · rw [hb.cell (p := ⟨g, 4, none⟩) hg]; exact h0.cell 4
  · rw [hb.frozen (p := ⟨g, 0, none⟩) hg]; exact h0.thawed 0
  · rw [hb.frozen (p := ⟨g, 3, none⟩) hg]; exact h0.thawed 3
  · rw [hb.frozen (p := ⟨g, 4, none⟩) hg]; exact h0.thawed 4

theorem aside_drewN (F : Nat → Prop) (w : World) (n : Nat) : Aside F w (w.drewN n) := (Aside.refl F w).drewN n

set_option maxHeartbeats 400000 in
theorem refDeed_fails (h : RDev w B g v s) (hm : Dv.may s = false) (hs : Dv.Sound s) (hl : s.b.length ≤ 1073741824) (hk : s.keep < 9223372036854775808) (hB : B ≤ w.heap.size) : Calls Try.prog 54 #[.pointer (some ⟨g, 0, none⟩)] w (DPost w B g v s) := by
  have hbd : s.bound = true := by
    cases hb : s.bound with
    | true => rfl
    | false => simp [Dv.may, hb] at hm
  have haft : s.after = 0 := by simpa [Dv.may, hbd] using hm
  have c4 : w.cell? ⟨g, 4, none⟩ = some (.bool true) := by rw [← hbd]; exact h.cell 4
  have c5 : w.cell? ⟨g, 5, none⟩ = some (.int .i64 0) := by have := h.cell 5; rw [this]; simp [devCells, haft]
  have c0 : w.cell? ⟨g, 0, none⟩ = some v := h.cell 0
  have c2 : w.cell? ⟨g, 2, none⟩ = some (.int .i64 s.safe) := h.cell 2
  have c6 : w.cell? ⟨g, 6, none⟩ = some (.int .i64 s.keep) := h.cell 6
  have HSd : Hid (s.safe ≤ s.b.length) := hs
  have hsd := HSd.out
  obtain ⟨p, cap, hv, hA, -⟩ := h.has.at
  subst hv
  have HM := Lib.hid hm
  have HRw := Lib.hid h
  have hg := h.lt
  by_cases hx : s.keep < s.b.length - s.safe
  · have hx1 : (s.keep : Int) < (s.b.length : Int) - (s.safe : Int) := by omega
    have HF : Hid (Dv.fails s = { s with b := s.b.take (s.safe + s.keep), bound := false, down := true }) := by
      show _ = _
      unfold Dv.fails; rw [if_pos hx]
    have hsk : s.safe + s.keep ≤ s.b.length := by omega
    have hwr : IntKind.i64.wrap ((s.safe : Int) + (s.keep : Int)) = (s.safe : Int) + (s.keep : Int) := by rw [IntKind.wrap_i64]; omega
    have HFst : Hid (∀ w' : World, w'.heap = w.heap → Calls Try.prog 55 #[.slice p s.b.length cap, .int .i64 ((s.safe : Int) + (s.keep : Int))] w' fun e w'' => ∃ q c', e = .returned (.slice q (s.safe + s.keep) c') ∧ Has w'' w'.heap.size (.slice q (s.safe + s.keep) c') (s.b.take (s.safe + s.keep)) ∧ Below w'.heap.size w' w'') := by
      intro w' e
      have := refFirst p cap s.b hl (s.safe + s.keep) hsk w' (at_heap hA e)
      rw [show ((s.safe + s.keep : Nat) : Int) = (s.safe : Int) + (s.keep : Int) from by push_cast; rfl] at this
      refine this.mono ?_
      rintro e w'' ⟨u, rfl, hu, hb⟩
      obtain ⟨q, c', rfl, -, -⟩ := hu.at
      have el : (s.b.take (s.safe + s.keep)).length = s.safe + s.keep := by rw [List.length_take]; omega
      rw [el] at hu ⊢
      exact ⟨q, c', rfl, hu, hb⟩
    clear h hm hs hbd haft hA hx HSd
    go_enter Try.func54, Try.ntmps54
    go_wp2
    go_quiet (fail)
    go_wp2
    go_region_with (go_at_call 55; refine (HFst.out _ (by rfl)).mono ?_; rintro e w1 ⟨q1, c1, rfl, hu, hb⟩; obtain ⟨d0, d3, d4, t0, t3, t4, hR, hob⟩ := swap_facts HRw.out (by rfl) hb hu hB; have HR2 := Lib.hid hR; have HOb := Lib.hid hob; have HBl := Lib.hid hb; clear hu hb hR hob)
    all_goals
      have r1 : RDev ((w1.setCell ⟨g, 0, none⟩ (.slice q1 (s.safe + s.keep) c1)).setCell ⟨g, 4, none⟩ (.bool false)) B g (.slice q1 (s.safe + s.keep) c1) { s with b := s.b.take (s.safe + s.keep), bound := false } := HR2.out.put 4 _ rfl rfl
      have r2 : RDev (((w1.setCell ⟨g, 0, none⟩ (.slice q1 (s.safe + s.keep) c1)).setCell ⟨g, 4, none⟩ (.bool false)).setCell ⟨g, 3, none⟩ (.bool true)) B g (.slice q1 (s.safe + s.keep) c1) { s with b := s.b.take (s.safe + s.keep), bound := false, down := true } := r1.put 3 _ rfl rfl
      have HR4 := Lib.hid r2
      have HAs : Hid (Aside (fun k => k = g ∨ (Value.slice p s.b.length cap).ownBlock = some k) w w1) := (aside_drewN _ w (nq + 1)).trans (aside_new HBl.out _) (fun _ _ h => h)
      clear r1 r2 HR2 HFst
      go_wp2
      go_ret
      unfold DPost
      rw [HM.out]
      refine ⟨rfl, .slice q1 (s.safe + s.keep) c1, ?_, ?_, .inr fun k hk => .inr (HOb.out k hk)⟩
      · rw [if_neg (by simp), HF.out]
        exact HR4.out
      · exact ((HAs.out.setCell (.inl (.inl rfl)) _).setCell (.inl (.inl rfl)) _).setCell (.inl (.inl rfl)) _
  · have hx1 : decide ((s.keep : Int) < (s.b.length : Int) - (s.safe : Int)) = false := decide_eq_false (by omega)
    have HF : Hid (Dv.fails s = { s with bound := false, down := true }) := by
      show _ = _
      unfold Dv.fails; rw [if_neg hx]
    have HE : Hid (∀ n, RDev ((((w.drewN n).setCell ⟨g, 4, none⟩ (.bool false)).setCell ⟨g, 3, none⟩ (.bool true))) B g (.slice p s.b.length cap) (Dv.fails s)) := by
      intro n
      have r1 : RDev ((w.drewN n).setCell ⟨g, 4, none⟩ (.bool false)) B g (.slice p s.b.length cap) { s with bound := false } := (HRw.out.drewN n).put 4 _ rfl rfl
      rw [HF.out]
      exact r1.put 3 _ rfl rfl
    have f4 := h.thawed 4
    have f3 := h.thawed 3
    have c3 : w.cell? ⟨g, 3, none⟩ = some (.bool s.down) := h.cell 3
    clear h hm hs hbd haft hA hx HSd
    go_enter Try.func54, Try.ntmps54
    go_wp2
    go_quiet (fail)
    go_wp2
    go_ret
    unfold DPost
    rw [HM.out]
    exact ⟨rfl, _, HE.out _, ((aside_drewN _ _ _).setCell (.inl (.inl rfl)) _).setCell (.inl (.inl rfl)) _, .inl rfl⟩
end
end Go.Proofs.Ytoibeajcepbpjaa
