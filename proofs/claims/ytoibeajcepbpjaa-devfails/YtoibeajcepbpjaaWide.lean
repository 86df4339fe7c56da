/- Appends onto a slice of the call's own, up to four fifths of what a slice can hold; the same in a region that draws. -/
import Derived.Test.YtoibeajcepbpjaaOnto2
import Derived.Deep.DeepAppendWide
import Derived.Deep.RegionLaw
namespace Go.Proofs.Ytoibeajcepbpjaa
open Go.RowKit

theorem onto_wide (B g cap : Nat) (xs l : List UInt8) (p : Option Addr) (c : Nat) (w : World) (hown : Mine w B g cap xs) (h : At w p l) (hlen : xs.length + l.length ≤ 200000000000000) (hB : B ≤ w.heap.size) :
    ∃ (g' cap' : Nat) (W : World), (Builtin.append_ #[32, 32] 32 #[.slice (some ⟨g, 0, none⟩) xs.length cap, .slice p l.length c]).run Try.prog w = .ok (.slice (some ⟨g', 0, none⟩) (xs ++ l).length cap') W ∧ Mine W B g' cap' (xs ++ l) ∧ Below B w W := by
  obtain ⟨i, hi, hz, hsz, hby⟩ := info_parts info8
  cases p with
  | none =>
    have h0 : l = [] := by
      rcases h with rfl | ⟨b, o, hp, _, _⟩
      · rfl
      · cases hp
    subst h0
    exact onto_run_nil B g cap xs none c w hown h
  | some a =>
    have hcells : ∀ j u, (cellsOf l)[j]? = some u → w.cell? (a.add j) = some u := fun j u hj => by
      have hj2 : j < l.length := by
        have := (List.getElem?_eq_some_iff.1 hj).1
        simpa [cellsOf] using this
      rcases h with rfl | ⟨b, o, hp, _, hc⟩
      · simp at hj2
      · cases hp
        rw [cellsOf_get l j hj2] at hj
        cases hj
        rw [Lib.add_plain]
        exact hc j hj2
    obtain ⟨v', W, hr, hown', hgr, hnil⟩ := run_append_own_wide (P := Try.prog) w B 32 32 5 i (.int .u8 0) 1 1 Try.underlying32 hi hz hsz hby rfl (by decide) _ xs.length (cellsOf xs) hown a l.length c (cellsOf l) (by rw [cellsOf_length, Nat.mul_one]) hcells
      (fun u hu => by obtain ⟨_, _, rfl⟩ := List.mem_map.1 hu; rfl) (by unfold maxLen; omega) (by omega) hB
    rw [← cellsOf_append, ← List.length_append] at hown'
    have hform : ∃ g' cap', v' = .slice (some ⟨g', 0, none⟩) (xs ++ l).length cap' := by
      rcases hown'.2 with ⟨h1, _⟩ | ⟨g', cap', _, h1, _⟩
      · have := (hnil.1 h1).1
        cases this
      · exact ⟨g', cap', h1⟩
    obtain ⟨g', cap', rfl⟩ := hform
    exact ⟨g', cap', W, hr, hown', (Below.refl _ _).grown hgr hB (fun k hk => (World.ownsRow.lt hown k hk).1)⟩

/-- in a region that draws -/
theorem step_onto {B g cap : Nat} {xs l : List UInt8} {p : Option Addr} {c : Nat} {w : World} (hown : Mine w B g cap xs) (h : At w p l) (hlen : xs.length + l.length ≤ 200000000000000) (hB : B ≤ w.heap.size)
    {ops : Array Oper} {o : Oper} {a : Act} {K : Act → World → Prop} {Q : Exit → Act → World → Prop} {E : Prop} (s x : Operand)
    (hg : o.guard = none) (ht : o.type = 32) (hop : o.op = Op.call { callee := Callee.builtin Builtin.append, args := #[s, x], argTypes := #[32, 32] })
    (hs : a.eval s = .slice (some ⟨g, 0, none⟩) xs.length cap) (hx : a.eval x = .slice p l.length c)
    (hK : ∀ g' cap' W, Mine W B g' cap' (xs ++ l) → Below B w W → K (a.put o.dst (.slice (some ⟨g', 0, none⟩) (xs ++ l).length cap')) W) :
    if Region.wanted o (yielded ops a.tmps) = true then Oper.wp Try.prog o a w K Q else E := by
  have hw : Region.wanted o (yielded ops a.tmps) = true := by simp [Region.wanted, hg]
  rw [if_pos hw]
  obtain ⟨g', cap', W, hr, hm, hb⟩ := onto_wide B g cap xs l p c w hown h hlen hB
  unfold Oper.wp
  simp [execOp, hop, resolve, invoke, builtin, hs, hx, ht, hr, Result.andThen]
  have := hK g' cap' W hm hb
  rw [List.length_append] at this
  exact this
/-- a world that differs from w by draws alone, or by one block more -/
theorem below_via {B : Nat} {w wa W : World} (hb : Below B wa W) (h1 : wa.os = w.os) (h2 : wa.tape = w.tape) (h3 : wa.output = w.output) (h4 : wa.heap = w.heap) : Below B w W :=
  Below.trans ⟨h1, h2, h3, by rw [h4]; exact Nat.le_refl _, fun k _ => by rw [h4]⟩ hb
/-- onto the empty slice of a literal -/
theorem step_onto0 {B g : Nat} {l : List UInt8} {p : Option Addr} {c : Nat} {w : World} (hown : Mine w B g 0 []) (h : At w p l) (hlen : l.length ≤ 200000000000000) (hB : B ≤ w.heap.size)
    {ops : Array Oper} {o : Oper} {a : Act} {K : Act → World → Prop} {Q : Exit → Act → World → Prop} {E : Prop} (s x : Operand)
    (hg : o.guard = none) (ht : o.type = 32) (hop : o.op = Op.call { callee := Callee.builtin Builtin.append, args := #[s, x], argTypes := #[32, 32] })
    (hs : a.eval s = .slice (some ⟨g, 0, none⟩) 0 0) (hx : a.eval x = .slice p l.length c)
    (hK : ∀ g' cap' W, Mine W B g' cap' l → Below B w W → K (a.put o.dst (.slice (some ⟨g', 0, none⟩) l.length cap')) W) :
    if Region.wanted o (yielded ops a.tmps) = true then Oper.wp Try.prog o a w K Q else E :=
  step_onto (xs := []) (l := l) hown h (by simpa using hlen) hB s x hg ht hop hs hx (fun g' cap' W hm hb => hK g' cap' W hm hb)
end Go.Proofs.Ytoibeajcepbpjaa
