/- The document's own file: Tail, Read, Cut, Write. -/
import Derived.Test.YtoibeajcepbpjaaWDevM
import Derived.Deep.RegionLaw
import Derived.Deep.AppendLies
import Derived.BigQuiet
namespace Go.Proofs.Ytoibeajcepbpjaa
open Go.RowKit

theorem aside_grown {w w' : World} {row : Option Nat} (hg : w.grownBy w' row) : Aside (fun k => row = some k) w w' :=
  ⟨hg.os, hg.tape, hg.output, hg.size, fun k hk hf => hg.block k hk (fun e => hf e.symm)⟩

/-- append of one byte, in a region that draws -/
theorem step_push {B : Nat} {v : Value} {xs : List UInt8} {w : World} (hown : Has w B v xs) (c : UInt8) (hlen : xs.length + 1 ≤ 140737488355328) (hB : B ≤ w.heap.size) (ad : Nat)
    (hc : w.cell? ⟨ad, 0, none⟩ = some (.int .u8 (c.toNat : Int)))
    {ops : Array Oper} {o : Oper} {a : Act} {K : Act → World → Prop} {Q : Exit → Act → World → Prop} {E : Prop} (s x : Operand)
    (hg : o.guard = none) (hop : o.op = Op.call { callee := Callee.builtin Builtin.append, args := #[s, x], argTypes := #[32, 32] })
    (hs : a.eval s = v) (hx : a.eval x = .slice (some ⟨ad, 0, none⟩) 1 1)
    (hK : ∀ g cap W, Has W B (.slice (some ⟨g, 0, none⟩) (xs.length + 1) cap) (xs ++ [c]) → Aside (fun k => v.ownBlock = some k) w W → (v.ownBlock = some g ∨ w.heap.size ≤ g) → K (a.put o.dst (.slice (some ⟨g, 0, none⟩) (xs.length + 1) cap)) W) :
    if Region.wanted o (yielded ops a.tmps) = true then Oper.wp Try.prog o a w K Q else E := by
  obtain ⟨i, hi, hz, hsz, hby⟩ := info_parts info8
  refine step_append_lies w hg s x 32 hop B 5 i (.int .u8 0) 1 1 Try.underlying32 hi hz hsz hby rfl (by decide) v xs.length (cellsOf xs) hs hown ⟨ad, 0, none⟩ 1 1 (cellsOf [c]) hx rfl ?_ ?_ (by decide) (by unfold maxLen; omega) (by omega) hB w.heap.size rfl ?_
  · intro j u hj
    have hj0 : j = 0 := by
      have := (List.getElem?_eq_some_iff.1 hj).1
      simp [cellsOf] at this
      exact this
    subst hj0
    simp [cellsOf] at hj
    subst hj
    rw [Lib.add_plain]
    exact hc
  · intro u hu
    obtain ⟨_, _, rfl⟩ := List.mem_map.1 hu
    rfl
  · intro g cap W hm hgr hgb _
    rw [← cellsOf_append] at hm
    refine hK g cap W ?_ (aside_grown hgr) ?_
    · unfold Has
      rw [List.length_append]
      exact hm
    · rcases hgb with h | h
      · exact .inl h
      · exact .inr (by omega)

/-- what lies about the file when a byte has been put behind its bytes, and the file's field is still the old one -/
theorem RDev.push {w W : World} {B g g2 cap : Nat} {v : Value} {s : Dv.St} {l : List UInt8} (h : RDev w B g v s) (ha : Aside (fun k => v.ownBlock = some k) w W) (hu : Has W B (.slice (some ⟨g2, 0, none⟩) l.length cap) l) (hg2 : v.ownBlock = some g2 ∨ w.heap.size ≤ g2) :
    RDev (W.setCell ⟨g, 0, none⟩ (.slice (some ⟨g2, 0, none⟩) l.length cap)) B g (.slice (some ⟨g2, 0, none⟩) l.length cap) { s with b := l } ∧ W.cell? ⟨g, 0, none⟩ = some v ∧ W.frozen? ⟨g, 0, none⟩ = false := by
  have hlt := h.lt
  have hl : W.heap[g]? = some (.cells (devCells v s) 55) := by rw [ha.block g hlt h.apart]; exact h.lies
  have hne : g2 ≠ g := by
    rcases hg2 with h1 | h1
    · intro hc; exact h.apart (by rw [← hc]; exact h1)
    · omega
  have ha2 : Aside (· = g) W (W.setCell ⟨g, 0, none⟩ (.slice (some ⟨g2, 0, none⟩) l.length cap)) := (Aside.refl (· = g) W).setCell (p := ⟨g, 0, none⟩) (.inl rfl) _
  refine ⟨⟨?_, hu.aside ha2 (fun k hk hc => ?_), h.base, ?_⟩, ?_, ?_⟩
  · simp only [World.setCell, Array.getElem?_modify, hl, if_true, Option.map_some]
    rw [if_neg (by simp)]
    rfl
  · simp only [Value.ownBlock, Option.some.injEq] at hk
    exact hne (hk.trans hc)
  · simp only [Value.ownBlock, ne_eq, Option.some.injEq]
    exact hne
  · rw [ha.cell (p := ⟨g, 0, none⟩) hlt h.apart]; exact h.cell 0
  · rw [ha.frozen (p := ⟨g, 0, none⟩) hlt h.apart]; exact h.thawed 0
end Go.Proofs.Ytoibeajcepbpjaa
