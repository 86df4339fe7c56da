/- Columns that grow in a row of one's own, whose types are the schema's they were taken of: the document's Project. -/
import Derived.Test.YtdahackmmhcjoaaM16
namespace Go.Proofs.Ytdahackmmhcjoaa
open Go.RowKit

theorem ownsRow_aside {B n k : Nat} {T : TypeId} {v : Value} {l : List Value} {w w' : World} {F : Nat → Prop} (h : w.ownsRow B T k v n l) (ha : Aside F w w') (hp : ∀ g, v.ownBlock = some g → ¬ F g) : w'.ownsRow B T k v n l := by
  refine ⟨h.1, ?_⟩
  rcases h.2 with h1 | ⟨g, cap, cur, rfl, h2, h3, h4⟩
  · exact .inl h1
  · refine .inr ⟨g, cap, cur, rfl, h2, ?_, h4⟩
    rw [ha.block g (Array.getElem?_eq_some_iff.1 h3).1 (hp g rfl)]
    exact h3
/-- block O holds the schema that grows; v: its columns -/
structure GrowD (A0 : Nat) (W1 : World) (O : Nat) (v : Value) (zs : List Col) (wr : World) : Prop where
  cell : wr.heap[O]? = some (.cells #[v] 40 (0, 0))
  keep : Aside (fun k => k = O) W1 wr
  low : O < W1.heap.size
  built : ∃ us : Nat → Array Value, (∀ j, j < zs.length → (us j).size = 9) ∧ wr.ownsRow W1.heap.size 50 9 v zs.length (flat us zs.length) ∧ ∀ w', Aside (fun k => v.ownBlock = some k ∨ (A0 ≤ k ∧ k ≤ O)) wr w' → ∀ j (h : j < zs.length), CLies w' (us j) zs[j]
theorem growD_nil {W1 : World} {A0 O : Nat} (h : W1.heap[O]? = some (.cells #[.slice none 0 0] 40 (0, 0))) : GrowD A0 W1 O (.slice none 0 0) [] W1 :=
  ⟨h, Aside.refl _ _, blk_lt h, fun _ => #[], fun j hj => by simp at hj, World.ownsRow_nil _ _ _ _, fun _ _ j hj => by simp at hj⟩
theorem GrowD.colsC {W1 wr0 wr : World} {A0 O : Nat} {v : Value} {zs : List Col} (h : GrowD A0 W1 O v zs wr0) (ha : Aside (fun k => A0 ≤ k ∧ k ≤ O) wr0 wr) : ∃ p c, v = .slice p zs.length c ∧ zs.length ≤ c ∧ Cols wr p zs := by
  obtain ⟨us, h9, hrow0, hcl⟩ := h.built
  have hrow := ownsRow_aside hrow0 ha (fun g hg hc => by have := (World.ownsRow.lt hrow0 g hg).1; have := h.low; omega)
  rcases hrow.2 with ⟨rfl, h0⟩ | ⟨g, cap, cur, rfl, h1, h2, h3, h4, h5, h6⟩
  · have hy : zs = [] := List.eq_nil_of_length_eq_zero h0
    subst hy
    exact ⟨none, 0, rfl, Nat.le_refl _, fun j hj => by simp at hj⟩
  · refine ⟨_, cap, rfl, h3, fun j hj => ?_⟩
    have hg := (Array.getElem?_eq_some_iff.1 h2).1
    have hcell : ∀ q, q < zs.length * 9 → wr.cell? ⟨g, q, none⟩ = (flat us zs.length)[q]? := fun q hq => by
      rw [← h6, List.getElem?_take_of_lt hq]
      simp [World.cell?, h2]
    have hl := hcl wr (ha.mono (fun i _ hc => .inr hc)) j hj
    refine ⟨us j, hl, ?_⟩
    obtain ⟨k, tp, tn, tc, vk, vi, vb, vt, vp, vn, vc, e1, -⟩ := hl.out
    have hc9 : ∀ m, m < 9 → wr.cell? ⟨g, 0 + j * 9 + m, none⟩ = (us j)[m]? := fun m hm => by
      rw [Nat.zero_add, hcell _ (by omega), flat9_get us _ h9 j hj m hm]
    rw [e1] at hc9
    refine ⟨g, 0, _, k, tp, tn, tc, _, vk, vi, vb, vt, vp, vn, vc, rfl, hg, e1, ?_⟩
    exact ⟨hc9 0 (by omega), hc9 1 (by omega), hc9 2 (by omega), hc9 3 (by omega), hc9 4 (by omega), hc9 5 (by omega), hc9 6 (by omega), hc9 7 (by omega), hc9 8 (by omega)⟩
theorem GrowD.cols {W1 wr : World} {A0 O : Nat} {v : Value} {zs : List Col} (h : GrowD A0 W1 O v zs wr) : ∃ p c, v = .slice p zs.length c ∧ zs.length ≤ c ∧ Cols wr p zs := h.colsC (Aside.refl _ _)
theorem GrowD.on {W1 wr w' : World} {A0 O : Nat} {v : Value} {zs : List Col} (h : GrowD A0 W1 O v zs wr) (hb : Below wr.heap.size wr w') : GrowD A0 W1 O v zs w' := by
  obtain ⟨us, h9, hrow, hcl⟩ := h.built
  have hO := blk_lt h.cell
  refine ⟨(hb.block O hO).trans h.cell, h.keep.trans (aside_new hb (fun k => k = O)) (fun _ _ h => h), h.low, us, h9, ownsRow_aside hrow (aside_new hb (fun _ => False)) (fun _ _ hc => hc), fun w2 ha j hj => hcl w2 ((aside_new hb _).trans ha (fun _ _ h => h)) j hj⟩
theorem GrowD.lt {W1 wr : World} {A0 O : Nat} {v : Value} {zs : List Col} (h : GrowD A0 W1 O v zs wr) : ∀ g, v.ownBlock = some g → W1.heap.size ≤ g ∧ g < wr.heap.size := by
  obtain ⟨us, -, hrow, -⟩ := h.built
  exact World.ownsRow.lt hrow
/-- one column more -/
theorem GrowD.next {w W1 wr W7 W8 : World} {O : Nat} {v : Value} {zs : List Col} {x : Col} {F : Nat → Prop} {g cap : Nat} {us : Nat → Array Value} {k : Int} {tp : Option Addr} {tn tc : Nat} {vk vi : Int} {vb : Nat} {vt : ByteArray} {vp : Option Addr} {vn vc : Nat}
    (h : GrowD w.heap.size W1 O v zs wr) (h9 : ∀ j, j < zs.length → (us j).size = 9) (hcl : ∀ w', Aside (fun k => v.ownBlock = some k ∨ (w.heap.size ≤ k ∧ k ≤ O)) wr w' → ∀ j (h : j < zs.length), CLies w' (us j) zs[j])
    (hw : Below w.heap.size w W1) (hO : w.heap.size ≤ O) (hb : Below wr.heap.size wr W7) (hty : TLies w (cells2 k tp tn tc) x.ty) (hv : VOwn W7 F (cells5 vk vi vb vt vp vn vc) x.dflt) (hF : ∀ i, F i → wr.heap.size ≤ i ∧ i < W7.heap.size)
    (hr : W8.ownsRow W1.heap.size 50 9 (.slice (some ⟨g, 0, none⟩) (zs.length + 1) cap) (zs.length + 1) (flat us zs.length ++ (cells9 x.name k tp tn tc x.has vk vi vb vt vp vn vc).toList)) (hg : W7.grownBy W8 v.ownBlock) (hn : v.ownBlock = some g ∨ g = W7.heap.size) :
    GrowD w.heap.size W1 O (.slice (some ⟨g, 0, none⟩) (zs.length + 1) cap) (zs ++ [x]) (W8.setCell ⟨O, 0, none⟩ (.slice (some ⟨g, 0, none⟩) (zs.length + 1) cap)) := by
  have hs := hb.size
  have hOl := h.low
  have hOr := blk_lt h.cell
  have hk1 := h.keep.size
  have hw1 := hw.size
  have ha78 : Aside (fun i => v.ownBlock = some i) W7 W8 := ⟨hg.os, hg.tape, hg.output, hg.size, fun i hi hf => hg.block i hi (fun hc => hf hc.symm)⟩
  have h89 : Aside (fun i => i = O) W8 (W8.setCell ⟨O, 0, none⟩ (.slice (some ⟨g, 0, none⟩) (zs.length + 1) cap)) := (Aside.refl (fun i => i = O) W8).setCell (p := ⟨O, 0, none⟩) (.inl rfl) _
  have hvO : ¬ v.ownBlock = some O := fun hc => by have := (h.lt O hc).1; omega
  have hgO : g ≠ O := by
    rcases hn with hn | hn
    · exact fun hc => hvO (by rw [← hc]; exact hn)
    · omega
  have hOw8 : W8.heap[O]? = some (.cells #[v] 40 (0, 0)) := by
    rw [ha78.block O (by omega) hvO, hb.block O hOr]
    exact h.cell
  have hr9 : Aside (fun i => v.ownBlock = some i ∨ i = O) wr (W8.setCell ⟨O, 0, none⟩ (.slice (some ⟨g, 0, none⟩) (zs.length + 1) cap)) :=
    ((aside_new hb (fun i => v.ownBlock = some i ∨ i = O)).trans ha78 (fun i _ hc => .inl hc)).trans h89 (fun i _ hc => .inr hc)
  refine ⟨blk_set hOw8 0 _, ?_, hOl, fun j => if j = zs.length then cells9 x.name k tp tn tc x.has vk vi vb vt vp vn vc else us j, fun j hj => ?_, ?_, fun w' ha j hj => ?_⟩
  · exact (h.keep.trans hr9 (fun i hi hc => by
      rcases hc with hc | hc
      · have := (h.lt i hc).1; omega
      · exact hc))
  · dsimp only
    split
    · rfl
    · rw [List.length_append, List.length_singleton] at hj
      exact h9 j (by omega)
  · rw [List.length_append, List.length_singleton, flat, flat_congr _ us zs.length (fun j hj => by simp [show ¬ j = zs.length by omega])]
    have := ownsRow_aside hr h89 (fun i hi hc => by
      simp only [Value.ownBlock, Option.some.injEq] at hi
      exact hgO (by rw [hi, hc]))
    simpa using this
  · have hrw : Aside (fun i => v.ownBlock = some i ∨ (w.heap.size ≤ i ∧ i ≤ O)) wr w' := (hr9.mono (fun i _ hc => hc.imp id (fun e => ⟨by omega, by omega⟩))).trans ha (fun i hi hc => by
      rcases hc with hc | hc
      · simp only [Value.ownBlock, Option.some.injEq] at hc
        rcases hn with hn | hn
        · exact .inl (by rw [← hc]; exact hn)
        · omega
      · exact .inr hc)
    by_cases e : j = zs.length
    · subst e
      rw [List.getElem_append_right (Nat.le_refl _)]
      simp only [Nat.sub_self, List.getElem_singleton, if_true]
      have hbw : Below w.heap.size w w' := by
        have h1 : Aside (fun i => w.heap.size ≤ i) W1 w' := (h.keep.mono (fun i _ hc => by rw [hc]; exact hO)).trans hrw (fun i hi hc => by
          rcases hc with hc | hc
          · have := (h.lt i hc).1; omega
          · exact hc.1)
        exact hw.trans (h1.below hw1 (fun i hi hc => by omega))
      have h7w : Aside (fun i => v.ownBlock = some i ∨ (w.heap.size ≤ i ∧ i ≤ O)) W7 w' := ((ha78.mono (fun i _ hc => .inl hc)).trans h89 (fun i _ hc => .inr ⟨by omega, by omega⟩)).trans ha (fun i hi hc => by
        rcases hc with hc | hc
        · simp only [Value.ownBlock, Option.some.injEq] at hc
          rcases hn with hn | hn
          · exact .inl (by rw [← hc]; exact hn)
          · omega
        · exact .inr hc)
      exact ⟨k, tp, tn, tc, vk, vi, vb, vt, vp, vn, vc, rfl, hty.on hbw, (hv.aside h7w (fun i hi hc => by
        have := hF i hi
        rcases hc with hc | hc
        · have := (h.lt i hc).2; omega
        · omega)).lies⟩
    · rw [List.length_append, List.length_singleton] at hj
      dsimp only
      rw [if_neg e, List.getElem_append_left (by omega)]
      exact hcl w' hrw j (by omega)
end Go.Proofs.Ytdahackmmhcjoaa
