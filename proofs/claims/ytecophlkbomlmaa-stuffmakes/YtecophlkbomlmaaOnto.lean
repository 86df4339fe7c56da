/- append(x, b...) onto a slice of the call's own, whatever b is. -/
import Derived.Test.YtecophlkbomlmaaCopy
import Derived.Deep.DeepAppendWide
namespace Go.Proofs.Ytecophlkbomlmaa
open Go.RowKit

/-- a slice of bytes whose block is the call's own (it lies from B on, nothing of it is frozen) -/
def Mine (w : World) (B g cap : Nat) (l : List UInt8) : Prop := w.ownsRow B 5 1 (.slice (some ⟨g, 0, none⟩) l.length cap) l.length (cellsOf l)

theorem Mine.at {w : World} {B g cap : Nat} {l : List UInt8} (h : Mine w B g cap l) : At w (some ⟨g, 0, none⟩) l := by
  refine .inr ⟨g, 0, rfl, (World.ownsRow.lt h g rfl).2, fun j hj => ?_⟩
  have := World.ownsRow.cells h (g := g) rfl j _ (cellsOf_get l j hj)
  rw [Lib.add_plain] at this
  exact this

theorem mine_new (w : World) : Mine (w.alloc (.cells #[] 5)) w.heap.size w.heap.size 0 [] := by
  refine ⟨rfl, .inr ⟨w.heap.size, 0, #[], rfl, Nat.le_refl _, heap_new w _, Nat.le_refl _, by simp [maxLen], rfl, rfl⟩⟩

theorem cellsOf_append (a b : List UInt8) : cellsOf (a ++ b) = cellsOf a ++ cellsOf b := by simp [cellsOf]
theorem cellsOf_length (a : List UInt8) : (cellsOf a).length = a.length := by simp [cellsOf]

theorem onto_run (B g cap : Nat) (xs l : List UInt8) (p : Option Addr) (c : Nat) (w : World) (hown : Mine w B g cap xs) (h : At w p l) (hlen : xs.length + l.length ≤ 200000000000000) (hB : B ≤ w.heap.size) :
    ∃ (g' cap' : Nat) (W : World), (Builtin.append_ #[22, 22] 22 #[.slice (some ⟨g, 0, none⟩) xs.length cap, .slice p l.length c]).run Try.prog w = .ok (.slice (some ⟨g', 0, none⟩) (xs ++ l).length cap') W ∧ Mine W B g' cap' (xs ++ l) ∧ Below B w W := by
  obtain ⟨i, hi, hz, hsz, hby⟩ := info_parts info8
  cases p with
  | none =>
    have h0 : l = [] := by
      rcases h with rfl | ⟨b, o, hp, _, _⟩
      · rfl
      · cases hp
    subst h0
    have hcap : xs.length ≤ cap := by
      rcases hown.2 with ⟨h1, _⟩ | ⟨_, _, _, h1, _, _, h2, _⟩
      · cases h1
      · cases h1; exact h2
    have hr := run_append_room_src (P := Try.prog) w 22 22 22 5 i Try.underlying22 hi g 0 xs.length cap (.slice none 0 c) 0 [] (by rw [hsz]; exact src_bytes c h) (by omega) (fun j hj => by simp at hj) (fun j hj => by simp at hj)
    refine ⟨g, cap, w, ?_, by rw [List.append_nil]; exact hown, Below.refl _ _⟩
    rw [List.append_nil]
    exact hr
  | some a =>
    have hcells : ∀ j u, (cellsOf l)[j]? = some u → w.cell? (a.add j) = some u := fun j u hj => by
      have hj2 : j < l.length := by
        have := (List.getElem?_eq_some_iff.1 hj).1
        simpa [cellsOf] using this
      rcases h with rfl | ⟨b, o, hp, _, hc⟩
      · simp at hj2
      · cases hp
        rw [cellsOf_get l j hj2] at hj
        cases hj
        rw [Lib.add_plain]
        exact hc j hj2
    obtain ⟨v', W, hr, hown', hgr, hnil⟩ := run_append_own_wide (P := Try.prog) w B 22 22 5 i (.int .u8 0) 1 1 Try.underlying22 hi hz hsz hby rfl (by decide) _ xs.length (cellsOf xs) hown a l.length c (cellsOf l) (by rw [cellsOf_length, Nat.mul_one]) hcells
      (fun u hu => by obtain ⟨_, _, rfl⟩ := List.mem_map.1 hu; rfl) (by unfold maxLen; omega) (by omega) hB
    rw [← cellsOf_append, ← List.length_append] at hown'
    have hform : ∃ g' cap', v' = .slice (some ⟨g', 0, none⟩) (xs ++ l).length cap' := by
      rcases hown'.2 with ⟨h1, _⟩ | ⟨g', cap', _, h1, _⟩
      · have := (hnil.1 h1).1
        cases this
      · exact ⟨g', cap', h1⟩
    obtain ⟨g', cap', rfl⟩ := hform
    exact ⟨g', cap', W, hr, hown', (Below.refl _ _).grown hgr hB (fun k hk => (World.ownsRow.lt hown k hk).1)⟩
end Go.Proofs.Ytecophlkbomlmaa
