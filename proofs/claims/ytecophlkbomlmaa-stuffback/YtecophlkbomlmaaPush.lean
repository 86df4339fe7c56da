/- append(s, c): one byte put behind a slice of the call's own, which may still be nil. -/
import Derived.Test.YtecophlkbomlmaaFree
namespace Go.Proofs.Ytecophlkbomlmaa
open Go.RowKit

/-- a slice of bytes of the call's own, or nil -/
def Has (w : World) (B : Nat) (v : Value) (l : List UInt8) : Prop := w.ownsRow B 5 1 v l.length (cellsOf l)

theorem has_nil (w : World) (B : Nat) : Has w B (.slice none 0 0) [] := ⟨rfl, .inl ⟨rfl, rfl⟩⟩
theorem Mine.has {w : World} {B g cap : Nat} {l : List UInt8} (h : Mine w B g cap l) : Has w B (.slice (some ⟨g, 0, none⟩) l.length cap) l := h
/-- what it looks like -/
theorem Has.form {w : World} {B : Nat} {v : Value} {l : List UInt8} (h : Has w B v l) : (v = .slice none 0 0 ∧ l = []) ∨ ∃ g cap, v = .slice (some ⟨g, 0, none⟩) l.length cap ∧ Mine w B g cap l := by
  rcases h.2 with ⟨h1, h2⟩ | ⟨g, cap, cur, rfl, h3⟩
  · exact .inl ⟨h1, List.eq_nil_of_length_eq_zero h2⟩
  · exact .inr ⟨g, cap, rfl, h.1, .inr ⟨g, cap, cur, rfl, h3⟩⟩
theorem Has.at {w : World} {B : Nat} {v : Value} {l : List UInt8} (h : Has w B v l) : ∃ p cap, v = .slice p l.length cap ∧ At w p l ∧ l.length ≤ cap := by
  rcases h.form with ⟨rfl, rfl⟩ | ⟨g, cap, rfl, hm⟩
  · exact ⟨none, 0, rfl, .inl rfl, Nat.le_refl _⟩
  · exact ⟨_, cap, rfl, hm.at, hm.base.2.2⟩
theorem Has.drew {w : World} {B : Nat} {v : Value} {l : List UInt8} (h : Has w B v l) : Has w.drew B v l := h
theorem Has.drewN {w : World} {B : Nat} {v : Value} {l : List UInt8} (h : Has w B v l) (n : Nat) : Has (w.drewN n) B v l := h
theorem Has.alloc {w : World} {B : Nat} {v : Value} {l : List UInt8} (h : Has w B v l) (o : Obj) : Has (w.alloc o) B v l := World.ownsRow.alloc h o

theorem onto_has (B : Nat) (v : Value) (xs l : List UInt8) (a : Addr) (c : Nat) (w : World) (hown : Has w B v xs) (h : At w (some a) l) (h0 : l ≠ []) (hlen : xs.length + l.length ≤ 200000000000000) (hB : B ≤ w.heap.size) :
    ∃ (g' cap' : Nat) (W : World), AppRun Try.prog 22 22 22 v (.slice (some a) l.length c) w (.slice (some ⟨g', 0, none⟩) (xs ++ l).length cap') W ∧ Mine W B g' cap' (xs ++ l) ∧ Below B w W := by
  obtain ⟨i, hi, hz, hsz, hby⟩ := info_parts info8
  have hcells : ∀ j u, (cellsOf l)[j]? = some u → w.cell? (a.add j) = some u := fun j u hj => by
    have hj2 : j < l.length := by
      have := (List.getElem?_eq_some_iff.1 hj).1
      simpa [cellsOf] using this
    rcases h with rfl | ⟨b, o, hp, _, hc⟩
    · simp at hj2
    · cases hp
      rw [cellsOf_get l j hj2] at hj
      cases hj
      rw [Lib.add_plain]
      exact hc j hj2
  obtain ⟨v', W, hr, hown', hgr, hnil⟩ := run_append_own_wide (P := Try.prog) w B 22 22 5 i (.int .u8 0) 1 1 Try.underlying22 hi hz hsz hby rfl (by decide) v xs.length (cellsOf xs) hown a l.length c (cellsOf l) (by rw [cellsOf_length, Nat.mul_one]) hcells
    (fun u hu => by obtain ⟨_, _, rfl⟩ := List.mem_map.1 hu; rfl) (by unfold maxLen; omega) (by omega) hB
  rw [← cellsOf_append, ← List.length_append] at hown'
  have hform : ∃ g' cap', v' = .slice (some ⟨g', 0, none⟩) (xs ++ l).length cap' := by
    rcases hown'.2 with ⟨h1, _⟩ | ⟨g', cap', _, h1, _⟩
    · have := (hnil.1 h1).2
      exact absurd (List.eq_nil_of_length_eq_zero this) h0
    · exact ⟨g', cap', h1⟩
  obtain ⟨g', cap', rfl⟩ := hform
  exact ⟨g', cap', W, ⟨hr⟩, hown', (Below.refl _ _).grown hgr hB (fun k hk => (World.ownsRow.lt hown k hk).1)⟩

/-- in the walk -/
theorem wp_push {B : Nat} {v : Value} {xs : List UInt8} {w : World} (hown : Has w B v xs) (c : UInt8) (hlen : xs.length + 1 ≤ 200000000000000) (hB : B ≤ w.heap.size)
    {z : Int} {ops : Array Oper} {rest : List Oper} {o : Oper} {a : Act} {Q : Exit → Act → World → Prop} {s x : Operand}
    (hz : z = (c.toNat : Int)) (ht : o.type = 22) (hg : o.guard = none) (hop : o.op = Op.call { callee := Callee.builtin Builtin.append, args := #[s, x], argTypes := #[22, 22] })
    (hs : a.eval s = v) (hx : a.eval x = .slice (some ⟨w.heap.size, 0, none⟩) 1 1)
    (hK : ∀ g cap W, Mine W B g cap (xs ++ [c]) → Below B w W → wpList Try.prog ops Q rest (a.put o.dst (.slice (some ⟨g, 0, none⟩) (xs.length + 1) cap)) W) :
    wpList Try.prog ops Q (o :: rest) a (w.alloc (.cells #[.int .u8 z] 5)) := by
  have hat : At (w.alloc (.cells #[.int .u8 z] 5)) (some ⟨w.heap.size, 0, none⟩) [c] := by
    refine .inr ⟨_, _, rfl, by simp, fun j hj => ?_⟩
    have hj0 : j = 0 := by simp at hj; omega
    subst hj0
    rw [World.cell?_alloc_new, hz]
    rfl
  have hb0 : Below B w (w.alloc (.cells #[.int .u8 z] 5)) := (Below.refl _ _).alloc hB _
  obtain ⟨g, cap, W, hr, hm, hb⟩ := onto_has B v xs [c] ⟨w.heap.size, 0, none⟩ 1 _ (hown.alloc _) hat (by simp) (by simpa using hlen) (Nat.le_trans hB hb0.size)
  have e : (xs ++ [c]).length = xs.length + 1 := by simp
  rw [e] at hr
  have hr' : AppRun Try.prog 22 22 o.type v (.slice (some ⟨w.heap.size, 0, none⟩) 1 1) (w.alloc (.cells #[.int .u8 z] 5)) (.slice (some ⟨g, 0, none⟩) (xs.length + 1) cap) W := by rw [ht]; exact hr
  exact wpList_append_ran hr' hg hop hs hx (hK g cap W hm (hb0.trans hb))
end Go.Proofs.Ytecophlkbomlmaa
