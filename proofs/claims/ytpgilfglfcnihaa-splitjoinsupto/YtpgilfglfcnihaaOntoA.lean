/- Bytes, or a text's bytes, put behind a slice of the call's own, whatever it is (nil too). -/
import Derived.Test.YtpgilfglfcnihaaAside
import Derived.Deep.Upon
import Derived.Deep.AppendLies
import Derived.Lib.AppendStr
namespace Go.Proofs.Ytpgilfglfcnihaa
open Go.RowKit

theorem aside_grew {w w' : World} {row : Option Nat} (hg : w.grownBy w' row) : Aside (fun k => row = some k) w w' := ⟨hg.os, hg.tape, hg.output, hg.size, fun k hk hf => hg.block k hk (fun hc => hf hc.symm)⟩

/-- append of bytes onto a slice of the call's own, which may be nil, as they may be none -/
theorem onto_all (B : Nat) (v : Value) (xs l : List UInt8) (p : Option Addr) (c : Nat) (w : World) (hown : Has w B v xs) (h : At w p l) (hlen : xs.length + l.length ≤ 140737488355328) (hB : B ≤ w.heap.size) :
    ∃ (q : Option Addr) (cap : Nat) (W : World), AppRun Try.prog 22 22 22 v (.slice p l.length c) w (.slice q (xs ++ l).length cap) W ∧ Has W B (.slice q (xs ++ l).length cap) (xs ++ l) ∧ Aside (fun k => v.ownBlock = some k) w W ∧ (xs ++ l).length ≤ cap ∧ ∀ k, (Value.slice q (xs ++ l).length cap).ownBlock = some k → v.ownBlock = some k ∨ w.heap.size ≤ k := by
  obtain ⟨i, hi, hz, hsz, hby⟩ := info_parts info8
  by_cases h0 : l = []
  · subst h0
    obtain ⟨q, cap, rfl, -, hcap⟩ := hown.at
    rw [List.append_nil]
    exact ⟨q, cap, w, ⟨run_append_nothing (P := Try.prog) w 22 22 22 5 i Try.underlying22 hi q xs.length cap hcap (.slice p 0 c) (by rw [hsz]; exact src_bytes c h)⟩, hown, Aside.refl _ _, hcap, fun k hk => .inl hk⟩
  · obtain ⟨b, o, rfl, hbl, hc⟩ := at_some h (List.length_pos_iff.2 h0)
    obtain ⟨g, cap, W, hr, hm, hgr, hgb, _⟩ := run_append_lies (P := Try.prog) w 22 22 B 5 i (.int .u8 0) 1 1 Try.underlying22 hi hz hsz hby rfl (by decide) v xs.length (cellsOf xs) hown ⟨b, o, none⟩ l.length c (cellsOf l) (by rw [cellsOf_length, Nat.mul_one])
      (fun j u hj => by
        have hj2 : j < l.length := by
          have := (List.getElem?_eq_some_iff.1 hj).1
          simpa [cellsOf] using this
        rw [cellsOf_get l j hj2] at hj
        cases hj
        rw [Lib.add_plain]
        exact hc j hj2)
      (fun u hu => by obtain ⟨_, _, rfl⟩ := List.mem_map.1 hu; rfl) (List.length_pos_iff.2 h0) (by unfold maxLen; omega) (by omega) hB w.heap.size rfl
    rw [← cellsOf_append, ← List.length_append] at hm
    rw [← List.length_append] at hr
    have hH : Has W B (.slice (some ⟨g, 0, none⟩) (xs ++ l).length cap) (xs ++ l) := hm
    refine ⟨some ⟨g, 0, none⟩, cap, W, ⟨hr⟩, hH, aside_grew hgr, ?_, ?_⟩
    · obtain ⟨q', cap', he, _, h2⟩ := hH.at
      injection he with _ _ e2
      omega
    · intro k hk
      simp only [Value.ownBlock, Option.some.injEq] at hk
      subst hk
      rcases hgb with h1 | h1
      · exact .inl h1
      · exact .inr (by omega)

/-- in the walk -/
theorem wp_ontoL {B : Nat} {v : Value} {xs l : List UInt8} {p : Option Addr} {c : Nat} {w : World} (hown : Has w B v xs) (h : At w p l) (hlen : xs.length + l.length ≤ 140737488355328) (hB : B ≤ w.heap.size)
    {ops : Array Oper} {rest : List Oper} {o : Oper} {a : Act} {Q : Exit → Act → World → Prop} {y x : Operand}
    (ht : o.type = 22) (hg : o.guard = none) (hop : o.op = Op.call { callee := Callee.builtin Builtin.append, args := #[y, x], argTypes := #[22, 22] })
    (hs : a.eval y = v) (hx : a.eval x = .slice p l.length c)
    (hK : ∀ ys q cap W, Hid (ys = xs ++ l) → Has W B (.slice q ys.length cap) ys → Aside (fun k => v.ownBlock = some k) w W → (∀ k, (Value.slice q ys.length cap).ownBlock = some k → v.ownBlock = some k ∨ w.heap.size ≤ k) → wpList Try.prog ops Q rest (a.put o.dst (.slice q ys.length cap)) W) :
    wpList Try.prog ops Q (o :: rest) a w := by
  obtain ⟨q, cap, W, hr, hm, ha, -, hb⟩ := onto_all B v xs l p c w hown h hlen hB
  have hr' : AppRun Try.prog 22 22 o.type v (.slice p l.length c) w (.slice q (xs ++ l).length cap) W := by rw [ht]; exact hr
  exact wpList_append_ran hr' hg hop hs hx (hK _ q cap W (Lib.hid rfl) hm ha hb)


theorem strCells_eq (t : ByteArray) : Lib.strCells t = cellsOf t.data.toList := by
  simp [Lib.strCells, cellsOf]
/-- a text's bytes -/
theorem onto_str (B : Nat) (v : Value) (xs : List UInt8) (t : ByteArray) (w : World) (hown : Has w B v xs) (hlen : xs.length + t.size ≤ 140737488355328) (hB : B ≤ w.heap.size) :
    ∃ (q : Option Addr) (cap : Nat) (W : World), AppRun Try.prog 22 9 22 v (.string t) w (.slice q (xs ++ t.data.toList).length cap) W ∧ Has W B (.slice q (xs ++ t.data.toList).length cap) (xs ++ t.data.toList) ∧ Aside (fun k => v.ownBlock = some k) w W ∧ ∀ k, (Value.slice q (xs ++ t.data.toList).length cap).ownBlock = some k → v.ownBlock = some k ∨ w.heap.size ≤ k := by
  obtain ⟨i, hi, hz, hsz, hby⟩ := info_parts info8
  obtain ⟨v', w', hr, h2, h3, h4⟩ := Lib.run_append_own_string (P := Try.prog) w B 22 9 22 5 i Try.underlying22 Try.underlying9 hi hz hsz hby v xs.length (cellsOf xs) hown t (by unfold maxLen; omega) hlen hB
  have hs : t.data.toList.length = t.size := by rw [Array.length_toList]; rfl
  have hblk : ∀ k, v'.ownBlock = some k → v.ownBlock = some k ∨ w.heap.size ≤ k := by
    intro k hk
    rcases hown.2 with ⟨rfl, hn0⟩ | ⟨g, cap, cur, rfl, hbg, hg, hnc, hcm, hcs, htake⟩
    · by_cases hm : t.size = 0
      · rw [h4.2 ⟨rfl, hm⟩] at hk
        simp [Value.ownBlock] at hk
      · have hr2 := run_append_nil_string (P := Try.prog) w 22 9 22 5 i (.int .u8 0) Try.underlying22 Try.underlying9 hi hz t (by omega) (by omega) (by rw [hby]; omega)
        have e := hr.symm.trans hr2
        injection e with e1 e2
        rw [e1] at hk
        simp only [Value.ownBlock, Option.some.injEq] at hk
        exact .inr (by omega)
    · by_cases hroom : xs.length + t.size ≤ cap
      · have hcs' : cur.size = cap := by simpa using hcs
        have hr2 := Lib.run_append_room_string (P := Try.prog) w 22 9 22 5 i Try.underlying22 Try.underlying9 hi hsz g xs.length cap cur hg t hroom (by omega)
        have e := hr.symm.trans hr2
        injection e with e1 e2
        rw [e1] at hk
        exact .inl hk
      · have hxl : (cellsOf xs).length = xs.length := cellsOf_length xs
        have hr2 := Lib.run_append_grow_string (P := Try.prog) w 22 9 22 5 i (.int .u8 0) Try.underlying22 Try.underlying9 hi hz ⟨g, 0, none⟩ xs.length cap (cellsOf xs) (by rw [hsz, hxl, Nat.mul_one]) (World.ownsRow.cells (g := g) hown rfl) t (by omega) (by omega) (by rw [hby]; exact growslice_fits (by omega) (by omega))
        have e := hr.symm.trans hr2
        injection e with e1 e2
        rw [e1] at hk
        simp only [Value.ownBlock, Option.some.injEq] at hk
        exact .inr (by omega)
  rw [strCells_eq, ← cellsOf_append, ← hs, ← List.length_append] at h2
  have hH : Has w' B v' (xs ++ t.data.toList) := h2
  obtain ⟨q, cap, rfl, -, -⟩ := hH.at
  exact ⟨q, cap, w', ⟨hr⟩, hH, aside_grew h3, hblk⟩
theorem wp_ontoS {B : Nat} {v : Value} {xs : List UInt8} {t : ByteArray} {w : World} (hown : Has w B v xs) (hlen : xs.length + t.size ≤ 140737488355328) (hB : B ≤ w.heap.size)
    {ops : Array Oper} {rest : List Oper} {o : Oper} {a : Act} {Q : Exit → Act → World → Prop} {y x : Operand}
    (ht : o.type = 22) (hg : o.guard = none) (hop : o.op = Op.call { callee := Callee.builtin Builtin.append, args := #[y, x], argTypes := #[22, 9] })
    (hs : a.eval y = v) (hx : a.eval x = .string t)
    (hK : ∀ ys q cap W, Hid (ys = xs ++ t.data.toList) → Has W B (.slice q ys.length cap) ys → Aside (fun k => v.ownBlock = some k) w W → (∀ k, (Value.slice q ys.length cap).ownBlock = some k → v.ownBlock = some k ∨ w.heap.size ≤ k) → wpList Try.prog ops Q rest (a.put o.dst (.slice q ys.length cap)) W) :
    wpList Try.prog ops Q (o :: rest) a w := by
  obtain ⟨q, cap, W, hr, hm, ha, hb⟩ := onto_str B v xs t w hown hlen hB
  have hr' : AppRun Try.prog 22 9 o.type v (.string t) w (.slice q (xs ++ t.data.toList).length cap) W := by rw [ht]; exact hr
  exact wpList_append_ran hr' hg hop hs hx (hK _ q cap W (Lib.hid rfl) hm ha hb)
/-- what is below the slice's own blocks stays -/
theorem aside_low {B : Nat} {v : Value} {xs : List UInt8} {w W : World} (ha : Aside (fun k => v.ownBlock = some k) w W) (hown : Has w B v xs) (hB : B ≤ w.heap.size) : Below B w W :=
  ha.below hB (fun k hk hc => by have := (hown.lt k hc).1; omega)
/-- the bytes of a literal -/
theorem has_lit {B : Nat} {w : World} (l : List UInt8) {C : Array Value} (hC : C = (cellsOf l).toArray) (hB : B ≤ w.heap.size) (hl : l.length ≤ 1000000) : Has (w.alloc (.cells C 5)) B (.slice (some ⟨w.heap.size, 0, none⟩) l.length l.length) l := by
  subst hC
  refine ⟨by rw [cellsOf_length, Nat.mul_one], .inr ⟨w.heap.size, l.length, (cellsOf l).toArray, rfl, hB, heap_new w _, Nat.le_refl _, by unfold maxLen; omega, by simp [cellsOf], ?_⟩⟩
  rw [List.toList_toArray, Nat.mul_one, List.take_of_length_le (by rw [cellsOf_length]; exact Nat.le_refl _)]
theorem Has.on {B : Nat} {w w' : World} {v : Value} {l : List UInt8} (h : Has w B v l) (hb : Below w.heap.size w w') : Has w' B v l := h.aside (aside_new hb (fun _ => False)) (fun _ _ hc => hc)
theorem Has.lower {B B' : Nat} {w : World} {v : Value} {l : List UInt8} (h : Has w B v l) (hB : B' ≤ B) : Has w B' v l := h.low hB
/-- one byte more, out of a block that was just made -/
theorem wp_pushH {B : Nat} {v : Value} {xs : List UInt8} {w : World} {H : Nat} (hH : w.heap.size = H) (hown : Has w B v xs) (c : UInt8) (hlen : xs.length + 1 ≤ 140737488355328) (hB : B ≤ w.heap.size)
    {z : Int} {ops : Array Oper} {rest : List Oper} {o : Oper} {a : Act} {Q : Exit → Act → World → Prop} {s x : Operand}
    (hz : z = (c.toNat : Int)) (ht : o.type = 22) (hg : o.guard = none) (hop : o.op = Op.call { callee := Callee.builtin Builtin.append, args := #[s, x], argTypes := #[22, 22] })
    (hs : a.eval s = v) (hx : a.eval x = .slice (some ⟨H, 0, none⟩) 1 1)
    (hK : ∀ g cap W, Mine W B g cap (xs ++ [c]) → Below B w W → wpList Try.prog ops Q rest (a.put o.dst (.slice (some ⟨g, 0, none⟩) (xs.length + 1) cap)) W) :
    wpList Try.prog ops Q (o :: rest) a (w.alloc (.cells #[.int .u8 z] 5)) := by
  subst hH
  exact wp_push hown c hlen hB hz ht hg hop hs hx hK
end Go.Proofs.Ytpgilfglfcnihaa
