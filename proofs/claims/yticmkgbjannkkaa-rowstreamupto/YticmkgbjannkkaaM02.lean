/- AsideP, Aside, OntoA, Str: put together. -/
import Derived.Test.YticmkgbjannkkaaRows
import Derived.WalkKit
import Derived.Below
import Derived.BigQuiet
import Derived.Test.YticmkgbjannkkaaM01
import Derived.Deep.Upon
import Derived.Deep.AppendLies
import Derived.Lib.AppendStr
import Derived.Laws.BytesArg
import Derived.Laws.Rows

/- Worlds that are alike but for some blocks: what is done to one object leaves the others alone. -/
namespace Go.Proofs.Yticmkgbjannkkaa
open Go.RowKit

/-- w' is w but for the blocks of F, and new ones -/
structure Aside (F : Nat → Prop) (w w' : World) : Prop where
  os : w'.os = w.os
  tape : w'.tape = w.tape
  output : w'.output = w.output
  size : w.heap.size ≤ w'.heap.size
  block : ∀ k, k < w.heap.size → ¬ F k → w'.heap[k]? = w.heap[k]?

section
variable {F G : Nat → Prop} {w w' w'' : World}
theorem Aside.refl (F : Nat → Prop) (w : World) : Aside F w w := ⟨rfl, rfl, rfl, Nat.le_refl _, fun _ _ _ => rfl⟩
theorem Aside.trans (h : Aside F w w') (k : Aside G w' w'') (hg : ∀ i, i < w.heap.size → G i → F i) : Aside F w w'' :=
  ⟨k.os.trans h.os, k.tape.trans h.tape, k.output.trans h.output, Nat.le_trans h.size k.size, fun i hi hf => (k.block i (Nat.lt_of_lt_of_le hi h.size) (fun hc => hf (hg i hi hc))).trans (h.block i hi hf)⟩
theorem Aside.mono (h : Aside F w w') (hg : ∀ i, i < w.heap.size → F i → G i) : Aside G w w' :=
  ⟨h.os, h.tape, h.output, h.size, fun i hi hf => h.block i hi (fun hc => hf (hg i hi hc))⟩
theorem aside_of {B : Nat} (h : Below B w w') (hF : ∀ k, k < w.heap.size → B ≤ k → F k) : Aside F w w' :=
  ⟨h.os, h.tape, h.output, h.size, fun k hk hf => h.block k (by
    rcases Nat.lt_or_ge k B with h1 | h1
    · exact h1
    · exact absurd (hF k hk h1) hf)⟩
theorem aside_new (h : Below w.heap.size w w') (F : Nat → Prop) : Aside F w w' := aside_of h fun _ h1 h2 => absurd h1 (Nat.not_lt_of_le h2)
theorem Aside.below {B : Nat} (h : Aside F w w') (hB : B ≤ w.heap.size) (hF : ∀ k, k < B → ¬ F k) : Below B w w' :=
  ⟨h.os, h.tape, h.output, h.size, fun k hk => h.block k (by omega) (hF k hk)⟩
theorem Aside.alloc (h : Aside F w w') (o : Obj) : Aside F w (w'.alloc o) :=
  h.trans (aside_new ((Below.refl w'.heap.size w').alloc (Nat.le_refl _) o) F) fun _ _ h => h
theorem Aside.drew (h : Aside F w w') : Aside F w w'.drew := ⟨h.os, h.tape, h.output, h.size, h.block⟩
theorem Aside.drewN (h : Aside F w w') (n : Nat) : Aside F w (w'.drewN n) := ⟨h.os, h.tape, h.output, h.size, h.block⟩
theorem Aside.setCell (h : Aside F w w') {p : Addr} (hp : F p.block ∨ w.heap.size ≤ p.block) (u : Value) : Aside F w (w'.setCell p u) := by
  refine ⟨h.os, h.tape, h.output, by simpa [World.setCell] using h.size, fun k hk hf => ?_⟩
  rw [Below.heap_setCell _ _ _ _ (fun hc => ?_)]
  · exact h.block k hk hf
  · rcases hp with hp | hp
    · rw [← hc] at hp; exact hf hp
    · omega
theorem Aside.cell (h : Aside F w w') {p : Addr} (hl : p.block < w.heap.size) (hp : ¬ F p.block) : w'.cell? p = w.cell? p := World.cell?_of_block (w := w) (h.block p.block hl hp)
theorem Aside.frozen (h : Aside F w w') {p : Addr} (hl : p.block < w.heap.size) (hp : ¬ F p.block) : w'.frozen? p = w.frozen? p := World.frozen?_of_block (w := w) (h.block p.block hl hp)
end
end Go.Proofs.Yticmkgbjannkkaa

/- Worlds that are alike but for some blocks: bytes that lie aside. -/
namespace Go.Proofs.Yticmkgbjannkkaa
open Go.RowKit

section
variable {F G : Nat → Prop} {w w' w'' : World}
theorem At.aside {p : Option Addr} {l : List UInt8} (h : At w p l) (ha : Aside F w w') (hp : ∀ b o, p = some ⟨b, o, none⟩ → ¬ F b) : At w' p l := by
  rcases h with rfl | ⟨b, o, rfl, hlt, hc⟩
  · exact .inl rfl
  · refine .inr ⟨b, o, rfl, by have := ha.size; omega, fun j hj => ?_⟩
    rw [ha.cell (p := ⟨b, o + j, none⟩) hlt (hp b o rfl)]
    exact hc j hj
theorem Has.lt {B : Nat} {v : Value} {l : List UInt8} (h : Has w B v l) : ∀ k, v.ownBlock = some k → B ≤ k ∧ k < w.heap.size := World.ownsRow.lt h
theorem Has.aside {B : Nat} {v : Value} {l : List UInt8} (h : Has w B v l) (ha : Aside F w w') (hp : ∀ k, v.ownBlock = some k → ¬ F k) : Has w' B v l := by
  refine ⟨h.1, ?_⟩
  rcases h.2 with h1 | ⟨g, cap, cur, rfl, h2, h3, h4⟩
  · exact .inl h1
  · refine .inr ⟨g, cap, cur, rfl, h2, ?_, h4⟩
    rw [ha.block g (Array.getElem?_eq_some_iff.1 h3).1 (hp g rfl)]
    exact h3
theorem Has.low {B B' : Nat} {v : Value} {l : List UInt8} (h : Has w B v l) (hB : B' ≤ B) : Has w B' v l := by
  refine ⟨h.1, ?_⟩
  rcases h.2 with h1 | ⟨g, cap, cur, rfl, h2, h3⟩
  · exact .inl h1
  · exact .inr ⟨g, cap, cur, rfl, by omega, h3⟩
end
end Go.Proofs.Yticmkgbjannkkaa

/- Bytes, or a text's bytes, put behind a slice of the call's own, whatever it is (nil too). -/
namespace Go.Proofs.Yticmkgbjannkkaa
open Go.RowKit

theorem aside_grew {w w' : World} {row : Option Nat} (hg : w.grownBy w' row) : Aside (fun k => row = some k) w w' := ⟨hg.os, hg.tape, hg.output, hg.size, fun k hk hf => hg.block k hk (fun hc => hf hc.symm)⟩

/-- append of bytes onto a slice of the call's own, which may be nil, as they may be none -/
theorem onto_all (B : Nat) (v : Value) (xs l : List UInt8) (p : Option Addr) (c : Nat) (w : World) (hown : Has w B v xs) (h : At w p l) (hlen : xs.length + l.length ≤ 140737488355328) (hB : B ≤ w.heap.size) :
    ∃ (q : Option Addr) (cap : Nat) (W : World), AppRun Try.prog 28 28 28 v (.slice p l.length c) w (.slice q (xs ++ l).length cap) W ∧ Has W B (.slice q (xs ++ l).length cap) (xs ++ l) ∧ Aside (fun k => v.ownBlock = some k) w W ∧ (xs ++ l).length ≤ cap ∧ ∀ k, (Value.slice q (xs ++ l).length cap).ownBlock = some k → v.ownBlock = some k ∨ w.heap.size ≤ k := by
  obtain ⟨i, hi, hz, hsz, hby⟩ := info_parts info8
  by_cases h0 : l = []
  · subst h0
    obtain ⟨q, cap, rfl, -, hcap⟩ := hown.at
    rw [List.append_nil]
    exact ⟨q, cap, w, ⟨run_append_nothing (P := Try.prog) w 28 28 28 5 i Try.underlying28 hi q xs.length cap hcap (.slice p 0 c) (by rw [hsz]; exact src_bytes c h)⟩, hown, Aside.refl _ _, hcap, fun k hk => .inl hk⟩
  · obtain ⟨b, o, rfl, hbl, hc⟩ := at_some h (List.length_pos_iff.2 h0)
    obtain ⟨g, cap, W, hr, hm, hgr, hgb, _⟩ := run_append_lies (P := Try.prog) w 28 28 B 5 i (.int .u8 0) 1 1 Try.underlying28 hi hz hsz hby rfl (by decide) v xs.length (cellsOf xs) hown ⟨b, o, none⟩ l.length c (cellsOf l) (by rw [cellsOf_length, Nat.mul_one])
      (fun j u hj => by
        have hj2 : j < l.length := by
          have := (List.getElem?_eq_some_iff.1 hj).1
          simpa [cellsOf] using this
        rw [cellsOf_get l j hj2] at hj
        cases hj
        rw [Lib.add_plain]
        exact hc j hj2)
      (fun u hu => by obtain ⟨_, _, rfl⟩ := List.mem_map.1 hu; rfl) (List.length_pos_iff.2 h0) (by unfold maxLen; omega) (by omega) hB w.heap.size rfl
    rw [← cellsOf_append, ← List.length_append] at hm
    rw [← List.length_append] at hr
    have hH : Has W B (.slice (some ⟨g, 0, none⟩) (xs ++ l).length cap) (xs ++ l) := hm
    refine ⟨some ⟨g, 0, none⟩, cap, W, ⟨hr⟩, hH, aside_grew hgr, ?_, ?_⟩
    · obtain ⟨q', cap', he, _, h2⟩ := hH.at
      injection he with _ _ e2
      omega
    · intro k hk
      simp only [Value.ownBlock, Option.some.injEq] at hk
      subst hk
      rcases hgb with h1 | h1
      · exact .inl h1
      · exact .inr (by omega)

/-- in the walk -/
theorem wp_ontoL {B : Nat} {v : Value} {xs l : List UInt8} {p : Option Addr} {c : Nat} {w : World} (hown : Has w B v xs) (h : At w p l) (hlen : xs.length + l.length ≤ 140737488355328) (hB : B ≤ w.heap.size)
    {ops : Array Oper} {rest : List Oper} {o : Oper} {a : Act} {Q : Exit → Act → World → Prop} {y x : Operand}
    (ht : o.type = 28) (hg : o.guard = none) (hop : o.op = Op.call { callee := Callee.builtin Builtin.append, args := #[y, x], argTypes := #[28, 28] })
    (hs : a.eval y = v) (hx : a.eval x = .slice p l.length c)
    (hK : ∀ ys q cap W, Hid (ys = xs ++ l) → Has W B (.slice q ys.length cap) ys → Aside (fun k => v.ownBlock = some k) w W → (∀ k, (Value.slice q ys.length cap).ownBlock = some k → v.ownBlock = some k ∨ w.heap.size ≤ k) → wpList Try.prog ops Q rest (a.put o.dst (.slice q ys.length cap)) W) :
    wpList Try.prog ops Q (o :: rest) a w := by
  obtain ⟨q, cap, W, hr, hm, ha, -, hb⟩ := onto_all B v xs l p c w hown h hlen hB
  have hr' : AppRun Try.prog 28 28 o.type v (.slice p l.length c) w (.slice q (xs ++ l).length cap) W := by rw [ht]; exact hr
  exact wpList_append_ran hr' hg hop hs hx (hK _ q cap W (Lib.hid rfl) hm ha hb)


theorem strCells_eq (t : ByteArray) : Lib.strCells t = cellsOf t.data.toList := by
  simp [Lib.strCells, cellsOf]
/-- a text's bytes -/
theorem onto_str (B : Nat) (v : Value) (xs : List UInt8) (t : ByteArray) (w : World) (hown : Has w B v xs) (hlen : xs.length + t.size ≤ 140737488355328) (hB : B ≤ w.heap.size) :
    ∃ (q : Option Addr) (cap : Nat) (W : World), AppRun Try.prog 28 9 28 v (.string t) w (.slice q (xs ++ t.data.toList).length cap) W ∧ Has W B (.slice q (xs ++ t.data.toList).length cap) (xs ++ t.data.toList) ∧ Aside (fun k => v.ownBlock = some k) w W ∧ ∀ k, (Value.slice q (xs ++ t.data.toList).length cap).ownBlock = some k → v.ownBlock = some k ∨ w.heap.size ≤ k := by
  obtain ⟨i, hi, hz, hsz, hby⟩ := info_parts info8
  obtain ⟨v', w', hr, h2, h3, h4⟩ := Lib.run_append_own_string (P := Try.prog) w B 28 9 28 5 i Try.underlying28 Try.underlying9 hi hz hsz hby v xs.length (cellsOf xs) hown t (by unfold maxLen; omega) hlen hB
  have hs : t.data.toList.length = t.size := by rw [Array.length_toList]; rfl
  have hblk : ∀ k, v'.ownBlock = some k → v.ownBlock = some k ∨ w.heap.size ≤ k := by
    intro k hk
    rcases hown.2 with ⟨rfl, hn0⟩ | ⟨g, cap, cur, rfl, hbg, hg, hnc, hcm, hcs, htake⟩
    · by_cases hm : t.size = 0
      · rw [h4.2 ⟨rfl, hm⟩] at hk
        simp [Value.ownBlock] at hk
      · have hr2 := run_append_nil_string (P := Try.prog) w 28 9 28 5 i (.int .u8 0) Try.underlying28 Try.underlying9 hi hz t (by omega) (by omega) (by rw [hby]; omega)
        have e := hr.symm.trans hr2
        injection e with e1 e2
        rw [e1] at hk
        simp only [Value.ownBlock, Option.some.injEq] at hk
        exact .inr (by omega)
    · by_cases hroom : xs.length + t.size ≤ cap
      · have hcs' : cur.size = cap := by simpa using hcs
        have hr2 := Lib.run_append_room_string (P := Try.prog) w 28 9 28 5 i Try.underlying28 Try.underlying9 hi hsz g xs.length cap cur hg t hroom (by omega)
        have e := hr.symm.trans hr2
        injection e with e1 e2
        rw [e1] at hk
        exact .inl hk
      · have hxl : (cellsOf xs).length = xs.length := cellsOf_length xs
        have hr2 := Lib.run_append_grow_string (P := Try.prog) w 28 9 28 5 i (.int .u8 0) Try.underlying28 Try.underlying9 hi hz ⟨g, 0, none⟩ xs.length cap (cellsOf xs) (by rw [hsz, hxl, Nat.mul_one]) (World.ownsRow.cells (g := g) hown rfl) t (by omega) (by omega) (by rw [hby]; exact growslice_fits (by omega) (by omega))
        have e := hr.symm.trans hr2
        injection e with e1 e2
        rw [e1] at hk
        simp only [Value.ownBlock, Option.some.injEq] at hk
        exact .inr (by omega)
  rw [strCells_eq, ← cellsOf_append, ← hs, ← List.length_append] at h2
  have hH : Has w' B v' (xs ++ t.data.toList) := h2
  obtain ⟨q, cap, rfl, -, -⟩ := hH.at
  exact ⟨q, cap, w', ⟨hr⟩, hH, aside_grew h3, hblk⟩
theorem wp_ontoS {B : Nat} {v : Value} {xs : List UInt8} {t : ByteArray} {w : World} (hown : Has w B v xs) (hlen : xs.length + t.size ≤ 140737488355328) (hB : B ≤ w.heap.size)
    {ops : Array Oper} {rest : List Oper} {o : Oper} {a : Act} {Q : Exit → Act → World → Prop} {y x : Operand}
    (ht : o.type = 28) (hg : o.guard = none) (hop : o.op = Op.call { callee := Callee.builtin Builtin.append, args := #[y, x], argTypes := #[28, 9] })
    (hs : a.eval y = v) (hx : a.eval x = .string t)
    (hK : ∀ ys q cap W, Hid (ys = xs ++ t.data.toList) → Has W B (.slice q ys.length cap) ys → Aside (fun k => v.ownBlock = some k) w W → (∀ k, (Value.slice q ys.length cap).ownBlock = some k → v.ownBlock = some k ∨ w.heap.size ≤ k) → wpList Try.prog ops Q rest (a.put o.dst (.slice q ys.length cap)) W) :
    wpList Try.prog ops Q (o :: rest) a w := by
  obtain ⟨q, cap, W, hr, hm, ha, hb⟩ := onto_str B v xs t w hown hlen hB
  have hr' : AppRun Try.prog 28 9 o.type v (.string t) w (.slice q (xs ++ t.data.toList).length cap) W := by rw [ht]; exact hr
  exact wpList_append_ran hr' hg hop hs hx (hK _ q cap W (Lib.hid rfl) hm ha hb)
/-- what is below the slice's own blocks stays -/
theorem aside_low {B : Nat} {v : Value} {xs : List UInt8} {w W : World} (ha : Aside (fun k => v.ownBlock = some k) w W) (hown : Has w B v xs) (hB : B ≤ w.heap.size) : Below B w W :=
  ha.below hB (fun k hk hc => by have := (hown.lt k hc).1; omega)
/-- the bytes of a literal -/
theorem has_lit {B : Nat} {w : World} (l : List UInt8) {C : Array Value} (hC : C = (cellsOf l).toArray) (hB : B ≤ w.heap.size) (hl : l.length ≤ 1000000) : Has (w.alloc (.cells C 5)) B (.slice (some ⟨w.heap.size, 0, none⟩) l.length l.length) l := by
  subst hC
  refine ⟨by rw [cellsOf_length, Nat.mul_one], .inr ⟨w.heap.size, l.length, (cellsOf l).toArray, rfl, hB, heap_new w _, Nat.le_refl _, by unfold maxLen; omega, by simp [cellsOf], ?_⟩⟩
  rw [List.toList_toArray, Nat.mul_one, List.take_of_length_le (by rw [cellsOf_length]; exact Nat.le_refl _)]
theorem Has.on {B : Nat} {w w' : World} {v : Value} {l : List UInt8} (h : Has w B v l) (hb : Below w.heap.size w w') : Has w' B v l := h.aside (aside_new hb (fun _ => False)) (fun _ _ hc => hc)
theorem Has.lower {B B' : Nat} {w : World} {v : Value} {l : List UInt8} (h : Has w B v l) (hB : B' ≤ B) : Has w B' v l := h.low hB
/-- one byte more, out of a block that was just made -/
theorem wp_pushH {B : Nat} {v : Value} {xs : List UInt8} {w : World} {H : Nat} (hH : w.heap.size = H) (hown : Has w B v xs) (c : UInt8) (hlen : xs.length + 1 ≤ 140737488355328) (hB : B ≤ w.heap.size)
    {z : Int} {ops : Array Oper} {rest : List Oper} {o : Oper} {a : Act} {Q : Exit → Act → World → Prop} {s x : Operand}
    (hz : z = (c.toNat : Int)) (ht : o.type = 28) (hg : o.guard = none) (hop : o.op = Op.call { callee := Callee.builtin Builtin.append, args := #[s, x], argTypes := #[28, 28] })
    (hs : a.eval s = v) (hx : a.eval x = .slice (some ⟨H, 0, none⟩) 1 1)
    (hK : ∀ g cap W, Mine W B g cap (xs ++ [c]) → Below B w W → wpList Try.prog ops Q rest (a.put o.dst (.slice (some ⟨g, 0, none⟩) (xs.length + 1) cap)) W) :
    wpList Try.prog ops Q (o :: rest) a (w.alloc (.cells #[.int .u8 z] 5)) := by
  subst hH
  exact wp_push hown c hlen hB hz ht hg hop hs hx hK
end Go.Proofs.Yticmkgbjannkkaa

/- string(b); what a call answers whose first result is a struct. -/
namespace Go.Proofs.Yticmkgbjannkkaa
open Go.RowKit

/-- the text of some bytes -/
def textOf (l : List UInt8) : ByteArray := ⟨l.toArray⟩
theorem textOf_data (l : List UInt8) : (textOf l).data.toList = l := by simp [textOf]
theorem textOf_size (l : List UInt8) : (textOf l).size = l.length := by show l.toArray.size = _; simp
set_option maxRecDepth 100000 in
theorem conv_str {w : World} {p : Option Addr} {l : List UInt8} (h : At w p l) (c : Nat) : (convert 28 9 (.slice p l.length c)).run Try.prog w = .ok (.string (textOf l)) w := by
  have hu : Try.prog.underlying 5 = some (.int .u8) := Try.underlying5
  rcases h with rfl | ⟨b, o, rfl, hb, hc⟩
  · rw [run_convert_bytes_string w 28 9 5 _ _ c Try.underlying28 hu Try.underlying9]
    cases p with
    | none =>
      simp [Conv.bytesToString, textOf, ByteArray.empty, ByteArray.emptyWithCapacity]
      rfl
    | some a =>
      have hl : (loadCells a 0).run Try.prog w = .ok ((([] : List Int).map (Value.int .u8)).toArray) w := by
        have := run_loadCells_list (P := Try.prog) w a [] (fun j v hj => by simp at hj)
        simpa using this
      rw [List.length_nil, run_bytesToString w a 0 c [] hl]
      rfl
  · have h := run_convert_bytes_arg (P := Try.prog) w 28 5 Try.underlying28 hu b o l.length c (l.map fun x => (x.toNat : Int)) (by simp) (fun i hi => by
      rw [hc i hi]
      simp [hi]) 9 Try.underlying9
    rw [h]
    congr 2
    show (⟨_⟩ : ByteArray) = ⟨_⟩
    congr 1
    rw [List.map_map]
    congr 1
    have : (l.map ((fun n : Int => UInt8.ofNat n.toNat) ∘ fun x : UInt8 => (x.toNat : Int))) = l.map id := List.map_congr_left (fun x _ => by simp)
    rw [this, List.map_id]

theorem results_row3 {P : Program} {fn : Func} {p u v : Tmp} {ty : TypeId} (h : fn.results = #[.cell p ty, .tmp u, .tmp v]) (tmps : Array Value) (w : World) (g : Nat) (t : TypeId) (cs : Array Value) (fr : Nat × Nat) (d : TypeDesc)
    (hp : tmps.getD p undef = .pointer (some ⟨g, 0, none⟩)) (hg : w.heap[g]? = some (.cells cs t fr))
    (hu : P.underlying ty = some d) (hd : (match d with | .struct _ | .array _ _ => true | _ => false) = true) (hi : (P.info? ty).map (·.size) = some cs.size) :
    (results fn tmps).run P w = .ok (.tuple #[.agg cs, tmps.getD u undef, tmps.getD v undef]) w := by
  have hp' : tmps[p]?.getD undef = .pointer (some ⟨g, 0, none⟩) := by simpa using hp
  simp [results, h, hp', asAddr, run_loadVar_row w g t ty cs fr d hg hu hd hi]
theorem results_row2 {P : Program} {fn : Func} {p u : Tmp} {ty : TypeId} (h : fn.results = #[.cell p ty, .tmp u]) (tmps : Array Value) (w : World) (g : Nat) (t : TypeId) (cs : Array Value) (fr : Nat × Nat) (d : TypeDesc)
    (hp : tmps.getD p undef = .pointer (some ⟨g, 0, none⟩)) (hg : w.heap[g]? = some (.cells cs t fr))
    (hu : P.underlying ty = some d) (hd : (match d with | .struct _ | .array _ _ => true | _ => false) = true) (hi : (P.info? ty).map (·.size) = some cs.size) :
    (results fn tmps).run P w = .ok (.tuple #[.agg cs, tmps.getD u undef]) w := by
  have hp' : tmps[p]?.getD undef = .pointer (some ⟨g, 0, none⟩) := by simpa using hp
  simp [results, h, hp', asAddr, run_loadVar_row w g t ty cs fr d hg hu hd hi]
end Go.Proofs.Yticmkgbjannkkaa
