/- Package dev's file: Damage, Tail; copies. -/
import Derived.Test.YtoibeajcepbpjaaKDevE
import Derived.Deep.Upon
namespace Go.Proofs.Ytoibeajcepbpjaa
open Go.RowKit
attribute [local go_sem] runK_store_func runK_store_nil

/-- append of bytes onto a slice of the call's own, which may be nil, as they may be none -/
theorem onto_any (B : Nat) (v : Value) (xs l : List UInt8) (p : Option Addr) (c : Nat) (w : World) (hown : Has w B v xs) (h : At w p l) (hlen : xs.length + l.length ≤ 140737488355328) (hB : B ≤ w.heap.size) :
    ∃ (q : Option Addr) (cap : Nat) (W : World), AppRun Try.prog 32 32 32 v (.slice p l.length c) w (.slice q (xs ++ l).length cap) W ∧ Has W B (.slice q (xs ++ l).length cap) (xs ++ l) ∧ Aside (fun k => v.ownBlock = some k) w W ∧ (xs ++ l).length ≤ cap ∧ ∀ k, (Value.slice q (xs ++ l).length cap).ownBlock = some k → v.ownBlock = some k ∨ w.heap.size ≤ k := by
  obtain ⟨i, hi, hz, hsz, hby⟩ := info_parts info8
  by_cases h0 : l = []
  · subst h0
    obtain ⟨q, cap, rfl, -, hcap⟩ := hown.at
    rw [List.append_nil]
    exact ⟨q, cap, w, ⟨run_append_nothing (P := Try.prog) w 32 32 32 5 i Try.underlying32 hi q xs.length cap hcap (.slice p 0 c) (by rw [hsz]; exact src_bytes c h)⟩, hown, Aside.refl _ _, hcap, fun k hk => .inl hk⟩
  · obtain ⟨b, o, rfl, hbl, hc⟩ := at_some h (List.length_pos_iff.2 h0)
    obtain ⟨g, cap, W, hr, hm, hgr, hgb, _⟩ := run_append_lies (P := Try.prog) w 32 32 B 5 i (.int .u8 0) 1 1 Try.underlying32 hi hz hsz hby rfl (by decide) v xs.length (cellsOf xs) hown ⟨b, o, none⟩ l.length c (cellsOf l) (by rw [cellsOf_length, Nat.mul_one])
      (fun j u hj => by
        have hj2 : j < l.length := by
          have := (List.getElem?_eq_some_iff.1 hj).1
          simpa [cellsOf] using this
        rw [cellsOf_get l j hj2] at hj
        cases hj
        rw [Lib.add_plain]
        exact hc j hj2)
      (fun u hu => by obtain ⟨_, _, rfl⟩ := List.mem_map.1 hu; rfl) (List.length_pos_iff.2 h0) (by unfold maxLen; omega) (by omega) hB w.heap.size rfl
    rw [← cellsOf_append, ← List.length_append] at hm
    rw [← List.length_append] at hr
    have hH : Has W B (.slice (some ⟨g, 0, none⟩) (xs ++ l).length cap) (xs ++ l) := hm
    refine ⟨some ⟨g, 0, none⟩, cap, W, ⟨hr⟩, hH, aside_grown hgr, ?_, ?_⟩
    · obtain ⟨q', cap', he, _, h2⟩ := hH.at
      injection he with _ _ e2
      omega
    · intro k hk
      simp only [Value.ownBlock, Option.some.injEq] at hk
      subst hk
      rcases hgb with h1 | h1
      · exact .inl h1
      · exact .inr (by omega)

/-- in the walk -/
theorem wp_ontoA {B : Nat} {v : Value} {xs l : List UInt8} {p : Option Addr} {c : Nat} {w : World} (hown : Has w B v xs) (h : At w p l) (hlen : xs.length + l.length ≤ 140737488355328) (hB : B ≤ w.heap.size)
    {ops : Array Oper} {rest : List Oper} {o : Oper} {a : Act} {Q : Exit → Act → World → Prop} {y x : Operand}
    (ht : o.type = 32) (hg : o.guard = none) (hop : o.op = Op.call { callee := Callee.builtin Builtin.append, args := #[y, x], argTypes := #[32, 32] })
    (hs : a.eval y = v) (hx : a.eval x = .slice p l.length c)
    (hK : ∀ ys q cap W, Hid (ys = xs ++ l) → Has W B (.slice q ys.length cap) ys → Aside (fun k => v.ownBlock = some k) w W → (∀ k, (Value.slice q ys.length cap).ownBlock = some k → v.ownBlock = some k ∨ w.heap.size ≤ k) → wpList Try.prog ops Q rest (a.put o.dst (.slice q ys.length cap)) W) :
    wpList Try.prog ops Q (o :: rest) a w := by
  obtain ⟨q, cap, W, hr, hm, ha, -, hb⟩ := onto_any B v xs l p c w hown h hlen hB
  have hr' : AppRun Try.prog 32 32 o.type v (.slice p l.length c) w (.slice q (xs ++ l).length cap) W := by rw [ht]; exact hr
  exact wpList_append_ran hr' hg hop hs hx (hK _ q cap W (Lib.hid rfl) hm ha hb)

set_option maxHeartbeats 1000000 in
/-- copied(b): bytes of the caller's own -/
theorem kCopied (p : Option Addr) (c : Nat) (l : List UInt8) (hl : l.length ≤ 140737488351232) (w : World) (h : At w p l) :
    Calls Try.prog 30 #[.slice p l.length c] w fun e w' => ∃ q cap, e = .returned (.slice q l.length cap) ∧ Has w' w.heap.size (.slice q l.length cap) l ∧ Below w.heap.size w w' := by
  have HA := Lib.hid h
  clear h
  go_enter Try.func30, Try.ntmps30
  go_wp2_with (at_builtin; refine wp_ontoA (xs := []) (v := .slice none 0 0) (has_nil _ _) HA.out (by simp; omega) (Nat.le_refl _) rfl rfl rfl rfl rfl ?_; intro ys q cap W HY hH ha _)
  go_ret
  have hy : ys = l := HY.out
  subst hy
  exact ⟨q, cap, rfl, hH, ha.below (Nat.le_refl _) (fun k _ hk => by cases hk)⟩

section
variable {B g : Nat} {v : Value} {s : Dv.St} {x k : Nat} {w : World}

theorem kAll (h : KDev w B g v s x k) (hl : s.b.length ≤ 2097152) : Calls Try.prog 15 #[.pointer (some ⟨g, 0, none⟩)] w fun e w' => ∃ q cap, e = .returned (.slice q s.b.length cap) ∧ Has w' w.heap.size (.slice q s.b.length cap) s.b ∧ Below w.heap.size w w' := by
  have c0 : w.cell? ⟨g, 0, none⟩ = some v := h.cell 0
  obtain ⟨p, cap, hv, hA, -⟩ := h.has.at
  subst hv
  have HC := Lib.hid (kCopied p cap s.b (by omega) w hA)
  clear h hA
  go_enter Try.func15, Try.ntmps15
  go_wp2_with fail
  refine HC.out.mono ?_
  rintro e w1 ⟨q1, c1, rfl, hu, hb⟩
  have HU := Lib.hid hu
  have HB := Lib.hid hb
  clear hu hb
  go_wp2
  go_ret
  exact ⟨q1, c1, rfl, HU.out, HB.out⟩

set_option maxHeartbeats 1000000 in
theorem kDamage1 {g2 cap bx by_ n m : Nat} {c : UInt8} (hb : w.heap[bx]? = some (.cells #[.int .u8 (c.toNat : Int)] 5)) (hb2 : w.heap[by_]? = some (.cells #[.int .i64 n] 3)) (hn : n < m) {old : Value} (hc : w.cell? ⟨g2, n, none⟩ = some old) (hf : w.frozen? ⟨g2, n, none⟩ = false) :
    Calls Try.prog 52 #[.slice (some ⟨g2, 0, none⟩) m cap, .pointer (some ⟨bx, 0, none⟩), .pointer (some ⟨by_, 0, none⟩)] w fun e w' => e = .returned (.slice (some ⟨g2, 0, none⟩) m cap) ∧ ∃ j, w' = (w.setCell ⟨g2, n, none⟩ (.int .u8 (c.toNat : Int))).drewN j := by
  have cb := box_cell hb
  have cb2 := box_cell hb2
  have hn1 : (n : Int) < (m : Int) := by omega
  clear hb hb2
  go_enter Try.func52, Try.ntmps52
  go_wp2
  go_ret
  exact ⟨rfl, 0, rfl⟩
end
end Go.Proofs.Ytoibeajcepbpjaa
