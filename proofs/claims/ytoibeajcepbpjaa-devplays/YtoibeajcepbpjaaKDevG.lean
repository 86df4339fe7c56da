/- Package dev's file: Damage, Tail. -/
import Derived.Test.YtoibeajcepbpjaaKDevF
namespace Go.Proofs.Ytoibeajcepbpjaa
open Go.RowKit
attribute [local go_sem] runK_store_func runK_store_nil

section
variable {B g : Nat} {v : Value} {s : Dv.St} {x k : Nat} {w : World}

/-- what Damage asks of change -/
theorem damage_change {g2 cap bx bz i : Nat} {c : UInt8} (h : KDev w B g (.slice (some ⟨g2, 0, none⟩) s.b.length cap) s x k) (hi : i < s.b.length) (hs : s.safe ≤ s.b.length) (hb : w.heap[bx]? = some (.cells #[.int .u8 (c.toNat : Int)] 5)) (hb2 : w.heap[bz]? = some (.cells #[.int .i64 i] 3)) (hx : bx ≠ g) (hz : bz ≠ g) :
    Calls Try.prog 51 #[.pointer (some ⟨g, 0, none⟩), .func (.func 52) #[] #[.pointer (some ⟨bx, 0, none⟩), .pointer (some ⟨bz, 0, none⟩)]] w fun e w3 => e = .returned (.tuple #[]) ∧ KDev w3 B g (.slice (some ⟨g2, 0, none⟩) s.b.length cap) { s with b := s.b.set i c } x k ∧ Aside (fun j => j = g ∨ j = g2) w w3 := by
  refine (change_any 52 #[.pointer (some ⟨bx, 0, none⟩), .pointer (some ⟨bz, 0, none⟩)] (fun u l w'' => u = .slice (some ⟨g2, 0, none⟩) s.b.length cap ∧ l = s.b.set i c ∧ Aside (fun j => j = g ∨ j = g2) w w'') h (fun args w => enters_body Try.func52 (by kernel_rfl) rfl args w) (fun w' hl' ha' => ?_)).mono ?_
  · have hb' : w'.heap[bx]? = some (.cells #[.int .u8 (c.toNat : Int)] 5) := by rw [ha'.block _ (box_lt hb) hx]; exact hb
    have hb2' : w'.heap[bz]? = some (.cells #[.int .i64 i] 3) := by rw [ha'.block _ (box_lt hb2) hz]; exact hb2
    have hH := h.has.aside ha' (fun j hj hc => h.apart (by rw [hj, hc]))
    have hne : g2 ≠ g := fun hc => h.apart (by rw [hc]; rfl)
    have hm : Mine w' B g2 cap s.b := hH
    have hcell := hm.free.2.1 i hi
    have hfz := hm.free.2.2 i hi
    rw [Nat.zero_add] at hcell hfz
    refine (kDamage1 hb' hb2' hi hcell hfz).mono ?_
    rintro e w'' ⟨rfl, j, rfl⟩
    refine ⟨_, s.b.set i c, rfl, (Has.set hH i c).drewN j, ?_, rfl, rfl, ((ha'.mono (fun i _ hi => .inl hi)).setCell (p := ⟨g2, i, none⟩) (.inl (.inr rfl)) _).drewN j⟩
    show (w'.setCell ⟨g2, i, none⟩ _).heap[g]? = _
    rw [Below.heap_setCell _ _ _ _ (fun hc => hne hc.symm)]
    exact hl'
  · rintro e w3 ⟨rfl, u, l, w2, ⟨rfl, rfl, ha2⟩, ha3, hK⟩
    have hm : min s.safe (s.b.set i c).length = s.safe := by rw [List.length_set]; omega
    rw [hm] at hK
    exact ⟨rfl, hK, ha2.trans ha3 (fun _ _ h => .inl h)⟩

set_option maxHeartbeats 1000000 in
theorem kDamage (h : KDev w B g v s x k) (a : Int) (c : UInt8) (hs : s.safe ≤ s.b.length) : Calls Try.prog 23 #[.pointer (some ⟨g, 0, none⟩), .int .i64 a, .int .u8 (c.toNat : Int)] w (KPost w B g v (Dv.damage s a c)) := by
  have hg := h.lt
  have hB1 : Below w.heap.size w ((w.alloc (.cells #[.int .i64 a] 3)).alloc (.cells #[.int .u8 (c.toNat : Int)] 5)) := ((Below.refl _ _).alloc (Nat.le_refl _) _).alloc (by simp) _
  have hK1 := h.below hB1
  have HK1 := Lib.hid hK1
  have HA1 : Hid (Aside (fun i => i = g ∨ v.ownBlock = some i) w ((w.alloc (.cells #[.int .i64 a] 3)).alloc (.cells #[.int .u8 (c.toNat : Int)] 5))) := aside_new hB1 _
  have c0 : w.cell? ⟨g, 0, none⟩ = some v := h.cell 0
  obtain ⟨q, cap, hv, -, hcap⟩ := h.has.at
  subst hv
  by_cases hx : a < 0 ∨ (s.b.length : Int) ≤ a
  · have HE : Hid (Dv.damage s a c = (7, s)) := by show _ = _; unfold Dv.damage; rw [if_pos hx]
    clear h hK1 hB1
    by_cases h0 : a < 0
    · have hb0 : decide (a < 0) = true := decide_eq_true h0
      clear hx
      go_enter Try.func23, Try.ntmps23
      go_wp2
      go_quiet (fail)
      go_wp2
      go_ret
      unfold KPost
      rw [HE.out]
      exact ⟨rfl, _, _, _, HK1.out.drewN _, HA1.out.drewN _, fun _ h => .inl h⟩
    · have hb0 : decide (a < 0) = false := decide_eq_false h0
      have h1 : (s.b.length : Int) ≤ a := by omega
      clear hx
      go_enter Try.func23, Try.ntmps23
      go_wp2
      go_quiet (fail)
      go_wp2
      go_ret
      unfold KPost
      rw [HE.out]
      exact ⟨rfl, _, _, _, HK1.out.drewN _, HA1.out.drewN _, fun _ h => .inl h⟩
  · obtain ⟨i, rfl⟩ : ∃ i : Nat, a = (i : Int) := ⟨a.toNat, by omega⟩
    have hi : i < s.b.length := by omega
    have hi1 : ¬ (s.b.length : Int) ≤ (i : Int) := by omega
    have hi2 : decide (s.b.length ≤ i) = false := decide_eq_false (by omega)
    have hb0 : decide ((i : Int) < 0) = false := decide_eq_false (by omega)
    have HE : Hid (Dv.damage s i c = (0, { s with b := s.b.set i c })) := by show _ = _; unfold Dv.damage; rw [if_neg hx]; rfl
    rcases h.has.form with ⟨_, h0⟩ | ⟨g2, cap2, hv, hm⟩
    · rw [h0] at hi; simp at hi
    · injection hv with e1 _ e2
      subst e1 e2
      have HC := Lib.hid (fun j => damage_change (c := c) (bx := w.heap.size + 1) (bz := w.heap.size) (hK1.drewN j) hi hs (by
          have := heap_new (w.alloc (.cells #[.int .i64 (i : Int)] 3)) (.cells #[.int .u8 (c.toNat : Int)] 5)
          simpa using this) (by
          have := heap_new w (.cells #[.int .i64 (i : Int)] 3)
          have h2 : ((w.alloc (.cells #[.int .i64 (i : Int)] 3)).alloc (.cells #[.int .u8 (c.toNat : Int)] 5)).heap[w.heap.size]? = (w.alloc (.cells #[.int .i64 (i : Int)] 3)).heap[w.heap.size]? := by
            show ((w.alloc (.cells #[.int .i64 (i : Int)] 3)).heap.push _)[w.heap.size]? = _
            rw [Array.getElem?_push, if_neg (by simp)]
          exact h2.trans this) (by omega) (by omega))
      have hc256 := c.toNat_lt
      clear h hm hx hK1 hB1
      go_enter Try.func23, Try.ntmps23
      go_wp2_with fail
      go_quiet (fail)
      go_wp2_with fail
      refine (HC.out _).mono ?_
      rintro e w3 ⟨rfl, hK, ha⟩
      have HK := Lib.hid hK
      have HA := Lib.hid ((HA1.out.drewN _).trans ha (fun j _ hj => by rcases hj with h | h; exact .inl h; exact .inr (by rw [h]; rfl)))
      clear hK ha
      go_wp2
      go_ret
      unfold KPost
      rw [HE.out]
      exact ⟨rfl, _, _, _, HK.out, HA.out, fun _ h => .inl h⟩

set_option maxHeartbeats 1000000 in
theorem kTail1 {bx c : Nat} {l : List UInt8} {p : Option Addr} (hH : Has w B v s.b) (hb : w.heap[bx]? = some (.cells #[.slice p l.length c] 32)) (hA : At w p l) (hlen : s.b.length + l.length ≤ 140737488355328) (hB : B ≤ w.heap.size) :
    Calls Try.prog 53 #[v, .pointer (some ⟨bx, 0, none⟩)] w fun e w' => ∃ q cap, e = .returned (.slice q (s.b ++ l).length cap) ∧ Has w' B (.slice q (s.b ++ l).length cap) (s.b ++ l) ∧ Aside (fun k => v.ownBlock = some k) w w' ∧ ∀ k, (Value.slice q (s.b ++ l).length cap).ownBlock = some k → v.ownBlock = some k ∨ w.heap.size ≤ k := by
  have cb := box_cell hb
  have HH := Lib.hid hH
  have HA := Lib.hid hA
  obtain ⟨q0, cap0, hv, -, -⟩ := hH.at
  subst hv
  clear hb hH hA
  go_enter Try.func53, Try.ntmps53
  go_wp2_with (at_builtin; refine wp_ontoA HH.out HA.out (by omega) hB rfl rfl rfl rfl rfl ?_; intro ys q cap W HY hH2 ha hk)
  go_ret
  rw [← HY.out]
  exact ⟨q, cap, rfl, hH2, ha, hk⟩

/-- what Tail asks of change -/
theorem tail_change {bx c : Nat} {l : List UInt8} {p : Option Addr} (h : KDev w B g v s x k) (hb : w.heap[bx]? = some (.cells #[.slice p l.length c] 32)) (hx : bx ≠ g) (hA : At w p l) (hp : l ≠ [] → ∀ b o, p = some ⟨b, o, none⟩ → b ≠ g) (hlen : s.b.length + l.length ≤ 2097152) (hB : B ≤ w.heap.size) :
    Calls Try.prog 51 #[.pointer (some ⟨g, 0, none⟩), .func (.func 53) #[] #[.pointer (some ⟨bx, 0, none⟩)]] w fun e w3 => e = .returned (.tuple #[]) ∧ ∃ q cap, KDev w3 B g (.slice q (s.b ++ l).length cap) { s with b := s.b ++ l, safe := min s.safe (s.b ++ l).length } x k ∧ Aside (fun j => j = g ∨ v.ownBlock = some j) w w3 ∧ ∀ i, (Value.slice q (s.b ++ l).length cap).ownBlock = some i → v.ownBlock = some i ∨ w.heap.size ≤ i := by
  refine (change_any 53 #[.pointer (some ⟨bx, 0, none⟩)] (fun u l' w'' => l' = s.b ++ l ∧ Aside (fun j => j = g ∨ v.ownBlock = some j) w w'' ∧ ∃ q cap, u = .slice q (s.b ++ l).length cap ∧ ∀ i, u.ownBlock = some i → v.ownBlock = some i ∨ w.heap.size ≤ i) h (fun args w => enters_body Try.func53 (by kernel_rfl) rfl args w) (fun w' hl' ha' => ?_)).mono ?_
  · have hb' : w'.heap[bx]? = some (.cells #[.slice p l.length c] 32) := by rw [ha'.block _ (box_lt hb) hx]; exact hb
    have hH := h.has.aside ha' (fun j hj hc => h.apart (by rw [hj, hc]))
    have hA' : At w' p l := by
      by_cases h0 : l = []
      · exact .inl h0
      · exact hA.aside ha' (fun b o he => hp h0 b o he)
    refine (kTail1 hH hb' hA' (by omega) (Nat.le_trans hB ha'.size)).mono ?_
    rintro e w'' ⟨q, cap, rfl, hH2, ha2, hk⟩
    refine ⟨_, s.b ++ l, rfl, hH2, ?_, rfl, (ha'.mono (fun i _ hi => .inl hi)).trans ha2 (fun _ _ h => .inr h), q, cap, rfl, fun i hi => ?_⟩
    · rw [ha2.block g (box_lt hl') h.apart]; exact hl'
    · rcases hk i hi with h1 | h1
      · exact .inl h1
      · exact .inr (Nat.le_trans ha'.size h1)
  · rintro e w3 ⟨rfl, u, l', w2, ⟨rfl, ha2, q, cap, rfl, hk⟩, ha3, hK⟩
    exact ⟨rfl, q, cap, hK, ha2.trans ha3 (fun _ _ h => .inl h), hk⟩

set_option maxHeartbeats 1000000 in
theorem kTail (h : KDev w B g v s x k) (p : Option Addr) (c : Nat) (l : List UInt8) (hA : At w p l) (hp : l ≠ [] → ∀ b o, p = some ⟨b, o, none⟩ → b ≠ g) (hb : s.b.length ≤ 2097152) (hB : B ≤ w.heap.size) :
    Calls Try.prog 25 #[.pointer (some ⟨g, 0, none⟩), .slice p l.length c] w (KPost w B g v (Dv.tail s l)) := by
  have hg := h.lt
  have hB1 : Below w.heap.size w (w.alloc (.cells #[.slice p l.length c] 32)) := (Below.refl _ _).alloc (Nat.le_refl _) _
  have hK1 := h.below hB1
  have HK1 := Lib.hid hK1
  have HA1 : Hid (Aside (fun i => i = g ∨ v.ownBlock = some i) w (w.alloc (.cells #[.slice p l.length c] 32))) := aside_new hB1 _
  have c0 : w.cell? ⟨g, 0, none⟩ = some v := h.cell 0
  obtain ⟨q, cap, hv, -, hcap⟩ := h.has.at
  subst hv
  by_cases hx : 2097152 < s.b.length + l.length
  · have HE : Hid (Dv.tail s l = (2, s)) := by show _ = _; unfold Dv.tail; rw [if_pos hx]
    have hx1 : (2097152 : Int) - (s.b.length : Int) < (l.length : Int) := by omega
    clear h hA hp hB hK1 hB1
    go_enter Try.func25, Try.ntmps25
    go_wp2
    go_quiet (fail)
    go_wp2
    go_ret
    unfold KPost
    rw [HE.out]
    exact ⟨rfl, _, _, _, HK1.out.drewN _, HA1.out.drewN _, fun _ h => .inl h⟩
  · have HE : Hid (Dv.tail s l = (0, { s with b := s.b ++ l, safe := (s.b ++ l).length })) := by show _ = _; unfold Dv.tail; rw [if_neg hx]
    have hx1 : ¬ (2097152 : Int) - (s.b.length : Int) < (l.length : Int) := by omega
    have HC := Lib.hid (fun j => tail_change (c := c) (bx := w.heap.size) (hK1.drewN j) (heap_new w _) (by omega) ((hA.on hB1).drewN j) hp (by omega) (by simp; omega))
    clear h hA hp hK1 hB1
    go_enter Try.func25, Try.ntmps25
    go_wp2_with fail
    go_quiet (fail)
    go_wp2_with fail
    refine (HC.out _).mono ?_
    rintro e w3 ⟨rfl, q3, cap3, hK, ha, hk⟩
    have HA := Lib.hid ((HA1.out.drewN _).trans ha (fun _ _ h => h))
    have HKk : Hid (∀ i, (Value.slice q3 (s.b ++ l).length cap3).ownBlock = some i → (Value.slice q s.b.length cap).ownBlock = some i ∨ w.heap.size ≤ i) := fun i hi => by
      rcases hk i hi with h1 | h1
      · exact .inl h1
      · exact .inr (by simp at h1; omega)
    have c3 : w3.cell? ⟨g, 0, none⟩ = some (.slice q3 (s.b ++ l).length cap3) := hK.cell 0
    have c2 : w3.cell? ⟨g, 2, none⟩ = some (.int .i64 ((min s.safe (s.b ++ l).length : Nat) : Int)) := hK.cell 2
    have f2 := hK.thawed 2
    have HK : Hid (KDev (w3.setCell ⟨g, 2, none⟩ (.int .i64 ((s.b ++ l).length : Nat))) B g (.slice q3 (s.b ++ l).length cap3) { s with b := s.b ++ l, safe := (s.b ++ l).length } x k) := hK.put 2 _ rfl rfl hK.due hK.left hK.keep
    generalize s.b ++ l = ys at HK HKk HE c3 c2 ⊢
    generalize min s.safe ys.length = mm at c2
    clear hK ha hk
    go_wp2
    go_ret
    unfold KPost
    rw [HE.out]
    exact ⟨rfl, _, _, _, HK.out, HA.out.setCell (.inl (.inl rfl)) _, HKk.out⟩
end
end Go.Proofs.Ytoibeajcepbpjaa
