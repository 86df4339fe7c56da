/- The landed frame's reader: what is left, its small calls, its numbers. -/
import Derived.Test.YtclhbhhlddbocaaGreatDoorB16
import Derived.Test.YtclhbhhlddbocaaGreatDoorFr2
namespace Go.Proofs.YtclhbhhlddbocaaGreatDoor
open Go.RowKit

/-- the reader in block R has l left; its bytes lie below A -/
structure RdrF (w : World) (A R : Nat) (l : List UInt8) : Prop where
  out : ∃ p c, w.heap[R]? = some (.cells #[.slice p l.length c] 92 (0, 0)) ∧ At w p l ∧ l.length ≤ c ∧ (l ≠ [] → ∀ a, p = some a → a.block < A)
  small : l.length ≤ 2200
  low : A ≤ R
theorem RdrF.lt {w : World} {A R : Nat} {l : List UInt8} (h : RdrF w A R l) : R < w.heap.size := by
  obtain ⟨p, c, h1, _⟩ := h.out
  exact blk_lt h1
theorem RdrF.keep {w w' : World} {A R : Nat} {l : List UInt8} (h : RdrF w A R l) (hk : ∀ k, k ≤ R → w'.heap[k]? = w.heap[k]?) (hs : w.heap.size ≤ w'.heap.size) : RdrF w' A R l := by
  obtain ⟨p, c, h1, h2, h3, h4⟩ := h.out
  have hl := h.low
  exact ⟨⟨p, c, (hk R (Nat.le_refl _)).trans h1, h2.keep h4 (fun k hk' => hk k (by omega)) hs, h3, h4⟩, h.small, h.low⟩
theorem RdrF.on {w w' : World} {A R : Nat} {l : List UInt8} (h : RdrF w A R l) (hb : Below w.heap.size w w') : RdrF w' A R l := h.keep (fun k hk => hb.block k (by have := h.lt; omega)) hb.size
theorem RdrF.aside {w w' : World} {A R : Nat} {l : List UInt8} {F : Nat → Prop} (h : RdrF w A R l) (ha : Aside F w w') (hF : ∀ k, F k → R < k) : RdrF w' A R l :=
  h.keep (fun k hk => ha.block k (by have := h.lt; omega) (fun hc => by have := hF k hc; omega)) ha.size
theorem RdrF.drew {w : World} {A R : Nat} {l : List UInt8} (h : RdrF w A R l) : RdrF w.drew A R l := h.keep (fun _ _ => rfl) (Nat.le_refl _)
/-- so many bytes are taken off -/
theorem RdrF.cut {w : World} {A R : Nat} {l : List UInt8} {p : Option Addr} {c : Nat} (h : RdrF w A R l) (h1 : w.heap[R]? = some (.cells #[.slice p l.length c] 92 (0, 0))) (h2 : At w p l) (h3 : l.length ≤ c) (h4 : l ≠ [] → ∀ a, p = some a → a.block < A) (n : Nat) (hn : n ≤ l.length) :
    RdrF (w.setCell ⟨R, 0, none⟩ (.slice (cutP p n c) (l.length - n) (c - n))) A R (l.drop n) := by
  have hl := h.low
  have h5 : l.drop n ≠ [] → ∀ a, cutP p n c = some a → a.block < A := fun hne => cutP_block (h4 (fun he => hne (by rw [he]; simp)))
  refine ⟨⟨cutP p n c, c - n, ?_, ?_, by rw [List.length_drop]; omega, h5⟩, by rw [List.length_drop]; have := h.small; omega, hl⟩
  · rw [blk_set h1 0, List.length_drop]; rfl
  · refine (h2.cut n c h3).keep h5 (fun k hk => ?_) (by simp [World.setCell])
    exact Below.heap_setCell _ _ _ _ (by show k ≠ R; omega)

/-- what a call of the reader answers -/
def RdB {α : Type} (w : World) (A R : Nat) (l : List UInt8) (r : Except Nat (α × Nat)) (V : α → Value → World → Prop) (e : Ending) (w' : World) : Prop := match r with
  | .error k => e = .panicked (errV k) ∧ Aside (fun i => i = R) w w'
  | .ok (a, j) => ∃ v, e = .returned v ∧ V a v w' ∧ RdrF w' A R (l.drop j) ∧ Aside (fun i => i = R) w w'
theorem RdB.good {α : Type} {w w' : World} {A R : Nat} {l : List UInt8} {a : α} {j : Nat} {V : α → Value → World → Prop} {e : Ending} (h : RdB w A R l (.ok (a, j)) V e w') : ∃ v, e = .returned v ∧ V a v w' ∧ RdrF w' A R (l.drop j) ∧ Aside (fun i => i = R) w w' := h
theorem RdB.bad {α : Type} {w w' : World} {A R : Nat} {l : List UInt8} {k : Nat} {V : α → Value → World → Prop} {e : Ending} (h : RdB w A R l (.error k) V e w') : e = .panicked (errV k) ∧ Aside (fun i => i = R) w w' := h

set_option maxHeartbeats 400000 in
theorem needF_t (a : Value) (k : Int) (w : World) : Calls Tryz.prog 138 #[a, .bool true, .int .i64 k] w fun e w' => e = .returned (.tuple #[]) ∧ w' = w := by
  go_enter Tryz.func138, Tryz.ntmps138
  go_wp2
  go_end0
  exact ⟨rfl, rfl⟩
set_option maxHeartbeats 400000 in
theorem needF_f (a : Value) (k : Nat) (w : World) : Calls Tryz.prog 138 #[a, .bool false, .int .i64 k] w fun e w' => e = .panicked (errV k) ∧ w' = w := by
  go_enter Tryz.func138, Tryz.ntmps138
  go_wp2
  exact ⟨rfl, rfl, rfl⟩

set_option maxRecDepth 100000 in
set_option maxHeartbeats 1000000 in
theorem numberF (lim : Nat) (hlim : lim ≤ 1099511627776) (l : List UInt8) (A R : Nat) (w : World) (h : RdrF w A R l) : Calls Tryz.prog 136 #[.pointer (some ⟨R, 0, none⟩), .int .u64 lim] w (RdB w A R l (Fr.nb lim l) isI) := by
  obtain ⟨p, c, h1, h2, h3, h4⟩ := h.out
  have hsm := h.small
  have c0 : w.cell? ⟨R, 0, none⟩ = some (.slice p l.length c) := blk_cell h1 0
  have f0 := blk_free h1 0
  have HG := Lib.hid (get_any p c l 0 (by omega) h3 w h2)
  obtain ⟨r, hr⟩ : ∃ r, r = Fr.nb lim l := ⟨_, rfl⟩
  have HR := Lib.hid hr
  rw [← hr]
  clear hr
  cases hm : Sch.num l with
  | error er =>
    have HR2 : Hid (r = .error 5) := by show _ = _; rw [HR.out, Fr.nb, hm]
    obtain ⟨he0, m, hgv⟩ := gotV0_err hm
    rw [hgv] at HG
    have g0 : ((er : Int) == 0) = false := beq_f (by omega)
    clear hm HR hgv h1 h2 h3 h4 h he0
    go_enter Tryz.func136, Tryz.ntmps136
    go_wp2_with fail
    refine HG.out.mono ?_
    rintro e w1 ⟨rfl, hw1⟩
    rw [hw1]
    clear hw1 w1 HG
    go_wp2_with fail
    refine (needF_f _ 5 _).mono ?_
    rintro e w1 ⟨rfl, hw1⟩
    rw [hw1]
    clear hw1 w1
    go_wp2
    rw [HR2.out]
    exact ⟨rfl, rfl, Aside.refl _ _⟩
  | ok nk =>
    obtain ⟨n, k⟩ := nk
    rw [gotV0_ok hm] at HG
    obtain ⟨hk, hn64⟩ := num_le hm
    have s2 := run_cut_l p l.length c k hk w
    have HCut := Lib.hid (h.cut h1 h2 h3 h4 k hk)
    by_cases hlt : n < lim
    · have HR2 : Hid (r = .ok (n, k)) := by show _ = _; rw [HR.out, Fr.nb, hm]; exact if_pos hlt
      have g1 : (n : Int) < (lim : Int) := by omega
      have g2 : (n : Int) ≤ 1099511627776 := by omega
      clear hm HR h1 h2 h3 h4 h hk
      go_enter Tryz.func136, Tryz.ntmps136
      go_wp2_with fail
      refine HG.out.mono ?_
      rintro e w1 ⟨rfl, hw1⟩
      rw [hw1]
      clear hw1 w1 HG
      go_wp2_with fail
      refine (needF_t _ 5 _).mono ?_
      rintro e w1 ⟨rfl, hw1⟩
      rw [hw1]
      clear hw1 w1
      go_wp2
      go_ret
      rw [HR2.out]
      exact ⟨_, rfl, rfl, HCut.out, aside_set _ _ _ _⟩
    · have HR2 : Hid (r = .error 5) := by show _ = _; rw [HR.out, Fr.nb, hm]; exact if_neg hlt
      have g1 : ¬ (n : Int) < (lim : Int) := by omega
      clear hm HR h1 h2 h3 h4 h hk s2 HCut
      go_enter Tryz.func136, Tryz.ntmps136
      go_wp2_with fail
      refine HG.out.mono ?_
      rintro e w1 ⟨rfl, hw1⟩
      rw [hw1]
      clear hw1 w1 HG
      go_wp2_with fail
      refine (needF_f _ 5 _).mono ?_
      rintro e w1 ⟨rfl, hw1⟩
      rw [hw1]
      clear hw1 w1
      go_wp2
      rw [HR2.out]
      exact ⟨rfl, rfl, Aside.refl _ _⟩

set_option maxRecDepth 100000 in
set_option maxHeartbeats 1000000 in
theorem largeF (l : List UInt8) (A R : Nat) (w : World) (h : RdrF w A R l) : Calls Tryz.prog 139 #[.pointer (some ⟨R, 0, none⟩)] w (RdB w A R l (Fr.nb 1099511627776 l) isI) := by
  have HN := Lib.hid (numberF 1099511627776 (by omega) l A R w h)
  clear h
  obtain ⟨r, hr⟩ : ∃ r, r = Fr.nb 1099511627776 l := ⟨_, rfl⟩
  rw [← hr] at HN ⊢
  clear hr
  cases r with
  | error er =>
    go_enter Tryz.func139, Tryz.ntmps139
    go_wp2_with fail
    refine HN.out.mono ?_
    intro e w1 hh
    obtain ⟨he, ha⟩ := hh.bad
    subst he
    have HA := Lib.hid ha
    clear hh ha HN
    go_wp2
    exact ⟨rfl, rfl, HA.out⟩
  | ok nk =>
    obtain ⟨n, k⟩ := nk
    go_enter Tryz.func139, Tryz.ntmps139
    go_wp2_with fail
    refine HN.out.mono ?_
    intro e w1 hh
    obtain ⟨v, he, hv, hrd, ha⟩ := hh.good
    replace hv : v = .int .i64 (n : Nat) := hv
    subst hv
    subst he
    have HA := Lib.hid ha
    have HRd := Lib.hid hrd
    clear hh ha hrd HN
    go_wp2
    go_ret
    exact ⟨_, rfl, rfl, HRd.out, HA.out⟩
end Go.Proofs.YtclhbhhlddbocaaGreatDoor
