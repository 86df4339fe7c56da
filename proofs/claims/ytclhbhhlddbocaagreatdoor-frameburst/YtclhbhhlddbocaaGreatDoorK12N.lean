/- The landed frame: the reader's fields, behind an interface; the frame of them (frameOf). -/
import Derived.Test.YtclhbhhlddbocaaGreatDoorK12K
import Derived.Handy
namespace Go.Proofs.YtclhbhhlddbocaaGreatDoor
open Go.RowKit

/-- a kind's fields behind the interface -/
def isIF (B : Nat) (f : Fr) (v : Value) (w : World) : Prop := (f.kind = 1 ∧ ∃ x, v = .iface 142 x ∧ isSF B f x w) ∨ (f.kind = 2 ∧ ∃ x, v = .iface 144 x ∧ isDF B f x w) ∨ (f.kind = 3 ∧ ∃ x, v = .iface 146 x ∧ isXF B f x w)
theorem FldA.good {w w' : World} {R : Nat} {f : Fr} {V : Fr → Value → World → Prop} {e : Ending} (h : FldA w R (.ok f) V e w') : ∃ v, e = .returned v ∧ V f v w' ∧ Aside (fun i => i = R) w w' := h
theorem FldA.bad {w w' : World} {R k : Nat} {V : Fr → Value → World → Prop} {e : Ending} (h : FldA w R (.error k) V e w') : e = .panicked (errV k) ∧ Aside (fun i => i = R) w w' := h

set_option maxRecDepth 100000 in
set_option maxHeartbeats 1000000 in
theorem fieldsF_1 (l : List UInt8) (A R : Nat) (w : World) (h : RdrF w A R l) : Calls Tryz.prog 57 #[.pointer (some ⟨R, 0, none⟩), .int .i64 1] w (FldA w R (Fr.rdS l) (isIF w.heap.size)) := by
  have HC := Lib.hid (schemaFieldsF l A R w h)
  obtain ⟨r, hr⟩ : ∃ r, r = Fr.rdS l := ⟨_, rfl⟩
  rw [← hr] at HC ⊢
  clear h
  cases r with
  | error er =>
    clear hr
    go_enter Tryz.func57, Tryz.ntmps57
    go_wp2_with fail
    refine HC.out.mono ?_
    intro e w1 hh
    obtain ⟨he, ha⟩ := hh.bad
    subst he
    have HA := Lib.hid ha
    clear hh ha HC
    go_wp2
    exact ⟨rfl, rfl, HA.out⟩
  | ok f =>
    have HKd : Hid (f.kind = 1) := by
      have := (Fr.rdF_ok (k := 1) (l := l) (f := f) (by rw [hr]; rfl)).1
      exact this
    clear hr
    go_enter Tryz.func57, Tryz.ntmps57
    go_wp2_with fail
    refine HC.out.mono ?_
    intro e w1 hh
    obtain ⟨v, he, hv, ha⟩ := hh.good
    subst he
    have HA := Lib.hid ha
    have HV := Lib.hid hv
    obtain ⟨p, c, rfl, -⟩ := hv
    clear hh ha HC
    go_wp2
    go_ret
    exact ⟨_, rfl, .inl ⟨HKd.out, _, rfl, HV.out⟩, HA.out⟩
set_option maxRecDepth 100000 in
set_option maxHeartbeats 1000000 in
theorem fieldsF_2 (l : List UInt8) (A R : Nat) (w : World) (h : RdrF w A R l) : Calls Tryz.prog 57 #[.pointer (some ⟨R, 0, none⟩), .int .i64 2] w (FldA w R (Fr.rdD l) (isIF w.heap.size)) := by
  have HC := Lib.hid (dataFieldsF l A R w h)
  obtain ⟨r, hr⟩ : ∃ r, r = Fr.rdD l := ⟨_, rfl⟩
  rw [← hr] at HC ⊢
  clear h
  cases r with
  | error er =>
    clear hr
    go_enter Tryz.func57, Tryz.ntmps57
    go_wp2_with fail
    refine HC.out.mono ?_
    intro e w1 hh
    obtain ⟨he, ha⟩ := hh.bad
    subst he
    have HA := Lib.hid ha
    clear hh ha HC
    go_wp2
    exact ⟨rfl, rfl, HA.out⟩
  | ok f =>
    have HKd : Hid (f.kind = 2) := by
      have := (Fr.rdF_ok (k := 2) (l := l) (f := f) (by rw [hr]; rfl)).1
      exact this
    clear hr
    go_enter Tryz.func57, Tryz.ntmps57
    go_wp2_with fail
    refine HC.out.mono ?_
    intro e w1 hh
    obtain ⟨v, he, hv, ha⟩ := hh.good
    subst he
    have HA := Lib.hid ha
    have HV := Lib.hid hv
    obtain ⟨p, c, rfl, -⟩ := hv
    clear hh ha HC
    go_wp2
    go_ret
    exact ⟨_, rfl, .inr (.inl ⟨HKd.out, _, rfl, HV.out⟩), HA.out⟩
set_option maxRecDepth 100000 in
set_option maxHeartbeats 1000000 in
theorem fieldsF_3 (l : List UInt8) (A R : Nat) (w : World) (h : RdrF w A R l) : Calls Tryz.prog 57 #[.pointer (some ⟨R, 0, none⟩), .int .i64 3] w (FldA w R (Fr.rdI l) (isIF w.heap.size)) := by
  have HC := Lib.hid (indexFieldsF l A R w h)
  obtain ⟨r, hr⟩ : ∃ r, r = Fr.rdI l := ⟨_, rfl⟩
  rw [← hr] at HC ⊢
  clear h
  cases r with
  | error er =>
    clear hr
    go_enter Tryz.func57, Tryz.ntmps57
    go_wp2_with fail
    refine HC.out.mono ?_
    intro e w1 hh
    obtain ⟨he, ha⟩ := hh.bad
    subst he
    have HA := Lib.hid ha
    clear hh ha HC
    go_wp2
    exact ⟨rfl, rfl, HA.out⟩
  | ok f =>
    have HKd : Hid (f.kind = 3) := by
      have := (Fr.rdF_ok (k := 3) (l := l) (f := f) (by rw [hr]; rfl)).1
      exact this
    clear hr
    go_enter Tryz.func57, Tryz.ntmps57
    go_wp2_with fail
    refine HC.out.mono ?_
    intro e w1 hh
    obtain ⟨v, he, hv, ha⟩ := hh.good
    subst he
    have HA := Lib.hid ha
    have HV := Lib.hid hv
    obtain ⟨p, c, rfl, -⟩ := hv
    clear hh ha HC
    go_wp2
    go_ret
    exact ⟨_, rfl, .inr (.inr ⟨HKd.out, _, rfl, HV.out⟩), HA.out⟩
set_option maxRecDepth 100000 in
set_option maxHeartbeats 1000000 in
theorem fieldsF_0 (k : Int) (h1 : k ≠ 1) (h2 : k ≠ 2) (h3 : k ≠ 3) (R : Nat) (w : World) : Calls Tryz.prog 57 #[.pointer (some ⟨R, 0, none⟩), .int .i64 k] w (FldA w R (.error 60) (isIF w.heap.size)) := by
  have g1 : (k == 1) = false := beq_f h1
  have g2 : (k == 2) = false := beq_f h2
  have g3 : (k == 3) = false := beq_f h3
  clear h1 h2 h3
  go_enter Tryz.func57, Tryz.ntmps57
  go_wp2
  exact ⟨rfl, rfl, Aside.refl _ _⟩
theorem fieldsF (k : Nat) (l : List UInt8) (A R : Nat) (w : World) (h : RdrF w A R l) : Calls Tryz.prog 57 #[.pointer (some ⟨R, 0, none⟩), .int .i64 k] w (FldA w R (Fr.rdF k l) (isIF w.heap.size)) := by
  unfold Fr.rdF
  by_cases h1 : k = 1
  · subst h1
    rw [if_pos rfl]
    exact fieldsF_1 l A R w h
  rw [if_neg h1]
  by_cases h2 : k = 2
  · subst h2
    rw [if_pos rfl]
    exact fieldsF_2 l A R w h
  rw [if_neg h2]
  by_cases h3 : k = 3
  · subst h3
    rw [if_pos rfl]
    exact fieldsF_3 l A R w h
  rw [if_neg h3]
  exact fieldsF_0 k (by omega) (by omega) (by omega) R w

end Go.Proofs.YtclhbhhlddbocaaGreatDoor
