/- The landed splitter: how it lies; slices.Clone; follow. -/
import Derived.Test.YtpgilfglfcnihaaSp
import Derived.Test.YtpgilfglfcnihaaOntoA
import Derived.Deep.RegionHeld3
import Derived.Deep.RegionLaw
namespace Go.Proofs.Ytpgilfglfcnihaa
open Go.RowKit

def sCells (n : Nat) (k : Int) (v f : Value) : Array Value := #[.int .i64 n, .int .i64 k, v, f]
def opI : Option Nat → Int
  | some k => k
  | none => -1
def nextF (g : Nat) : Option Nat → Value
  | some _ => .func (.func 23) #[.pointer (some ⟨g, 0, none⟩)] #[]
  | none => .func (.func 24) #[.pointer (some ⟨g, 0, none⟩)] #[]

theorem runK_store_func (P : Program) (w : World) (a : Addr) (m : Mode) (fn : Fn) (first captured : Array Value) : (store a (.func fn first captured) m).run P w = stored P w a (.func fn first captured) m := run_store P w a _ m rfl
attribute [local go_sem] runK_store_func

theorem s_cell {w : World} {g n : Nat} {k : Int} {v f : Value} (h : w.heap[g]? = some (.cells (sCells n k v f) 42)) (i : Nat) : w.cell? ⟨g, i, none⟩ = (sCells n k v f)[i]? := by
  unfold World.cell?
  rw [h]
  rfl
theorem s_free {w : World} {g n : Nat} {k : Int} {v f : Value} (h : w.heap[g]? = some (.cells (sCells n k v f) 42)) (i : Nat) : w.frozen? ⟨g, i, none⟩ = false := by
  simp [World.frozen?, h]
theorem s_set {w : World} {g n n' : Nat} {k k' : Int} {v f v' f' : Value} (h : w.heap[g]? = some (.cells (sCells n k v f) 42)) (i : Nat) (u : Value) (he : sCells n' k' v' f' = (sCells n k v f).setIfInBounds i u) : (w.setCell ⟨g, i, none⟩ u).heap[g]? = some (.cells (sCells n' k' v' f') 42) := by
  simp only [World.setCell, Array.getElem?_modify, h, if_true, Option.map_some]
  rw [if_neg (by simp), he]

set_option maxHeartbeats 4000000 in
theorem followK (g n m : Nat) (k : Int) (q : Option Addr) (cap : Nat) (f : Value) (w : World) (op : Option Nat) (h : w.heap[g]? = some (.cells (sCells n k (.slice q m cap) f) 42)) : Calls Try.prog 21 #[.pointer (some ⟨g, 0, none⟩), .int .i64 (opI op)] w fun e w' => e = .returned (.tuple #[]) ∧ w'.heap[g]? = some (.cells (sCells n (opI op) (.slice q 0 cap) (nextF g op)) 42) ∧ Aside (· = g) w w' := by
  have c2 : w.cell? ⟨g, 2, none⟩ = some (.slice q m cap) := s_cell h 2
  have f1 := s_free h 1
  have f2 := s_free h 2
  have f3 := s_free h 3
  have c1 : w.cell? ⟨g, 1, none⟩ = some (.int .i64 k) := s_cell h 1
  have c3 : w.cell? ⟨g, 3, none⟩ = some f := s_cell h 3
  have h1 : (w.setCell ⟨g, 1, none⟩ (.int .i64 (opI op))).heap[g]? = some (.cells (sCells n (opI op) (.slice q m cap) f) 42) := s_set h 1 _ rfl
  have h2 : ((w.setCell ⟨g, 1, none⟩ (.int .i64 (opI op))).setCell ⟨g, 2, none⟩ (.slice q 0 cap)).heap[g]? = some (.cells (sCells n (opI op) (.slice q 0 cap) f) 42) := s_set h1 2 _ rfl
  have h3 : (((w.setCell ⟨g, 1, none⟩ (.int .i64 (opI op))).setCell ⟨g, 2, none⟩ (.slice q 0 cap)).setCell ⟨g, 3, none⟩ (nextF g (some 0))).drew.heap[g]? = some (.cells (sCells n (opI op) (.slice q 0 cap) (nextF g (some 0))) 42) := s_set h2 3 _ rfl
  have ha : Aside (· = g) w (((w.setCell ⟨g, 1, none⟩ (.int .i64 (opI op))).setCell ⟨g, 2, none⟩ (.slice q 0 cap)).setCell ⟨g, 3, none⟩ (nextF g (some 0))).drew := ((((Aside.refl (· = g) w).setCell (p := ⟨g, 1, none⟩) (.inl rfl) _).setCell (p := ⟨g, 2, none⟩) (.inl rfl) _).setCell (p := ⟨g, 3, none⟩) (.inl rfl) _).drew
  have HL := Lib.hid h3
  have HA := Lib.hid ha
  clear h h1 h2 h3 ha
  cases op with
  | some k' =>
    have e0 : (((k' : Nat) : Int) == -1) = false := by rw [beq_eq_false_iff_ne]; omega
    simp only [opI, nextF] at HL HA ⊢
    cases q with
    | none =>
      go_enter Try.func21, Try.ntmps21
      go_wp2_with fail
      go_region_law (fail)
      all_goals
        go_wp2
        go_end0
        exact ⟨rfl, HL.out, HA.out⟩
    | some a =>
      go_enter Try.func21, Try.ntmps21
      go_wp2_with fail
      go_region_law (fail)
      all_goals
        go_wp2
        go_end0
        exact ⟨rfl, HL.out, HA.out⟩
  | none =>
    simp only [opI, nextF] at HL HA ⊢
    have HL2 := Lib.hid (s_set (n' := n) (k' := -1) (v' := .slice q 0 cap) (f' := nextF g none) HL.out 3 (nextF g none) rfl)
    have HA2 := Lib.hid (HA.out.setCell (p := ⟨g, 3, none⟩) (.inl rfl) (nextF g none))
    have f33 := s_free HL.out 3
    have c33 := s_cell HL.out 3
    simp only [nextF] at HL2 HA2
    cases q with
    | none =>
      go_enter Try.func21, Try.ntmps21
      go_wp2_with fail
      go_region_law (fail)
      all_goals
        go_wp2
        go_end0
        exact ⟨rfl, HL2.out, HA2.out⟩
    | some a =>
      go_enter Try.func21, Try.ntmps21
      go_wp2_with fail
      go_region_law (fail)
      all_goals
        go_wp2
        go_end0
        exact ⟨rfl, HL2.out, HA2.out⟩

end Go.Proofs.Ytpgilfglfcnihaa
