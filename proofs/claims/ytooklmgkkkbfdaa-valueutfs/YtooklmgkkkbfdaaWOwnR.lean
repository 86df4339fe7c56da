/- The document's own(v). -/
import Derived.Test.YtooklmgkkkbfdaaWSameR
namespace Go.Proofs.Ytooklmgkkkbfdaa
open Go.RowKit

set_option maxRecDepth 100000 in
set_option maxHeartbeats 1000000 in
theorem refOwn_1 (i : Int) (b : Nat) (t : ByteArray) (p : Option Addr) (n c : Nat) (w : World) :
    Calls Try.prog 35 #[.agg #[.int .i64 1, .int .i64 i, .float .f64 b, .string t, .slice p n c]] w fun e w' => e = .returned (.bool (V.ownB 1 i b t n)) ∧ Below w.heap.size w w' := by
  have HB : Hid (∀ o, Below w.heap.size w (w.alloc o)) := fun o => (Below.refl _ _).alloc (Nat.le_refl _) o
  go_enter Try.func35, Try.ntmps35
  go_wp2_with (go_at_call 39; refine (refBits_any b _).mono ?_; rintro e w1 ⟨rfl, hw1⟩; rw [hw1]; clear hw1 w1)
  all_goals go_ret
  all_goals refine ⟨?_, HB.out _⟩
  all_goals simp_all [V.ownB]
  all_goals omega

set_option maxRecDepth 100000 in
set_option maxHeartbeats 1000000 in
theorem refOwn_2 (i : Int) (b : Nat) (t : ByteArray) (p : Option Addr) (n c : Nat) (w : World) :
    Calls Try.prog 35 #[.agg #[.int .i64 2, .int .i64 i, .float .f64 b, .string t, .slice p n c]] w fun e w' => e = .returned (.bool (V.ownB 2 i b t n)) ∧ Below w.heap.size w w' := by
  have HB : Hid (∀ o, Below w.heap.size w (w.alloc o)) := fun o => (Below.refl _ _).alloc (Nat.le_refl _) o
  go_enter Try.func35, Try.ntmps35
  go_wp2_with (go_at_call 39; refine (refBits_any b _).mono ?_; rintro e w1 ⟨rfl, hw1⟩; rw [hw1]; clear hw1 w1)
  all_goals go_ret
  all_goals refine ⟨?_, HB.out _⟩
  all_goals simp_all [V.ownB]
  all_goals omega

set_option maxRecDepth 100000 in
set_option maxHeartbeats 1000000 in
theorem refOwn_3 (i : Int) (b : Nat) (t : ByteArray) (p : Option Addr) (n c : Nat) (w : World) :
    Calls Try.prog 35 #[.agg #[.int .i64 3, .int .i64 i, .float .f64 b, .string t, .slice p n c]] w fun e w' => e = .returned (.bool (V.ownB 3 i b t n)) ∧ Below w.heap.size w w' := by
  have HB : Hid (∀ o, Below w.heap.size w (w.alloc o)) := fun o => (Below.refl _ _).alloc (Nat.le_refl _) o
  go_enter Try.func35, Try.ntmps35
  go_wp2_with (go_at_call 39; refine (refBits_any b _).mono ?_; rintro e w1 ⟨rfl, hw1⟩; rw [hw1]; clear hw1 w1)
  all_goals go_ret
  all_goals refine ⟨?_, HB.out _⟩
  all_goals simp_all [V.ownB]
  all_goals omega

set_option maxRecDepth 100000 in
set_option maxHeartbeats 1000000 in
theorem refOwn_4 (i : Int) (b : Nat) (t : ByteArray) (p : Option Addr) (n c : Nat) (w : World) :
    Calls Try.prog 35 #[.agg #[.int .i64 4, .int .i64 i, .float .f64 b, .string t, .slice p n c]] w fun e w' => e = .returned (.bool (V.ownB 4 i b t n)) ∧ Below w.heap.size w w' := by
  have HB : Hid (∀ o, Below w.heap.size w (w.alloc o)) := fun o => (Below.refl _ _).alloc (Nat.le_refl _) o
  go_enter Try.func35, Try.ntmps35
  go_wp2_with (go_at_call 39; refine (refBits_any b _).mono ?_; rintro e w1 ⟨rfl, hw1⟩; rw [hw1]; clear hw1 w1)
  all_goals go_ret
  all_goals refine ⟨?_, HB.out _⟩
  all_goals simp_all [V.ownB]
  all_goals omega

set_option maxRecDepth 100000 in
set_option maxHeartbeats 1000000 in
theorem refOwn_5 (i : Int) (b : Nat) (t : ByteArray) (p : Option Addr) (n c : Nat) (w : World) :
    Calls Try.prog 35 #[.agg #[.int .i64 5, .int .i64 i, .float .f64 b, .string t, .slice p n c]] w fun e w' => e = .returned (.bool (V.ownB 5 i b t n)) ∧ Below w.heap.size w w' := by
  have HB : Hid (∀ o, Below w.heap.size w (w.alloc o)) := fun o => (Below.refl _ _).alloc (Nat.le_refl _) o
  go_enter Try.func35, Try.ntmps35
  go_wp2_with (go_at_call 39; refine (refBits_any b _).mono ?_; rintro e w1 ⟨rfl, hw1⟩; rw [hw1]; clear hw1 w1)
  all_goals go_ret
  all_goals refine ⟨?_, HB.out _⟩
  all_goals simp_all [V.ownB]
  all_goals omega

set_option maxRecDepth 100000 in
set_option maxHeartbeats 1000000 in
theorem refOwn_6 (i : Int) (b : Nat) (t : ByteArray) (p : Option Addr) (n c : Nat) (w : World) :
    Calls Try.prog 35 #[.agg #[.int .i64 6, .int .i64 i, .float .f64 b, .string t, .slice p n c]] w fun e w' => e = .returned (.bool (V.ownB 6 i b t n)) ∧ Below w.heap.size w w' := by
  have HB : Hid (∀ o, Below w.heap.size w (w.alloc o)) := fun o => (Below.refl _ _).alloc (Nat.le_refl _) o
  go_enter Try.func35, Try.ntmps35
  go_wp2_with (go_at_call 39; refine (refBits_any b _).mono ?_; rintro e w1 ⟨rfl, hw1⟩; rw [hw1]; clear hw1 w1)
  all_goals go_ret
  all_goals refine ⟨?_, HB.out _⟩
  all_goals simp_all [V.ownB]
  all_goals omega

set_option maxRecDepth 100000 in
set_option maxHeartbeats 1000000 in
theorem refOwn_7 (i : Int) (b : Nat) (t : ByteArray) (p : Option Addr) (n c : Nat) (w : World) :
    Calls Try.prog 35 #[.agg #[.int .i64 7, .int .i64 i, .float .f64 b, .string t, .slice p n c]] w fun e w' => e = .returned (.bool (V.ownB 7 i b t n)) ∧ Below w.heap.size w w' := by
  have HB : Hid (∀ o, Below w.heap.size w (w.alloc o)) := fun o => (Below.refl _ _).alloc (Nat.le_refl _) o
  go_enter Try.func35, Try.ntmps35
  go_wp2_with (go_at_call 39; refine (refBits_any b _).mono ?_; rintro e w1 ⟨rfl, hw1⟩; rw [hw1]; clear hw1 w1)
  all_goals go_ret
  all_goals refine ⟨?_, HB.out _⟩
  all_goals simp_all [V.ownB]
  all_goals omega

set_option maxRecDepth 100000 in
set_option maxHeartbeats 1000000 in
theorem refOwn_out (k : Int) (hk : k < 1 ∨ 7 < k) (i : Int) (b : Nat) (t : ByteArray) (p : Option Addr) (n c : Nat) (w : World) :
    Calls Try.prog 35 #[.agg #[.int .i64 k, .int .i64 i, .float .f64 b, .string t, .slice p n c]] w fun e w' => e = .returned (.bool (V.ownB k i b t n)) ∧ Below w.heap.size w w' := by
  have HB : Hid (∀ o, Below w.heap.size w (w.alloc o)) := fun o => (Below.refl _ _).alloc (Nat.le_refl _) o
  have h1 : ¬ k = 1 := by omega
  have h2 : ¬ k = 2 := by omega
  have h4 : ¬ k = 4 := by omega
  have h5 : ¬ k = 5 := by omega
  have h6 : ¬ k = 6 := by omega
  have h7 : ¬ k = 7 := by omega
  go_enter Try.func35, Try.ntmps35
  go_wp2_with (go_at_call 39; refine (refBits_any b _).mono ?_; rintro e w1 ⟨rfl, hw1⟩; rw [hw1]; clear hw1 w1)
  all_goals go_ret
  all_goals refine ⟨?_, HB.out _⟩
  all_goals simp_all [V.ownB]
  all_goals omega

theorem refOwn6 (k i : Int) (b : Nat) (t : ByteArray) (p : Option Addr) (n c : Nat) (w : World) :
    Calls Try.prog 35 #[.agg #[.int .i64 k, .int .i64 i, .float .f64 b, .string t, .slice p n c]] w fun e w' => e = .returned (.bool (V.ownB k i b t n)) ∧ Below w.heap.size w w' := by
  by_cases hk : k < 1 ∨ 7 < k
  · exact refOwn_out k hk i b t p n c w
  · rcases (show k = 1 ∨ k = 2 ∨ k = 3 ∨ k = 4 ∨ k = 5 ∨ k = 6 ∨ k = 7 by omega) with rfl | rfl | rfl | rfl | rfl | rfl | rfl
    · exact refOwn_1 i b t p n c w
    · exact refOwn_2 i b t p n c w
    · exact refOwn_3 i b t p n c w
    · exact refOwn_4 i b t p n c w
    · exact refOwn_5 i b t p n c w
    · exact refOwn_6 i b t p n c w
    · exact refOwn_7 i b t p n c w
end Go.Proofs.Ytooklmgkkkbfdaa
