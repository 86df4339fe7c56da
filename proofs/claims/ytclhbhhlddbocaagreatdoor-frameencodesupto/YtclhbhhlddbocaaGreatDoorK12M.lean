/- The landed frame: the frame of a kind's fields (frameOf). -/
import Derived.Test.YtclhbhhlddbocaaGreatDoorK12I
import Derived.Handy
namespace Go.Proofs.YtclhbhhlddbocaaGreatDoor
open Go.RowKit

theorem ta_11 (x : Value) (w : World) : (Instr.typeAssert (.iface 142 x) 81 142 true).run Tryz.prog w = .ok (.tuple #[x, .bool true]) w := by kernel_rfl
theorem ta_12 (x : Value) (w : World) : (Instr.typeAssert (.iface 142 x) 81 144 true).run Tryz.prog w = .ok (.tuple #[.agg #[.int .i64 0, .int .i64 0, .int .i64 0, .int .i64 0, .slice none 0 0], .bool false]) w := by kernel_rfl
theorem ta_13 (x : Value) (w : World) : (Instr.typeAssert (.iface 142 x) 81 146 true).run Tryz.prog w = .ok (.tuple #[.agg #[.int .i64 0, .int .i64 0, .int .i64 0, .slice none 0 0], .bool false]) w := by kernel_rfl
theorem ta_21 (x : Value) (w : World) : (Instr.typeAssert (.iface 144 x) 81 142 true).run Tryz.prog w = .ok (.tuple #[.agg #[.int .i64 0, .slice none 0 0], .bool false]) w := by kernel_rfl
theorem ta_22 (x : Value) (w : World) : (Instr.typeAssert (.iface 144 x) 81 144 true).run Tryz.prog w = .ok (.tuple #[x, .bool true]) w := by kernel_rfl
theorem ta_23 (x : Value) (w : World) : (Instr.typeAssert (.iface 144 x) 81 146 true).run Tryz.prog w = .ok (.tuple #[.agg #[.int .i64 0, .int .i64 0, .int .i64 0, .slice none 0 0], .bool false]) w := by kernel_rfl
theorem ta_31 (x : Value) (w : World) : (Instr.typeAssert (.iface 146 x) 81 142 true).run Tryz.prog w = .ok (.tuple #[.agg #[.int .i64 0, .slice none 0 0], .bool false]) w := by kernel_rfl
theorem ta_32 (x : Value) (w : World) : (Instr.typeAssert (.iface 146 x) 81 144 true).run Tryz.prog w = .ok (.tuple #[.agg #[.int .i64 0, .int .i64 0, .int .i64 0, .int .i64 0, .slice none 0 0], .bool false]) w := by kernel_rfl
theorem ta_33 (x : Value) (w : World) : (Instr.typeAssert (.iface 146 x) 81 146 true).run Tryz.prog w = .ok (.tuple #[x, .bool true]) w := by kernel_rfl

set_option maxRecDepth 100000 in
set_option maxHeartbeats 4000000 in
theorem frameOf_1 (n : Int) (sp : Option Addr) (sn sc : Nat) (w : World) : Calls Tryz.prog 56 #[.iface 142 (.agg #[.int .i64 n, .slice sp sn sc])] w fun e w' => e = .returned (.agg #[.int .i64 1, .int .i64 n, .slice sp sn sc, .int .i64 0, .int .i64 0, .int .i64 0, .slice none 0 0, .int .i64 0, .int .i64 0, .int .i64 0, .slice none 0 0]) ∧ Below w.heap.size w w' := by
  have t1 := ta_11 (.agg #[.int .i64 n, .slice sp sn sc])
  have t2 := ta_12 (.agg #[.int .i64 n, .slice sp sn sc])
  have t3 := ta_13 (.agg #[.int .i64 n, .slice sp sn sc])
  have HB : Hid (∀ o o2, Below w.heap.size w ((w.alloc o).alloc o2)) := fun o o2 => ((Below.refl _ _).alloc (Nat.le_refl _) _).alloc (by simp) _
  go_enter Tryz.func56, Tryz.ntmps56
  go_wp2
  refine bodyPost_ret (v := .agg #[.int .i64 1, .int .i64 n, .slice sp sn sc, .int .i64 0, .int .i64 0, .int .i64 0, .slice none 0 0, .int .i64 0, .int .i64 0, .int .i64 0, .slice none 0 0]) (results_cell_row rfl _ _ w.heap.size _ _ _ _ rfl (blk_first w _ _) Tryz.underlying30 rfl (by kernel_rfl)) rfl ?_
  exact ⟨rfl, HB.out _ _⟩
set_option maxRecDepth 100000 in
set_option maxHeartbeats 4000000 in
theorem frameOf_2 (n q fi r : Int) (bp : Option Addr) (bn bc : Nat) (w : World) : Calls Tryz.prog 56 #[.iface 144 (.agg #[.int .i64 n, .int .i64 q, .int .i64 fi, .int .i64 r, .slice bp bn bc])] w fun e w' => e = .returned (.agg #[.int .i64 2, .int .i64 n, .slice none 0 0, .int .i64 q, .int .i64 fi, .int .i64 r, .slice bp bn bc, .int .i64 0, .int .i64 0, .int .i64 0, .slice none 0 0]) ∧ Below w.heap.size w w' := by
  have t1 := ta_21 (.agg #[.int .i64 n, .int .i64 q, .int .i64 fi, .int .i64 r, .slice bp bn bc])
  have t2 := ta_22 (.agg #[.int .i64 n, .int .i64 q, .int .i64 fi, .int .i64 r, .slice bp bn bc])
  have t3 := ta_23 (.agg #[.int .i64 n, .int .i64 q, .int .i64 fi, .int .i64 r, .slice bp bn bc])
  have HB : Hid (∀ o o2, Below w.heap.size w ((w.alloc o).alloc o2)) := fun o o2 => ((Below.refl _ _).alloc (Nat.le_refl _) _).alloc (by simp) _
  go_enter Tryz.func56, Tryz.ntmps56
  go_wp2
  refine bodyPost_ret (v := .agg #[.int .i64 2, .int .i64 n, .slice none 0 0, .int .i64 q, .int .i64 fi, .int .i64 r, .slice bp bn bc, .int .i64 0, .int .i64 0, .int .i64 0, .slice none 0 0]) (results_cell_row rfl _ _ w.heap.size _ _ _ _ rfl (blk_first w _ _) Tryz.underlying30 rfl (by kernel_rfl)) rfl ?_
  exact ⟨rfl, HB.out _ _⟩
set_option maxRecDepth 100000 in
set_option maxHeartbeats 4000000 in
theorem frameOf_3 (ia ib ic : Int) (ep : Option Addr) (en ec : Nat) (w : World) : Calls Tryz.prog 56 #[.iface 146 (.agg #[.int .i64 ia, .int .i64 ib, .int .i64 ic, .slice ep en ec])] w fun e w' => e = .returned (.agg #[.int .i64 3, .int .i64 0, .slice none 0 0, .int .i64 0, .int .i64 0, .int .i64 0, .slice none 0 0, .int .i64 ia, .int .i64 ib, .int .i64 ic, .slice ep en ec]) ∧ Below w.heap.size w w' := by
  have t1 := ta_31 (.agg #[.int .i64 ia, .int .i64 ib, .int .i64 ic, .slice ep en ec])
  have t2 := ta_32 (.agg #[.int .i64 ia, .int .i64 ib, .int .i64 ic, .slice ep en ec])
  have t3 := ta_33 (.agg #[.int .i64 ia, .int .i64 ib, .int .i64 ic, .slice ep en ec])
  have HB : Hid (∀ o o2, Below w.heap.size w ((w.alloc o).alloc o2)) := fun o o2 => ((Below.refl _ _).alloc (Nat.le_refl _) _).alloc (by simp) _
  go_enter Tryz.func56, Tryz.ntmps56
  go_wp2
  refine bodyPost_ret (v := .agg #[.int .i64 3, .int .i64 0, .slice none 0 0, .int .i64 0, .int .i64 0, .int .i64 0, .slice none 0 0, .int .i64 ia, .int .i64 ib, .int .i64 ic, .slice ep en ec]) (results_cell_row rfl _ _ w.heap.size _ _ _ _ rfl (blk_first w _ _) Tryz.underlying30 rfl (by kernel_rfl)) rfl ?_
  exact ⟨rfl, HB.out _ _⟩
end Go.Proofs.YtclhbhhlddbocaaGreatDoor
