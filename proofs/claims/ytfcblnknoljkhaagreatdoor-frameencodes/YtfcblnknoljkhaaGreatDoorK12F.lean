import Derived.Test.YtfcblnknoljkhaaGreatDoorA2
import Derived.Handy
set_option maxRecDepth 100000
set_option maxHeartbeats 1000000
namespace Go.Proofs.YtfcblnknoljkhaaGreatDoor
open Go.RowKit
theorem fieldsOf_1 (n:Int) (sp:Option Addr) (sn sc:Nat) (q fi r:Int) (bp:Option Addr) (bn bc:Nat) (ia ib ic:Int) (ep:Option Addr) (en ec:Nat) (w:World) :
  Calls Tryz.prog 8 #[.agg #[.int .i64 1,.int .i64 n,.slice sp sn sc,.int .i64 q,.int .i64 fi,.int .i64 r,.slice bp bn bc,.int .i64 ia,.int .i64 ib,.int .i64 ic,.slice ep en ec]] w fun e w' => e = .returned (.tuple #[.iface 50 (.agg #[.int .i64 n,.slice sp sn sc]),.bool true]) ∧ Below w.heap.size w w':=by
 have HB:Hid (∀ o,Below w.heap.size w (w.alloc o)):=fun o => (Below.refl _ _).alloc (Nat.le_refl _) _
 go_enter Tryz.func8,Tryz.ntmps8
 go_wp2
 go_ret2
 exact ⟨rfl,HB.out _⟩
theorem fieldsOf_2 (n:Int) (sp:Option Addr) (sn sc:Nat) (q fi r:Int) (bp:Option Addr) (bn bc:Nat) (ia ib ic:Int) (ep:Option Addr) (en ec:Nat) (w:World) :
  Calls Tryz.prog 8 #[.agg #[.int .i64 2,.int .i64 n,.slice sp sn sc,.int .i64 q,.int .i64 fi,.int .i64 r,.slice bp bn bc,.int .i64 ia,.int .i64 ib,.int .i64 ic,.slice ep en ec]] w fun e w' => e = .returned (.tuple #[.iface 52 (.agg #[.int .i64 n,.int .i64 q,.int .i64 fi,.int .i64 r,.slice bp bn bc]),.bool true]) ∧ Below w.heap.size w w':=by
 have HB:Hid (∀ o,Below w.heap.size w (w.alloc o)):=fun o => (Below.refl _ _).alloc (Nat.le_refl _) _
 go_enter Tryz.func8,Tryz.ntmps8
 go_wp2
 go_ret2
 exact ⟨rfl,HB.out _⟩
theorem fieldsOf_3 (n:Int) (sp:Option Addr) (sn sc:Nat) (q fi r:Int) (bp:Option Addr) (bn bc:Nat) (ia ib ic:Int) (ep:Option Addr) (en ec:Nat) (w:World) :
  Calls Tryz.prog 8 #[.agg #[.int .i64 3,.int .i64 n,.slice sp sn sc,.int .i64 q,.int .i64 fi,.int .i64 r,.slice bp bn bc,.int .i64 ia,.int .i64 ib,.int .i64 ic,.slice ep en ec]] w fun e w' => e = .returned (.tuple #[.iface 54 (.agg #[.int .i64 ia,.int .i64 ib,.int .i64 ic,.slice ep en ec]),.bool true]) ∧ Below w.heap.size w w':=by
 have HB:Hid (∀ o,Below w.heap.size w (w.alloc o)):=fun o => (Below.refl _ _).alloc (Nat.le_refl _) _
 go_enter Tryz.func8,Tryz.ntmps8
 go_wp2
 go_ret2
 exact ⟨rfl,HB.out _⟩
theorem fieldsOf_0 (k:Int) (h1:k ≠ 1) (h2:k ≠ 2) (h3:k ≠ 3) (n:Int) (sp:Option Addr) (sn sc:Nat) (q fi r:Int) (bp:Option Addr) (bn bc:Nat) (ia ib ic:Int) (ep:Option Addr) (en ec:Nat) (w:World) :
  Calls Tryz.prog 8 #[.agg #[.int .i64 k,.int .i64 n,.slice sp sn sc,.int .i64 q,.int .i64 fi,.int .i64 r,.slice bp bn bc,.int .i64 ia,.int .i64 ib,.int .i64 ic,.slice ep en ec]] w fun e w' => e = .returned (.tuple #[.nilIface,.bool false]) ∧ Below w.heap.size w w':=by
 have HB:Hid (∀ o,Below w.heap.size w (w.alloc o)):=fun o => (Below.refl _ _).alloc (Nat.le_refl _) _
 have g1:(k == 1) = false:=beq_f h1
 have g2:(k == 2) = false:=beq_f h2
 have g3:(k == 3) = false:=beq_f h3
 clear h1 h2 h3
 go_enter Tryz.func8,Tryz.ntmps8
 go_wp2
 go_ret2
 exact ⟨rfl,HB.out _⟩
end Go.Proofs.YtfcblnknoljkhaaGreatDoor
