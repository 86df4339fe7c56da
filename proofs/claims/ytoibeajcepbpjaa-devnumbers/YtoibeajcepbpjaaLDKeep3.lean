/- DevKeeps at any arguments. -/
import Derived.Test.YtoibeajcepbpjaaLDKeep2
namespace Go.Proofs.Ytoibeajcepbpjaa
open Go.RowKit

section
variable {I : Nat → World → Prop} {Rep : DRep}

set_option maxRecDepth 100000 in
set_option maxHeartbeats 1000000 in
theorem keeps_bad (K : DevOk I Rep) (q : Int) (hq : q < 0 ∨ 1048576 < q) (p : Option Addr) (c len : Nat) (w : World) (hI : I w.heap.size w) :
    Calls Try.prog 5 #[.int .i64 q, .slice p len c] w fun e w' => e = .returned (.bool true) ∧ Below w.heap.size w w' := by
  have HK := Lib.hid K
  have HI := Lib.hid hI
  have HQ := Lib.hid hq
  clear hI K
  by_cases h0 : q < 0
  · have g1 : decide (q < 0) = true := decide_eq_true h0
    clear hq
    go_enter Try.func5, Try.ntmps5
    go_wp2_with fail
    refine (devLive_ok HK.out w HI.out).mono ?_
    rintro e w1 ⟨rfl, hb⟩
    have B1 := Lib.hid hb
    clear hb
    go_wp2_with fail
    refine (HK.out.newBad q w.heap.size w1 HQ.out (HK.out.on HI.out B1.out) B1.out.size).mono ?_
    rintro e w2 ⟨rfl, hb⟩
    have B2 := Lib.hid (B1.out.trans (hb.mono B1.out.size))
    clear hb B1
    go_wp2
    go_ret
    exact ⟨rfl, B2.out⟩
  · have g1 : decide (q < 0) = false := decide_eq_false h0
    have g2 : decide (1048576 < q) = true := decide_eq_true (by omega)
    clear hq h0
    go_enter Try.func5, Try.ntmps5
    go_wp2_with fail
    refine (devLive_ok HK.out w HI.out).mono ?_
    rintro e w1 ⟨rfl, hb⟩
    have B1 := Lib.hid hb
    clear hb
    go_wp2_with fail
    refine (HK.out.newBad q w.heap.size w1 HQ.out (HK.out.on HI.out B1.out) B1.out.size).mono ?_
    rintro e w2 ⟨rfl, hb⟩
    have B2 := Lib.hid (B1.out.trans (hb.mono B1.out.size))
    clear hb B1
    go_wp2
    go_ret
    exact ⟨rfl, B2.out⟩

theorem devKeeps_any (K : DevOk I Rep) (q : Int) (p : Option Addr) (c : Nat) (ops : List DOp) (hl : ops.length ≤ 2932031007403) (w : World) (hS : Script w p ops) (hI : I w.heap.size w) :
    Calls Try.prog 5 #[.int .i64 q, .slice p ops.length c] w fun e w' => e = .returned (.bool true) ∧ Below w.heap.size w w' := by
  by_cases hq : q < 0 ∨ 1048576 < q
  · exact keeps_bad K q hq p c ops.length w hI
  · obtain ⟨m, rfl⟩ : ∃ m : Nat, q = (m : Int) := ⟨q.toNat, by omega⟩
    exact keeps_ok K m (by omega) p c ops hl w hS hI
end
end Go.Proofs.Ytoibeajcepbpjaa
