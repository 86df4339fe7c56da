/- The walk of the law RealWholes: whatever the bits and the number, it returns true. -/
import Derived.Test.YtgcgaaoncfgckaaDoorWLive
import Derived.Test.YtgcgaaoncfgckaaDoorWRef
namespace Go.Proofs.YtgcgaaoncfgckaaDoor
open Go.RowKit

set_option maxHeartbeats 1000000 in
theorem realWholes_any (a n : Int) (w : World) (ht : Tab w) :
    Calls Tryd.prog 5 #[.int .u64 a, .int .i64 n] w fun e w' => e = .returned (.bool true) ∧ Below w.heap.size w w' := by
  have HT := Lib.hid ht
  clear ht
  go_enter Tryd.func5, Tryd.ntmps5
  go_wp2_with (first
    | (go_at_call 11; refine (raw_any _ _).mono ?_; rintro e w' ⟨rfl, rfl⟩)
    | (go_at_call 10; refine (realToInt_any _ _).mono ?_; rintro e w' ⟨rfl, rfl⟩)
    | (go_at_call 23; refine (refToInt_any _ _).mono ?_; rintro e w' ⟨rfl, rfl⟩)
    | (go_at_call 9; refine (realFromInt_any _ _).mono ?_; rintro e w' ⟨rfl, rfl⟩)
    | (go_at_call 24; refine (refFromInt_any _ _).mono ?_; rintro e w' ⟨rfl, rfl⟩))
  refine (live_any _ HT.out).mono ?_
  rintro e w1 ⟨rfl, hb1⟩
  have HB1 := Lib.hid hb1
  clear hb1
  go_wp2_with (go_at_call 14; refine (exact_any _ _ _).mono ?_; rintro e w' ⟨rfl, rfl⟩)
  go_ret
  exact ⟨rfl, HB1.out⟩
end Go.Proofs.YtgcgaaoncfgckaaDoor
