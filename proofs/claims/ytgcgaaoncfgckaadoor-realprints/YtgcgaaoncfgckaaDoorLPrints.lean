/- The walk of the law RealPrints: whatever the bits, it returns true. -/
import Derived.Test.YtgcgaaoncfgckaaDoorWRefQ
import Derived.Test.YtgcgaaoncfgckaaDoorWLive
namespace Go.Proofs.YtgcgaaoncfgckaaDoor
open Go.RowKit

set_option maxHeartbeats 1000000 in
theorem realPrints_any (a : Int) (ha0 : 0 ≤ a) (ha1 : a ≤ 18446744073709551615) (w : World) (ht : Tab w) (hz : Tz w) :
    Calls Tryd.prog 7 #[.int .u64 a] w fun e w' => e = .returned (.bool true) ∧ Below w.heap.size w w' := by
  have HT := Lib.hid ht
  have HZ := Lib.hid hz
  have IP := Lib.hid (realPrint_any a.toNat (by omega))
  have IQ := Lib.hid (refPrint_any a.toNat (by omega))
  clear ht hz ha0 ha1
  go_enter Tryd.func7, Tryd.ntmps7
  go_wp2_with fail
  refine (live_any _ HT.out).mono ?_
  rintro e w1 ⟨rfl, hb1⟩
  have HB1 := Lib.hid hb1
  clear hb1
  go_wp2_with fail
  refine (raw_any _ _).mono ?_
  rintro e w' ⟨rfl, rfl⟩
  go_wp2_with fail
  refine (IP.out _ (tab_on HT.out HB1.out) (tz_on HZ.out HB1.out)).mono ?_
  rintro e w2 ⟨rfl, hb2⟩
  have HB2 := Lib.hid hb2
  clear hb2
  go_wp2_with fail
  refine (raw_any _ _).mono ?_
  rintro e w' ⟨rfl, rfl⟩
  go_wp2_with fail
  refine (IQ.out _).mono ?_
  rintro e w' ⟨rfl, rfl⟩
  go_wp2
  go_ret
  exact ⟨rfl, HB1.out.trans (HB2.out.mono HB1.out.size)⟩
end Go.Proofs.YtgcgaaoncfgckaaDoor
