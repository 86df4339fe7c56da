/- CrcSums, walked. -/
import Derived.Test.YthndpccdeagkdaaDoorWLiveC
import Derived.Test.YthndpccdeagkdaaDoorCopy
namespace Go.Proofs.YthndpccdeagkdaaDoor
open Go.RowKit

set_option maxHeartbeats 1000000 in
theorem crcSums_any (p : Option Addr) (c : Nat) (l : List UInt8) (hl : l.length ≤ 140737488351232) (w : World) (ht : Hv w) (h : At w p l) :
    Calls Tryd.prog 4 #[.slice p l.length c] w fun e w' => e = .returned (.bool true) ∧ Below w.heap.size w w' := by
  obtain ⟨q, d, W, hrun, hW, _, hd, hB⟩ := copy_run p c l w hl h
  have HT := Lib.hid ht
  have HA := Lib.hid (h.on hB)
  have HW := Lib.hid hW
  have HB := Lib.hid hB
  have HR := Lib.hid hrun
  clear ht h hW hB hrun hd
  go_enter Tryd.func4, Tryd.ntmps4
  go_wp2_with (first | (at_builtin; refine wpList_append_run _ rfl _ _ _ _ rfl _ _ rfl rfl _ _ HR.out ?_))
  refine (sum_any p c l hl W (HT.out.on HB.out) HA.out).mono ?_
  rintro e w' ⟨rfl, hw⟩
  rw [hw]
  clear hw w'
  go_wp2_with fail
  refine (slow_any p c l hl W HA.out).mono ?_
  rintro e w' ⟨rfl, hw⟩
  rw [hw]
  clear hw w'
  go_wp2_with fail
  refine (refSum_any (some q) d l hl W HW.out).mono ?_
  rintro e w' ⟨rfl, hw⟩
  rw [hw]
  clear hw w'
  go_wp2_with fail
  refine (live_any W (HT.out.on HB.out)).mono ?_
  rintro e w1 ⟨rfl, hb⟩
  have HB1 := Lib.hid hb
  clear hb
  generalize Crc.sum l = z
  go_wp2_with fail
  refine (same_any p (some q) c d l l hl w1 (HA.out.on HB1.out) (HW.out.on HB1.out)).mono ?_
  rintro e w' ⟨rfl, n, hw⟩
  rw [hw, beq_self_eq_true]
  clear hw w'
  go_wp2
  go_ret
  exact ⟨rfl, below_drewN (HB.out.trans (HB1.out.mono HB.out.size)) n⟩
end Go.Proofs.YthndpccdeagkdaaDoor
