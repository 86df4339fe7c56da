/- CrcUpdates, walked. -/
import Derived.Test.YthndpccdeagkdaaDoorWLiveC
namespace Go.Proofs.YthndpccdeagkdaaDoor
open Go.RowKit

set_option maxHeartbeats 1000000 in
theorem crcUpdates_any (s : Nat) (hs : s < 4294967296) (p : Option Addr) (c : Nat) (l : List UInt8) (hl : l.length ≤ 140737488351232) (w : World) (ht : Hv w) (h : At w p l) :
    Calls Tryd.prog 5 #[.int .u32 s, .slice p l.length c] w fun e w' => e = .returned (.bool true) ∧ Below w.heap.size w w' := by
  have HT := Lib.hid ht
  have HA := Lib.hid h
  clear ht h
  go_enter Tryd.func5, Tryd.ntmps5
  go_wp2_with fail
  refine (live_any _ HT.out).mono ?_
  rintro e w1 ⟨rfl, hb⟩
  have HB := Lib.hid hb
  have HT1 := Lib.hid (HT.out.on hb)
  clear hb
  go_wp2_with fail
  refine (update_any s hs p c l hl w1 HT1.out (HA.out.on HB.out)).mono ?_
  rintro e w' ⟨rfl, rfl⟩
  go_wp2_with fail
  refine (refUpdate_any s hs p c l hl _ (HA.out.on HB.out)).mono ?_
  rintro e w' ⟨rfl, rfl⟩
  generalize Crc.update s l = z
  go_wp2
  go_ret
  exact ⟨rfl, HB.out⟩

theorem crcUpdates_u32 (a : Int) (ha : (Lit.int .u32 a).wf = true) (p : Option Addr) (c : Nat) (l : List UInt8) (hl : l.length ≤ 140737488351232) (w : World) (ht : Hv w) (h : At w p l) :
    Calls Tryd.prog 5 #[.int .u32 a, .slice p l.length c] w fun e w' => e = .returned (.bool true) ∧ Below w.heap.size w w' := by
  have e1 : IntKind.u32.min = 0 := rfl
  have e2 : IntKind.u32.max = 4294967295 := rfl
  simp only [Lit.wf, e1, e2, Bool.and_eq_true, decide_eq_true_eq] at ha
  obtain ⟨n, rfl⟩ : ∃ n : Nat, a = (n : Int) := ⟨a.toNat, by omega⟩
  exact crcUpdates_any n (by omega) p c l hl w ht h
end Go.Proofs.YthndpccdeagkdaaDoor
