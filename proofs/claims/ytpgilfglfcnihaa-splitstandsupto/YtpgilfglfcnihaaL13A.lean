/- SplitRuns. -/
import Derived.Test.YtpgilfglfcnihaaW13A
import Derived.Test.YtpgilfglfcnihaaW13B
import Derived.Test.YtpgilfglfcnihaaW13C
import Derived.Test.YtpgilfglfcnihaaW13E
namespace Go.Proofs.Ytpgilfglfcnihaa
open Go.RowKit

theorem RunsO.drewN {w : World} {B : Nat} {v : Value} {bs : List Nat} {rs : List Run} (h : RunsO w B v bs rs) (m : Nat) : RunsO (w.drewN m) B v bs rs := ⟨h.out⟩
theorem lent_at {w : World} {B N : Nat} {l : List UInt8} (hm : Mine w B N (l.length + 2) (l ++ [77, 78])) : At w (some ⟨N, 0, none⟩) l :=
  .inr ⟨N, 0, rfl, hm.base.2.1, fun j hj => by
    have h2 := hm.free.2.1 j (by simp; omega)
    rw [h2, List.getElem_append_left hj]⟩

set_option maxRecDepth 100000 in
set_option maxHeartbeats 4000000 in
theorem splitRuns (p : Option Addr) (c : Nat) (l : List UInt8) (w : World) (h : At w p l) (hc : l.length ≤ c) (hl : l.length ≤ 1048576) : Calls Try.prog 3 #[.slice p l.length c] w fun e w' => e = .returned (.bool true) ∧ Below w.heap.size w w' := by
  have HA := Lib.hid h
  have HL := Lib.hid (live13 w)
  clear h
  go_enter Try.func3, Try.ntmps3
  go_wp2_with fail
  refine HL.out.mono ?_
  rintro e w1 ⟨rfl, hb1⟩
  have HB1 := Lib.hid hb1
  have hs1 := hb1.size
  have HLe := Lib.hid (lent13 p c l w1 (HA.out.on hb1) (by omega))
  clear hb1 HL
  go_wp2_with fail
  refine HLe.out.mono ?_
  rintro e w2 ⟨rfl, hm2, hb2⟩
  have HB2 := Lib.hid (HB1.out.trans (hb2.mono hs1))
  have HM2 := Lib.hid hm2
  clear hm2 hb2 HLe HB1
  go_wp2
  go_loopw [9] (fun v9 wr => ∃ i : Nat, i ≤ 2 ∧ v9 = .int .i64 i ∧ Hid (Below w.heap.size w wr ∧ Mine wr w1.heap.size w1.heap.size (l.length + 2) (l ++ [77, 78]))) (fun v9 _ => 2 - (intOf v9).toNat)
  case atStart => exact ⟨0, by omega, rfl, HB2.out, HM2.out⟩
  case round =>
    clear HB2 HM2
    obtain ⟨i, hi, rfl, HI⟩ := hrel
    by_cases hlt : i < 2
    · have hlt' : (i : Int) < 2 := by omega
      have HR := Lib.hid (runsK wr (some ⟨w1.heap.size, 0, none⟩) (l.length + 2) l (lent_at HI.out.2) (by omega))
      go_wp2_with fail
      refine HR.out.mono ?_
      rintro e w3 ⟨q3, c3, bs3, rfl, hr3, hb3⟩
      have hsz := HI.out.1.size
      have HR3 := Lib.hid hr3
      have HB3 := Lib.hid hb3
      have hs3 := hb3.size
      clear hr3 hb3 HR
      have HD := Lib.hid (refRuns13 w3 p c l (HA.out.on (HI.out.1.trans (HB3.out.mono hsz))) hc (by omega))
      go_wp2_with fail
      refine HD.out.mono ?_
      rintro e w4 ⟨q4, c4, bs4, rfl, hr4, hb4⟩
      have HR4 := Lib.hid hr4
      have HB4 := Lib.hid hb4
      have hs4 := hb4.size
      have HR34 := Lib.hid (HR3.out.on hb4)
      clear hr4 hb4 HD
      have HSm := Lib.hid (same13 q3 q4 c3 c4 (Sp.of l).out (Sp.of l).out w4 HR34.out.read HR4.out.read (by have := Sp.out_len l; omega))
      rw [show ((Sp.of l).out == (Sp.of l).out) = true from beq_self_eq_true _] at HSm
      go_wp2_with fail
      refine HSm.out.mono ?_
      rintro e w5 ⟨rfl, n5, hw5⟩
      rw [hw5]
      clear hw5 w5 HSm
      have HSp := Lib.hid (spoils13 q3 c3 (Sp.of l).out bs3 wr.heap.size (w4.drewN n5) (HR34.out.drewN n5))
      go_wp2_with fail
      refine HSp.out.mono ?_
      rintro e w6 ⟨rfl, ha6⟩
      have HB6 : Hid (Below wr.heap.size wr w6) := HB3.out.trans ((HB4.out.mono hs3).trans ((below_drewN (Below.refl _ w4) n5).trans (ha6.below (by show wr.heap.size ≤ w4.heap.size; omega) (fun k hk hc => by
        rcases hc with hc | hc
        · have := (HR3.out.mem k hc).1
          omega
        · have := (HR3.out.lt k hc).1
          omega))))
      clear ha6 HSp
      go_wp2
      go_roundw
      case rel => exact ⟨i + 1, by omega, by go_num, HI.out.1.trans (HB6.out.mono hsz), (Mine.has HI.out.2).on HB6.out⟩
      case measure => simp [intOf]; omega
    · have hii : i = 2 := by omega
      subst hii
      have HSt := Lib.hid (still13 p c l wr w1.heap.size w1.heap.size HI.out.2 (HA.out.on HI.out.1) (by omega))
      go_wp2_with fail
      refine HSt.out.mono ?_
      rintro e w7 ⟨rfl, hw⟩
      rw [hw]
      clear hw w7
      go_wp2
      go_ret
      exact ⟨rfl, HI.out.1⟩
end Go.Proofs.Ytpgilfglfcnihaa
