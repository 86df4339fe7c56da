/- The walk of package real's Parse: a float's text is read as that float, fixed; any other text is refused. -/
import Derived.Test.YtgcgaaoncfgckabDoorWGuess
import Derived.Test.YtgcgaaoncfgckabDoorWLive
namespace Go.Proofs.YtgcgaaoncfgckabDoor
open Go.RowKit

set_option maxRecDepth 100000 in
set_option maxHeartbeats 2000000 in
theorem realParse_any (s : ByteArray) (hlim : s.size ≤ 281474976710656) (w : World) (ht : Tab w) (hz : Tz w) (hs : Sen w) :
    Calls Tryd.prog 5 #[.string s] w fun e w' =>
      ((∃ z, z < 18446744073709551616 ∧ s.data.toList = text z ∧ e = .returned (.tuple #[.float .f64 (fixB z), .int .i64 0])) ∨
       ((∀ z, z < 18446744073709551616 → s.data.toList ≠ text z) ∧ e = .returned (.tuple #[.float .f64 0, .int .i64 11]))) ∧ Below w.heap.size w w' := by
  have HT := Lib.hid ht
  have HZ := Lib.hid hz
  have HS := Lib.hid hs
  have IG := Lib.hid (realGuess_any s hlim)
  clear ht hz hs hlim
  go_enter Tryd.func5, Tryd.ntmps5
  go_wp2_with fail
  refine (IG.out _ HS.out).mono ?_
  rintro e w1 ⟨x, ok, rfl, hx, hq, hb⟩
  have HB := Lib.hid hb
  clear hb
  cases ok
  · have HN : Hid (∀ z, z < 18446744073709551616 → s.data.toList ≠ text z) := fun z hz ht => by
      have := (hq z hz ht).2
      cases this
    clear hq hx
    go_wp2
    go_ret2
    exact ⟨.inr ⟨HN.out, rfl⟩, HB.out⟩
  · have IP := Lib.hid (realPrint_any x hx)
    by_cases he : s.data.toList = text x
    · have hb : ((text x == s.toList)) = true := by rw [Lib.toList_data, beq_iff_eq]; exact he.symm
      have HE : Hid (∃ z, z < 18446744073709551616 ∧ s.data.toList = text z ∧ x = fixB z) := ⟨x, hx, he, (hq x hx he).1⟩
      clear he hq hx
      go_wp2_with fail
      refine (IP.out _ (tab_on HT.out HB.out) (tz_on HZ.out HB.out)).mono ?_
      rintro e w2 ⟨rfl, hb2⟩
      have HB2 := Lib.hid hb2
      clear hb2
      go_wp2
      go_ret2
      obtain ⟨z, z1, z2, z3⟩ := HE.out
      refine ⟨.inl ⟨z, z1, z2, ?_⟩, HB.out.trans (HB2.out.mono HB.out.size)⟩
      rw [← z3]; rfl
    · have hb : ((text x == s.toList)) = false := by rw [Lib.toList_data, beq_eq_false_iff_ne]; exact Ne.symm he
      have HN : Hid (∀ z, z < 18446744073709551616 → s.data.toList ≠ text z) := fun z hz ht => by
        have e1 := (hq z hz ht).1
        apply he
        rw [e1, text_fix]; exact ht
      clear he hq hx
      go_wp2_with fail
      refine (IP.out _ (tab_on HT.out HB.out) (tz_on HZ.out HB.out)).mono ?_
      rintro e w2 ⟨rfl, hb2⟩
      have HB2 := Lib.hid hb2
      clear hb2
      go_wp2
      go_ret2
      exact ⟨.inr ⟨HN.out, rfl⟩, HB.out.trans (HB2.out.mono HB.out.size)⟩
end Go.Proofs.YtgcgaaoncfgckabDoor
