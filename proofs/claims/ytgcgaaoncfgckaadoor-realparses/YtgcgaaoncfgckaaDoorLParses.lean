/- The walks of the document's own Parse and of the law RealParses: whatever the text, it returns true. -/
import Derived.Test.YtgcgaaoncfgckaaDoorWRefG
import Derived.Test.YtgcgaaoncfgckaaDoorWParse
import Derived.Test.YtgcgaaoncfgckaaDoorTxtInj
namespace Go.Proofs.YtgcgaaoncfgckaaDoor
open Go.RowKit

set_option maxRecDepth 100000 in
set_option maxHeartbeats 2000000 in
theorem refParse_any (s : ByteArray) (hlim : s.size ≤ 281474976710656) (w : World) :
    Calls Tryd.prog 27 #[.string s] w fun e w' =>
      ((∃ z, z < 18446744073709551616 ∧ s.data.toList = text z ∧ e = .returned (.tuple #[.float .f64 (fixB z), .int .i64 0])) ∨
       ((∀ z, z < 18446744073709551616 → s.data.toList ≠ text z) ∧ e = .returned (.tuple #[.float .f64 0, .int .i64 11]))) ∧ Below w.heap.size w w' := by
  have IG := Lib.hid (refGuess_any s hlim)
  clear hlim
  go_enter Tryd.func27, Tryd.ntmps27
  go_wp2_with fail
  refine (IG.out _).mono ?_
  rintro e w1 ⟨x, rfl, hx, hq, hb⟩
  have HB := Lib.hid hb
  clear hb
  have IP := Lib.hid (refPrint_any x hx)
  by_cases he : s.data.toList = text x
  · have hb : ((s.toList == text x)) = true := by rw [Lib.toList_data, beq_iff_eq]; exact he
    have HE : Hid (∃ z, z < 18446744073709551616 ∧ s.data.toList = text z ∧ x = fixB z) := ⟨x, hx, he, hq x hx he⟩
    clear he hq hx
    go_wp2_with fail
    refine (IP.out _).mono ?_
    rintro e w2 ⟨rfl, rfl⟩
    go_wp2
    go_ret2
    obtain ⟨z, z1, z2, z3⟩ := HE.out
    refine ⟨.inl ⟨z, z1, z2, ?_⟩, HB.out⟩
    rw [← z3]; rfl
  · have hb : ((s.toList == text x)) = false := by rw [Lib.toList_data, beq_eq_false_iff_ne]; exact he
    have HN : Hid (∀ z, z < 18446744073709551616 → s.data.toList ≠ text z) := fun z hz ht => by
      have e1 := hq z hz ht
      apply he
      rw [e1, text_fix]; exact ht
    clear he hq hx
    go_wp2_with fail
    refine (IP.out _).mono ?_
    rintro e w2 ⟨rfl, rfl⟩
    go_wp2
    go_ret2
    exact ⟨.inr ⟨HN.out, rfl⟩, HB.out⟩

set_option maxRecDepth 100000 in
set_option maxHeartbeats 2000000 in
theorem realParses_any (s : ByteArray) (hlim : s.size ≤ 281474976710656) (w : World) (ht : Tab w) (hz : Tz w) (hs : Sen w) :
    Calls Tryd.prog 8 #[.string s] w fun e w' => e = .returned (.bool true) ∧ Below w.heap.size w w' := by
  have HT := Lib.hid ht
  have IP := Lib.hid (realParse_any s hlim w ht hz hs)
  have IQ := Lib.hid (refParse_any s hlim)
  clear ht hz hs hlim
  go_enter Tryd.func8, Tryd.ntmps8
  go_wp2_with fail
  refine IP.out.mono ?_
  rintro e w1 ⟨h1, hb1⟩
  have HB1 := Lib.hid hb1
  clear hb1
  rcases h1 with ⟨y, y1, y2, rfl⟩ | ⟨y1, rfl⟩
  · have Y2 := Lib.hid y2
    clear y2
    go_wp2_with fail
    refine (IQ.out _).mono ?_
    rintro e w2 ⟨h2, hb2⟩
    have HB2 := Lib.hid hb2
    clear hb2
    rcases h2 with ⟨z, z1, z2, rfl⟩ | ⟨z1, rfl⟩
    · have hyz : fixB z = fixB y := text_inj z1 y1 (z2.symm.trans Y2.out)
      clear z1 y1 z2
      go_wp2_with fail
      refine (live_any _ (tab_on (tab_on HT.out HB1.out) HB2.out)).mono ?_
      rintro e w3 ⟨rfl, hb3⟩
      have HB3 := Lib.hid hb3
      clear hb3
      go_wp2_with fail
      refine (exact_any _ _ _).mono ?_
      rintro e w' ⟨rfl, rfl⟩
      go_wp2
      go_ret
      exact ⟨rfl, HB1.out.trans ((HB2.out.trans (HB3.out.mono HB2.out.size)).mono HB1.out.size)⟩
    · exact absurd Y2.out (z1 y y1)
  · have Y1 := Lib.hid y1
    clear y1
    go_wp2_with fail
    refine (IQ.out _).mono ?_
    rintro e w2 ⟨h2, hb2⟩
    have HB2 := Lib.hid hb2
    clear hb2
    rcases h2 with ⟨z, z1, z2, rfl⟩ | ⟨z1, rfl⟩
    · exact absurd z2 (Y1.out z z1)
    · clear z1
      go_wp2_with fail
      refine (live_any _ (tab_on (tab_on HT.out HB1.out) HB2.out)).mono ?_
      rintro e w3 ⟨rfl, hb3⟩
      have HB3 := Lib.hid hb3
      clear hb3
      go_wp2_with fail
      refine (exact_any _ _ _).mono ?_
      rintro e w' ⟨rfl, rfl⟩
      go_wp2
      go_ret
      exact ⟨rfl, HB1.out.trans ((HB2.out.trans (HB3.out.mono HB2.out.size)).mono HB1.out.size)⟩
end Go.Proofs.YtgcgaaoncfgckaaDoor
