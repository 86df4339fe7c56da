/- ValueJoins over what package value's functions answer. -/
import Derived.Test.YtooklmgkkkbfdabVLive
namespace Go.Proofs.Ytooklmgkkkbfdab
open Go.RowKit

theorem utf_none : utfT ⟨#[]⟩ = true := by kernel_rfl
theorem utf_three : utfT ⟨#[195, 169, 226, 130, 172, 240, 159, 152, 128]⟩ = true := by kernel_rfl

set_option maxRecDepth 100000 in
set_option maxHeartbeats 1000000 in
theorem valueJoins_any {I : World → Prop} (K : ValueOk I) (a b : ByteArray) (ha : a.size ≤ 140737488351232) (hb : b.size ≤ 140737488351232) (w : World) (hI : I w) :
    Calls Try.prog 3 #[.string a, .string b] w fun e w' => e = .returned (.bool true) ∧ Below w.heap.size w w' := by
  have HK := Lib.hid K
  have HI := Lib.hid hI
  clear hI K
  obtain ⟨r1, hr1⟩ : ∃ r, r = utfT a := ⟨_, rfl⟩
  obtain ⟨r2, hr2⟩ : ∃ r, r = utfT b := ⟨_, rfl⟩
  have H1 := Lib.hid hr1
  have H2 := Lib.hid hr2
  clear hr1 hr2
  go_enter Try.func3, Try.ntmps3
  go_wp2_with fail
  have hC := HK.out.utf a w (by omega) HI.out
  rw [← H1.out] at hC
  refine hC.mono ?_
  rintro e w1 ⟨rfl, hb1⟩
  have HB1 := Lib.hid hb1
  clear hb1 hC
  go_wp2_with fail
  have hC := HK.out.utf b w1 (by omega) (HK.out.on HI.out HB1.out)
  rw [← H2.out] at hC
  refine hC.mono ?_
  rintro e w2 ⟨rfl, hb2⟩
  have HB2 := Lib.hid (HB1.out.trans (hb2.mono HB1.out.size))
  clear hb2 hC HB1
  go_wp2_with fail
  obtain ⟨r3, hr3⟩ : ∃ r, r = utfT (a ++ b) := ⟨_, rfl⟩
  have hsz : (a ++ b).size ≤ 281474976702464 := by rw [ByteArray.size_append]; omega
  have hC := HK.out.utf (a ++ b) w2 hsz (HK.out.on HI.out HB2.out)
  rw [← hr3] at hC
  refine hC.mono ?_
  rintro e w3 ⟨rfl, hb3⟩
  have HB3 := Lib.hid (HB2.out.trans (hb3.mono HB2.out.size))
  have H3 := Lib.hid hr3
  clear hb3 hC HB2 hr3 hsz
  go_wp2_with fail
  refine (valueLive_ok HK.out w3 (HK.out.on HI.out HB3.out)).mono ?_
  rintro e w4 ⟨rfl, hb4⟩
  have HB4 := Lib.hid (HB3.out.trans (hb4.mono HB3.out.size))
  clear hb4 HB3
  have hE : ∀ w', Below w.heap.size w w' → Calls Try.prog 4 #[.string ⟨#[]⟩] w' fun e w'' => e = .returned (.bool true) ∧ Below w'.heap.size w' w'' := fun w' hb => by
    have hc := HK.out.utf ⟨#[]⟩ w' (by decide) (HK.out.on HI.out hb)
    rw [utf_none] at hc
    exact hc
  have hT : ∀ w', Below w.heap.size w w' → Calls Try.prog 4 #[.string ⟨#[195, 169, 226, 130, 172, 240, 159, 152, 128]⟩] w' fun e w'' => e = .returned (.bool true) ∧ Below w'.heap.size w' w'' := fun w' hb => by
    have hc := HK.out.utf ⟨#[195, 169, 226, 130, 172, 240, 159, 152, 128]⟩ w' (by decide) (HK.out.on HI.out hb)
    rw [utf_three] at hc
    exact hc
  have HE := Lib.hid hE
  have HT := Lib.hid hT
  clear hE hT
  cases r1 with
  | false =>
    go_wp2_with fail
    refine (HE.out w4 HB4.out).mono ?_
    rintro e w5 ⟨rfl, hb5⟩
    have HB5 := Lib.hid (HB4.out.trans (hb5.mono HB4.out.size))
    clear hb5 HB4
    go_wp2_with fail
    refine (HT.out w5 HB5.out).mono ?_
    rintro e w6 ⟨rfl, hb6⟩
    have HB6 := Lib.hid (HB5.out.trans (hb6.mono HB5.out.size))
    clear hb6 HB5
    go_wp2
    go_ret
    exact ⟨rfl, HB6.out⟩
  | true =>
    have h23 : r3 = r2 := by
      rw [H3.out, H2.out]
      unfold utfT
      rw [show (a ++ b).data.toList = a.data.toList ++ b.data.toList by simp [ByteArray.data_append]]
      exact U8.utf_append _ _ _ (Nat.le_refl _) H1.out.symm
    subst h23
    have hrr : (r3 == r3) = true := by simp
    go_wp2_with fail
    refine (HE.out w4 HB4.out).mono ?_
    rintro e w5 ⟨rfl, hb5⟩
    have HB5 := Lib.hid (HB4.out.trans (hb5.mono HB4.out.size))
    clear hb5 HB4
    go_wp2_with fail
    refine (HT.out w5 HB5.out).mono ?_
    rintro e w6 ⟨rfl, hb6⟩
    have HB6 := Lib.hid (HB5.out.trans (hb6.mono HB5.out.size))
    clear hb6 HB5
    go_wp2
    go_ret
    exact ⟨rfl, HB6.out⟩
end Go.Proofs.Ytooklmgkkkbfdab
