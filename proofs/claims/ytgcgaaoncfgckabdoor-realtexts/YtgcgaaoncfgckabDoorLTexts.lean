/- The walk of the law RealTexts: whatever the bits and the text, it returns true. -/
import Derived.Test.YtgcgaaoncfgckabDoorWParse
import Derived.Test.YtgcgaaoncfgckabDoorTxtInj
import Derived.Lib.ItoaLen
namespace Go.Proofs.YtgcgaaoncfgckabDoor
open Go.RowKit

/-- the listed variables of the library lie as their initialisers lay them -/
def Laid (w : World) : Prop := Tab w ∧ Tz w ∧ Sen w
theorem laid_on {w w' : World} (h : Laid w) (hb : Below w.heap.size w w') : Laid w' := ⟨tab_on h.1 hb, tz_on h.2.1 hb, sen_on h.2.2 hb⟩

theorem text_short (z : Nat) : (text z).length ≤ 21 := by
  rcases text_cases z with ⟨e, _⟩ | ⟨e, _⟩ | ⟨e, _⟩ | ⟨e, _⟩ | ⟨e, d, _⟩ | ⟨e, _⟩
  · rw [e]; decide
  · rw [e]; decide
  · rw [e]; decide
  · rw [e]; decide
  · rw [e]
    have b := dec_bounds d
    exact Lib.itoa_length_le _ (by omega) (by omega)
  · rw [e]; simp [Hex.digits_length]

/-- a float's own text is read as that float, fixed -/
theorem parse_text (x : Nat) (hx : x < 18446744073709551616) (w : World) (h : Laid w) :
    Calls Tryd.prog 5 #[.string ⟨(text x).toArray⟩] w fun e w' => e = .returned (.tuple #[.float .f64 (fixB x), .int .i64 0]) ∧ Below w.heap.size w w' := by
  have hsz : (⟨(text x).toArray⟩ : ByteArray).size ≤ 281474976710656 := by
    have := text_short x
    show (text x).toArray.size ≤ _
    simp; omega
  refine (realParse_any ⟨(text x).toArray⟩ hsz w h.1 h.2.1 h.2.2).mono ?_
  rintro e w' ⟨h1, hb⟩
  refine ⟨?_, hb⟩
  rcases h1 with ⟨z, z1, z2, rfl⟩ | ⟨z1, _⟩
  · have e1 : text x = text z := by simpa using z2
    rw [text_inj hx z1 e1]
  · exact absurd (show (⟨(text x).toArray⟩ : ByteArray).data.toList = text x by simp) (z1 x hx)

theorem same_texts {x y : Nat} (hx : x < 18446744073709551616) (hy : y < 18446744073709551616) : (text x == text y) = ((fixB x : Int) == (fixB y : Int)) := by
  by_cases h : fixB x = fixB y
  · have : text x = text y := by rw [← text_fix x, ← text_fix y, h]
    rw [this, h]; simp
  · have h2 : text x ≠ text y := fun e => h (text_inj hx hy e)
    rw [beq_eq_false_iff_ne.2 h2, eq_comm, beq_eq_false_iff_ne]
    omega

set_option maxRecDepth 100000 in
set_option maxHeartbeats 4000000 in
theorem realTexts_any (a b : Int) (s : ByteArray) (ha0 : 0 ≤ a) (ha1 : a ≤ 18446744073709551615) (hb0 : 0 ≤ b) (hb1 : b ≤ 18446744073709551615) (hlim : s.size ≤ 281474976710656) (w : World) (hl : Laid w) :
    Calls Tryd.prog 3 #[.int .u64 a, .int .u64 b, .string s] w fun e w' => e = .returned (.bool true) ∧ Below w.heap.size w w' := by
  have hx : a.toNat < 18446744073709551616 := by omega
  have hy : b.toNat < 18446744073709551616 := by omega
  have hun := same_texts hx hy
  have IX := Lib.hid (fun w (h : Laid w) => realPrint_any a.toNat hx w h.1 h.2.1)
  have IY := Lib.hid (fun w (h : Laid w) => realPrint_any b.toNat hy w h.1 h.2.1)
  have IT := Lib.hid (parse_text a.toNat hx)
  have IS := Lib.hid (fun w (h : Laid w) => realParse_any s hlim w h.1 h.2.1 h.2.2)
  have HL := Lib.hid hl
  clear ha0 ha1 hb0 hb1 hlim hx hy hl
  go_enter Tryd.func3, Tryd.ntmps3
  go_wp2_with fail
  refine (raw_any _ _).mono ?_
  rintro e w' ⟨rfl, rfl⟩
  go_wp2_with fail
  refine (raw_any _ _).mono ?_
  rintro e w' ⟨rfl, rfl⟩
  go_wp2_with fail
  refine (IX.out _ HL.out).mono ?_
  rintro e w1 ⟨rfl, h1⟩
  have HB1 := Lib.hid h1
  clear h1
  have HL1 := Lib.hid (laid_on HL.out HB1.out)
  go_wp2_with fail
  refine (IT.out _ HL1.out).mono ?_
  rintro e w2 ⟨rfl, h2⟩
  have HB2 := Lib.hid (HB1.out.trans (h2.mono HB1.out.size))
  clear h2
  have HL2 := Lib.hid (laid_on HL.out HB2.out)
  go_wp2_with fail
  refine (realFix_any _ _).mono ?_
  rintro e w' ⟨rfl, rfl⟩
  go_wp2_with fail
  refine (exact_any _ _ _).mono ?_
  rintro e w' ⟨rfl, rfl⟩
  go_wp2_with fail
  refine (IX.out _ HL2.out).mono ?_
  rintro e w3 ⟨rfl, h3⟩
  have HB3 := Lib.hid (HB2.out.trans (h3.mono HB2.out.size))
  clear h3
  have HL3 := Lib.hid (laid_on HL.out HB3.out)
  go_wp2_with fail
  refine (IY.out _ HL3.out).mono ?_
  rintro e w4 ⟨rfl, h4⟩
  have HB4 := Lib.hid (HB3.out.trans (h4.mono HB3.out.size))
  clear h4
  have HL4 := Lib.hid (laid_on HL.out HB4.out)
  go_wp2_with fail
  refine (realSame_any _ _ _).mono ?_
  rintro e w' ⟨rfl, rfl⟩
  go_wp2_with fail
  refine (IS.out _ HL4.out).mono ?_
  rintro e w5 ⟨h5, h6⟩
  have HB5 := Lib.hid (HB4.out.trans (h6.mono HB4.out.size))
  clear h6
  have HL5 := Lib.hid (laid_on HL.out HB5.out)
  rcases h5 with ⟨z, z1, z2, rfl⟩ | ⟨z1, rfl⟩
  · have IZ : Hid (∀ w, Laid w → Calls Tryd.prog 6 #[.float .f64 (fixB z)] w fun e w' => e = .returned (.string ⟨(text z).toArray⟩) ∧ Below w.heap.size w w') := fun w h => by
      have := realPrint_any (fixB z) (fix_lt z1) w h.1 h.2.1
      rwa [text_fix] at this
    have hbz : (text z == s.toList) = true := by rw [Lib.toList_data, beq_iff_eq]; exact z2.symm
    clear z1 z2
    go_wp2_with fail
    refine (IZ.out _ HL5.out).mono ?_
    rintro e w6 ⟨rfl, h7⟩
    have HB6 := Lib.hid (HB5.out.trans (h7.mono HB5.out.size))
    clear h7
    have HL6 := Lib.hid (laid_on HL.out HB6.out)
    go_wp2_with fail
    refine (live_any _ HL6.out.1).mono ?_
    rintro e w7 ⟨rfl, h8⟩
    have HB7 := Lib.hid (HB6.out.trans (h8.mono HB6.out.size))
    clear h8
    go_wp2
    go_ret
    exact ⟨rfl, HB7.out⟩
  · clear z1
    go_wp2_with fail
    refine (exact_any _ _ _).mono ?_
    rintro e w' ⟨rfl, rfl⟩
    go_wp2_with fail
    refine (live_any _ HL5.out.1).mono ?_
    rintro e w7 ⟨rfl, h8⟩
    have HB7 := Lib.hid (HB5.out.trans (h8.mono HB5.out.size))
    clear h8
    go_wp2
    go_ret
    exact ⟨rfl, HB7.out⟩
end Go.Proofs.YtgcgaaoncfgckabDoor
