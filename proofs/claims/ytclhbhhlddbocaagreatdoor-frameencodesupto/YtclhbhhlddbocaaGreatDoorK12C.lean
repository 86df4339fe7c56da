/- The landed frame: what each kind's fields are as bytes (encode). -/
import Derived.Test.YtclhbhhlddbocaaGreatDoorK12B
import Derived.Test.YtclhbhhlddbocaaGreatDoorFLies
import Derived.Test.YtclhbhhlddbocaaGreatDoorB15
import Derived.Deep.RegionHeld3
namespace Go.Proofs.YtclhbhhlddbocaaGreatDoor
open Go.RowKit

theorem ints_at {w : World} {H : Nat} (hH : w.heap.size = H) (l : List Int) {C : Array Value} (h : C = (l.map fun n => Value.int .i64 n).toArray) : Ints (w.alloc (.cells C 2)) H l := by
  subst hH
  exact ints_new w l h
/-- what a kind's encode answers: the fields' bytes in a slice of the call's own, or the error -/
def EncF (w : World) (er : Nat) (l : List UInt8) (e : Ending) (w' : World) : Prop :=
  (er = 0 ∧ ∃ q cap, e = .returned (.tuple #[.slice q l.length cap, .int .i64 0]) ∧ Has w' w.heap.size (.slice q l.length cap) l ∧ Below w.heap.size w w') ∨ (er ≠ 0 ∧ e = .returned (.tuple #[.slice none 0 0, .int .i64 (er : Nat)]) ∧ Below w.heap.size w w')
theorem encF_bad {w w' : World} {er : Nat} {l : List UInt8} (h : er ≠ 0) (hb : Below w.heap.size w w') : EncF w er l (.returned (.tuple #[.slice none 0 0, .int .i64 (er : Nat)])) w' := .inr ⟨h, rfl, hb⟩

def schErr (n : Int) (s : List Col) : Nat := if Fr.within Fr.N n = false then 7 else Sch.err s

set_option maxRecDepth 100000 in
set_option maxHeartbeats 2000000 in
theorem schemaEncK (n : Int) (hn : Fr.i64 n) (s : List Col) (sp : Option Addr) (sc : Nat) (w : World) (hs : s.length * 120 ≤ 140737488351232) (hx : Cols w sp s) (hwf : ∀ x ∈ s, x.wf) :
    Calls Tryz.prog 243 #[.agg #[.int .i64 n, .slice sp s.length sc]] w (EncF w (schErr n s) (Fr.nums [n] ++ Sch.bytes s)) := by
  obtain ⟨w0, hw0⟩ : ∃ w0, w0 = w.alloc (.cells #[.int .i64 n, .slice sp s.length sc] 142) := ⟨_, rfl⟩
  have hz0 : w0.heap.size = w.heap.size + 1 := by rw [hw0]; simp
  have HB0 : Hid (Below w.heap.size w w0) := by rw [hw0]; exact (Below.refl _ _).alloc (Nat.le_refl _) _
  have c0 : w0.cell? ⟨w.heap.size, 0, none⟩ = some (.int .i64 n) := by rw [hw0]; simp
  have c1 : w0.cell? ⟨w.heap.size, 1, none⟩ = some (.slice sp s.length sc) := by rw [hw0]; simp
  obtain ⟨w1, hw1⟩ : ∃ w1, w1 = w0.alloc (.cells #[.int .i64 n] 2) := ⟨_, rfl⟩
  have HI : Hid (Ints w1 (w.heap.size + 1) [n]) := by rw [hw1]; exact ints_at hz0 [n] rfl
  have HB01 : Hid (Below w0.heap.size w0 w1) := by rw [hw1]; exact (Below.refl _ _).alloc (Nat.le_refl _) _
  have HB1 : Hid (Below w.heap.size w w1) := HB0.out.trans (HB01.out.mono (by omega))
  have hz1 : w1.heap.size = w.heap.size + 2 := by rw [hw1]; simp [hz0]
  have d0 : w1.cell? ⟨w.heap.size, 0, none⟩ = some (.int .i64 n) := cell_on HB01.out c0
  have d1 : w1.cell? ⟨w.heap.size, 1, none⟩ = some (.slice sp s.length sc) := cell_on HB01.out c1
  have HBl := Lib.hid (belowK 2147483648 (w.heap.size + 1) [n] (by simp) w1 HI.out)
  have e1 : [n].all (Fr.within 2147483648) = Fr.within Fr.N n := by simp [Fr.N]
  rw [e1] at HBl
  have HW : Hid ((w.alloc (.cells #[.int .i64 n, .slice sp s.length sc] 142)).alloc (.cells #[.int .i64 n] 2) = w1) := by rw [hw1, hw0]; exact rfl
  have HN := Lib.hid hn
  obtain ⟨er, her⟩ : ∃ er, er = schErr n s := ⟨_, rfl⟩
  have HEr := Lib.hid her
  rw [← her]
  have HX := Lib.hid hx
  have HWf := Lib.hid hwf
  clear e1 hw0 hw1 hn her hx hwf c0 c1 HI HB01
  by_cases hin : Fr.within Fr.N n = true
  · rw [hin] at HBl
    have HEr2 : Hid (er = Sch.err s) := by
      show _ = _
      rw [HEr.out, schErr, hin]
      rfl
    have h0n := (Fr.within_iff.1 hin).1
    have HE := Lib.hid (encodeK s sp sc w1 hs (HX.out.on HB1.out) HWf.out)
    clear HEr hin
    by_cases hz : Sch.err s = 0
    · have HEr3 : Hid (er = 0) := HEr2.out.trans hz
      have hbl : (Sch.bytes s).length ≤ 1024 := (Sch.err_open hz).2.2.2
      rw [show encB s = Sch.bytes s from if_pos hz, hz] at HE
      obtain ⟨bs, hbs⟩ : ∃ bs, bs = Sch.bytes s := ⟨_, rfl⟩
      rw [← hbs] at HE hbl ⊢
      clear hz HEr2 hbs
      go_enter Tryz.func243, Tryz.ntmps243
      go_wp2_with fail
      rw [HW.out]
      refine HBl.out.mono ?_
      rintro e w2 ⟨rfl, hw⟩
      rw [hw]
      clear hw w2 HBl HW
      go_wp2_with fail
      refine HE.out.mono ?_
      rintro e w2 ⟨q, cap, rfl, hat, hcap, hb⟩
      have e0 : w2.cell? ⟨w.heap.size, 0, none⟩ = some (.int .i64 n) := cell_on hb d0
      have HA := Lib.hid hat
      have HB2 := Lib.hid (HB1.out.trans (hb.mono (by omega)))
      have hs2 := HB2.out.size
      clear hat hcap hb HE d0 d1
      have HI2 : Hid (Ints (w2.alloc (.cells #[.int .i64 n] 2)) w2.heap.size [n]) := ints_new w2 [n] rfl
      have HB3 : Hid (Below w2.heap.size w2 (w2.alloc (.cells #[.int .i64 n] 2))) := (Below.refl _ _).alloc (Nat.le_refl _) _
      have HP := Lib.hid (putsK w2.heap.size [n] (by simp) (fun m hm => by simp at hm; subst hm; exact ⟨h0n, HN.out.2⟩) _ HI2.out)
      go_wp2_with fail
      refine HP.out.mono ?_
      rintro e w3 ⟨p3, cap3, rfl, hh, hb⟩
      have HH := Lib.hid (hh.lower (B' := w2.heap.size) HB3.out.size)
      have HB4 := Lib.hid (HB3.out.trans (hb.mono HB3.out.size))
      have HA3 := Lib.hid (HA.out.on HB4.out)
      have hs3 := HB4.out.size
      clear hh hb HP HI2 HB3
      have hnl : (Fr.nums [n]).length ≤ 10 := by
        have := Leb.put_length_le n.toNat
        rw [Fr.nums_cons, Fr.nums_nil, List.append_nil]
        exact this
      obtain ⟨ns, hns⟩ : ∃ ns, ns = Fr.nums [n] := ⟨_, rfl⟩
      rw [← hns] at HH hnl ⊢
      have HNs := Lib.hid hns
      clear hns
      go_wp2_with (first
        | (at_builtin
           refine wp_ontoL HH.out HA3.out (by omega) hs3 rfl rfl rfl rfl rfl ?_
           intro ys q5 cap5 W HY hh ha hk2
           have HB5 := Lib.hid (aside_low ha HH.out hs3)
           have HYs := Lib.hid hh
           clear ha hk2 hh)
        | fail)
      go_ret2
      have e : Fr.nums [n] ++ bs = ys := by rw [HY.out, HNs.out]
      rw [e]
      exact .inl ⟨HEr3.out, q5, cap5, rfl, HYs.out.lower (by omega), (HB2.out.trans (HB4.out.mono (by omega))).trans (HB5.out.mono (by omega))⟩
    · have hne : er ≠ 0 := by rw [HEr2.out]; exact hz
      have hb2 : ((er : Int) != 0) = true := by rw [bne_iff_ne]; omega
      rw [show encB s = [] from if_neg hz, ← HEr2.out] at HE
      clear hz HEr2
      go_enter Tryz.func243, Tryz.ntmps243
      go_wp2_with fail
      rw [HW.out]
      refine HBl.out.mono ?_
      rintro e w2 ⟨rfl, hw⟩
      rw [hw]
      clear hw w2 HBl HW
      go_wp2_with fail
      refine HE.out.mono ?_
      rintro e w2 ⟨q, cap, rfl, hat, hcap, hb⟩
      have HB2 := Lib.hid (HB1.out.trans (hb.mono (by omega)))
      clear hat hcap hb HE
      go_wp2
      go_ret2
      exact encF_bad hne HB2.out
  · have hin2 : Fr.within Fr.N n = false := by simpa using hin
    rw [hin2] at HBl
    have HEr2 : Hid (er = 7) := by
      show _ = _
      rw [HEr.out, schErr, hin2]
      rfl
    clear HEr hin hin2
    go_enter Tryz.func243, Tryz.ntmps243
    go_wp2_with fail
    rw [HW.out]
    refine HBl.out.mono ?_
    rintro e w2 ⟨rfl, hw⟩
    rw [hw]
    clear hw w2 HBl HW
    go_wp2
    go_ret2
    rw [HEr2.out]
    exact encF_bad (by omega) HB1.out
end Go.Proofs.YtclhbhhlddbocaaGreatDoor
