/- The landed frame: a run that is opened (open). -/
import Derived.Test.YtclhbhhlddbocaaGreatDoorK12B
import Derived.Test.YtclhbhhlddbocaaGreatDoorFr2
import Derived.Test.YtclhbhhlddbocaaGreatDoorB03
import Derived.Test.YtclhbhhlddbocaaGreatDoorB16
import Derived.Deep.RegionHeld3
namespace Go.Proofs.YtclhbhhlddbocaaGreatDoor
open Go.RowKit

/-- what open answers -/
def OpnA (w : World) (r : Except Nat (List UInt8)) (e : Ending) (w' : World) : Prop := match r with
  | .error k => e = .returned (.tuple #[.slice none 0 0, .int .i64 (k : Nat)]) ∧ Below w.heap.size w w'
  | .ok b => ∃ g o cap, e = .returned (.tuple #[.slice (some ⟨g, o, none⟩) b.length cap, .int .i64 0]) ∧ At w' (some ⟨g, o, none⟩) b ∧ b.length ≤ cap ∧ w.heap.size ≤ g ∧ Below w.heap.size w w'

set_option maxRecDepth 100000 in
set_option maxHeartbeats 2000000 in
theorem openF (p : Option Addr) (c : Nat) (l : List UInt8) (hl : l.length ≤ 140737488351232) (hlc : l.length ≤ c) (w : World) (hv : Hv w) (h : At w p l) :
    Calls Tryz.prog 54 #[.slice p l.length c] w (OpnA w (Fr.open_ l)) := by
  obtain ⟨r, hr⟩ : ∃ r, r = Fr.open_ l := ⟨_, rfl⟩
  have HR : Hid (r = if 2200 < l.length then .error 2 else if (Cob.un l).1 ≠ 0 then .error (Cob.un l).1
    else if (Cob.un l).2.length < 5 then .error 30
    else if (Cob.un l).2.drop ((Cob.un l).2.length - 4) = Sch.le 4 (Crc.sum ((Cob.un l).2.take ((Cob.un l).2.length - 4))) then .ok ((Cob.un l).2.take ((Cob.un l).2.length - 4)) else .error 120) := hr
  rw [← hr]
  clear hr
  have HU := Lib.hid (unstuffK p c l w hl hlc h)
  have HHv := Lib.hid hv
  clear h hv
  by_cases h22 : 2200 < l.length
  · have g0 : (2200 : Int) < (l.length : Int) := by omega
    have HR2 : Hid (r = .error 2) := HR.out.trans (if_pos h22)
    clear HR h22
    go_enter Tryz.func54, Tryz.ntmps54
    go_wp2
    go_ret2
    rw [HR2.out]
    exact ⟨rfl, Below.refl _ _⟩
  have g0 : ¬ (2200 : Int) < (l.length : Int) := by omega
  have HR1 := Lib.hid (HR.out.trans (if_neg h22))
  have hul := Cob.un_length l
  unfold UnPost at HU
  obtain ⟨ue, hue⟩ : ∃ ue, ue = (Cob.un l).1 := ⟨_, rfl⟩
  obtain ⟨ub, hub⟩ : ∃ ub, ub = (Cob.un l).2 := ⟨_, rfl⟩
  rw [← hub] at HU hul HR1
  rw [← hue] at HU HR1
  clear HR hue hub
  go_enter Tryz.func54, Tryz.ntmps54
  go_wp2_with fail
  refine HU.out.mono ?_
  rintro e w1 ⟨q, cap, rfl, hat, hcap, hfr, hb⟩
  have HB1 := Lib.hid hb
  have HA1 := Lib.hid hat
  have HF1 := Lib.hid hfr
  clear hat hfr hb HU
  by_cases he : ue = 0
  · subst he
    have HR2 := Lib.hid (HR1.out.trans (if_neg (by omega)))
    clear HR1
    by_cases h5 : ub.length < 5
    · have g1 : (ub.length : Int) < 5 := by omega
      have HR3 : Hid (r = .error 30) := HR2.out.trans (if_pos h5)
      clear HR2 h5
      go_wp2
      go_ret2
      rw [HR3.out]
      exact ⟨rfl, HB1.out⟩
    have g1 : ¬ (ub.length : Int) < 5 := by omega
    have HR3 := Lib.hid (HR2.out.trans (if_neg h5))
    clear HR2
    obtain ⟨g, o, rfl, hg, hF⟩ := HF1.out (fun hc => by rw [hc] at h5; simp at h5)
    obtain ⟨K, hK⟩ : ∃ K, ub.length = K + 4 := ⟨ub.length - 4, by omega⟩
    have hK4 : ub.length - 4 = K := by omega
    rw [hK4] at HR3
    obtain ⟨b, hb⟩ : ∃ b, b = ub.take K := ⟨_, rfl⟩
    obtain ⟨s, hs⟩ : ∃ s, s = ub.drop K := ⟨_, rfl⟩
    have hbl : b.length = K := by rw [hb, List.length_take]; omega
    have hsl : s.length = 4 := by rw [hs, List.length_drop]; omega
    have HAb : Hid (At w1 (some ⟨g, o, none⟩) b) := by rw [hb]; exact .inr ⟨g, o, rfl, hF.1, cells_take hF.2.1 K⟩
    have HAs : Hid (At w1 (some ⟨g, o + K, none⟩) s) := by rw [hs]; exact .inr ⟨g, o + K, rfl, hF.1, cells_drop hF.2.1 K⟩
    rw [← hb, ← hs] at HR3
    have hKb : (K : Int) ≤ 2200 := by omega
    have g2 : (K : Int) ≤ (ub.length : Int) := by omega
    have g3 : (K : Int) ≤ (cap : Int) := by omega
    have hKe : ((ub.length : Nat) : Int) - 4 = (K : Int) := by omega
    have hc1 : cutH (some ⟨g, o, none⟩) cap = some ⟨g, o, none⟩ := by
      unfold cutH
      split
      · rfl
      · rw [Option.map_some, Lib.add_plain]; rfl
    have hc2 : cutP (some ⟨g, o, none⟩) K cap = some ⟨g, o + K, none⟩ := by
      unfold cutP
      rw [if_neg (by omega), Option.map_some, Lib.add_plain]
    have s1 : ∀ w', (Instr.slice 25 (.slice (some ⟨g, o, none⟩) (K + 4) cap) none (some (.int .i64 (K : Int))) none).run Tryz.prog w' = .ok (.slice (some ⟨g, o, none⟩) K cap) w' := fun w' => by
      have := run_cut_h (some ⟨g, o, none⟩) (K + 4) cap K (by omega) w'
      rw [hc1] at this
      exact this
    have s2 : ∀ w', (Instr.slice 25 (.slice (some ⟨g, o, none⟩) (K + 4) cap) (some (.int .i64 (K : Int))) none none).run Tryz.prog w' = .ok (.slice (some ⟨g, o + K, none⟩) 4 (cap - K)) w' := fun w' => by
      have := run_cut_l (some ⟨g, o, none⟩) (K + 4) cap K (by omega) w'
      rw [hc2, Nat.add_sub_cancel_left] at this
      exact this
    have HS : Hid (∀ w', Below w1.heap.size w1 w' → Calls Tryz.prog 93 #[.slice (some ⟨g, o, none⟩) K cap] w' fun e w'' => e = .returned (.slice (some ⟨w'.heap.size, 0, none⟩) 4 4) ∧ w'' = w'.alloc (.cells (cellsOf (Sch.le 4 (Crc.sum b))).toArray 5)) := fun w' hb' => by
      have := sumOfK (some ⟨g, o, none⟩) cap b (by omega) w' ((HHv.out.next HB1.out).next hb') (HAb.out.on hb')
      rw [hbl] at this
      exact this
    obtain ⟨k, hk⟩ : ∃ k, k = Sch.le 4 (Crc.sum b) := ⟨_, rfl⟩
    rw [← hk] at HS HR3
    have hkl : k.length = 4 := by rw [hk, Sch.le_len]
    have HE : Hid (∀ w' W, Below w1.heap.size w1 w' → W = w'.alloc (.cells (cellsOf k).toArray 5) → Calls Tryz.prog 102 #[.slice (some ⟨w'.heap.size, 0, none⟩) 4 4, .slice (some ⟨g, o + K, none⟩) 4 (cap - K)] W fun e w'' => e = .returned (.bool (k == s)) ∧ w'' = W) := fun w' W hb' hW => by
      have hb2 : Below w1.heap.size w1 W := by rw [hW]; exact hb'.alloc hb'.size _
      have := equalK (some ⟨w'.heap.size, 0, none⟩) (some ⟨g, o + K, none⟩) 4 (cap - K) k s W (by rw [hW]; exact at_lit w' _ k rfl) (HAs.out.on hb2)
      rw [hkl, hsl] at this
      exact this
    have HAl : Hid (∀ w' o', Below w1.heap.size w1 w' → Below w1.heap.size w1 (w'.alloc o')) := fun w' o' hb' => hb'.alloc hb'.size o'
    obtain ⟨t, ht⟩ : ∃ t, t = (k == s) := ⟨_, rfl⟩
    rw [← ht] at HE
    have HT := Lib.hid ht
    have HHb := Lib.hid hbl
    rw [hK]
    rw [hK] at hcap g1 g2
    clear hk hb hs hF h5 HF1 HA1 ht hK4 hKe hc1 hc2 hK hbl
    go_wp2_with fail
    go_region_held3 (fun _ => True) (trivial) (first
      | (go_at_call 93; refine (HS.out _ ((Below.refl _ _).drew)).mono ?_; rintro e w2 ⟨rfl, hw2⟩; have HW2 := Lib.hid hw2; clear hw2)
      | (go_at_call 102; refine (HE.out w1.drew _ ((Below.refl _ _).drew) HW2.out).mono ?_; rintro e w3 ⟨rfl, hw3⟩; have HW3 := Lib.hid hw3; clear hw3)
      | fail)
    have HB3 : Hid (Below w.heap.size w w3) := by
      rw [HW3.out, HW2.out]
      exact HB1.out.trans ((HAl.out _ _ ((Below.refl _ _).drew)).mono HB1.out.size)
    have HA3 : Hid (At w3 (some ⟨g, o, none⟩) b) := by
      have hb13 : Below w1.heap.size w1 w3 := by rw [HW3.out, HW2.out]; exact HAl.out _ _ ((Below.refl _ _).drew)
      exact HAb.out.on hb13
    cases t with
    | false =>
      have HR4 : Hid (r = .error 120) := by
        show _ = _
        rw [HR3.out, if_neg]
        intro hc
        have := HT.out
        rw [hc, beq_self_eq_true] at this
        cases this
      go_wp2
      go_ret2
      rw [HR4.out]
      exact ⟨rfl, HB3.out⟩
    | true =>
      have HR4 : Hid (r = .ok b) := by
        show _ = _
        have := HT.out.symm
        rw [beq_iff_eq] at this
        rw [HR3.out, if_pos this.symm]
      go_wp2
      go_ret2
      rw [HR4.out]
      exact ⟨g, o, cap, by rw [HHb.out]; rfl, HA3.out, by rw [HHb.out]; omega, hg, HB3.out⟩
  · have g1 : ((ue : Int) != 0) = true := by rw [bne_iff_ne]; omega
    have HR2 : Hid (r = .error ue) := HR1.out.trans (if_pos he)
    clear HR1 he
    go_wp2
    go_ret2
    rw [HR2.out]
    exact ⟨rfl, HB1.out⟩
end Go.Proofs.YtclhbhhlddbocaaGreatDoor
