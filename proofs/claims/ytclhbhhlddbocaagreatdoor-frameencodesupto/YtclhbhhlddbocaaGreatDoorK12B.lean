/- The landed frame: the check's bytes, a run that is sealed; bytes.Equal, bytes.Clone. -/
import Derived.Test.YtclhbhhlddbocaaGreatDoorK12A
import Derived.Test.YtclhbhhlddbocaaGreatDoorB03
import Derived.Test.YtclhbhhlddbocaaGreatDoorB01
import Derived.Test.YtclhbhhlddbocaaGreatDoorB02
namespace Go.Proofs.YtclhbhhlddbocaaGreatDoor
open Go.RowKit

theorem Hv.on {B : Nat} {w w' : World} (h : Hv w) (hb : Below B w w') (hB : 1 < B) : Hv w' := fun n hn => by
  rw [hb.cell (p := ⟨1, n, none⟩) hB]
  exact h n hn
theorem Hv.lt {w : World} (h : Hv w) : 1 < w.heap.size := World.block_lt_of_cell? _ _ (h 0 (by omega))
theorem Hv.next {w w' : World} (h : Hv w) (hb : Below w.heap.size w w') : Hv w' := h.on hb h.lt

theorem le4_cells (s : Nat) (a b c d : Int) (ha : a = ((s % 256 : Nat) : Int)) (hb : b = ((s / 256 % 256 : Nat) : Int)) (hc : c = ((s / 256 / 256 % 256 : Nat) : Int)) (hd : d = ((s / 256 / 256 / 256 % 256 : Nat) : Int)) :
    (#[.int .u8 a, .int .u8 b, .int .u8 c, .int .u8 d] : Array Value) = (cellsOf (Sch.le 4 s)).toArray := by
  subst ha hb hc hd
  simp only [Sch.le, cellsOf, List.map_cons, List.map_nil, UInt8.toNat_ofNat']
  simp

set_option maxHeartbeats 1000000 in
theorem sumOfK (p : Option Addr) (c : Nat) (l : List UInt8) (hl : l.length ≤ 140737488351232) (w : World) (ht : Hv w) (h : At w p l) :
    Calls Tryz.prog 93 #[.slice p l.length c] w fun e w' => e = .returned (.slice (some ⟨w.heap.size, 0, none⟩) 4 4) ∧ w' = w.alloc (.cells (cellsOf (Sch.le 4 (Crc.sum l))).toArray 5) := by
  have HS := Lib.hid (sum_any p c l hl w ht h)
  have hlt : Crc.sum l < 4294967296 := Crc.update_lt (by omega) l
  obtain ⟨s, hs⟩ : ∃ s, s = Crc.sum l := ⟨_, rfl⟩
  rw [← hs] at HS hlt ⊢
  clear hs ht h
  go_enter Tryz.func93, Tryz.ntmps93
  go_wp2_with fail
  refine HS.out.mono ?_
  rintro e w1 ⟨rfl, hw⟩
  rw [hw]
  clear hw w1 HS
  go_wp2
  go_ret
  refine ⟨rfl, congrArg (fun C => w.alloc (.cells C 5)) (le4_cells s _ _ _ _ ?_ ?_ ?_ ?_)⟩ <;> omega

set_option maxRecDepth 100000 in
set_option maxHeartbeats 1000000 in
theorem sealK (B : Nat) (p : Option Addr) (c : Nat) (l : List UInt8) (hl : l.length ≤ 10000000) (w : World) (ht : Hv w) (h : Has w B (.slice p l.length c) l) (hB : B ≤ w.heap.size) :
    Calls Tryz.prog 47 #[.slice p l.length c] w fun e w' => ∃ g o cap, e = .returned (.slice (some ⟨g, o, none⟩) (Cob.stuff (Fr.check l)).length cap) ∧ Free w' g o (Cob.stuff (Fr.check l)) ∧ w.heap.size ≤ g ∧ (Cob.stuff (Fr.check l)).length ≤ cap ∧ Below B w w' := by
  have HA : Hid (At w p l) := by
    obtain ⟨p', c', he, ha, -⟩ := h.at
    injection he with e1
    subst e1
    exact ha
  have HH := Lib.hid h
  have HS := Lib.hid (sumOfK p c l (by omega) w ht HA.out)
  have HL : Hid (At (w.alloc (.cells (cellsOf (Sch.le 4 (Crc.sum l))).toArray 5)) (some ⟨w.heap.size, 0, none⟩) (Sch.le 4 (Crc.sum l))) := at_lit w _ _ rfl
  have HB0 : Hid (Below w.heap.size w (w.alloc (.cells (cellsOf (Sch.le 4 (Crc.sum l))).toArray 5))) := (Below.refl _ _).alloc (Nat.le_refl _) _
  obtain ⟨k, hk⟩ : ∃ k, k = Sch.le 4 (Crc.sum l) := ⟨_, rfl⟩
  have hk4 : k.length = 4 := by rw [hk, Sch.le_len]
  have HC : Hid (Fr.check l = l ++ k) := by show _ = _; rw [hk]; rfl
  rw [← hk] at HS HL HB0
  obtain ⟨W0, hW0⟩ : ∃ W0, W0 = w.alloc (.cells (cellsOf k).toArray 5) := ⟨_, rfl⟩
  rw [← hW0] at HS HL HB0
  have hs0 := HB0.out.size
  clear hW0 hk ht h
  go_enter Tryz.func47, Tryz.ntmps47
  go_wp2_with fail
  refine HS.out.mono ?_
  rintro e w1 ⟨rfl, hw⟩
  rw [hw]
  clear hw w1 HS
  go_wp2_with (first
    | (at_builtin
       refine wp_ontoL (c := 4) (HH.out.on HB0.out) HL.out (by omega) (by omega) rfl rfl rfl rfl (by rw [hk4]; rfl) ?_
       intro ys q cap W HY hh ha hk2
       have HB2 := Lib.hid (aside_low ha (HH.out.on HB0.out) (by omega))
       have HYs := Lib.hid hh
       have hyl : ys.length ≤ 10000010 := by rw [HY.out, List.length_append]; omega
       clear ha hk2 hh)
    | fail)
  obtain ⟨q', cap', he, hA2, hcap⟩ := HYs.out.at
  injection he with e1 _ e2
  subst e1 e2
  have hs2 := HB2.out.size
  refine (stuffK_stuff q cap ys W (by omega) hcap hA2).mono ?_
  rintro e w2 ⟨g, o, cap2, rfl, hF, hg, hc2, hb⟩
  have HF := Lib.hid hF
  have HB3 := Lib.hid hb
  clear hF hb hA2
  have HEq : Hid (Fr.check l = ys) := by show _ = _; rw [HC.out, HY.out]
  go_wp2
  go_ret
  rw [HEq.out]
  exact ⟨g, o, cap2, rfl, HF.out, by omega, hc2, ((HB0.out.mono hB).trans HB2.out).trans (HB3.out.mono (by omega))⟩

set_option maxRecDepth 100000 in
set_option maxHeartbeats 1000000 in
theorem equalK (p q : Option Addr) (c d : Nat) (a b : List UInt8) (w : World) (ha : At w p a) (hb : At w q b) :
    Calls Tryz.prog 102 #[.slice p a.length c, .slice q b.length d] w fun e w' => e = .returned (.bool (a == b)) ∧ w' = w := by
  have h1 := conv_str ha c
  have h2 := conv_str hb d
  have HE : Hid (((textOf a).toList == (textOf b).toList) = (a == b)) := by
    show _ = _
    rw [ByteArray.toList_eq, ByteArray.toList_eq, textOf_data, textOf_data]
  clear ha hb
  generalize textOf a = x at h1 HE
  generalize textOf b = y at h2 HE
  go_enter Tryz.func102, Tryz.ntmps102
  go_wp2
  go_ret
  exact ⟨by rw [← HE.out]; rfl, rfl⟩

theorem nil_none (n c : Nat) (w : World) : (binOp .eql 25 (.slice none n c) (.slice none 0 0)).run Tryz.prog w = .ok (.bool true) w := by kernel_rfl
theorem nil_some (a : Addr) (n c : Nat) (w : World) : (binOp .eql 25 (.slice (some a) n c) (.slice none 0 0)).run Tryz.prog w = .ok (.bool false) w := by kernel_rfl

set_option maxRecDepth 100000 in
set_option maxHeartbeats 1000000 in
theorem cloneK (p : Option Addr) (c : Nat) (l : List UInt8) (hl : l.length ≤ 140737488351232) (w : World) (h : At w p l) :
    Calls Tryz.prog 140 #[.slice p l.length c] w fun e w' => ∃ q cap, e = .returned (.slice q l.length cap) ∧ Has w' w.heap.size (.slice q l.length cap) l ∧ Below w.heap.size w w' := by
  cases p with
  | none =>
    have h0 : l = [] := by
      rcases h with rfl | ⟨b, o, hp, _, _⟩
      · rfl
      · cases hp
    subst h0
    have hq := nil_none 0 c w
    go_enter Tryz.func140, Tryz.ntmps140
    go_wp2
    go_ret
    exact ⟨none, 0, rfl, has_nil _ _, Below.refl _ _⟩
  | some a =>
    have HA := Lib.hid (h.on ((Below.refl _ w).alloc (Nat.le_refl _) (.cells #[] 5)))
    have HM := Lib.hid (mine_new w).has
    have HB : Hid (Below w.heap.size w (w.alloc (.cells #[] 5))) := (Below.refl _ _).alloc (Nat.le_refl _) _
    have hq := nil_some a l.length c w
    clear h
    go_enter Tryz.func140, Tryz.ntmps140
    go_wp2_with (first
      | (at_builtin
         refine wp_ontoL (xs := []) HM.out HA.out (by simp; omega) (by simp) rfl rfl rfl rfl rfl ?_
         intro ys q cap W HY hh ha hk2
         have HB2 := Lib.hid (aside_low ha HM.out (by simp))
         have HYs := Lib.hid hh
         clear ha hk2 hh)
      | fail)
    go_ret
    have e : ys = l := HY.out
    rw [e] at HYs
    rw [e]
    exact ⟨q, cap, rfl, HYs.out, HB.out.trans HB2.out⟩
end Go.Proofs.YtclhbhhlddbocaaGreatDoor
