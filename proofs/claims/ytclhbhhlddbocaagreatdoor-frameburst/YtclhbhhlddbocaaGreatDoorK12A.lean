/- The landed frame: numbers that are tested and put (below, put). -/
import Derived.Test.YtclhbhhlddbocaaGreatDoorFr
import Derived.Test.YtclhbhhlddbocaaGreatDoorB09
import Derived.Test.YtclhbhhlddbocaaGreatDoorB01
namespace Go.Proofs.YtclhbhhlddbocaaGreatDoor
open Go.RowKit

/-- numbers lie in a block -/
def Ints (w : World) (b : Nat) (l : List Int) : Prop := b < w.heap.size ∧ ∀ j (h : j < l.length), w.cell? ⟨b, j, none⟩ = some (.int .i64 l[j])
theorem Ints.on {w w' : World} {b : Nat} {l : List Int} (h : Ints w b l) (hb : Below w.heap.size w w') : Ints w' b l :=
  ⟨Nat.lt_of_lt_of_le h.1 hb.size, fun j hj => by rw [hb.cell (p := ⟨b, j, none⟩) h.1]; exact h.2 j hj⟩
theorem ints_new (w : World) (l : List Int) {C : Array Value} (h : C = (l.map fun n => Value.int .i64 n).toArray) : Ints (w.alloc (.cells C 2)) w.heap.size l := by
  subst h
  refine ⟨by simp, fun j hj => ?_⟩
  rw [World.cell?_alloc_new]
  simp [hj]

set_option maxHeartbeats 1000000 in
theorem belowK (lim : Int) (b : Nat) (l : List Int) (hl : l.length ≤ 100) (w : World) (h : Ints w b l) :
    Calls Tryz.prog 245 #[.int .i64 lim, .slice (some ⟨b, 0, none⟩) l.length l.length] w fun e w' => e = .returned (.bool (l.all (Fr.within lim))) ∧ w' = w := by
  have H := Lib.hid h
  clear h
  obtain ⟨R, hR⟩ : ∃ R, R = l.all (Fr.within lim) := ⟨_, rfl⟩
  rw [← hR]
  have HR := Lib.hid hR
  clear hR
  go_enter Tryz.func245, Tryz.ntmps245
  go_wp2
  go_loop [9] (fun v9 => ∃ k : Nat, k ≤ l.length ∧ v9 = .int .i64 k ∧ Hid ((l.take k).all (Fr.within lim) = true)) (fun v9 => l.length - (intOf v9).toNat)
  case atStart => exact ⟨0, by omega, rfl, rfl⟩
  case round =>
    obtain ⟨k, hk, rfl, HA⟩ := hrel
    by_cases hlt : k < l.length
    · have hlt' : (k : Int) < (l.length : Int) := by omega
      have hc := H.out.2 k hlt
      obtain ⟨n, hn⟩ : ∃ n, n = l[k] := ⟨_, rfl⟩
      rw [← hn] at hc
      have HN : Hid (n ∈ l) := by show n ∈ l; rw [hn]; exact List.getElem_mem hlt
      have HT : Hid (Fr.within lim n = true → (l.take (k + 1)).all (Fr.within lim) = true) := fun hh => by
        rw [List.take_succ_eq_append_getElem hlt, List.all_append, HA.out, ← hn]
        simp [hh]
      have HF : Hid (Fr.within lim n = false → R = false) := fun hh => by
        rw [HR.out, List.all_eq_false]
        exact ⟨n, HN.out, by rw [hh]; decide⟩
      clear hn HN HA
      by_cases hneg : n < 0
      · have HF2 : Hid (R = false) := HF.out (decide_eq_false (by omega))
        clear HF HT
        go_wp2
        go_ret
        exact ⟨by rw [HF2.out]; rfl, rfl⟩
      · by_cases hge : lim ≤ n
        · have HF2 : Hid (R = false) := HF.out (decide_eq_false (by omega))
          clear HF HT
          go_wp2
          go_ret
          exact ⟨by rw [HF2.out]; rfl, rfl⟩
        · have HT2 : Hid ((l.take (k + 1)).all (Fr.within lim) = true) := HT.out (decide_eq_true (by omega))
          clear HF HT
          go_wp2
          go_round
          case rel => exact ⟨k + 1, by omega, by go_num, HT2⟩
          case measure => simp [intOf]; omega
    · have hkk : k = l.length := by omega
      subst hkk
      have HT : Hid (R = true) := by
        show _ = _
        rw [HR.out, ← HA.out, List.take_length]
      clear HA
      go_wp2
      go_ret
      exact ⟨by rw [HT.out]; rfl, rfl⟩

theorem nums_take_succ (l : List Int) (k : Nat) (h : k < l.length) : Fr.nums (l.take (k + 1)) = Fr.nums (l.take k) ++ Leb.put l[k].toNat := by
  unfold Fr.nums
  rw [List.take_succ_eq_append_getElem h, List.map_append, List.flatten_append]
  simp

set_option maxRecDepth 100000 in
set_option maxHeartbeats 1000000 in
theorem putsK (b : Nat) (l : List Int) (hl : l.length ≤ 100) (hw : ∀ n ∈ l, 0 ≤ n ∧ n ≤ 9223372036854775807) (w : World) (h : Ints w b l) :
    Calls Tryz.prog 246 #[.slice (some ⟨b, 0, none⟩) l.length l.length] w fun e w' => ∃ p cap, e = .returned (.slice p (Fr.nums l).length cap) ∧ Has w' w.heap.size (.slice p (Fr.nums l).length cap) (Fr.nums l) ∧ Below w.heap.size w w' := by
  have H := Lib.hid h
  have HW := Lib.hid hw
  clear h hw
  go_enter Tryz.func246, Tryz.ntmps246
  go_wp2
  go_loopw [3, 8] (fun v3 v8 wr => ∃ (k : Nat) (xs : List UInt8), k ≤ l.length ∧ v8 = .int .i64 k ∧ xs.length ≤ 10 * k ∧ Hid (xs = Fr.nums (l.take k) ∧ Has wr w.heap.size v3 xs ∧ Below w.heap.size w wr)) (fun _ v8 _ => l.length - (intOf v8).toNat)
  case atStart => exact ⟨0, [], by omega, rfl, by simp, rfl, has_nil _ _, Below.refl _ _⟩
  case round =>
    obtain ⟨k, xs, hk, rfl, hx, HK⟩ := hrel
    have hB := HK.out.2.2.size
    have HO := Lib.hid HK.out.2.1
    by_cases hlt : k < l.length
    · have hlt' : (k : Int) < (l.length : Int) := by omega
      have hc : wr.cell? ⟨b, k, none⟩ = some (.int .i64 l[k]) := (HK.out.2.2.cell (p := ⟨b, k, none⟩) H.out.1).trans (H.out.2 k hlt)
      have hb2 := HW.out l[k] (List.getElem_mem hlt)
      have HT := Lib.hid (nums_take_succ l k hlt)
      obtain ⟨m, hm⟩ : ∃ m : Nat, (m : Int) = l[k] := ⟨l[k].toNat, by omega⟩
      rw [← hm] at hc hb2 HT
      have hm63 : (m : Int) ≤ 9223372036854775807 := hb2.2
      have HP : Hid (∀ z : Int, z = (m : Int) → Calls Tryz.prog 149 #[.int .u64 z] wr fun e w' => ∃ g cap, e = .returned (.slice (some ⟨g, 0, none⟩) (Leb.put m).length cap) ∧ Mine w' wr.heap.size g cap (Leb.put m) ∧ Below wr.heap.size wr w') := fun z hz => by
        subst hz; exact put_any _ (by omega) wr
      have hpl := Leb.put_length_le m
      have HT2 : Hid (Fr.nums (l.take (k + 1)) = Fr.nums (l.take k) ++ Leb.put m) := by
        show _ = _
        rw [HT.out, Int.toNat_natCast]
      clear hm hb2 HT
      obtain ⟨u, hu⟩ : ∃ u, u = Leb.put m := ⟨_, rfl⟩
      rw [← hu] at HP hpl HT2
      clear hu
      go_wp2_with fail
      refine (HP.out _ (by omega)).mono ?_
      rintro e w1 ⟨g, cap1, rfl, hmn, hb1⟩
      have HM := Lib.hid hmn
      have HB1 := Lib.hid hb1
      have hB1 := hb1.size
      clear hmn hb1 HP
      go_wp2_with (first
        | (at_builtin
           refine wp_ontoL (HO.out.on HB1.out) HM.out.at (by omega) (by omega) rfl rfl rfl rfl rfl ?_
           intro ys q3 cap3 W HY hh ha hk2
           have HB2 := Lib.hid (aside_low ha (HO.out.on HB1.out) (by omega))
           have HH := Lib.hid hh
           have hyl : ys.length ≤ 10 * (k + 1) := by rw [HY.out, List.length_append]; omega
           clear ha hk2 hh)
        | fail)
      go_roundw
      case rel => exact ⟨k + 1, ys, by omega, by go_num, hyl, by rw [HY.out, HT2.out, HK.out.1], HH.out, (HK.out.2.2.trans (HB1.out.mono hB)).trans HB2.out⟩
      case measure => simp [intOf]; omega
    · have hkk : k = l.length := by omega
      subst hkk
      have HX : Hid (xs = Fr.nums l) := by
        show _ = _
        rw [HK.out.1, List.take_length]
      obtain ⟨p, cap, rfl, -, -⟩ := HO.out.at
      go_wp2
      go_ret
      rw [← HX.out]
      exact ⟨p, cap, rfl, HO.out, HK.out.2.2⟩
end Go.Proofs.YtclhbhhlddbocaaGreatDoor
