/- WUtfR: put together. -/
import Derived.Test.YtpkbdnilakaakaaGreatM06
import Derived.Test.YtpkbdnilakaakaaGreatM04

/- The document's Utf. -/
namespace Go.Proofs.YtpkbdnilakaakaaGreat
open Go.RowKit

theorem text_get (t : ByteArray) (i : Nat) (h : i < t.size) : t.data.toList[i]'(by simpa using h) = t[i] := by rw [Array.getElem_toList]; rfl

set_option maxRecDepth 100000 in
set_option maxHeartbeats 1000000 in
theorem refUtf6 (t : ByteArray) (ht : t.size ≤ 281474976702464) (w : World) : Calls Tryz.prog 88 #[.string t] w fun e w' => e = .returned (.bool (U8.utf t.data.toList)) ∧ w' = w := by
  go_enter Tryz.func88, Tryz.ntmps88
  go_wp2
  go_loop [3, 4, 5, 6, 7, 16, 19, 28, 37] (fun v3 _ _ _ _ _ _ _ _ => ∃ a : Nat, a ≤ t.size ∧ v3 = .int .i64 a ∧ Hid (U8.utf t.data.toList = U8.utf (t.data.toList.drop a))) (fun v3 _ _ _ _ _ _ _ _ => t.size - (intOf v3).toNat)
  case atStart => exact ⟨0, by omega, rfl, rfl⟩
  case round =>
    obtain ⟨a, ha, rfl, HU⟩ := hrel
    by_cases hlt : a < t.size
    · have hlt' : (a : Int) < (t.size : Int) := by omega
      have hc2 := t[a].toNat_lt
      have hll : t.data.toList.length = t.size := by simp
      have hla : a < t.data.toList.length := by omega
      have hne : t.data.toList.drop a ≠ [] := by
        intro hc
        have := congrArg List.length hc
        rw [List.length_drop] at this
        simp at this
        omega
      by_cases k1 : t[a].toNat < 128
      · have k1' : (t[a].toNat : Int) < 128 := by omega
        have HK : Hid (U8.kind t.data.toList[a].toNat = some (1, t[a].toNat - 0, 0)) := by
          show _ = _
          rw [text_get t a hlt]
          unfold U8.kind
          rw [if_pos (by omega), Nat.sub_zero]
        have hsub : ((t[a].toNat : Int) - 0) = ((t[a].toNat - 0 : Nat) : Int) := by omega
        have HI0 := Lib.hid (U8.in_start t.data.toList a 1 (t[a].toNat - 0) (by omega))
        go_wp2
        go_loop [4, 7] (fun v4 v7 => ∃ i v : Nat, 1 ≤ i ∧ i ≤ 1 ∧ v4 = .int .i64 v ∧ v7 = .int .i64 i ∧ Hid (U8.Inner t.data.toList a 1 (t[a].toNat - 0) i v)) (fun _ v7 => 1 - (intOf v7).toNat)
        case atStart => exact ⟨1, t[a].toNat - 0, by omega, by omega, rfl, rfl, HI0.out⟩
        case round =>
          obtain ⟨i, v, hi1, hin, rfl, rfl, HI⟩ := hrel
          clear HI0
          have hii : i = 1 := by omega
          subst hii
          have HE := Lib.hid (U8.in_end HI.out)
          have hv5 := HI.out.2.2.2.2
          by_cases q2 : 1114111 < v
          · have q2' : (1114111 : Int) < (v : Int) := by omega
            have HB : Hid (U8.utf t.data.toList = false) := by
              show _ = _
              have hm : U8.may 0 v = false := by simp [U8.may]; omega
              have ho := U8.one_may hla HK.out HE.out
              rw [hm] at ho
              rw [HU.out]
              exact U8.utf_bad hne ho
            clear HI HE HK HU
            go_wp2
            go_ret
            exact ⟨by rw [HB.out]; rfl, rfl⟩
          have q2' : ¬ (1114111 : Int) < (v : Int) := by omega
          by_cases q3 : 55296 ≤ v
          · have q3' : (55296 : Int) ≤ (v : Int) := by omega
            by_cases q4 : v ≤ 57343
            · have q4' : (v : Int) ≤ 57343 := by omega
              have HB : Hid (U8.utf t.data.toList = false) := by
                show _ = _
                have hm : U8.may 0 v = false := by simp [U8.may]; omega
                have ho := U8.one_may hla HK.out HE.out
                rw [hm] at ho
                rw [HU.out]
                exact U8.utf_bad hne ho
              clear HI HE HK HU
              go_wp2
              go_ret
              exact ⟨by rw [HB.out]; rfl, rfl⟩
            have q4' : ¬ (v : Int) ≤ 57343 := by omega
            have HG : Hid (U8.utf t.data.toList = U8.utf (t.data.toList.drop (a + 1)) ∧ a + 1 ≤ t.size) := by
              have hm : U8.may 0 v = true := by simp [U8.may]; omega
              have ho := U8.one_may hla HK.out HE.out
              rw [hm, if_pos rfl] at ho
              have hlen := (U8.one_len ho).2
              rw [List.length_drop, hll] at hlen
              refine ⟨?_, by omega⟩
              rw [HU.out, U8.utf_step ho, List.drop_drop]
            clear HI HE HK HU
            go_wp2
            go_round
            case rel => exact ⟨a + 1, HG.out.2, by go_num, HG.out.1⟩
            case measure => simp [intOf]; omega
          have q3' : ¬ (55296 : Int) ≤ (v : Int) := by omega
          have HG : Hid (U8.utf t.data.toList = U8.utf (t.data.toList.drop (a + 1)) ∧ a + 1 ≤ t.size) := by
            have hm : U8.may 0 v = true := by simp [U8.may]; omega
            have ho := U8.one_may hla HK.out HE.out
            rw [hm, if_pos rfl] at ho
            have hlen := (U8.one_len ho).2
            rw [List.length_drop, hll] at hlen
            refine ⟨?_, by omega⟩
            rw [HU.out, U8.utf_step ho, List.drop_drop]
          clear HI HE HK HU
          go_wp2
          go_round
          case rel => exact ⟨a + 1, HG.out.2, by go_num, HG.out.1⟩
          case measure => simp [intOf]; omega
      have k1' : ¬ (t[a].toNat : Int) < 128 := by omega
      by_cases k2 : 192 ≤ t[a].toNat ∧ t[a].toNat < 224
      · obtain ⟨k2a, k2b⟩ := k2
        have k2a' : (192 : Int) ≤ (t[a].toNat : Int) := by omega
        have k2b' : (t[a].toNat : Int) < 224 := by omega
        have HK : Hid (U8.kind t.data.toList[a].toNat = some (2, t[a].toNat - 192, 128)) := by
          show _ = _
          rw [text_get t a hlt]
          unfold U8.kind
          rw [if_neg (by omega), if_pos (by omega)]
        have hsub : ((t[a].toNat : Int) - 192) = ((t[a].toNat - 192 : Nat) : Int) := by omega
        have HI0 := Lib.hid (U8.in_start t.data.toList a 2 (t[a].toNat - 192) (by omega))
        go_wp2
        go_loop [4, 7] (fun v4 v7 => ∃ i v : Nat, 1 ≤ i ∧ i ≤ 2 ∧ v4 = .int .i64 v ∧ v7 = .int .i64 i ∧ Hid (U8.Inner t.data.toList a 2 (t[a].toNat - 192) i v)) (fun _ v7 => 2 - (intOf v7).toNat)
        case atStart => exact ⟨1, t[a].toNat - 192, by omega, by omega, by go_num, rfl, HI0.out⟩
        case round =>
          obtain ⟨i, v, hi1, hin, rfl, rfl, HI⟩ := hrel
          clear HI0
          by_cases hi : i < 2
          · have hi' : (i : Int) < 2 := by omega
            have hv3 := HI.out.2.2.2.1 (by omega)
            by_cases hs : t.size ≤ a + i
            · have hs' : (t.size : Int) ≤ (a : Int) + (i : Int) := by omega
              have HB : Hid (U8.utf t.data.toList = false) := by
                show _ = _
                rw [HU.out]
                exact U8.utf_bad hne (U8.one_none hla HK.out (U8.in_short HI.out hi (by omega)))
              clear HI HK HU
              go_wp2
              go_ret
              exact ⟨by rw [HB.out]; rfl, rfl⟩
            have hs' : ¬ (t.size : Int) ≤ (a : Int) + (i : Int) := by omega
            have hs2 : a + i < t.size := by omega
            have hs3 : (a : Int) + (i : Int) < (t.size : Int) := by omega
            have hte := text_get t (a + i) hs2
            by_cases hb : 128 ≤ t[a + i].toNat ∧ t[a + i].toNat < 192
            · have HN := Lib.hid (U8.in_next HI.out hi1 hi (by omega) (by omega) (by rw [hte]; exact hb))
              rw [hte] at HN
              obtain ⟨hb1, hb2⟩ := hb
              have hb1' : ¬ (t[a + i].toNat : Int) < 128 := by omega
              have hb2' : ¬ (192 : Int) ≤ (t[a + i].toNat : Int) := by omega
              clear HI HK HU hte
              go_wp2
              go_round
              case rel => exact ⟨i + 1, _, by omega, by omega, by go_num, by go_num, HN⟩
              case measure => simp [intOf]; omega
            · have HB : Hid (U8.utf t.data.toList = false) := by
                show _ = _
                rw [HU.out]
                exact U8.utf_bad hne (U8.one_none hla HK.out (U8.in_bad HI.out hi (by omega) (by rw [hte]; exact hb)))
              clear HI HK HU hte
              by_cases hb1 : t[a + i].toNat < 128
              · have hb1' : (t[a + i].toNat : Int) < 128 := by omega
                go_wp2
                go_ret
                exact ⟨by rw [HB.out]; rfl, rfl⟩
              · have hb1' : ¬ (t[a + i].toNat : Int) < 128 := by omega
                have hb2' : (192 : Int) ≤ (t[a + i].toNat : Int) := by omega
                go_wp2
                go_ret
                exact ⟨by rw [HB.out]; rfl, rfl⟩
          have hii : i = 2 := by omega
          subst hii
          have HE := Lib.hid (U8.in_end HI.out)
          have hv5 := HI.out.2.2.2.2
          by_cases q1 : v < 128
          · have q1' : (v : Int) < 128 := by omega
            have HB : Hid (U8.utf t.data.toList = false) := by
              show _ = _
              have hm : U8.may 128 v = false := by simp [U8.may]; omega
              have ho := U8.one_may hla HK.out HE.out
              rw [hm] at ho
              rw [HU.out]
              exact U8.utf_bad hne ho
            clear HI HE HK HU
            go_wp2
            go_ret
            exact ⟨by rw [HB.out]; rfl, rfl⟩
          have q1' : ¬ (v : Int) < 128 := by omega
          by_cases q2 : 1114111 < v
          · have q2' : (1114111 : Int) < (v : Int) := by omega
            have HB : Hid (U8.utf t.data.toList = false) := by
              show _ = _
              have hm : U8.may 128 v = false := by simp [U8.may]; omega
              have ho := U8.one_may hla HK.out HE.out
              rw [hm] at ho
              rw [HU.out]
              exact U8.utf_bad hne ho
            clear HI HE HK HU
            go_wp2
            go_ret
            exact ⟨by rw [HB.out]; rfl, rfl⟩
          have q2' : ¬ (1114111 : Int) < (v : Int) := by omega
          by_cases q3 : 55296 ≤ v
          · have q3' : (55296 : Int) ≤ (v : Int) := by omega
            by_cases q4 : v ≤ 57343
            · have q4' : (v : Int) ≤ 57343 := by omega
              have HB : Hid (U8.utf t.data.toList = false) := by
                show _ = _
                have hm : U8.may 128 v = false := by simp [U8.may]; omega
                have ho := U8.one_may hla HK.out HE.out
                rw [hm] at ho
                rw [HU.out]
                exact U8.utf_bad hne ho
              clear HI HE HK HU
              go_wp2
              go_ret
              exact ⟨by rw [HB.out]; rfl, rfl⟩
            have q4' : ¬ (v : Int) ≤ 57343 := by omega
            have HG : Hid (U8.utf t.data.toList = U8.utf (t.data.toList.drop (a + 2)) ∧ a + 2 ≤ t.size) := by
              have hm : U8.may 128 v = true := by simp [U8.may]; omega
              have ho := U8.one_may hla HK.out HE.out
              rw [hm, if_pos rfl] at ho
              have hlen := (U8.one_len ho).2
              rw [List.length_drop, hll] at hlen
              refine ⟨?_, by omega⟩
              rw [HU.out, U8.utf_step ho, List.drop_drop]
            clear HI HE HK HU
            go_wp2
            go_round
            case rel => exact ⟨a + 2, HG.out.2, by go_num, HG.out.1⟩
            case measure => simp [intOf]; omega
          have q3' : ¬ (55296 : Int) ≤ (v : Int) := by omega
          have HG : Hid (U8.utf t.data.toList = U8.utf (t.data.toList.drop (a + 2)) ∧ a + 2 ≤ t.size) := by
            have hm : U8.may 128 v = true := by simp [U8.may]; omega
            have ho := U8.one_may hla HK.out HE.out
            rw [hm, if_pos rfl] at ho
            have hlen := (U8.one_len ho).2
            rw [List.length_drop, hll] at hlen
            refine ⟨?_, by omega⟩
            rw [HU.out, U8.utf_step ho, List.drop_drop]
          clear HI HE HK HU
          go_wp2
          go_round
          case rel => exact ⟨a + 2, HG.out.2, by go_num, HG.out.1⟩
          case measure => simp [intOf]; omega
      by_cases k3 : 224 ≤ t[a].toNat ∧ t[a].toNat < 240
      · obtain ⟨k3a, k3b⟩ := k3
        have k2a' : (192 : Int) ≤ (t[a].toNat : Int) := by omega
        have k2b' : ¬ (t[a].toNat : Int) < 224 := by omega
        have k3a' : (224 : Int) ≤ (t[a].toNat : Int) := by omega
        have k3b' : (t[a].toNat : Int) < 240 := by omega
        have HK : Hid (U8.kind t.data.toList[a].toNat = some (3, t[a].toNat - 224, 2048)) := by
          show _ = _
          rw [text_get t a hlt]
          unfold U8.kind
          rw [if_neg (by omega), if_neg (by omega), if_pos (by omega)]
        have hsub : ((t[a].toNat : Int) - 224) = ((t[a].toNat - 224 : Nat) : Int) := by omega
        have HI0 := Lib.hid (U8.in_start t.data.toList a 3 (t[a].toNat - 224) (by omega))
        go_wp2
        go_loop [4, 7] (fun v4 v7 => ∃ i v : Nat, 1 ≤ i ∧ i ≤ 3 ∧ v4 = .int .i64 v ∧ v7 = .int .i64 i ∧ Hid (U8.Inner t.data.toList a 3 (t[a].toNat - 224) i v)) (fun _ v7 => 3 - (intOf v7).toNat)
        case atStart => exact ⟨1, t[a].toNat - 224, by omega, by omega, by go_num, rfl, HI0.out⟩
        case round =>
          obtain ⟨i, v, hi1, hin, rfl, rfl, HI⟩ := hrel
          clear HI0
          by_cases hi : i < 3
          · have hi' : (i : Int) < 3 := by omega
            have hv3 := HI.out.2.2.2.1 (by omega)
            by_cases hs : t.size ≤ a + i
            · have hs' : (t.size : Int) ≤ (a : Int) + (i : Int) := by omega
              have HB : Hid (U8.utf t.data.toList = false) := by
                show _ = _
                rw [HU.out]
                exact U8.utf_bad hne (U8.one_none hla HK.out (U8.in_short HI.out hi (by omega)))
              clear HI HK HU
              go_wp2
              go_ret
              exact ⟨by rw [HB.out]; rfl, rfl⟩
            have hs' : ¬ (t.size : Int) ≤ (a : Int) + (i : Int) := by omega
            have hs2 : a + i < t.size := by omega
            have hs3 : (a : Int) + (i : Int) < (t.size : Int) := by omega
            have hte := text_get t (a + i) hs2
            by_cases hb : 128 ≤ t[a + i].toNat ∧ t[a + i].toNat < 192
            · have HN := Lib.hid (U8.in_next HI.out hi1 hi (by omega) (by omega) (by rw [hte]; exact hb))
              rw [hte] at HN
              obtain ⟨hb1, hb2⟩ := hb
              have hb1' : ¬ (t[a + i].toNat : Int) < 128 := by omega
              have hb2' : ¬ (192 : Int) ≤ (t[a + i].toNat : Int) := by omega
              clear HI HK HU hte
              go_wp2
              go_round
              case rel => exact ⟨i + 1, _, by omega, by omega, by go_num, by go_num, HN⟩
              case measure => simp [intOf]; omega
            · have HB : Hid (U8.utf t.data.toList = false) := by
                show _ = _
                rw [HU.out]
                exact U8.utf_bad hne (U8.one_none hla HK.out (U8.in_bad HI.out hi (by omega) (by rw [hte]; exact hb)))
              clear HI HK HU hte
              by_cases hb1 : t[a + i].toNat < 128
              · have hb1' : (t[a + i].toNat : Int) < 128 := by omega
                go_wp2
                go_ret
                exact ⟨by rw [HB.out]; rfl, rfl⟩
              · have hb1' : ¬ (t[a + i].toNat : Int) < 128 := by omega
                have hb2' : (192 : Int) ≤ (t[a + i].toNat : Int) := by omega
                go_wp2
                go_ret
                exact ⟨by rw [HB.out]; rfl, rfl⟩
          have hii : i = 3 := by omega
          subst hii
          have HE := Lib.hid (U8.in_end HI.out)
          have hv5 := HI.out.2.2.2.2
          by_cases q1 : v < 2048
          · have q1' : (v : Int) < 2048 := by omega
            have HB : Hid (U8.utf t.data.toList = false) := by
              show _ = _
              have hm : U8.may 2048 v = false := by simp [U8.may]; omega
              have ho := U8.one_may hla HK.out HE.out
              rw [hm] at ho
              rw [HU.out]
              exact U8.utf_bad hne ho
            clear HI HE HK HU
            go_wp2
            go_ret
            exact ⟨by rw [HB.out]; rfl, rfl⟩
          have q1' : ¬ (v : Int) < 2048 := by omega
          by_cases q2 : 1114111 < v
          · have q2' : (1114111 : Int) < (v : Int) := by omega
            have HB : Hid (U8.utf t.data.toList = false) := by
              show _ = _
              have hm : U8.may 2048 v = false := by simp [U8.may]; omega
              have ho := U8.one_may hla HK.out HE.out
              rw [hm] at ho
              rw [HU.out]
              exact U8.utf_bad hne ho
            clear HI HE HK HU
            go_wp2
            go_ret
            exact ⟨by rw [HB.out]; rfl, rfl⟩
          have q2' : ¬ (1114111 : Int) < (v : Int) := by omega
          by_cases q3 : 55296 ≤ v
          · have q3' : (55296 : Int) ≤ (v : Int) := by omega
            by_cases q4 : v ≤ 57343
            · have q4' : (v : Int) ≤ 57343 := by omega
              have HB : Hid (U8.utf t.data.toList = false) := by
                show _ = _
                have hm : U8.may 2048 v = false := by simp [U8.may]; omega
                have ho := U8.one_may hla HK.out HE.out
                rw [hm] at ho
                rw [HU.out]
                exact U8.utf_bad hne ho
              clear HI HE HK HU
              go_wp2
              go_ret
              exact ⟨by rw [HB.out]; rfl, rfl⟩
            have q4' : ¬ (v : Int) ≤ 57343 := by omega
            have HG : Hid (U8.utf t.data.toList = U8.utf (t.data.toList.drop (a + 3)) ∧ a + 3 ≤ t.size) := by
              have hm : U8.may 2048 v = true := by simp [U8.may]; omega
              have ho := U8.one_may hla HK.out HE.out
              rw [hm, if_pos rfl] at ho
              have hlen := (U8.one_len ho).2
              rw [List.length_drop, hll] at hlen
              refine ⟨?_, by omega⟩
              rw [HU.out, U8.utf_step ho, List.drop_drop]
            clear HI HE HK HU
            go_wp2
            go_round
            case rel => exact ⟨a + 3, HG.out.2, by go_num, HG.out.1⟩
            case measure => simp [intOf]; omega
          have q3' : ¬ (55296 : Int) ≤ (v : Int) := by omega
          have HG : Hid (U8.utf t.data.toList = U8.utf (t.data.toList.drop (a + 3)) ∧ a + 3 ≤ t.size) := by
            have hm : U8.may 2048 v = true := by simp [U8.may]; omega
            have ho := U8.one_may hla HK.out HE.out
            rw [hm, if_pos rfl] at ho
            have hlen := (U8.one_len ho).2
            rw [List.length_drop, hll] at hlen
            refine ⟨?_, by omega⟩
            rw [HU.out, U8.utf_step ho, List.drop_drop]
          clear HI HE HK HU
          go_wp2
          go_round
          case rel => exact ⟨a + 3, HG.out.2, by go_num, HG.out.1⟩
          case measure => simp [intOf]; omega
      by_cases k4 : 240 ≤ t[a].toNat ∧ t[a].toNat < 248
      · obtain ⟨k4a, k4b⟩ := k4
        have k2a' : (192 : Int) ≤ (t[a].toNat : Int) := by omega
        have k2b' : ¬ (t[a].toNat : Int) < 224 := by omega
        have k3a' : (224 : Int) ≤ (t[a].toNat : Int) := by omega
        have k3b' : ¬ (t[a].toNat : Int) < 240 := by omega
        have k4a' : (240 : Int) ≤ (t[a].toNat : Int) := by omega
        have k4b' : (t[a].toNat : Int) < 248 := by omega
        have HK : Hid (U8.kind t.data.toList[a].toNat = some (4, t[a].toNat - 240, 65536)) := by
          show _ = _
          rw [text_get t a hlt]
          unfold U8.kind
          rw [if_neg (by omega), if_neg (by omega), if_neg (by omega), if_pos (by omega)]
        have hsub : ((t[a].toNat : Int) - 240) = ((t[a].toNat - 240 : Nat) : Int) := by omega
        have HI0 := Lib.hid (U8.in_start t.data.toList a 4 (t[a].toNat - 240) (by omega))
        go_wp2
        go_loop [4, 7] (fun v4 v7 => ∃ i v : Nat, 1 ≤ i ∧ i ≤ 4 ∧ v4 = .int .i64 v ∧ v7 = .int .i64 i ∧ Hid (U8.Inner t.data.toList a 4 (t[a].toNat - 240) i v)) (fun _ v7 => 4 - (intOf v7).toNat)
        case atStart => exact ⟨1, t[a].toNat - 240, by omega, by omega, by go_num, rfl, HI0.out⟩
        case round =>
          obtain ⟨i, v, hi1, hin, rfl, rfl, HI⟩ := hrel
          clear HI0
          by_cases hi : i < 4
          · have hi' : (i : Int) < 4 := by omega
            have hv3 := HI.out.2.2.2.1 (by omega)
            by_cases hs : t.size ≤ a + i
            · have hs' : (t.size : Int) ≤ (a : Int) + (i : Int) := by omega
              have HB : Hid (U8.utf t.data.toList = false) := by
                show _ = _
                rw [HU.out]
                exact U8.utf_bad hne (U8.one_none hla HK.out (U8.in_short HI.out hi (by omega)))
              clear HI HK HU
              go_wp2
              go_ret
              exact ⟨by rw [HB.out]; rfl, rfl⟩
            have hs' : ¬ (t.size : Int) ≤ (a : Int) + (i : Int) := by omega
            have hs2 : a + i < t.size := by omega
            have hs3 : (a : Int) + (i : Int) < (t.size : Int) := by omega
            have hte := text_get t (a + i) hs2
            by_cases hb : 128 ≤ t[a + i].toNat ∧ t[a + i].toNat < 192
            · have HN := Lib.hid (U8.in_next HI.out hi1 hi (by omega) (by omega) (by rw [hte]; exact hb))
              rw [hte] at HN
              obtain ⟨hb1, hb2⟩ := hb
              have hb1' : ¬ (t[a + i].toNat : Int) < 128 := by omega
              have hb2' : ¬ (192 : Int) ≤ (t[a + i].toNat : Int) := by omega
              clear HI HK HU hte
              go_wp2
              go_round
              case rel => exact ⟨i + 1, _, by omega, by omega, by go_num, by go_num, HN⟩
              case measure => simp [intOf]; omega
            · have HB : Hid (U8.utf t.data.toList = false) := by
                show _ = _
                rw [HU.out]
                exact U8.utf_bad hne (U8.one_none hla HK.out (U8.in_bad HI.out hi (by omega) (by rw [hte]; exact hb)))
              clear HI HK HU hte
              by_cases hb1 : t[a + i].toNat < 128
              · have hb1' : (t[a + i].toNat : Int) < 128 := by omega
                go_wp2
                go_ret
                exact ⟨by rw [HB.out]; rfl, rfl⟩
              · have hb1' : ¬ (t[a + i].toNat : Int) < 128 := by omega
                have hb2' : (192 : Int) ≤ (t[a + i].toNat : Int) := by omega
                go_wp2
                go_ret
                exact ⟨by rw [HB.out]; rfl, rfl⟩
          have hii : i = 4 := by omega
          subst hii
          have HE := Lib.hid (U8.in_end HI.out)
          have hv5 := HI.out.2.2.2.2
          by_cases q1 : v < 65536
          · have q1' : (v : Int) < 65536 := by omega
            have HB : Hid (U8.utf t.data.toList = false) := by
              show _ = _
              have hm : U8.may 65536 v = false := by simp [U8.may]; omega
              have ho := U8.one_may hla HK.out HE.out
              rw [hm] at ho
              rw [HU.out]
              exact U8.utf_bad hne ho
            clear HI HE HK HU
            go_wp2
            go_ret
            exact ⟨by rw [HB.out]; rfl, rfl⟩
          have q1' : ¬ (v : Int) < 65536 := by omega
          by_cases q2 : 1114111 < v
          · have q2' : (1114111 : Int) < (v : Int) := by omega
            have HB : Hid (U8.utf t.data.toList = false) := by
              show _ = _
              have hm : U8.may 65536 v = false := by simp [U8.may]; omega
              have ho := U8.one_may hla HK.out HE.out
              rw [hm] at ho
              rw [HU.out]
              exact U8.utf_bad hne ho
            clear HI HE HK HU
            go_wp2
            go_ret
            exact ⟨by rw [HB.out]; rfl, rfl⟩
          have q2' : ¬ (1114111 : Int) < (v : Int) := by omega
          by_cases q3 : 55296 ≤ v
          · have q3' : (55296 : Int) ≤ (v : Int) := by omega
            by_cases q4 : v ≤ 57343
            · have q4' : (v : Int) ≤ 57343 := by omega
              have HB : Hid (U8.utf t.data.toList = false) := by
                show _ = _
                have hm : U8.may 65536 v = false := by simp [U8.may]; omega
                have ho := U8.one_may hla HK.out HE.out
                rw [hm] at ho
                rw [HU.out]
                exact U8.utf_bad hne ho
              clear HI HE HK HU
              go_wp2
              go_ret
              exact ⟨by rw [HB.out]; rfl, rfl⟩
            have q4' : ¬ (v : Int) ≤ 57343 := by omega
            have HG : Hid (U8.utf t.data.toList = U8.utf (t.data.toList.drop (a + 4)) ∧ a + 4 ≤ t.size) := by
              have hm : U8.may 65536 v = true := by simp [U8.may]; omega
              have ho := U8.one_may hla HK.out HE.out
              rw [hm, if_pos rfl] at ho
              have hlen := (U8.one_len ho).2
              rw [List.length_drop, hll] at hlen
              refine ⟨?_, by omega⟩
              rw [HU.out, U8.utf_step ho, List.drop_drop]
            clear HI HE HK HU
            go_wp2
            go_round
            case rel => exact ⟨a + 4, HG.out.2, by go_num, HG.out.1⟩
            case measure => simp [intOf]; omega
          have q3' : ¬ (55296 : Int) ≤ (v : Int) := by omega
          have HG : Hid (U8.utf t.data.toList = U8.utf (t.data.toList.drop (a + 4)) ∧ a + 4 ≤ t.size) := by
            have hm : U8.may 65536 v = true := by simp [U8.may]; omega
            have ho := U8.one_may hla HK.out HE.out
            rw [hm, if_pos rfl] at ho
            have hlen := (U8.one_len ho).2
            rw [List.length_drop, hll] at hlen
            refine ⟨?_, by omega⟩
            rw [HU.out, U8.utf_step ho, List.drop_drop]
          clear HI HE HK HU
          go_wp2
          go_round
          case rel => exact ⟨a + 4, HG.out.2, by go_num, HG.out.1⟩
          case measure => simp [intOf]; omega
      have HB : Hid (U8.utf t.data.toList = false) := by
        show _ = _
        rw [HU.out]
        refine U8.utf_bad hne (U8.one_kind hla ?_)
        rw [text_get t a hlt]
        unfold U8.kind
        rw [if_neg (by omega), if_neg (by omega), if_neg (by omega), if_neg (by omega)]
      clear HU
      by_cases k5 : t[a].toNat < 192
      · have k5' : ¬ (192 : Int) ≤ (t[a].toNat : Int) := by omega
        have k6' : ¬ (224 : Int) ≤ (t[a].toNat : Int) := by omega
        have k7' : ¬ (240 : Int) ≤ (t[a].toNat : Int) := by omega
        go_wp2
        go_ret
        exact ⟨by rw [HB.out]; rfl, rfl⟩
      have m1 : (192 : Int) ≤ (t[a].toNat : Int) := by omega
      have m2 : ¬ (t[a].toNat : Int) < 224 := by omega
      have m3 : (224 : Int) ≤ (t[a].toNat : Int) := by omega
      have m4 : ¬ (t[a].toNat : Int) < 240 := by omega
      have m5 : (240 : Int) ≤ (t[a].toNat : Int) := by omega
      have m6 : ¬ (t[a].toNat : Int) < 248 := by omega
      go_wp2
      go_ret
      exact ⟨by rw [HB.out]; rfl, rfl⟩
    · have hii : a = t.size := by omega
      subst hii
      go_wp2
      go_ret
      refine ⟨?_, rfl⟩
      rw [HU.out, List.drop_eq_nil_of_le (by simp)]
      rfl
end Go.Proofs.YtpkbdnilakaakaaGreat
