/- The walk of the document's own Stuff. -/
import Derived.Test.YtecophlkbomlmaaPush
import Derived.Test.YtecophlkbomlmaaCob3
import Derived.Deep.DeepCutAuto
namespace Go.Proofs.Ytecophlkbomlmaa
open Go.RowKit

def lenS (b : Bool) : Nat := if b then 1 else 0
def boolV : Value → Bool
  | .bool b => b
  | _ => false

set_option maxRecDepth 100000 in
set_option maxHeartbeats 2000000 in
theorem refStuff_in (b o c : Nat) (l : List UInt8) (hl : l.length ≤ 140737488351232) (w : World) (hc : Cells w b o l) :
    Calls Try.prog 9 #[.slice (some ⟨b, o, none⟩) l.length c] w fun e w' => ∃ g cap, e = .returned (.slice (some ⟨g, 0, none⟩) (Cob.stuff l).length cap) ∧ Mine w' w.heap.size g cap (Cob.stuff l) ∧ Below w.heap.size w w' := by
  have HC := Lib.hid hc
  clear hc
  go_enter Try.func9, Try.ntmps9
  go_wp2
  go_loopw [3, 4, 5] (fun v3 v4 v5 wr => ∃ (a : Nat) (m : Bool) (xs : List UInt8), a ≤ l.length ∧ v4 = .int .i64 a ∧ v5 = .bool m ∧ xs.length ≤ 150000000000000 ∧ Hid (Cob.Writing l a m xs ∧ Has wr w.heap.size v3 xs ∧ Below w.heap.size w wr)) (fun _ v4 v5 _ => 2 * (l.length - (intOf v4).toNat) + lenS (boolV v5))
  case atStart => exact ⟨0, true, [], by omega, rfl, rfl, by simp, Cob.writing_start l, has_nil _ _, Below.refl _ _⟩
  case round =>
    obtain ⟨a, m, xs, ha, rfl, rfl, hxs, HK⟩ := hrel
    cases m with
    | false =>
      have hS := HK.out.1.2.2 rfl
      obtain ⟨g, cap, hv, hM⟩ : ∃ g cap, u3 = .slice (some ⟨g, 0, none⟩) (Cob.stuff l).length cap ∧ Mine wr w.heap.size g cap (Cob.stuff l) := by
        rcases HK.out.2.1.form with ⟨_, h0⟩ | ⟨g, cap, h1, h2⟩
        · have := (Cob.stuff_length l).1
          rw [hS, h0] at this
          simp at this
        · rw [hS]; exact ⟨g, cap, h1, h2⟩
      have HM := Lib.hid hM
      have HB := Lib.hid HK.out.2.2
      subst hv
      clear hM HK hS
      go_wp2
      go_ret
      exact ⟨g, cap, rfl, HM.out, HB.out⟩
    | true =>
      go_wp2
      go_loop [6] (fun v6 => ∃ k : Nat, k ≤ 254 ∧ a + k ≤ l.length ∧ v6 = .int .i64 k ∧ Hid (∀ j, j < k → ∀ h : a + j < l.length, l[a + j] ≠ 0)) (fun v6 => 254 - (intOf v6).toNat)
      case atStart => exact ⟨0, by omega, by omega, rfl, fun j hj => by omega⟩
      case round =>
        obtain ⟨k, hk, hak, rfl, HZ⟩ := hrel
        by_cases h254 : k = 254
        · subst h254
          have HN := Lib.hid (Cob.writing_full HK.out.1 hak HZ.out)
          clear HZ
          have hcn : (UInt8.ofNat (254 + 1)).toNat = 254 + 1 := Cob.len_byte 254 (by omega)
          have HO := Lib.hid HK.out.2.1
          have HBw := Lib.hid HK.out.2.2
          have hB := HK.out.2.2.size
          have hbd := Cob.writing_bound HN.out
          simp only [List.length_append, List.length_cons, List.length_nil, List.length_take, List.length_drop] at hbd
          clear HK
          generalize UInt8.ofNat (254 + 1) = cc at hcn HN
          go_wp2_with (at_builtin; refine wp_push HO.out cc (by omega) hB (by omega) rfl rfl rfl rfl rfl ?_; intro g1 cap1 W1 hm1 hb1)
          have HB1 := Lib.hid (HBw.out.trans hb1)
          have HM1 := Lib.hid hm1.has
          clear hm1 hb1 HO HBw hB
          go_loopw [3, 7] (fun v3 v7 wq => ∃ i : Nat, i ≤ 254 ∧ v7 = .int .i64 i ∧ Hid (Has wq w.heap.size v3 (xs ++ [cc] ++ (l.drop a).take i) ∧ Below w.heap.size w wq)) (fun _ v7 _ => 254 - (intOf v7).toNat)
          case atStart => exact ⟨0, by omega, rfl, by have := HM1.out; simpa using this, HB1.out⟩
          case round =>
            obtain ⟨i, hi, rfl, HI⟩ := hrel
            by_cases hik : i < 254
            · have hcl := HC.out (a + i) (by omega)
              have hcq : wr.cell? ⟨b, o + (a + i), none⟩ = some (.int .u8 (l[a + i].toNat : Int)) := by rw [HI.out.2.cell (p := ⟨b, o + (a + i), none⟩) (World.block_lt_of_cell? _ _ hcl)]; exact hcl
              have HX : Hid (xs ++ [cc] ++ (l.drop a).take (i + 1) = (xs ++ [cc] ++ (l.drop a).take i) ++ [l[a + i]]) := by
                show _ = _
                rw [List.take_succ_eq_append_getElem (by rw [List.length_drop]; omega), List.getElem_drop, List.append_assoc, List.append_assoc, List.append_assoc]
              have HO := Lib.hid HI.out.1
              have HBq := Lib.hid HI.out.2
              have hB := HI.out.2.size
              have hxl : (xs ++ [cc] ++ (l.drop a).take i).length ≤ 150000000000257 := by simp only [List.length_append, List.length_cons, List.length_nil, List.length_take, List.length_drop]; omega
              clear HI hcl
              generalize hlv : l[a + i] = lv at hcq HX
              clear hlv
              generalize xs ++ [cc] ++ (l.drop a).take i = ys at HX HO hxl
              go_wp2_with (at_builtin; refine wp_push HO.out lv (by omega) hB rfl rfl rfl rfl rfl rfl ?_; intro g2 cap2 W2 hm2 hb2)
              go_roundw
              case rel => exact ⟨i + 1, by omega, by go_num, by rw [HX.out]; have := hm2.has; simpa using this, HBq.out.trans hb2⟩
              case measure => simp [intOf]; omega
            · have hii : i = 254 := by omega
              subst hii
              have HO := Lib.hid HI.out.1
              have HBq := Lib.hid HI.out.2
              clear HI hik
              by_cases hmore : a + 254 < l.length
              · have hm1 : (a : Int) + 254 < (l.length : Int) := by omega
                rw [decide_eq_true hmore] at HN
                go_wp2
                go_roundw
                case rel => exact ⟨a + 254, true, _, by omega, by go_num, rfl, by simp only [List.length_append, List.length_cons, List.length_nil, List.length_take, List.length_drop]; omega, HN.out, HO.out, HBq.out⟩
                case measure => simp [intOf, boolV, lenS]; omega
              · have hm1 : decide ((a : Int) + 254 < (l.length : Int)) = false := decide_eq_false (by omega)
                rw [decide_eq_false hmore] at HN
                go_wp2
                go_roundw
                case rel => exact ⟨a + 254, false, _, by omega, by go_num, rfl, by simp only [List.length_append, List.length_cons, List.length_nil, List.length_take, List.length_drop]; omega, HN.out, HO.out, HBq.out⟩
                case measure => simp [intOf, boolV, lenS]; omega
        · have hk1 : (k : Int) < 254 := by omega
          by_cases hend : a + k = l.length
          · have HN := Lib.hid (Cob.writing_end HK.out.1 (by omega) hend HZ.out)
            have hb1 : decide ((a : Int) + (k : Int) < (l.length : Int)) = false := decide_eq_false (by omega)
            clear HZ
            have hcn : (UInt8.ofNat (k + 1)).toNat = k + 1 := Cob.len_byte k (by omega)
            have HO := Lib.hid HK.out.2.1
            have HBw := Lib.hid HK.out.2.2
            have hB := HK.out.2.2.size
            have hbd := Cob.writing_bound HN.out
            simp only [List.length_append, List.length_cons, List.length_nil, List.length_take, List.length_drop] at hbd
            clear HK
            generalize UInt8.ofNat (k + 1) = cc at hcn HN
            go_wp2_with (at_builtin; refine wp_push HO.out cc (by omega) hB (by omega) rfl rfl rfl rfl rfl ?_; intro g1 cap1 W1 hm1 hb1)
            have HB1 := Lib.hid (HBw.out.trans hb1)
            have HM1 := Lib.hid hm1.has
            clear hm1 hb1 HO HBw hB
            go_loopw [3, 7] (fun v3 v7 wq => ∃ i : Nat, i ≤ k ∧ v7 = .int .i64 i ∧ Hid (Has wq w.heap.size v3 (xs ++ [cc] ++ (l.drop a).take i) ∧ Below w.heap.size w wq)) (fun _ v7 _ => k - (intOf v7).toNat)
            case atStart => exact ⟨0, by omega, rfl, by have := HM1.out; simpa using this, HB1.out⟩
            case round =>
              obtain ⟨i, hi, rfl, HI⟩ := hrel
              by_cases hik : i < k
              · have hcl := HC.out (a + i) (by omega)
                have hcq : wr.cell? ⟨b, o + (a + i), none⟩ = some (.int .u8 (l[a + i].toNat : Int)) := by rw [HI.out.2.cell (p := ⟨b, o + (a + i), none⟩) (World.block_lt_of_cell? _ _ hcl)]; exact hcl
                have HX : Hid (xs ++ [cc] ++ (l.drop a).take (i + 1) = (xs ++ [cc] ++ (l.drop a).take i) ++ [l[a + i]]) := by
                  show _ = _
                  rw [List.take_succ_eq_append_getElem (by rw [List.length_drop]; omega), List.getElem_drop, List.append_assoc, List.append_assoc, List.append_assoc]
                have HO := Lib.hid HI.out.1
                have HBq := Lib.hid HI.out.2
                have hB := HI.out.2.size
                have hxl : (xs ++ [cc] ++ (l.drop a).take i).length ≤ 150000000000257 := by simp only [List.length_append, List.length_cons, List.length_nil, List.length_take, List.length_drop]; omega
                clear HI hcl
                generalize hlv : l[a + i] = lv at hcq HX
                clear hlv
                generalize xs ++ [cc] ++ (l.drop a).take i = ys at HX HO hxl
                go_wp2_with (at_builtin; refine wp_push HO.out lv (by omega) hB rfl rfl rfl rfl rfl rfl ?_; intro g2 cap2 W2 hm2 hb2)
                go_roundw
                case rel => exact ⟨i + 1, by omega, by go_num, by rw [HX.out]; have := hm2.has; simpa using this, HBq.out.trans hb2⟩
                case measure => simp [intOf]; omega
              · have hii : i = k := by omega
                subst hii
                have HO := Lib.hid HI.out.1
                have HBq := Lib.hid HI.out.2
                clear HI hik
                go_wp2
                go_roundw
                case rel => exact ⟨a + i, false, _, by omega, by go_num, rfl, by simp only [List.length_append, List.length_cons, List.length_nil, List.length_take, List.length_drop]; omega, HN.out, HO.out, HBq.out⟩
                case measure => simp [intOf, boolV, lenS]; omega
          · have hlt : a + k < l.length := by omega
            have hlt1 : (a : Int) + (k : Int) < (l.length : Int) := by omega
            have hcell := HC.out (a + k) hlt
            by_cases h0 : l[a + k] = 0
            · have HN := Lib.hid (Cob.writing_zero HK.out.1 (by omega) hlt HZ.out h0)
              rw [h0] at hcell
              have hcell' : w.cell? ⟨b, o + (a + k), none⟩ = some (.int .u8 0) := hcell
              have hcw : wr.cell? ⟨b, o + (a + k), none⟩ = some (.int .u8 0) := by rw [HK.out.2.2.cell (p := ⟨b, o + (a + k), none⟩) (World.block_lt_of_cell? _ _ hcell')]; exact hcell'
              clear HZ hcell hcell' h0
              have hcn : (UInt8.ofNat (k + 1)).toNat = k + 1 := Cob.len_byte k (by omega)
              have HO := Lib.hid HK.out.2.1
              have HBw := Lib.hid HK.out.2.2
              have hB := HK.out.2.2.size
              have hbd := Cob.writing_bound HN.out
              simp only [List.length_append, List.length_cons, List.length_nil, List.length_take, List.length_drop] at hbd
              clear HK
              generalize UInt8.ofNat (k + 1) = cc at hcn HN
              go_wp2_with (at_builtin; refine wp_push HO.out cc (by omega) hB (by omega) rfl rfl rfl rfl rfl ?_; intro g1 cap1 W1 hm1 hb1)
              have HB1 := Lib.hid (HBw.out.trans hb1)
              have HM1 := Lib.hid hm1.has
              clear hm1 hb1 HO HBw hB
              go_loopw [3, 7] (fun v3 v7 wq => ∃ i : Nat, i ≤ k ∧ v7 = .int .i64 i ∧ Hid (Has wq w.heap.size v3 (xs ++ [cc] ++ (l.drop a).take i) ∧ Below w.heap.size w wq)) (fun _ v7 _ => k - (intOf v7).toNat)
              case atStart => exact ⟨0, by omega, rfl, by have := HM1.out; simpa using this, HB1.out⟩
              case round =>
                obtain ⟨i, hi, rfl, HI⟩ := hrel
                by_cases hik : i < k
                · have hcl := HC.out (a + i) (by omega)
                  have hcq : wr.cell? ⟨b, o + (a + i), none⟩ = some (.int .u8 (l[a + i].toNat : Int)) := by rw [HI.out.2.cell (p := ⟨b, o + (a + i), none⟩) (World.block_lt_of_cell? _ _ hcl)]; exact hcl
                  have HX : Hid (xs ++ [cc] ++ (l.drop a).take (i + 1) = (xs ++ [cc] ++ (l.drop a).take i) ++ [l[a + i]]) := by
                    show _ = _
                    rw [List.take_succ_eq_append_getElem (by rw [List.length_drop]; omega), List.getElem_drop, List.append_assoc, List.append_assoc, List.append_assoc]
                  have HO := Lib.hid HI.out.1
                  have HBq := Lib.hid HI.out.2
                  have hB := HI.out.2.size
                  have hxl : (xs ++ [cc] ++ (l.drop a).take i).length ≤ 150000000000257 := by simp only [List.length_append, List.length_cons, List.length_nil, List.length_take, List.length_drop]; omega
                  clear HI hcl
                  generalize hlv : l[a + i] = lv at hcq HX
                  clear hlv
                  generalize xs ++ [cc] ++ (l.drop a).take i = ys at HX HO hxl
                  go_wp2_with (at_builtin; refine wp_push HO.out lv (by omega) hB rfl rfl rfl rfl rfl rfl ?_; intro g2 cap2 W2 hm2 hb2)
                  go_roundw
                  case rel => exact ⟨i + 1, by omega, by go_num, by rw [HX.out]; have := hm2.has; simpa using this, HBq.out.trans hb2⟩
                  case measure => simp [intOf]; omega
                · have hii : i = k := by omega
                  subst hii
                  have HO := Lib.hid HI.out.1
                  have HBq := Lib.hid HI.out.2
                  clear HI hik
                  by_cases hmore : a + i + 1 < l.length
                  · have hm1 : (a : Int) + (i : Int) + 1 < (l.length : Int) := by omega
                    go_wp2
                    go_roundw
                    case rel => exact ⟨a + i + 1, true, _, by omega, by go_num, rfl, by simp only [List.length_append, List.length_cons, List.length_nil, List.length_take, List.length_drop]; omega, HN.out, HO.out, HBq.out⟩
                    case measure => simp [intOf, boolV, lenS]; omega
                  · have hm1 : decide ((a : Int) + (i : Int) + 1 < (l.length : Int)) = false := decide_eq_false (by omega)
                    go_wp2
                    go_roundw
                    case rel => exact ⟨a + i + 1, true, _, by omega, by go_num, rfl, by simp only [List.length_append, List.length_cons, List.length_nil, List.length_take, List.length_drop]; omega, HN.out, HO.out, HBq.out⟩
                    case measure => simp [intOf, boolV, lenS]; omega
            · have hcw : wr.cell? ⟨b, o + (a + k), none⟩ = some (.int .u8 (l[a + k].toNat : Int)) := by rw [HK.out.2.2.cell (p := ⟨b, o + (a + k), none⟩) (World.block_lt_of_cell? _ _ hcell)]; exact hcell
              have hne : ((l[a + k].toNat : Int) != 0) = true := by
                rw [bne_iff_ne]
                intro hc0
                exact h0 (UInt8.toNat_inj.1 (by have : (0 : UInt8).toNat = 0 := rfl; omega))
              have HN : Hid (∀ j, j < k + 1 → ∀ h : a + j < l.length, l[a + j] ≠ 0) := by
                intro j hj h
                by_cases e : j = k
                · subst e; exact h0
                · exact HZ.out j (by omega) h
              clear HZ hcell h0
              generalize l[a + k].toNat = v at hcw hne
              go_wp2
              go_round
              case rel => exact ⟨k + 1, by omega, by omega, by go_num, HN⟩
              case measure => simp [intOf]; omega

theorem stuff_nil : Cob.stuff [] = [1] := by decide

set_option maxHeartbeats 1000000 in
theorem refStuff_none (p : Option Addr) (c : Nat) (w : World) :
    Calls Try.prog 9 #[.slice p 0 c] w fun e w' => ∃ g cap, e = .returned (.slice (some ⟨g, 0, none⟩) 1 cap) ∧ Mine w' w.heap.size g cap [1] ∧ Below w.heap.size w w' := by
  go_enter Try.func9, Try.ntmps9
  go_wp2
  go_loopw [3, 4, 5] (fun v3 v4 v5 wr => ∃ (m : Bool), v4 = .int .i64 0 ∧ v5 = .bool m ∧ Hid (Has wr w.heap.size v3 (if m then [] else [1]) ∧ Below w.heap.size w wr)) (fun _ _ v5 _ => lenS (boolV v5))
  case atStart => exact ⟨true, rfl, rfl, has_nil _ _, Below.refl _ _⟩
  case round =>
    obtain ⟨m, rfl, rfl, HK⟩ := hrel
    cases m with
    | false =>
      obtain ⟨g, cap, hv, hM⟩ : ∃ g cap, u3 = .slice (some ⟨g, 0, none⟩) 1 cap ∧ Mine wr w.heap.size g cap [1] := by
        rcases HK.out.1.form with ⟨_, h0⟩ | ⟨g, cap, h1, h2⟩
        · cases h0
        · exact ⟨g, cap, h1, h2⟩
      have HM := Lib.hid hM
      have HB := Lib.hid HK.out.2
      subst hv
      clear hM HK
      go_wp2
      go_ret
      exact ⟨g, cap, rfl, HM.out, HB.out⟩
    | true =>
      have HO : Hid (Has wr w.heap.size u3 []) := HK.out.1
      have HBw := Lib.hid HK.out.2
      have hB := HK.out.2.size
      clear HK
      go_wp2
      go_loop [6] (fun v6 => v6 = .int .i64 0) (fun _ => 0)
      case atStart => exact rfl
      case round =>
        subst hrel
        go_wp2_with (at_builtin; refine wp_push HO.out 1 (by simp) hB (by decide) rfl rfl rfl rfl rfl ?_; intro g1 cap1 W1 hm1 hb1)
        have HB1 := Lib.hid (HBw.out.trans hb1)
        have HM1 := Lib.hid hm1.has
        clear hm1 hb1 HO HBw hB
        go_loop [3, 7] (fun v3 v7 => v3 = .slice (some ⟨g1, 0, none⟩) 1 cap1 ∧ v7 = .int .i64 0) (fun _ _ => 0)
        case atStart => exact ⟨rfl, rfl⟩
        case round =>
          obtain ⟨rfl, rfl⟩ := hrel
          go_wp2
          go_roundw
          case rel => exact ⟨false, rfl, rfl, HM1.out, HB1.out⟩
          case measure => simp [boolV, lenS]

/-- the document's Stuff, of whatever slice -/
theorem refStuff_any (p : Option Addr) (c : Nat) (l : List UInt8) (hl : l.length ≤ 140737488351232) (w : World) (h : At w p l) :
    Calls Try.prog 9 #[.slice p l.length c] w fun e w' => ∃ g cap, e = .returned (.slice (some ⟨g, 0, none⟩) (Cob.stuff l).length cap) ∧ Mine w' w.heap.size g cap (Cob.stuff l) ∧ Below w.heap.size w w' := by
  rcases h with rfl | ⟨b, o, rfl, _, hc⟩
  · rw [stuff_nil]
    exact refStuff_none p c w
  · exact refStuff_in b o c l hl w hc
end Go.Proofs.Ytecophlkbomlmaa
