/- The walk of the document's own Unstuff. -/
import Derived.Test.YtkeanigbcjbcgaaWRefS
namespace Go.Proofs.Ytkeanigbcjbcgaa
open Go.RowKit

theorem un_zero {l : List UInt8} {i : Nat} (hi : i < l.length) (h : l[i] = 0) : Cob.un l = (40, []) := by
  unfold Cob.un
  rw [if_pos]
  rw [← h]
  exact List.getElem_mem hi
theorem nz_of {l : List UInt8} (h : ∀ j (hj : j < l.length), l[j] ≠ 0) : Cob.Nz l := by
  intro c hc
  obtain ⟨j, hj, rfl⟩ := List.getElem_of_mem hc
  exact h j hj
theorem toNat_ne {c : UInt8} (h : c ≠ 0) : c.toNat ≠ 0 := fun hc => h (UInt8.toNat_inj.1 hc)

set_option maxRecDepth 100000 in
set_option maxHeartbeats 2000000 in
theorem refUnstuff_in (b o c : Nat) (l : List UInt8) (hl : l.length ≤ 140737488351232) (hpos : 0 < l.length) (w : World) (hc : Cells w b o l) :
    Calls Try.prog 16 #[.slice (some ⟨b, o, none⟩) l.length c] w fun e w' => ∃ v, e = .returned (.tuple #[v, .int .i64 ((Cob.un l).1 : Nat)]) ∧ Has w' w.heap.size v (Cob.un l).2 ∧ Below w.heap.size w w' := by
  have HC := Lib.hid hc
  clear hc
  go_enter Try.func16, Try.ntmps16
  go_wp2
  go_loop [4] (fun v4 => ∃ i : Nat, i ≤ l.length ∧ v4 = .int .i64 i ∧ Hid (∀ j (hj : j < l.length), j < i → l[j] ≠ 0)) (fun v4 => l.length - (intOf v4).toNat)
  case atStart => exact ⟨0, by omega, rfl, fun j _ h => by omega⟩
  case round =>
    obtain ⟨i, hi, rfl, HZ⟩ := hrel
    by_cases hlt : i < l.length
    · have hcell := HC.out i hlt
      by_cases h0 : l[i] = 0
      · have HU := Lib.hid (un_zero hlt h0)
        have hcell' : w.cell? ⟨b, o + i, none⟩ = some (.int .u8 0) := by rw [hcell, h0]; rfl
        clear hcell h0 HZ
        go_wp2
        go_ret2
        exact ⟨.slice none 0 0, by rw [HU.out]; rfl, by rw [HU.out]; exact has_nil _ _, Below.refl _ _⟩
      · have hne : ((l[i].toNat : Int) == 0) = false := by rw [beq_eq_false_iff_ne]; have := toNat_ne h0; omega
        have HN : Hid (∀ j (hj : j < l.length), j < i + 1 → l[j] ≠ 0) := by
          intro j hj hji
          by_cases e : j = i
          · subst e; exact h0
          · exact HZ.out j hj (by omega)
        clear HZ h0
        generalize l[i].toNat = v at hcell hne
        go_wp2
        go_round
        case rel => exact ⟨i + 1, by omega, by go_num, HN⟩
        case measure => simp [intOf]; omega
    · have HNz := Lib.hid (nz_of (l := l) (fun j hj => HZ.out j hj (by omega)))
      have HZ' : Hid (∀ j (hj : j < l.length), l[j] ≠ 0) := fun j hj => HZ.out j hj (by omega)
      have hii : i = l.length := by omega
      subst hii
      have hl0 : ((l.length : Int) == 0) = false := by rw [beq_eq_false_iff_ne]; omega
      clear HZ hlt hi
      go_wp2
      go_loopw [5, 6, 7, 8] (fun v5 v6 v7 v8 wr => ∃ (a last ahead : Nat) (xs : List UInt8), a ≤ l.length ∧ v6 = .int .i64 a ∧ v7 = .int .i64 last ∧ v8 = .int .i64 ahead ∧ last ≤ 255 ∧ ahead ≤ 255 ∧ xs.length ≤ 140737488351232 ∧ Hid (Cob.Reading l a last ahead xs ∧ Has wr w.heap.size v5 xs ∧ Below w.heap.size w wr)) (fun _ v6 _ _ _ => l.length - (intOf v6).toNat)
      case atStart => exact ⟨0, 0, 0, [], by omega, rfl, rfl, rfl, by omega, by omega, by simp, Cob.reading_start l, has_nil _ _, Below.refl _ _⟩
      case round =>
        obtain ⟨a, last, ahead, xs, ha, rfl, rfl, rfl, h255, h255', hxs, HK⟩ := hrel
        by_cases hlt : a < l.length
        · obtain ⟨k, hk⟩ : ∃ k, l[a].toNat = k + 1 := ⟨l[a].toNat - 1, by have := toNat_ne (HZ'.out a hlt); omega⟩
          have hk255 : k ≤ 254 := by have := l[a].toNat_lt; omega
          have hcl := HC.out a hlt
          have hcw : wr.cell? ⟨b, o + a, none⟩ = some (.int .u8 ((k : Int) + 1)) := by
            rw [HK.out.2.2.cell (p := ⟨b, o + a, none⟩) (World.block_lt_of_cell? _ _ hcl), hcl, hk]
            rfl
          by_cases hshort : l.length - a - 1 < k
          · have HU := Lib.hid (Cob.reading_short HNz.out HK.out.1 hlt (by rw [hk]; omega))
            have HB := Lib.hid HK.out.2.2
            have hs1 : (l.length : Int) - (a : Int) - 1 < (k : Int) := by omega
            clear HK hcl hk
            go_wp2
            go_ret2
            exact ⟨.slice none 0 0, by rw [HU.out]; rfl, by rw [HU.out]; exact has_nil _ _, HB.out⟩
          · have HN := Lib.hid (Cob.reading_next HK.out.1 hlt k hk (by omega))
            have hs1 : decide ((l.length : Int) - (a : Int) - 1 < (k : Int)) = false := decide_eq_false (by omega)
            have HO0 := Lib.hid HK.out.2.1
            have HB0 := Lib.hid HK.out.2.2
            have hbd := HN.out.2.1
            have hxa : xs.length ≤ a := HK.out.1.2.1
            clear HK hcl hk
            go_wp2
            go_loopw [5, 10] (fun v5 v10 wq => ∃ i : Nat, i ≤ k ∧ v10 = .int .i64 i ∧ Hid (Has wq w.heap.size v5 (xs ++ (l.drop (a + 1)).take i) ∧ Below w.heap.size w wq)) (fun _ v10 _ => k - (intOf v10).toNat)
            case atStart => exact ⟨0, by omega, rfl, by have := HO0.out; simpa using this, HB0.out⟩
            case round =>
              obtain ⟨i, hi, rfl, HI⟩ := hrel
              have hxl : (xs ++ (l.drop (a + 1)).take i).length ≤ 140737488351232 := by simp only [List.length_append, List.length_take, List.length_drop]; omega
              by_cases hik : i < k
              · have hcl := HC.out (a + 1 + i) (by omega)
                have hcq : wr.cell? ⟨b, o + (a + 1 + i), none⟩ = some (.int .u8 (l[a + 1 + i].toNat : Int)) := by rw [HI.out.2.cell (p := ⟨b, o + (a + 1 + i), none⟩) (World.block_lt_of_cell? _ _ hcl)]; exact hcl
                have HX : Hid (xs ++ (l.drop (a + 1)).take (i + 1) = (xs ++ (l.drop (a + 1)).take i) ++ [l[a + 1 + i]]) := by
                  show _ = _
                  rw [List.take_succ_eq_append_getElem (by rw [List.length_drop]; omega), List.getElem_drop, List.append_assoc]
                have HO := Lib.hid HI.out.1
                have HBq := Lib.hid HI.out.2
                have hB := HI.out.2.size
                clear HI hcl
                generalize hlv : l[a + 1 + i] = lv at hcq HX
                clear hlv
                generalize xs ++ (l.drop (a + 1)).take i = ys at HX HO hxl
                go_wp2_with (at_builtin; refine wp_push HO.out lv (by omega) hB rfl rfl rfl rfl rfl rfl ?_; intro g2 cap2 W2 hm2 hb2)
                go_roundw
                case rel => exact ⟨i + 1, by omega, by go_num, by rw [HX.out]; have := hm2.has; simpa using this, HBq.out.trans hb2⟩
                case measure => simp [intOf]; omega
              · have hii : i = k := by omega
                subst hii
                have HO := Lib.hid HI.out.1
                have HBq := Lib.hid HI.out.2
                have hB := HI.out.2.size
                clear HI hik hi
                by_cases hz : i < 254 ∧ a + i + 1 < l.length
                · rw [if_pos hz] at HN
                  have z1 : (i : Int) < 254 := by omega
                  have z2 : (a : Int) + (i : Int) + 1 < (l.length : Int) := by omega
                  rw [if_pos hz] at hbd
                  generalize xs ++ (l.drop (a + 1)).take i = ys at HN HO hxl hbd
                  go_wp2_with (at_builtin; refine wp_push HO.out 0 (by omega) hB rfl rfl rfl rfl rfl rfl ?_; intro g2 cap2 W2 hm2 hb2)
                  go_roundw
                  case rel => exact ⟨a + i + 1, i + 1, last, ys ++ [0], by omega, by go_num, by go_num, rfl, by omega, h255, by simp only [List.length_append, List.length_cons, List.length_nil] at hbd ⊢; omega, HN.out, by have := hm2.has; simpa using this, HBq.out.trans hb2⟩
                  case measure => simp [intOf]; omega
                · rw [if_neg hz, List.append_nil] at HN
                  by_cases hi254 : i < 254
                  · have z1 : (i : Int) < 254 := by omega
                    have z2 : decide ((a : Int) + (i : Int) + 1 < (l.length : Int)) = false := decide_eq_false (by omega)
                    go_wp2
                    go_roundw
                    case rel => exact ⟨a + i + 1, i + 1, last, _, by omega, by go_num, by go_num, rfl, by omega, h255, hxl, HN.out, HO.out, HBq.out⟩
                    case measure => simp [intOf]; omega
                  · have z1 : decide ((i : Int) < 254) = false := decide_eq_false (by omega)
                    go_wp2
                    go_roundw
                    case rel => exact ⟨a + i + 1, i + 1, last, _, by omega, by go_num, by go_num, rfl, by omega, h255, hxl, HN.out, HO.out, HBq.out⟩
                    case measure => simp [intOf]; omega
        · have haa : a = l.length := by omega
          subst haa
          have hne : l ≠ [] := by intro h; rw [h] at hpos; simp at hpos
          have HU := Lib.hid (Cob.reading_end HNz.out hne HK.out.1)
          have HO := Lib.hid HK.out.2.1
          have HB := Lib.hid HK.out.2.2
          clear HK hlt ha
          by_cases h1 : last = 1
          · subst h1
            by_cases h2 : ahead = 255
            · subst h2
              have HU' : Hid (Cob.un l = (5, [])) := by show _ = _; rw [HU.out, if_pos ⟨rfl, rfl⟩]
              clear HU
              go_wp2
              go_ret2
              exact ⟨.slice none 0 0, by rw [HU'.out]; rfl, by rw [HU'.out]; exact has_nil _ _, HB.out⟩
            · have HU' : Hid (Cob.un l = (0, xs)) := by show _ = _; rw [HU.out, if_neg (fun h => h2 h.2)]
              have hb2 : ((ahead : Int) == 255) = false := by rw [beq_eq_false_iff_ne]; omega
              clear HU
              go_wp2
              go_ret2
              exact ⟨u5, by rw [HU'.out]; rfl, by rw [HU'.out]; exact HO.out, HB.out⟩
          · have HU' : Hid (Cob.un l = (0, xs)) := by show _ = _; rw [HU.out, if_neg (fun h => h1 h.1)]
            have hb1 : ((last : Int) == 1) = false := by rw [beq_eq_false_iff_ne]; omega
            clear HU
            go_wp2
            go_ret2
            exact ⟨u5, by rw [HU'.out]; rfl, by rw [HU'.out]; exact HO.out, HB.out⟩

theorem refUnstuff_none (p : Option Addr) (c : Nat) (w : World) :
    Calls Try.prog 16 #[.slice p 0 c] w fun e w' => e = .returned (.tuple #[.slice none 0 0, .int .i64 30]) ∧ w' = w := by
  go_enter Try.func16, Try.ntmps16
  go_wp2
  go_loop [4] (fun v4 => v4 = .int .i64 0) (fun _ => 0)
  case atStart => exact rfl
  case round =>
    subst hrel
    go_wp2
    go_ret2
    exact ⟨rfl, rfl⟩

/-- the document's Unstuff, of whatever slice -/
theorem refUnstuff_any (p : Option Addr) (c : Nat) (l : List UInt8) (hl : l.length ≤ 140737488351232) (w : World) (h : At w p l) :
    Calls Try.prog 16 #[.slice p l.length c] w fun e w' => ∃ v, e = .returned (.tuple #[v, .int .i64 ((Cob.un l).1 : Nat)]) ∧ Has w' w.heap.size v (Cob.un l).2 ∧ Below w.heap.size w w' := by
  by_cases h0 : 0 < l.length
  · obtain ⟨b, o, rfl, _, hc⟩ := at_some h h0
    exact refUnstuff_in b o c l hl h0 w hc
  · have hl0 : l = [] := List.eq_nil_of_length_eq_zero (by omega)
    subst hl0
    refine (refUnstuff_none p c w).mono ?_
    rintro e w' ⟨rfl, rfl⟩
    exact ⟨_, rfl, has_nil _ _, Below.refl _ _⟩
end Go.Proofs.Ytkeanigbcjbcgaa
