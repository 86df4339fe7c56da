/- The walk of package stuff's readGroups, whatever the state of the closure of three captured variables that it tells the groups to. -/
import Derived.Test.YtecophlkbomlmaaCob4
import Derived.Test.YtecophlkbomlmaaWStuffK
namespace Go.Proofs.Ytecophlkbomlmaa
open Go.RowKit

set_option maxHeartbeats 1000000 in
theorem readGroups_none (p : Option Addr) (c : Nat) (v : Value) (w : World) : Calls Try.prog 17 #[.slice p 0 c, v] w fun e w' => e = .returned (.int .i64 30) ∧ w' = w := by
  go_enter Try.func17, Try.ntmps17
  go_wp2
  go_ret
  exact ⟨rfl, rfl⟩

set_option maxRecDepth 100000 in
set_option maxHeartbeats 4000000 in
theorem readGroups_in (f : FuncId) (g1 g2 g3 : Addr) (J : List UInt8 → Nat → Nat → World → Prop) (b o c : Nat) (l : List UInt8) (w : World) (hl : l.length ≤ 150000000000000) (hlc : l.length ≤ c) (hne : l ≠ []) (hz : Cob.Nz l)
    (hE : ∀ (args : Array Value) (w : World), (callFunc f args).run Try.prog w = .ok (.enter f args) w) (hA : ∀ ys la ah w', J ys la ah w' → At w' (some ⟨b, o, none⟩) l) (hJ : J [] 0 0 w)
    (hT : ∀ ys la ah q k t w', J ys la ah w' → (∀ ys la ah w'', J ys la ah w'' → At w'' q t) → t.length ≤ 254 → ys.length + t.length + 1 ≤ 150000000004096 → la ≤ 254 →
      Calls Try.prog f #[.slice q t.length k, .pointer (some g1), .pointer (some g2), .pointer (some g3)] w' fun e w'' => e = .returned (.tuple #[]) ∧ J (ys ++ t ++ if t.length < 254 then [0] else []) t.length la w'') :
    Calls Try.prog 17 #[.slice (some ⟨b, o, none⟩) l.length c, .func (.func f) #[] #[.pointer (some g1), .pointer (some g2), .pointer (some g3)]] w fun e w' =>
      ∃ ys la ah, J ys la ah w' ∧ ((e = .returned (.int .i64 30) ∧ Cob.un l = (30, [])) ∨ (e = .returned (.int .i64 0) ∧ Cob.Rd l l.length ys la ah)) := by
  have HA := Lib.hid hA
  have HJ := Lib.hid hJ
  have HT := Lib.hid hT
  have HZ := Lib.hid hz
  have hpos : 0 < l.length := List.length_pos_iff.2 hne
  have HNe := Lib.hid hne
  have hne0 : ((l.length : Int) == 0) = false := by rw [beq_eq_false_iff_ne]; omega
  clear hA hJ hT hz hne
  go_enter Try.func17, Try.ntmps17
  go_wp2
  go_loopw [0, 5] (fun v0 _ wr => ∃ (a n : Nat) (ys : List UInt8) (la ah : Nat) (q : Option Addr) (d : Nat), a + n = l.length ∧ v0 = .slice q n d ∧ n ≤ d ∧ Hid ((∀ ys la ah w', J ys la ah w' → At w' q (l.drop a)) ∧ Cob.Rd l a ys la ah ∧ J ys la ah wr)) (fun v0 _ _ => lenV v0)
  case atStart => exact ⟨0, l.length, [], 0, 0, _, c, by omega, rfl, hlc, HA.out, Cob.rd_start HNe.out, HJ.out⟩
  case round =>
    obtain ⟨a, n, ys, la, ah, q, d, han, rfl, hnd, HK⟩ := hrel
    by_cases hn : n = 0
    · subst hn
      go_wp2
      go_ret
      obtain ⟨-, h2, h3⟩ := HK.out
      rw [show a = l.length by omega] at h2
      exact ⟨ys, la, ah, h3, .inr ⟨rfl, h2⟩⟩
    · have hal : a < l.length := by omega
      obtain ⟨b1, o1, rfl, hlt1, hc1⟩ := at_some (HK.out.1 _ _ _ _ HK.out.2.2) (by rw [List.length_drop]; omega)
      have hcell := hc1 0 (by rw [List.length_drop]; omega)
      rw [List.getElem_drop] at hcell
      simp only [Nat.add_zero] at hcell
      have hz0 : l[a] ≠ 0 := HZ.out _ (List.getElem_mem hal)
      have hz1 : 1 ≤ l[a].toNat := by
        rcases Nat.eq_zero_or_pos l[a].toNat with h | h
        · exact absurd (UInt8.toNat_inj.1 (by rw [h]; rfl)) hz0
        · exact h
      have hz2 := l[a].toNat_lt
      obtain ⟨k, hk⟩ : ∃ k, l[a].toNat = k + 1 := ⟨l[a].toNat - 1, by omega⟩
      rw [hk] at hcell hz2
      have HKv := Lib.hid hk
      have HCa := Lib.hid (HK.out.1)
      clear hz0 hz1 hk hc1
      by_cases hsh : n < k + 1
      · go_wp2
        go_ret
        exact ⟨ys, la, ah, HK.out.2.2, .inl ⟨rfl, Cob.rd_short HZ.out HK.out.2.1 hal (by have := HKv.out; omega)⟩⟩
      · have HRn := Lib.hid (Cob.rd_next HK.out.2.1 hal k HKv.out (by omega))
        have hle := Cob.rd_le HK.out.2.1
        have htl : ((l.drop (a + 1)).take k).length = k := by rw [List.length_take, List.length_drop]; omega
        have hk254 : k ≤ 254 := by omega
        have hcT : ∀ (q' : Option Addr) (d' : Nat), (∀ ys la ah w', J ys la ah w' → At w' q' ((l.drop (a + 1)).take k)) →
            Calls Try.prog f #[.slice q' k d', .pointer (some g1), .pointer (some g2), .pointer (some g3)] wr fun e w'' => e = .returned (.tuple #[]) ∧ J (ys ++ (l.drop (a + 1)).take k ++ if k < 254 then [0] else []) k la w'' := fun q' d' hq => by
          have := HT.out ys la ah q' d' ((l.drop (a + 1)).take k) wr HK.out.2.2 hq (by omega) (by omega) (by omega)
          rw [htl] at this
          exact this
        have HCT := Lib.hid hcT
        clear hcT htl
        by_cases hd : d = 1
        · have hk0 : k = 0 := by omega
          subst hk0
          go_wp2_with fail
          refine (HCT.out _ _ (fun _ _ _ _ _ => .inl rfl)).mono ?_
          rintro e w2 ⟨rfl, hJ2⟩
          have HJ2 := Lib.hid hJ2
          clear hJ2
          go_wp2
          go_roundw
          case rel =>
            refine ⟨a + 0 + 1, n - 1, _, 0, la, _, _, by omega, rfl, by omega, fun ys la ah w' hj => ?_, HRn.out, HJ2.out⟩
            exact .inl (List.drop_eq_nil_of_le (by omega))
          case measure => simp [lenV]; omega
        · go_wp2_with fail
          refine (HCT.out _ _ (fun _ _ _ _ hj => ?_)).mono ?_
          · have h1 := at_take (at_drop (HCa.out _ _ _ _ hj) 1) k
            rw [List.drop_drop] at h1
            exact h1
          rintro e w2 ⟨rfl, hJ2⟩
          have HJ2 := Lib.hid hJ2
          clear hJ2
          by_cases hdk : d = k + 1
          · subst hdk
            go_wp2
            go_roundw
            case rel =>
              refine ⟨a + k + 1, 0, _, k, la, _, _, by omega, rfl, by omega, fun ys la ah w' hj => ?_, HRn.out, HJ2.out⟩
              exact .inl (List.drop_eq_nil_of_le (by omega))
            case measure => simp [lenV]; omega
          · go_wp2
            go_roundw
            case rel =>
              refine ⟨a + k + 1, n - (k + 1), _, k, la, _, _, by omega, rfl, by omega, fun ys la ah w' hj => ?_, HRn.out, HJ2.out⟩
              have h1 := at_drop (HCa.out _ _ _ _ hj) (k + 1)
              rw [List.drop_drop] at h1
              exact h1
            case measure => simp [lenV]; omega
end Go.Proofs.Ytecophlkbomlmaa
