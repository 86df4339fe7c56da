/- WRefG3: put together. -/
import Derived.Test.YtpkbdnilakaakaaGreatM06

/- The walk of the document's own Get. -/
namespace Go.Proofs.YtpkbdnilakaakaaGreat
open Go.RowKit

/-- what Get answers: the number, the place behind it, the error -/
def gotV (l : List UInt8) (a : Int) : Value := .tuple #[.int .u64 ((Leb.getAt l a).n : Nat), .int .i64 (Leb.nextAt l a), .int .i64 ((Leb.getAt l a).err : Nat)]

theorem gotV_out (l : List UInt8) (a : Int) (h : a < 0 ∨ (l.length : Int) ≤ a) : gotV l a = .tuple #[.int .u64 0, .int .i64 0, .int .i64 30] := by
  have e : Leb.getAt l a = ⟨30, 0, 0⟩ := by
    unfold Leb.getAt
    by_cases h0 : a < 0
    · rw [if_pos h0]
    · rw [if_neg h0, List.drop_eq_nil_of_le (by omega)]; rfl
  unfold gotV Leb.nextAt
  rw [e]; rfl
theorem gotV_bad (l : List UInt8) (a : Nat) (c : Nat) (hc : c ≠ 0) (h : Leb.get (l.drop a) = ⟨c, 0, 0⟩) : gotV l a = .tuple #[.int .u64 0, .int .i64 0, .int .i64 c] := by
  have e : Leb.getAt l a = ⟨c, 0, 0⟩ := by
    unfold Leb.getAt
    rw [if_neg (by omega)]
    exact h
  unfold gotV Leb.nextAt
  rw [e, if_neg hc]; rfl
theorem gotV_ok (l : List UInt8) (a n k : Nat) (h : Leb.get (l.drop a) = ⟨0, n, k⟩) : gotV l a = .tuple #[.int .u64 n, .int .i64 ((a : Int) + k), .int .i64 0] := by
  have e : Leb.getAt l a = ⟨0, n, k⟩ := by
    unfold Leb.getAt
    rw [if_neg (by omega)]
    exact h
  unfold gotV Leb.nextAt
  rw [e, if_pos rfl]; rfl

theorem refGet_out (p : Option Addr) (c n : Nat) (a : Int) (h : a < 0 ∨ (n : Int) ≤ a) (w : World) :
    Calls Tryz.prog 35 #[.slice p n c, .int .i64 a] w fun e w' => e = .returned (.tuple #[.int .u64 0, .int .i64 0, .int .i64 30]) ∧ w' = w := by
  by_cases h0 : a < 0
  · go_enter Tryz.func35, Tryz.ntmps35
    go_wp2
    go_ret3
    exact ⟨rfl, rfl⟩
  · have h1 : (n : Int) ≤ a := by omega
    have hb0 : decide (a < 0) = false := decide_eq_false h0
    go_enter Tryz.func35, Tryz.ntmps35
    go_wp2
    go_ret3
    exact ⟨rfl, rfl⟩

set_option maxHeartbeats 2000000 in
theorem refGet_in (b o c a : Nat) (l : List UInt8) (hl : l.length ≤ 140737488351232) (ha : a < l.length) (w : World) (hc : Cells w b o l) :
    Calls Tryz.prog 35 #[.slice (some ⟨b, o, none⟩) l.length c, .int .i64 a] w fun e w' => e = .returned (gotV l a) ∧ w' = w := by
  obtain ⟨r, hr⟩ : ∃ r, r = l.drop a := ⟨_, rfl⟩
  have hrl : r.length = l.length - a := by rw [hr, List.length_drop]
  have HC : Hid (∀ j (h : j < r.length), w.cell? ⟨b, o + (a + j), none⟩ = some (.int .u8 (r[j].toNat : Int))) := by
    intro j h
    have := hc (a + j) (by omega)
    rw [this]
    subst hr
    rw [List.getElem_drop]
  have HB : Hid (∀ e n k, Leb.get r = ⟨e, n, k⟩ → Leb.get (l.drop a) = ⟨e, n, k⟩) := by
    intro e n k h
    rw [← hr]; exact h
  clear hc hr
  go_enter Tryz.func35, Tryz.ntmps35
  go_wp2
  go_loop [7] (fun v7 => ∃ k : Nat, k ≤ 10 ∧ k ≤ r.length ∧ v7 = .int .i64 k ∧ Hid (∀ j (h : j < r.length), j < k → 127 < r[j].toNat)) (fun v7 => 10 - (intOf v7).toNat)
  case atStart => exact ⟨0, by omega, by omega, rfl, fun j h h' => by omega⟩
  case round =>
    obtain ⟨k, hk, hkr, rfl, HK⟩ := hrel
    by_cases h10 : k = 10
    · subst h10
      have HG := Lib.hid (gotV_bad l a 5 (by omega) (HB.out _ _ _ ((Leb.getF_high 10 true r).1 (Leb.high_eq 10 r 10 (by omega) hkr HK.out (.inl rfl)))))
      have hb1 : decide ((10 : Int) < 10) = false := by decide
      clear HK
      go_wp2
      go_ret3
      exact ⟨by rw [HG.out]; rfl, rfl⟩
    · have hb1 : (k : Int) < 10 := by omega
      by_cases hend : k = r.length
      · subst hend
        have hh := Leb.high_eq 10 r r.length (by omega) (by omega) HK.out (.inr (.inl rfl))
        have HG := Lib.hid (gotV_bad l a 30 (by omega) (HB.out _ _ _ ((Leb.getF_high 10 true r).2.1 hh (by omega))))
        have hb2 : decide ((r.length : Int) < (l.length : Int) - (a : Int)) = false := decide_eq_false (by omega)
        have hb3 : ((r.length : Int) == 10) = false := by rw [beq_eq_false_iff_ne]; omega
        have hb4 : ((r.length : Int) == (l.length : Int) - (a : Int)) = true := by rw [beq_iff_eq]; omega
        clear HK hh
        go_wp2
        go_ret3
        exact ⟨by rw [HG.out]; rfl, rfl⟩
      · have hlt : k < r.length := by omega
        have hcell := HC.out k hlt
        have hb2 : (k : Int) < (l.length : Int) - (a : Int) := by omega
        by_cases hhi : 127 < r[k].toNat
        · have HN : Hid (∀ j (h : j < r.length), j < k + 1 → 127 < r[j].toNat) := by
            intro j h hj
            by_cases e : j = k
            · subst e; exact hhi
            · exact HK.out j h (by omega)
          clear HK
          generalize r[k].toNat = v at hcell hhi
          go_wp2
          go_round
          case rel => exact ⟨k + 1, by omega, by omega, by go_num, HN⟩
          case measure => simp [intOf]; omega
        · have hh := Leb.high_eq 10 r k (by omega) hkr HK.out (.inr (.inr ⟨hlt, hhi⟩))
          have hg := (Leb.getF_high 10 true r).2.2 (by omega) (by omega)
          simp only [hh] at hg
          have hb3 : ((k : Int) == 10) = false := by rw [beq_eq_false_iff_ne]; omega
          have hb4 : ((k : Int) == (l.length : Int) - (a : Int)) = false := by rw [beq_eq_false_iff_ne]; omega
          by_cases hbad0 : (k + 1 = 10 ∧ 1 < r[k].toNat) ∨ ((true = false ∨ 0 < k) ∧ r[k].toNat = 0)
          · rw [if_pos hbad0] at hg
            have hbad : (k = 9 ∧ 1 < r[k].toNat) ∨ (0 < k ∧ r[k].toNat = 0) := by
              rcases hbad0 with ⟨x, y⟩ | ⟨x | x, y⟩
              · exact .inl ⟨by omega, y⟩
              · cases x
              · exact .inr ⟨x, y⟩
            clear hbad0
            have HG := Lib.hid (gotV_bad l a 5 (by omega) (HB.out _ _ _ hg))
            clear hg HK hh
            generalize r[k].toNat = v at hcell hhi hbad
            by_cases h9 : k = 9
            · subst h9
              by_cases hv : 1 < v
              · go_wp2
                go_ret3
                exact ⟨by rw [HG.out]; rfl, rfl⟩
              · have hv0 : v = 0 := by omega
                subst hv0
                go_wp2
                go_ret3
                exact ⟨by rw [HG.out]; rfl, rfl⟩
            · have hb5 : ((k : Int) == 9) = false := by rw [beq_eq_false_iff_ne]; omega
              have hv0 : v = 0 := by omega
              have hk0 : (0 : Int) < (k : Int) := by omega
              subst hv0
              go_wp2
              go_ret3
              exact ⟨by rw [HG.out]; rfl, rfl⟩
          · rw [if_neg hbad0] at hg
            have hbad : ¬ ((k = 9 ∧ 1 < r[k].toNat) ∨ (0 < k ∧ r[k].toNat = 0)) := by
              rintro (⟨x, y⟩ | ⟨x, y⟩)
              · exact hbad0 (.inl ⟨by omega, y⟩)
              · exact hbad0 (.inr ⟨.inr x, y⟩)
            clear hbad0
            have hok := Leb.get_ok r (by rw [show Leb.get r = _ from hg])
            rw [show Leb.get r = _ from hg] at hok
            have hlim : Leb.val (r.take (k + 1)) < 18446744073709551616 := hok.1
            have HG := Lib.hid (gotV_ok l a _ _ (HB.out _ _ _ hg))
            clear hg HK hh hok
            obtain ⟨t, ht⟩ : ∃ t, t = r.take (k + 1) := ⟨_, rfl⟩
            have htl : t.length = k + 1 := by rw [ht, List.length_take]; omega
            have HV : Hid (∀ j (h : j < t.length), w.cell? ⟨b, o + (a + j), none⟩ = some (.int .u8 (t[j].toNat : Int))) := by
              intro j h
              rw [HC.out j (by omega)]
              subst ht
              rw [List.getElem_take]
            rw [← ht] at HG hlim
            clear ht
            have HD : Hid (Leb.val (t.drop (k + 1)) = 0) := by
              show _ = _
              rw [← htl, List.drop_length]; rfl
            have HL : Hid (∀ j, Leb.val (t.drop j) ≤ Leb.val t) := fun j => Leb.val_drop_le t j
            generalize r[k].toNat = v at hcell hhi hbad
            clear HC HB
            by_cases h9 : k = 9
            · subst h9
              have hv : ¬ (1 : Int) < (v : Int) := by omega
              have hv0 : ((v : Int) == 0) = false := by rw [beq_eq_false_iff_ne]; omega
              go_wp2
              go_loop [8, 9] (fun v8 v9 => ∃ (j m : Nat), j ≤ 9 + 1 ∧ v9 = .int .i64 ((j : Int) - 1) ∧ v8 = .int .u64 m ∧ m < 18446744073709551616 ∧ Hid (m = Leb.val (t.drop j))) (fun _ v9 => (intOf v9 + 1).toNat)
              case atStart => exact ⟨9 + 1, 0, by omega, by go_num, rfl, by omega, HD.out.symm⟩
              case round =>
                obtain ⟨j, m, hj, rfl, rfl, hm, HM⟩ := hrel
                by_cases hj0 : j = 0
                · subst hj0
                  have HE : Hid (m = Leb.val t) := HM
                  clear HM
                  go_wp2
                  go_ret3
                  exact ⟨by rw [HG.out, HE.out] <;> rfl, rfl⟩
                · obtain ⟨i, rfl⟩ : ∃ i, j = i + 1 := ⟨j - 1, by omega⟩
                  have hc := HV.out i (by omega)
                  have hvd := Leb.val_drop t i (by omega)
                  rw [← HM.out] at hvd
                  have hle := HL.out i
                  have hc256 : t[i].toNat < 256 := t[i].toNat_lt
                  have HN : Hid (m * 128 + t[i].toNat % 128 = Leb.val (t.drop i)) := hvd.symm
                  have hlt2 : m * 128 + t[i].toNat % 128 < 18446744073709551616 := by omega
                  clear hvd HM hle
                  generalize t[i].toNat = c at hc hc256 HN hlt2
                  go_wp2
                  go_round
                  case rel => exact ⟨i, m * 128 + c % 128, by omega, by go_num, by go_num, hlt2, HN⟩
                  case measure => simp [intOf] <;> omega
            · have hb5 : ((k : Int) == 9) = false := by rw [beq_eq_false_iff_ne]; omega
              by_cases hk0 : k = 0
              · have hk1 : decide ((0 : Int) < (k : Int)) = false := decide_eq_false (by omega)
                have hk2 : (k : Int) ≤ 0 := by omega
                clear hk0 hk1
                go_wp2
                go_loop [8, 9] (fun v8 v9 => ∃ (j m : Nat), j ≤ k + 1 ∧ v9 = .int .i64 ((j : Int) - 1) ∧ v8 = .int .u64 m ∧ m < 18446744073709551616 ∧ Hid (m = Leb.val (t.drop j))) (fun _ v9 => (intOf v9 + 1).toNat)
                case atStart => exact ⟨k + 1, 0, by omega, by go_num, rfl, by omega, HD.out.symm⟩
                case round =>
                  obtain ⟨j, m, hj, rfl, rfl, hm, HM⟩ := hrel
                  by_cases hj0 : j = 0
                  · subst hj0
                    have HE : Hid (m = Leb.val t) := HM
                    clear HM
                    go_wp2
                    go_ret3
                    exact ⟨by rw [HG.out, HE.out] <;> rfl, rfl⟩
                  · obtain ⟨i, rfl⟩ : ∃ i, j = i + 1 := ⟨j - 1, by omega⟩
                    have hc := HV.out i (by omega)
                    have hvd := Leb.val_drop t i (by omega)
                    rw [← HM.out] at hvd
                    have hle := HL.out i
                    have hc256 : t[i].toNat < 256 := t[i].toNat_lt
                    have HN : Hid (m * 128 + t[i].toNat % 128 = Leb.val (t.drop i)) := hvd.symm
                    have hlt2 : m * 128 + t[i].toNat % 128 < 18446744073709551616 := by omega
                    clear hvd HM hle
                    generalize t[i].toNat = c at hc hc256 HN hlt2
                    go_wp2
                    go_round
                    case rel => exact ⟨i, m * 128 + c % 128, by omega, by go_num, by go_num, hlt2, HN⟩
                    case measure => simp [intOf] <;> omega
              · have hk1 : (0 : Int) < (k : Int) := by omega
                have hv0 : ((v : Int) == 0) = false := by rw [beq_eq_false_iff_ne]; omega
                go_wp2
                go_loop [8, 9] (fun v8 v9 => ∃ (j m : Nat), j ≤ k + 1 ∧ v9 = .int .i64 ((j : Int) - 1) ∧ v8 = .int .u64 m ∧ m < 18446744073709551616 ∧ Hid (m = Leb.val (t.drop j))) (fun _ v9 => (intOf v9 + 1).toNat)
                case atStart => exact ⟨k + 1, 0, by omega, by go_num, rfl, by omega, HD.out.symm⟩
                case round =>
                  obtain ⟨j, m, hj, rfl, rfl, hm, HM⟩ := hrel
                  by_cases hj0 : j = 0
                  · subst hj0
                    have HE : Hid (m = Leb.val t) := HM
                    clear HM
                    go_wp2
                    go_ret3
                    exact ⟨by rw [HG.out, HE.out] <;> rfl, rfl⟩
                  · obtain ⟨i, rfl⟩ : ∃ i, j = i + 1 := ⟨j - 1, by omega⟩
                    have hc := HV.out i (by omega)
                    have hvd := Leb.val_drop t i (by omega)
                    rw [← HM.out] at hvd
                    have hle := HL.out i
                    have hc256 : t[i].toNat < 256 := t[i].toNat_lt
                    have HN : Hid (m * 128 + t[i].toNat % 128 = Leb.val (t.drop i)) := hvd.symm
                    have hlt2 : m * 128 + t[i].toNat % 128 < 18446744073709551616 := by omega
                    clear hvd HM hle
                    generalize t[i].toNat = c at hc hc256 HN hlt2
                    go_wp2
                    go_round
                    case rel => exact ⟨i, m * 128 + c % 128, by omega, by go_num, by go_num, hlt2, HN⟩
                    case measure => simp [intOf] <;> omega

theorem refGet_any (p : Option Addr) (c : Nat) (l : List UInt8) (a : Int) (hl : l.length ≤ 140737488351232) (w : World) (h : At w p l) :
    Calls Tryz.prog 35 #[.slice p l.length c, .int .i64 a] w fun e w' => e = .returned (gotV l a) ∧ w' = w := by
  by_cases h0 : a < 0 ∨ (l.length : Int) ≤ a
  · rw [gotV_out l a h0]
    exact refGet_out p c l.length a h0 w
  · obtain ⟨n, rfl⟩ : ∃ n : Nat, a = (n : Int) := ⟨a.toNat, by omega⟩
    obtain ⟨b, o, rfl, _, hc⟩ := at_some h (by omega)
    exact refGet_in b o c n l hl (by omega) w hc
end Go.Proofs.YtpkbdnilakaakaaGreat
