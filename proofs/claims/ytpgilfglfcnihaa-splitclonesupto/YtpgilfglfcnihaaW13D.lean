/- The document's Runs, Held. -/
import Derived.Test.YtpgilfglfcnihaaK13F
import Derived.Test.YtpgilfglfcnihaaSp2
namespace Go.Proofs.Ytpgilfglfcnihaa
open Go.RowKit

set_option maxHeartbeats 4000000 in
theorem refRuns13 (w : World) (p : Option Addr) (c : Nat) (l : List UInt8) (hA : At w p l) (hc : l.length ≤ c) (hl : l.length ≤ 100000000) : Calls Try.prog 12 #[.slice p l.length c] w fun e w' => ∃ q cap bs, e = .returned (.slice q (Sp.of l).out.length cap) ∧ RunsO w' w.heap.size (.slice q (Sp.of l).out.length cap) bs (Sp.of l).out ∧ Below w.heap.size w w' := by
  have HA := Lib.hid hA
  clear hA
  go_enter Try.func12, Try.ntmps12
  go_wp2
  go_loopw [3, 4, 9] (fun v3 v4 v9 wr => ∃ (i : Nat) (bs : List Nat), i ≤ l.length ∧ v9 = .int .i64 i ∧ v4 = .int .i64 (opI (Sp.of (l.take i)).last) ∧ Hid (RunsO wr w.heap.size v3 bs (Sp.of (l.take i)).out ∧ Below w.heap.size w wr)) (fun _ _ v9 _ => l.length - (intOf v9).toNat)
  case atStart => exact ⟨0, [], by omega, rfl, rfl, runsO_nil _ _, Below.refl _ _⟩
  case round =>
    obtain ⟨i, bs, hi, rfl, rfl, HI⟩ := hrel
    obtain ⟨rq, rc, hform, -⟩ := HI.out.1.form
    subst hform
    by_cases hlt : i < l.length
    · have hlt' : (i : Int) < (l.length : Int) := by omega
      obtain ⟨b, o, hp, hbl, hcells⟩ := at_some (HA.out.on HI.out.2) (by omega)
      subst hp
      have hci := hcells i hlt
      obtain ⟨x, hx⟩ : ∃ x, x = l[i] := ⟨_, rfl⟩
      rw [← hx] at hci
      have HM : Hid (Sp.of (l.take (i + 1)) = (Sp.of (l.take i)).step x) := by
        show _ = _
        rw [List.take_succ_eq_append_getElem hlt, hx, Sp.of_snoc]
      have HIn : Hid (∀ k, (Sp.of (l.take i)).last = some k → (l.take i).drop (k + 1) = (Sp.of (l.take i)).tail ∧ k + 1 + (Sp.of (l.take i)).tail.length = i) := by
        intro k hk
        obtain ⟨h1, h2, h3⟩ := (Sp.in_all (l.take i)).some_ k hk
        have h4 := (Sp.ok_of (l.take i)).lastn k hk
        rw [Sp.of_n, List.length_take] at h4
        exact ⟨h3, by omega⟩
      have hDn : (Sp.of (l.take i)).n = i := by rw [Sp.of_n, List.length_take]; omega
      have HOl : Hid ((Sp.of (l.take i)).out.length ≤ 1000000000) := by
        show _ ≤ _
        have := Sp.out_len (l.take i)
        rw [List.length_take] at this
        omega
      have HC := Lib.hid hcells
      clear hcells hx
      obtain ⟨D, hD⟩ : ∃ D, D = Sp.of (l.take i) := ⟨_, rfl⟩
      rw [← hD] at HI HM HIn HOl hDn ⊢
      clear hD
      by_cases hx0 : x = 0
      · have hb0 : ((x.toNat : Int) != 0) = false := by rw [hx0]; rfl
        rw [hx0] at HM hci
        have hlast : (D.step 0).last = some i := by rw [Sp.step_fence, hDn]
        cases hla : D.last with
        | none =>
          have HO : Hid ((D.step 0).out = D.out) := by
            show _ = _
            rw [Sp.step_out, Sp.told_none (by unfold Sp.op; rw [hla]; simp), List.append_nil]
          simp only [opI]
          clear hla
          go_wp2
          go_roundw
          case rel => exact ⟨i + 1, bs, by omega, by go_num, by rw [HM.out, hlast], by rw [HM.out, HO.out]; exact HI.out⟩
          case measure => simp [intOf]; omega
        | some k =>
          obtain ⟨htl, hkn⟩ := HIn.out k hla
          have hk0 : (0 : Int) ≤ (k : Int) := by omega
          have hbk0 : decide ((0 : Int) ≤ (k : Int)) = true := decide_eq_true hk0
          simp only [opI]
          by_cases ht0 : D.tail = []
          · have hnot : ¬ ((1 : Int) < (i : Int) - (k : Int)) := by rw [ht0] at hkn; simp at hkn; omega
            have hbn : decide ((1 : Int) < (i : Int) - (k : Int)) = false := decide_eq_false hnot
            have HO : Hid ((D.step 0).out = D.out) := by
              show _ = _
              rw [Sp.step_out]
              simp only [Sp.told, if_true, ht0]
              cases D.op <;> simp
            clear hla htl
            go_wp2
            go_roundw
            case rel => exact ⟨i + 1, bs, by omega, by go_num, by rw [HM.out, hlast], by rw [HM.out, HO.out]; exact HI.out⟩
            case measure => simp [intOf]; omega
          · have htp : 0 < D.tail.length := List.length_pos_iff.2 ht0
            have hyes : (1 : Int) < (i : Int) - (k : Int) := by omega
            have hby : decide ((1 : Int) < (i : Int) - (k : Int)) = true := decide_eq_true hyes
            by_cases hbig : D.tail.length ≤ 2200
            · have hle : (i : Int) - (k : Int) - 1 ≤ 2200 := by omega
              have hbl2 : decide ((i : Int) - (k : Int) - 1 ≤ 2200) = true := decide_eq_true hle
              have HO : Hid ((D.step 0).out = D.out ++ [(k, D.tail)]) := by
                show _ = _
                have ho : D.op = some k := by unfold Sp.op; rw [if_pos hbig]; exact hla
                rw [Sp.step_out, Sp.told_some ho, Sp.held_op ho, if_neg ht0]
              have HT : Hid (At wr (some ⟨b, o + (k + 1), none⟩) D.tail) := by
                rw [← htl]
                refine .inr ⟨b, o + (k + 1), rfl, hbl, ?_⟩
                exact cells_drop (cells_take HC.out i) (k + 1)
              obtain ⟨T, hT⟩ : ∃ T, T = D.tail := ⟨_, rfl⟩
              rw [← hT] at HT HO hkn htp ht0
              have hki : (k : Int) + 1 ≤ (i : Int) := by omega
              have hic : (i : Int) ≤ (c : Int) := by omega
              clear hla htl hbig HIn hT
              have HTl : Hid (i - (k + 1) = T.length) := by show _ = _; omega
              have hsz := HI.out.2.size
              have HRn := Lib.hid HI.out.1
              go_wp2_with (first
                | (at_builtin
                   go_loud (refine wp_ontoL (B := wr.heap.size) (xs := []) (v := .slice none 0 0) (l := T) (has_nil _ _) HT.out (by simp; omega) (Nat.le_refl _) rfl rfl rfl rfl (by first | (rw [← HTl.out]; rfl) | rfl) ?_)
                   intro ys q cq W HY hH ha _
                   have hy : ys = T := HY.out
                   subst hy
                   have hb1 : Below wr.heap.size wr W := ha.below (Nat.le_refl _) (fun k _ hk => by cases hk)
                   obtain ⟨g2, hq, hm⟩ : ∃ g2, q = some ⟨g2, 0, none⟩ ∧ Mine W wr.heap.size g2 cq ys := by
                     rcases hH.form with ⟨_, h2⟩ | ⟨g2, c2, he, hm⟩
                     · exact absurd h2 ht0
                     · injection he with e1 _ e2
                       subst e1 e2
                       exact ⟨g2, rfl, hm⟩
                   subst hq
                   have hb2 : Below W.heap.size W (W.alloc (.cells #[.int .i64 (k : Int), .slice (some ⟨g2, 0, none⟩) ys.length cq] 39)) := (Below.refl _ _).alloc (Nat.le_refl _) _
                   have hs1 := hb1.size
                   have HB12 := Lib.hid (hb1.trans (hb2.mono hs1))
                   have HRk := Lib.hid ((HRn.out.on hb1).on hb2)
                   have HMn := Lib.hid (mine_low (B' := w.heap.size) (Has.on (v := .slice (some ⟨g2, 0, none⟩) ys.length cq) hm hb2) hsz)
                   have HBk := Lib.hid (heap_new W (.cells #[.int .i64 (k : Int), .slice (some ⟨g2, 0, none⟩) ys.length cq] 39))
                   clear HY hH ha hb1 hb2 hm)
                | (at_builtin
                   refine wp_moreR HRk.out k ys g2 cq HMn.out HBk.out HOl.out (by simp; omega) rfl rfl rfl rfl rfl ?_
                   intro g3 c3 W3 hR3 hW3 _
                   have HR3 := Lib.hid hR3
                   have HW3 := Lib.hid hW3
                   clear hR3 hW3)
                | fail)
              go_roundw
              case rel =>
                refine ⟨i + 1, bs ++ [g2], by omega, by go_num, by rw [HM.out, hlast], ?_⟩
                rw [HM.out, HO.out]
                refine ⟨HR3.out, HI.out.2.trans ((HB12.out.mono hsz).trans (HW3.out.below (by simp; omega) (fun j hj hc => ?_)))⟩
                have := (HRn.out.lt j hc).1
                omega
              case measure => simp [intOf]; omega
            · have hle : ¬ ((i : Int) - (k : Int) - 1 ≤ 2200) := by omega
              have hbl2 : decide ((i : Int) - (k : Int) - 1 ≤ 2200) = false := decide_eq_false hle
              have HO : Hid ((D.step 0).out = D.out) := by
                show _ = _
                rw [Sp.step_out, Sp.told_none (by unfold Sp.op; rw [if_neg hbig]), List.append_nil]
              clear hla htl
              go_wp2
              go_roundw
              case rel => exact ⟨i + 1, bs, by omega, by go_num, by rw [HM.out, hlast], by rw [HM.out, HO.out]; exact HI.out⟩
              case measure => simp [intOf]; omega
      · have hb0 : ((x.toNat : Int) != 0) = true := by
          rw [bne_iff_ne]
          intro hc2
          exact hx0 (UInt8.toNat_inj.1 (by simp; omega))
        have HO : Hid ((D.step x).out = D.out ∧ (D.step x).last = D.last) := by
          constructor
          · rw [Sp.step_out, Sp.told_else hx0, List.append_nil]
          · simp [Sp.step, hx0]
        go_wp2
        go_roundw
        case rel => exact ⟨i + 1, bs, by omega, by go_num, by rw [HM.out, HO.out.2], by rw [HM.out, HO.out.1]; exact HI.out⟩
        case measure => simp [intOf]; omega
    · have hii : i = l.length := by omega
      subst hii
      rw [List.take_length] at HI ⊢
      go_wp2
      go_ret
      exact ⟨rq, rc, bs, rfl, HI.out⟩

set_option maxHeartbeats 1000000 in
theorem refHeld13 (w : World) (p : Option Addr) (c : Nat) (l : List UInt8) (hA : At w p l) (hl : l.length ≤ 100000000) : Calls Try.prog 18 #[.slice p l.length c] w fun e w' => e = .returned (.int .i64 (Sp.of l).held.length) ∧ w' = w := by
  have HA := Lib.hid hA
  clear hA
  go_enter Try.func18, Try.ntmps18
  go_wp2
  go_loopw [3] (fun v3 wr => wr = w ∧ ∃ j : Nat, j ≤ l.length ∧ v3 = .int .i64 ((j : Int) - 1) ∧ Hid (∀ t, j ≤ t → t < l.length → l[t]? ≠ some 0)) (fun v3 _ => (intOf v3 + 1).toNat)
  case atStart => exact ⟨rfl, l.length, Nat.le_refl _, by go_num, fun t h1 h2 => by omega⟩
  case round =>
    obtain ⟨rfl, j, hj, rfl, HZ⟩ := hrel
    by_cases hj0 : j = 0
    · subst hj0
      have HE : Hid ((Sp.of l).held.length = 0) := by
        show _ = _
        rw [Sp.held_nolast (Sp.last_none (fun t ht => HZ.out t (by omega) ht))]
        rfl
      go_wp2
      go_ret
      exact ⟨by rw [HE.out]; rfl, rfl⟩
    · obtain ⟨t, rfl⟩ : ∃ t, j = t + 1 := ⟨j - 1, by omega⟩
      have e1 : (((t + 1 : Nat) : Int) - 1) = (t : Int) := by omega
      rw [e1]
      obtain ⟨b, o, hp, hbl, hcells⟩ := at_some HA.out (by omega)
      subst hp
      have hct := hcells t (by omega)
      have hlt' : (t : Int) < (l.length : Int) := by omega
      obtain ⟨x, hx⟩ : ∃ x, x = l[t] := ⟨_, rfl⟩
      rw [← hx] at hct
      by_cases hx0 : x = 0
      · have HL := Lib.hid (Sp.last_at (m := l) (t := t) (by rw [List.getElem?_eq_getElem (by omega), ← hx, hx0]) (fun k h1 h2 => HZ.out k (by omega) h2))
        rw [hx0] at hct
        by_cases hbig : (2200 : Int) < (l.length : Int) - 1 - (t : Int)
        · have HE : Hid ((Sp.of l).held.length = 0) := by
            show _ = _
            rw [Sp.held_last HL.out.1, if_neg (by have := HL.out.2; omega)]
          clear hcells hx HL
          go_wp2
          go_ret
          exact ⟨by rw [HE.out]; rfl, rfl⟩
        · have HE : Hid (((Sp.of l).held.length : Int) = (l.length : Int) - 1 - (t : Int)) := by
            show _ = _
            rw [Sp.held_last HL.out.1, if_pos (by have := HL.out.2; omega)]
            have := HL.out.2
            omega
          clear hcells hx HL
          go_wp2
          go_ret
          exact ⟨by rw [HE.out]; rfl, rfl⟩
      · have hb0 : ((x.toNat : Int) == 0) = false := by
          rw [beq_eq_false_iff_ne]
          intro hc2
          exact hx0 (UInt8.toNat_inj.1 (by simp; omega))
        have HZ2 : Hid (∀ k, t ≤ k → k < l.length → l[k]? ≠ some 0) := by
          intro k h1 h2 hc
          by_cases hk : k = t
          · subst hk
            rw [List.getElem?_eq_getElem h2, ← hx] at hc
            injection hc with hc
            exact hx0 hc
          · exact HZ.out k (by omega) h2 hc
        clear hcells hx HZ
        go_wp2
        go_roundw
        case rel => exact ⟨trivial, t, by omega, by go_num, HZ2.out⟩
        case measure => simp [intOf]
end Go.Proofs.Ytpgilfglfcnihaa
