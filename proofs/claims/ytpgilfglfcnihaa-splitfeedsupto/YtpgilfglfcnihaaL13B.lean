/- SplitFeeds. -/
import Derived.Test.YtpgilfglfcnihaaW13F
namespace Go.Proofs.Ytpgilfglfcnihaa
open Go.RowKit

set_option maxRecDepth 100000 in
set_option maxHeartbeats 8000000 in
theorem splitFeeds (pp : Option Addr) (cp : Nat) (ps : List (List UInt8)) (w : World) (hP : PcL w pp ps) (hl : ps.flatten.length ≤ 1048576) (hpl : ps.length ≤ 1048576) : Calls Try.prog 4 #[.slice pp ps.length cp] w fun e w' => e = .returned (.bool true) ∧ Below w.heap.size w w' := by
  have HP := Lib.hid hP
  have HL := Lib.hid (live13 w)
  clear hP
  go_enter Try.func4, Try.ntmps4
  go_wp2_with fail
  refine HL.out.mono ?_
  rintro e w1 ⟨rfl, hb1⟩
  have HB1 := Lib.hid hb1
  have hs1 := hb1.size
  have HN := Lib.hid (newK w1)
  clear hb1 HL
  go_wp2_with fail
  refine HN.out.mono ?_
  rintro e w2 ⟨g, v, rfl, hs2, hb2⟩
  have HS0 : Hid (FdS w w2 w1.heap.size g v (.slice none 0 0) []) := ⟨HB1.out.trans (hb2.mono hs1), hs2, has_nil _ _, fun k hk => by cases hk⟩
  clear hs2 hb2 HN HB1
  go_wp2
  go_loopw [5, 6, 19] (fun v5 v6 v19 wr => ∃ (i : Nat) (v' : Value), i ≤ ps.length ∧ v19 = .int .i64 i ∧ v6 = .int .i64 ((Sp.of (ps.take i).flatten).out.length : Nat) ∧ Hid (FdS w wr w1.heap.size g v' v5 (ps.take i).flatten)) (fun _ _ v19 _ => ps.length - (intOf v19).toNat)
  case atStart => exact ⟨0, v, by omega, rfl, rfl, HS0.out⟩
  case round =>
    clear HS0
    obtain ⟨i, v', hi, rfl, rfl, HI⟩ := hrel
    obtain ⟨ws, hws⟩ : ∃ ws, ws = wr := ⟨_, rfl⟩
    subst hws
    obtain ⟨qa, ka, hva, -, -⟩ := HI.out.all.at
    subst hva
    by_cases hlt : i < ps.length
    · have hlt' : (i : Int) < (ps.length : Int) := by omega
      obtain ⟨bp, op, q, c, hpp, hcell0, hqc, hAt⟩ := HP.out i hlt
      subst hpp
      have hcell := (HI.out.low.cell (p := ⟨bp, op + i, none⟩) (World.block_lt_of_cell? _ _ hcell0)).trans hcell0
      clear hcell0
      have HSu := Lib.hid (flat_succ ps i hlt)
      have hfl := flat_len ps i hlt
      obtain ⟨m, hm⟩ : ∃ m, m = (ps.take i).flatten := ⟨_, rfl⟩
      obtain ⟨x, hx⟩ : ∃ x, x = ps[i] := ⟨_, rfl⟩
      rw [← hx] at hcell hqc hAt hfl HSu
      rw [← hm] at HI hfl HSu ⊢
      clear hm hx
      have HAx := Lib.hid hAt
      have HLe := Lib.hid (lent13 q c x ws (hAt.on HI.out.low) (by omega))
      clear hAt
      go_wp2_with fail
      refine HLe.out.mono ?_
      rintro e w3 ⟨rfl, hm3, hb3⟩
      have HI3 := Lib.hid (HI.out.on hb3)
      have HM3 := Lib.hid hm3
      have HB3 := Lib.hid hb3
      have hz3 := hb3.size
      have hzr := HI.out.low.size
      have hgr := HI.out.spl.lt
      have HVr := Lib.hid (fun k (hk : v'.ownBlock = some k) => (HI.out.spl.held.lt k hk).2)
      have HAr := Lib.hid (fun k (hk : (Value.slice qa m.length ka).ownBlock = some k) => (HI.out.all.lt k hk).2)
      have hN3 := hm3.base.2.1
      clear hm3 hb3 HLe HI
      have HF := Lib.hid (feedK w3 w1.heap.size g v' (Sp.of m) (some ⟨ws.heap.size, 0, none⟩) (x.length + 2) x HI3.out.spl (lent_at HM3.out) (fun _ b o hb => by
        injection hb with hb
        injection hb with e1 _
        subst e1
        exact ⟨by omega, fun hc => by have := HVr.out _ hc; omega⟩) (by rw [Sp.of_n]; omega))
      go_wp2_with fail
      refine HF.out.mono ?_
      rintro e w4 ⟨rq, rc, v4, bs, rfl, hf⟩
      have HFd := Lib.hid (HI3.out.fed hs1 hf)
      have HOwn := Lib.hid hf.own
      have HZ4 : Hid (SizedB w4 5 ws.heap.size (x.length + 2)) := by
        have h1 := mine_aside HM3.out hf.aside (fun hc => by
          rcases hc with hc | hc
          · omega
          · have := HVr.out _ hc
            omega)
        rcases h1.2 with ⟨h2, _⟩ | ⟨g2, cap2, cur2, h2, _, h3, _, _, h6, _⟩
        · cases h2
        · cases h2
          exact ⟨cur2, h3, by simpa using h6⟩
      clear hf HF HI3 HM3
      go_wp2
      go_loopw [30] (fun v30 wr2 => ∃ j : Nat, j ≤ x.length ∧ v30 = .int .i64 j ∧ Hid (Aside (· = ws.heap.size) w4 wr2 ∧ SizedB wr2 5 ws.heap.size (x.length + 2))) (fun v30 _ => x.length - (intOf v30).toNat)
      case atStart => exact ⟨0, by omega, rfl, Aside.refl _ _, HZ4.out⟩
      case round =>
        clear HZ4
        obtain ⟨j, hj, rfl, HJ⟩ := hrel
        by_cases hlj : j < x.length
        · have hlj' : (j : Int) < (x.length : Int) := by omega
          obtain ⟨⟨ov, oc⟩, fz⟩ := HJ.out.2.cell j (by omega)
          have HZ2 := Lib.hid (HJ.out.2.set ws.heap.size j (.int .u8 9))
          have HA2 := Lib.hid (HJ.out.1.setCell (p := ⟨ws.heap.size, j, none⟩) (.inl rfl) (.int .u8 9))
          clear HJ
          go_wp2
          go_roundw
          case rel => exact ⟨j + 1, by omega, by go_num, HA2.out, HZ2.out⟩
          case measure => simp [intOf]; omega
        · have hjj : j = x.length := by omega
          subst hjj
          have HF5 := Lib.hid (HFd.out.aside HJ.out.1 (fun k hk => by omega) (by omega) (fun k hk hc => by
              rcases HOwn.out k hk with h1 | h1
              · have := HVr.out k h1
                omega
              · omega) (fun k hk hc => by have := HAr.out k hk; omega) (fun k hk hc => by have := (HFd.out.runs.lt k hk).1; omega) (fun k hk hc => by have := (HFd.out.runs.mem k hk).1; omega))
          have hz5 := HF5.out.low.size
          clear HJ HFd HOwn HVr HAr HB3
          go_wp2_with (first
            | (at_builtin
               refine wp_ontoL HF5.out.all (HAx.out.on HF5.out.low) (by omega) (by have := HF5.out.spl.base; have := HF5.out.spl.lt; omega) rfl rfl rfl rfl rfl ?_
               intro ys q6 k6 w6 HY hh ha ho
               have hye : ys = m ++ x := HY.out
               have HE6 := Lib.hid (HF5.out.more hs1 (by omega) (by rw [hye] at hh ⊢; exact hh) ha ho)
               have hyl : ys.length ≤ 1048576 := by rw [hye, List.length_append]; omega
               clear hh ha ho HY HF5)
            | fail)
          have hyle : ys.length = m.length + x.length := by rw [hye, List.length_append]
          subst hye
          have HRr : Hid (Calls Try.prog 12 #[.slice q6 (m.length + x.length) k6] w6 fun e w' => ∃ q cap bs, e = .returned (.slice q (Sp.of (m ++ x)).out.length cap) ∧ RunsO w' w6.heap.size (.slice q (Sp.of (m ++ x)).out.length cap) bs (Sp.of (m ++ x)).out ∧ Below w6.heap.size w6 w') := by
            obtain ⟨p', c', he, hA, hcap⟩ := HE6.out.all.at
            injection he with e1 _ e3
            subst e1 e3
            rw [← hyle]
            exact refRuns13 w6 q6 k6 (m ++ x) hA hcap (by omega)
          refine HRr.out.mono ?_
          rintro e w7 ⟨qw, cw, bw, rfl, hrw, hbw⟩
          have HE7 := Lib.hid (HE6.out.on hbw)
          have HRw := Lib.hid hrw
          clear hrw hbw HRr HE6
          have hn : (Sp.of m).out.length ≤ (Sp.of (m ++ x)).out.length := by rw [Sp.of_append, Sp.tolds_out]; simp
          obtain ⟨pv, hpv⟩ : ∃ pv, (if cw = (Sp.of m).out.length then qw else Option.map (fun x => x.add ((Sp.of m).out.length * 2)) qw) = pv := ⟨_, rfl⟩
          have HE1 : Hid ((Sp.of (m ++ x)).out.drop (Sp.of m).out.length = (Sp.of m).tolds x) := by show _ = _; rw [Sp.of_append]; rfl
          have hE1 : ((Sp.of m).tolds x).length = (Sp.of (m ++ x)).out.length - (Sp.of m).out.length := by rw [← HE1.out, List.length_drop]
          have HSm := Lib.hid (same13 rq pv rc (cw - (Sp.of m).out.length) ((Sp.of m).tolds x) ((Sp.of m).tolds x) w7 HE7.out.runs.read (by rw [← HE1.out]; exact runs_cut HRw.out hpv) (by have := Sp.tolds_len (Sp.of m) x; omega))
          rw [show ((Sp.of m).tolds x == (Sp.of m).tolds x) = true from beq_self_eq_true _] at HSm
          have HSm2 : Hid (Calls Try.prog 11 #[.slice rq ((Sp.of m).tolds x).length rc, .slice pv ((Sp.of (m ++ x)).out.length - (Sp.of m).out.length) (cw - (Sp.of m).out.length)] w7 fun e w' => e = .returned (.bool true) ∧ ∃ n, w' = w7.drewN n) := by
            have := HSm.out
            show Calls _ _ _ _ _
            rw [← hE1]
            exact this
          clear hE1 HSm
          go_wp2_with fail
          refine HSm2.out.mono ?_
          rintro e w8 ⟨rfl, n8, hw8⟩
          have HE8 : Hid (FdE w w8 w1.heap.size w3.heap.size g v4 (.slice q6 (m ++ x).length k6) m x (.slice rq ((Sp.of m).tolds x).length rc) bs) := by
            show FdE _ _ _ _ _ _ _ _ _ _ _
            rw [hw8]
            exact HE7.out.drewN n8
          clear hw8 HSm2 hpv HE7 HRw
          have HHe := Lib.hid (heldK w8 _ g v4 _ HE8.out.spl)
          have HAt := Lib.hid (atK w8 _ g v4 _ HE8.out.spl)
          rw [Sp.of_n, List.length_append] at HAt
          have HRh : Hid (Calls Try.prog 18 #[.slice q6 (m.length + x.length) k6] w8 fun e w' => e = .returned (.int .i64 (Sp.of (m ++ x)).held.length) ∧ w' = w8) := by
            obtain ⟨p', c', he, hA, hcap⟩ := HE8.out.all.at
            injection he with e1 _ e3
            subst e1 e3
            rw [← hyle]
            exact refHeld13 w8 q6 k6 (m ++ x) hA (by omega)
          clear hyle
          go_wp2_with fail
          refine HHe.out.mono ?_
          rintro e w9 ⟨rfl, hw⟩
          rw [hw]
          clear hw w9
          go_wp2_with fail
          refine HRh.out.mono ?_
          rintro e w9 ⟨rfl, hw⟩
          rw [hw]
          clear hw w9
          go_wp2_with fail
          refine HAt.out.mono ?_
          rintro e w9 ⟨rfl, hw⟩
          rw [hw]
          clear hw w9 HHe HRh HAt
          have HSp := Lib.hid (spoils13 rq rc ((Sp.of m).tolds x) bs _ w8 HE8.out.runs)
          go_wp2_with fail
          refine HSp.out.mono ?_
          rintro e w9 ⟨rfl, ha9⟩
          have HS9 := Lib.hid (HE8.out.spoilt ha9)
          clear ha9 HSp HE8
          go_wp2
          go_roundw
          case rel =>
            refine ⟨i + 1, v4, by omega, by go_num, by rw [HSu.out], ?_⟩
            rw [HSu.out]
            have := HS9.out
            rw [List.length_append] at this
            exact this
          case measure => simp [intOf]; omega
    · have hii : i = ps.length := by omega
      subst hii
      go_wp2
      go_ret
      exact ⟨rfl, HI.out.low⟩
end Go.Proofs.Ytpgilfglfcnihaa
