/- SplitStands. -/
import Derived.Test.YtpgilfglfcnihaaW13F
import Derived.Test.YtpgilfglfcnihaaL13E
namespace Go.Proofs.Ytpgilfglfcnihaa
open Go.RowKit

/-- where the last run of a list stands -/
def lastI (rs : List Run) : Int := match rs.getLast? with | none => -1 | some r => (r.1 : Int)
theorem lastI_lt {l : List Run} (h : l.Pairwise (fun a b => a.1 < b.1)) {t : Nat} (ht : t < l.length) : lastI (l.take t) < (l[t].1 : Int) := by
  unfold lastI
  cases t with
  | zero => simp; omega
  | succ t =>
    have e : (l.take (t + 1)).getLast? = some l[t] := by
      rw [List.take_succ_eq_append_getElem (by omega), List.getLast?_append]
      simp
    rw [e]
    have := List.pairwise_iff_getElem.1 h t (t + 1) (by omega) ht (by omega)
    simp only
    omega
theorem lastI_snoc (l : List Run) (r : Run) : lastI (l ++ [r]) = (r.1 : Int) := by
  unfold lastI
  rw [List.getLast?_append]
  simp
theorem lastI_ge (l : List Run) : -1 ≤ lastI l := by
  unfold lastI
  cases l.getLast? with
  | none => simp
  | some r => simp only; omega

set_option maxRecDepth 100000 in
set_option maxHeartbeats 8000000 in
theorem splitStands (pp : Option Addr) (cp : Nat) (ps : List (List UInt8)) (w : World) (hP : PcL w pp ps) (hl : ps.flatten.length ≤ 1048576) (hpl : ps.length ≤ 1048576) : Calls Try.prog 6 #[.slice pp ps.length cp] w fun e w' => e = .returned (.bool true) ∧ Below w.heap.size w w' := by
  have HP := Lib.hid hP
  have HL := Lib.hid (live13 w)
  clear hP
  go_enter Try.func6, Try.ntmps6
  go_wp2_with fail
  refine HL.out.mono ?_
  rintro e w1 ⟨rfl, hb1⟩
  have HB1 := Lib.hid hb1
  have hs1 := hb1.size
  have HN := Lib.hid (newK w1)
  clear hb1 HL
  go_wp2_with fail
  refine HN.out.mono ?_
  rintro e w2 ⟨g, v, rfl, hs2, hb2⟩
  have HS0 : Hid (FdS w w2 w1.heap.size g v (.slice none 0 0) []) := ⟨HB1.out.trans (hb2.mono hs1), hs2, has_nil _ _, fun k hk => by cases hk⟩
  clear hs2 hb2 HN HB1
  go_wp2
  go_loopw [5, 6, 21] (fun v5 v6 v21 wr => ∃ (i : Nat) (v' : Value), i ≤ ps.length ∧ v21 = .int .i64 i ∧ v6 = .int .i64 (lastI (Sp.of (ps.take i).flatten).out) ∧ Hid (FdS w wr w1.heap.size g v' v5 (ps.take i).flatten)) (fun _ _ v21 _ => ps.length - (intOf v21).toNat)
  case atStart => exact ⟨0, v, by omega, rfl, rfl, HS0.out⟩
  case round =>
    clear HS0
    obtain ⟨i, v', hi, rfl, rfl, HI⟩ := hrel
    obtain ⟨ws, hws⟩ : ∃ ws, ws = wr := ⟨_, rfl⟩
    subst hws
    obtain ⟨qa, ka, hva, -, -⟩ := HI.out.all.at
    subst hva
    by_cases hlt : i < ps.length
    · have hlt' : (i : Int) < (ps.length : Int) := by omega
      obtain ⟨bp, op, q, c, hpp, hcell0, hqc, hAt⟩ := HP.out i hlt
      subst hpp
      have hcell := (HI.out.low.cell (p := ⟨bp, op + i, none⟩) (World.block_lt_of_cell? _ _ hcell0)).trans hcell0
      clear hcell0
      have HSu := Lib.hid (flat_succ ps i hlt)
      have hfl := flat_len ps i hlt
      obtain ⟨m, hm⟩ : ∃ m, m = (ps.take i).flatten := ⟨_, rfl⟩
      obtain ⟨x, hx⟩ : ∃ x, x = ps[i] := ⟨_, rfl⟩
      rw [← hx] at hcell hqc hAt hfl HSu
      rw [← hm] at HI hfl HSu ⊢
      clear hm hx
      have HAx := Lib.hid hAt
      have HF := Lib.hid (feedK ws w1.heap.size g v' (Sp.of m) q c x HI.out.spl (hAt.on HI.out.low) (off_old HI.out.spl hAt hs1) (by rw [Sp.of_n]; omega))
      have hzr := HI.out.low.size
      clear hAt
      go_wp2_with fail
      refine HF.out.mono ?_
      rintro e w4 ⟨rq, rc, v4, bs, rfl, hf⟩
      have HFd := Lib.hid (HI.out.fed hs1 hf)
      clear hf HF HI
      go_wp2_with (first
        | (at_builtin
           refine wp_ontoL HFd.out.all (HAx.out.on HFd.out.low) (by omega) (by have := HFd.out.spl.base; have := HFd.out.spl.lt; omega) rfl rfl rfl rfl rfl ?_
           intro ys q6 k6 w6 HY hh ha ho
           have hye : ys = m ++ x := HY.out
           have HE6 := Lib.hid (HFd.out.more hs1 hzr (by rw [hye] at hh ⊢; exact hh) ha ho)
           have hyl : ys.length ≤ 1048576 := by rw [hye, List.length_append]; omega
           clear hh ha ho HY HFd)
        | fail)
      subst hye
      have HHe := Lib.hid (heldK w6 _ g v4 _ HE6.out.spl)
      have hhl := Sp.held_le (Sp.of (m ++ x))
      obtain ⟨hn, hhn⟩ : ∃ hn, hn = (Sp.of (m ++ x)).held.length := ⟨_, rfl⟩
      rw [← hhn] at hhl HHe
      clear hhn
      have hd1 : decide ((hn : Int) < 0) = false := decide_eq_false (by omega)
      have hd2 : decide ((2200 : Int) < (hn : Int)) = false := decide_eq_false (by omega)
      refine HHe.out.mono ?_
      rintro e w7 ⟨rfl, hw⟩
      rw [hw]
      clear hw w7
      go_wp2_with fail
      refine HHe.out.mono ?_
      rintro e w7 ⟨rfl, hw⟩
      rw [hw]
      clear hw w7 HHe
      go_wp2
      have HOut : Hid ((Sp.of (m ++ x)).out = (Sp.of m).out ++ (Sp.of m).tolds x) := by show _ = _; rw [Sp.of_append, Sp.tolds_out]
      have HSt := Lib.hid (Sp.row_all (m ++ x))
      obtain ⟨R, hR⟩ : ∃ R, R = (Sp.of m).tolds x := ⟨_, rfl⟩
      have hRl : R.length ≤ 1048576 := by rw [hR]; have := Sp.tolds_len (Sp.of m) x; omega
      have HRR : Hid (RunsR w6 rq R) := by rw [hR]; exact HE6.out.runs.read
      rw [← hR] at HOut ⊢
      clear hR
      go_loopw [6, 41] (fun v6 v41 wr => ∃ t : Nat, t ≤ R.length ∧ v41 = .int .i64 t ∧ v6 = .int .i64 (lastI ((Sp.of m).out ++ R.take t)) ∧ Hid (Below w6.heap.size w6 wr)) (fun _ v41 _ => R.length - (intOf v41).toNat)
      case atStart => exact ⟨0, by omega, rfl, by simp, Below.refl _ _⟩
      case round =>
        obtain ⟨t, ht, rfl, rfl, HW⟩ := hrel
        obtain ⟨wt, hwt⟩ : ∃ wt, wt = wr := ⟨_, rfl⟩
        subst hwt
        by_cases htl : t < R.length
        · have htl' : (t : Int) < (R.length : Int) := by omega
          obtain ⟨gr, or, qy, cy, hpr, r0, r1, hAy⟩ := (HRR.out.on HW.out).get htl
          subst hpr
          have hmem : R[t] ∈ (Sp.of (m ++ x)).out := by rw [HOut.out]; exact List.mem_append_right _ (List.getElem_mem htl)
          have hst := HSt.out.stand _ hmem
          have hlast : lastI ((Sp.of m).out ++ R.take t) < (R[t].1 : Int) := by
            have h1 := lastI_lt (t := (Sp.of m).out.length + t) HSt.out.sorted (by rw [HOut.out, List.length_append]; omega)
            simp only [HOut.out] at h1
            rw [List.take_length_add_append, List.getElem_append_right (by omega)] at h1
            simpa using h1
          have HNx : Hid (lastI ((Sp.of m).out ++ R.take (t + 1)) = (R[t].1 : Int)) := by
            show _ = _
            rw [List.take_succ_eq_append_getElem htl, ← List.append_assoc, lastI_snoc]
          have hge := lastI_ge ((Sp.of m).out ++ R.take t)
          obtain ⟨L0, hL0⟩ : ∃ L0, L0 = lastI ((Sp.of m).out ++ R.take t) := ⟨_, rfl⟩
          rw [← hL0] at hlast hge ⊢
          clear hL0
          obtain ⟨⟨k, ls⟩, hr⟩ : ∃ r, r = R[t] := ⟨_, rfl⟩
          rw [← hr] at r0 r1 hAy hst hlast HNx
          simp only at r0 r1 hAy hlast HNx
          have hfit := hst.fit
          have hpos := hst.pos
          have hmost := hst.most
          simp only at hfit hpos hmost
          clear hr
          obtain ⟨pa, cc, hea, hAa, hcc⟩ := (HE6.out.all.on HW.out).at
          injection hea with e1 _ e3
          subst e1 e3
          obtain ⟨ba, oa, hqa, hba, hca⟩ := at_some hAa (by omega)
          subst hqa
          have hb1 : Below wt.heap.size wt (wt.alloc (.cells #[.int .i64 (k : Int), .slice qy ls.length cy] 39)) := (Below.refl _ _).alloc (Nat.le_refl _) _
          have hcell : ∀ j (hj : j < (m ++ x).length), (wt.alloc (.cells #[.int .i64 (k : Int), .slice qy ls.length cy] 39)).cell? ⟨ba, oa + j, none⟩ = some (.int .u8 ((m ++ x)[j].toNat : Int)) := fun j hj => (hb1.cell (p := ⟨ba, oa + j, none⟩) hba).trans (hca j hj)
          have a0 := hcell k (by omega)
          have a1 := hcell (k + ls.length + 1) (by omega)
          rw [show (m ++ x)[k] = 0 from by have := hst.ahead; rw [List.getElem?_eq_getElem (by omega)] at this; injection this] at a0
          rw [show (m ++ x)[k + ls.length + 1] = 0 from by have := hst.behind; rw [List.getElem?_eq_getElem (by omega)] at this; injection this] at a1
          have hAs : At wt (some ⟨ba, oa + (k + 1), none⟩) ls := by
            have hby := hst.bytes
            simp only at hby
            rw [← hby]
            exact .inr ⟨ba, oa + (k + 1), rfl, hba, cells_take (cells_drop hca (k + 1)) ls.length⟩
          have k1 := fun mm cc => conv_str ((hAs.on hb1).drewN mm) cc
          have k2 := fun mm => conv_str ((hAy.on hb1).drewN mm) cy
          have HAy := Lib.hid (hAy.on hb1)
          have HCl := Lib.hid hst.clean
          have hyl2 : m.length + x.length ≤ 1048576 := by omega
          rw [List.length_append] at hfit hcc
          have d1 : decide ((ls.length : Int) < 1) = false := decide_eq_false (by omega)
          have d2 : decide ((2200 : Int) < (ls.length : Int)) = false := decide_eq_false (by omega)
          have d3 : decide ((k : Int) ≤ L0) = false := decide_eq_false (by omega)
          have d4 : decide ((m.length : Int) + (x.length : Int) ≤ (k : Int) + (ls.length : Int) + 1) = false := decide_eq_false (by omega)
          have i1 : (k : Int) < (m.length : Int) + (x.length : Int) := by omega
          have i2 : (k : Int) + (ls.length : Int) + 1 < (m.length : Int) + (x.length : Int) := by omega
          have i3 : (k : Int) + (ls.length : Int) + 1 ≤ (k6 : Int) := by omega
          have i4 : (k : Int) + 1 ≤ (k : Int) + (ls.length : Int) + 1 := by omega
          have i5 : ¬ k6 = k + 1 := by omega
          have HB1 := Lib.hid hb1
          clear hcell hAs hAy hst hmem hb1 hca hAa
          go_wp2
          go_quiet (fail)
          clear k1 k2 a0 a1 d1 d2 d3 d4 i1 i2 i3 i4 i5 r0 r1
          go_wp2
          go_loopw [109] (fun v109 wr => ∃ j : Nat, j ≤ ls.length ∧ v109 = .int .i64 j ∧ wr = (wt.alloc (.cells #[.int .i64 (k : Int), .slice qy ls.length cy] 39)).drewN nq) (fun v109 _ => ls.length - (intOf v109).toNat)
          case atStart => exact ⟨0, by omega, rfl, rfl⟩
          case round =>
            obtain ⟨j, hj, rfl, hwr⟩ := hrel
            subst hwr
            by_cases hlj : j < ls.length
            · have hlj' : (j : Int) < (ls.length : Int) := by omega
              obtain ⟨by_, oy, hqy, -, hcy⟩ := at_some (HAy.out.drewN nq) (by omega)
              subst hqy
              have hcj := hcy j hlj
              have hz : ((ls[j].toNat : Int) == 0) = false := by
                rw [beq_eq_false_iff_ne]
                intro hc
                exact HCl.out ls[j] (List.getElem_mem hlj) (UInt8.toNat_inj.1 (by simp; omega))
              clear hcy
              go_wp2
              go_roundw
              case rel => exact ⟨j + 1, by omega, by go_num, trivial⟩
              case measure => simp [intOf]; omega
            · have hjj : j = ls.length := by omega
              subst hjj
              go_wp2
              go_roundw
              case rel => exact ⟨t + 1, by omega, by go_num, by rw [HNx.out], HW.out.trans (below_drewN (HB1.out.mono HW.out.size) nq)⟩
              case measure => simp [intOf]; omega
        · have htt : t = R.length := by omega
          subst htt
          rw [List.take_length, ← HOut.out]
          go_wp2
          go_roundw
          case rel =>
            refine ⟨i + 1, v4, by omega, by go_num, by rw [HSu.out], ?_⟩
            rw [HSu.out]
            have := (HE6.out.on HW.out).next
            rw [List.length_append] at this
            exact this
          case measure => simp [intOf]; omega
    · have hii : i = ps.length := by omega
      subst hii
      go_wp2
      go_ret
      exact ⟨rfl, HI.out.low⟩
end Go.Proofs.Ytpgilfglfcnihaa
