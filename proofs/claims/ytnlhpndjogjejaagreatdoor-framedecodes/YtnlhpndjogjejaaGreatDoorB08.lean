/- WDecR, WWhole, WSameSR, K7A, K7B, K7C, K7D, K7M, K7E, K7F, K7G: put together. -/
import Derived.Test.YtnlhpndjogjejaaGreatDoorB07
import Derived.Test.YtnlhpndjogjejaaGreatDoorB04
import Derived.Test.YtnlhpndjogjejaaGreatDoorB02
import Derived.Test.YtnlhpndjogjejaaGreatDoorB03
import Derived.Test.YtnlhpndjogjejaaGreatDoorB06
import Derived.Maps.OwnOps
import Derived.Maps.OwnSet
import Derived.StringKeys
import Derived.Test.YtnlhpndjogjejaaGreatDoorB01

/- The document's Decode. -/
namespace Go.Proofs.YtnlhpndjogjejaaGreatDoor
open Go.RowKit

attribute [local go_sem] run_store_float

/-- what Decode answers: the schema in blocks of its own, or the error alone -/
def DecV (w : World) (r : Except Nat (List Col)) (e : Ending) (w' : World) : Prop := match r with
  | .error er => e = .returned (.tuple #[.agg #[.slice none 0 0], .int .i64 (er : Nat)]) ∧ Below w.heap.size w w'
  | .ok s => ∃ u, e = .returned (.tuple #[.agg u, .int .i64 0]) ∧ SOwn w' w.heap.size u s ∧ Below w.heap.size w w'

def shift (n : Nat) : Except Nat (List Col × Nat) → Except Nat (List Col × Nat)
  | .error e => .error e
  | .ok (s, k) => .ok (s, n + k)
def stepC (m : Nat) (s : List Col) (b : List UInt8) : Except Nat (Col × Nat) → Except Nat (List Col × Nat)
  | .error e => .error e
  | .ok (c, j) => shift j (Sch.rdCs m (s ++ [c]) (b.drop j))
theorem rdCs_succ (m : Nat) (s : List Col) (b : List UInt8) : Sch.rdCs (m + 1) s b = stepC m s b (Sch.rdC s b) := by
  rw [Sch.rdCs]
  cases Sch.rdC s b with
  | error e => rfl
  | ok p =>
    obtain ⟨c, j⟩ := p
    rw [stepC]
    dsimp only
    cases Sch.rdCs m (s ++ [c]) (b.drop j) with
    | error e => rfl
    | ok q => rfl
theorem shift_shift (n j : Nat) (r : Except Nat (List Col × Nat)) : shift n (shift j r) = shift (n + j) r := by
  cases r with
  | error e => rfl
  | ok p => simp [shift, Nat.add_assoc]
theorem rdC_err {s : List Col} {b : List UInt8} {e : Nat} (h : Sch.rdC s b = .error e) : e ≠ 0 := by
  rw [Sch.rdC] at h
  split at h
  · next e' he => injection h with h; rw [← h]; exact num_err he
  · split at h
    · injection h with h; omega
    · split at h
      · next e' he => injection h with h; rw [← h]; exact text_err (by decide) he
      · split at h
        · injection h with h; omega
        · split at h
          · injection h with h; omega
          · split at h
            · next e' he => injection h with h; rw [← h]; exact rdT_err 4 _ _ he
            · next t j2 ht =>
              split at h
              · next e' he => injection h with h; rw [← h]; exact bit_err he
              · split at h
                · cases h
                · split at h
                  · next e' he =>
                    injection h with h
                    rw [← h]
                    exact rdV_err t 1 _ _ (Sch.rdT_ok 4 _ _ _ (by omega) ht).2.2.1 he
                  · cases h

/-- while columns are read: the answer's place stands in the first block -/
structure MakingS (w : World) (s : List Col) (v : Value) (wr : World) : Prop where
  built : ∃ us Fs, CBuilt wr (w.heap.size + 1) v s.length us Fs s
  b0 : wr.heap[w.heap.size]? = some (.cells #[.slice none 0 0] 25 (0, 0))
  below : Below w.heap.size w wr
  size : w.heap.size + 1 ≤ wr.heap.size
theorem makingS_start (w : World) : MakingS w [] (.slice none 0 0) (w.alloc (.cells #[.slice none 0 0] 25)) :=
  ⟨⟨_, _, cbuilt_nil _ _⟩, blk_new w _, (Below.refl _ w).alloc (Nat.le_refl _) _, by simp⟩
theorem MakingS.next {w wr w2 w3 w4 : World} {s : List Col} {v : Value} {u : Array Value} {F : Nat → Prop} {g cap : Nat} {us : Nat → Array Value} {Fs : Nat → Nat → Prop} {y : Col} (h : MakingS w s v wr) (hbt : CBuilt wr (w.heap.size + 1) v s.length us Fs s) (hb : Below wr.heap.size wr w2) (hx : COwn w2 F u y)
    (hF : ∀ k, F k → wr.heap.size ≤ k ∧ k < w2.heap.size) (hb3 : Below w2.heap.size w2 w3)
    (hr : w4.ownsRow (w.heap.size + 1) 67 9 (.slice (some ⟨g, 0, none⟩) (s.length + 1) cap) (s.length + 1) (flat us s.length ++ u.toList)) (hg : w3.grownBy w4 v.ownBlock) (hn : v.ownBlock = some g ∨ g = w3.heap.size) :
    MakingS w (s ++ [y]) (.slice (some ⟨g, 0, none⟩) (s.length + 1) cap) w4 := by
  have hs := h.size
  have hs2 := hb.size
  have hs3 := hb3.size
  have hst := hbt.step hb hx hF hb3 hs hr hg hn
  have hb4 : Below w.heap.size w w4 := ((h.below.trans (hb.mono (by omega))).trans (hb3.mono (by omega))).grown hg (by omega) (fun k hk => by have := (hbt.lt k hk).1; omega)
  refine ⟨⟨(fun n => if n = s.length then u else us n), (fun n => if n = s.length then F else Fs n), ?_⟩, ?_, hb4, ?_⟩
  · rw [List.length_append, List.length_singleton]
    exact hst
  · rw [hg.block _ (by omega) (fun hc => by have := (hbt.lt _ hc.symm).1; omega), hb3.block _ (by omega), hb.block _ (by omega)]
    exact h.b0
  · have := hg.size
    omega

set_option maxRecDepth 100000 in
set_option maxHeartbeats 4000000 in
theorem refDecode7 (p : Option Addr) (l : List UInt8) (c : Nat) (hl : l.length ≤ 140737488351232) (hlc : l.length ≤ c) (w : World) (hat : At w p l) :
    Calls Tryz.prog 18 #[.slice p l.length c] w (DecV w (Sch.read l)) := by
  obtain ⟨R, hR⟩ : ∃ R, R = Sch.read l := ⟨_, rfl⟩
  have HRd : Hid (R = Sch.read l) := hR
  rw [← hR]
  clear hR
  have HB : Hid (∀ o, Below w.heap.size w (w.alloc o)) := fun o => (Below.refl _ _).alloc (Nat.le_refl _) _
  have HA := Lib.hid hat
  clear hat
  by_cases h1 : 1024 < l.length
  · have g1 : (1024 : Int) < (l.length : Int) := by omega
    have HE : Hid (R = .error 2) := by show _ = _; rw [HRd.out, Sch.read, if_pos h1]
    clear HRd h1
    go_enter Tryz.func18, Tryz.ntmps18
    go_wp2
    refine bodyPost_ret (results_row2 rfl _ _ w.heap.size _ _ _ _ rfl (blk_new w _) Tryz.underlying25 rfl (by kernel_rfl)) rfl ?_
    rw [HE.out]
    exact ⟨rfl, HB.out _⟩
  have g1 : ¬ (1024 : Int) < (l.length : Int) := by omega
  have HG := Lib.hid (refNum7 p c l 0 hl (w.alloc (.cells #[.slice none 0 0] 25)) (HA.out.on (HB.out _)))
  rw [List.drop_zero] at HG
  cases hn : Sch.num l with
  | error er =>
    have her := num_err hn
    have g0 : ((er : Int) != 0) = true := by rw [bne_iff_ne]; omega
    have HE : Hid (R = .error er) := by show _ = _; rw [HRd.out, Sch.read, if_neg h1, hn]
    rw [hn] at HG
    simp only [numV] at HG
    clear hn HRd her h1
    go_enter Tryz.func18, Tryz.ntmps18
    go_wp2_with fail
    refine HG.out.mono ?_
    rintro e w1 ⟨rfl, hw⟩
    rw [hw]
    clear hw w1 HG
    go_wp2
    refine bodyPost_ret (results_row2 rfl _ _ w.heap.size _ _ _ _ rfl (blk_new w _) Tryz.underlying25 rfl (by kernel_rfl)) rfl ?_
    rw [HE.out]
    exact ⟨rfl, HB.out _⟩
  | ok nk =>
    obtain ⟨m, kk⟩ := nk
    have hno := Sch.num_ok hn
    have hkl : kk ≤ l.length := by
      obtain ⟨-, r, hr, hk2⟩ := hno
      have := congrArg List.length hr
      rw [List.length_append] at this
      omega
    have hm64 := hno.1
    have HRd1 : Hid (R = if m = 0 then .error 4 else if 16 < m then .error 3 else match Sch.rdCs m [] (l.drop kk) with
      | .error e => .error e
      | .ok (l_1, j) => if kk + j = l.length then .ok l_1 else .error 5) := by show _ = _; rw [HRd.out, Sch.read, if_neg h1, hn]; rfl
    rw [hn] at HG
    simp only [numV, Nat.zero_add] at HG
    clear hn HRd hno h1
    go_enter Tryz.func18, Tryz.ntmps18
    go_wp2_with fail
    refine HG.out.mono ?_
    rintro e w1 ⟨rfl, hw⟩
    rw [hw]
    clear hw w1 HG
    by_cases h0 : m = 0
    · have g0 : ((m : Int) == 0) = true := beq_t (by omega)
      have HE : Hid (R = .error 4) := by show _ = _; rw [HRd1.out, if_pos h0]
      clear HRd1 h0
      go_wp2
      refine bodyPost_ret (results_row2 rfl _ _ w.heap.size _ _ _ _ rfl (blk_new w _) Tryz.underlying25 rfl (by kernel_rfl)) rfl ?_
      rw [HE.out]
      exact ⟨rfl, HB.out _⟩
    have g0 : ((m : Int) == 0) = false := beq_f (by omega)
    by_cases h16 : 16 < m
    · have g16 : (16 : Int) < (m : Int) := by omega
      have HE : Hid (R = .error 3) := by show _ = _; rw [HRd1.out, if_neg h0, if_pos h16]
      clear HRd1 h0 h16
      go_wp2
      refine bodyPost_ret (results_row2 rfl _ _ w.heap.size _ _ _ _ rfl (blk_new w _) Tryz.underlying25 rfl (by kernel_rfl)) rfl ?_
      rw [HE.out]
      exact ⟨rfl, HB.out _⟩
    have g16 : ¬ (16 : Int) < (m : Int) := by omega
    have hm16 : m ≤ 16 := by omega
    have HRd2 : Hid (R = match Sch.rdCs m [] (l.drop kk) with
      | .error e => .error e
      | .ok (l_1, j) => if kk + j = l.length then .ok l_1 else .error 5) := by show _ = _; rw [HRd1.out, if_neg h0, if_neg h16]
    clear HRd1 h0 h16
    go_wp2_with fail
    go_loopw [5, 7, 8] (fun v5 v7 v8 wr => ∃ (s : List Col) (n : Nat) (q : Option Addr) (d : Nat), s.length ≤ m ∧ v5 = .int .i64 ((kk : Int) + (n : Int)) ∧ v7 = .slice q s.length d ∧ v8 = .int .i64 s.length ∧ kk + n ≤ l.length ∧ Hid (MakingS w s (.slice q s.length d) wr ∧ Sch.rdCs m [] (l.drop kk) = shift n (Sch.rdCs (m - s.length) s (l.drop (kk + n))))) (fun _ _ v8 _ => m - (intOf v8).toNat)
    case atStart =>
      refine ⟨[], 0, none, 0, by simp, by go_num, rfl, rfl, hkl, makingS_start w, ?_⟩
      rw [List.length_nil, Nat.sub_zero, Nat.add_zero]
      cases Sch.rdCs m [] (l.drop kk) with
      | error e => rfl
      | ok q => simp [shift]
    case round =>
      obtain ⟨s, n, q, d, hsm, rfl, rfl, rfl, hnl, HK⟩ := hrel
      have HM := Lib.hid HK.out.1
      have HG2 := Lib.hid HK.out.2
      by_cases hlt : s.length < m
      · have hlt' : (s.length : Int) < (m : Int) := by omega
        obtain ⟨us, Fs, hbt⟩ := HM.out.built
        obtain ⟨pv, cv, hev, hcv, hcols⟩ := hbt.cols (by omega)
        injection hev with e1 e2 e3
        subst e1 e3
        have hrc := refReadColumn7 s q d p l c hl hlc (kk + n) wr (by omega) hnl hcols (HA.out.on HM.out.below)
        rw [show ((kk + n : Nat) : Int) = (kk : Int) + (n : Int) by omega] at hrc
        obtain ⟨C, hC⟩ : ∃ C, C = Sch.rdC s (l.drop (kk + n)) := ⟨_, rfl⟩
        have HCr := Lib.hid hC
        rw [← hC] at hrc
        have HRc := Lib.hid hrc
        have HSt : Hid (Sch.rdCs m [] (l.drop kk) = shift n (stepC (m - (s.length + 1)) s (l.drop (kk + n)) C)) := by
          show _ = _
          rw [HG2.out, show m - s.length = (m - (s.length + 1)) + 1 by omega, rdCs_succ, ← hC]
        have HBt := Lib.hid hbt
        clear hC HK hrc hbt hcols hcv
        go_wp2_with fail
        refine HRc.out.mono ?_
        intro e w2 hr
        cases C with
        | error er =>
          obtain ⟨rfl, hb2⟩ := hr
          have her := rdC_err HCr.out.symm
          have g2 : ((er : Int) != 0) = true := by rw [bne_iff_ne]; omega
          have HE : Hid (R = .error er) := by show _ = _; rw [HRd2.out, HSt.out]; rfl
          have hsz := HM.out.size
          have hs2 := hb2.size
          obtain ⟨w3, hw3⟩ : ∃ w3, w3 = w2.alloc (.cells #[.string ⟨#[]⟩, .int .i64 0, .slice none 0 0, .bool false, .int .i64 0, .int .i64 0, .float .f64 0, .string ⟨#[]⟩, .slice none 0 0] 67) := ⟨_, rfl⟩
          have hb3 : Below wr.heap.size wr w3 := by rw [hw3]; exact hb2.alloc hb2.size _
          have hz0 : w3.heap[w.heap.size]? = some (.cells #[.slice none 0 0] 25 (0, 0)) := (hb3.block _ (by omega)).trans HM.out.b0
          have r0 : w3.cell? ⟨w.heap.size, 0, none⟩ = some (.slice none 0 0) := blk_cell hz0 0
          have rf0 := blk_free hz0 0
          have HBf : Hid (Below w.heap.size w (w3.setCell ⟨w.heap.size, 0, none⟩ (.slice none 0 0))) := (HM.out.below.trans (hb3.mono (by omega))).setCell (Nat.le_refl _) _
          have HZf : Hid ((w3.setCell ⟨w.heap.size, 0, none⟩ (.slice none 0 0)).heap[w.heap.size]? = some (.cells #[.slice none 0 0] 25 (0, 0))) := blk_set hz0 0 _
          have HW3 := Lib.hid hw3
          rw [hw3] at r0 rf0
          unfold cells9
          clear hz0 hb3 hb2 hw3 HRc HSt HG2 HM HRd2 her hs2
          go_wp2
          rw [← HW3.out]
          refine bodyPost_ret (results_row2 rfl _ _ w.heap.size _ _ _ _ rfl HZf.out Tryz.underlying25 rfl (by kernel_rfl)) rfl ?_
          rw [HE.out]
          exact ⟨rfl, HBf.out⟩
        | ok ck =>
          obtain ⟨y, kj⟩ := ck
          obtain ⟨u', rfl, hv, hb2⟩ := hr
          obtain ⟨F1, F2, k', tp, tn, tc, vk, vi, vb, vt, vp, vn, vc, hu, -⟩ := hv.out
          have hkj : kj ≤ l.length - (kk + n) := by
            obtain ⟨h1, ⟨r, h2⟩, -⟩ := Sch.rdC_ok HCr.out.symm
            have hq := congrArg List.length h2
            rw [List.length_drop, List.length_append] at hq
            omega
          have HV := Lib.hid hv
          have HB2w := Lib.hid hb2
          have hsz : w.heap.size + 1 ≤ w2.heap.size := Nat.le_trans HM.out.size hb2.size
          have HSt2 : Hid (Sch.rdCs m [] (l.drop kk) = shift (n + kj) (Sch.rdCs (m - (s ++ [y]).length) (s ++ [y]) (l.drop (kk + (n + kj))))) := by
            show _ = _
            rw [HSt.out, stepC, shift_shift, List.length_append, List.length_singleton, List.drop_drop, Nat.add_assoc kk]
          obtain ⟨nm, hs7⟩ : ∃ nm, nm = y.name := ⟨_, rfl⟩
          obtain ⟨hh, hs8⟩ : ∃ hh, hh = y.has := ⟨_, rfl⟩
          rw [← hs7, ← hs8] at hu
          rw [hu] at HV
          subst hu
          rw [show ((kk + n + kj : Nat) : Int) = (kk : Int) + (n : Int) + (kj : Int) by omega]
          clear hv hb2 HRc HSt HG2 hs7 hs8 HCr
          unfold cells9 at HV ⊢
          have HB3 : Hid (Below w2.heap.size w2 ((w2.alloc (.cells #[.string nm, .int .i64 k', .slice tp tn tc, .bool hh, .int .i64 vk, .int .i64 vi, .float .f64 vb, .string vt, .slice vp vn vc] 67)).alloc (.cells #[.string nm, .int .i64 k', .slice tp tn tc, .bool hh, .int .i64 vk, .int .i64 vi, .float .f64 vb, .string vt, .slice vp vn vc] 67))) := ((Below.refl _ _).alloc (Nat.le_refl _) _).alloc (by simp) _
          go_wp2_with (at_builtin; refine wp_moreC (B := w.heap.size + 1) (us := us) ((HBt.out.on HB2w.out).on HB3.out).row (u := #[.string nm, .int .i64 k', .slice tp tn tc, .bool hh, .int .i64 vk, .int .i64 vi, .float .f64 vb, .string vt, .slice vp vn vc]) rfl HV.out.one9 (ad := w2.heap.size + 1) (blk_second w2 _ _) (by omega) (by simp; omega) rfl rfl rfl rfl rfl ?_
                       intro g2 cap2 w4 hr4 hg4 hn4
                       have HMK := Lib.hid (HM.out.next HBt.out HB2w.out HV.out (fun _ h => h) HB3.out hr4 hg4 hn4)
                       clear hr4 hg4 hn4)
          go_roundw
          case rel => exact ⟨s ++ [y], n + kj, some ⟨g2, 0, none⟩, cap2, by simp; omega, by go_num, by simp, by simp, by omega, ⟨by simpa using HMK.out, HSt2.out⟩⟩
          case measure => simp [intOf]; omega
      · have hjn : ¬ (s.length : Int) < (m : Int) := by omega
        have hsm2 : s.length = m := by omega
        have HRd3 : Hid (R = if kk + n = l.length then .ok s else .error 5) := by
          show _ = _
          rw [HRd2.out, HG2.out, hsm2, Nat.sub_self]
          simp [Sch.rdCs, shift]
        clear hsm2
        have hz0 := HM.out.b0
        have r0 : wr.cell? ⟨w.heap.size, 0, none⟩ = some (.slice none 0 0) := blk_cell hz0 0
        have rf0 := blk_free hz0 0
        by_cases hfin : kk + n = l.length
        · have gf : ((kk : Int) + (n : Int) != (l.length : Int)) = false := bne_f (by omega)
          have HE : Hid (R = .ok s) := by show _ = _; rw [HRd3.out, if_pos hfin]
          have HZf : Hid ((wr.setCell ⟨w.heap.size, 0, none⟩ (.slice q s.length d)).heap[w.heap.size]? = some (.cells #[.slice q s.length d] 25 (0, 0))) := blk_set hz0 0 _
          have HBf : Hid (Below w.heap.size w (wr.setCell ⟨w.heap.size, 0, none⟩ (.slice q s.length d))) := HM.out.below.setCell (Nat.le_refl _) _
          have HOf : Hid (SOwn (wr.setCell ⟨w.heap.size, 0, none⟩ (.slice q s.length d)) w.heap.size #[.slice q s.length d] s) := by
            obtain ⟨us, Fs, hbt⟩ := HM.out.built
            exact ⟨_, us, Fs, rfl, (hbt.set ⟨w.heap.size, 0, none⟩ _ (by show w.heap.size < _; omega)).low (by omega), by omega⟩
          clear hz0 HK HG2 HRd2 HRd3 hfin
          go_wp2
          refine bodyPost_ret (results_row2 rfl _ _ w.heap.size _ _ _ _ rfl HZf.out Tryz.underlying25 rfl (by kernel_rfl)) rfl ?_
          rw [HE.out]
          exact ⟨_, rfl, HOf.out, HBf.out⟩
        · have gf : ((kk : Int) + (n : Int) != (l.length : Int)) = true := bne_t (by omega)
          have HE : Hid (R = .error 5) := by show _ = _; rw [HRd3.out, if_neg hfin]
          have HZf : Hid ((wr.setCell ⟨w.heap.size, 0, none⟩ (.slice none 0 0)).heap[w.heap.size]? = some (.cells #[.slice none 0 0] 25 (0, 0))) := blk_set hz0 0 _
          have HBf : Hid (Below w.heap.size w (wr.setCell ⟨w.heap.size, 0, none⟩ (.slice none 0 0))) := HM.out.below.setCell (Nat.le_refl _) _
          clear hz0 HK HG2 HRd2 HRd3 hfin
          go_wp2
          refine bodyPost_ret (results_row2 rfl _ _ w.heap.size _ _ _ _ rfl HZf.out Tryz.underlying25 rfl (by kernel_rfl)) rfl ?_
          rw [HE.out]
          exact ⟨rfl, HBf.out⟩
end Go.Proofs.YtnlhpndjogjejaaGreatDoor

/- The law's own whole(a, b): two schemas, field by field. -/
namespace Go.Proofs.YtnlhpndjogjejaaGreatDoor
open Go.RowKit

attribute [local go_sem] run_store_float

/-- two columns, floats bit by bit -/
def colWhole (c d : Col) : Bool := decide (c.name = d.name) && (c.has == d.has) && Ty.same c.ty d.ty && V.exact c.dflt d.dflt
def wholeL : List Col → List Col → Bool
  | [], [] => true
  | c :: r, d :: s => colWhole c d && wholeL r s
  | _, _ => false
theorem colWhole_iff (c d : Col) : colWhole c d = true ↔ c = d := by
  obtain ⟨n, t, a, v⟩ := c
  obtain ⟨n', t', a', v'⟩ := d
  unfold colWhole
  simp only [Bool.and_eq_true, decide_eq_true_eq, beq_iff_eq, Ty.same_iff, V.exact_iff, Col.mk.injEq]
  constructor
  · rintro ⟨⟨⟨h1, h2⟩, h3⟩, h4⟩; exact ⟨h1, h3, h2, h4⟩
  · rintro ⟨h1, h3, h2, h4⟩; exact ⟨⟨⟨h1, h2⟩, h3⟩, h4⟩
theorem wholeL_iff : ∀ s t : List Col, wholeL s t = true ↔ s = t
  | [], [] => by simp [wholeL]
  | [], _ :: _ => by simp [wholeL]
  | _ :: _, [] => by simp [wholeL]
  | c :: s, d :: t => by rw [wholeL, Bool.and_eq_true, colWhole_iff, wholeL_iff s t, List.cons.injEq]
theorem wholeL_ne : ∀ (s t : List Col), s.length ≠ t.length → wholeL s t = false
  | [], [], h => absurd rfl h
  | [], _ :: _, _ => rfl
  | _ :: _, [], _ => rfl
  | c :: s, d :: t, h => by rw [wholeL, wholeL_ne s t (by simpa using h), Bool.and_false]
theorem wholeL_at : ∀ (s t : List Col) (j : Nat) (h1 : j < s.length) (h2 : j < t.length), colWhole s[j] t[j] = false → wholeL s t = false
  | c :: s, d :: t, 0, _, _, h => by rw [wholeL]; simp at h; rw [h, Bool.false_and]
  | c :: s, d :: t, j + 1, h1, h2, h => by rw [wholeL, wholeL_at s t j (by simpa using h1) (by simpa using h2) (by simpa using h), Bool.and_false]
theorem wholeL_all : ∀ (s t : List Col), s.length = t.length → (∀ j (h1 : j < s.length) (h2 : j < t.length), colWhole s[j] t[j] = true) → wholeL s t = true
  | [], [], _, _ => rfl
  | [], _ :: _, h, _ => by simp at h
  | _ :: _, [], h, _ => by simp at h
  | c :: s, d :: t, h, ha => by
    rw [wholeL, wholeL_all s t (by simpa using h) (fun j h1 h2 => by have := ha (j + 1) (by simpa using h1) (by simpa using h2); simpa using this)]
    have := ha 0 (by simp) (by simp)
    simp at this
    rw [this]; rfl

end Go.Proofs.YtnlhpndjogjejaaGreatDoor

/- The document's Same of schemas. -/
namespace Go.Proofs.YtnlhpndjogjejaaGreatDoor
open Go.RowKit

attribute [local go_sem] run_store_float

set_option maxRecDepth 100000 in
set_option maxHeartbeats 2000000 in
theorem refSameS7 (s t : List Col) (p q : Option Addr) (c d : Nat) (w : World) (hs : s.length * 120 ≤ 140737488351232) (hx : Cols w p s) (hy : Cols w q t) :
    Calls Tryz.prog 20 #[.agg #[.slice p s.length c], .agg #[.slice q t.length d]] w fun e w' => e = .returned (.bool (Sch.same s t)) ∧ Below w.heap.size w w' := by
  obtain ⟨W0, hW0⟩ : ∃ W0, W0 = (w.alloc (.cells #[.slice p s.length c] 25)).alloc (.cells #[.slice q t.length d] 25) := ⟨_, rfl⟩
  have HB0 : Hid (Below w.heap.size w W0) := by rw [hW0]; exact ((Below.refl _ _).alloc (Nat.le_refl _) _).alloc (by simp) _
  have HY0 : Hid (W0.cell? ⟨w.heap.size, 0, none⟩ = some (.slice p s.length c) ∧ W0.cell? ⟨w.heap.size + 1, 0, none⟩ = some (.slice q t.length d)) := by rw [hW0]; exact ⟨by simp, by simp⟩
  have HW0 := Lib.hid hW0
  have HX := Lib.hid hx
  have HY := Lib.hid hy
  clear hW0 hx hy
  by_cases h5 : ¬ s.length = t.length
  · have g5 : ((s.length : Int) != (t.length : Int)) = true := bne_t (by omega)
    have HE := Lib.hid (sameS_ne s t h5)
    clear h5
    go_enter Tryz.func20, Tryz.ntmps20
    go_wp2
    rw [← HW0.out]
    go_ret
    exact ⟨by rw [HE.out]; rfl, HB0.out⟩
  replace h5 : s.length = t.length := Classical.not_not.1 h5
  have g5 : ((s.length : Int) != (t.length : Int)) = false := bne_f (by omega)
  have H5 := Lib.hid h5
  clear h5
  go_enter Tryz.func20, Tryz.ntmps20
  go_wp2_with fail
  rw [← HW0.out]
  clear HW0
  go_loopw [5] (fun v5 wr => ∃ j : Nat, j ≤ s.length ∧ v5 = .int .i64 j ∧ Hid (Below W0.heap.size W0 wr ∧ ∀ m (h1 : m < s.length) (h2 : m < t.length), m < j → Sch.colSame s[m] t[m] = true)) (fun v5 _ => s.length - (intOf v5).toNat)
  case atStart => exact ⟨0, by omega, rfl, Below.refl _ _, fun m _ _ h => by omega⟩
  case round =>
    obtain ⟨j, hj, rfl, HL⟩ := hrel
    have hbw : Below w.heap.size w wr := HB0.out.trans (HL.out.1.mono HB0.out.size)
    have y1 : wr.cell? ⟨w.heap.size, 0, none⟩ = some (.slice p s.length c) := cell_on HL.out.1 HY0.out.1
    have y2 : wr.cell? ⟨w.heap.size + 1, 0, none⟩ = some (.slice q t.length d) := cell_on HL.out.1 HY0.out.2
    by_cases hlt : j < s.length
    · have hlt2 : j < t.length := by have := H5.out; omega
      have hj1 : (j : Int) < (s.length : Int) := by omega
      have hj2 : (j : Int) < (t.length : Int) := by omega
      obtain ⟨bx, ox, kx, xp, xn, xc, uk, ui, ub, ut, up, un, uc, rfl, hbx, h9x, htx, hdx⟩ := HX.out.at j hlt
      obtain ⟨by', oy, ky, yp, yn, yc, vk, vi, vb, vt, vp, vn, vc, rfl, hby, h9y, hty, hdy⟩ := HY.out.at j hlt2
      have hAs := h9x.on hbw
      have hBs := h9y.on hbw
      have HTs : Hid (∀ w', Below w.heap.size w w' → Calls Tryz.prog 35 #[.agg #[.int .i64 kx, .slice xp xn xc], .agg #[.int .i64 ky, .slice yp yn yc]] w' fun e w'' => e = .returned (.bool (Ty.same s[j].ty t[j].ty)) ∧ Below w'.heap.size w' w'') := fun w' hb => refSameType7 _ _ w' _ _ (htx.on hb) (hty.on hb)
      have HXs : Hid (∀ w', Below w.heap.size w w' → Calls Tryz.prog 36 #[.agg #[.int .i64 uk, .int .i64 ui, .float .f64 ub, .string ut, .slice up un uc], .agg #[.int .i64 vk, .int .i64 vi, .float .f64 vb, .string vt, .slice vp vn vc]] w' fun e w'' => e = .returned (.bool (V.same s[j].dflt t[j].dflt)) ∧ Below w'.heap.size w' w'') := fun w' hb => refSame6 _ _ w' _ _ (hdx.on hb) (hdy.on hb)
      have HCw : Hid (Sch.colSame s[j] t[j] = (decide (s[j].name = t[j].name) && (s[j].has == t[j].has) && Ty.same s[j].ty t[j].ty && V.same s[j].dflt t[j].dflt)) := rfl
      have HAll := Lib.hid HL.out.2
      have HBW := Lib.hid HL.out.1
      have HFalse : Hid (Sch.colSame s[j] t[j] = false → Sch.same s t = false) := fun h => sameS_at s t j hlt hlt2 h
      have HTrue : Hid (Sch.colSame s[j] t[j] = true → ∀ m (h1 : m < s.length) (h2 : m < t.length), m < j + 1 → Sch.colSame s[m] t[m] = true) := fun h m h1 h2 hm => by
        by_cases hmj : m = j
        · subst hmj; exact h
        · exact HAll.out m h1 h2 (by omega)
      obtain ⟨cw, hcw⟩ : ∃ cw, cw = Sch.colSame s[j] t[j] := ⟨_, rfl⟩
      rw [← hcw] at HCw HFalse HTrue
      obtain ⟨rt, hrt⟩ : ∃ rt, rt = Ty.same s[j].ty t[j].ty := ⟨_, rfl⟩
      rw [← hrt] at HTs HCw
      obtain ⟨rx, hrx⟩ : ∃ rx, rx = V.same s[j].dflt t[j].dflt := ⟨_, rfl⟩
      rw [← hrx] at HXs HCw
      clear hcw hrt hrx h9x h9y htx hty hdx hdy HL
      generalize s[j].name = nx at *
      generalize t[j].name = ny at *
      generalize s[j].has = hx at *
      generalize t[j].has = hy at *
      obtain ⟨a0, a1, a2, a3, a4, a5, a6, a7, a8⟩ := hAs
      obtain ⟨wa, hwa⟩ : ∃ wa, wa = wr.alloc (.cells #[.string nx, .int .i64 kx, .slice xp xn xc, .bool hx, .int .i64 uk, .int .i64 ui, .float .f64 ub, .string ut, .slice up un uc] 67) := ⟨_, rfl⟩
      have hba : Below wr.heap.size wr wa := by rw [hwa]; exact (Below.refl _ _).alloc (Nat.le_refl _) _
      have hsa : wa.heap.size = wr.heap.size + 1 := by rw [hwa]; simp
      obtain ⟨b0, b1, b2, b3, b4, b5, b6, b7, b8⟩ := hBs.on hba
      have y2a := cell_on hba y2
      obtain ⟨wb, hwb⟩ : ∃ wb, wb = wa.alloc (.cells #[.string ny, .int .i64 ky, .slice yp yn yc, .bool hy, .int .i64 vk, .int .i64 vi, .float .f64 vb, .string vt, .slice vp vn vc] 67) := ⟨_, rfl⟩
      have hbb : Below wa.heap.size wa wb := by rw [hwb]; exact (Below.refl _ _).alloc (Nat.le_refl _) _
      have hbrb : Below wr.heap.size wr wb := hba.trans (hbb.mono (by omega))
      have HBwb := Lib.hid (hbw.trans (hbrb.mono hbw.size))
      have HBWb := Lib.hid (HBW.out.trans (hbrb.mono HBW.out.size))
      have H9x : Hid (At9 wb wr.heap.size 0 nx kx xp xn xc hx uk ui ub ut up un uc) := At9.on (w := wa) (by rw [hwa]; exact ⟨by simp, by simp, by simp, by simp, by simp, by simp, by simp, by simp, by simp⟩) hbb
      have H9y : Hid (At9 wb (wr.heap.size + 1) 0 ny ky yp yn yc hy vk vi vb vt vp vn vc) := by
        rw [← hsa, hwb]
        exact ⟨by simp, by simp, by simp, by simp, by simp, by simp, by simp, by simp, by simp⟩
      have HWa := Lib.hid hwa
      have HWb := Lib.hid hwb
      rw [hwa] at b0 b1 b2 b3 b4 b5 b6 b7 b8 y2a
      clear hwa hwb hba hbb hbrb hbw hBs HAll HBW
      go_wp2_with fail
      rw [← HWa.out, ← HWb.out]
      clear HWa HWb a0 a1 a2 a3 a4 a5 a6 a7 a8 b0 b1 b2 b3 b4 b5 b6 b7 b8 y1 y2 y2a
      refine (HTs.out wb HBwb.out).mono ?_
      rintro e w2 ⟨rfl, hb2⟩
      have HB2 := Lib.hid (HBwb.out.trans (hb2.mono HBwb.out.size))
      have HBW2 := Lib.hid (HBWb.out.trans (hb2.mono HBWb.out.size))
      have H9x2 := Lib.hid (H9x.out.on hb2)
      have H9y2 := Lib.hid (H9y.out.on hb2)
      obtain ⟨a0, a1, a2, a3, a4, a5, a6, a7, a8⟩ := H9x2.out
      obtain ⟨b0, b1, b2, b3, b4, b5, b6, b7, b8⟩ := H9y2.out
      clear hb2 HTs H9x H9y HBwb HBWb
      go_wp2_with fail
      refine (HXs.out w2 HB2.out).mono ?_
      rintro e w3 ⟨rfl, hb3⟩
      have HB3 := Lib.hid (HB2.out.trans (hb3.mono HB2.out.size))
      have HBW3 := Lib.hid (HBW2.out.trans (hb3.mono HBW2.out.size))
      clear a0 a1 a2 a3 a4 a5 a6 a7 a8 b0 b1 b2 b3 b4 b5 b6 b7 b8
      obtain ⟨a0, a1, a2, a3, a4, a5, a6, a7, a8⟩ := H9x2.out.on hb3
      obtain ⟨b0, b1, b2, b3, b4, b5, b6, b7, b8⟩ := H9y2.out.on hb3
      clear hb3 H9x2 H9y2 HXs
      by_cases hnm : ¬ nx = ny
      · have gn : (nx.toList == ny.toList) = false := by rw [text_eq, decide_eq_false hnm]
        have HE : Hid (Sch.same s t = false) := HFalse.out (by rw [HCw.out, decide_eq_false hnm, Bool.false_and, Bool.false_and, Bool.false_and])
        clear hnm HCw HFalse HTrue
        go_wp2
        go_ret
        exact ⟨by rw [HE.out]; rfl, HB3.out⟩
      replace hnm : nx = ny := Classical.not_not.1 hnm
      have gn : (nx.toList == ny.toList) = true := by rw [text_eq, decide_eq_true hnm]
      have HCw2 : Hid (cw = (hx == hy && rt && rx)) := by show _ = _; rw [HCw.out, decide_eq_true hnm, Bool.true_and]
      clear hnm HCw
      by_cases hhb : ¬ hx = hy
      · have HE : Hid (Sch.same s t = false) := HFalse.out (by rw [HCw2.out, beq_eq_false_iff_ne.2 hhb, Bool.false_and, Bool.false_and])
        clear HCw2 HFalse HTrue
        cases hx
        · cases hy
          · exact absurd rfl hhb
          · clear hhb
            go_wp2
            go_ret
            exact ⟨by rw [HE.out]; rfl, HB3.out⟩
        · cases hy
          · clear hhb
            go_wp2
            go_ret
            exact ⟨by rw [HE.out]; rfl, HB3.out⟩
          · exact absurd rfl hhb
      replace hhb : hx = hy := Classical.not_not.1 hhb
      have HCw3 : Hid (cw = (rt && rx)) := by show _ = _; rw [HCw2.out, hhb, beq_self_eq_true, Bool.true_and]
      clear HCw2
      subst hhb
      cases hx
      all_goals
        cases rt with
        | false =>
          have HE : Hid (Sch.same s t = false) := HFalse.out (by rw [HCw3.out, Bool.false_and])
          clear HCw3 HFalse HTrue
          go_wp2
          go_ret
          exact ⟨by rw [HE.out]; rfl, HB3.out⟩
        | true =>
          have HCw4 : Hid (cw = rx) := by show _ = _; rw [HCw3.out, Bool.true_and]
          clear HCw3
          cases rx with
          | false =>
            have HE : Hid (Sch.same s t = false) := HFalse.out HCw4.out
            clear HCw4 HFalse HTrue
            go_wp2
            go_ret
            exact ⟨by rw [HE.out]; rfl, HB3.out⟩
          | true =>
            have HN : Hid (Below W0.heap.size W0 w3 ∧ ∀ m (h1 : m < s.length) (h2 : m < t.length), m < j + 1 → Sch.colSame s[m] t[m] = true) := ⟨HBW3.out, HTrue.out HCw4.out⟩
            clear HCw4 HFalse HTrue
            go_wp2
            go_roundw
            case rel => exact ⟨j + 1, by omega, by go_num, HN⟩
            case measure => simp [intOf]; omega
    · have HF0 : Hid (Sch.same s t = true) := sameS_all s t H5.out (fun m h1 h2 => HL.out.2 m h1 h2 (by omega))
      have HF := Lib.hid hbw
      have hjn : ¬ (j : Int) < (s.length : Int) := by omega
      clear HL hbw hlt
      go_wp2
      go_ret
      exact ⟨by rw [HF0.out]; rfl, HF.out⟩
end Go.Proofs.YtnlhpndjogjejaaGreatDoor

/- The landed schema: ofCount, checkTypeAt, CheckType, isLetter, isDigit, Name. -/
namespace Go.Proofs.YtnlhpndjogjejaaGreatDoor
open Go.RowKit

set_option maxHeartbeats 400000 in
theorem ofCountK (k : Int) (w : World) : Calls Tryz.prog 86 #[.int .i64 k] w fun e w' => e = .returned (.int .i64 (Ty.want k : Nat)) ∧ w' = w := by
  by_cases h6 : k = 6
  · have e6 : (k == 6) = true := beq_t h6
    have HW : Hid (Ty.want k = 1) := by show _ = _; unfold Ty.want; rw [if_pos (.inl h6)]
    clear h6
    go_enter Tryz.func86, Tryz.ntmps86
    go_wp2
    go_ret
    exact ⟨by rw [HW.out]; rfl, rfl⟩
  have e6 : (k == 6) = false := beq_f h6
  by_cases h7 : k = 7
  · have e7 : (k == 7) = true := beq_t h7
    have HW : Hid (Ty.want k = 1) := by show _ = _; unfold Ty.want; rw [if_pos (.inr h7)]
    clear h6 h7
    go_enter Tryz.func86, Tryz.ntmps86
    go_wp2
    go_ret
    exact ⟨by rw [HW.out]; rfl, rfl⟩
  have e7 : (k == 7) = false := beq_f h7
  have HW : Hid (Ty.want k = 0) := by show _ = _; unfold Ty.want; rw [if_neg (by omega)]
  clear h6 h7
  go_enter Tryz.func86, Tryz.ntmps86
  go_wp2
  go_ret
  exact ⟨by rw [HW.out]; rfl, rfl⟩

set_option maxRecDepth 100000 in
set_option maxHeartbeats 1000000 in
theorem checkTypeAtK : ∀ (x : Ty) (d : Nat) (w : World) (u : Array Value), d ≤ 5 → TLies w u x → Calls Tryz.prog 133 #[.agg u, .int .i64 d] w fun e w' => e = .returned (.int .i64 (Ty.check d x : Nat)) ∧ Below w.heap.size w w' := by
  intro x
  refine Ty.ind (P := fun x => ∀ (d : Nat) (w : World) (u : Array Value), d ≤ 5 → TLies w u x → Calls Tryz.prog 133 #[.agg u, .int .i64 d] w fun e w' => e = .returned (.int .i64 (Ty.check d x : Nat)) ∧ Below w.heap.size w w') ?_ x
  rintro k xs ih d w u hd hx
  obtain ⟨p, c, rfl, hxl, hxc, hxi⟩ := hx.open
  unfold cells2
  have hB1 : Below w.heap.size w (w.alloc (.cells #[.int .i64 k, .slice p xs.length c] 61)) := (Below.refl _ _).alloc (Nat.le_refl _) _
  have HB1 := Lib.hid hB1
  clear hB1 hx
  obtain ⟨R, hR⟩ : ∃ R, R = Ty.check d (.mk k xs) := ⟨_, rfl⟩
  have HCk := Lib.hid (hR.trans (Ty.check_mk d k xs))
  rw [← hR]
  clear hR
  by_cases h1 : 4 < d
  · have g1 : (4 : Int) < (d : Int) := by omega
    have HR : Hid (R = 62) := by show _ = _; rw [HCk.out, if_pos h1]
    clear ih hxi HCk
    go_enter Tryz.func133, Tryz.ntmps133
    go_wp2
    go_ret
    exact ⟨by rw [HR.out]; rfl, HB1.out⟩
  have g1 : ¬ (4 : Int) < (d : Int) := by omega
  by_cases h2 : k < 1
  · have HR : Hid (R = 60) := by show _ = _; rw [HCk.out, if_neg h1, if_pos (by omega)]
    have q2 : decide (k < 1) = true := decide_eq_true h2
    clear ih hxi HCk
    go_enter Tryz.func133, Tryz.ntmps133
    go_wp2_with fail
    go_quiet (fail)
    go_wp2
    go_ret
    exact ⟨by rw [HR.out]; rfl, below_drewN HB1.out _⟩
  have q2 : decide (k < 1) = false := decide_eq_false h2
  by_cases h3 : 7 < k
  · have HR : Hid (R = 60) := by show _ = _; rw [HCk.out, if_neg h1, if_pos (by omega)]
    have q3 : decide (7 < k) = true := decide_eq_true h3
    clear ih hxi HCk
    go_enter Tryz.func133, Tryz.ntmps133
    go_wp2_with fail
    go_quiet (fail)
    go_wp2
    go_ret
    exact ⟨by rw [HR.out]; rfl, below_drewN HB1.out _⟩
  have q3 : decide (7 < k) = false := decide_eq_false h3
  have HO : Hid (∀ w, Calls Tryz.prog 86 #[.int .i64 k] w fun e w' => e = .returned (.int .i64 (Ty.want k : Nat)) ∧ ∃ n, w' = w.drewN n) := fun w => (ofCountK k w).mono fun _ _ ⟨h1, h2⟩ => ⟨h1, 0, h2⟩
  obtain ⟨n, hn⟩ : ∃ n, n = Ty.want k := ⟨_, rfl⟩
  have HN := Lib.hid hn
  rw [← hn] at HO HCk
  clear hn
  by_cases h4 : xs.length = n
  · have gl : ((xs.length : Int) != (n : Int)) = false := bne_f (by omega)
    by_cases hl0 : xs.length = 0
    · have gz : ((xs.length : Int) == 0) = true := beq_t (by omega)
      have HR : Hid (R = 0) := by
        show _ = _
        have hx0 : xs = [] := List.eq_nil_of_length_eq_zero hl0
        subst hx0
        rw [HCk.out, if_neg h1, if_neg (by omega)]
        rfl
      clear ih hxi HCk hl0 h4
      go_enter Tryz.func133, Tryz.ntmps133
      go_wp2_with fail
      go_quiet (first | (go_at_call 86; exact Calls.quiet_of (HO.out _)))
      go_wp2
      go_ret
      exact ⟨by rw [HR.out]; rfl, below_drewN HB1.out _⟩
    · have gz : ((xs.length : Int) == 0) = false := beq_f (by omega)
      have hl1 : xs.length = 1 := by
        have := HN.out
        unfold Ty.want at this
        split at this <;> omega
      have HX : Hid (∀ j (hj : j < xs.length), ∃ u', TLies w u' xs[j] ∧ ItemT w p j u') := hxi
      have HIH := Lib.hid ih
      obtain ⟨ux, hvx, hix⟩ := HX.out 0 (by omega)
      obtain ⟨bx, ox, kx, qx, nx, cx, rfl, _, rfl, a0, a1⟩ := (hix.on HB1.out).lies
      rw [Nat.zero_mul, Nat.add_zero] at a0 a1
      have hR1 : R = Ty.check (d + 1) (xs[0]'(by omega)) := by
        obtain ⟨y, rfl⟩ := List.length_eq_one_iff.1 hl1
        rw [HCk.out]
        have := Ty.check_one d k y h1 (by omega) (by rw [← HN.out]; simp at h4; omega)
        rw [Ty.check_mk, ← HN.out] at this
        exact this
      have HC := Lib.hid (fun n => HIH.out _ (List.getElem_mem (by omega : 0 < xs.length)) (d + 1) _ _ (by omega) (hvx.on (below_drewN HB1.out n)))
      rw [← hR1] at HC
      unfold cells2 at HC
      have hlp : (0 : Int) < (xs.length : Int) := by omega
      clear hR1 HX HIH hvx hix HCk ih hxi hl1 hl0 h4
      go_enter Tryz.func133, Tryz.ntmps133
      go_wp2_with fail
      go_quiet (first | (go_at_call 86; exact Calls.quiet_of (HO.out _)))
      go_wp2_with fail
      refine (HC.out nq).mono ?_
      rintro e w2 ⟨rfl, hb2⟩
      have HB2 := Lib.hid ((below_drewN HB1.out nq).trans (hb2.mono (below_drewN HB1.out nq).size))
      clear hb2
      go_wp2
      go_ret
      exact ⟨rfl, HB2.out⟩
  · have gl : ((xs.length : Int) != (n : Int)) = true := bne_t (by omega)
    have HR : Hid (R = 60) := by show _ = _; rw [HCk.out, if_neg h1, if_pos (by omega)]
    clear ih hxi HCk h4
    go_enter Tryz.func133, Tryz.ntmps133
    go_wp2_with fail
    go_quiet (first | (go_at_call 86; exact Calls.quiet_of (HO.out _)))
    go_wp2
    go_ret
    exact ⟨by rw [HR.out]; rfl, below_drewN HB1.out _⟩

set_option maxHeartbeats 400000 in
theorem checkTypeK (x : Ty) (w : World) (u : Array Value) (h : TLies w u x) : Calls Tryz.prog 125 #[.agg u] w fun e w' => e = .returned (.int .i64 (Ty.check 1 x : Nat)) ∧ Below w.heap.size w w' := by
  obtain ⟨k, xs⟩ := x
  obtain ⟨p, c, rfl, -⟩ := h.open
  have hB1 : Below w.heap.size w (w.alloc (.cells (cells2 k p xs.length c) 61)) := (Below.refl _ _).alloc (Nat.le_refl _) _
  have HB1 := Lib.hid hB1
  have HC := Lib.hid (checkTypeAtK _ 1 _ _ (by omega) (h.on hB1))
  clear hB1 h
  obtain ⟨R, hR⟩ : ∃ R, R = Ty.check 1 (.mk k xs) := ⟨_, rfl⟩
  rw [← hR] at HC ⊢
  clear hR
  unfold cells2 at HC HB1 ⊢
  go_enter Tryz.func125, Tryz.ntmps125
  go_wp2_with fail
  refine HC.out.mono ?_
  rintro e w2 ⟨rfl, hb2⟩
  have HB2 := Lib.hid (HB1.out.trans (hb2.mono HB1.out.size))
  clear hb2
  go_wp2
  go_ret
  exact ⟨rfl, HB2.out⟩

/-- a digit -/
def dig (c : UInt8) : Bool := decide (48 ≤ c.toNat ∧ c.toNat ≤ 57)
theorem ch_eq (c : UInt8) : Sch.ch c = (Sch.low c || dig c || decide (c.toNat = 95)) := rfl
set_option maxHeartbeats 400000 in
theorem isLetterK (c : UInt8) (w : World) : Calls Tryz.prog 84 #[.int .u8 c.toNat] w fun e w' => e = .returned (.bool (Sch.low c)) ∧ w' = w := by
  by_cases h1 : c.toNat < 97
  · have g1 : ¬ (97 : Int) ≤ (c.toNat : Int) := by omega
    have g2 : (c.toNat : Int) < 97 := by omega
    have HE : Hid (Sch.low c = false) := by show _ = _; unfold Sch.low; rw [decide_eq_false (by omega)]
    clear h1
    go_enter Tryz.func84, Tryz.ntmps84
    go_wp2
    go_ret
    exact ⟨by rw [HE.out]; rfl, rfl⟩
  have g1 : (97 : Int) ≤ (c.toNat : Int) := by omega
  have g2 : ¬ (c.toNat : Int) < 97 := by omega
  by_cases h2 : c.toNat ≤ 122
  · have g3 : (c.toNat : Int) ≤ 122 := by omega
    have g4 : ¬ (122 : Int) < (c.toNat : Int) := by omega
    have HE : Hid (Sch.low c = true) := by show _ = _; unfold Sch.low; rw [decide_eq_true (by omega)]
    clear h1 h2
    go_enter Tryz.func84, Tryz.ntmps84
    go_wp2
    go_ret
    exact ⟨by rw [HE.out]; rfl, rfl⟩
  · have g3 : ¬ (c.toNat : Int) ≤ 122 := by omega
    have g4 : (122 : Int) < (c.toNat : Int) := by omega
    have HE : Hid (Sch.low c = false) := by show _ = _; unfold Sch.low; rw [decide_eq_false (by omega)]
    clear h1 h2
    go_enter Tryz.func84, Tryz.ntmps84
    go_wp2
    go_ret
    exact ⟨by rw [HE.out]; rfl, rfl⟩
set_option maxHeartbeats 400000 in
theorem isDigitK (c : UInt8) (w : World) : Calls Tryz.prog 85 #[.int .u8 c.toNat] w fun e w' => e = .returned (.bool (dig c)) ∧ w' = w := by
  by_cases h1 : c.toNat < 48
  · have g1 : ¬ (48 : Int) ≤ (c.toNat : Int) := by omega
    have g2 : (c.toNat : Int) < 48 := by omega
    have HE : Hid (dig c = false) := by show _ = _; unfold dig; rw [decide_eq_false (by omega)]
    clear h1
    go_enter Tryz.func85, Tryz.ntmps85
    go_wp2
    go_ret
    exact ⟨by rw [HE.out]; rfl, rfl⟩
  have g1 : (48 : Int) ≤ (c.toNat : Int) := by omega
  have g2 : ¬ (c.toNat : Int) < 48 := by omega
  by_cases h2 : c.toNat ≤ 57
  · have g3 : (c.toNat : Int) ≤ 57 := by omega
    have g4 : ¬ (57 : Int) < (c.toNat : Int) := by omega
    have HE : Hid (dig c = true) := by show _ = _; unfold dig; rw [decide_eq_true (by omega)]
    clear h1 h2
    go_enter Tryz.func85, Tryz.ntmps85
    go_wp2
    go_ret
    exact ⟨by rw [HE.out]; rfl, rfl⟩
  · have g3 : ¬ (c.toNat : Int) ≤ 57 := by omega
    have g4 : (57 : Int) < (c.toNat : Int) := by omega
    have HE : Hid (dig c = false) := by show _ = _; unfold dig; rw [decide_eq_false (by omega)]
    clear h1 h2
    go_enter Tryz.func85, Tryz.ntmps85
    go_wp2
    go_ret
    exact ⟨by rw [HE.out]; rfl, rfl⟩

set_option maxRecDepth 100000 in
set_option maxHeartbeats 1000000 in
theorem nameK (t : ByteArray) (w : World) : Calls Tryz.prog 79 #[.string t] w fun e w' => e = .returned (.bool (Sch.name t)) ∧ w' = w := by
  by_cases h1 : t.size = 0
  · have g1 : ((t.size : Int) == 0) = true := beq_t (by omega)
    have HE := Lib.hid (name_short (t := t) (.inl (by omega)))
    clear h1
    go_enter Tryz.func79, Tryz.ntmps79
    go_wp2
    go_ret
    exact ⟨by rw [HE.out]; rfl, rfl⟩
  have g1 : ((t.size : Int) == 0) = false := beq_f (by omega)
  by_cases h2 : 16 < t.size
  · have g2 : (16 : Int) < (t.size : Int) := by omega
    have HE := Lib.hid (name_short (t := t) (.inr h2))
    clear h1 h2
    go_enter Tryz.func79, Tryz.ntmps79
    go_wp2
    go_ret
    exact ⟨by rw [HE.out]; rfl, rfl⟩
  have g2 : ¬ (16 : Int) < (t.size : Int) := by omega
  have h0 : 0 < t.size := by omega
  have h0' : (0 : Int) < (t.size : Int) := by omega
  have HL := Lib.hid (isLetterK t[0])
  by_cases h3 : Sch.low t[0] = false
  · have HE := Lib.hid (name_head h0 h3)
    rw [h3] at HL
    clear h3 h1 h2
    go_enter Tryz.func79, Tryz.ntmps79
    go_wp2_with fail
    refine (HL.out _).mono ?_
    rintro e w2 ⟨rfl, rfl⟩
    go_wp2
    go_ret
    exact ⟨by rw [HE.out]; rfl, rfl⟩
  have h3' : Sch.low t[0] = true := by simpa using h3
  have H3 := Lib.hid h3'
  rw [h3'] at HL
  have H30 : Hid (Sch.ch t[0] = true) := by show _ = _; rw [ch_eq, h3']; rfl
  clear h3 h3'
  go_enter Tryz.func79, Tryz.ntmps79
  go_wp2_with fail
  refine (HL.out _).mono ?_
  rintro e w2 ⟨rfl, rfl⟩
  clear HL
  go_wp2_with fail
  go_loop [3] (fun v3 => ∃ a : Nat, 1 ≤ a ∧ a ≤ t.size ∧ v3 = .int .i64 a ∧ Hid (∀ j (h : j < t.size), j < a → Sch.ch t[j] = true)) (fun v3 => t.size - (intOf v3).toNat)
  case atStart => exact ⟨1, by omega, by omega, rfl, fun j _ hj => by
    have h00 : j = 0 := by omega
    subst h00
    exact H30.out⟩
  case round =>
    obtain ⟨a, ha1, ha, rfl, HA⟩ := hrel
    by_cases hlt : a < t.size
    · have hlt' : (a : Int) < (t.size : Int) := by omega
      have HLa := Lib.hid (isLetterK t[a])
      have HDa := Lib.hid (isDigitK t[a])
      have HCh := Lib.hid (ch_eq t[a])
      obtain ⟨r1, hr1⟩ : ∃ r, r = Sch.low t[a] := ⟨_, rfl⟩
      obtain ⟨r2, hr2⟩ : ∃ r, r = dig t[a] := ⟨_, rfl⟩
      rw [← hr1] at HLa HCh
      rw [← hr2] at HDa HCh
      clear hr1 hr2
      have HN : Hid (Sch.ch t[a] = true → ∀ j (h : j < t.size), j < a + 1 → Sch.ch t[j] = true) := fun hc j h hj => by
        by_cases hja : j = a
        · subst hja; exact hc
        · exact HA.out j h (by omega)
      have HB := Lib.hid (name_bad (t := t) a hlt)
      clear HA H3 H30
      go_wp2_with fail
      refine (HLa.out _).mono ?_
      rintro e w2 ⟨rfl, rfl⟩
      clear HLa
      cases r1 with
      | true =>
        have HC : Hid (Sch.ch t[a] = true) := by show _ = _; rw [HCh.out]; rfl
        clear HDa
        go_wp2
        go_round
        case rel => exact ⟨a + 1, by omega, by omega, by go_num, HN.out HC.out⟩
        case measure => simp [intOf]; omega
      | false =>
        go_wp2_with fail
        refine (HDa.out _).mono ?_
        rintro e w2 ⟨rfl, rfl⟩
        clear HDa
        cases r2 with
        | true =>
          have HC : Hid (Sch.ch t[a] = true) := by show _ = _; rw [HCh.out]; rfl
          go_wp2
          go_round
          case rel => exact ⟨a + 1, by omega, by omega, by go_num, HN.out HC.out⟩
          case measure => simp [intOf]; omega
        | false =>
          by_cases h95 : t[a].toNat = 95
          · have k4 : ((t[a].toNat : Int) != 95) = false := by rw [h95]; rfl
            have HC : Hid (Sch.ch t[a] = true) := by show _ = _; rw [HCh.out, decide_eq_true h95]; rfl
            clear h95
            go_wp2
            go_round
            case rel => exact ⟨a + 1, by omega, by omega, by go_num, HN.out HC.out⟩
            case measure => simp [intOf]; omega
          · have k4 : ((t[a].toNat : Int) != 95) = true := by rw [bne_iff_ne]; omega
            have HC : Hid (Sch.ch t[a] = false) := by show _ = _; rw [HCh.out, decide_eq_false h95]; rfl
            clear h95
            go_wp2
            go_ret
            exact ⟨by rw [HB.out HC.out]; rfl, rfl⟩
    · have HE := Lib.hid (name_good (t := t) (by omega) (by omega) H3.out (fun j h => HA.out j h (by omega)))
      have hjn : ¬ (a : Int) < (t.size : Int) := by omega
      clear HA
      go_wp2
      go_ret
      exact ⟨by rw [HE.out]; rfl, rfl⟩
end Go.Proofs.YtnlhpndjogjejaaGreatDoor

/- The landed schema: SameType. -/
namespace Go.Proofs.YtnlhpndjogjejaaGreatDoor
open Go.RowKit

set_option maxRecDepth 100000 in
set_option maxHeartbeats 1000000 in
theorem sameTypeK : ∀ (x y : Ty) (w : World) (u v : Array Value), TLies w u x → TLies w v y → Calls Tryz.prog 131 #[.agg u, .agg v] w fun e w' => e = .returned (.bool (Ty.same x y)) ∧ Below w.heap.size w w' := by
  intro x
  refine Ty.ind (P := fun x => ∀ (y : Ty) (w : World) (u v : Array Value), TLies w u x → TLies w v y → Calls Tryz.prog 131 #[.agg u, .agg v] w fun e w' => e = .returned (.bool (Ty.same x y)) ∧ Below w.heap.size w w') ?_ x
  rintro k xs ih ⟨k', ys⟩ w u v hx hy
  obtain ⟨p, c, rfl, hxl, hxc, hxi⟩ := hx.open
  obtain ⟨q, d, rfl, hyl, hyc, hyi⟩ := hy.open
  unfold cells2
  obtain ⟨W0, hW0⟩ : ∃ W0, W0 = (w.alloc (.cells #[.int .i64 k, .slice p xs.length c] 61)).alloc (.cells #[.int .i64 k', .slice q ys.length d] 61) := ⟨_, rfl⟩
  have HB0 : Hid (Below w.heap.size w W0) := by rw [hW0]; exact ((Below.refl _ _).alloc (Nat.le_refl _) _).alloc (by simp) _
  have HY0 : Hid (W0.cell? ⟨w.heap.size, 1, none⟩ = some (.slice p xs.length c) ∧ W0.cell? ⟨w.heap.size + 1, 1, none⟩ = some (.slice q ys.length d)) := by rw [hW0]; exact ⟨by simp, by simp⟩
  have HW0 := Lib.hid hW0
  clear hW0 hx hy
  by_cases h1 : ¬ k = k'
  · have g1 := bne_t h1
    have HE : Hid (Ty.same (.mk k xs) (.mk k' ys) = false) := by show _ = _; simp [Ty.same_mk, h1]
    clear ih hxi hyi h1
    go_enter Tryz.func131, Tryz.ntmps131
    go_wp2
    rw [← HW0.out]
    go_ret
    exact ⟨by rw [HE.out]; rfl, HB0.out⟩
  replace h1 : k = k' := Classical.not_not.1 h1
  have g1 := bne_f h1
  by_cases h5 : ¬ xs.length = ys.length
  · have g5 : ((xs.length : Int) != (ys.length : Int)) = true := bne_t (by omega)
    have HE : Hid (Ty.same (.mk k xs) (.mk k' ys) = false) := by show _ = _; simp [Ty.same_mk, Ty.sameL_ne xs ys h5]
    clear ih hxi hyi h1 h5
    go_enter Tryz.func131, Tryz.ntmps131
    go_wp2
    rw [← HW0.out]
    go_ret
    exact ⟨by rw [HE.out]; rfl, HB0.out⟩
  replace h5 : xs.length = ys.length := Classical.not_not.1 h5
  have g5 : ((xs.length : Int) != (ys.length : Int)) = false := bne_f (by omega)
  have HE : Hid (Ty.same (.mk k xs) (.mk k' ys) = Ty.sameL xs ys) := by show _ = _; simp [Ty.same_mk, h1]
  have HX : Hid (∀ j (hj : j < xs.length), ∃ u', TLies w u' xs[j] ∧ ItemT w p j u') := hxi
  have HY2 : Hid (∀ j (hj : j < ys.length), ∃ u', TLies w u' ys[j] ∧ ItemT w q j u') := hyi
  have HIH := Lib.hid ih
  have H5 := Lib.hid h5
  clear ih hxi hyi h1 h5
  go_enter Tryz.func131, Tryz.ntmps131
  go_wp2_with fail
  rw [← HW0.out]
  clear HW0
  go_loopw [24] (fun v44 wr => ∃ j : Nat, j ≤ xs.length ∧ v44 = .int .i64 j ∧ Hid (Below W0.heap.size W0 wr ∧ ∀ m (h1 : m < xs.length) (h2 : m < ys.length), m < j → Ty.same xs[m] ys[m] = true)) (fun v44 _ => xs.length - (intOf v44).toNat)
  case atStart => exact ⟨0, by omega, rfl, Below.refl _ _, fun m _ _ h => by omega⟩
  case round =>
    obtain ⟨j, hj, rfl, HL⟩ := hrel
    have hbw : Below w.heap.size w wr := HB0.out.trans (HL.out.1.mono HB0.out.size)
    by_cases hlt : j < xs.length
    · have hlt2 : j < ys.length := by have := H5.out; omega
      obtain ⟨ux, hvx, hix⟩ := HX.out j hlt
      obtain ⟨uy, hvy, hiy⟩ := HY2.out j hlt2
      obtain ⟨bx, ox, kx, qx, nx, cx, rfl, _, rfl, a0, a1⟩ := (hix.on hbw).lies
      obtain ⟨by', oy, ky, qy, ny, cy, rfl, _, rfl, b0, b1⟩ := (hiy.on hbw).lies
      have HC : Hid (∀ w', Below w.heap.size w w' → Calls Tryz.prog 131 #[.agg #[.int .i64 kx, .slice qx nx cx], .agg #[.int .i64 ky, .slice qy ny cy]] w' fun e w'' => e = .returned (.bool (Ty.same xs[j] ys[j])) ∧ Below w'.heap.size w' w'') :=
        fun w' hb => HIH.out _ (List.getElem_mem hlt) ys[j] w' _ _ (hvx.on hb) (hvy.on hb)
      have HAll := Lib.hid HL.out.2
      have hj1 : (j : Int) < (xs.length : Int) := by omega
      have hj2 : (j : Int) < (ys.length : Int) := by omega
      obtain ⟨r, hr⟩ : ∃ r, r = Ty.same xs[j] ys[j] := ⟨_, rfl⟩
      rw [← hr] at HC
      have HRr := Lib.hid hr
      obtain ⟨wa, hwa⟩ : ∃ wa, wa = wr.alloc (.cells #[.int .i64 kx, .slice qx nx cx] 61) := ⟨_, rfl⟩
      have HBa : Hid (Below wr.heap.size wr wa) := by rw [hwa]; exact (Below.refl _ _).alloc (Nat.le_refl _) _
      have HBw : Hid (Below w.heap.size w wa) := hbw.trans (HBa.out.mono hbw.size)
      have HBW : Hid (Below W0.heap.size W0 wa) := HL.out.1.trans (HBa.out.mono HL.out.1.size)
      have HWa := Lib.hid hwa
      have HY4 : Hid (wa.cell? ⟨w.heap.size + 1, 1, none⟩ = some (.slice (some ⟨by', oy, none⟩) ys.length d)) := cell_on HBW.out HY0.out.2
      have HBs : Hid (wa.cell? ⟨by', oy + j * 2, none⟩ = some (.int .i64 ky) ∧ wa.cell? ⟨by', oy + j * 2 + 1, none⟩ = some (.slice qy ny cy)) := ⟨cell_on HBa.out b0, cell_on HBa.out b1⟩
      have HAs : Hid (wa.cell? ⟨wr.heap.size, 0, none⟩ = some (.int .i64 kx) ∧ wa.cell? ⟨wr.heap.size, 1, none⟩ = some (.slice qx nx cx)) := by rw [hwa]; exact ⟨by simp, by simp⟩
      clear hvx hvy hix hiy hbw HL hr hwa b0 b1
      go_wp2_with fail
      rw [← HWa.out]
      obtain ⟨c0, c1⟩ := HAs.out
      obtain ⟨d0, d1⟩ := HBs.out
      have d5 := HY4.out
      clear HAs HBs HY4 HWa a0 a1
      go_region_held3 (fun w' => w'.cell? ⟨wr.heap.size, 0, none⟩ = some (.int .i64 kx) ∧ w'.cell? ⟨wr.heap.size, 1, none⟩ = some (.slice qx nx cx) ∧ w'.cell? ⟨by', oy + j * 2, none⟩ = some (.int .i64 ky) ∧ w'.cell? ⟨by', oy + j * 2 + 1, none⟩ = some (.slice qy ny cy) ∧ w'.cell? ⟨w.heap.size + 1, 1, none⟩ = some (.slice (some ⟨by', oy, none⟩) ys.length d)) (go_keep) (first
        | (go_at_call 131; refine (HC.out _ (below_drewN HBw.out _)).mono ?_; rintro e w4 ⟨rfl, hb4⟩; have hb5 := below_via (w := wa) hb4 (by rfl) (by rfl) (by rfl) (by rfl); have z3 := cell_on hb5 c0; have z4 := cell_on hb5 c1; have z5 := cell_on hb5 d0; have z6 := cell_on hb5 d1; have z7 := cell_on hb5 d5; have HB4 := Lib.hid hb5; clear hb4 hb5))
      clear z3 z4 z5 z6 z7 c0 c1 d0 d1 d5
      cases r with
      | true =>
        have HN : Hid (Below W0.heap.size W0 w4 ∧ ∀ m (h1 : m < xs.length) (h2 : m < ys.length), m < j + 1 → Ty.same xs[m] ys[m] = true) := by
          refine ⟨HBW.out.trans (HB4.out.mono HBW.out.size), fun m h1 h2 hm => ?_⟩
          by_cases hmj : m = j
          · subst hmj; exact HRr.out.symm
          · exact HAll.out m h1 h2 (by omega)
        clear HB4 HAll HC
        go_wp2
        go_roundw
        case rel => exact ⟨j + 1, by omega, by go_num, HN⟩
        case measure => simp [intOf]; omega
      | false =>
        have HF0 : Hid (Ty.sameL xs ys = false) := Ty.sameL_at xs ys j hlt hlt2 HRr.out.symm
        have HF := Lib.hid (HBw.out.trans (HB4.out.mono HBw.out.size))
        clear HB4 HAll HC
        go_wp2
        go_ret
        exact ⟨by rw [HE.out, HF0.out]; rfl, HF.out⟩
    · have HF0 : Hid (Ty.sameL xs ys = true) := Ty.sameL_all xs ys H5.out (fun m h1 h2 => HL.out.2 m h1 h2 (by omega))
      have HF := Lib.hid hbw
      have hjn : ¬ (j : Int) < (xs.length : Int) := by omega
      clear HL hbw hlt
      go_wp2
      go_ret
      exact ⟨by rw [HE.out, HF0.out]; rfl, HF.out⟩
end Go.Proofs.YtnlhpndjogjejaaGreatDoor

/- The landed schema: isOf, Is. -/
namespace Go.Proofs.YtnlhpndjogjejaaGreatDoor
open Go.RowKit

attribute [local go_sem] run_store_float

set_option maxRecDepth 100000 in
set_option maxHeartbeats 1000000 in
theorem isOfK : ∀ (x : V) (y : Ty) (d : Nat) (w : World) (u v : Array Value), chk d x = 0 → Ty.check d y = 0 → VLies w u x → TLies w v y → Calls Tryz.prog 135 #[.agg u, .agg v] w fun e w' => e = .returned (.bool (Sch.of x y)) ∧ Below w.heap.size w w' := by
  intro x
  refine V.ind (P := fun x => ∀ (y : Ty) (d : Nat) (w : World) (u v : Array Value), chk d x = 0 → Ty.check d y = 0 → VLies w u x → TLies w v y → Calls Tryz.prog 135 #[.agg u, .agg v] w fun e w' => e = .returned (.bool (Sch.of x y)) ∧ Below w.heap.size w w') ?_ x
  rintro k i b t xs ih ⟨k', ys⟩ d w u v hc hd hx hy
  obtain ⟨p, c, rfl, hxl, hxc, hxi⟩ := hx.open
  obtain ⟨q, e, rfl, hyl, hyc, hyi⟩ := hy.open
  unfold cells5 cells2
  obtain ⟨W0, hW0⟩ : ∃ W0, W0 = (w.alloc (.cells #[.int .i64 k, .int .i64 i, .float .f64 b, .string t, .slice p xs.length c] 65)).alloc (.cells #[.int .i64 k', .slice q ys.length e] 61) := ⟨_, rfl⟩
  have HB0 : Hid (Below w.heap.size w W0) := by rw [hW0]; exact ((Below.refl _ _).alloc (Nat.le_refl _) _).alloc (by simp) _
  have HY0 : Hid (W0.cell? ⟨w.heap.size + 1, 1, none⟩ = some (.slice q ys.length e)) := by show _ = _; rw [hW0]; simp
  have HW0 := Lib.hid hW0
  clear hW0 hx hy
  by_cases h1 : ¬ k = k'
  · have g1 := bne_t h1
    have HE : Hid (Sch.of (.mk k i b t xs) (.mk k' ys) = false) := by show _ = _; rw [Sch.of_mk, beq_f h1, Bool.false_and]
    clear ih hxi hyi h1 hc hd
    go_enter Tryz.func135, Tryz.ntmps135
    go_wp2
    rw [← HW0.out]
    go_ret
    exact ⟨by rw [HE.out]; rfl, HB0.out⟩
  replace h1 : k = k' := Classical.not_not.1 h1
  have g1 := bne_f h1
  have HE : Hid (Sch.of (.mk k i b t xs) (.mk k' ys) = xs.all (fun x => Sch.of x (Sch.inner (.mk k' ys)))) := by show _ = _; rw [Sch.of_mk, beq_t h1, Bool.true_and]
  obtain ⟨hd4, hcs, hct⟩ := Sch.ty_open hd
  obtain ⟨-, ho, -, hn, -, hcx⟩ := Sch.chk_open hc
  obtain ⟨-, -, -, -, o5, -⟩ := Sch.own_open ho
  have HX : Hid (Items w p xs) := hxi
  have HIH := Lib.hid ih
  -- what the type is of, where there are items
  have HT : Hid (0 < xs.length → ∃ z, ys = [z] ∧ Ty.check (d + 1) z = 0 ∧ Sch.inner (.mk k' ys) = z ∧ ∃ u', TLies w u' z ∧ ItemT w q 0 u') := by
    intro hp
    rcases hct with ⟨h6, -⟩ | ⟨h6, z, rfl, hz⟩
    · omega
    · obtain ⟨u', hu1, hu2⟩ := hyi 0 (by simp)
      exact ⟨z, rfl, hz, rfl, u', hu1, hu2⟩
  have HCX := Lib.hid hcx
  clear ih hxi hyi hc hd hct hcs h1 hcx ho o5
  go_enter Tryz.func135, Tryz.ntmps135
  go_wp2_with fail
  rw [← HW0.out]
  clear HW0
  go_loopw [15] (fun v5 wr => ∃ j : Nat, j ≤ xs.length ∧ v5 = .int .i64 j ∧ Hid (Below W0.heap.size W0 wr ∧ ∀ m (h1 : m < xs.length), m < j → Sch.of xs[m] (Sch.inner (.mk k' ys)) = true)) (fun v5 _ => xs.length - (intOf v5).toNat)
  case atStart => exact ⟨0, by omega, rfl, Below.refl _ _, fun m _ h => by omega⟩
  case round =>
    obtain ⟨j, hj, rfl, HL⟩ := hrel
    have hbw : Below w.heap.size w wr := HB0.out.trans (HL.out.1.mono HB0.out.size)
    by_cases hlt : j < xs.length
    · obtain ⟨ux, hvx, hix⟩ := HX.out j hlt
      obtain ⟨z, hys, hz, hin, uy, hvy, hiy⟩ := HT.out (by omega)
      obtain ⟨bx, ox, kx, ix, fx, tx, qx, nx, cx, rfl, _, rfl, a0, a1, a2, a3, a4⟩ := (hix.on hbw).lies
      obtain ⟨by', oy, ky, qy, ny, cy, rfl, _, rfl, b0, b1⟩ := (hiy.on hbw).lies
      rw [Nat.zero_mul, Nat.add_zero] at b0 b1
      have hl1 : ys.length = 1 := by rw [hys]; rfl
      have HC : Hid (∀ w', Below w.heap.size w w' → Calls Tryz.prog 135 #[.agg #[.int .i64 kx, .int .i64 ix, .float .f64 fx, .string tx, .slice qx nx cx], .agg #[.int .i64 ky, .slice qy ny cy]] w' fun e w'' => e = .returned (.bool (Sch.of xs[j] (Sch.inner (.mk k' ys)))) ∧ Below w'.heap.size w' w'') := fun w' hb => by
        rw [hin]
        exact HIH.out _ (List.getElem_mem hlt) z (d + 1) w' _ _ (HCX.out _ (List.getElem_mem hlt)) hz (hvx.on hb) (hvy.on hb)
      have HAll := Lib.hid HL.out.2
      have hj1 : (j : Int) < (xs.length : Int) := by omega
      obtain ⟨r, hr⟩ : ∃ r, r = Sch.of xs[j] (Sch.inner (.mk k' ys)) := ⟨_, rfl⟩
      rw [← hr] at HC
      have HRr := Lib.hid hr
      obtain ⟨wa, hwa⟩ : ∃ wa, wa = wr.alloc (.cells #[.int .i64 kx, .int .i64 ix, .float .f64 fx, .string tx, .slice qx nx cx] 65) := ⟨_, rfl⟩
      have HBa : Hid (Below wr.heap.size wr wa) := by rw [hwa]; exact (Below.refl _ _).alloc (Nat.le_refl _) _
      have HBw : Hid (Below w.heap.size w wa) := hbw.trans (HBa.out.mono hbw.size)
      have HBW : Hid (Below W0.heap.size W0 wa) := HL.out.1.trans (HBa.out.mono HL.out.1.size)
      have HWa := Lib.hid hwa
      have HY4 : Hid (wa.cell? ⟨w.heap.size + 1, 1, none⟩ = some (.slice (some ⟨by', oy, none⟩) 1 e)) := by have := cell_on HBW.out HY0.out; rw [hl1] at this; exact this
      have HBs : Hid (wa.cell? ⟨by', oy, none⟩ = some (.int .i64 ky) ∧ wa.cell? ⟨by', oy + 1, none⟩ = some (.slice qy ny cy)) := ⟨cell_on HBa.out b0, cell_on HBa.out b1⟩
      have HAs : Hid (wa.cell? ⟨wr.heap.size, 0, none⟩ = some (.int .i64 kx) ∧ wa.cell? ⟨wr.heap.size, 1, none⟩ = some (.int .i64 ix) ∧ wa.cell? ⟨wr.heap.size, 2, none⟩ = some (.float .f64 fx) ∧ wa.cell? ⟨wr.heap.size, 3, none⟩ = some (.string tx) ∧ wa.cell? ⟨wr.heap.size, 4, none⟩ = some (.slice qx nx cx)) := by rw [hwa]; exact ⟨by simp, by simp, by simp, by simp, by simp⟩
      clear hvx hvy hix hiy hbw HL hr hin hz hys hl1 hwa b0 b1
      go_wp2_with fail
      rw [← HWa.out]
      obtain ⟨c0, c1, c2, c3, c4⟩ := HAs.out
      obtain ⟨d0, d1⟩ := HBs.out
      have d5 := HY4.out
      clear HAs HBs HY4 HWa a0 a1 a2 a3 a4
      go_region_held3 (fun w' => w'.cell? ⟨wr.heap.size, 0, none⟩ = some (.int .i64 kx) ∧ w'.cell? ⟨wr.heap.size, 1, none⟩ = some (.int .i64 ix) ∧ w'.cell? ⟨wr.heap.size, 2, none⟩ = some (.float .f64 fx) ∧ w'.cell? ⟨wr.heap.size, 3, none⟩ = some (.string tx) ∧ w'.cell? ⟨wr.heap.size, 4, none⟩ = some (.slice qx nx cx) ∧ w'.cell? ⟨by', oy, none⟩ = some (.int .i64 ky) ∧ w'.cell? ⟨by', oy + 1, none⟩ = some (.slice qy ny cy) ∧ w'.cell? ⟨w.heap.size + 1, 1, none⟩ = some (.slice (some ⟨by', oy, none⟩) 1 e)) (go_keep) (first
        | (go_at_call 135; refine (HC.out _ (below_drewN HBw.out _)).mono ?_; rintro e w4 ⟨rfl, hb4⟩; have hb5 := below_via (w := wa) hb4 (by rfl) (by rfl) (by rfl) (by rfl); have z3 := cell_on hb5 c0; have z4 := cell_on hb5 c1; have z5 := cell_on hb5 c2; have z6 := cell_on hb5 c3; have z7 := cell_on hb5 c4; have z8 := cell_on hb5 d0; have z9 := cell_on hb5 d1; have z10 := cell_on hb5 d5; have HB4 := Lib.hid hb5; clear hb4 hb5))
      clear z3 z4 z5 z6 z7 z8 z9 z10 c0 c1 c2 c3 c4 d0 d1 d5
      cases r with
      | true =>
        have HN : Hid (Below W0.heap.size W0 w4 ∧ ∀ m (h1 : m < xs.length), m < j + 1 → Sch.of xs[m] (Sch.inner (.mk k' ys)) = true) := by
          refine ⟨HBW.out.trans (HB4.out.mono HBW.out.size), fun m h1 hm => ?_⟩
          by_cases hmj : m = j
          · subst hmj; exact HRr.out.symm
          · exact HAll.out m h1 (by omega)
        clear HB4 HAll HC
        go_wp2
        go_roundw
        case rel => exact ⟨j + 1, by omega, by go_num, HN⟩
        case measure => simp [intOf]; omega
      | false =>
        have HF0 : Hid (xs.all (fun x => Sch.of x (Sch.inner (.mk k' ys))) = false) := by
          show _ = _
          rw [List.all_eq_false]
          exact ⟨xs[j], List.getElem_mem hlt, by rw [← HRr.out]; decide⟩
        have HF := Lib.hid (HBw.out.trans (HB4.out.mono HBw.out.size))
        clear HB4 HAll HC
        go_wp2
        go_ret
        exact ⟨by rw [HE.out, HF0.out]; rfl, HF.out⟩
    · have HF0 : Hid (xs.all (fun x => Sch.of x (Sch.inner (.mk k' ys))) = true) := by
        show _ = _
        rw [List.all_eq_true]
        intro x hx
        obtain ⟨m, hm, rfl⟩ := List.getElem_of_mem hx
        exact HL.out.2 m hm (by omega)
      have HF := Lib.hid hbw
      have hjn : ¬ (j : Int) < (xs.length : Int) := by omega
      clear HL hbw hlt
      go_wp2
      go_ret
      exact ⟨by rw [HE.out, HF0.out]; rfl, HF.out⟩

end Go.Proofs.YtnlhpndjogjejaaGreatDoor

/- The landed schema: Find, sameColumn, Same. -/
namespace Go.Proofs.YtnlhpndjogjejaaGreatDoor
open Go.RowKit

attribute [local go_sem] run_store_float

set_option maxRecDepth 100000 in
set_option maxHeartbeats 2000000 in
theorem sameColumnK (x y : Col) (w : World) (u v : Array Value) (hu : CLies w u x) (hw : CLies w v y) : Calls Tryz.prog 124 #[.agg u, .agg v] w fun e w' => e = .returned (.bool (Sch.colSame x y)) ∧ Below w.heap.size w w' := by
  obtain ⟨k, tp, tn, tc, vk, vi, vb, vt, vp, vn, vc, rfl, ht, hv⟩ := hu.out
  obtain ⟨k', tp', tn', tc', vk', vi', vb', vt', vp', vn', vc', rfl, ht', hv'⟩ := hw.out
  obtain ⟨nm, ty, has, df⟩ := x
  obtain ⟨nm', ty', has', df'⟩ := y
  dsimp only at ht hv ht' hv'
  unfold cells9
  obtain ⟨W0, hW0⟩ : ∃ W0, W0 = (w.alloc (.cells #[.string nm, .int .i64 k, .slice tp tn tc, .bool has, .int .i64 vk, .int .i64 vi, .float .f64 vb, .string vt, .slice vp vn vc] 67)).alloc (.cells #[.string nm', .int .i64 k', .slice tp' tn' tc', .bool has', .int .i64 vk', .int .i64 vi', .float .f64 vb', .string vt', .slice vp' vn' vc'] 67) := ⟨_, rfl⟩
  have HB0 : Hid (Below w.heap.size w W0) := by rw [hW0]; exact ((Below.refl _ _).alloc (Nat.le_refl _) _).alloc (by simp) _
  have HY : Hid (W0.cell? ⟨w.heap.size, 4, none⟩ = some (.int .i64 vk) ∧ W0.cell? ⟨w.heap.size, 5, none⟩ = some (.int .i64 vi) ∧ W0.cell? ⟨w.heap.size, 6, none⟩ = some (.float .f64 vb) ∧ W0.cell? ⟨w.heap.size, 7, none⟩ = some (.string vt) ∧ W0.cell? ⟨w.heap.size, 8, none⟩ = some (.slice vp vn vc) ∧ W0.cell? ⟨w.heap.size + 1, 4, none⟩ = some (.int .i64 vk') ∧ W0.cell? ⟨w.heap.size + 1, 5, none⟩ = some (.int .i64 vi') ∧ W0.cell? ⟨w.heap.size + 1, 6, none⟩ = some (.float .f64 vb') ∧ W0.cell? ⟨w.heap.size + 1, 7, none⟩ = some (.string vt') ∧ W0.cell? ⟨w.heap.size + 1, 8, none⟩ = some (.slice vp' vn' vc')) := by rw [hW0]; refine ⟨?_, ?_, ?_, ?_, ?_, ?_, ?_, ?_, ?_, ?_⟩ <;> simp
  have HT := Lib.hid (sameTypeK ty ty' W0 _ _ (ht.on HB0.out) (ht'.on HB0.out))
  have HV := Lib.hid (fun w' (hb : Below W0.heap.size W0 w') => sameK df df' w' _ _ ((hv.on HB0.out).on hb) ((hv'.on HB0.out).on hb))
  unfold cells2 at HT
  unfold cells5 at HV
  have HE : Hid (Sch.colSame ⟨nm, ty, has, df⟩ ⟨nm', ty', has', df'⟩ = (decide (nm = nm') && (has == has') && Ty.same ty ty' && V.same df df')) := rfl
  obtain ⟨R, hR⟩ : ∃ R, R = Sch.colSame ⟨nm, ty, has, df⟩ ⟨nm', ty', has', df'⟩ := ⟨_, rfl⟩
  rw [← hR] at HE ⊢
  obtain ⟨r1, hr1⟩ : ∃ r, r = Ty.same ty ty' := ⟨_, rfl⟩
  rw [← hr1] at HT HE
  obtain ⟨r2, hr2⟩ : ∃ r, r = V.same df df' := ⟨_, rfl⟩
  rw [← hr2] at HV HE
  have HW0 := Lib.hid hW0
  clear hW0 ht ht' hv hv' hu hw hR hr1 hr2
  by_cases hn : nm = nm'
  · have gn : (nm.toList == nm'.toList) = true := by rw [text_eq, decide_eq_true hn]
    by_cases hh : has = has'
    · have HE2 : Hid (R = (r1 && r2)) := by show _ = _; rw [HE.out, decide_eq_true hn, hh, beq_self_eq_true, Bool.true_and, Bool.true_and]
      subst hh
      clear hn HE
      have gh : (has == has) = true := by simp
      go_enter Tryz.func124, Tryz.ntmps124
      go_wp2_with fail
      rw [← HW0.out]
      clear HW0
      refine HT.out.mono ?_
      rintro e w1 ⟨rfl, hb1⟩
      have HB1 := Lib.hid hb1
      have HBw := Lib.hid (HB0.out.trans (hb1.mono HB0.out.size))
      clear hb1 HT
      cases r1 with
      | true =>
        obtain ⟨y0, y1, y2, y3, y4, y5, y6, y7, y8, y9⟩ := HY.out
        have c0 := cell_on HB1.out y0
        have c1 := cell_on HB1.out y1
        have c2 := cell_on HB1.out y2
        have c3 := cell_on HB1.out y3
        have c4 := cell_on HB1.out y4
        have c5 := cell_on HB1.out y5
        have c6 := cell_on HB1.out y6
        have c7 := cell_on HB1.out y7
        have c8 := cell_on HB1.out y8
        have c9 := cell_on HB1.out y9
        have HV1 := Lib.hid (HV.out w1 HB1.out)
        clear y0 y1 y2 y3 y4 y5 y6 y7 y8 y9 HY HV
        go_wp2_with fail
        refine HV1.out.mono ?_
        rintro e w2 ⟨rfl, hb2⟩
        have HB2 := Lib.hid (HBw.out.trans (hb2.mono HBw.out.size))
        clear hb2 c0 c1 c2 c3 c4 c5 c6 c7 c8 c9
        go_wp2
        go_ret
        exact ⟨by rw [HE2.out]; rfl, HB2.out⟩
      | false =>
        clear HV HY
        go_wp2
        go_ret
        exact ⟨by rw [HE2.out]; rfl, HBw.out⟩
    · have HE2 : Hid (R = false) := by
        show _ = _
        have hb : (has == has') = false := by (cases has <;> cases has' <;> first | rfl | exact absurd rfl hh)
        rw [HE.out, hb, Bool.and_false, Bool.false_and, Bool.false_and]
      clear HE hn HV HT
      cases has <;> cases has' <;> try exact absurd rfl hh
      all_goals
        clear hh
        go_enter Tryz.func124, Tryz.ntmps124
        go_wp2
        rw [← HW0.out]
        go_ret
        exact ⟨by rw [HE2.out]; rfl, HB0.out⟩
  · have gn : (nm.toList == nm'.toList) = false := by rw [text_eq, decide_eq_false hn]
    have HE2 : Hid (R = false) := by show _ = _; rw [HE.out, decide_eq_false hn, Bool.false_and, Bool.false_and, Bool.false_and]
    clear HE hn HV HT
    go_enter Tryz.func124, Tryz.ntmps124
    go_wp2
    rw [← HW0.out]
    go_ret
    exact ⟨by rw [HE2.out]; rfl, HB0.out⟩

set_option maxRecDepth 100000 in
set_option maxHeartbeats 4000000 in
theorem sameSK (s t : List Col) (p q : Option Addr) (c d : Nat) (w : World) (hs : s.length * 120 ≤ 140737488351232) (hx : Cols w p s) (hy : Cols w q t) :
    Calls Tryz.prog 120 #[.agg #[.slice p s.length c], .agg #[.slice q t.length d]] w fun e w' => e = .returned (.bool (Sch.same s t)) ∧ Below w.heap.size w w' := by
  obtain ⟨W0, hW0⟩ : ∃ W0, W0 = (w.alloc (.cells #[.slice p s.length c] 25)).alloc (.cells #[.slice q t.length d] 25) := ⟨_, rfl⟩
  have HB0 : Hid (Below w.heap.size w W0) := by rw [hW0]; exact ((Below.refl _ _).alloc (Nat.le_refl _) _).alloc (by simp) _
  have HY0 : Hid (W0.cell? ⟨w.heap.size, 0, none⟩ = some (.slice p s.length c) ∧ W0.cell? ⟨w.heap.size + 1, 0, none⟩ = some (.slice q t.length d)) := by rw [hW0]; exact ⟨by simp, by simp⟩
  have HW0 := Lib.hid hW0
  have HX := Lib.hid hx
  have HY := Lib.hid hy
  clear hW0 hx hy
  by_cases h5 : ¬ s.length = t.length
  · have g5 : ((s.length : Int) != (t.length : Int)) = true := bne_t (by omega)
    have HE := Lib.hid (sameS_ne s t h5)
    clear h5
    go_enter Tryz.func120, Tryz.ntmps120
    go_wp2
    rw [← HW0.out]
    go_ret
    exact ⟨by rw [HE.out]; rfl, HB0.out⟩
  replace h5 : s.length = t.length := Classical.not_not.1 h5
  have g5 : ((s.length : Int) != (t.length : Int)) = false := bne_f (by omega)
  have H5 := Lib.hid h5
  clear h5
  go_enter Tryz.func120, Tryz.ntmps120
  go_wp2_with fail
  rw [← HW0.out]
  clear HW0
  go_loopw [17] (fun v5 wr => ∃ j : Nat, j ≤ s.length ∧ v5 = .int .i64 j ∧ Hid (Below W0.heap.size W0 wr ∧ ∀ m (h1 : m < s.length) (h2 : m < t.length), m < j → Sch.colSame s[m] t[m] = true)) (fun v5 _ => s.length - (intOf v5).toNat)
  case atStart => exact ⟨0, by omega, rfl, Below.refl _ _, fun m _ _ h => by omega⟩
  case round =>
    obtain ⟨j, hj, rfl, HL⟩ := hrel
    have hbw : Below w.heap.size w wr := HB0.out.trans (HL.out.1.mono HB0.out.size)
    by_cases hlt : j < s.length
    · have hlt2 : j < t.length := by have := H5.out; omega
      obtain ⟨bx, ox, k, tp, tn, tc, vk, vi, vb, vt, vp, vn, vc, rfl, _, hx9, htx, hvx⟩ := (HX.out.on hbw).at j hlt
      obtain ⟨by', oy, k', tp', tn', tc', vk', vi', vb', vt', vp', vn', vc', rfl, _, hy9, hty, hvy⟩ := (HY.out.on hbw).at j hlt2
      have HC : Hid (∀ w', Below wr.heap.size wr w' → Calls Tryz.prog 124 #[.agg (cells9 s[j].name k tp tn tc s[j].has vk vi vb vt vp vn vc), .agg (cells9 t[j].name k' tp' tn' tc' t[j].has vk' vi' vb' vt' vp' vn' vc')] w' fun e w'' => e = .returned (.bool (Sch.colSame s[j] t[j])) ∧ Below w'.heap.size w' w'') :=
        fun w' hb => sameColumnK s[j] t[j] w' _ _ ⟨k, tp, tn, tc, vk, vi, vb, vt, vp, vn, vc, rfl, htx.on hb, hvx.on hb⟩ ⟨k', tp', tn', tc', vk', vi', vb', vt', vp', vn', vc', rfl, hty.on hb, hvy.on hb⟩
      unfold cells9 at HC
      have HAll := Lib.hid HL.out.2
      have hj1 : (j : Int) < (s.length : Int) := by omega
      have hj2 : (j : Int) < (t.length : Int) := by omega
      obtain ⟨r, hr⟩ : ∃ r, r = Sch.colSame s[j] t[j] := ⟨_, rfl⟩
      rw [← hr] at HC
      have HRr := Lib.hid hr
      clear hr htx hvx hty hvy
      have HBr := Lib.hid HL.out.1
      clear HL
      obtain ⟨nx, hnx⟩ : ∃ n, n = s[j].name := ⟨_, rfl⟩
      obtain ⟨hx, hhx⟩ : ∃ n, n = s[j].has := ⟨_, rfl⟩
      obtain ⟨ny, hny⟩ : ∃ n, n = t[j].name := ⟨_, rfl⟩
      obtain ⟨hy, hhy⟩ : ∃ n, n = t[j].has := ⟨_, rfl⟩
      rw [← hnx, ← hhx] at hx9 HC
      rw [← hny, ← hhy] at hy9 HC
      clear hnx hhx hny hhy
      obtain ⟨a0, a1, a2, a3, a4, a5, a6, a7, a8⟩ := hx9
      obtain ⟨wa, hwa⟩ : ∃ wa, wa = wr.alloc (.cells #[.string nx, .int .i64 k, .slice tp tn tc, .bool hx, .int .i64 vk, .int .i64 vi, .float .f64 vb, .string vt, .slice vp vn vc] 67) := ⟨_, rfl⟩
      have HBa : Hid (Below wr.heap.size wr wa) := by rw [hwa]; exact (Below.refl _ _).alloc (Nat.le_refl _) _
      have HBw : Hid (Below w.heap.size w wa) := hbw.trans (HBa.out.mono hbw.size)
      have HBW : Hid (Below W0.heap.size W0 wa) := HBr.out.trans (HBa.out.mono HBr.out.size)
      have HWa := Lib.hid hwa
      have HY4 : Hid (wa.cell? ⟨w.heap.size + 1, 0, none⟩ = some (.slice (some ⟨by', oy, none⟩) t.length d)) := cell_on HBW.out HY0.out.2
      have HBs := Lib.hid (hy9.on HBa.out)
      have HAs : Hid (wa.cell? ⟨wr.heap.size, 0, none⟩ = some (.string nx) ∧ wa.cell? ⟨wr.heap.size, 1, none⟩ = some (.int .i64 k) ∧ wa.cell? ⟨wr.heap.size, 2, none⟩ = some (.slice tp tn tc) ∧ wa.cell? ⟨wr.heap.size, 3, none⟩ = some (.bool hx) ∧ wa.cell? ⟨wr.heap.size, 4, none⟩ = some (.int .i64 vk) ∧ wa.cell? ⟨wr.heap.size, 5, none⟩ = some (.int .i64 vi) ∧ wa.cell? ⟨wr.heap.size, 6, none⟩ = some (.float .f64 vb) ∧ wa.cell? ⟨wr.heap.size, 7, none⟩ = some (.string vt) ∧ wa.cell? ⟨wr.heap.size, 8, none⟩ = some (.slice vp vn vc)) := by rw [hwa]; refine ⟨?_, ?_, ?_, ?_, ?_, ?_, ?_, ?_, ?_⟩ <;> simp
      clear hbw hwa hy9
      go_wp2_with fail
      rw [← HWa.out]
      obtain ⟨c0, c1, c2, c3, c4, c5, c6, c7, c8⟩ := HAs.out
      obtain ⟨d0, d1, d2, d3, d4, d5, d6, d7, d8⟩ := HBs.out
      have d9 := HY4.out
      clear HAs HBs HY4 HWa a0 a1 a2 a3 a4 a5 a6 a7 a8
      go_region_held3 (fun w' => w'.cell? ⟨wr.heap.size, 0, none⟩ = some (.string nx) ∧ w'.cell? ⟨wr.heap.size, 1, none⟩ = some (.int .i64 k) ∧ w'.cell? ⟨wr.heap.size, 2, none⟩ = some (.slice tp tn tc) ∧ w'.cell? ⟨wr.heap.size, 3, none⟩ = some (.bool hx) ∧ w'.cell? ⟨wr.heap.size, 4, none⟩ = some (.int .i64 vk) ∧ w'.cell? ⟨wr.heap.size, 5, none⟩ = some (.int .i64 vi) ∧ w'.cell? ⟨wr.heap.size, 6, none⟩ = some (.float .f64 vb) ∧ w'.cell? ⟨wr.heap.size, 7, none⟩ = some (.string vt) ∧ w'.cell? ⟨wr.heap.size, 8, none⟩ = some (.slice vp vn vc) ∧ w'.cell? ⟨by', oy + j * 9, none⟩ = some (.string ny) ∧ w'.cell? ⟨by', oy + j * 9 + 1, none⟩ = some (.int .i64 k') ∧ w'.cell? ⟨by', oy + j * 9 + 2, none⟩ = some (.slice tp' tn' tc') ∧ w'.cell? ⟨by', oy + j * 9 + 3, none⟩ = some (.bool hy) ∧ w'.cell? ⟨by', oy + j * 9 + 4, none⟩ = some (.int .i64 vk') ∧ w'.cell? ⟨by', oy + j * 9 + 5, none⟩ = some (.int .i64 vi') ∧ w'.cell? ⟨by', oy + j * 9 + 6, none⟩ = some (.float .f64 vb') ∧ w'.cell? ⟨by', oy + j * 9 + 7, none⟩ = some (.string vt') ∧ w'.cell? ⟨by', oy + j * 9 + 8, none⟩ = some (.slice vp' vn' vc') ∧ w'.cell? ⟨w.heap.size + 1, 0, none⟩ = some (.slice (some ⟨by', oy, none⟩) t.length d)) (go_keep) (first
        | (go_at_call 124; refine (HC.out _ (below_drewN HBa.out _)).mono ?_; rintro e w4 ⟨rfl, hb4⟩; have hb5 := below_via (w := wa) hb4 (by rfl) (by rfl) (by rfl) (by rfl); have z0 := cell_on hb5 c0; have z1 := cell_on hb5 c1; have z2 := cell_on hb5 c2; have z3 := cell_on hb5 c3; have z4 := cell_on hb5 c4; have z5 := cell_on hb5 c5; have z6 := cell_on hb5 c6; have z7 := cell_on hb5 c7; have z8 := cell_on hb5 c8; have y0 := cell_on hb5 d0; have y1 := cell_on hb5 d1; have y2 := cell_on hb5 d2; have y3 := cell_on hb5 d3; have y4 := cell_on hb5 d4; have y5 := cell_on hb5 d5; have y6 := cell_on hb5 d6; have y7 := cell_on hb5 d7; have y8 := cell_on hb5 d8; have y9 := cell_on hb5 d9; have HB4 := Lib.hid hb5; clear hb4 hb5))
      clear z0 z1 z2 z3 z4 z5 z6 z7 z8 y0 y1 y2 y3 y4 y5 y6 y7 y8 y9 c0 c1 c2 c3 c4 c5 c6 c7 c8 d0 d1 d2 d3 d4 d5 d6 d7 d8 d9
      cases r with
      | true =>
        have HN : Hid (Below W0.heap.size W0 w4 ∧ ∀ m (h1 : m < s.length) (h2 : m < t.length), m < j + 1 → Sch.colSame s[m] t[m] = true) := by
          refine ⟨HBW.out.trans (HB4.out.mono HBW.out.size), fun m h1 h2 hm => ?_⟩
          by_cases hmj : m = j
          · subst hmj; exact HRr.out.symm
          · exact HAll.out m h1 h2 (by omega)
        clear HB4 HAll HC
        go_wp2
        go_roundw
        case rel => exact ⟨j + 1, by omega, by go_num, HN⟩
        case measure => simp [intOf]; omega
      | false =>
        have HF0 : Hid (Sch.same s t = false) := sameS_at s t j hlt hlt2 HRr.out.symm
        have HF := Lib.hid (HBw.out.trans (HB4.out.mono HBw.out.size))
        clear HB4 HAll HC
        go_wp2
        go_ret
        exact ⟨by rw [HF0.out]; rfl, HF.out⟩
    · have HF0 : Hid (Sch.same s t = true) := sameS_all s t H5.out (fun m h1 h2 => HL.out.2 m h1 h2 (by omega))
      have HF := Lib.hid hbw
      have hjn : ¬ (j : Int) < (s.length : Int) := by omega
      clear HL hbw hlt
      go_wp2
      go_ret
      exact ⟨by rw [HF0.out]; rfl, HF.out⟩
end Go.Proofs.YtnlhpndjogjejaaGreatDoor

/- Names in a map: which of them are there. -/
namespace Go.Proofs.YtnlhpndjogjejaaGreatDoor
open Go.RowKit Go.Maps

theorem lawS : Keyed Tryz.prog 9 := string_keyed Tryz.underlying9
theorem zeroI (w : World) : (zeroValue 3).run Tryz.prog w = .ok (.int .i64 0) w := by kernel_rfl
/-- what a name reads as -/
def keyL (t : ByteArray) : Lit := .string t.data.toList
theorem keyL_inj {a b : ByteArray} (h : keyL a = keyL b) : a = b := by
  unfold keyL at h
  injection h with h
  obtain ⟨⟨a⟩⟩ := a
  obtain ⟨⟨b⟩⟩ := b
  simp_all
theorem keyL_of {t : ByteArray} (h : t.size ≤ 140737488351232) : keyOf Tryz.prog 9 (.string t) = some (keyL t) := Go.WideMaps.keyOf_string_mk Tryz.underlying9 (by unfold maxLen; omega)

/-- block M is a map whose keys are the columns' names -/
structure Named (w : World) (M n : Nat) (l : List Col) : Prop where
  out : ∃ D : DataW Unit, w.ownsMap Tryz.prog 9 (plainElem Tryz.prog 3) M n D ∧ ∀ t : ByteArray, has D (keyL t) = l.any (fun x => decide (x.name = t))
theorem named_made (w : World) : Named (w.alloc (.map #[] 0)) w.heap.size 0 [] := ⟨.map [], World.ownsMap_made _ _ _ _, fun _ => rfl⟩
theorem Named.lt {w : World} {M n : Nat} {l : List Col} (h : Named w M n l) : M < w.heap.size := by
  obtain ⟨D, h1, _⟩ := h.out
  exact h1.lt
theorem Named.keep {w w' : World} {M n : Nat} {l : List Col} (h : Named w M n l) (hb : w'.heap[M]? = w.heap[M]?) : Named w' M n l := by
  obtain ⟨D, ⟨es, clock, h1, h2⟩, h3⟩ := h.out
  exact ⟨D, ⟨es, clock, hb.trans h1, h2⟩, h3⟩
theorem has_put {D : DataW Unit} {P : Program} {k : TypeId} {R : Value → Option (DataW Unit × List MemPlace)} {w : World} {M n : Nat} {l : List Col} (hm : w.ownsMap P k R M n D) (h : ∀ t : ByteArray, has D (keyL t) = l.any (fun x => decide (x.name = t))) (c : Col) (d : DataW Unit) (t : ByteArray) :
    has (D.put (keyL c.name) d) (keyL t) = (l ++ [c]).any (fun x => decide (x.name = t)) := by
  rw [List.any_append]
  by_cases hc : c.name = t
  · subst hc
    rw [has_put_same hm.isMap (by trivial)]
    simp
  · rw [has_put_other (fun e => hc (keyL_inj e).symm), h t]
    simp [hc]
end Go.Proofs.YtnlhpndjogjejaaGreatDoor

/- The landed schema: checkDefault, checkColumns. -/
namespace Go.Proofs.YtnlhpndjogjejaaGreatDoor
open Go.RowKit Go.Maps

attribute [local go_sem] run_store_float

/-- why a column's default may not be, where its type may -/
def dflErr (c : Col) : Nat := if c.has = false then (if V.same c.dflt V0 then 0 else 80) else if chk 1 c.dflt ≠ 0 then chk 1 c.dflt else if Sch.is c.dflt c.ty then 0 else 80
theorem colErr_eq (l : List Col) (c : Col) : Sch.colErr l c = if Sch.name c.name = false then 70 else if l.any (fun x => decide (x.name = c.name)) then 71 else if Ty.check 1 c.ty ≠ 0 then Ty.check 1 c.ty else dflErr c := rfl
theorem vlies_zero (w : World) : VLies w (cells5 0 0 0 ⟨#[]⟩ none 0 0) V0 := VLies.mk (xs := []) (fun _ => #[]) (by simp) (by simp) (fun hc => absurd rfl hc) (fun j hj => by simp at hj)

set_option maxRecDepth 100000 in
set_option maxHeartbeats 2000000 in
theorem checkDefaultK (x : Col) (w : World) (u : Array Value) (hu : CLies w u x) (hty : Ty.check 1 x.ty = 0) : Calls Tryz.prog 126 #[.agg u] w fun e w' => e = .returned (.int .i64 (dflErr x : Nat)) ∧ Below w.heap.size w w' := by
  obtain ⟨k, tp, tn, tc, vk, vi, vb, vt, vp, vn, vc, rfl, ht, hv⟩ := hu.out
  obtain ⟨nm, ty, has, df⟩ := x
  dsimp only at ht hv hty
  unfold cells9
  obtain ⟨W0, hW0⟩ : ∃ W0, W0 = w.alloc (.cells #[.string nm, .int .i64 k, .slice tp tn tc, .bool has, .int .i64 vk, .int .i64 vi, .float .f64 vb, .string vt, .slice vp vn vc] 67) := ⟨_, rfl⟩
  have HB0 : Hid (Below w.heap.size w W0) := by rw [hW0]; exact (Below.refl _ _).alloc (Nat.le_refl _) _
  have HY : Hid (W0.cell? ⟨w.heap.size, 1, none⟩ = some (.int .i64 k) ∧ W0.cell? ⟨w.heap.size, 2, none⟩ = some (.slice tp tn tc) ∧ W0.cell? ⟨w.heap.size, 4, none⟩ = some (.int .i64 vk) ∧ W0.cell? ⟨w.heap.size, 5, none⟩ = some (.int .i64 vi) ∧ W0.cell? ⟨w.heap.size, 6, none⟩ = some (.float .f64 vb) ∧ W0.cell? ⟨w.heap.size, 7, none⟩ = some (.string vt) ∧ W0.cell? ⟨w.heap.size, 8, none⟩ = some (.slice vp vn vc)) := by rw [hW0]; refine ⟨?_, ?_, ?_, ?_, ?_, ?_, ?_⟩ <;> simp
  have HS := Lib.hid (sameK df V0 W0 _ _ (hv.on HB0.out) (vlies_zero W0))
  have HC := Lib.hid (checkK df W0 _ (hv.on HB0.out))
  have HO := Lib.hid (fun w' (hb : Below W0.heap.size W0 w') h1 => isOfK df ty 1 w' _ _ h1 hty ((hv.on HB0.out).on hb) ((ht.on HB0.out).on hb))
  have HI : Hid (chk 1 df = 0 → Sch.is df ty = Sch.of df ty) := fun h => by
    unfold Sch.is
    rw [decide_eq_true hty, decide_eq_true h]
    rfl
  have HE : Hid (dflErr ⟨nm, ty, has, df⟩ = if has = false then (if V.same df V0 then 0 else 80) else if chk 1 df ≠ 0 then chk 1 df else if Sch.is df ty then 0 else 80) := rfl
  obtain ⟨R, hR⟩ : ∃ R, R = dflErr ⟨nm, ty, has, df⟩ := ⟨_, rfl⟩
  rw [← hR] at HE ⊢
  obtain ⟨r1, hr1⟩ : ∃ r, r = V.same df V0 := ⟨_, rfl⟩
  rw [← hr1] at HS HE
  obtain ⟨r2, hr2⟩ : ∃ r, r = chk 1 df := ⟨_, rfl⟩
  rw [← hr2] at HC HE HO HI
  obtain ⟨r3, hr3⟩ : ∃ r, r = Sch.is df ty := ⟨_, rfl⟩
  rw [← hr3] at HE HI
  have HW0 := Lib.hid hW0
  unfold cells5 at HS HC HO
  unfold cells2 at HO
  clear hW0 ht hv hu hty hR hr1 hr2 hr3
  cases has with
  | false =>
    have HE2 : Hid (R = if r1 then 0 else 80) := by show _ = _; rw [HE.out, if_pos rfl]
    clear HE HC HO HI HY
    go_enter Tryz.func126, Tryz.ntmps126
    go_wp2_with fail
    rw [← HW0.out]
    clear HW0
    refine HS.out.mono ?_
    rintro e w1 ⟨rfl, hb1⟩
    have HBw := Lib.hid (HB0.out.trans (hb1.mono HB0.out.size))
    clear hb1 HS
    cases r1 with
    | true =>
      go_wp2
      go_ret
      exact ⟨by rw [HE2.out]; rfl, HBw.out⟩
    | false =>
      go_wp2
      go_ret
      exact ⟨by rw [HE2.out]; rfl, HBw.out⟩
  | true =>
    have HE2 : Hid (R = if r2 ≠ 0 then r2 else if r3 then 0 else 80) := by show _ = _; rw [HE.out, if_neg (by decide)]
    clear HE HS
    go_enter Tryz.func126, Tryz.ntmps126
    go_wp2_with fail
    rw [← HW0.out]
    clear HW0
    refine HC.out.mono ?_
    rintro e w1 ⟨rfl, hb1⟩
    have HB1 := Lib.hid hb1
    have HBw := Lib.hid (HB0.out.trans (hb1.mono HB0.out.size))
    clear hb1 HC
    by_cases h2 : r2 = 0
    · have g2 : ((r2 : Int) != 0) = false := bne_f (by omega)
      obtain ⟨y0, y1, y2, y3, y4, y5, y6⟩ := HY.out
      have c0 := cell_on HB1.out y0
      have c1 := cell_on HB1.out y1
      have c2 := cell_on HB1.out y2
      have c3 := cell_on HB1.out y3
      have c4 := cell_on HB1.out y4
      have c5 := cell_on HB1.out y5
      have c6 := cell_on HB1.out y6
      have HO1 := Lib.hid (HO.out w1 HB1.out h2)
      have HE3 : Hid (R = if Sch.of df ty then 0 else 80) := by
        show _ = _
        rw [HE2.out, if_neg (by omega), HI.out h2]
      obtain ⟨r4, hr4⟩ : ∃ r, r = Sch.of df ty := ⟨_, rfl⟩
      rw [← hr4] at HO1 HE3
      clear y0 y1 y2 y3 y4 y5 y6 HY HO HI HE2 hr4 h2
      go_wp2_with fail
      refine HO1.out.mono ?_
      rintro e w2 ⟨rfl, hb2⟩
      have HB2 := Lib.hid (HBw.out.trans (hb2.mono HBw.out.size))
      clear hb2 c0 c1 c2 c3 c4 c5 c6 HO1
      cases r4 with
      | true =>
        go_wp2
        go_ret
        exact ⟨by rw [HE3.out]; rfl, HB2.out⟩
      | false =>
        go_wp2
        go_ret
        exact ⟨by rw [HE3.out]; rfl, HB2.out⟩
    · have g2 : ((r2 : Int) != 0) = true := bne_t (by omega)
      have HE3 : Hid (R = r2) := by show _ = _; rw [HE2.out, if_pos h2]
      clear HO HI HE2 h2 HY
      go_wp2
      go_ret
      exact ⟨by rw [HE3.out]; rfl, HBw.out⟩

/-- what checkColumns tells -/
def colsK (s : List Col) : Nat := if s.length = 0 then 4 else if 16 < s.length then 3 else Sch.colsErr [] s
theorem colsErr_step (s : List Col) (j : Nat) (hj : j < s.length) : Sch.colsErr (s.take j) (s.drop j) = if Sch.colErr (s.take j) s[j] = 0 then Sch.colsErr (s.take (j + 1)) (s.drop (j + 1)) else Sch.colErr (s.take j) s[j] := by
  rw [List.drop_eq_getElem_cons hj, Sch.colsErr, List.take_succ_eq_append_getElem hj]

set_option maxRecDepth 100000 in
set_option maxHeartbeats 4000000 in
theorem checkColumnsK (s : List Col) (p : Option Addr) (c : Nat) (w : World) (hx : Cols w p s) (hwf : ∀ x ∈ s, x.wf) :
    Calls Tryz.prog 121 #[.slice p s.length c] w fun e w' => e = .returned (.int .i64 (colsK s : Nat)) ∧ Below w.heap.size w w' := by
  have hmm := @run_makeMap Tryz.prog
  obtain ⟨R, hR⟩ : ∃ R, R = colsK s := ⟨_, rfl⟩
  have HR : Hid (R = if s.length = 0 then 4 else if 16 < s.length then 3 else Sch.colsErr [] s) := hR
  rw [← hR]
  clear hR
  have HX := Lib.hid hx
  have HWf := Lib.hid hwf
  clear hx hwf
  by_cases h0 : s.length = 0
  · have g0 : ((s.length : Int) == 0) = true := beq_t (by omega)
    have HE : Hid (R = 4) := by show _ = _; rw [HR.out, if_pos h0]
    clear HR h0
    go_enter Tryz.func121, Tryz.ntmps121
    go_wp2
    go_ret
    exact ⟨by rw [HE.out]; rfl, Below.refl _ _⟩
  have g0 : ((s.length : Int) == 0) = false := beq_f (by omega)
  by_cases h1 : 16 < s.length
  · have g1 : (16 : Int) < (s.length : Int) := by omega
    have HE : Hid (R = 3) := by show _ = _; rw [HR.out, if_neg h0, if_pos h1]
    clear HR h0 h1
    go_enter Tryz.func121, Tryz.ntmps121
    go_wp2
    go_ret
    exact ⟨by rw [HE.out]; rfl, Below.refl _ _⟩
  have g1 : ¬ (16 : Int) < (s.length : Int) := by omega
  have HE : Hid (R = Sch.colsErr (s.take 0) (s.drop 0)) := by show _ = _; rw [HR.out, if_neg h0, if_neg h1]; simp
  have hs16 : s.length ≤ 16 := by omega
  clear HR h0 h1
  obtain ⟨W0, hW0⟩ : ∃ W0, W0 = w.alloc (.map #[] 0) := ⟨_, rfl⟩
  have HB0 : Hid (Below w.heap.size w W0) := by rw [hW0]; exact (Below.refl _ _).alloc (Nat.le_refl _) _
  have HN0 : Hid (Named W0 w.heap.size 0 (s.take 0)) := by rw [hW0]; exact named_made w
  have HW0 := Lib.hid hW0
  clear hW0
  go_enter Tryz.func121, Tryz.ntmps121
  go_wp2_with fail
  rw [← HW0.out]
  clear HW0
  go_loopw [19] (fun v19 wr => ∃ j : Nat, j ≤ s.length ∧ v19 = .int .i64 j ∧ Hid (Below w.heap.size w wr ∧ Named wr w.heap.size j (s.take j) ∧ R = Sch.colsErr (s.take j) (s.drop j))) (fun v19 _ => s.length - (intOf v19).toNat)
  case atStart => exact ⟨0, by omega, rfl, HB0.out, HN0.out, HE.out⟩
  case round =>
    obtain ⟨j, hj, rfl, HL⟩ := hrel
    by_cases hlt : j < s.length
    · obtain ⟨bx, ox, k, tp, tn, tc, vk, vi, vb, vt, vp, vn, vc, rfl, _, h9, htx, hvx⟩ := HX.out.at j hlt
      obtain ⟨a0, a1, a2, a3, a4, a5, a6, a7, a8⟩ := h9.on HL.out.1
      clear h9
      have hj1 : (j : Int) < (s.length : Int) := by omega
      have HCe := Lib.hid ((colErr_eq (s.take j) s[j]))
      have HRj := Lib.hid (HL.out.2.2.trans (colsErr_step s j hlt))
      have hnm : s[j].name.size ≤ 140737488351232 := (HWf.out _ (List.getElem_mem hlt)).1
      have HKey := Lib.hid (keyL_of hnm)
      have HNm := Lib.hid (nameK s[j].name)
      have HTk := Lib.hid (s.take_succ_eq_append_getElem hlt)
      obtain ⟨D, hown, hhas⟩ := HL.out.2.1.out
      have HOwn := Lib.hid hown
      have HHas := Lib.hid (hhas s[j].name)
      have HPut := Lib.hid (fun d t => has_put hown hhas s[j] d t)
      have HMlt := Lib.hid hown.lt
      have HBr := Lib.hid HL.out.1
      -- the copy of the column
      have HCT := Lib.hid (fun w' (hb : Below w.heap.size w w') => checkTypeK s[j].ty w' _ (htx.on hb))
      have HCD := Lib.hid (fun w' (hb : Below w.heap.size w w') (h : Ty.check 1 s[j].ty = 0) => checkDefaultK s[j] w' _ ⟨k, tp, tn, tc, vk, vi, vb, vt, vp, vn, vc, rfl, htx.on hb, hvx.on hb⟩ h)
      unfold cells9 at HCD
      unfold cells2 at HCT
      obtain ⟨nm, hn⟩ : ∃ n, n = s[j].name := ⟨_, rfl⟩
      obtain ⟨hs, hhs⟩ : ∃ n, n = s[j].has := ⟨_, rfl⟩
      rw [← hn] at a0 HCe HKey HNm HHas HPut HCD
      rw [← hhs] at a3 HCD
      obtain ⟨rn, hrn⟩ : ∃ r, r = Sch.name nm := ⟨_, rfl⟩
      rw [← hrn] at HNm HCe
      obtain ⟨rt, hrt⟩ : ∃ r, r = Ty.check 1 s[j].ty := ⟨_, rfl⟩
      rw [← hrt] at HCT HCe HCD
      obtain ⟨rd, hrd⟩ : ∃ r, r = dflErr s[j] := ⟨_, rfl⟩
      rw [← hrd] at HCD HCe
      obtain ⟨ra, hra⟩ : ∃ r, r = (s.take j).any (fun x => decide (x.name = nm)) := ⟨_, rfl⟩
      rw [← hra] at HHas HCe
      obtain ⟨wa, hwa⟩ : ∃ wa, wa = wr.alloc (.cells #[.string nm, .int .i64 k, .slice tp tn tc, .bool hs, .int .i64 vk, .int .i64 vi, .float .f64 vb, .string vt, .slice vp vn vc] 67) := ⟨_, rfl⟩
      have HBa : Hid (Below wr.heap.size wr wa) := by rw [hwa]; exact (Below.refl _ _).alloc (Nat.le_refl _) _
      have HAs : Hid (wa.cell? ⟨wr.heap.size, 0, none⟩ = some (.string nm) ∧ wa.cell? ⟨wr.heap.size, 1, none⟩ = some (.int .i64 k) ∧ wa.cell? ⟨wr.heap.size, 2, none⟩ = some (.slice tp tn tc) ∧ wa.cell? ⟨wr.heap.size, 3, none⟩ = some (.bool hs) ∧ wa.cell? ⟨wr.heap.size, 4, none⟩ = some (.int .i64 vk) ∧ wa.cell? ⟨wr.heap.size, 5, none⟩ = some (.int .i64 vi) ∧ wa.cell? ⟨wr.heap.size, 6, none⟩ = some (.float .f64 vb) ∧ wa.cell? ⟨wr.heap.size, 7, none⟩ = some (.string vt) ∧ wa.cell? ⟨wr.heap.size, 8, none⟩ = some (.slice vp vn vc)) := by rw [hwa]; refine ⟨?_, ?_, ?_, ?_, ?_, ?_, ?_, ?_, ?_⟩ <;> simp
      have HBw : Hid (Below w.heap.size w wa) := HBr.out.trans (HBa.out.mono HBr.out.size)
      have HOa : Hid (wa.ownsMap Tryz.prog 9 (plainElem Tryz.prog 3) w.heap.size j D) := by rw [hwa]; exact HOwn.out.alloc _
      have hsz : wr.heap.size < wa.heap.size := by rw [hwa]; simp
      have HWa := Lib.hid hwa
      clear hn hhs hrn hrt hrd hra htx hvx hown hhas hwa HL HOwn
      go_wp2_with fail
      rw [← HWa.out]
      clear HWa a0 a1 a2 a3 a4 a5 a6 a7 a8
      refine (HNm.out _).mono ?_
      rintro e w2 ⟨rfl, hw2⟩
      rw [hw2]
      clear hw2 w2 HNm
      cases rn with
      | false =>
        have HE2 : Hid (R = 70) := by show _ = _; rw [HRj.out, HCe.out]; rfl
        go_wp2
        go_ret
        exact ⟨by rw [HE2.out]; rfl, HBw.out⟩
      | true =>
        obtain ⟨c0, c1, c2, c3, c4, c5, c6, c7, c8⟩ := HAs.out
        cases ra with
        | true =>
          have HE2 : Hid (R = 71) := by show _ = _; rw [HRj.out, HCe.out]; rfl
          go_wp2_with (first | (at_lookup; refine wpList_lookup_own_ok_int _ rfl _ _ 122 rfl 9 3 .i64 lawS Tryz.underlying122 Tryz.underlying3 (zeroI _) w.heap.size j D rfl HOa.out _ _ rfl HKey.out ?_; intro cc hat hwc; rw [HHas.out]; clear hat hwc))
          go_ret
          exact ⟨by rw [HE2.out]; rfl, HBw.out⟩
        | false =>
          go_wp2_with (first
            | (at_lookup; refine wpList_lookup_own_ok_int _ rfl _ _ 122 rfl 9 3 .i64 lawS Tryz.underlying122 Tryz.underlying3 (zeroI _) w.heap.size j D rfl HOa.out _ _ rfl HKey.out ?_; intro cc hat hwc; rw [HHas.out]; clear hat hwc)
            | (at_mapUpdate; refine wpList_mapUpdate_own _ rfl _ _ _ 122 rfl 9 3 lawS Tryz.underlying122 _ w.heap.size j D rfl HOa.out (by unfold maxLen; omega) _ _ _ rfl rfl HKey.out _ [] (plainElem_int Tryz.underlying3 (WalkArith.wf_i64 (by omega))) ?_; intro w1 hown1 hgr1
               have HO1 := Lib.hid hown1
               have HG1 := Lib.hid hgr1
               have hne : ¬ wr.heap.size = w.heap.size := by have := HMlt.out; omega
               have hblk : w1.heap[wr.heap.size]? = wa.heap[wr.heap.size]? := hgr1.block _ hsz (fun hc => hne (by injection hc))
               have q0 : w1.cell? ⟨wr.heap.size, 0, none⟩ = some (.string nm) := (World.cell?_of_block (w := wa) hblk).trans c0
               have q1 : w1.cell? ⟨wr.heap.size, 1, none⟩ = some (.int .i64 k) := (World.cell?_of_block (w := wa) hblk).trans c1
               have q2 : w1.cell? ⟨wr.heap.size, 2, none⟩ = some (.slice tp tn tc) := (World.cell?_of_block (w := wa) hblk).trans c2
               have q3 : w1.cell? ⟨wr.heap.size, 3, none⟩ = some (.bool hs) := (World.cell?_of_block (w := wa) hblk).trans c3
               have q4 : w1.cell? ⟨wr.heap.size, 4, none⟩ = some (.int .i64 vk) := (World.cell?_of_block (w := wa) hblk).trans c4
               have q5 : w1.cell? ⟨wr.heap.size, 5, none⟩ = some (.int .i64 vi) := (World.cell?_of_block (w := wa) hblk).trans c5
               have q6 : w1.cell? ⟨wr.heap.size, 6, none⟩ = some (.float .f64 vb) := (World.cell?_of_block (w := wa) hblk).trans c6
               have q7 : w1.cell? ⟨wr.heap.size, 7, none⟩ = some (.string vt) := (World.cell?_of_block (w := wa) hblk).trans c7
               have q8 : w1.cell? ⟨wr.heap.size, 8, none⟩ = some (.slice vp vn vc) := (World.cell?_of_block (w := wa) hblk).trans c8
               clear c0 c1 c2 c3 c4 c5 c6 c7 c8 hown1 hgr1 hblk hne))
          have HB1 : Hid (Below w.heap.size w w1) := HBw.out.grown HG1.out HBw.out.size (fun k hk => by injection hk with hk; omega)
          have HN1 : Hid (Named w1 w.heap.size (j + 1) (s.take (j + 1))) := by
            rw [HTk.out]
            exact ⟨_, HO1.out, HPut.out _⟩
          have HC1 := Lib.hid (HCT.out w1 HB1.out)
          clear HCT HO1 HPut HOa HHas HKey HTk HG1
          go_wp2_with fail
          refine HC1.out.mono ?_
          rintro e w2 ⟨rfl, hb2⟩
          have HB2 : Hid (Below w.heap.size w w2) := HB1.out.trans (hb2.mono HB1.out.size)
          have HN2 : Hid (Named w2 w.heap.size (j + 1) (s.take (j + 1))) := HN1.out.keep (hb2.block _ HN1.out.lt)
          by_cases ht0 : rt = 0
          · have gt : ((rt : Int) != 0) = false := bne_f (by omega)
            have z0 := cell_on hb2 q0
            have z1 := cell_on hb2 q1
            have z2 := cell_on hb2 q2
            have z3 := cell_on hb2 q3
            have z4 := cell_on hb2 q4
            have z5 := cell_on hb2 q5
            have z6 := cell_on hb2 q6
            have z7 := cell_on hb2 q7
            have z8 := cell_on hb2 q8
            have HD1 := Lib.hid (HCD.out w2 HB2.out ht0)
            clear q0 q1 q2 q3 q4 q5 q6 q7 q8 hb2 HC1 HCD HN1
            have HCe2 : Hid (Sch.colErr (s.take j) s[j] = rd) := by
              show _ = _
              rw [HCe.out, ht0]
              rfl
            clear HCe ht0
            go_wp2_with fail
            refine HD1.out.mono ?_
            rintro e w3 ⟨rfl, hb3⟩
            have HB3 : Hid (Below w.heap.size w w3) := HB2.out.trans (hb3.mono HB2.out.size)
            have HN3 : Hid (Named w3 w.heap.size (j + 1) (s.take (j + 1))) := HN2.out.keep (hb3.block _ HN2.out.lt)
            clear hb3 z0 z1 z2 z3 z4 z5 z6 z7 z8 HD1 HN2
            by_cases hd0 : rd = 0
            · have gd : ((rd : Int) != 0) = false := bne_f (by omega)
              have HR2 : Hid (R = Sch.colsErr (s.take (j + 1)) (s.drop (j + 1))) := by show _ = _; rw [HRj.out, HCe2.out, if_pos hd0]
              clear hd0 HRj HCe2
              go_wp2
              go_roundw
              case rel => exact ⟨j + 1, by omega, by go_num, HB3.out, HN3.out, HR2.out⟩
              case measure => simp [intOf]; omega
            · have gd : ((rd : Int) != 0) = true := bne_t (by omega)
              have HR2 : Hid (R = rd) := by show _ = _; rw [HRj.out, HCe2.out, if_neg hd0]
              clear hd0 HRj HCe2
              go_wp2
              go_ret
              exact ⟨by rw [HR2.out]; rfl, HB3.out⟩
          · have gt : ((rt : Int) != 0) = true := bne_t (by omega)
            have HR2 : Hid (R = rt) := by
              show _ = _
              have e1 : Sch.colErr (s.take j) s[j] = rt := by rw [HCe.out, if_neg (by decide), if_neg (by decide), if_pos ht0]
              rw [HRj.out, e1, if_neg ht0]
            clear ht0 hb2 HC1 HCD HN1 HCe HRj
            go_wp2
            go_ret
            exact ⟨by rw [HR2.out]; rfl, HB2.out⟩
    · have HF := Lib.hid HL.out.1
      have HF0 : Hid (R = 0) := by show _ = _; rw [HL.out.2.2, List.drop_eq_nil_of_le (by omega)]; rfl
      have hjn : ¬ (j : Int) < (s.length : Int) := by omega
      clear HL hlt
      go_wp2
      go_ret
      exact ⟨by rw [HF0.out]; rfl, HF.out⟩
end Go.Proofs.YtnlhpndjogjejaaGreatDoor

/- The landed schema: appendText, appendType, appendFloat. -/
namespace Go.Proofs.YtnlhpndjogjejaaGreatDoor
open Go.RowKit

/-- a slice of bytes of the call's own became another one: nothing else changed -/
structure Grew (w : World) (B : Nat) (v : Value) (w' : World) (v' : Value) (l : List UInt8) : Prop where
  has : Has w' B v' l
  aside : Aside (fun k => v.ownBlock = some k) w w'
  fresh : ∀ k, v'.ownBlock = some k → v.ownBlock = some k ∨ w.heap.size ≤ k
theorem Grew.refl {w : World} {B : Nat} {v : Value} {l : List UInt8} (h : Has w B v l) : Grew w B v w v l := ⟨h, Aside.refl _ _, fun _ hk => .inl hk⟩
theorem Grew.trans {w w1 w2 : World} {B : Nat} {v v1 v2 : Value} {l1 l2 : List UInt8} (h : Grew w B v w1 v1 l1) (k : Grew w1 B v1 w2 v2 l2) : Grew w B v w2 v2 l2 := by
  have hs := h.aside.size
  refine ⟨k.has, h.aside.trans k.aside (fun i hi hc => ?_), fun i hi => ?_⟩
  · rcases h.fresh i hc with h1 | h1
    · exact h1
    · omega
  · rcases k.fresh i hi with h1 | h1
    · rcases h.fresh i h1 with h2 | h2
      · exact .inl h2
      · exact .inr h2
    · exact .inr (by omega)
theorem Grew.on {w w1 w2 : World} {B : Nat} {v v1 : Value} {l : List UInt8} (h : Grew w B v w1 v1 l) (hb : Below w1.heap.size w1 w2) : Grew w B v w2 v1 l :=
  ⟨h.has.on hb, h.aside.trans (aside_new hb (fun _ => False)) (fun _ _ hc => hc.elim), h.fresh⟩
/-- from an earlier world on, of which nothing was changed -/
theorem Grew.from {w w0 w1 : World} {B : Nat} {v v1 : Value} {l l0 : List UInt8} (h : Grew w0 B v w1 v1 l) (hb : Below w.heap.size w w0) (_ : Has w B v l0) : Grew w B v w1 v1 l := by
  have hs := hb.size
  refine ⟨h.has, (aside_new hb (fun k => v.ownBlock = some k)).trans h.aside (fun _ _ hc => hc), fun k hk => ?_⟩
  rcases h.fresh k hk with h1 | h1
  · exact .inl h1
  · exact .inr (by omega)
theorem Grew.low {w w1 : World} {B : Nat} {v v1 : Value} {l l0 : List UInt8} (h : Grew w B v w1 v1 l) (h0 : Has w B v l0) (hB : B ≤ w.heap.size) : Below B w w1 := aside_low h.aside h0 hB
/-- what an append of bytes answers -/
def GrewV (w : World) (B : Nat) (v : Value) (l : List UInt8) (e : Ending) (w' : World) : Prop := ∃ q cap, e = .returned (.slice q l.length cap) ∧ Grew w B v w' (.slice q l.length cap) l

set_option maxHeartbeats 1000000 in
theorem appendTextK (v : Value) (xs : List UInt8) (t : ByteArray) (B : Nat) (w : World) (hv : Has w B v xs) (hB : B ≤ w.heap.size) (hx : xs.length ≤ 1000000) (ht : t.size ≤ 1024) :
    Calls Tryz.prog 128 #[v, .string t] w (GrewV w B v (xs ++ (Leb.put t.size ++ t.data.toList))) := by
  have HP := Lib.hid (put_any t.size (by omega))
  have hlen := Leb.put_length_le t.size
  obtain ⟨l0, hl0⟩ : ∃ l0, l0 = Leb.put t.size := ⟨_, rfl⟩
  rw [← hl0] at HP hlen ⊢
  have hts : (t.size : Int) ≤ 1024 := by omega
  have HV := Lib.hid hv
  clear hl0 hv
  go_enter Tryz.func128, Tryz.ntmps128
  go_wp2_with fail
  refine (HP.out _).mono ?_
  rintro e w1 ⟨g, cap, rfl, hm, hb⟩
  have HM := Lib.hid hm
  have HV1 := Lib.hid (HV.out.on hb)
  have HG0 := Lib.hid ((Grew.refl HV.out).on hb)
  have hB1 : B ≤ w1.heap.size := Nat.le_trans hB hb.size
  clear hm hb HP
  go_wp2_with (first
    | (at_builtin; refine wp_ontoL (B := B) HV1.out HM.out.at (by omega) hB1 rfl rfl rfl rfl rfl ?_; intro ys q3 cap3 W HY hH3 ha3 hb3; have hlY : ys.length ≤ 1000010 := by (rw [HY.out, List.length_append]; omega)
       have HH3 := Lib.hid hH3
       have HG1 : Hid (Grew w B v W (.slice q3 ys.length cap3) ys) := HG0.out.trans ⟨hH3, ha3, hb3⟩
       have hBW : B ≤ W.heap.size := Nat.le_trans hB1 ha3.size
       clear hH3 ha3 hb3)
    | (at_builtin; refine wp_ontoS (B := B) (t := t) HH3.out (by omega) hBW rfl rfl rfl rfl rfl ?_; intro ys2 q4 cap4 W2 HY2 hH4 ha4 hb4
       have HG2 : Hid (Grew w B v W2 (.slice q4 ys2.length cap4) ys2) := HG1.out.trans ⟨hH4, ha4, hb4⟩
       clear hH4 ha4 hb4))
  go_ret
  rw [HY.out, List.append_assoc] at HY2
  rw [← HY2.out]
  exact ⟨q4, cap4, rfl, HG2.out⟩

theorem tyB_len4 {x : Ty} {d : Nat} (h : Ty.check d x = 0) : (Sch.tyB x).length ≤ 5 := by have := Sch.tyB_len x d h; omega
theorem one_atK (w : World) (z : Int) (c : UInt8) (hz : z = (c.toNat : Int)) : At (w.alloc (.cells #[.int .u8 z] 5)) (some ⟨w.heap.size, 0, none⟩) [c] := by
  obtain ⟨p, cc, he, hat, -⟩ := (has_lit (B := 0) (w := w) [c] (C := #[.int .u8 z]) (by rw [hz]; rfl) (Nat.zero_le _) (by simp)).at
  injection he with he
  rw [he]; exact hat
/-- one byte more, out of a block that was just made -/
theorem wp_pushG {B : Nat} {v : Value} {xs : List UInt8} {w : World} {H : Nat} (hH : w.heap.size = H) (hown : Has w B v xs) (c : UInt8) (hlen : xs.length + 1 ≤ 140737488355328) (hB : B ≤ w.heap.size)
    {z : Int} {ops : Array Oper} {rest : List Oper} {o : Oper} {a : Act} {Q : Exit → Act → World → Prop} {s x : Operand}
    (hz : z = (c.toNat : Int)) (ht : o.type = 22) (hg : o.guard = none) (hop : o.op = Op.call { callee := Callee.builtin Builtin.append, args := #[s, x], argTypes := #[22, 22] })
    (hs : a.eval s = v) (hx : a.eval x = .slice (some ⟨H, 0, none⟩) 1 1)
    (hK : ∀ q cap W ys, Hid (ys = xs ++ [c]) → Grew w B v W (.slice q ys.length cap) ys → wpList Tryz.prog ops Q rest (a.put o.dst (.slice q ys.length cap)) W) :
    wpList Tryz.prog ops Q (o :: rest) a (w.alloc (.cells #[.int .u8 z] 5)) := by
  subst hH
  have hb : Below w.heap.size w (w.alloc (.cells #[.int .u8 z] 5)) := (Below.refl _ _).alloc (Nat.le_refl _) _
  refine wp_ontoL (hown.alloc _) (one_atK w z c hz) (by simpa using hlen) (Nat.le_trans hB hb.size) ht hg hop hs hx ?_
  intro ys q cap W hy h1 h2 h3
  exact hK q cap W ys hy (Grew.from ⟨h1, h2, h3⟩ hb hown)

set_option maxRecDepth 100000 in
set_option maxHeartbeats 1000000 in
theorem appendTypeK : ∀ (x : Ty) (d : Nat) (w0 w : World) (u : Array Value) (v : Value) (xs : List UInt8), Ty.check d x = 0 → TLies w0 u x → Below w0.heap.size w0 w → Has w w0.heap.size v xs → xs.length + 5 * (5 - d) ≤ 1000000 → Calls Tryz.prog 129 #[v, .agg u] w (GrewV w w0.heap.size v (xs ++ Sch.tyB x)) := by
  intro x
  refine Ty.ind (P := fun x => ∀ (d : Nat) (w0 w : World) (u : Array Value) (v : Value) (xs : List UInt8), Ty.check d x = 0 → TLies w0 u x → Below w0.heap.size w0 w → Has w w0.heap.size v xs → xs.length + 5 * (5 - d) ≤ 1000000 → Calls Tryz.prog 129 #[v, .agg u] w (GrewV w w0.heap.size v (xs ++ Sch.tyB x))) ?_ x
  rintro k ts ih d w0 w u v xs hd hx hb0 hv hlen
  obtain ⟨p, c, rfl, hxl, hxc, hxi⟩ := hx.open
  unfold cells2
  have hBs := hb0.size
  have hB1 : Below w.heap.size w (w.alloc (.cells #[.int .i64 k, .slice p ts.length c] 61)) := (Below.refl _ _).alloc (Nat.le_refl _) _
  have HB1 := Lib.hid hB1
  have HB0 := Lib.hid hb0
  have HV := Lib.hid hv
  clear hB1 hx hb0 hv
  obtain ⟨hd4, hk, htt⟩ := Sch.ty_open hd
  obtain ⟨hk1, hk7⟩ := hk
  have hcn := Sch.kind_byte ⟨hk1, hk7⟩
  obtain ⟨c0, hc0⟩ : ∃ c0, c0 = UInt8.ofNat k.toNat := ⟨_, rfl⟩
  have hkz : k = (c0.toNat : Int) := by rw [hc0, hcn]; omega
  have HKz := Lib.hid hkz
  have HH1 := Lib.hid (HV.out.on HB1.out)
  have hB1s : w0.heap.size ≤ (w.alloc (.cells #[.int .i64 k, .slice p ts.length c] 61)).heap.size := Nat.le_trans hBs HB1.out.size
  have HT : Hid (Sch.tyB (.mk k ts) = [c0] ++ (ts.map Sch.tyB).flatten ∧ ts.length ≤ 1 ∧ ∀ y ∈ ts, Ty.check (d + 1) y = 0) := by
    show _ ∧ _ ∧ _
    rcases htt with ⟨h67, rfl⟩ | ⟨h67, y, rfl, hy⟩
    · exact ⟨by rw [Sch.tyB_mk, if_neg h67, hc0]; rfl, by simp, fun y hy => by cases hy⟩
    · refine ⟨by rw [Sch.tyB_mk, if_pos h67, hc0]; simp, by simp, fun z hz => ?_⟩
      rw [List.mem_singleton] at hz
      rw [hz]; exact hy
  have HX : Hid (∀ j (hj : j < ts.length), ∃ u', TLies w0 u' ts[j] ∧ ItemT w0 p j u') := hxi
  have HIH := Lib.hid ih
  have HAt : Hid (At ((w.alloc (.cells #[.int .i64 k, .slice p ts.length c] 61)).alloc (.cells #[.int .u8 k] 5)) (some ⟨w.heap.size + 1, 0, none⟩) [c0]) := by
    show At _ _ _
    have := one_atK (w.alloc (.cells #[.int .i64 k, .slice p ts.length c] 61)) k c0 HKz.out
    simpa using this
  clear ih hxi hd hkz hcn hc0 htt
  go_enter Tryz.func129, Tryz.ntmps129
  go_wp2_with (first
    | (at_builtin; refine wp_ontoL (B := w0.heap.size) (l := [c0]) (HH1.out.alloc _) HAt.out (by simp; omega) (Nat.le_trans hB1s (by simp)) rfl rfl rfl rfl rfl ?_
       intro ys q3 cap3 W HY hH3 ha3 hb3
       have HG1 : Hid (Grew w w0.heap.size v W (.slice q3 ys.length cap3) ys) := by
         refine Grew.from (w0 := (w.alloc (.cells #[.int .i64 k, .slice p ts.length c] 61)).alloc (.cells #[.int .u8 k] 5)) ⟨hH3, ha3, hb3⟩ ?_ HV.out
         exact HB1.out.alloc HB1.out.size _
       have c1 : W.cell? ⟨w.heap.size, 1, none⟩ = some (.slice p ts.length c) := by
         rw [ha3.cell (by simp; omega) (fun hc => by have := (HV.out.lt _ hc).2; simp at this)]
         simp
       clear hH3 ha3 hb3))
  have HY0 : Hid (ys = xs ++ ([c0] ++ ((ts.take 0).map Sch.tyB).flatten)) := by show _ = _; rw [HY.out]; simp
  clear HY HAt HH1 c1
  go_loopw [0, 16] (fun v0 v16 wr => ∃ (j : Nat) (zs : List UInt8) (q : Option Addr) (cap : Nat), j ≤ ts.length ∧ v16 = .int .i64 j ∧ v0 = .slice q zs.length cap ∧ Hid (zs = xs ++ ([c0] ++ ((ts.take j).map Sch.tyB).flatten) ∧ Grew w w0.heap.size v wr (.slice q zs.length cap) zs)) (fun _ v16 _ => ts.length - (intOf v16).toNat)
  case atStart => exact ⟨0, ys, q3, cap3, by omega, rfl, rfl, HY0.out, HG1.out⟩
  case round =>
    obtain ⟨j, zs, q, cap, hj, rfl, rfl, HL⟩ := hrel
    have hbr : Below w0.heap.size w0 wr := HB0.out.trans (HL.out.2.low HV.out hBs)
    by_cases hlt : j < ts.length
    · obtain ⟨ux, hvx, hix⟩ := HX.out j hlt
      obtain ⟨bx, ox, kx, qx, nx, cx, rfl, _, rfl, a0, a1⟩ := (hix.on hbr).lies
      have hj1 : (j : Int) < (ts.length : Int) := by omega
      have hj0 : j = 0 := by have := HT.out.2.1; omega
      have hz1 : zs.length = xs.length + 1 := by rw [HL.out.1, hj0]; simp
      obtain ⟨wa, hwa⟩ : ∃ wa, wa = wr.alloc (.cells #[.int .i64 kx, .slice qx nx cx] 61) := ⟨_, rfl⟩
      have HBa : Hid (Below wr.heap.size wr wa) := by rw [hwa]; exact (Below.refl _ _).alloc (Nat.le_refl _) _
      have HC := Lib.hid (HIH.out _ (List.getElem_mem hlt) (d + 1) w0 wa _ (.slice q zs.length cap) zs (HT.out.2.2 _ (List.getElem_mem hlt)) hvx (hbr.trans (HBa.out.mono hbr.size)) (HL.out.2.has.on HBa.out) (by omega))
      have HGa := Lib.hid (HL.out.2.on HBa.out)
      have HZ : Hid (zs ++ Sch.tyB ts[j] = xs ++ ([c0] ++ ((ts.take (j + 1)).map Sch.tyB).flatten)) := by
        show _ = _
        rw [HL.out.1, Sch.flatten_take Sch.tyB ts j hlt]
        simp
      obtain ⟨l2, hl2⟩ : ∃ l, l = zs ++ Sch.tyB ts[j] := ⟨_, rfl⟩
      rw [← hl2] at HC HZ
      unfold cells2 at HC
      have HWa := Lib.hid hwa
      clear hvx hix hbr HL hwa hl2 hj0 hz1
      go_wp2_with fail
      rw [← HWa.out]
      clear HWa a0 a1
      refine HC.out.mono ?_
      rintro e w2 ⟨q2, cap2, rfl, hg2⟩
      have HG2 := Lib.hid (HGa.out.trans hg2)
      clear hg2 HC HGa
      go_wp2
      go_roundw
      case rel => exact ⟨j + 1, l2, q2, cap2, by omega, by go_num, rfl, HZ.out, HG2.out⟩
      case measure => simp [intOf]; omega
    · have hjn : ¬ (j : Int) < (ts.length : Int) := by omega
      have HE : Hid (xs ++ Sch.tyB (.mk k ts) = zs) := by
        show _ = _
        rw [HL.out.1, HT.out.1, List.take_of_length_le (by omega)]
      have HG := Lib.hid HL.out.2
      clear HL hbr
      go_wp2
      go_ret
      rw [HE.out]
      exact ⟨q, cap, rfl, HG.out⟩

set_option maxRecDepth 100000 in
set_option maxHeartbeats 1000000 in
theorem appendFloatK (v : Value) (xs : List UInt8) (b : Nat) (hb64 : b < 18446744073709551616) (B : Nat) (w : World) (hv : Has w B v xs) (hB : B ≤ w.heap.size) (hx : xs.length ≤ 1000000) :
    Calls Tryz.prog 138 #[v, .float .f64 b] w (GrewV w B v (xs ++ Sch.le 8 (fixB b))) := by
  have hf := Sch.fixB_lt hb64
  have HBits := Lib.hid (realBits_any b)
  generalize fixB b = m at *
  have HS : Hid (Eight m [] m) := ⟨by simp, hf, rfl⟩
  have HV := Lib.hid hv
  obtain ⟨q0, cap0, rfl, -, -⟩ := hv.at
  clear hf hb64 hv
  go_enter Tryz.func138, Tryz.ntmps138
  go_wp2_with fail
  refine (HBits.out _).mono ?_
  rintro e w1 ⟨rfl, hw1⟩
  rw [hw1]
  clear hw1 w1
  go_wp2_with fail
  go_loopw [0, 5, 8] (fun v0 v5 v8 wr => ∃ (n : Nat) (es zs : List UInt8) (q : Option Addr) (cap : Nat), v0 = .slice q zs.length cap ∧ v5 = .int .u64 n ∧ v8 = .int .i64 es.length ∧ es.length ≤ 8 ∧ n < 18446744073709551616 ∧ Hid (Eight m es n ∧ zs = xs ++ es ∧ Grew w B (.slice q0 xs.length cap0) wr (.slice q zs.length cap) zs)) (fun _ _ v8 _ => 8 - (intOf v8).toNat)
  case atStart => exact ⟨m, [], xs, q0, cap0, rfl, rfl, rfl, by simp, HS.out.2.1, HS.out, by simp, Grew.refl HV.out⟩
  case round =>
    obtain ⟨z, es, zs, q, cap, rfl, rfl, rfl, h8, hz, HK⟩ := hrel
    have hBr : B ≤ wr.heap.size := Nat.le_trans hB HK.out.2.2.aside.size
    have HZl : Hid (zs.length = xs.length + es.length) := by show _ = _; rw [HK.out.2.1, List.length_append]
    by_cases hlt : es.length < 8
    · have hlt' : (es.length : Int) < 8 := by omega
      have HN := Lib.hid (eight_next HK.out.1 hlt)
      have hcn : (UInt8.ofNat (z % 256)).toNat = z % 256 := by rw [UInt8.toNat_ofNat']; omega
      generalize UInt8.ofNat (z % 256) = c1 at hcn HN
      have HO := Lib.hid HK.out.2.2.has
      go_wp2_with (first
        | (at_builtin; refine wp_pushG rfl HO.out c1 (by have := HZl.out; omega) hBr (by omega) rfl rfl rfl rfl rfl ?_
           intro q2 cap2 W ys HY hg2
           have HG2 := Lib.hid (HK.out.2.2.trans hg2)
           clear hg2))
      go_roundw
      case rel => exact ⟨z / 256, es ++ [c1], ys, q2, cap2, rfl, by go_num, by simp, by simp; omega, by omega, HN.out, by rw [HY.out, HK.out.2.1, List.append_assoc], HG2.out⟩
      case measure => simp [intOf]; omega
    · have hjn : ¬ (es.length : Int) < 8 := by omega
      have he : Sch.le 8 m = es := by
        rw [HK.out.1.2.2, show 8 - es.length = 0 by omega]
        simp [Sch.le]
      have HE : Hid (xs ++ Sch.le 8 m = zs) := by show _ = _; rw [he, HK.out.2.1]
      have HF := Lib.hid HK.out.2.2
      clear HK he
      go_wp2
      go_ret
      rw [HE.out]
      exact ⟨q, cap, rfl, HF.out⟩
end Go.Proofs.YtnlhpndjogjejaaGreatDoor

/- The landed schema: appendItems, appendValue. -/
namespace Go.Proofs.YtnlhpndjogjejaaGreatDoor
open Go.RowKit

attribute [local go_sem] run_store_float

/-- bytes put behind others; what is too long already need not grow on -/
structure PutV (xs full ys : List UInt8) : Prop where
  eq : ys = xs ++ full ∨ (1024 < ys.length ∧ 1024 < (xs ++ full).length)
  len : ys.length ≤ max xs.length 1024 + 1034
theorem PutV.all {xs full : List UInt8} (h : full.length ≤ 1034) : PutV xs full (xs ++ full) := ⟨.inl rfl, by rw [List.length_append]; omega⟩
/-- what such a call answers -/
def PutA (w : World) (B : Nat) (v : Value) (xs full : List UInt8) (e : Ending) (w' : World) : Prop := ∃ ys q cap, PutV xs full ys ∧ e = .returned (.slice q ys.length cap) ∧ Grew w B v w' (.slice q ys.length cap) ys
theorem putA_of {w w' : World} {B : Nat} {v : Value} {xs full : List UInt8} {e : Ending} (h : GrewV w B v (xs ++ full) e w') (hl : full.length ≤ 1034) : PutA w B v xs full e w' := by
  obtain ⟨q, cap, h1, h2⟩ := h
  exact ⟨_, q, cap, PutV.all hl, h1, h2⟩
/-- what was asked of the items -/
def ItemsOk (items : List V) : Prop := ∀ x ∈ items, ∀ (w0 w : World) (u : Array Value) (v : Value) (xs : List UInt8), VLies w0 u x → Below w0.heap.size w0 w → Has w w0.heap.size v xs → xs.length ≤ 100000 → Calls Tryz.prog 130 #[v, .agg u] w (PutA w w0.heap.size v xs (Sch.vB x))

set_option maxRecDepth 100000 in
set_option maxHeartbeats 1000000 in
theorem appendItemsK (items : List V) (hn : items.length ≤ 256) (ih : ItemsOk items) (p : Option Addr) (c : Nat) (w0 w : World) (v : Value) (xs : List UInt8) (hx : Items w0 p items) (hb0 : Below w0.heap.size w0 w) (hv : Has w w0.heap.size v xs) (hlen : xs.length ≤ 100000) :
    Calls Tryz.prog 139 #[v, .slice p items.length c] w (PutA w w0.heap.size v xs (Leb.put items.length ++ (items.map Sch.vB).flatten)) := by
  have HP := Lib.hid (put_any items.length (by omega))
  have hpl := Leb.put_length_le items.length
  obtain ⟨l0, hl0⟩ : ∃ l0, l0 = Leb.put items.length := ⟨_, rfl⟩
  rw [← hl0] at HP hpl ⊢
  have hn' : (items.length : Int) ≤ 256 := by omega
  have HV := Lib.hid hv
  have HX := Lib.hid hx
  have HIH := Lib.hid ih
  have HB0 := Lib.hid hb0
  have hBs := hb0.size
  obtain ⟨q0, cap0, rfl, -, -⟩ := hv.at
  clear hl0 hv hx ih hb0
  go_enter Tryz.func139, Tryz.ntmps139
  go_wp2_with fail
  refine (HP.out _).mono ?_
  rintro e w1 ⟨g, cap, rfl, hm, hb⟩
  have HM := Lib.hid hm
  have HV1 := Lib.hid (HV.out.on hb)
  have HG0 := Lib.hid ((Grew.refl HV.out).on hb)
  have hB1 : w0.heap.size ≤ w1.heap.size := Nat.le_trans hBs hb.size
  clear hm hb HP
  go_wp2_with (first
    | (at_builtin; refine wp_ontoL (B := w0.heap.size) HV1.out HM.out.at (by omega) hB1 rfl rfl rfl rfl rfl ?_; intro ys q3 cap3 W HY hH3 ha3 hb3
       have HG1 : Hid (Grew w w0.heap.size (.slice q0 xs.length cap0) W (.slice q3 ys.length cap3) ys) := HG0.out.trans ⟨hH3, ha3, hb3⟩
       clear hH3 ha3 hb3))
  have HY0 : Hid ((ys = xs ++ (l0 ++ ((items.take 0).map Sch.vB).flatten) ∨ (1024 < ys.length ∧ 1024 < (xs ++ (l0 ++ ((items.take 0).map Sch.vB).flatten)).length)) ∧ ys.length ≤ max xs.length 1024 + 1034) := by
    refine ⟨.inl ?_, ?_⟩
    · rw [HY.out]; simp
    · rw [HY.out, List.length_append]; omega
  clear HY HM HV1 HG0
  go_loopw [0, 15] (fun v0 v15 wr => ∃ (j : Nat) (zs : List UInt8) (q : Option Addr) (cap : Nat), j ≤ items.length ∧ v15 = .int .i64 j ∧ v0 = .slice q zs.length cap ∧ zs.length ≤ 200000 ∧ Hid (((zs = xs ++ (l0 ++ ((items.take j).map Sch.vB).flatten) ∨ (1024 < zs.length ∧ 1024 < (xs ++ (l0 ++ ((items.take j).map Sch.vB).flatten)).length)) ∧ zs.length ≤ max xs.length 1024 + 1034) ∧ Grew w w0.heap.size (.slice q0 xs.length cap0) wr (.slice q zs.length cap) zs)) (fun _ v15 _ => items.length - (intOf v15).toNat)
  case atStart => exact ⟨0, ys, q3, cap3, by omega, rfl, rfl, by have := HY0.out.2; omega, HY0.out, HG1.out⟩
  case round =>
    obtain ⟨j, zs, q, cap, hj, rfl, rfl, hzl, HL⟩ := hrel
    have hbr : Below w0.heap.size w0 wr := HB0.out.trans (HL.out.2.low HV.out hBs)
    by_cases hlt : j < items.length
    · obtain ⟨ux, hvx, hix⟩ := HX.out j hlt
      obtain ⟨bx, ox, kx, ix, fx, tx, qx, nx, cx, rfl, _, rfl, a0, a1, a2, a3, a4⟩ := (hix.on hbr).lies
      have hj1 : (j : Int) < (items.length : Int) := by omega
      obtain ⟨wa, hwa⟩ : ∃ wa, wa = wr.alloc (.cells #[.int .i64 kx, .int .i64 ix, .float .f64 fx, .string tx, .slice qx nx cx] 65) := ⟨_, rfl⟩
      have HBa : Hid (Below wr.heap.size wr wa) := by rw [hwa]; exact (Below.refl _ _).alloc (Nat.le_refl _) _
      have HAs : Hid (wa.cell? ⟨wr.heap.size, 0, none⟩ = some (.int .i64 kx) ∧ wa.cell? ⟨wr.heap.size, 1, none⟩ = some (.int .i64 ix) ∧ wa.cell? ⟨wr.heap.size, 2, none⟩ = some (.float .f64 fx) ∧ wa.cell? ⟨wr.heap.size, 3, none⟩ = some (.string tx) ∧ wa.cell? ⟨wr.heap.size, 4, none⟩ = some (.slice qx nx cx)) := by rw [hwa]; exact ⟨by simp, by simp, by simp, by simp, by simp⟩
      have HGa := Lib.hid (HL.out.2.on HBa.out)
      have HWa := Lib.hid hwa
      by_cases hbig : 1024 < zs.length
      · have gb : (1024 : Int) < (zs.length : Int) := by omega
        have HPv : Hid (PutV xs (l0 ++ (items.map Sch.vB).flatten) zs) := by
          refine ⟨.inr ⟨hbig, ?_⟩, HL.out.1.2⟩
          have h1 := Sch.flatten_take_le Sch.vB items j
          rw [List.length_append, List.length_append]
          rcases HL.out.1.1 with h2 | h2
          · rw [h2, List.length_append, List.length_append] at hbig
            omega
          · have h3 := h2.2
            rw [List.length_append, List.length_append] at h3
            omega
        clear hvx hix hbr HL hwa HAs hbig
        go_wp2
        go_ret
        rw [← HWa.out]
        exact ⟨zs, q, cap, HPv.out, rfl, HGa.out⟩
      · have gb : ¬ (1024 : Int) < (zs.length : Int) := by omega
        have HC := Lib.hid (HIH.out _ (List.getElem_mem hlt) w0 wa _ (.slice q zs.length cap) zs hvx (hbr.trans (HBa.out.mono hbr.size)) (HL.out.2.has.on HBa.out) (by omega))
        unfold cells5 at HC
        have HZ : Hid (zs = xs ++ (l0 ++ ((items.take j).map Sch.vB).flatten)) := by
          rcases HL.out.1.1 with h2 | h2
          · exact h2
          · exact absurd h2.1 hbig
        have HTk := Lib.hid (Sch.flatten_take Sch.vB items j hlt)
        have hzs : zs.length ≤ 1024 := by omega
        obtain ⟨full, hfull⟩ : ∃ l, l = Sch.vB items[j] := ⟨_, rfl⟩
        rw [← hfull] at HC HTk
        clear hvx hix hbr HL hwa hbig hfull
        go_wp2_with fail
        rw [← HWa.out]
        clear HWa a0 a1 a2 a3 a4 HAs
        refine HC.out.mono ?_
        rintro e w2 ⟨ys2, q2, cap2, hpv, rfl, hg2⟩
        have HG2 := Lib.hid (HGa.out.trans hg2)
        have HZ2 : Hid ((ys2 = xs ++ (l0 ++ ((items.take (j + 1)).map Sch.vB).flatten) ∨ (1024 < ys2.length ∧ 1024 < (xs ++ (l0 ++ ((items.take (j + 1)).map Sch.vB).flatten)).length)) ∧ ys2.length ≤ max xs.length 1024 + 1034) := by
          have e1 : xs ++ (l0 ++ ((items.take (j + 1)).map Sch.vB).flatten) = zs ++ full := by rw [HTk.out, HZ.out]; simp
          rw [e1]
          refine ⟨hpv.eq, ?_⟩
          have := hpv.len
          omega
        have hys : ys2.length ≤ 200000 := by have := HZ2.out.2; omega
        clear hg2 HC HGa hpv HTk HZ
        go_wp2
        go_roundw
        case rel => exact ⟨j + 1, ys2, q2, cap2, by omega, by go_num, rfl, hys, HZ2.out, HG2.out⟩
        case measure => simp [intOf]; omega
    · have hjn : ¬ (j : Int) < (items.length : Int) := by omega
      have HPv : Hid (PutV xs (l0 ++ (items.map Sch.vB).flatten) zs) := by
        have h1 := HL.out.1
        rw [List.take_of_length_le (by omega)] at h1
        exact ⟨h1.1, h1.2⟩
      have HG := Lib.hid HL.out.2
      clear HL hbr
      go_wp2
      go_ret
      exact ⟨zs, q, cap, HPv.out, rfl, HG.out⟩
end Go.Proofs.YtnlhpndjogjejaaGreatDoor
