/- WDecR, SchemaC: put together. -/
import Derived.Test.YtnjggejallnkoabM21
import Derived.Test.YtnjggejallnkoabM17

/- The document's Decode. -/
namespace Go.Proofs.Ytnjggejallnkoab
open Go.RowKit

attribute [local go_sem] run_store_float

/-- what Decode answers: the schema in blocks of its own, or the error alone -/
def DecV (w : World) (r : Except Nat (List Col)) (e : Ending) (w' : World) : Prop := match r with
  | .error er => e = .returned (.tuple #[.agg #[.slice none 0 0], .int .i64 (er : Nat)]) ∧ Below w.heap.size w w'
  | .ok s => ∃ u, e = .returned (.tuple #[.agg u, .int .i64 0]) ∧ SOwn w' w.heap.size u s ∧ Below w.heap.size w w'

def shift (n : Nat) : Except Nat (List Col × Nat) → Except Nat (List Col × Nat)
  | .error e => .error e
  | .ok (s, k) => .ok (s, n + k)
def stepC (m : Nat) (s : List Col) (b : List UInt8) : Except Nat (Col × Nat) → Except Nat (List Col × Nat)
  | .error e => .error e
  | .ok (c, j) => shift j (Sch.rdCs m (s ++ [c]) (b.drop j))
theorem rdCs_succ (m : Nat) (s : List Col) (b : List UInt8) : Sch.rdCs (m + 1) s b = stepC m s b (Sch.rdC s b) := by
  rw [Sch.rdCs]
  cases Sch.rdC s b with
  | error e => rfl
  | ok p =>
    obtain ⟨c, j⟩ := p
    rw [stepC]
    dsimp only
    cases Sch.rdCs m (s ++ [c]) (b.drop j) with
    | error e => rfl
    | ok q => rfl
theorem shift_shift (n j : Nat) (r : Except Nat (List Col × Nat)) : shift n (shift j r) = shift (n + j) r := by
  cases r with
  | error e => rfl
  | ok p => simp [shift, Nat.add_assoc]
theorem rdC_err {s : List Col} {b : List UInt8} {e : Nat} (h : Sch.rdC s b = .error e) : e ≠ 0 := by
  rw [Sch.rdC] at h
  split at h
  · next e' he => injection h with h; rw [← h]; exact num_err he
  · split at h
    · injection h with h; omega
    · split at h
      · next e' he => injection h with h; rw [← h]; exact text_err (by decide) he
      · split at h
        · injection h with h; omega
        · split at h
          · injection h with h; omega
          · split at h
            · next e' he => injection h with h; rw [← h]; exact rdT_err 4 _ _ he
            · next t j2 ht =>
              split at h
              · next e' he => injection h with h; rw [← h]; exact bit_err he
              · split at h
                · cases h
                · split at h
                  · next e' he =>
                    injection h with h
                    rw [← h]
                    exact rdV_err t 1 _ _ (Sch.rdT_ok 4 _ _ _ (by omega) ht).2.2.1 he
                  · cases h

/-- while columns are read: the answer's place stands in the first block -/
structure MakingS (w : World) (s : List Col) (v : Value) (wr : World) : Prop where
  built : ∃ us Fs, CBuilt wr (w.heap.size + 1) v s.length us Fs s
  b0 : wr.heap[w.heap.size]? = some (.cells #[.slice none 0 0] 24 (0, 0))
  below : Below w.heap.size w wr
  size : w.heap.size + 1 ≤ wr.heap.size
theorem makingS_start (w : World) : MakingS w [] (.slice none 0 0) (w.alloc (.cells #[.slice none 0 0] 24)) :=
  ⟨⟨_, _, cbuilt_nil _ _⟩, blk_new w _, (Below.refl _ w).alloc (Nat.le_refl _) _, by simp⟩
theorem MakingS.next {w wr w2 w3 w4 : World} {s : List Col} {v : Value} {u : Array Value} {F : Nat → Prop} {g cap : Nat} {us : Nat → Array Value} {Fs : Nat → Nat → Prop} {y : Col} (h : MakingS w s v wr) (hbt : CBuilt wr (w.heap.size + 1) v s.length us Fs s) (hb : Below wr.heap.size wr w2) (hx : COwn w2 F u y)
    (hF : ∀ k, F k → wr.heap.size ≤ k ∧ k < w2.heap.size) (hb3 : Below w2.heap.size w2 w3)
    (hr : w4.ownsRow (w.heap.size + 1) 48 9 (.slice (some ⟨g, 0, none⟩) (s.length + 1) cap) (s.length + 1) (flat us s.length ++ u.toList)) (hg : w3.grownBy w4 v.ownBlock) (hn : v.ownBlock = some g ∨ g = w3.heap.size) :
    MakingS w (s ++ [y]) (.slice (some ⟨g, 0, none⟩) (s.length + 1) cap) w4 := by
  have hs := h.size
  have hs2 := hb.size
  have hs3 := hb3.size
  have hst := hbt.step hb hx hF hb3 hs hr hg hn
  have hb4 : Below w.heap.size w w4 := ((h.below.trans (hb.mono (by omega))).trans (hb3.mono (by omega))).grown hg (by omega) (fun k hk => by have := (hbt.lt k hk).1; omega)
  refine ⟨⟨(fun n => if n = s.length then u else us n), (fun n => if n = s.length then F else Fs n), ?_⟩, ?_, hb4, ?_⟩
  · rw [List.length_append, List.length_singleton]
    exact hst
  · rw [hg.block _ (by omega) (fun hc => by have := (hbt.lt _ hc.symm).1; omega), hb3.block _ (by omega), hb.block _ (by omega)]
    exact h.b0
  · have := hg.size
    omega

set_option maxRecDepth 100000 in
set_option maxHeartbeats 4000000 in
theorem refDecode7 (p : Option Addr) (l : List UInt8) (c : Nat) (hl : l.length ≤ 140737488351232) (hlc : l.length ≤ c) (w : World) (hat : At w p l) :
    Calls Try.prog 14 #[.slice p l.length c] w (DecV w (Sch.read l)) := by
  obtain ⟨R, hR⟩ : ∃ R, R = Sch.read l := ⟨_, rfl⟩
  have HRd : Hid (R = Sch.read l) := hR
  rw [← hR]
  clear hR
  have HB : Hid (∀ o, Below w.heap.size w (w.alloc o)) := fun o => (Below.refl _ _).alloc (Nat.le_refl _) _
  have HA := Lib.hid hat
  clear hat
  by_cases h1 : 1024 < l.length
  · have g1 : (1024 : Int) < (l.length : Int) := by omega
    have HE : Hid (R = .error 2) := by show _ = _; rw [HRd.out, Sch.read, if_pos h1]
    clear HRd h1
    go_enter Try.func14, Try.ntmps14
    go_wp2
    refine bodyPost_ret (results_row2 rfl _ _ w.heap.size _ _ _ _ rfl (blk_new w _) Try.underlying24 rfl (by kernel_rfl)) rfl ?_
    rw [HE.out]
    exact ⟨rfl, HB.out _⟩
  have g1 : ¬ (1024 : Int) < (l.length : Int) := by omega
  have HG := Lib.hid (refNum7 p c l 0 hl (w.alloc (.cells #[.slice none 0 0] 24)) (HA.out.on (HB.out _)))
  rw [List.drop_zero] at HG
  cases hn : Sch.num l with
  | error er =>
    have her := num_err hn
    have g0 : ((er : Int) != 0) = true := by rw [bne_iff_ne]; omega
    have HE : Hid (R = .error er) := by show _ = _; rw [HRd.out, Sch.read, if_neg h1, hn]
    rw [hn] at HG
    simp only [numV] at HG
    clear hn HRd her h1
    go_enter Try.func14, Try.ntmps14
    go_wp2_with fail
    refine HG.out.mono ?_
    rintro e w1 ⟨rfl, hw⟩
    rw [hw]
    clear hw w1 HG
    go_wp2
    refine bodyPost_ret (results_row2 rfl _ _ w.heap.size _ _ _ _ rfl (blk_new w _) Try.underlying24 rfl (by kernel_rfl)) rfl ?_
    rw [HE.out]
    exact ⟨rfl, HB.out _⟩
  | ok nk =>
    obtain ⟨m, kk⟩ := nk
    have hno := Sch.num_ok hn
    have hkl : kk ≤ l.length := by
      obtain ⟨-, r, hr, hk2⟩ := hno
      have := congrArg List.length hr
      rw [List.length_append] at this
      omega
    have hm64 := hno.1
    have HRd1 : Hid (R = if m = 0 then .error 4 else if 16 < m then .error 3 else match Sch.rdCs m [] (l.drop kk) with
      | .error e => .error e
      | .ok (l_1, j) => if kk + j = l.length then .ok l_1 else .error 5) := by show _ = _; rw [HRd.out, Sch.read, if_neg h1, hn]; rfl
    rw [hn] at HG
    simp only [numV, Nat.zero_add] at HG
    clear hn HRd hno h1
    go_enter Try.func14, Try.ntmps14
    go_wp2_with fail
    refine HG.out.mono ?_
    rintro e w1 ⟨rfl, hw⟩
    rw [hw]
    clear hw w1 HG
    by_cases h0 : m = 0
    · have g0 : ((m : Int) == 0) = true := beq_t (by omega)
      have HE : Hid (R = .error 4) := by show _ = _; rw [HRd1.out, if_pos h0]
      clear HRd1 h0
      go_wp2
      refine bodyPost_ret (results_row2 rfl _ _ w.heap.size _ _ _ _ rfl (blk_new w _) Try.underlying24 rfl (by kernel_rfl)) rfl ?_
      rw [HE.out]
      exact ⟨rfl, HB.out _⟩
    have g0 : ((m : Int) == 0) = false := beq_f (by omega)
    by_cases h16 : 16 < m
    · have g16 : (16 : Int) < (m : Int) := by omega
      have HE : Hid (R = .error 3) := by show _ = _; rw [HRd1.out, if_neg h0, if_pos h16]
      clear HRd1 h0 h16
      go_wp2
      refine bodyPost_ret (results_row2 rfl _ _ w.heap.size _ _ _ _ rfl (blk_new w _) Try.underlying24 rfl (by kernel_rfl)) rfl ?_
      rw [HE.out]
      exact ⟨rfl, HB.out _⟩
    have g16 : ¬ (16 : Int) < (m : Int) := by omega
    have hm16 : m ≤ 16 := by omega
    have HRd2 : Hid (R = match Sch.rdCs m [] (l.drop kk) with
      | .error e => .error e
      | .ok (l_1, j) => if kk + j = l.length then .ok l_1 else .error 5) := by show _ = _; rw [HRd1.out, if_neg h0, if_neg h16]
    clear HRd1 h0 h16
    go_wp2_with fail
    go_loopw [5, 7, 8] (fun v5 v7 v8 wr => ∃ (s : List Col) (n : Nat) (q : Option Addr) (d : Nat), s.length ≤ m ∧ v5 = .int .i64 ((kk : Int) + (n : Int)) ∧ v7 = .slice q s.length d ∧ v8 = .int .i64 s.length ∧ kk + n ≤ l.length ∧ Hid (MakingS w s (.slice q s.length d) wr ∧ Sch.rdCs m [] (l.drop kk) = shift n (Sch.rdCs (m - s.length) s (l.drop (kk + n))))) (fun _ _ v8 _ => m - (intOf v8).toNat)
    case atStart =>
      refine ⟨[], 0, none, 0, by simp, by go_num, rfl, rfl, hkl, makingS_start w, ?_⟩
      rw [List.length_nil, Nat.sub_zero, Nat.add_zero]
      cases Sch.rdCs m [] (l.drop kk) with
      | error e => rfl
      | ok q => simp [shift]
    case round =>
      obtain ⟨s, n, q, d, hsm, rfl, rfl, rfl, hnl, HK⟩ := hrel
      have HM := Lib.hid HK.out.1
      have HG2 := Lib.hid HK.out.2
      by_cases hlt : s.length < m
      · have hlt' : (s.length : Int) < (m : Int) := by omega
        obtain ⟨us, Fs, hbt⟩ := HM.out.built
        obtain ⟨pv, cv, hev, hcv, hcols⟩ := hbt.cols (by omega)
        injection hev with e1 e2 e3
        subst e1 e3
        have hrc := refReadColumn7 s q d p l c hl hlc (kk + n) wr (by omega) hnl hcols (HA.out.on HM.out.below)
        rw [show ((kk + n : Nat) : Int) = (kk : Int) + (n : Int) by omega] at hrc
        obtain ⟨C, hC⟩ : ∃ C, C = Sch.rdC s (l.drop (kk + n)) := ⟨_, rfl⟩
        have HCr := Lib.hid hC
        rw [← hC] at hrc
        have HRc := Lib.hid hrc
        have HSt : Hid (Sch.rdCs m [] (l.drop kk) = shift n (stepC (m - (s.length + 1)) s (l.drop (kk + n)) C)) := by
          show _ = _
          rw [HG2.out, show m - s.length = (m - (s.length + 1)) + 1 by omega, rdCs_succ, ← hC]
        have HBt := Lib.hid hbt
        clear hC HK hrc hbt hcols hcv
        go_wp2_with fail
        refine HRc.out.mono ?_
        intro e w2 hr
        cases C with
        | error er =>
          obtain ⟨rfl, hb2⟩ := hr
          have her := rdC_err HCr.out.symm
          have g2 : ((er : Int) != 0) = true := by rw [bne_iff_ne]; omega
          have HE : Hid (R = .error er) := by show _ = _; rw [HRd2.out, HSt.out]; rfl
          have hsz := HM.out.size
          have hs2 := hb2.size
          obtain ⟨w3, hw3⟩ : ∃ w3, w3 = w2.alloc (.cells #[.string ⟨#[]⟩, .int .i64 0, .slice none 0 0, .bool false, .int .i64 0, .int .i64 0, .float .f64 0, .string ⟨#[]⟩, .slice none 0 0] 48) := ⟨_, rfl⟩
          have hb3 : Below wr.heap.size wr w3 := by rw [hw3]; exact hb2.alloc hb2.size _
          have hz0 : w3.heap[w.heap.size]? = some (.cells #[.slice none 0 0] 24 (0, 0)) := (hb3.block _ (by omega)).trans HM.out.b0
          have r0 : w3.cell? ⟨w.heap.size, 0, none⟩ = some (.slice none 0 0) := blk_cell hz0 0
          have rf0 := blk_free hz0 0
          have HBf : Hid (Below w.heap.size w (w3.setCell ⟨w.heap.size, 0, none⟩ (.slice none 0 0))) := (HM.out.below.trans (hb3.mono (by omega))).setCell (Nat.le_refl _) _
          have HZf : Hid ((w3.setCell ⟨w.heap.size, 0, none⟩ (.slice none 0 0)).heap[w.heap.size]? = some (.cells #[.slice none 0 0] 24 (0, 0))) := blk_set hz0 0 _
          have HW3 := Lib.hid hw3
          rw [hw3] at r0 rf0
          unfold cells9
          clear hz0 hb3 hb2 hw3 HRc HSt HG2 HM HRd2 her hs2
          go_wp2
          rw [← HW3.out]
          refine bodyPost_ret (results_row2 rfl _ _ w.heap.size _ _ _ _ rfl HZf.out Try.underlying24 rfl (by kernel_rfl)) rfl ?_
          rw [HE.out]
          exact ⟨rfl, HBf.out⟩
        | ok ck =>
          obtain ⟨y, kj⟩ := ck
          obtain ⟨u', rfl, hv, hb2⟩ := hr
          obtain ⟨F1, F2, k', tp, tn, tc, vk, vi, vb, vt, vp, vn, vc, hu, -⟩ := hv.out
          have hkj : kj ≤ l.length - (kk + n) := by
            obtain ⟨h1, ⟨r, h2⟩, -⟩ := Sch.rdC_ok HCr.out.symm
            have hq := congrArg List.length h2
            rw [List.length_drop, List.length_append] at hq
            omega
          have HV := Lib.hid hv
          have HB2w := Lib.hid hb2
          have hsz : w.heap.size + 1 ≤ w2.heap.size := Nat.le_trans HM.out.size hb2.size
          have HSt2 : Hid (Sch.rdCs m [] (l.drop kk) = shift (n + kj) (Sch.rdCs (m - (s ++ [y]).length) (s ++ [y]) (l.drop (kk + (n + kj))))) := by
            show _ = _
            rw [HSt.out, stepC, shift_shift, List.length_append, List.length_singleton, List.drop_drop, Nat.add_assoc kk]
          obtain ⟨nm, hs7⟩ : ∃ nm, nm = y.name := ⟨_, rfl⟩
          obtain ⟨hh, hs8⟩ : ∃ hh, hh = y.has := ⟨_, rfl⟩
          rw [← hs7, ← hs8] at hu
          rw [hu] at HV
          subst hu
          rw [show ((kk + n + kj : Nat) : Int) = (kk : Int) + (n : Int) + (kj : Int) by omega]
          clear hv hb2 HRc HSt HG2 hs7 hs8 HCr
          unfold cells9 at HV ⊢
          have HB3 : Hid (Below w2.heap.size w2 ((w2.alloc (.cells #[.string nm, .int .i64 k', .slice tp tn tc, .bool hh, .int .i64 vk, .int .i64 vi, .float .f64 vb, .string vt, .slice vp vn vc] 48)).alloc (.cells #[.string nm, .int .i64 k', .slice tp tn tc, .bool hh, .int .i64 vk, .int .i64 vi, .float .f64 vb, .string vt, .slice vp vn vc] 48))) := ((Below.refl _ _).alloc (Nat.le_refl _) _).alloc (by simp) _
          go_wp2_with (at_builtin; refine wp_moreC (B := w.heap.size + 1) (us := us) ((HBt.out.on HB2w.out).on HB3.out).row (u := #[.string nm, .int .i64 k', .slice tp tn tc, .bool hh, .int .i64 vk, .int .i64 vi, .float .f64 vb, .string vt, .slice vp vn vc]) rfl HV.out.one9 (ad := w2.heap.size + 1) (blk_second w2 _ _) (by omega) (by simp; omega) rfl rfl rfl rfl rfl ?_
                       intro g2 cap2 w4 hr4 hg4 hn4
                       have HMK := Lib.hid (HM.out.next HBt.out HB2w.out HV.out (fun _ h => h) HB3.out hr4 hg4 hn4)
                       clear hr4 hg4 hn4)
          go_roundw
          case rel => exact ⟨s ++ [y], n + kj, some ⟨g2, 0, none⟩, cap2, by simp; omega, by go_num, by simp, by simp, by omega, ⟨by simpa using HMK.out, HSt2.out⟩⟩
          case measure => simp [intOf]; omega
      · have hjn : ¬ (s.length : Int) < (m : Int) := by omega
        have hsm2 : s.length = m := by omega
        have HRd3 : Hid (R = if kk + n = l.length then .ok s else .error 5) := by
          show _ = _
          rw [HRd2.out, HG2.out, hsm2, Nat.sub_self]
          simp [Sch.rdCs, shift]
        clear hsm2
        have hz0 := HM.out.b0
        have r0 : wr.cell? ⟨w.heap.size, 0, none⟩ = some (.slice none 0 0) := blk_cell hz0 0
        have rf0 := blk_free hz0 0
        by_cases hfin : kk + n = l.length
        · have gf : ((kk : Int) + (n : Int) != (l.length : Int)) = false := bne_f (by omega)
          have HE : Hid (R = .ok s) := by show _ = _; rw [HRd3.out, if_pos hfin]
          have HZf : Hid ((wr.setCell ⟨w.heap.size, 0, none⟩ (.slice q s.length d)).heap[w.heap.size]? = some (.cells #[.slice q s.length d] 24 (0, 0))) := blk_set hz0 0 _
          have HBf : Hid (Below w.heap.size w (wr.setCell ⟨w.heap.size, 0, none⟩ (.slice q s.length d))) := HM.out.below.setCell (Nat.le_refl _) _
          have HOf : Hid (SOwn (wr.setCell ⟨w.heap.size, 0, none⟩ (.slice q s.length d)) w.heap.size #[.slice q s.length d] s) := by
            obtain ⟨us, Fs, hbt⟩ := HM.out.built
            exact ⟨_, us, Fs, rfl, (hbt.set ⟨w.heap.size, 0, none⟩ _ (by show w.heap.size < _; omega)).low (by omega), by omega⟩
          clear hz0 HK HG2 HRd2 HRd3 hfin
          go_wp2
          refine bodyPost_ret (results_row2 rfl _ _ w.heap.size _ _ _ _ rfl HZf.out Try.underlying24 rfl (by kernel_rfl)) rfl ?_
          rw [HE.out]
          exact ⟨_, rfl, HOf.out, HBf.out⟩
        · have gf : ((kk : Int) + (n : Int) != (l.length : Int)) = true := bne_t (by omega)
          have HE : Hid (R = .error 5) := by show _ = _; rw [HRd3.out, if_neg hfin]
          have HZf : Hid ((wr.setCell ⟨w.heap.size, 0, none⟩ (.slice none 0 0)).heap[w.heap.size]? = some (.cells #[.slice none 0 0] 24 (0, 0))) := blk_set hz0 0 _
          have HBf : Hid (Below w.heap.size w (wr.setCell ⟨w.heap.size, 0, none⟩ (.slice none 0 0))) := HM.out.below.setCell (Nat.le_refl _) _
          clear hz0 HK HG2 HRd2 HRd3 hfin
          go_wp2
          refine bodyPost_ret (results_row2 rfl _ _ w.heap.size _ _ _ _ rfl HZf.out Try.underlying24 rfl (by kernel_rfl)) rfl ?_
          rw [HE.out]
          exact ⟨rfl, HBf.out⟩
end Go.Proofs.Ytnjggejallnkoab

/- What the laws ask of package schema's functions. -/
namespace Go.Proofs.Ytnjggejallnkoab
open Go.RowKit

/-- what package schema's functions answer, in every world of which I holds -/
structure SchemaOk (I : World → Prop) : Prop where
  on : ∀ {w w' : World}, I w → Below w.heap.size w w' → I w'
  check : ∀ (s : List Col) (p : Option Addr) (c : Nat) (w : World), s.length * 120 ≤ 140737488351232 → s.length ≤ c → Cols w p s → (∀ x ∈ s, x.wf) → I w → Calls Try.prog 16 #[.agg #[.slice p s.length c]] w fun e w' => e = .returned (.int .i64 (Sch.err s : Nat)) ∧ Below w.heap.size w w'
  checkType : ∀ (x : Ty) (u : Array Value) (w : World), TLies w u x → x.wf → I w → Calls Try.prog 36 #[.agg u] w fun e w' => e = .returned (.int .i64 (Ty.check 1 x : Nat)) ∧ Below w.heap.size w w'
  name : ∀ (t : ByteArray) (w : World), t.size ≤ 140737488351232 → I w → Calls Try.prog 35 #[.string t] w fun e w' => e = .returned (.bool (Sch.name t)) ∧ Below w.heap.size w w'
  same : ∀ (s t : List Col) (p q : Option Addr) (c d : Nat) (w : World), s.length * 120 ≤ 140737488351232 → t.length * 120 ≤ 140737488351232 → s.length ≤ c → t.length ≤ d → Cols w p s → Cols w q t → (∀ x ∈ s, x.wf) → (∀ x ∈ t, x.wf) → I w → Calls Try.prog 17 #[.agg #[.slice p s.length c], .agg #[.slice q t.length d]] w fun e w' => e = .returned (.bool (Sch.same s t)) ∧ Below w.heap.size w w'
  sameType : ∀ (x y : Ty) (u v : Array Value) (w : World), TLies w u x → TLies w v y → x.wf → y.wf → I w → Calls Try.prog 57 #[.agg u, .agg v] w fun e w' => e = .returned (.bool (Ty.same x y)) ∧ Below w.heap.size w w'
  encode : ∀ (s : List Col) (p : Option Addr) (c : Nat) (w : World), s.length * 120 ≤ 140737488351232 → s.length ≤ c → Cols w p s → (∀ x ∈ s, x.wf) → I w → Calls Try.prog 8 #[.agg #[.slice p s.length c]] w fun e w' =>
    ∃ q cap, e = .returned (.tuple #[.slice q (if Sch.err s = 0 then Sch.bytes s else []).length cap, .int .i64 (Sch.err s : Nat)]) ∧ At w' q (if Sch.err s = 0 then Sch.bytes s else []) ∧ (if Sch.err s = 0 then Sch.bytes s else []).length ≤ cap ∧ Below w.heap.size w w'
  decode : ∀ (p : Option Addr) (l : List UInt8) (c : Nat) (w : World), l.length ≤ 140737488351232 → l.length ≤ c → At w p l → I w → Calls Try.prog 13 #[.slice p l.length c] w (DecV w (Sch.read l))
  find : ∀ (s : List Col) (t : ByteArray) (p : Option Addr) (c : Nat) (w : World), s.length * 120 ≤ 140737488351232 → s.length ≤ c → t.size ≤ 140737488351232 → Cols w p s → (∀ x ∈ s, x.wf) → I w → Calls Try.prog 26 #[.agg #[.slice p s.length c], .string t] w fun e w' => e = .returned (foundV (Sch.find t s 0)) ∧ Below w.heap.size w w'

end Go.Proofs.Ytnjggejallnkoab
