/- L11C, W11E, L11D: put together. -/
import Derived.Test.YtpkbdnilakaakaaGreatM55
import Derived.Test.YtpkbdnilakaakaaGreatM42
import Derived.Test.YtpkbdnilakaakaaGreatM26
import Derived.Test.YtpkbdnilakaakaaGreatM46

/- BatchSizes: the walk. -/
namespace Go.Proofs.YtpkbdnilakaakaaGreat
open Go.RowKit

attribute [local go_sem] run_store_float

theorem Bt.pack_err (s : List Col) (l : List (List V)) : (Bt.pack s l).err = Bt.err s l := by
  unfold Bt.pack
  split
  · next h => rw [(Blk.pack_back (Bt.err_open h).2.2).1, h]
  · rfl
theorem Bt.pack_len (s : List Col) (l : List (List V)) : (Bt.err s l = 0 → 0 < (Bt.pack s l).out.length) ∧ (Bt.err s l ≠ 0 → (Bt.pack s l).out = []) ∧ (Bt.pack s l).out.length ≤ 2049 := by
  unfold Bt.pack
  split
  · next h =>
    have h2 := (Bt.err_open h).2.2
    have h3 := (Blk.pack_back h2).2.2
    exact ⟨fun _ => Bt.pack_pos _ h2, fun hc => absurd h hc, by omega⟩
  · next h => exact ⟨fun hc => absurd hc h, fun _ => rfl, by simp⟩

set_option maxRecDepth 100000 in
set_option maxHeartbeats 2000000 in
theorem sizes11 (HR : RowsIn) (s : List Col) (p : Option Addr) (c : Nat) (l : List (List V)) (q : Option Addr) (d : Nat) (w : World) (hS : SchL w p c s) (hL : RowsL w q d l) :
    Calls Tryz.prog 3 #[.agg #[.slice p s.length c], .slice q l.length d] w fun e w' => e = .returned (.bool true) ∧ Below w.heap.size w w' := by
  obtain ⟨W, hW⟩ : ∃ W, W = w.alloc (.cells #[.slice p s.length c] 24) := ⟨_, rfl⟩
  have hbW : Below w.heap.size w W := by rw [hW]; exact (Below.refl _ _).alloc (Nat.le_refl _) _
  have hblk : W.heap[w.heap.size]? = some (.cells #[.slice p s.length c] 24 (0, 0)) := by rw [hW]; exact blk_new w _
  have HZ := Lib.hid (sizeK HR s p c l q d W (hS.on hbW) (hL.on hbW))
  have HRf : Hid (∀ w', Below W.heap.size W w' → Calls Tryz.prog 8 #[.agg #[.slice p s.length c], .slice q l.length d] w' fun e w'' => e = .returned (.tuple #[.int .i64 ((Bt.out s l).length : Nat), .int .i64 (Bt.err s l : Nat)]) ∧ Below w'.heap.size w' w'') := fun w' hb => refSizeB s p c l q d w' ((hS.on hbW).on hb) ((hL.on hbW).on hb)
  have HPk : Hid (∀ w', Below W.heap.size W w' → Calls Tryz.prog 9 #[.agg #[.slice p s.length c], .slice q l.length d] w' (ResV w' (Bt.pack s l))) := fun w' hb => packBK HR s p c l q d w' ((hS.on hbW).on hb) ((hL.on hbW).on hb)
  have hpe := Bt.pack_err s l
  have hpl := Bt.pack_len s l
  obtain ⟨R, hR⟩ : ∃ R, R = Bt.err s l := ⟨_, rfl⟩
  obtain ⟨P, hP⟩ : ∃ P, P = Bt.pack s l := ⟨_, rfl⟩
  obtain ⟨m, hm⟩ : ∃ m, m = (Bt.out s l).length := ⟨_, rfl⟩
  rw [← hP] at HPk hpe hpl
  rw [← hR, ← hm] at HZ HRf
  rw [← hR] at hpe hpl
  have HPe := Lib.hid hpe
  have HPl := Lib.hid hpl
  have HB := Lib.hid hbW
  have HW := Lib.hid hW
  have HBlk := Lib.hid hblk
  have HRI := Lib.hid HR
  clear hpe hpl hR hP hm hbW hW hblk HR
  go_enter Tryz.func3, Tryz.ntmps3
  go_wp2_with fail
  rw [← HW.out]
  refine HZ.out.mono ?_
  rintro e w1 ⟨rfl, hb1⟩
  have n0 := boxed_cell (blk_on HBlk.out hb1 (blk_lt HBlk.out))
  have HB1 := Lib.hid hb1
  clear hb1 HZ
  go_wp2_with fail
  refine (HRf.out w1 HB1.out).mono ?_
  rintro e w2 ⟨rfl, hb2⟩
  have hb2' := HB1.out.trans (hb2.mono HB1.out.size)
  have n0 := boxed_cell (blk_on HBlk.out hb2' (blk_lt HBlk.out))
  have HB2 := Lib.hid hb2'
  clear hb2 hb2' HRf
  go_wp2_with fail
  refine (HPk.out w2 HB2.out).mono ?_
  rintro e w3 ⟨q3, m3, c3, rfl, hm3, -, hb3⟩
  subst hm3
  rw [HPe.out]
  have HB3 := Lib.hid (HB2.out.trans (hb3.mono HB2.out.size))
  clear hb3 HPk
  go_wp2_with fail
  refine (live11 HRI.out w3).mono ?_
  rintro e w4 ⟨rfl, hb4⟩
  have HBF := Lib.hid (HB.out.trans ((HB3.out.trans (hb4.mono HB3.out.size)).mono HB.out.size))
  clear hb4 n0
  by_cases h0 : R = 0
  · have g0 : ((R : Int) == 0) = true := by rw [h0]; rfl
    have g1 : 0 < P.out.length := HPl.out.1 h0
    have g2 : (0 : Int) < (P.out.length : Int) := by omega
    clear HPl h0
    go_wp2
    go_ret
    exact ⟨by simp, HBF.out⟩
  · have g0 : ((R : Int) == 0) = false := by rw [beq_eq_false_iff_ne]; omega
    have e1 : P.out = [] := HPl.out.2.1 h0
    rw [e1]
    clear HPl h0 e1
    go_wp2
    go_ret
    exact ⟨by simp, HBF.out⟩
end Go.Proofs.YtpkbdnilakaakaaGreat

/- The document's Unpack. -/
namespace Go.Proofs.YtpkbdnilakaakaaGreat
open Go.RowKit

attribute [local go_sem] run_store_float

/-- append of a row, in the walk -/
theorem wp_rowB {B : Nat} {v : Value} {ys : List (List V)} {w : World} (h : RowsB w B v ys) (hB : B ≤ w.heap.size) (y : List V) (q : Option Addr) (d ad : Nat) (hblk : w.heap[ad]? = some (.cells #[.slice q y.length d] 41 (0, 0))) (hn : ys.length ≤ 1000000)
    (hy : ROwn w (fun k => B ≤ k ∧ k < w.heap.size ∧ v.ownBlock ≠ some k) q d y)
    {ops : Array Oper} {rest : List Oper} {o : Oper} {a : Act} {Q : Exit → Act → World → Prop} {yy x : Operand}
    (ht : o.type = 25) (hg : o.guard = none) (hop : o.op = Op.call { callee := Callee.builtin Builtin.append, args := #[yy, x], argTypes := #[25, 25] })
    (hs : a.eval yy = v) (hx : a.eval x = .slice (some ⟨ad, 0, none⟩) 1 1)
    (hK : ∀ zs g cap W, Hid (zs = ys ++ [y]) → RowsB W B (.slice (some ⟨g, 0, none⟩) zs.length cap) zs → Aside (fun k => v.ownBlock = some k) w W → wpList Tryz.prog ops Q rest (a.put o.dst (.slice (some ⟨g, 0, none⟩) zs.length cap)) W) :
    wpList Tryz.prog ops Q (o :: rest) a w := by
  obtain ⟨g, cap, W, hr, hm, ha⟩ := rows_run h hB y q d ad hblk hn hy
  have hr' : AppRun Tryz.prog 25 25 o.type v (.slice (some ⟨ad, 0, none⟩) 1 1) w (.slice (some ⟨g, 0, none⟩) (ys ++ [y]).length cap) W := by rw [ht]; exact hr
  exact wpList_append_ran hr' hg hop hs hx (hK _ g cap W (Lib.hid rfl) hm ha)

set_option maxRecDepth 100000 in
set_option maxHeartbeats 4000000 in
theorem refUnpackB (s : List Col) (p : Option Addr) (c : Nat) (b : List UInt8) (q : Option Addr) (d : Nat) (n : Int) (w : World) (hS : SchL w p c s) (hbl : b.length ≤ 140737488351232) (hbd : b.length ≤ d) (hat : At w q b) :
    Calls Tryz.prog 11 #[.agg #[.slice p s.length c], .slice q b.length d, .int .i64 n] w (UnpA w (Bt.unpack s b n)) := by
  obtain ⟨W0, hW0⟩ : ∃ W0, W0 = w.alloc (.cells #[.slice p s.length c] 24) := ⟨_, rfl⟩
  have hb0 : Below w.heap.size w W0 := by rw [hW0]; exact (Below.refl _ _).alloc (Nat.le_refl _) _
  have hk0 : W0.heap[w.heap.size]? = some (.cells #[.slice p s.length c] 24 (0, 0)) := by rw [hW0]; exact blk_new w _
  have hS0 := hS.on hb0
  have HC := Lib.hid (refCheck7 s p c W0 hS0.len hS0.cap hS0.cols hS0.wf)
  obtain ⟨R, hR⟩ : ∃ R, R = Bt.unpack s b n := ⟨_, rfl⟩
  rw [← hR]
  unfold Bt.unpack Bt.numErr at hR
  obtain ⟨er, her⟩ : ∃ er, er = Sch.err s := ⟨_, rfl⟩
  rw [← her] at HC hR
  have HRR := Lib.hid hR
  have HB0 := Lib.hid hb0
  have HW := Lib.hid hW0
  have HK := Lib.hid hk0
  have HS := Lib.hid hS
  have HA := Lib.hid hat
  clear hb0 hW0 hR her hS0 hS hk0 hat
  go_enter Tryz.func11, Tryz.ntmps11
  go_wp2_with fail
  rw [← HW.out]
  refine HC.out.mono ?_
  rintro e w1 ⟨rfl, hb1⟩
  have HB1 := Lib.hid (HB0.out.trans (hb1.mono HB0.out.size))
  have HK1 := Lib.hid (blk_on HK.out hb1 (blk_lt HK.out))
  clear hb1 HC HW HK
  by_cases h0 : er ≠ 0
  · have g0 : ((er : Int) != 0) = true := bne_t (by omega)
    have HE : Hid (R = .error er) := by
      show _ = _
      rw [HRR.out]
      simp only [if_pos h0]
    clear HRR h0
    go_wp2
    go_ret2
    rw [HE.out]
    exact ⟨rfl, HB1.out⟩
  have g0 : ((er : Int) != 0) = false := bne_f (by omega)
  have HR1 := Lib.hid HRR.out
  simp only [if_neg h0] at HR1
  clear HRR h0
  by_cases h1 : n < 1
  · have HE : Hid (R = .error 4) := by
      show _ = _
      rw [HR1.out, if_pos h1, if_pos (by decide)]
    clear HR1
    go_wp2
    go_ret2
    rw [HE.out]
    exact ⟨rfl, HB1.out⟩
  simp only [if_neg h1] at HR1
  by_cases h2 : 64 < n
  · have HE : Hid (R = .error 3) := by
      show _ = _
      rw [HR1.out, if_pos h2, if_pos (by decide)]
    clear HR1
    go_wp2
    go_ret2
    rw [HE.out]
    exact ⟨rfl, HB1.out⟩
  simp only [if_neg h2] at HR1
  rw [if_neg (show ¬ (0 : Nat) ≠ 0 by simp)] at HR1
  obtain ⟨nn, hnn⟩ : ∃ nn : Nat, n = nn := ⟨n.toNat, by omega⟩
  subst hnn
  rw [Int.toNat_natCast] at HR1
  have hn64 : nn ≤ 64 := by omega
  have HU := Lib.hid (refUnpackK b q d w1 hbl hbd (HA.out.on HB1.out))
  have hul := (Blk.unpack_len b).1
  obtain ⟨U, hU⟩ : ∃ U, U = Blk.unpack b := ⟨_, rfl⟩
  rw [← hU] at HU HR1 hul
  clear hU
  go_wp2_with fail
  refine HU.out.mono ?_
  rintro e w2 ⟨q2, m2, c2, rfl, hm2, hh2, hb2⟩
  subst hm2
  have HB2 := Lib.hid (HB1.out.trans (hb2.mono HB1.out.size))
  have HK2 := Lib.hid (blk_on HK1.out hb2 (blk_lt HK1.out))
  have hcap2 := hh2.at
  obtain ⟨qx, cx, hex, hatx, hcx⟩ := hcap2
  injection hex with e1 _ e3
  subst e1 e3
  have HAt2 := Lib.hid hatx
  clear hb2 hh2 HU HK1 hatx
  by_cases h3 : U.err ≠ 0
  · have g1 : ((U.err : Int) != 0) = true := bne_t (by omega)
    have HE : Hid (R = .error U.err) := by show _ = _; rw [HR1.out, if_pos h3]
    clear HR1 h3
    go_wp2
    go_ret2
    rw [HE.out]
    exact ⟨rfl, HB2.out⟩
  have g1 : ((U.err : Int) != 0) = false := bne_f (by omega)
  have HR2 : Hid (R = Bt.whole s U.out nn) := by show _ = _; rw [HR1.out, if_neg h3]
  clear HR1 h3
  go_wp2
  go_loopw [11, 12, 13] (fun v11 v12 v13 wr => ∃ (i a : Nat) (ys : List (List V)) (q11 : Option Addr) (n11 c11 : Nat), i ≤ nn ∧ v13 = .int .i64 i ∧ v12 = .int .i64 a ∧ v11 = .slice q11 n11 c11 ∧ a ≤ U.out.length ∧ Hid (Bt.rows s U.out i 0 = .ok (ys, a) ∧ ys.length = i ∧ RowsB wr w2.heap.size (.slice q11 n11 c11) ys ∧ Below w2.heap.size w2 wr)) (fun _ _ v13 _ => nn - (intOf v13).toNat)
  case atStart => exact ⟨0, 0, [], none, 0, 0, by omega, rfl, rfl, rfl, by omega, rfl, rfl, rowsB_nil _ _, Below.refl _ _⟩
  case round =>
    obtain ⟨i, a, ys, q11, n11, c11, hi, rfl, rfl, rfl, ha, HQ⟩ := hrel
    have hbw := HB2.out.trans (HQ.out.2.2.2.mono HB2.out.size)
    have n0 := boxed_cell (blk_on HK2.out HQ.out.2.2.2 (blk_lt HK2.out))
    by_cases hlt : i < nn
    · have hlt' : (i : Int) < (nn : Int) := by omega
      have hS0 := HS.out.on hbw
      have hD := refDecode8 s p c U.out q2 c2 a (by omega) hcx wr hS0.len hS0.cap hS0.cols hS0.wf (HAt2.out.on HQ.out.2.2.2) (by omega) (by omega)
      have hsn := Bt.rows_snoc i 0 ys a HQ.out.1
      have HBw := Lib.hid hbw
      cases hrd : Rw.read s U.out a with
      | error er2 =>
        rw [hrd] at hD hsn
        have hne := Rw.read_err hrd
        have g2 : ((er2 : Int) != 0) = true := bne_t (by omega)
        have HE : Hid (R = .error er2) := by
          show _ = _
          have := Bt.rows_stop (i + 1) 0 er2 (nn - (i + 1)) hsn
          rw [show i + 1 + (nn - (i + 1)) = nn by omega] at this
          rw [HR2.out]
          unfold Bt.whole
          rw [this]
        have HD := Lib.hid hD
        clear hD hsn hS0 hrd hbw HR2 hne
        go_wp2_with fail
        refine HD.out.mono ?_
        rintro e w3 ⟨rfl, hb3⟩
        have HBF := Lib.hid (HBw.out.trans (hb3.mono HBw.out.size))
        clear hb3 HD
        go_wp2
        go_ret2
        rw [HE.out]
        exact ⟨rfl, HBF.out.alloc HBF.out.size _⟩
      | ok pr =>
        obtain ⟨y, k⟩ := pr
        rw [hrd] at hD hsn
        have hk := (Rw.read_ok hrd).2.2.2.1
        have HD := Lib.hid hD
        have HSn := Lib.hid hsn
        clear hD hsn hS0 hrd hbw
        go_wp2_with fail
        refine HD.out.mono ?_
        rintro e w3 ⟨q3, c3, rfl, hown, hb3⟩
        obtain ⟨w4, hw4⟩ : ∃ w4, w4 = (w3.alloc (.cells #[.slice q3 y.length c3] 41)).alloc (.cells #[.slice q3 y.length c3] 41) := ⟨_, rfl⟩
        obtain ⟨k0, k1, hb34, hs34⟩ := al2 w3 (.cells #[.slice q3 y.length c3] 41) (.cells #[.slice q3 y.length c3] 41)
        rw [← hw4] at k0 k1 hb34 hs34
        have hbr4 := hb3.trans (hb34.mono hb3.size)
        have HRB4 := Lib.hid (HQ.out.2.2.1.on hbr4)
        have HB24 := Lib.hid (HQ.out.2.2.2.trans (hbr4.mono HQ.out.2.2.2.size))
        have hB4 := HB24.out.size
        have hsr := HQ.out.2.2.2.size
        have HO4 : Hid (ROwn w4 (fun k => w2.heap.size ≤ k ∧ k < w4.heap.size ∧ (Value.slice q11 n11 c11).ownBlock ≠ some k) q3 c3 y) := by
          refine (hown.under hb34 (fun k hk => hk.2)).mono (fun k hk => ⟨by omega, by have := hb34.size; omega, fun hc => ?_⟩)
          have := (HQ.out.2.2.1.lt k hc).2
          omega
        have HK1 := Lib.hid k1
        have HW4 := Lib.hid hw4
        have hy6 : ys.length ≤ 1000000 := by rw [HQ.out.2.1]; omega
        clear hown hb3 hw4 k0 k1 hb34 hs34 hbr4 HD n0
        go_wp2_with (first
          | (at_builtin
             rw [← HW4.out]
             refine wp_rowB HRB4.out hB4 y q3 c3 _ HK1.out hy6 HO4.out rfl rfl rfl rfl rfl ?_
             intro zs g5 cap5 W5 HY hh5 ha5
             have HH5 := Lib.hid hh5
             have HB5 := Lib.hid (ha5.below hB4 (fun k hk hc => by have := (HRB4.out.lt k hc).1; omega))
             clear hh5 ha5)
          | fail)
        go_roundw
        case rel =>
          refine ⟨i + 1, k, ys ++ [y], some ⟨g5, 0, none⟩, zs.length, cap5, by omega, by go_num, rfl, rfl, hk, HSn.out, by simp [HQ.out.2.1], ?_, HB24.out.trans HB5.out⟩
          have := HH5.out
          rw [HY.out] at this ⊢
          exact this
        case measure => simp [intOf]; omega
    · have hie : i = nn := by omega
      subst hie
      have HBw := Lib.hid hbw
      obtain ⟨qf, cf, hef, hcf⟩ := HQ.out.2.2.1.form
      injection hef with f1 f2 f3
      subst f1 f2 f3
      by_cases hend : a < U.out.length
      · have g2 : ((a : Int) != (U.out.length : Int)) = true := bne_t (by omega)
        have HE : Hid (R = .error 5) := by
          show _ = _
          rw [HR2.out]
          unfold Bt.whole
          rw [HQ.out.1]
          exact if_pos hend
        clear HR2 n0 hbw
        go_wp2
        go_ret2
        rw [HE.out]
        exact ⟨rfl, HBw.out⟩
      · have g2 : ((a : Int) != (U.out.length : Int)) = false := bne_f (by omega)
        have HE : Hid (R = .ok ys) := by
          show _ = _
          rw [HR2.out]
          unfold Bt.whole
          rw [HQ.out.1]
          exact if_neg hend
        have hs2 := HB2.out.size
        clear HR2 n0 hbw
        go_wp2
        go_ret2
        rw [HE.out]
        exact ⟨q11, c11, rfl, HQ.out.2.2.1.lower hs2, HBw.out⟩
end Go.Proofs.YtpkbdnilakaakaaGreat

/- BatchPacks: the walk. -/
namespace Go.Proofs.YtpkbdnilakaakaaGreat
open Go.RowKit

attribute [local go_sem] run_store_float

theorem sameL_fix : ∀ xs : List V, V.sameL (xs.map V.fix) xs = true
  | [] => rfl
  | x :: r => by rw [List.map_cons, V.sameL_cons, same_fixed, sameL_fix r]; rfl
theorem Bt.unpack_wf {s : List Col} {b : List UInt8} {n : Int} {l : List (List V)} (h : Bt.unpack s b n = .ok l) : (∀ x ∈ l, ∀ v ∈ x, v.wf) ∧ l.length * 24 ≤ 140737488351232 ∧ (l.length : Int) = n := by
  obtain ⟨h0, h1, h2⟩ := Bt.unpack_open h
  obtain ⟨b1, _, _, _, b5⟩ := Bt.whole_ok h2
  have hn := Bt.numErr_open h0
  exact ⟨fun x hx v hv => (b5 x hx v hv).2, by omega, by omega⟩
theorem Bt.pack_raw {s : List Col} {l : List (List V)} (h : Bt.err s l = 0) : Blk.unpack (Bt.pack s l).out = ⟨0, Bt.bytes l⟩ := by
  unfold Bt.pack
  rw [if_pos h]
  exact (Blk.pack_back (Bt.err_open h).2.2).2.1
theorem RowsL.wf {w : World} {p : Option Addr} {c : Nat} {l : List (List V)} (h : RowsL w p c l) : ∀ x ∈ l, ∀ v ∈ x, v.wf := fun x hx v hv => by
  obtain ⟨j, hj, rfl⟩ := List.mem_iff_getElem.1 hx
  obtain ⟨_, _, _, _, _, _, _, hr⟩ := h.rows j hj
  exact hr.2 v hv

set_option maxRecDepth 100000 in
set_option maxHeartbeats 4000000 in
theorem packs11 (HR : RowsIn) (s : List Col) (p : Option Addr) (c : Nat) (l : List (List V)) (q : Option Addr) (d : Nat) (w : World) (hS : SchL w p c s) (hL : RowsL w q d l) :
    Calls Tryz.prog 4 #[.agg #[.slice p s.length c], .slice q l.length d] w fun e w' => e = .returned (.bool true) ∧ Below w.heap.size w w' := by
  have hwf := hL.wf
  obtain ⟨W, hW⟩ : ∃ W, W = w.alloc (.cells #[.slice p s.length c] 24) := ⟨_, rfl⟩
  have hbW : Below w.heap.size w W := by rw [hW]; exact (Below.refl _ _).alloc (Nat.le_refl _) _
  have hblk : W.heap[w.heap.size]? = some (.cells #[.slice p s.length c] 24 (0, 0)) := by rw [hW]; exact blk_new w _
  have hSW := hS.on hbW
  have hLW := hL.on hbW
  have HPk : Hid (∀ w', Below W.heap.size W w' → Calls Tryz.prog 9 #[.agg #[.slice p s.length c], .slice q l.length d] w' (ResV w' (Bt.pack s l))) := fun w' hb => packBK HR s p c l q d w' (hSW.on hb) (hLW.on hb)
  have HBy : Hid (∀ w', Below W.heap.size W w' → Calls Tryz.prog 12 #[.agg #[.slice p s.length c], .slice q l.length d] w' (Told w' (Bt.err s l) (Bt.out s l))) := fun w' hb => refBytesB s p c l q d w' (hSW.on hb) (hLW.on hb)
  have HSW := Lib.hid hSW
  have HLW := Lib.hid hLW
  have hpe := Bt.pack_err s l
  have hpl := Bt.pack_len s l
  have hgo : Bt.err s l = 0 → Bt.unpack s (Bt.pack s l).out l.length = .ok (l.map (fun x => x.map V.fix)) ∧ Blk.unpack (Bt.pack s l).out = ⟨0, Bt.bytes l⟩ ∧ Bt.out s l = Bt.bytes l ∧ (Bt.bytes l).length ≤ 2048 := fun h => ⟨(Bt.pack_unpack h hwf).2, Bt.pack_raw h, by unfold Bt.out; rw [if_pos h], (Bt.err_open h).2.2⟩
  obtain ⟨R, hR⟩ : ∃ R, R = Bt.err s l := ⟨_, rfl⟩
  obtain ⟨P, hP⟩ : ∃ P, P = Bt.pack s l := ⟨_, rfl⟩
  obtain ⟨O, hO⟩ : ∃ O, O = Bt.out s l := ⟨_, rfl⟩
  obtain ⟨bs, hbs⟩ : ∃ bs, bs = Bt.bytes l := ⟨_, rfl⟩
  rw [← hP] at HPk hpe hpl hgo
  rw [← hR, ← hO] at HBy
  rw [← hR] at hpe hpl
  rw [← hR, ← hO, ← hbs] at hgo
  have HPe := Lib.hid hpe
  have HPl := Lib.hid hpl
  have HGo := Lib.hid hgo
  have HB := Lib.hid hbW
  have HW := Lib.hid hW
  have HBlk := Lib.hid hblk
  have HRI := Lib.hid HR
  have hlen := hL.len
  clear hpe hpl hR hP hO hbs hgo hbW hW hblk HR hSW hLW hS hL hwf
  go_enter Tryz.func4, Tryz.ntmps4
  go_wp2_with fail
  rw [← HW.out]
  refine (HPk.out W (Below.refl _ _)).mono ?_
  rintro e w1 ⟨q1, m1, c1, rfl, hm1, hh1, hb1⟩
  subst hm1
  rw [HPe.out]
  have n0 := boxed_cell (blk_on HBlk.out hb1 (blk_lt HBlk.out))
  have HB1 := Lib.hid hb1
  have HH1 := Lib.hid hh1
  clear hb1 hh1
  go_wp2_with fail
  refine (HPk.out w1 HB1.out).mono ?_
  rintro e w2 ⟨q2, m2, c2, rfl, hm2, hh2, hb2⟩
  subst hm2
  rw [HPe.out]
  have hb2' := HB1.out.trans (hb2.mono HB1.out.size)
  have n0 := boxed_cell (blk_on HBlk.out hb2' (blk_lt HBlk.out))
  have HB2 := Lib.hid hb2'
  have HH12 := Lib.hid (HH1.out.on hb2)
  have HH2 := Lib.hid hh2
  clear hb2 hb2' hh2 HH1 HPk
  by_cases h0 : R = 0
  · have g0 : ((R : Int) != 0) = false := bne_f (by omega)
    have g1 : ((R : Int) == 0) = true := by rw [h0]; rfl
    obtain ⟨hU, hRaw, hOb, hb2k⟩ := HGo.out h0
    have hP9 := HPl.out.2.2
    obtain ⟨qa, ca, hea, hata, hca⟩ := HH12.out.at
    injection hea with e1 _ e3
    subst e1 e3
    have hU2 := refUnpackB s p c P.out q1 c1 l.length w2 (HSW.out.on HB2.out) (by omega) hca hata
    rw [hU] at hU2
    have HU2 := Lib.hid hU2
    have HWf := Lib.hid (Bt.unpack_wf hU)
    obtain ⟨l2, hl2⟩ : ∃ l2, l2 = l.map (fun x => x.map V.fix) := ⟨_, rfl⟩
    have HSm : Hid (l.length = l2.length ∧ ∀ j (h1 : j < l2.length) (h2 : j < l.length), V.sameL l2[j] l[j] = true) := by
      rw [hl2]
      exact ⟨by simp, fun j h1 h2 => by simp only [List.getElem_map]; exact sameL_fix _⟩
    rw [← hl2] at HU2 HWf
    have HRaw := Lib.hid hRaw
    clear hU2 hU hl2 hRaw HGo HPl h0 hata
    subst hOb
    go_wp2_with fail
    refine HU2.out.mono ?_
    rintro e w3 ⟨q3, c3, rfl, hr3, hb3⟩
    have HR3 := Lib.hid (hr3.rows HWf.out.2.1 HWf.out.1)
    have hb3' := HB2.out.trans (hb3.mono HB2.out.size)
    have n0 := boxed_cell (blk_on HBlk.out hb3' (blk_lt HBlk.out))
    have HB3 := Lib.hid hb3'
    have HB23 := Lib.hid hb3
    clear hr3 hb3 hb3' HU2
    go_wp2_with fail
    refine (HBy.out w3 HB3.out).mono ?_
    rintro e w4 ⟨q4, c4, rfl, hat4, hc4, hb4⟩
    have HAt4 := Lib.hid hat4
    have HB34 := Lib.hid hb4
    have HB24 := Lib.hid (HB23.out.trans (hb4.mono HB23.out.size))
    have hRw := unpackK P.out q1 c1 w4 (by omega) hca (HH12.out.on HB24.out).here
    rw [HRaw.out] at hRw
    have HRw := Lib.hid hRw
    clear hat4 hb4 hRw n0 HBy HRaw
    go_wp2_with fail
    refine HRw.out.mono ?_
    rintro e w5 ⟨q5, m5, c5, rfl, hm5, hh5, hb5⟩
    subst hm5
    have HH5 := Lib.hid hh5
    have HB45 := Lib.hid hb5
    clear hh5 hb5 HRw
    go_wp2_with fail
    refine (live11 HRI.out w5).mono ?_
    rintro e w6 ⟨rfl, hb6⟩
    have HB46 := Lib.hid (HB45.out.trans (hb6.mono HB45.out.size))
    have HB56 := Lib.hid hb6
    have HB26 := Lib.hid (HB24.out.trans (HB46.out.mono HB24.out.size))
    clear hb6
    have HSa := Lib.hid (same_any q1 q2 c1 c2 P.out P.out (by omega) w6 (HH12.out.on HB26.out).here (HH2.out.on HB26.out).here)
    rw [beq_self_eq_true] at HSa
    go_wp2_with fail
    refine HSa.out.mono ?_
    rintro e w7 ⟨rfl, n7, hw7⟩
    have hb67 : Below w6.heap.size w6 w7 := by rw [hw7]; exact below_drewN (Below.refl _ _) _
    have HB67 := Lib.hid hb67
    have HB37 := Lib.hid (HB34.out.trans ((HB46.out.trans (hb67.mono HB46.out.size)).mono HB34.out.size))
    have HBW7 := Lib.hid (HB3.out.trans (HB37.out.mono HB3.out.size))
    clear hb67 hw7 HSa
    have HAl := Lib.hid (alikeRowsK l2 l HSm.out.1 HSm.out.2 q3 q c3 d w7 (HR3.out.on HB37.out) (HLW.out.on HBW7.out))
    go_wp2_with fail
    refine HAl.out.mono ?_
    rintro e w8 ⟨rfl, hb8⟩
    have HB58 := Lib.hid (HB56.out.trans ((HB67.out.trans (hb8.mono HB67.out.size)).mono HB56.out.size))
    have HB48 := Lib.hid (HB45.out.trans (HB58.out.mono HB45.out.size))
    have HBW8 := Lib.hid (HBW7.out.trans (hb8.mono HBW7.out.size))
    clear hb8 HAl
    have HSb := Lib.hid (same_any q5 q4 c5 c4 O O (by omega) w8 (HH5.out.on HB58.out).here (HAt4.out.on HB48.out))
    rw [beq_self_eq_true] at HSb
    go_wp2_with fail
    refine HSb.out.mono ?_
    rintro e w9 ⟨rfl, n9, hw9⟩
    have HBF : Hid (Below w.heap.size w w9) := by
      rw [hw9]
      exact below_drewN (HB.out.trans (HBW8.out.mono HB.out.size)) _
    clear hw9 HSb
    go_wp2
    go_ret
    exact ⟨by simp, HBF.out⟩
  · have g0 : ((R : Int) != 0) = true := bne_t (by omega)
    have e1 : P.out = [] := HPl.out.2.1 h0
    rw [e1]
    clear HGo HPl h0 e1 n0
    go_wp2_with fail
    refine (live11 HRI.out w2).mono ?_
    rintro e w6 ⟨rfl, hb6⟩
    have HBF := Lib.hid (HB.out.trans ((HB2.out.trans (hb6.mono HB2.out.size)).mono HB.out.size))
    clear hb6
    go_wp2
    go_ret
    exact ⟨by simp, HBF.out⟩
end Go.Proofs.YtpkbdnilakaakaaGreat
