/- The landed frame's reader: the fields of a data frame. -/
import Derived.Test.YtclhbhhlddbocaaGreatDoorK12I
namespace Go.Proofs.YtclhbhhlddbocaaGreatDoor
open Go.RowKit

theorem nbs4 (a b c d : Nat) (l : List UInt8) : Fr.nbs [a, b, c, d] l = thenR (Fr.nb a l) fun x k => thenR (Fr.nb b (l.drop k)) fun y k2 => thenR (Fr.nb c ((l.drop k).drop k2)) fun z k3 => thenR (Fr.nb d (((l.drop k).drop k2).drop k3)) fun t k4 => .ok ([x, y, z, t], k + (k2 + (k3 + (k4 + 0)))) := by
  unfold Fr.nbs
  cases Fr.nb a l with
  | error e => rfl
  | ok p =>
    obtain ⟨x, k⟩ := p
    dsimp only [thenR]
    unfold Fr.nbs
    cases Fr.nb b (l.drop k) with
    | error e => rfl
    | ok p =>
      obtain ⟨y, k2⟩ := p
      dsimp only [thenR]
      unfold Fr.nbs
      cases Fr.nb c ((l.drop k).drop k2) with
      | error e => rfl
      | ok p =>
        obtain ⟨z, k3⟩ := p
        dsimp only [thenR]
        unfold Fr.nbs
        cases Fr.nb d (((l.drop k).drop k2).drop k3) with
        | error e => rfl
        | ok p => rfl
theorem drop4 (l : List UInt8) (k k2 k3 k4 : Nat) : l.drop (k + (k2 + (k3 + (k4 + 0)))) = (((l.drop k).drop k2).drop k3).drop k4 := by
  rw [List.drop_drop, List.drop_drop, List.drop_drop, Nat.add_zero]
def datF (n q f r : Nat) (b : List UInt8) : Fr := { Fr0 with kind := 2, number := n, seq := q, first := f, rows := r, block := b }
theorem rdD_eq (l : List UInt8) : Fr.rdD l = thenR (Fr.nb 2147483648 l) fun n k => thenR (Fr.nb 1099511627776 (l.drop k)) fun q k2 => thenR (Fr.nb 1099511627776 ((l.drop k).drop k2)) fun f k3 => thenR (Fr.nb 65 (((l.drop k).drop k2).drop k3)) fun r k4 => if r < 1 then .error 5 else .ok (datF n q f r ((((l.drop k).drop k2).drop k3).drop k4)) := by
  unfold Fr.rdD
  rw [nbs4]
  cases Fr.nb 2147483648 l with
  | error e => rfl
  | ok p =>
    obtain ⟨x, k⟩ := p
    dsimp only [thenR]
    cases Fr.nb 1099511627776 (l.drop k) with
    | error e => rfl
    | ok p =>
      obtain ⟨y, k2⟩ := p
      dsimp only [thenR]
      cases Fr.nb 1099511627776 ((l.drop k).drop k2) with
      | error e => rfl
      | ok p =>
        obtain ⟨z, k3⟩ := p
        dsimp only [thenR]
        cases Fr.nb 65 (((l.drop k).drop k2).drop k3) with
        | error e => rfl
        | ok p =>
          obtain ⟨t, k4⟩ := p
          dsimp only [thenR]
          rw [drop4]
          rfl

set_option maxRecDepth 100000 in
set_option maxHeartbeats 4000000 in
theorem dataFieldsF (l : List UInt8) (A R : Nat) (w : World) (h : RdrF w A R l) : Calls Tryz.prog 104 #[.pointer (some ⟨R, 0, none⟩)] w (FldA w R (Fr.rdD l) (isDF w.heap.size)) := by
  obtain ⟨w0, hw0⟩ : ∃ w0, w0 = w.alloc (.cells #[.int .i64 0, .int .i64 0, .int .i64 0, .int .i64 0, .slice none 0 0] 144) := ⟨_, rfl⟩
  have hz0 : w0.heap.size = w.heap.size + 1 := by rw [hw0]; simp
  have HB0 : Hid (Below w.heap.size w w0) := by rw [hw0]; exact (Below.refl _ _).alloc (Nat.le_refl _) _
  have HK0 : Hid (w0.heap[w.heap.size]? = some (.cells #[.int .i64 0, .int .i64 0, .int .i64 0, .int .i64 0, .slice none 0 0] 144 (0, 0))) := by show _ = _; rw [hw0]; exact blk_new w _
  have HW : Hid (w.alloc (.cells #[.int .i64 0, .int .i64 0, .int .i64 0, .int .i64 0, .slice none 0 0] 144) = w0) := by rw [hw0]; exact rfl
  have HRd := Lib.hid (h.on HB0.out)
  have hRlt := h.lt
  obtain ⟨r, hr⟩ : ∃ r, r = Fr.rdD l := ⟨_, rfl⟩
  have HR0 := Lib.hid (hr.trans (rdD_eq l))
  rw [← hr]
  have HA0 : Hid (Aside (fun i => i = R) w w0) := aside_new HB0.out _
  obtain ⟨L0, hL0⟩ : ∃ L0, L0 = l := ⟨_, rfl⟩
  rw [← hL0] at HRd HR0
  clear hr h hw0 hL0
  go_enter Tryz.func104, Tryz.ntmps104
  have HN := Lib.hid (numberF 2147483648 (by omega) L0 A R w0 HRd.out)
  obtain ⟨m0, hm0⟩ : ∃ m, m = Fr.nb 2147483648 L0 := ⟨_, rfl⟩
  rw [← hm0] at HN HR0
  clear hm0
  go_wp2_with fail
  rw [HW.out]
  refine HN.out.mono ?_
  intro e w1 hh
  cases m0 with
  | error er =>
    have HRe : Hid (r = .error er) := HR0.out
    obtain ⟨he, ha⟩ := hh.bad
    subst he
    have HA := Lib.hid (HA0.out.trans ha (fun _ _ h => h))
    clear hh ha HN
    go_wp2
    rw [HRe.out]
    exact ⟨rfl, rfl, HA.out⟩
  | ok nk =>
    obtain ⟨n, k0⟩ := nk
    obtain ⟨v, he, hv, hrd, ha⟩ := hh.good
    replace hv : v = .int .i64 (n : Nat) := hv
    subst hv
    subst he
    have HA1 := Lib.hid (HA0.out.trans ha (fun _ _ h => h))
    have HK1 : Hid (w1.heap[w.heap.size]? = some (.cells #[.int .i64 0, .int .i64 0, .int .i64 0, .int .i64 0, .slice none 0 0] 144 (0, 0))) := (ha.block _ (by omega) (by omega)).trans HK0.out
    have hz1 : w.heap.size + 1 ≤ w1.heap.size := by have := ha.size; omega
    have HR1 := Lib.hid (show r = _ from HR0.out)
    dsimp only [thenR] at HR1
    obtain ⟨L1, hL1⟩ : ∃ L, L = L0.drop k0 := ⟨_, rfl⟩
    rw [← hL1] at HR1 hrd
    have HRd1 := Lib.hid hrd
    clear hh ha hrd HN hL1 HR0 HA0 HK0
    have HN := Lib.hid (largeF L1 A R w1 HRd1.out)
    obtain ⟨m1, hm1⟩ : ∃ m, m = Fr.nb 1099511627776 L1 := ⟨_, rfl⟩
    rw [← hm1] at HN HR1
    clear hm1
    go_wp2_with fail
    refine HN.out.mono ?_
    intro e w2 hh
    cases m1 with
    | error er =>
      have HRe : Hid (r = .error er) := HR1.out
      obtain ⟨he, ha⟩ := hh.bad
      subst he
      have HA := Lib.hid (HA1.out.trans ha (fun _ _ h => h))
      clear hh ha HN
      go_wp2
      rw [HRe.out]
      exact ⟨rfl, rfl, HA.out⟩
    | ok nk =>
      obtain ⟨q, k1⟩ := nk
      obtain ⟨v, he, hv, hrd, ha⟩ := hh.good
      replace hv : v = .int .i64 (q : Nat) := hv
      subst hv
      subst he
      have HA2 := Lib.hid (HA1.out.trans ha (fun _ _ h => h))
      have HK2 : Hid (w2.heap[w.heap.size]? = some (.cells #[.int .i64 0, .int .i64 0, .int .i64 0, .int .i64 0, .slice none 0 0] 144 (0, 0))) := (ha.block _ (by omega) (by omega)).trans HK1.out
      have hz2 : w.heap.size + 1 ≤ w2.heap.size := by have := ha.size; omega
      have HR2 := Lib.hid (show r = _ from HR1.out)
      dsimp only [thenR] at HR2
      obtain ⟨L2, hL2⟩ : ∃ L, L = L1.drop k1 := ⟨_, rfl⟩
      rw [← hL2] at HR2 hrd
      have HRd2 := Lib.hid hrd
      clear hh ha hrd HN hL2 HR1 HA1 HK1
      have HN := Lib.hid (largeF L2 A R w2 HRd2.out)
      obtain ⟨m2, hm2⟩ : ∃ m, m = Fr.nb 1099511627776 L2 := ⟨_, rfl⟩
      rw [← hm2] at HN HR2
      clear hm2
      go_wp2_with fail
      refine HN.out.mono ?_
      intro e w3 hh
      cases m2 with
      | error er =>
        have HRe : Hid (r = .error er) := HR2.out
        obtain ⟨he, ha⟩ := hh.bad
        subst he
        have HA := Lib.hid (HA2.out.trans ha (fun _ _ h => h))
        clear hh ha HN
        go_wp2
        rw [HRe.out]
        exact ⟨rfl, rfl, HA.out⟩
      | ok nk =>
        obtain ⟨f, k2⟩ := nk
        obtain ⟨v, he, hv, hrd, ha⟩ := hh.good
        replace hv : v = .int .i64 (f : Nat) := hv
        subst hv
        subst he
        have HA3 := Lib.hid (HA2.out.trans ha (fun _ _ h => h))
        have HK3 : Hid (w3.heap[w.heap.size]? = some (.cells #[.int .i64 0, .int .i64 0, .int .i64 0, .int .i64 0, .slice none 0 0] 144 (0, 0))) := (ha.block _ (by omega) (by omega)).trans HK2.out
        have hz3 : w.heap.size + 1 ≤ w3.heap.size := by have := ha.size; omega
        have HR3 := Lib.hid (show r = _ from HR2.out)
        dsimp only [thenR] at HR3
        obtain ⟨L3, hL3⟩ : ∃ L, L = L2.drop k2 := ⟨_, rfl⟩
        rw [← hL3] at HR3 hrd
        have HRd3 := Lib.hid hrd
        clear hh ha hrd HN hL3 HR2 HA2 HK2
        have HN := Lib.hid (numberF 65 (by omega) L3 A R w3 HRd3.out)
        obtain ⟨m3, hm3⟩ : ∃ m, m = Fr.nb 65 L3 := ⟨_, rfl⟩
        rw [← hm3] at HN HR3
        clear hm3
        go_wp2_with fail
        refine HN.out.mono ?_
        intro e w4 hh
        cases m3 with
        | error er =>
          have HRe : Hid (r = .error er) := HR3.out
          obtain ⟨he, ha⟩ := hh.bad
          subst he
          have HA := Lib.hid (HA3.out.trans ha (fun _ _ h => h))
          clear hh ha HN
          go_wp2
          rw [HRe.out]
          exact ⟨rfl, rfl, HA.out⟩
        | ok nk =>
          obtain ⟨t, k3⟩ := nk
          obtain ⟨v, he, hv, hrd, ha⟩ := hh.good
          replace hv : v = .int .i64 (t : Nat) := hv
          subst hv
          subst he
          have HA4 := Lib.hid (HA3.out.trans ha (fun _ _ h => h))
          have HK4 : Hid (w4.heap[w.heap.size]? = some (.cells #[.int .i64 0, .int .i64 0, .int .i64 0, .int .i64 0, .slice none 0 0] 144 (0, 0))) := (ha.block _ (by omega) (by omega)).trans HK3.out
          have hz4 : w.heap.size + 1 ≤ w4.heap.size := by have := ha.size; omega
          have HR4 := Lib.hid (show r = _ from HR3.out)
          dsimp only [thenR] at HR4
          obtain ⟨L4, hL4⟩ : ∃ L, L = L3.drop k3 := ⟨_, rfl⟩
          rw [← hL4] at HR4 hrd
          have HRd4 := Lib.hid hrd
          clear hh ha hrd HN hL4 HR3 HA3 HK3
          obtain ⟨p1, c1, hb1, hat1, hc1, -⟩ := HRd4.out.out
          have r0 : w4.cell? ⟨R, 0, none⟩ = some (.slice p1 L4.length c1) := blk_cell hb1 0
          have hsm := HRd4.out.small
          have HAt := Lib.hid hat1
          clear hb1 hat1 hc1
          by_cases h1 : t < 1
          · have HRe : Hid (r = .error 5) := HR4.out.trans (if_pos h1)
            have h0 : t = 0 := by omega
            subst h0
            clear HR4 h1
            go_wp2_with fail
            refine (needF_f _ 5 _).mono ?_
            rintro e w5 ⟨rfl, hw5⟩
            rw [hw5]
            clear hw5 w5
            go_wp2
            rw [HRe.out]
            exact ⟨rfl, rfl, HA4.out⟩
          · have HRo : Hid (r = .ok (datF n q f t L4)) := HR4.out.trans (if_neg h1)
            have g1 : 0 < t := by omega
            have g2 : decide (0 < t) = true := decide_eq_true g1
            have HC := Lib.hid (cloneK p1 c1 L4 (by omega) w4 HAt.out)
            clear HR4 h1
            go_wp2_with fail
            refine (needF_t _ 5 _).mono ?_
            rintro e w5 ⟨rfl, hw5⟩
            rw [hw5]
            clear hw5 w5
            go_wp2_with fail
            refine HC.out.mono ?_
            rintro e w5 ⟨q5, cap5, rfl, hh, hb⟩
            have hK5 : w5.heap[w.heap.size]? = some (.cells #[.int .i64 0, .int .i64 0, .int .i64 0, .int .i64 0, .slice none 0 0] 144 (0, 0)) := (hb.block _ (by omega)).trans HK4.out
            have HK5 := Lib.hid hK5
            have x0 : w5.cell? ⟨w.heap.size, 0, none⟩ = some (.int .i64 0) := blk_cell hK5 0
            have x1 : w5.cell? ⟨w.heap.size, 1, none⟩ = some (.int .i64 0) := blk_cell hK5 1
            have x2 : w5.cell? ⟨w.heap.size, 2, none⟩ = some (.int .i64 0) := blk_cell hK5 2
            have x3 : w5.cell? ⟨w.heap.size, 3, none⟩ = some (.int .i64 0) := blk_cell hK5 3
            have x4 : w5.cell? ⟨w.heap.size, 4, none⟩ = some (.slice none 0 0) := blk_cell hK5 4
            have xf0 := blk_free hK5 0
            have xf1 := blk_free hK5 1
            have xf2 := blk_free hK5 2
            have xf3 := blk_free hK5 3
            have xf4 := blk_free hK5 4
            have HH := Lib.hid hh
            have HA5 := Lib.hid (HA4.out.trans (aside_new hb (fun i => i = R)) (fun _ _ h => h))
            clear hK5 hh hb HC
            go_wp2
            have b0 : (w5.setCell ⟨w.heap.size, 0, none⟩ (.int .i64 n)).heap[w.heap.size]? = some (.cells #[.int .i64 n, .int .i64 0, .int .i64 0, .int .i64 0, .slice none 0 0] 144 (0, 0)) := blk_set HK5.out 0 _
            have b1 : ((w5.setCell ⟨w.heap.size, 0, none⟩ (.int .i64 n)).setCell ⟨w.heap.size, 1, none⟩ (.int .i64 q)).heap[w.heap.size]? = some (.cells #[.int .i64 n, .int .i64 q, .int .i64 0, .int .i64 0, .slice none 0 0] 144 (0, 0)) := blk_set b0 1 _
            have b2 : (((w5.setCell ⟨w.heap.size, 0, none⟩ (.int .i64 n)).setCell ⟨w.heap.size, 1, none⟩ (.int .i64 q)).setCell ⟨w.heap.size, 2, none⟩ (.int .i64 f)).heap[w.heap.size]? = some (.cells #[.int .i64 n, .int .i64 q, .int .i64 f, .int .i64 0, .slice none 0 0] 144 (0, 0)) := blk_set b1 2 _
            have b3 : ((((w5.setCell ⟨w.heap.size, 0, none⟩ (.int .i64 n)).setCell ⟨w.heap.size, 1, none⟩ (.int .i64 q)).setCell ⟨w.heap.size, 2, none⟩ (.int .i64 f)).setCell ⟨w.heap.size, 3, none⟩ (.int .i64 t)).heap[w.heap.size]? = some (.cells #[.int .i64 n, .int .i64 q, .int .i64 f, .int .i64 t, .slice none 0 0] 144 (0, 0)) := blk_set b2 3 _
            have b4 : (((((w5.setCell ⟨w.heap.size, 0, none⟩ (.int .i64 n)).setCell ⟨w.heap.size, 1, none⟩ (.int .i64 q)).setCell ⟨w.heap.size, 2, none⟩ (.int .i64 f)).setCell ⟨w.heap.size, 3, none⟩ (.int .i64 t)).setCell ⟨w.heap.size, 4, none⟩ (.slice q5 L4.length cap5)).heap[w.heap.size]? = some (.cells #[.int .i64 n, .int .i64 q, .int .i64 f, .int .i64 t, .slice q5 L4.length cap5] 144 (0, 0)) := blk_set b3 4 _
            have HKf := Lib.hid b4
            have hAf : Aside (fun i => i = w.heap.size) w5 (((((w5.setCell ⟨w.heap.size, 0, none⟩ (.int .i64 n)).setCell ⟨w.heap.size, 1, none⟩ (.int .i64 q)).setCell ⟨w.heap.size, 2, none⟩ (.int .i64 f)).setCell ⟨w.heap.size, 3, none⟩ (.int .i64 t)).setCell ⟨w.heap.size, 4, none⟩ (.slice q5 L4.length cap5)) := ((((aside_set w5 w.heap.size 0 _).trans (aside_set _ w.heap.size 1 _) (fun _ _ h => h)).trans (aside_set _ w.heap.size 2 _) (fun _ _ h => h)).trans (aside_set _ w.heap.size 3 _) (fun _ _ h => h)).trans (aside_set _ w.heap.size 4 _) (fun _ _ h => h)
            refine bodyPost_ret (v := .agg #[.int .i64 n, .int .i64 q, .int .i64 f, .int .i64 t, .slice q5 L4.length cap5]) (results_cell_row rfl _ _ w.heap.size _ _ _ _ rfl HKf.out Tryz.underlying144 rfl (by kernel_rfl)) rfl ?_
            rw [HRo.out]
            refine ⟨_, rfl, ⟨q5, cap5, rfl, ?_⟩, ?_⟩
            · exact (HH.out.aside hAf (fun k hk hc => by have := (HH.out.lt k hk).1; omega)).lower (by omega)
            · exact HA5.out.trans hAf (fun i hi h => by omega)
end Go.Proofs.YtclhbhhlddbocaaGreatDoor
