/- FrameBurst, walked. -/
import Derived.Test.YtclhbhhlddbocaaGreatDoorW12B
import Derived.Test.YtclhbhhlddbocaaGreatDoorB02
import Derived.Test.YtclhbhhlddbocaaGreatDoorB01
namespace Go.Proofs.YtclhbhhlddbocaaGreatDoor
open Go.RowKit

/-- what the burst's loop keeps -/
def BurstF (l : List UInt8) (f u b : Nat) (w : World) (k : Nat) (wr : World) : Prop :=
  ∃ xs : List UInt8, Free wr b 0 xs ∧ xs.length = l.length ∧ Below w.heap.size w wr ∧ Crc.num xs = Crc.num l ^^^ 2 ^ f * (u % 2 ^ (min k (8 * l.length - f)))

theorem xor8F (x : UInt8) (j : Nat) (hj : j < 8) : bits .xor .u8 (x.toNat : Int) (2 ^ j % 256) = ((x ^^^ UInt8.ofNat (2 ^ j)).toNat : Int) ∧ (UInt8.ofNat (2 ^ j)).toNat = 2 ^ j := by
  have h1 : 2 ^ j < 256 := Nat.pow_lt_pow_right (a := 2) (n := 8) (by omega) hj
  have h2 : (UInt8.ofNat (2 ^ j)).toNat = 2 ^ j := by
    rw [UInt8.toNat_ofNat']; exact Nat.mod_eq_of_lt h1
  refine ⟨?_, h2⟩
  have h3 : ((2 : Int) ^ j % 256) = ((2 ^ j : Nat) : Int) := by
    have : ((2 ^ j : Nat) : Int) = (2 : Int) ^ j := by push_cast; rfl
    omega
  rw [h3, UInt8.toNat_xor, h2]
  exact u8_xor_nat x.toNat (2 ^ j) x.toNat_lt h1

theorem burstF_turn {l : List UInt8} {f u b k : Nat} {w wr : World} (hbl : w.heap.size ≤ b) (h : BurstF l f u b w k wr) (hin : f + k < 8 * l.length) (hbit : u / 2 ^ k % 2 = 1) :
    ∃ x : UInt8, wr.cell? ⟨b, (f + k) / 8, none⟩ = some (.int .u8 (x.toNat : Int)) ∧ wr.frozen? ⟨b, (f + k) / 8, none⟩ = false ∧
      BurstF l f u b w (k + 1) (wr.setCell ⟨b, (f + k) / 8, none⟩ (.int .u8 (bits .xor .u8 (x.toNat : Int) (2 ^ ((f + k) % 8) % 256)))) := by
  obtain ⟨xs, hO, hxl, hBr, hN⟩ := h
  have hi : (f + k) / 8 < xs.length := by omega
  have hcell := hO.2.1 ((f + k) / 8) hi
  have hth := hO.2.2 ((f + k) / 8) hi
  rw [Nat.zero_add] at hcell hth
  obtain ⟨e1, e2⟩ := xor8F xs[(f + k) / 8] ((f + k) % 8) (Nat.mod_lt _ (by omega))
  refine ⟨xs[(f + k) / 8], hcell, hth, ?_⟩
  rw [e1]
  have hs := hO.set _ (xs[(f + k) / 8] ^^^ UInt8.ofNat (2 ^ ((f + k) % 8))) hi
  rw [Nat.zero_add] at hs
  refine ⟨_, hs, by rw [List.length_set]; exact hxl, hBr.setCell hbl _, ?_⟩
  rw [Crc.num_turn xs ((f + k) / 8) hi _ ((f + k) % 8) e2, hN, Crc.burst_step (Crc.num l) f u k (8 * l.length - f) (by omega), if_pos hbit]
  rw [show 8 * ((f + k) / 8) + (f + k) % 8 = f + k by omega]
theorem burstF_keep {l : List UInt8} {f u b k : Nat} {w wr : World} (h : BurstF l f u b w k wr) (hin : f + k < 8 * l.length) (hbit : u / 2 ^ k % 2 ≠ 1) : BurstF l f u b w (k + 1) wr := by
  obtain ⟨xs, hO, hxl, hBr, hN⟩ := h
  refine ⟨xs, hO, hxl, hBr, ?_⟩
  rw [hN, Crc.burst_step (Crc.num l) f u k (8 * l.length - f) (by omega), if_neg hbit, Nat.xor_zero]
theorem burstF_out {l : List UInt8} {f u b k : Nat} {w wr : World} (h : BurstF l f u b w k wr) (hin : 8 * l.length ≤ f + k) : BurstF l f u b w (k + 1) wr := by
  obtain ⟨xs, hO, hxl, hBr, hN⟩ := h
  refine ⟨xs, hO, hxl, hBr, ?_⟩
  rw [hN, Crc.burst_past (Crc.num l) f u k (8 * l.length - f) (by omega)]
/-- has a bit been turned? -/
def turned (u k m : Nat) : Bool := decide (u % 2 ^ (min k m) ≠ 0)
theorem turned_0 (u m : Nat) : turned u 0 m = false := by simp [turned, Nat.mod_one]
theorem mod_next (u k : Nat) : u % 2 ^ (k + 1) = u % 2 ^ k + 2 ^ k * (u / 2 ^ k % 2) := Nat.mod_pow_succ
theorem turned_turn {u k m : Nat} (h : k < m) (hb : u / 2 ^ k % 2 = 1) : turned u (k + 1) m = true := by
  unfold turned
  rw [decide_eq_true_iff, Nat.min_eq_left (by omega), mod_next, hb, Nat.mul_one]
  have := Nat.two_pow_pos k
  omega
theorem turned_keep {u k m : Nat} (h : k < m) (hb : u / 2 ^ k % 2 ≠ 1) : turned u (k + 1) m = turned u k m := by
  unfold turned
  rw [Nat.min_eq_left (show k + 1 ≤ m by omega), Nat.min_eq_left (show k ≤ m by omega), mod_next]
  have : u / 2 ^ k % 2 = 0 := by omega
  rw [this, Nat.mul_zero, Nat.add_zero]
theorem turned_out {u k m : Nat} (h : m ≤ k) : turned u (k + 1) m = turned u k m := by
  unfold turned
  rw [Nat.min_eq_right (show m ≤ k + 1 by omega), Nat.min_eq_right h]

theorem bit_ofF (u k : Nat) : (((u : Int) / 2 ^ k).tmod 2 == 1) = decide (u / 2 ^ k % 2 = 1) := by
  have e : (u : Int) / 2 ^ k = ((u / 2 ^ k : Nat) : Int) := by push_cast; rfl
  rw [e, Int.tmod_eq_emod_of_nonneg (Int.natCast_nonneg _), Bool.eq_iff_iff, beq_iff_eq, decide_eq_true_iff]
  generalize u / 2 ^ k = z
  omega

/-- what is read of a frame's bytes that were turned so -/
theorem burst_read {f : Fr} (he : Fr.err f = 0) (hw : ∀ c ∈ f.cols, c.wf) {fi u b : Nat} {w wr : World} (hf : fi < 8 * (Fr.check (Fr.head f)).length) (hu : u < 4294967296) (h : BurstF (Fr.check (Fr.head f)) fi u b w 32 wr) :
    ∃ xs : List UInt8, Free wr b 0 xs ∧ xs.length = (Fr.check (Fr.head f)).length ∧ Below w.heap.size w wr ∧
      ((turned u 32 (8 * (Fr.check (Fr.head f)).length - fi) = false ∧ Fr.dec (Cob.stuff xs) = .ok (Fr.norm f)) ∨
        (turned u 32 (8 * (Fr.check (Fr.head f)).length - fi) = true ∧ Fr.dec (Cob.stuff xs) = if 2200 < (Cob.stuff xs).length then .error 2 else .error 120)) := by
  obtain ⟨xs, hO, hxl, hBr, hN⟩ := h
  refine ⟨xs, hO, hxl, hBr, ?_⟩
  have hlt : u % 2 ^ (min 32 (8 * (Fr.check (Fr.head f)).length - fi)) < 4294967296 := Nat.lt_of_le_of_lt (Nat.mod_le _ _) hu
  unfold turned
  by_cases h0 : u % 2 ^ (min 32 (8 * (Fr.check (Fr.head f)).length - fi)) = 0
  · refine .inl ⟨decide_eq_false (by simpa using h0), ?_⟩
    rw [h0, Nat.mul_zero, Nat.xor_zero] at hN
    have hx := Crc.num_inj _ _ hxl hN
    rw [hx]
    exact Fr.dec_run he hw
  · exact .inr ⟨decide_eq_true h0, Fr.dec_burst (by unfold Fr.head; simp) hxl fi _ (by omega) hlt hN h0⟩

theorem has_someU {w : World} {B : Nat} {q : Option Addr} {n cap : Nat} {l : List UInt8} (hh : Has w B (.slice q n cap) l) (h0 : l ≠ []) : ∃ g, q = some ⟨g, 0, none⟩ ∧ Mine w B g cap l ∧ n = l.length := by
  rcases hh.form with ⟨h1, h2⟩ | ⟨g, cap', h1, h2⟩
  · exact absurd h2 h0
  · injection h1 with h3 h5 h4
    subst h4
    exact ⟨g, h3, h2, h5⟩
theorem un_run (f : Fr) : Cob.un (Fr.run f) = (0, Fr.check (Fr.head f)) := by unfold Fr.run; exact Cob.un_stuff _

set_option maxRecDepth 100000 in
set_option maxHeartbeats 1000000 in
theorem frameBurst_bad (f : Fr) (hwf : f.wf) (he : Fr.err f ≠ 0) (u : Array Value) (a : Int) (x : Nat) (w : World) (hv : Hv w) (hf : FLies w u f) :
    Calls Tryz.prog 5 #[.agg u, .int .i64 a, .int .u32 x] w fun e w' => e = .returned (.bool true) ∧ Below w.heap.size w w' := by
  obtain ⟨sp, sc, bp, bc, ep, ec, hu, -⟩ := hf.out
  have HFl := Lib.hid hf
  rw [hu] at HFl ⊢
  unfold cells11 at HFl ⊢
  have HHv := Lib.hid hv
  have HWf := Lib.hid hwf
  clear hu hf hv hwf
  obtain ⟨w0, hw0⟩ : ∃ w0, w0 = w.alloc (.cells #[.int .i64 f.kind, .int .i64 f.number, .slice sp f.cols.length sc, .int .i64 f.seq, .int .i64 f.first, .int .i64 f.rows, .slice bp f.block.length bc, .int .i64 f.index.at_, .int .i64 f.index.frames, .int .i64 f.index.rows, .slice ep f.index.entries.length ec] 30) := ⟨_, rfl⟩
  have HB0 : Hid (Below w.heap.size w w0) := by rw [hw0]; exact (Below.refl _ _).alloc (Nat.le_refl _) _
  have HW0 : Hid (w.alloc (.cells #[.int .i64 f.kind, .int .i64 f.number, .slice sp f.cols.length sc, .int .i64 f.seq, .int .i64 f.first, .int .i64 f.rows, .slice bp f.block.length bc, .int .i64 f.index.at_, .int .i64 f.index.frames, .int .i64 f.index.rows, .slice ep f.index.entries.length ec] 30) = w0) := by rw [hw0]; exact rfl
  have hz0 : w0.heap.size = w.heap.size + 1 := by rw [hw0]; simp
  have HE := Lib.hid (encodeF f HWf.out #[.int .i64 f.kind, .int .i64 f.number, .slice sp f.cols.length sc, .int .i64 f.seq, .int .i64 f.first, .int .i64 f.rows, .slice bp f.block.length bc, .int .i64 f.index.at_, .int .i64 f.index.frames, .int .i64 f.index.rows, .slice ep f.index.entries.length ec] w0 (HHv.out.next HB0.out) (HFl.out.on HB0.out))
  clear hw0
  go_enter Tryz.func5, Tryz.ntmps5
  go_wp2_with fail
  rw [HW0.out]
  refine HE.out.mono ?_
  rintro e w1 (⟨hz, -⟩ | ⟨hz, rfl, hb1⟩)
  · exact absurd hz he
  have HB1 := Lib.hid (HB0.out.trans (hb1.mono HB0.out.size))
  have g0 : ((Fr.err f : Int) != 0) = true := bne_t (by omega)
  clear hb1 HE hz he
  generalize Fr.err f = er at g0 ⊢
  go_wp2_with fail
  refine (live12 w1 (HHv.out.next HB1.out)).mono ?_
  rintro e w2 ⟨rfl, hb2⟩
  have HB2 := Lib.hid (HB1.out.trans (hb2.mono HB1.out.size))
  clear hb2
  go_wp2
  go_ret
  exact ⟨rfl, HB2.out⟩

set_option maxRecDepth 100000 in
set_option maxHeartbeats 8000000 in
theorem frameBurst_pos (f : Fr) (hwf : f.wf) (he : Fr.err f = 0) (u : Array Value) (a : Int) (L fi : Nat) (hL : L = (Fr.check (Fr.head f)).length) (hfi : a.tmod (8 * L) = (fi : Int)) (hfl : fi < 8 * L) (x : Nat) (hx : x < 4294967296) (w : World) (hv : Hv w) (hf : FLies w u f) :
    Calls Tryz.prog 5 #[.agg u, .int .i64 a, .int .u32 x] w fun e w' => e = .returned (.bool true) ∧ Below w.heap.size w w' := by
  obtain ⟨sp, sc, bp, bc, ep, ec, hu, -⟩ := hf.out
  have HFl := Lib.hid hf
  rw [hu] at HFl ⊢
  unfold cells11 at HFl ⊢
  have HHv := Lib.hid hv
  have HWf := Lib.hid hwf
  clear hu hf hv hwf
  obtain ⟨w0, hw0⟩ : ∃ w0, w0 = w.alloc (.cells #[.int .i64 f.kind, .int .i64 f.number, .slice sp f.cols.length sc, .int .i64 f.seq, .int .i64 f.first, .int .i64 f.rows, .slice bp f.block.length bc, .int .i64 f.index.at_, .int .i64 f.index.frames, .int .i64 f.index.rows, .slice ep f.index.entries.length ec] 30) := ⟨_, rfl⟩
  have HB0 : Hid (Below w.heap.size w w0) := by rw [hw0]; exact (Below.refl _ _).alloc (Nat.le_refl _) _
  have HW0 : Hid (w.alloc (.cells #[.int .i64 f.kind, .int .i64 f.number, .slice sp f.cols.length sc, .int .i64 f.seq, .int .i64 f.first, .int .i64 f.rows, .slice bp f.block.length bc, .int .i64 f.index.at_, .int .i64 f.index.frames, .int .i64 f.index.rows, .slice ep f.index.entries.length ec] 30) = w0) := by rw [hw0]; exact rfl
  have hz0 : w0.heap.size = w.heap.size + 1 := by rw [hw0]; simp
  have HE := Lib.hid (encodeF f HWf.out #[.int .i64 f.kind, .int .i64 f.number, .slice sp f.cols.length sc, .int .i64 f.seq, .int .i64 f.first, .int .i64 f.rows, .slice bp f.block.length bc, .int .i64 f.index.at_, .int .i64 f.index.frames, .int .i64 f.index.rows, .slice ep f.index.entries.length ec] w0 (HHv.out.next HB0.out) (HFl.out.on HB0.out))
  clear hw0
  have hr6 : 6 ≤ (Fr.run f).length := Fr.run_ge
  have h22 : (Fr.run f).length ≤ 2200 := (Fr.err_open he).2
  have hLr : L + 1 ≤ (Fr.run f).length := by rw [hL]; unfold Fr.run; exact (Cob.stuff_length _).1
  have HRead := Lib.hid (fun b wr (h : BurstF (Fr.check (Fr.head f)) fi x b w 32 wr) => burst_read he HWf.out.2.2.1 (by rw [← hL]; exact hfl) hx h)
  have HUn := Lib.hid (un_run f)
  obtain ⟨l, hl⟩ : ∃ l, l = Fr.check (Fr.head f) := ⟨_, rfl⟩
  rw [← hl] at hL HRead HUn
  have HErr := Lib.hid he
  obtain ⟨er, her⟩ : ∃ er, er = Fr.err f := ⟨_, rfl⟩
  obtain ⟨rn, hrn⟩ : ∃ rn, rn = Fr.run f := ⟨_, rfl⟩
  rw [← her, ← hrn] at HE
  rw [← hrn] at hr6 h22 hLr HUn
  have her0 : er = 0 := her.trans he
  have hL1 : 1 ≤ L := by omega
  have hlc2 : (rn.length : Int) ≤ 2200 := by omega
  have hLi : (L : Int) ≤ 2200 := by omega
  have HL := Lib.hid hL
  clear her hrn hl he hL
  go_enter Tryz.func5, Tryz.ntmps5
  go_wp2_with fail
  rw [HW0.out]
  refine HE.out.mono ?_
  rintro e w1 (⟨-, q, cap, rfl, hh, hb1⟩ | ⟨hz, -, -⟩)
  case inr => exact absurd her0 hz
  obtain ⟨g, rfl, hm, -⟩ := has_someU hh (by simp)
  obtain ⟨hmid, hf0, hl0, hcap⟩ := mid_at hm
  have HB1 := Lib.hid (HB0.out.trans (hb1.mono HB0.out.size))
  have hol : (0 :: (rn ++ [0])).length = rn.length + 2 := by simp
  rw [hol]
  have g1 : decide ((rn.length : Int) + 2 < 3) = false := decide_eq_false (by omega)
  have s1 : ∀ w', (Instr.slice 25 (.slice (some ⟨g, 0, none⟩) (rn.length + 2) cap) (some (.int .i64 1)) (some (.int .i64 ((rn.length : Int) + 1))) none).run Tryz.prog w' = .ok (.slice (some ⟨g, 1, none⟩) rn.length (cap - 1)) w' := fun w' => run_mid g rn.length cap hcap w'
  have hU := refUnstuff_any (some ⟨g, 1, none⟩) (cap - 1) rn (by omega) w1 hmid
  rw [HUn.out] at hU
  have HU := Lib.hid hU
  clear hh hb1 hm hmid hf0 hl0 HE her0 hol hU
  go_wp2_with fail
  refine HU.out.mono ?_
  rintro e w2 ⟨v, rfl, hh2, hb2⟩
  rcases hh2.form with ⟨-, hnil⟩ | ⟨b, d, rfl, hm2⟩
  · exfalso
    have := HL.out
    rw [show l = [] from hnil] at this
    simp at this
    omega
  have HB2 := Lib.hid (HB1.out.trans (hb2.mono HB1.out.size))
  have hbl : w.heap.size ≤ b := Nat.le_trans HB1.out.size hm2.base.1
  have HI : Hid (BurstF l fi x b w 0 w2) := ⟨l, hm2.free, rfl, HB2.out, by simp [Nat.mod_one]⟩
  have HD : Hid (L ≤ d) := by rw [HL.out]; exact hm2.base.2.2
  rw [show (0, l).2.length = L from HL.out.symm]
  clear hh2 hm2 hb2 HU s1 hcap
  have t0 := turned_0 x (8 * L - fi)
  rw [show ((((0 : Nat), l).1 : Nat) : Int) = 0 from rfl]
  have g2 : ((8 * (L : Int)) == 0) = false := beq_f (by omega)
  go_wp2_with fail
  clear hfi
  try generalize ((fi : Int) - 8 * (L : Int)) = zz
  go_loopw [13, 14] (fun v13 v14 wr => ∃ (k : Nat), k ≤ 32 ∧ v13 = .bool (turned x k (8 * L - fi)) ∧ v14 = .int .i64 k ∧ Hid (BurstF l fi x b w k wr)) (fun _ v14 _ => 32 - (intOf v14).toNat)
  case atStart => exact ⟨0, by omega, by rw [t0], rfl, HI⟩
  case round =>
    obtain ⟨k, hk, rfl, rfl, HK⟩ := hrel
    clear t0
    by_cases hk32 : k < 32
    · by_cases hin : fi + k < 8 * L
      · by_cases hbit : x / 2 ^ k % 2 = 1
        · obtain ⟨y, hcell, hthaw, hnext⟩ := burstF_turn hbl HK.out (by rw [← HL.out]; exact hin) hbit
          have HN := Lib.hid hnext
          have HT := Lib.hid (turned_turn (u := x) (m := 8 * L - fi) (by omega) hbit)
          have hb1 : (((x : Int) / 2 ^ k).tmod 2 == 1) = true := by rw [bit_ofF, decide_eq_true hbit]
          clear hnext hbit HK
          generalize turned x k (8 * L - fi) = tt
          go_wp2
          go_roundw
          case rel => exact ⟨k + 1, by omega, by rw [HT.out], by go_num, HN⟩
          case measure => simp [intOf]; omega
        · have HN := Lib.hid (burstF_keep HK.out (by rw [← HL.out]; exact hin) hbit)
          have HT := Lib.hid (turned_keep (u := x) (m := 8 * L - fi) (by omega) hbit)
          have hb1 : (((x : Int) / 2 ^ k).tmod 2 == 1) = false := by rw [bit_ofF, decide_eq_false hbit]
          clear hbit HK
          rw [← HT.out]
          generalize hTT : turned x (k + 1) (8 * L - fi) = tt
          have HTT := Lib.hid hTT.symm
          clear hTT HT
          go_wp2
          go_roundw
          case rel => exact ⟨k + 1, by omega, by rw [HTT.out], by go_num, HN⟩
          case measure => simp [intOf]; omega
      · have HN := Lib.hid (burstF_out HK.out (by rw [← HL.out]; omega))
        have HT := Lib.hid (turned_out (u := x) (k := k) (m := 8 * L - fi) (by omega))
        have hb1 : decide ((fi : Int) + (k : Int) < 8 * (L : Int)) = false := decide_eq_false (by omega)
        clear HK
        rw [← HT.out]
        generalize hTT : turned x (k + 1) (8 * L - fi) = tt
        have HTT := Lib.hid hTT.symm
        clear hTT HT
        go_wp2
        go_roundw
        case rel => exact ⟨k + 1, by omega, by rw [HTT.out], by go_num, HN⟩
        case measure => simp [intOf]; omega
    · have hk2 : k = 32 := by omega
      subst hk2
      obtain ⟨xs, hO, hxl, hBr, hrd⟩ := HRead.out b wr HK.out
      rw [← HL.out] at hxl hrd
      have HBr := Lib.hid hBr
      have hS := refStuff_any (some ⟨b, 0, none⟩) d xs (by omega) wr hO.at
      rw [hxl] at hS
      have HS := Lib.hid hS
      have HRd := Lib.hid hrd
      have HXl := Lib.hid hxl
      have hLs : (Cob.stuff xs).length ≤ 1000000 := by have := (Cob.stuff_length xs).2; omega
      clear HK hO hBr hS hrd hk hk32 HRead hxl
      generalize turned x 32 (8 * L - fi) = tt at HRd ⊢
      go_wp2_with fail
      refine HS.out.mono ?_
      rintro e w3 ⟨g3, cap3, rfl, hm3, hb3⟩
      have HB3 := Lib.hid (HBr.out.trans (hb3.mono HBr.out.size))
      have HDc := Lib.hid (decodeF (some ⟨g3, 0, none⟩) cap3 (Cob.stuff xs) (by omega) hm3.base.2.2 w3 (HHv.out.next HB3.out) hm3.at)
      obtain ⟨ys, hys⟩ : ∃ ys, ys = Cob.stuff xs := ⟨_, rfl⟩
      rw [← hys] at HDc HRd hLs ⊢
      clear hm3 hb3 HS hys
      rcases HRd.out with ⟨rfl, hd⟩ | ⟨rfl, hd⟩
      · rw [hd] at HDc
        clear HRd hd
        go_wp2_with fail
        refine HDc.out.mono ?_
        rintro e w4 ⟨u4, rfl, hf4, hb4⟩
        have HB4 := Lib.hid (HB3.out.trans (hb4.mono HB3.out.size))
        obtain ⟨sp2, sc2, bp2, bc2, ep2, ec2, hu2, -⟩ := hf4.lies.out
        unfold cells11 at hu2
        subst hu2
        have HBA : Hid (∀ o, Below w.heap.size w (w4.alloc o)) := fun o => HB4.out.alloc HB4.out.size _
        clear hf4 hb4 HDc
        generalize (Fr.norm f).kind = n0
        generalize (Fr.norm f).number = n1
        generalize (Fr.norm f).cols.length = n2
        generalize (Fr.norm f).seq = n3
        generalize (Fr.norm f).first = n4
        generalize (Fr.norm f).rows = n5
        generalize (Fr.norm f).block.length = n6
        generalize (Fr.norm f).index.at_ = n7
        generalize (Fr.norm f).index.frames = n8
        generalize (Fr.norm f).index.rows = n9
        generalize (Fr.norm f).index.entries.length = n10
        go_wp2_with fail
        refine (live12 _ (HHv.out.next (HBA.out _))).mono ?_
        rintro e w5 ⟨rfl, hb5⟩
        have HB5 := Lib.hid ((HBA.out _).trans (hb5.mono (HBA.out _).size))
        clear hb5
        go_wp2
        go_ret
        exact ⟨rfl, HB5.out⟩
      · rw [hd] at HDc
        clear HRd hd
        by_cases hlong : 2200 < ys.length
        · rw [if_pos hlong] at HDc
          have gl : decide ((2200 : Int) < (ys.length : Int)) = true := decide_eq_true (by omega)
          clear hlong
          go_wp2_with fail
          refine HDc.out.mono ?_
          rintro e w4 ⟨rfl, hb4⟩
          have HB4 := Lib.hid (HB3.out.trans (hb4.mono HB3.out.size))
          have HBA : Hid (∀ o, Below w.heap.size w (w4.alloc o)) := fun o => HB4.out.alloc HB4.out.size _
          clear hb4 HDc
          go_wp2_with fail
          refine (live12 _ (HHv.out.next (HBA.out _))).mono ?_
          rintro e w5 ⟨rfl, hb5⟩
          have HB5 := Lib.hid ((HBA.out _).trans (hb5.mono (HBA.out _).size))
          clear hb5
          go_wp2
          go_ret
          exact ⟨rfl, HB5.out⟩
        · rw [if_neg hlong] at HDc
          clear hlong
          go_wp2_with fail
          refine HDc.out.mono ?_
          rintro e w4 ⟨rfl, hb4⟩
          have HB4 := Lib.hid (HB3.out.trans (hb4.mono HB3.out.size))
          have HBA : Hid (∀ o, Below w.heap.size w (w4.alloc o)) := fun o => HB4.out.alloc HB4.out.size _
          clear hb4 HDc
          go_wp2_with fail
          refine (live12 _ (HHv.out.next (HBA.out _))).mono ?_
          rintro e w5 ⟨rfl, hb5⟩
          have HB5 := Lib.hid ((HBA.out _).trans (hb5.mono (HBA.out _).size))
          clear hb5
          go_wp2
          go_ret
          exact ⟨rfl, HB5.out⟩

set_option maxRecDepth 100000 in
set_option maxHeartbeats 8000000 in
theorem frameBurst_neg (f : Fr) (hwf : f.wf) (he : Fr.err f = 0) (u : Array Value) (a : Int) (L fi : Nat) (hL : L = (Fr.check (Fr.head f)).length) (hfi : a.tmod (8 * L) = (fi : Int) - 8 * L) (hfl : fi < 8 * L) (x : Nat) (hx : x < 4294967296) (w : World) (hv : Hv w) (hf : FLies w u f) :
    Calls Tryz.prog 5 #[.agg u, .int .i64 a, .int .u32 x] w fun e w' => e = .returned (.bool true) ∧ Below w.heap.size w w' := by
  obtain ⟨sp, sc, bp, bc, ep, ec, hu, -⟩ := hf.out
  have HFl := Lib.hid hf
  rw [hu] at HFl ⊢
  unfold cells11 at HFl ⊢
  have HHv := Lib.hid hv
  have HWf := Lib.hid hwf
  clear hu hf hv hwf
  obtain ⟨w0, hw0⟩ : ∃ w0, w0 = w.alloc (.cells #[.int .i64 f.kind, .int .i64 f.number, .slice sp f.cols.length sc, .int .i64 f.seq, .int .i64 f.first, .int .i64 f.rows, .slice bp f.block.length bc, .int .i64 f.index.at_, .int .i64 f.index.frames, .int .i64 f.index.rows, .slice ep f.index.entries.length ec] 30) := ⟨_, rfl⟩
  have HB0 : Hid (Below w.heap.size w w0) := by rw [hw0]; exact (Below.refl _ _).alloc (Nat.le_refl _) _
  have HW0 : Hid (w.alloc (.cells #[.int .i64 f.kind, .int .i64 f.number, .slice sp f.cols.length sc, .int .i64 f.seq, .int .i64 f.first, .int .i64 f.rows, .slice bp f.block.length bc, .int .i64 f.index.at_, .int .i64 f.index.frames, .int .i64 f.index.rows, .slice ep f.index.entries.length ec] 30) = w0) := by rw [hw0]; exact rfl
  have hz0 : w0.heap.size = w.heap.size + 1 := by rw [hw0]; simp
  have HE := Lib.hid (encodeF f HWf.out #[.int .i64 f.kind, .int .i64 f.number, .slice sp f.cols.length sc, .int .i64 f.seq, .int .i64 f.first, .int .i64 f.rows, .slice bp f.block.length bc, .int .i64 f.index.at_, .int .i64 f.index.frames, .int .i64 f.index.rows, .slice ep f.index.entries.length ec] w0 (HHv.out.next HB0.out) (HFl.out.on HB0.out))
  clear hw0
  have hr6 : 6 ≤ (Fr.run f).length := Fr.run_ge
  have h22 : (Fr.run f).length ≤ 2200 := (Fr.err_open he).2
  have hLr : L + 1 ≤ (Fr.run f).length := by rw [hL]; unfold Fr.run; exact (Cob.stuff_length _).1
  have HRead := Lib.hid (fun b wr (h : BurstF (Fr.check (Fr.head f)) fi x b w 32 wr) => burst_read he HWf.out.2.2.1 (by rw [← hL]; exact hfl) hx h)
  have HUn := Lib.hid (un_run f)
  obtain ⟨l, hl⟩ : ∃ l, l = Fr.check (Fr.head f) := ⟨_, rfl⟩
  rw [← hl] at hL HRead HUn
  have HErr := Lib.hid he
  obtain ⟨er, her⟩ : ∃ er, er = Fr.err f := ⟨_, rfl⟩
  obtain ⟨rn, hrn⟩ : ∃ rn, rn = Fr.run f := ⟨_, rfl⟩
  rw [← her, ← hrn] at HE
  rw [← hrn] at hr6 h22 hLr HUn
  have her0 : er = 0 := her.trans he
  have hL1 : 1 ≤ L := by omega
  have hlc2 : (rn.length : Int) ≤ 2200 := by omega
  have hLi : (L : Int) ≤ 2200 := by omega
  have HL := Lib.hid hL
  clear her hrn hl he hL
  go_enter Tryz.func5, Tryz.ntmps5
  go_wp2_with fail
  rw [HW0.out]
  refine HE.out.mono ?_
  rintro e w1 (⟨-, q, cap, rfl, hh, hb1⟩ | ⟨hz, -, -⟩)
  case inr => exact absurd her0 hz
  obtain ⟨g, rfl, hm, -⟩ := has_someU hh (by simp)
  obtain ⟨hmid, hf0, hl0, hcap⟩ := mid_at hm
  have HB1 := Lib.hid (HB0.out.trans (hb1.mono HB0.out.size))
  have hol : (0 :: (rn ++ [0])).length = rn.length + 2 := by simp
  rw [hol]
  have g1 : decide ((rn.length : Int) + 2 < 3) = false := decide_eq_false (by omega)
  have s1 : ∀ w', (Instr.slice 25 (.slice (some ⟨g, 0, none⟩) (rn.length + 2) cap) (some (.int .i64 1)) (some (.int .i64 ((rn.length : Int) + 1))) none).run Tryz.prog w' = .ok (.slice (some ⟨g, 1, none⟩) rn.length (cap - 1)) w' := fun w' => run_mid g rn.length cap hcap w'
  have hU := refUnstuff_any (some ⟨g, 1, none⟩) (cap - 1) rn (by omega) w1 hmid
  rw [HUn.out] at hU
  have HU := Lib.hid hU
  clear hh hb1 hm hmid hf0 hl0 HE her0 hol hU
  go_wp2_with fail
  refine HU.out.mono ?_
  rintro e w2 ⟨v, rfl, hh2, hb2⟩
  rcases hh2.form with ⟨-, hnil⟩ | ⟨b, d, rfl, hm2⟩
  · exfalso
    have := HL.out
    rw [show l = [] from hnil] at this
    simp at this
    omega
  have HB2 := Lib.hid (HB1.out.trans (hb2.mono HB1.out.size))
  have hbl : w.heap.size ≤ b := Nat.le_trans HB1.out.size hm2.base.1
  have HI : Hid (BurstF l fi x b w 0 w2) := ⟨l, hm2.free, rfl, HB2.out, by simp [Nat.mod_one]⟩
  have HD : Hid (L ≤ d) := by rw [HL.out]; exact hm2.base.2.2
  rw [show (0, l).2.length = L from HL.out.symm]
  clear hh2 hm2 hb2 HU s1 hcap
  have t0 := turned_0 x (8 * L - fi)
  rw [show ((((0 : Nat), l).1 : Nat) : Int) = 0 from rfl]
  have g2 : ((8 * (L : Int)) == 0) = false := beq_f (by omega)
  go_wp2_with fail
  clear hfi
  try generalize ((fi : Int) - 8 * (L : Int)) = zz
  go_loopw [13, 14] (fun v13 v14 wr => ∃ (k : Nat), k ≤ 32 ∧ v13 = .bool (turned x k (8 * L - fi)) ∧ v14 = .int .i64 k ∧ Hid (BurstF l fi x b w k wr)) (fun _ v14 _ => 32 - (intOf v14).toNat)
  case atStart => exact ⟨0, by omega, by rw [t0], rfl, HI⟩
  case round =>
    obtain ⟨k, hk, rfl, rfl, HK⟩ := hrel
    clear t0
    by_cases hk32 : k < 32
    · by_cases hin : fi + k < 8 * L
      · by_cases hbit : x / 2 ^ k % 2 = 1
        · obtain ⟨y, hcell, hthaw, hnext⟩ := burstF_turn hbl HK.out (by rw [← HL.out]; exact hin) hbit
          have HN := Lib.hid hnext
          have HT := Lib.hid (turned_turn (u := x) (m := 8 * L - fi) (by omega) hbit)
          have hb1 : (((x : Int) / 2 ^ k).tmod 2 == 1) = true := by rw [bit_ofF, decide_eq_true hbit]
          clear hnext hbit HK
          generalize turned x k (8 * L - fi) = tt
          go_wp2
          go_roundw
          case rel => exact ⟨k + 1, by omega, by rw [HT.out], by go_num, HN⟩
          case measure => simp [intOf]; omega
        · have HN := Lib.hid (burstF_keep HK.out (by rw [← HL.out]; exact hin) hbit)
          have HT := Lib.hid (turned_keep (u := x) (m := 8 * L - fi) (by omega) hbit)
          have hb1 : (((x : Int) / 2 ^ k).tmod 2 == 1) = false := by rw [bit_ofF, decide_eq_false hbit]
          clear hbit HK
          rw [← HT.out]
          generalize hTT : turned x (k + 1) (8 * L - fi) = tt
          have HTT := Lib.hid hTT.symm
          clear hTT HT
          go_wp2
          go_roundw
          case rel => exact ⟨k + 1, by omega, by rw [HTT.out], by go_num, HN⟩
          case measure => simp [intOf]; omega
      · have HN := Lib.hid (burstF_out HK.out (by rw [← HL.out]; omega))
        have HT := Lib.hid (turned_out (u := x) (k := k) (m := 8 * L - fi) (by omega))
        have hb1 : decide ((fi : Int) + (k : Int) < 8 * (L : Int)) = false := decide_eq_false (by omega)
        clear HK
        rw [← HT.out]
        generalize hTT : turned x (k + 1) (8 * L - fi) = tt
        have HTT := Lib.hid hTT.symm
        clear hTT HT
        go_wp2
        go_roundw
        case rel => exact ⟨k + 1, by omega, by rw [HTT.out], by go_num, HN⟩
        case measure => simp [intOf]; omega
    · have hk2 : k = 32 := by omega
      subst hk2
      obtain ⟨xs, hO, hxl, hBr, hrd⟩ := HRead.out b wr HK.out
      rw [← HL.out] at hxl hrd
      have HBr := Lib.hid hBr
      have hS := refStuff_any (some ⟨b, 0, none⟩) d xs (by omega) wr hO.at
      rw [hxl] at hS
      have HS := Lib.hid hS
      have HRd := Lib.hid hrd
      have HXl := Lib.hid hxl
      have hLs : (Cob.stuff xs).length ≤ 1000000 := by have := (Cob.stuff_length xs).2; omega
      clear HK hO hBr hS hrd hk hk32 HRead hxl
      generalize turned x 32 (8 * L - fi) = tt at HRd ⊢
      go_wp2_with fail
      refine HS.out.mono ?_
      rintro e w3 ⟨g3, cap3, rfl, hm3, hb3⟩
      have HB3 := Lib.hid (HBr.out.trans (hb3.mono HBr.out.size))
      have HDc := Lib.hid (decodeF (some ⟨g3, 0, none⟩) cap3 (Cob.stuff xs) (by omega) hm3.base.2.2 w3 (HHv.out.next HB3.out) hm3.at)
      obtain ⟨ys, hys⟩ : ∃ ys, ys = Cob.stuff xs := ⟨_, rfl⟩
      rw [← hys] at HDc HRd hLs ⊢
      clear hm3 hb3 HS hys
      rcases HRd.out with ⟨rfl, hd⟩ | ⟨rfl, hd⟩
      · rw [hd] at HDc
        clear HRd hd
        go_wp2_with fail
        refine HDc.out.mono ?_
        rintro e w4 ⟨u4, rfl, hf4, hb4⟩
        have HB4 := Lib.hid (HB3.out.trans (hb4.mono HB3.out.size))
        obtain ⟨sp2, sc2, bp2, bc2, ep2, ec2, hu2, -⟩ := hf4.lies.out
        unfold cells11 at hu2
        subst hu2
        have HBA : Hid (∀ o, Below w.heap.size w (w4.alloc o)) := fun o => HB4.out.alloc HB4.out.size _
        clear hf4 hb4 HDc
        generalize (Fr.norm f).kind = n0
        generalize (Fr.norm f).number = n1
        generalize (Fr.norm f).cols.length = n2
        generalize (Fr.norm f).seq = n3
        generalize (Fr.norm f).first = n4
        generalize (Fr.norm f).rows = n5
        generalize (Fr.norm f).block.length = n6
        generalize (Fr.norm f).index.at_ = n7
        generalize (Fr.norm f).index.frames = n8
        generalize (Fr.norm f).index.rows = n9
        generalize (Fr.norm f).index.entries.length = n10
        go_wp2_with fail
        refine (live12 _ (HHv.out.next (HBA.out _))).mono ?_
        rintro e w5 ⟨rfl, hb5⟩
        have HB5 := Lib.hid ((HBA.out _).trans (hb5.mono (HBA.out _).size))
        clear hb5
        go_wp2
        go_ret
        exact ⟨rfl, HB5.out⟩
      · rw [hd] at HDc
        clear HRd hd
        by_cases hlong : 2200 < ys.length
        · rw [if_pos hlong] at HDc
          have gl : decide ((2200 : Int) < (ys.length : Int)) = true := decide_eq_true (by omega)
          clear hlong
          go_wp2_with fail
          refine HDc.out.mono ?_
          rintro e w4 ⟨rfl, hb4⟩
          have HB4 := Lib.hid (HB3.out.trans (hb4.mono HB3.out.size))
          have HBA : Hid (∀ o, Below w.heap.size w (w4.alloc o)) := fun o => HB4.out.alloc HB4.out.size _
          clear hb4 HDc
          go_wp2_with fail
          refine (live12 _ (HHv.out.next (HBA.out _))).mono ?_
          rintro e w5 ⟨rfl, hb5⟩
          have HB5 := Lib.hid ((HBA.out _).trans (hb5.mono (HBA.out _).size))
          clear hb5
          go_wp2
          go_ret
          exact ⟨rfl, HB5.out⟩
        · rw [if_neg hlong] at HDc
          clear hlong
          go_wp2_with fail
          refine HDc.out.mono ?_
          rintro e w4 ⟨rfl, hb4⟩
          have HB4 := Lib.hid (HB3.out.trans (hb4.mono HB3.out.size))
          have HBA : Hid (∀ o, Below w.heap.size w (w4.alloc o)) := fun o => HB4.out.alloc HB4.out.size _
          clear hb4 HDc
          go_wp2_with fail
          refine (live12 _ (HHv.out.next (HBA.out _))).mono ?_
          rintro e w5 ⟨rfl, hb5⟩
          have HB5 := Lib.hid ((HBA.out _).trans (hb5.mono (HBA.out _).size))
          clear hb5
          go_wp2
          go_ret
          exact ⟨rfl, HB5.out⟩

theorem frameBurst_any (f : Fr) (hwf : f.wf) (u : Array Value) (a : Int) (x : Int) (hx : (Lit.int .u32 x).wf = true) (w : World) (hv : Hv w) (hf : FLies w u f) :
    Calls Tryz.prog 5 #[.agg u, .int .i64 a, .int .u32 x] w fun e w' => e = .returned (.bool true) ∧ Below w.heap.size w w' := by
  have e1 : IntKind.u32.min = 0 := rfl
  have e2 : IntKind.u32.max = 4294967295 := rfl
  simp only [Lit.wf, e1, e2, Bool.and_eq_true, decide_eq_true_eq] at hx
  obtain ⟨n, rfl⟩ : ∃ n : Nat, x = (n : Int) := ⟨x.toNat, by omega⟩
  by_cases he : Fr.err f = 0
  · obtain ⟨L, hL⟩ : ∃ L, L = (Fr.check (Fr.head f)).length := ⟨_, rfl⟩
    have hL0 : 0 < L := by rw [hL, Fr.check_length]; omega
    have h1 := Int.tmod_lt_of_pos a (show (0 : Int) < 8 * L by omega)
    have h2 := Int.lt_tmod_of_pos a (show (0 : Int) < 8 * L by omega)
    by_cases hneg : a.tmod (8 * L) < 0
    · exact frameBurst_neg f hwf he u a L (a.tmod (8 * L) + 8 * L).toNat hL (by omega) (by omega) n (by omega) w hv hf
    · exact frameBurst_pos f hwf he u a L (a.tmod (8 * L)).toNat hL (by omega) (by omega) n (by omega) w hv hf
  · exact frameBurst_bad f hwf he u a n w hv hf
end Go.Proofs.YtclhbhhlddbocaaGreatDoor
