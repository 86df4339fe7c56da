/- WR12W, WR12B, WR12X: put together. -/
import Derived.Test.YtclhbhhlddbocaaGreatDoorWR12E
import Derived.Test.YtclhbhhlddbocaaGreatDoorB03
import Derived.Test.YtclhbhhlddbocaaGreatDoorK12C
import Derived.Test.YtclhbhhlddbocaaGreatDoorK12E
import Derived.Test.YtclhbhhlddbocaaGreatDoorK12D

/- The document's frame: Wrong, Checked. -/
namespace Go.Proofs.YtclhbhhlddbocaaGreatDoor
open Go.RowKit

set_option maxRecDepth 100000 in
set_option maxHeartbeats 4000000 in
theorem refWrong_1 (f : Fr) (hk : f.kind = 1) (hw : f.wf) (u : Array Value) (w : World) (hx : FLies w u f) :
    Calls Tryz.prog 48 #[.agg u] w fun e w' => e = .returned (.int .i64 (Fr.err0 f : Nat)) ∧ Below w.heap.size w w' := by
  obtain ⟨sp, sc, bp, bc, ep, ec, rfl, h1, h2, h3, h4, h5, h6, h7, h8, h9⟩ := hx.out
  unfold cells11
  obtain ⟨R, hR⟩ : ∃ R, R = Fr.err0 f := ⟨_, rfl⟩
  rw [← hR]
  unfold Fr.err0 at hR
  rw [if_pos hk] at hR
  rw [hk]
  obtain ⟨w0, hw0⟩ : ∃ w0, w0 = w.alloc (.cells #[.int .i64 1, .int .i64 f.number, .slice sp f.cols.length sc, .int .i64 f.seq, .int .i64 f.first, .int .i64 f.rows, .slice bp f.block.length bc, .int .i64 f.index.at_, .int .i64 f.index.frames, .int .i64 f.index.rows, .slice ep f.index.entries.length ec] 30) := ⟨_, rfl⟩
  have HB0 : Hid (Below w.heap.size w w0) := by rw [hw0]; exact (Below.refl _ _).alloc (Nat.le_refl _) _
  have HW : Hid (w.alloc (.cells #[.int .i64 1, .int .i64 f.number, .slice sp f.cols.length sc, .int .i64 f.seq, .int .i64 f.first, .int .i64 f.rows, .slice bp f.block.length bc, .int .i64 f.index.at_, .int .i64 f.index.frames, .int .i64 f.index.rows, .slice ep f.index.entries.length ec] 30) = w0) := by rw [hw0]; exact rfl
  have hK0 : w0.heap[w.heap.size]? = some (.cells #[.int .i64 1, .int .i64 f.number, .slice sp f.cols.length sc, .int .i64 f.seq, .int .i64 f.first, .int .i64 f.rows, .slice bp f.block.length bc, .int .i64 f.index.at_, .int .i64 f.index.frames, .int .i64 f.index.rows, .slice ep f.index.entries.length ec] 30 (0, 0)) := by rw [hw0]; exact blk_new w _
  have y0 := blk_cell hK0 0
  have y1 := blk_cell hK0 1
  have y2 := blk_cell hK0 2
  have y3 := blk_cell hK0 3
  have y4 := blk_cell hK0 4
  have y5 := blk_cell hK0 5
  have y7 := blk_cell hK0 7
  have y8 := blk_cell hK0 8
  have y9 := blk_cell hK0 9
  have y10 := blk_cell hK0 10
  simp only [List.getElem?_toArray, List.getElem?_cons_zero, List.getElem?_cons_succ] at y0 y1 y2 y3 y4 y5 y7 y8 y9 y10
  clear hw0 hK0
  have HC := Lib.hid (refCheck7 f.cols sp sc w0 h1 h2 (h3.on HB0.out) hw.2.2.1)
  have H1 := Lib.hid (refWithin f.number 2147483648 w0)
  have HR := Lib.hid hR
  have HN : Hid (Fr.N = 2147483648) := rfl
  rw [HN.out] at HR
  generalize Fr.within 2147483648 f.number = t1 at H1 HR
  generalize Sch.err f.cols = er at HC HR
  clear hR hx h3 h6 h9 hw hk
  go_enter Tryz.func48, Tryz.ntmps48
  go_wp2_with fail
  rw [HW.out]
  refine H1.out.mono ?_
  rintro e w1 ⟨rfl, hw1⟩
  rw [hw1]
  clear hw1 w1 H1
  cases t1 with
  | false =>
    rw [if_pos rfl] at HR
    go_wp2
    go_ret
    exact ⟨by rw [HR.out]; rfl, HB0.out⟩
  | true =>
    rw [if_neg (by decide)] at HR
    go_wp2_with fail
    refine HC.out.mono ?_
    rintro e w1 ⟨rfl, hb1⟩
    have HB1 := Lib.hid (HB0.out.trans (hb1.mono HB0.out.size))
    clear hb1 HC
    go_wp2
    go_ret
    exact ⟨by rw [HR.out]; rfl, HB1.out⟩
set_option maxRecDepth 100000 in
set_option maxHeartbeats 4000000 in
theorem refWrong_2 (f : Fr) (hk : f.kind = 2) (u : Array Value) (w : World) (hx : FLies w u f) :
    Calls Tryz.prog 48 #[.agg u] w fun e w' => e = .returned (.int .i64 (Fr.err0 f : Nat)) ∧ Below w.heap.size w w' := by
  obtain ⟨sp, sc, bp, bc, ep, ec, rfl, h1, h2, h3, h4, h5, h6, h7, h8, h9⟩ := hx.out
  unfold cells11
  obtain ⟨R, hR⟩ : ∃ R, R = Fr.err0 f := ⟨_, rfl⟩
  rw [← hR]
  unfold Fr.err0 at hR
  rw [if_neg (by omega), if_pos hk] at hR
  rw [hk]
  obtain ⟨w0, hw0⟩ : ∃ w0, w0 = w.alloc (.cells #[.int .i64 2, .int .i64 f.number, .slice sp f.cols.length sc, .int .i64 f.seq, .int .i64 f.first, .int .i64 f.rows, .slice bp f.block.length bc, .int .i64 f.index.at_, .int .i64 f.index.frames, .int .i64 f.index.rows, .slice ep f.index.entries.length ec] 30) := ⟨_, rfl⟩
  have HB0 : Hid (Below w.heap.size w w0) := by rw [hw0]; exact (Below.refl _ _).alloc (Nat.le_refl _) _
  have HW : Hid (w.alloc (.cells #[.int .i64 2, .int .i64 f.number, .slice sp f.cols.length sc, .int .i64 f.seq, .int .i64 f.first, .int .i64 f.rows, .slice bp f.block.length bc, .int .i64 f.index.at_, .int .i64 f.index.frames, .int .i64 f.index.rows, .slice ep f.index.entries.length ec] 30) = w0) := by rw [hw0]; exact rfl
  have hK0 : w0.heap[w.heap.size]? = some (.cells #[.int .i64 2, .int .i64 f.number, .slice sp f.cols.length sc, .int .i64 f.seq, .int .i64 f.first, .int .i64 f.rows, .slice bp f.block.length bc, .int .i64 f.index.at_, .int .i64 f.index.frames, .int .i64 f.index.rows, .slice ep f.index.entries.length ec] 30 (0, 0)) := by rw [hw0]; exact blk_new w _
  have y0 := blk_cell hK0 0
  have y1 := blk_cell hK0 1
  have y2 := blk_cell hK0 2
  have y3 := blk_cell hK0 3
  have y4 := blk_cell hK0 4
  have y5 := blk_cell hK0 5
  have y7 := blk_cell hK0 7
  have y8 := blk_cell hK0 8
  have y9 := blk_cell hK0 9
  have y10 := blk_cell hK0 10
  simp only [List.getElem?_toArray, List.getElem?_cons_zero, List.getElem?_cons_succ] at y0 y1 y2 y3 y4 y5 y7 y8 y9 y10
  clear hw0 hK0
  have H1 := Lib.hid (refWithin f.number 2147483648 w0)
  have H2 := Lib.hid (refWithin f.seq 1099511627776 w0)
  have H3 := Lib.hid (refWithin f.first 1099511627776 w0)
  have HR := Lib.hid hR
  have HN : Hid (Fr.N = 2147483648) := rfl
  have HS : Hid (Fr.S = 1099511627776) := rfl
  rw [HN.out, HS.out] at HR
  generalize Fr.within 2147483648 f.number = t1 at H1 HR
  generalize Fr.within 1099511627776 f.seq = t2 at H2 HR
  generalize Fr.within 1099511627776 f.first = t3 at H3 HR
  clear hR hx h3 h6 h9 hk HN HS
  go_enter Tryz.func48, Tryz.ntmps48
  go_wp2_with fail
  rw [HW.out]
  refine H1.out.mono ?_
  rintro e w1 ⟨rfl, hw1⟩
  rw [hw1]
  clear hw1 w1 H1
  go_wp2_with fail
  refine H2.out.mono ?_
  rintro e w1 ⟨rfl, hw1⟩
  rw [hw1]
  clear hw1 w1 H2
  go_wp2_with fail
  refine H3.out.mono ?_
  rintro e w1 ⟨rfl, hw1⟩
  rw [hw1]
  clear hw1 w1 H3
  by_cases hall : (t1 && t2 && t3) = true
  · rw [hall, Bool.true_and] at HR
    obtain ⟨rfl, rfl, rfl⟩ := three_all hall
    clear hall
    by_cases k1 : f.rows < 1
    · rw [if_pos (decide_eq_false (by omega))] at HR
      go_wp2
      go_ret
      exact ⟨by rw [HR.out]; rfl, HB0.out⟩
    · by_cases k2 : 64 < f.rows
      · rw [if_pos (decide_eq_false (by omega))] at HR
        go_wp2
        go_ret
        exact ⟨by rw [HR.out]; rfl, HB0.out⟩
      · rw [if_neg (by rw [decide_eq_true (by omega)]; decide)] at HR
        go_wp2
        go_ret
        exact ⟨by rw [HR.out]; rfl, HB0.out⟩
  · have hff : (t1 && t2 && t3) = false := Bool.eq_false_iff.2 hall
    rw [if_pos (by rw [hff, Bool.false_and])] at HR
    clear hff
    have hne := three_not hall
    clear hall
    rcases hne with rfl | ⟨rfl, rfl⟩ | ⟨rfl, rfl, rfl⟩
    all_goals
      go_wp2
      go_ret
      exact ⟨by rw [HR.out]; rfl, HB0.out⟩
set_option maxRecDepth 100000 in
set_option maxHeartbeats 4000000 in
theorem refWrong_3 (f : Fr) (hk : f.kind = 3) (u : Array Value) (w : World) (hx : FLies w u f) :
    Calls Tryz.prog 48 #[.agg u] w fun e w' => e = .returned (.int .i64 (Fr.err0 f : Nat)) ∧ Below w.heap.size w w' := by
  obtain ⟨sp, sc, bp, bc, ep, ec, rfl, h1, h2, h3, h4, h5, h6, h7, h8, h9⟩ := hx.out
  unfold cells11
  obtain ⟨R, hR⟩ : ∃ R, R = Fr.err0 f := ⟨_, rfl⟩
  rw [← hR]
  unfold Fr.err0 at hR
  rw [if_neg (by omega), if_neg (by omega), if_pos hk] at hR
  rw [hk]
  obtain ⟨w0, hw0⟩ : ∃ w0, w0 = w.alloc (.cells #[.int .i64 3, .int .i64 f.number, .slice sp f.cols.length sc, .int .i64 f.seq, .int .i64 f.first, .int .i64 f.rows, .slice bp f.block.length bc, .int .i64 f.index.at_, .int .i64 f.index.frames, .int .i64 f.index.rows, .slice ep f.index.entries.length ec] 30) := ⟨_, rfl⟩
  have HB0 : Hid (Below w.heap.size w w0) := by rw [hw0]; exact (Below.refl _ _).alloc (Nat.le_refl _) _
  have HW : Hid (w.alloc (.cells #[.int .i64 3, .int .i64 f.number, .slice sp f.cols.length sc, .int .i64 f.seq, .int .i64 f.first, .int .i64 f.rows, .slice bp f.block.length bc, .int .i64 f.index.at_, .int .i64 f.index.frames, .int .i64 f.index.rows, .slice ep f.index.entries.length ec] 30) = w0) := by rw [hw0]; exact rfl
  have hK0 : w0.heap[w.heap.size]? = some (.cells #[.int .i64 3, .int .i64 f.number, .slice sp f.cols.length sc, .int .i64 f.seq, .int .i64 f.first, .int .i64 f.rows, .slice bp f.block.length bc, .int .i64 f.index.at_, .int .i64 f.index.frames, .int .i64 f.index.rows, .slice ep f.index.entries.length ec] 30 (0, 0)) := by rw [hw0]; exact blk_new w _
  have y0 := blk_cell hK0 0
  have y1 := blk_cell hK0 1
  have y2 := blk_cell hK0 2
  have y3 := blk_cell hK0 3
  have y4 := blk_cell hK0 4
  have y5 := blk_cell hK0 5
  have y7 := blk_cell hK0 7
  have y8 := blk_cell hK0 8
  have y9 := blk_cell hK0 9
  have y10 := blk_cell hK0 10
  simp only [List.getElem?_toArray, List.getElem?_cons_zero, List.getElem?_cons_succ] at y0 y1 y2 y3 y4 y5 y7 y8 y9 y10
  clear hw0 hK0
  have HC := Lib.hid (refIndex f.index.at_ f.index.frames f.index.rows f.index.entries ep ec w0 h7 (h9.on HB0.out))
  have HD : Hid (Fr.idxErr ⟨f.index.at_, f.index.frames, f.index.rows, f.index.entries⟩ = Fr.idxErr f.index) := rfl
  rw [HD.out, ← hR] at HC
  clear hR hx h3 h6 h9 hk HD
  go_enter Tryz.func48, Tryz.ntmps48
  go_wp2_with fail
  rw [HW.out]
  refine HC.out.mono ?_
  rintro e w1 ⟨rfl, hb1⟩
  have HB1 := Lib.hid (HB0.out.trans (hb1.mono HB0.out.size))
  clear hb1 HC
  go_wp2
  go_ret
  exact ⟨rfl, HB1.out⟩
set_option maxRecDepth 100000 in
set_option maxHeartbeats 4000000 in
theorem refWrong_0 (f : Fr) (g1 : f.kind ≠ 1) (g2 : f.kind ≠ 2) (g3 : f.kind ≠ 3) (u : Array Value) (w : World) (hx : FLies w u f) :
    Calls Tryz.prog 48 #[.agg u] w fun e w' => e = .returned (.int .i64 (Fr.err0 f : Nat)) ∧ Below w.heap.size w w' := by
  obtain ⟨sp, sc, bp, bc, ep, ec, rfl, h1, h2, h3, h4, h5, h6, h7, h8, h9⟩ := hx.out
  unfold cells11
  obtain ⟨R, hR⟩ : ∃ R, R = Fr.err0 f := ⟨_, rfl⟩
  rw [← hR]
  unfold Fr.err0 at hR
  rw [if_neg g1, if_neg g2, if_neg g3] at hR
  subst hR
  have HB0 : Hid (∀ o, Below w.heap.size w (w.alloc o)) := fun o => (Below.refl _ _).alloc (Nat.le_refl _) _
  have k1 := beq_f g1
  have k2 := beq_f g2
  have k3 := beq_f g3
  clear g1 g2 g3 hx
  go_enter Tryz.func48, Tryz.ntmps48
  go_wp2
  go_ret
  exact ⟨rfl, HB0.out _⟩
/-- P12.1, but for its last error, of the document -/
theorem refWrong (f : Fr) (hw : f.wf) (u : Array Value) (w : World) (hx : FLies w u f) :
    Calls Tryz.prog 48 #[.agg u] w fun e w' => e = .returned (.int .i64 (Fr.err0 f : Nat)) ∧ Below w.heap.size w w' := by
  by_cases h1 : f.kind = 1
  · exact refWrong_1 f h1 hw u w hx
  by_cases h2 : f.kind = 2
  · exact refWrong_2 f h2 u w hx
  by_cases h3 : f.kind = 3
  · exact refWrong_3 f h3 u w hx
  exact refWrong_0 f h1 h2 h3 u w hx

theorem le_len12 (n : Nat) : (Sch.le 4 n).length = 4 := by simp [Sch.le]
theorem le_take (n k : Nat) (h : k < 4) : (Sch.le 4 n).take (k + 1) = (Sch.le 4 n).take k ++ [UInt8.ofNat (n / 256 ^ k % 256)] := by
  have e : Sch.le 4 n = [UInt8.ofNat (n / 256 ^ 0 % 256), UInt8.ofNat (n / 256 ^ 1 % 256), UInt8.ofNat (n / 256 ^ 2 % 256), UInt8.ofNat (n / 256 ^ 3 % 256)] := by
    simp [Sch.le, Nat.div_div_eq_div_mul]
  rw [e]
  match k, h with
  | 0, _ => rfl
  | 1, _ => rfl
  | 2, _ => rfl
  | 3, _ => rfl

set_option maxRecDepth 100000 in
set_option maxHeartbeats 2000000 in
theorem refChecked (p : Option Addr) (c : Nat) (l : List UInt8) (hl : l.length ≤ 140737488351232) (w : World) (h : At w p l) :
    Calls Tryz.prog 98 #[.slice p l.length c] w fun e w' => ∃ q cap, e = .returned (.slice q (Fr.check l).length cap) ∧ Has w' w.heap.size (.slice q (Fr.check l).length cap) (Fr.check l) ∧ Below w.heap.size w w' := by
  have HS := Lib.hid (refSum_any p c l hl w h)
  have HA := Lib.hid h
  have HE : Hid (has_nil w w.heap.size = has_nil w w.heap.size) := rfl
  have hS32 : Crc.sum l < 4294967296 := Crc.update_lt (by omega) l
  obtain ⟨S, hS⟩ : ∃ S, S = Crc.sum l := ⟨_, rfl⟩
  rw [← hS] at HS hS32
  have HSm := Lib.hid hS
  clear h hS HE
  go_enter Tryz.func98, Tryz.ntmps98
  go_wp2_with fail
  refine HS.out.mono ?_
  rintro e w1 ⟨rfl, hw1⟩
  rw [hw1]
  clear hw1 w1 HS
  go_wp2_with (first
    | (at_builtin
       refine wp_ontoL (has_nil w w.heap.size) HA.out (by simp; omega) (Nat.le_refl _) rfl rfl rfl rfl rfl ?_
       intro ys q3 cap3 W HY hh ha hk2
       have HB2 := Lib.hid (aside_low ha (has_nil w w.heap.size) (Nat.le_refl _))
       have HH := Lib.hid hh
       clear ha hk2 hh)
    | fail)
  have HY2 : Hid (ys = l) := by show _ = _; rw [HY.out]; rfl
  clear HY
  have HYL : Hid (ys.length ≤ l.length + 0) := by show _ ≤ _; rw [HY2.out]; exact Nat.le_refl _
  go_loopw [3, 4, 5] (fun v3 v4 v5 wr => ∃ (k : Nat) (m : Nat) (xs : List UInt8), k ≤ 4 ∧ v5 = .int .i64 k ∧ v3 = .int .u32 (m : Nat) ∧ m < 4294967296 ∧ xs.length ≤ l.length + k ∧ Hid (m = S / 256 ^ k ∧ xs = l ++ (Sch.le 4 S).take k ∧ Has wr w.heap.size v4 xs ∧ Below w.heap.size w wr)) (fun _ _ v5 _ => 4 - (intOf v5).toNat)
  case atStart => exact ⟨0, S, ys, by omega, rfl, rfl, hS32, HYL.out, by simp, by rw [HY2.out]; simp, HH.out, HB2.out⟩
  case round =>
    obtain ⟨k, m, xs, hk, rfl, rfl, hm, hxl, HK⟩ := hrel
    have hB := HK.out.2.2.2.size
    have HO := Lib.hid HK.out.2.2.1
    by_cases hlt : k < 4
    · have hlt' : (k : Int) < 4 := by omega
      have hm2 : m / 256 < 4294967296 := by omega
      have hc8 : (UInt8.ofNat (m % 256)).toNat = m % 256 := by rw [UInt8.toNat_ofNat']; omega
      have HN : Hid (m / 256 = S / 256 ^ (k + 1)) := by show _ = _; rw [HK.out.1, Nat.div_div_eq_div_mul, Nat.pow_succ]
      have HX : Hid (xs ++ [UInt8.ofNat (m % 256)] = l ++ (Sch.le 4 S).take (k + 1)) := by show _ = _; rw [le_take S k hlt, HK.out.2.1, HK.out.1, List.append_assoc]
      go_wp2_with (first
        | (at_builtin
           refine wp_push HO.out (UInt8.ofNat (m % 256)) (by omega) hB (by rw [hc8]; omega) rfl rfl rfl rfl rfl ?_
           intro g3 cap3' W3 hm3 hb3
           have HM3 := Lib.hid hm3
           have HB3 := Lib.hid hb3
           clear hm3 hb3)
        | fail)
      go_roundw
      case rel =>
        refine ⟨k + 1, m / 256, xs ++ [UInt8.ofNat (m % 256)], by omega, by go_num, by go_num, hm2, by simp; omega, HN.out, HX.out, ?_, HK.out.2.2.2.trans HB3.out⟩
        have := HM3.out.has
        rw [List.length_append] at this
        exact this
      case measure => simp [intOf]; omega
    · have hkk : k = 4 := by omega
      subst hkk
      have HX : Hid (xs = Fr.check l) := by
        show _ = _
        rw [HK.out.2.1, HSm.out, Fr.check, List.take_of_length_le (by rw [le_len12]; exact Nat.le_refl _)]
      obtain ⟨q, cap, rfl, -, -⟩ := HO.out.at
      go_wp2
      go_ret
      rw [← HX.out]
      exact ⟨q, cap, rfl, HO.out, HK.out.2.2.2⟩
end Go.Proofs.YtclhbhhlddbocaaGreatDoor

/- The document's frame: Body. -/
namespace Go.Proofs.YtclhbhhlddbocaaGreatDoor
open Go.RowKit

theorem has_slice {w : World} {B n c : Nat} {q : Option Addr} {l : List UInt8} (h : Has w B (.slice q n c) l) : At w q l := by
  obtain ⟨p', c', he, ha, -⟩ := h.at
  injection he with e1
  subst e1
  exact ha
/-- what the document's Body tells -/
def BodyV (w : World) (l : List UInt8) (e : Ending) (w' : World) : Prop := ∃ q cap, e = .returned (.slice q l.length cap) ∧ Has w' w.heap.size (.slice q l.length cap) l ∧ Below w.heap.size w w'

set_option maxRecDepth 100000 in
set_option maxHeartbeats 8000000 in
theorem refBody_2 (f : Fr) (hk : f.kind = 2) (hbk : f.block.length ≤ 1048576) (hw : f.wf) (he : Fr.err0 f = 0) (u : Array Value) (w : World) (hx : FLies w u f) :
    Calls Tryz.prog 49 #[.agg u] w (BodyV w (Fr.check (Fr.head f))) := by
  obtain ⟨sp, sc, bp, bc, ep, ec, rfl, h1, h2, h3, h4, h5, h6, h7, h8, h9⟩ := hx.out
  unfold cells11
  obtain ⟨w0, hw0⟩ : ∃ w0, w0 = w.alloc (.cells #[.int .i64 2, .int .i64 f.number, .slice sp f.cols.length sc, .int .i64 f.seq, .int .i64 f.first, .int .i64 f.rows, .slice bp f.block.length bc, .int .i64 f.index.at_, .int .i64 f.index.frames, .int .i64 f.index.rows, .slice ep f.index.entries.length ec] 30) := ⟨_, rfl⟩
  have hz0 : w0.heap.size = w.heap.size + 1 := by rw [hw0]; simp
  have HB0 : Hid (Below w.heap.size w w0) := by rw [hw0]; exact (Below.refl _ _).alloc (Nat.le_refl _) _
  have hK0 : w0.heap[w.heap.size]? = some (.cells #[.int .i64 2, .int .i64 f.number, .slice sp f.cols.length sc, .int .i64 f.seq, .int .i64 f.first, .int .i64 f.rows, .slice bp f.block.length bc, .int .i64 f.index.at_, .int .i64 f.index.frames, .int .i64 f.index.rows, .slice ep f.index.entries.length ec] 30 (0, 0)) := by rw [hw0]; exact blk_new w _
  obtain ⟨w1, hw1⟩ : ∃ w1, w1 = w0.alloc (.cells #[.int .u8 2] 5) := ⟨_, rfl⟩
  have hz1 : w1.heap.size = w.heap.size + 2 := by rw [hw1]; simp [hz0]
  have HB01 : Hid (Below w0.heap.size w0 w1) := by rw [hw1]; exact (Below.refl _ _).alloc (Nat.le_refl _) _
  have HL1 : Hid (Has w1 w0.heap.size (.slice (some ⟨w.heap.size + 1, 0, none⟩) 1 1) [2]) := by
    have := has_lit (B := w0.heap.size) (w := w0) [2] (C := #[.int .u8 2]) rfl (Nat.le_refl _) (by simp)
    rw [← hw1] at this
    show Has _ _ _ _
    rw [hz0] at this ⊢
    exact this
  obtain ⟨w2, hw2⟩ : ∃ w2, w2 = w1.alloc (.cells #[.int .i64 f.number, .int .i64 f.seq, .int .i64 f.first, .int .i64 f.rows] 2) := ⟨_, rfl⟩
  have HB12 : Hid (Below w1.heap.size w1 w2) := by rw [hw2]; exact (Below.refl _ _).alloc (Nat.le_refl _) _
  have HW : Hid (((w.alloc (.cells #[.int .i64 2, .int .i64 f.number, .slice sp f.cols.length sc, .int .i64 f.seq, .int .i64 f.first, .int .i64 f.rows, .slice bp f.block.length bc, .int .i64 f.index.at_, .int .i64 f.index.frames, .int .i64 f.index.rows, .slice ep f.index.entries.length ec] 30)).alloc (.cells #[.int .u8 2] 5)).alloc (.cells #[.int .i64 f.number, .int .i64 f.seq, .int .i64 f.first, .int .i64 f.rows] 2) = w2) := by rw [hw2, hw1, hw0]; exact rfl
  have hin : 0 ≤ f.number ∧ 0 ≤ f.seq ∧ 0 ≤ f.first ∧ 1 ≤ f.rows := by
    unfold Fr.err0 at he
    rw [if_neg (by omega), if_pos hk] at he
    by_cases hb : (Fr.within Fr.N f.number && Fr.within Fr.S f.seq && Fr.within Fr.S f.first && decide (1 ≤ f.rows ∧ f.rows ≤ 64)) = false
    · rw [if_pos hb] at he; omega
    · rw [Bool.not_eq_false] at hb
      simp only [Bool.and_eq_true, Fr.within_iff, decide_eq_true_eq] at hb
      omega
  obtain ⟨v0, v1, v2, v3, v4, v5, v6, v7⟩ := hw
  unfold Fr.i64 at v0 v1 v3 v4 v5
  have hI : Ints w2 (w.heap.size + 2) [f.number, f.seq, f.first, f.rows] := by
    have := ints_new w1 [f.number, f.seq, f.first, f.rows] (C := #[.int .i64 f.number, .int .i64 f.seq, .int .i64 f.first, .int .i64 f.rows]) rfl
    rw [← hw2, hz1] at this
    exact this
  have HP := Lib.hid (refNums (w.heap.size + 2) [f.number, f.seq, f.first, f.rows] (by simp) (fun m hm => by
      simp only [List.mem_cons, List.not_mem_nil, or_false] at hm
      omega) w2 hI)
  have hnl : (Fr.nums [f.number, f.seq, f.first, f.rows]).length ≤ 40 := by
    have g1 := Leb.put_length_le f.number.toNat
    have g2 := Leb.put_length_le f.seq.toNat
    have g3 := Leb.put_length_le f.first.toNat
    have g4 := Leb.put_length_le f.rows.toNat
    simp only [Fr.nums_cons, Fr.nums_nil, List.append_nil, List.length_append]
    omega
  have HHd : Hid (Fr.head f = 2 :: (Fr.nums [f.number, f.seq, f.first, f.rows] ++ f.block)) := by
    show _ = _
    unfold Fr.head Fr.fields
    rw [if_neg (by omega), if_pos hk, hk]
    rfl
  have HB02 : Hid (Below w0.heap.size w0 w2) := HB01.out.trans (HB12.out.mono HB01.out.size)
  have HAt := Lib.hid h6
  rw [hk]
  have HK0 := Lib.hid hK0
  obtain ⟨ns, hns⟩ : ∃ ns, ns = Fr.nums [f.number, f.seq, f.first, f.rows] := ⟨_, rfl⟩
  rw [← hns] at HP hnl HHd
  clear hw0 hw1 hw2 hK0 hx h3 h6 h9 hk he hI hin hns v0 v1 v2 v3 v4 v5 v6 v7
  have hz2 := HB12.out.size
  go_enter Tryz.func49, Tryz.ntmps49
  go_wp2_with fail
  rw [HW.out]
  refine HP.out.mono ?_
  rintro e w3 ⟨p3, cap3, rfl, hh3, hb3⟩
  have HB03 := Lib.hid (HB02.out.trans (hb3.mono HB02.out.size))
  have HB13 := Lib.hid (HB12.out.trans (hb3.mono HB12.out.size))
  have hK3 := (HB03.out.block _ (by omega)).trans HK0.out
  have x0 := blk_cell hK3 0
  have x1 := blk_cell hK3 1
  have x2 := blk_cell hK3 2
  have x3 := blk_cell hK3 3
  have x4 := blk_cell hK3 4
  have x5 := blk_cell hK3 5
  have x6 := blk_cell hK3 6
  have x7 := blk_cell hK3 7
  have x8 := blk_cell hK3 8
  have x9 := blk_cell hK3 9
  have x10 := blk_cell hK3 10
  simp only [List.getElem?_toArray, List.getElem?_cons_zero, List.getElem?_cons_succ] at x0 x1 x2 x3 x4 x5 x6 x7 x8 x9 x10
  have HA3 := Lib.hid (has_slice hh3)
  have HL3 := Lib.hid (HL1.out.on HB13.out)
  have hz3 := HB03.out.size
  clear hh3 hb3 HP HW
  go_wp2_with (first
    | (at_builtin
       refine wp_ontoL HL3.out HA3.out (by first | omega | (simp only [List.length_cons, List.length_nil]; omega)) (by omega) rfl rfl rfl rfl rfl ?_
       intro ys4 q4 cap4 W4 HY4 hh4 ha4 hk4
       have HBy4 := Lib.hid (aside_low ha4 HL3.out (by omega))
       have HHy4 := Lib.hid hh4
       clear ha4 hk4 hh4
       have HB04 : Hid (Below w0.heap.size w0 W4) := HB03.out.trans HBy4.out
       have hK4 := (HB04.out.block _ (by omega)).trans HK0.out
       clear x0 x1 x2 x3 x4 x5 x6 x7 x8 x9 x10
       have x0 := blk_cell hK4 0
       have x1 := blk_cell hK4 1
       have x2 := blk_cell hK4 2
       have x3 := blk_cell hK4 3
       have x4 := blk_cell hK4 4
       have x5 := blk_cell hK4 5
       have x6 := blk_cell hK4 6
       have x7 := blk_cell hK4 7
       have x8 := blk_cell hK4 8
       have x9 := blk_cell hK4 9
       have x10 := blk_cell hK4 10
       simp only [List.getElem?_toArray, List.getElem?_cons_zero, List.getElem?_cons_succ] at x0 x1 x2 x3 x4 x5 x6 x7 x8 x9 x10
       have hy4 : ys4.length ≤ 41 := by rw [HY4.out]; simp; omega
       have hz4 := HB04.out.size
       have HA4 := Lib.hid (HAt.out.on (HB0.out.trans (HB04.out.mono HB0.out.size)))
       clear hK3 hK4)
    | (at_builtin
       refine wp_ontoL HHy4.out HA4.out (by first | omega | (simp only [List.length_cons, List.length_nil]; omega)) (by omega) rfl rfl rfl rfl rfl ?_
       intro ys5 q5 cap5 W5 HY5 hh5 ha5 hk5
       have HBy5 := Lib.hid (aside_low ha5 HHy4.out (by omega))
       have HHy5 := Lib.hid hh5
       clear ha5 hk5 hh5
)
    | fail)
  have HB05 : Hid (Below w0.heap.size w0 W5) := HB04.out.trans HBy5.out
  have hy5 : ys5.length ≤ 41 + f.block.length := by rw [HY5.out, List.length_append]; omega
  have HZ : Hid (Fr.check ys5 = Fr.check (Fr.head f)) := by show _ = _; rw [HY5.out, HY4.out, HHd.out]; rfl
  have HCk := Lib.hid (refChecked q5 cap5 ys5 (by omega) W5 (has_slice HHy5.out))
  have HBW := HB05
  go_wp2_with fail
  refine HCk.out.mono ?_
  rintro e w9 ⟨q9, cap9, rfl, hh9, hb9⟩
  have HB9 := Lib.hid (HB0.out.trans ((HBW.out.trans (hb9.mono HBW.out.size)).mono HB0.out.size))
  have HH9 := Lib.hid (hh9.lower (B' := w.heap.size) (Nat.le_trans HB0.out.size HBW.out.size))
  clear hh9 hb9 HCk
  go_wp2
  go_ret
  rw [← HZ.out]
  exact ⟨_, _, rfl, HH9.out, HB9.out⟩
set_option maxRecDepth 100000 in
set_option maxHeartbeats 8000000 in
theorem refBody_1 (f : Fr) (hk : f.kind = 1) (hw : f.wf) (he : Fr.err0 f = 0) (u : Array Value) (w : World) (hx : FLies w u f) :
    Calls Tryz.prog 49 #[.agg u] w (BodyV w (Fr.check (Fr.head f))) := by
  obtain ⟨sp, sc, bp, bc, ep, ec, rfl, h1, h2, h3, h4, h5, h6, h7, h8, h9⟩ := hx.out
  unfold cells11
  obtain ⟨w0, hw0⟩ : ∃ w0, w0 = w.alloc (.cells #[.int .i64 1, .int .i64 f.number, .slice sp f.cols.length sc, .int .i64 f.seq, .int .i64 f.first, .int .i64 f.rows, .slice bp f.block.length bc, .int .i64 f.index.at_, .int .i64 f.index.frames, .int .i64 f.index.rows, .slice ep f.index.entries.length ec] 30) := ⟨_, rfl⟩
  have hz0 : w0.heap.size = w.heap.size + 1 := by rw [hw0]; simp
  have HB0 : Hid (Below w.heap.size w w0) := by rw [hw0]; exact (Below.refl _ _).alloc (Nat.le_refl _) _
  have hK0 : w0.heap[w.heap.size]? = some (.cells #[.int .i64 1, .int .i64 f.number, .slice sp f.cols.length sc, .int .i64 f.seq, .int .i64 f.first, .int .i64 f.rows, .slice bp f.block.length bc, .int .i64 f.index.at_, .int .i64 f.index.frames, .int .i64 f.index.rows, .slice ep f.index.entries.length ec] 30 (0, 0)) := by rw [hw0]; exact blk_new w _
  obtain ⟨w1, hw1⟩ : ∃ w1, w1 = w0.alloc (.cells #[.int .u8 1] 5) := ⟨_, rfl⟩
  have hz1 : w1.heap.size = w.heap.size + 2 := by rw [hw1]; simp [hz0]
  have HB01 : Hid (Below w0.heap.size w0 w1) := by rw [hw1]; exact (Below.refl _ _).alloc (Nat.le_refl _) _
  have HL1 : Hid (Has w1 w0.heap.size (.slice (some ⟨w.heap.size + 1, 0, none⟩) 1 1) [1]) := by
    have := has_lit (B := w0.heap.size) (w := w0) [1] (C := #[.int .u8 1]) rfl (Nat.le_refl _) (by simp)
    rw [← hw1] at this
    show Has _ _ _ _
    rw [hz0] at this ⊢
    exact this
  obtain ⟨w2, hw2⟩ : ∃ w2, w2 = w1.alloc (.cells #[.int .i64 f.number] 2) := ⟨_, rfl⟩
  have HB12 : Hid (Below w1.heap.size w1 w2) := by rw [hw2]; exact (Below.refl _ _).alloc (Nat.le_refl _) _
  have HW : Hid (((w.alloc (.cells #[.int .i64 1, .int .i64 f.number, .slice sp f.cols.length sc, .int .i64 f.seq, .int .i64 f.first, .int .i64 f.rows, .slice bp f.block.length bc, .int .i64 f.index.at_, .int .i64 f.index.frames, .int .i64 f.index.rows, .slice ep f.index.entries.length ec] 30)).alloc (.cells #[.int .u8 1] 5)).alloc (.cells #[.int .i64 f.number] 2) = w2) := by rw [hw2, hw1, hw0]; exact rfl
  have hin : 0 ≤ f.number ∧ Sch.err f.cols = 0 := by
    unfold Fr.err0 at he
    rw [if_pos hk] at he
    by_cases hb : Fr.within Fr.N f.number = false
    · rw [if_pos hb] at he; omega
    · rw [if_neg hb] at he
      rw [Bool.not_eq_false, Fr.within_iff] at hb
      exact ⟨hb.1, he⟩
  have HWf := Lib.hid hw.2.2.1
  obtain ⟨v0, v1, -⟩ := hw
  unfold Fr.i64 at v0 v1
  have hI : Ints w2 (w.heap.size + 2) [f.number] := by
    have := ints_new w1 [f.number] (C := #[.int .i64 f.number]) rfl
    rw [← hw2, hz1] at this
    exact this
  have HP := Lib.hid (refNums (w.heap.size + 2) [f.number] (by simp) (fun m hm => by
      simp only [List.mem_cons, List.not_mem_nil, or_false] at hm
      omega) w2 hI)
  have hnl : (Fr.nums [f.number]).length ≤ 10 := by
    have g1 := Leb.put_length_le f.number.toNat
    simp only [Fr.nums_cons, Fr.nums_nil, List.append_nil]
    omega
  have HHd : Hid (Fr.head f = 1 :: (Fr.nums [f.number] ++ Sch.bytes f.cols)) := by
    show _ = _
    unfold Fr.head Fr.fields
    rw [if_pos hk, hk]
    rfl
  have hbl : (Sch.bytes f.cols).length ≤ 1024 := (Sch.err_open hin.2).2.2.2
  have HErr := Lib.hid hin.2
  have HB02 : Hid (Below w0.heap.size w0 w2) := HB01.out.trans (HB12.out.mono HB01.out.size)
  have HX := Lib.hid h3
  rw [hk]
  have HK0 := Lib.hid hK0
  obtain ⟨ns, hns⟩ : ∃ ns, ns = Fr.nums [f.number] := ⟨_, rfl⟩
  rw [← hns] at HP hnl HHd
  clear hw0 hw1 hw2 hK0 hx h3 h6 h9 hk he hI hin hns v0 v1
  have hz2 := HB12.out.size
  go_enter Tryz.func49, Tryz.ntmps49
  go_wp2_with fail
  rw [HW.out]
  refine HP.out.mono ?_
  rintro e w3 ⟨p3, cap3, rfl, hh3, hb3⟩
  have HB03 := Lib.hid (HB02.out.trans (hb3.mono HB02.out.size))
  have HB13 := Lib.hid (HB12.out.trans (hb3.mono HB12.out.size))
  have hK3 := (HB03.out.block _ (by omega)).trans HK0.out
  have x0 := blk_cell hK3 0
  have x1 := blk_cell hK3 1
  have x2 := blk_cell hK3 2
  have x3 := blk_cell hK3 3
  have x4 := blk_cell hK3 4
  have x5 := blk_cell hK3 5
  have x6 := blk_cell hK3 6
  have x7 := blk_cell hK3 7
  have x8 := blk_cell hK3 8
  have x9 := blk_cell hK3 9
  have x10 := blk_cell hK3 10
  simp only [List.getElem?_toArray, List.getElem?_cons_zero, List.getElem?_cons_succ] at x0 x1 x2 x3 x4 x5 x6 x7 x8 x9 x10
  have HA3 := Lib.hid (has_slice hh3)
  have HL3 := Lib.hid (HL1.out.on HB13.out)
  have hz3 := HB03.out.size
  clear hh3 hb3 HP HW
  go_wp2_with (first
    | (at_builtin
       refine wp_ontoL HL3.out HA3.out (by first | omega | (simp only [List.length_cons, List.length_nil]; omega)) (by omega) rfl rfl rfl rfl rfl ?_
       intro ys4 q4 cap4 W4 HY4 hh4 ha4 hk4
       have HBy4 := Lib.hid (aside_low ha4 HL3.out (by omega))
       have HHy4 := Lib.hid hh4
       clear ha4 hk4 hh4
       have HB04 : Hid (Below w0.heap.size w0 W4) := HB03.out.trans HBy4.out
       have hK4 := (HB04.out.block _ (by omega)).trans HK0.out
       clear x0 x1 x2 x3 x4 x5 x6 x7 x8 x9 x10
       have x0 := blk_cell hK4 0
       have x1 := blk_cell hK4 1
       have x2 := blk_cell hK4 2
       have x3 := blk_cell hK4 3
       have x4 := blk_cell hK4 4
       have x5 := blk_cell hK4 5
       have x6 := blk_cell hK4 6
       have x7 := blk_cell hK4 7
       have x8 := blk_cell hK4 8
       have x9 := blk_cell hK4 9
       have x10 := blk_cell hK4 10
       simp only [List.getElem?_toArray, List.getElem?_cons_zero, List.getElem?_cons_succ] at x0 x1 x2 x3 x4 x5 x6 x7 x8 x9 x10)
    | fail)
  have hy4 : ys4.length ≤ 11 := by rw [HY4.out]; simp; omega
  have hz4 := HB04.out.size
  have HE := Lib.hid (refEncode7 f.cols sp sc W4 h1 h2 (HX.out.on (HB0.out.trans (HB04.out.mono HB0.out.size))) HWf.out)
  clear hK3 hK4
  go_wp2_with fail
  refine HE.out.mono ?_
  rintro e w5 (⟨-, q5, cap5, rfl, hh5, hb5⟩ | ⟨hz, -, -⟩)
  case inr => exact absurd HErr.out hz
  have HB45 := Lib.hid hb5
  have HB05 := Lib.hid (HB04.out.trans (hb5.mono hz4))
  have HA5 := Lib.hid (has_slice hh5)
  have HH5 := Lib.hid (HHy4.out.on hb5)
  have hz5 := HB05.out.size
  clear hh5 hb5 HE
  go_wp2_with (first
    | (at_builtin
       refine wp_ontoL HH5.out HA5.out (by first | omega | (simp only [List.length_cons, List.length_nil]; omega)) (by omega) rfl rfl rfl rfl rfl ?_
       intro ys6 q6 cap6 W6 HY6 hh6 ha6 hk6
       have HBy6 := Lib.hid (aside_low ha6 HH5.out (by omega))
       have HHy6 := Lib.hid hh6
       clear ha6 hk6 hh6
)
    | fail)
  have HB06 : Hid (Below w0.heap.size w0 W6) := HB05.out.trans HBy6.out
  have hy6 : ys6.length ≤ 1100 := by rw [HY6.out, List.length_append]; omega
  have HZ : Hid (Fr.check ys6 = Fr.check (Fr.head f)) := by show _ = _; rw [HY6.out, HY4.out, HHd.out]; rfl
  have HCk := Lib.hid (refChecked q6 cap6 ys6 (by omega) W6 (has_slice HHy6.out))
  have HBW := HB06
  go_wp2_with fail
  refine HCk.out.mono ?_
  rintro e w9 ⟨q9, cap9, rfl, hh9, hb9⟩
  have HB9 := Lib.hid (HB0.out.trans ((HBW.out.trans (hb9.mono HBW.out.size)).mono HB0.out.size))
  have HH9 := Lib.hid (hh9.lower (B' := w.heap.size) (Nat.le_trans HB0.out.size HBW.out.size))
  clear hh9 hb9 HCk
  go_wp2
  go_ret
  rw [← HZ.out]
  exact ⟨_, _, rfl, HH9.out, HB9.out⟩
end Go.Proofs.YtclhbhhlddbocaaGreatDoor

/- The document's frame: Body of an index; Body. -/
namespace Go.Proofs.YtclhbhhlddbocaaGreatDoor
open Go.RowKit

set_option maxRecDepth 100000 in
set_option maxHeartbeats 8000000 in
theorem refBody_3 (f : Fr) (hk : f.kind = 3) (hw : f.wf) (he : Fr.err0 f = 0) (u : Array Value) (w : World) (hx : FLies w u f) :
    Calls Tryz.prog 49 #[.agg u] w (BodyV w (Fr.check (Fr.head f))) := by
  obtain ⟨sp, sc, bp, bc, ep, ec, rfl, h1, h2, h3, h4, h5, h6, h7, h8, h9⟩ := hx.out
  unfold cells11
  obtain ⟨w0, hw0⟩ : ∃ w0, w0 = w.alloc (.cells #[.int .i64 3, .int .i64 f.number, .slice sp f.cols.length sc, .int .i64 f.seq, .int .i64 f.first, .int .i64 f.rows, .slice bp f.block.length bc, .int .i64 f.index.at_, .int .i64 f.index.frames, .int .i64 f.index.rows, .slice ep f.index.entries.length ec] 30) := ⟨_, rfl⟩
  have hz0 : w0.heap.size = w.heap.size + 1 := by rw [hw0]; simp
  have HB0 : Hid (Below w.heap.size w w0) := by rw [hw0]; exact (Below.refl _ _).alloc (Nat.le_refl _) _
  have hK0 : w0.heap[w.heap.size]? = some (.cells #[.int .i64 3, .int .i64 f.number, .slice sp f.cols.length sc, .int .i64 f.seq, .int .i64 f.first, .int .i64 f.rows, .slice bp f.block.length bc, .int .i64 f.index.at_, .int .i64 f.index.frames, .int .i64 f.index.rows, .slice ep f.index.entries.length ec] 30 (0, 0)) := by rw [hw0]; exact blk_new w _
  obtain ⟨w1, hw1⟩ : ∃ w1, w1 = w0.alloc (.cells #[.int .u8 3] 5) := ⟨_, rfl⟩
  have hz1 : w1.heap.size = w.heap.size + 2 := by rw [hw1]; simp [hz0]
  have HB01 : Hid (Below w0.heap.size w0 w1) := by rw [hw1]; exact (Below.refl _ _).alloc (Nat.le_refl _) _
  have HL1 : Hid (Has w1 w0.heap.size (.slice (some ⟨w.heap.size + 1, 0, none⟩) 1 1) [3]) := by
    have := has_lit (B := w0.heap.size) (w := w0) [3] (C := #[.int .u8 3]) rfl (Nat.le_refl _) (by simp)
    rw [← hw1] at this
    show Has _ _ _ _
    rw [hz0] at this ⊢
    exact this
  obtain ⟨wX, hwX⟩ : ∃ wX, wX = w1.alloc (.cells #[.int .i64 f.index.at_, .int .i64 f.index.frames, .int .i64 f.index.rows, .slice ep f.index.entries.length ec] 28) := ⟨_, rfl⟩
  have hzX : wX.heap.size = w.heap.size + 3 := by rw [hwX]; simp [hz1]
  have HB1X : Hid (Below w1.heap.size w1 wX) := by rw [hwX]; exact (Below.refl _ _).alloc (Nat.le_refl _) _
  have hKX : wX.heap[w.heap.size + 2]? = some (.cells #[.int .i64 f.index.at_, .int .i64 f.index.frames, .int .i64 f.index.rows, .slice ep f.index.entries.length ec] 28 (0, 0)) := by rw [hwX, ← hz1]; exact blk_new w1 _
  obtain ⟨w2, hw2⟩ : ∃ w2, w2 = wX.alloc (.cells #[.int .i64 f.index.at_, .int .i64 f.index.frames, .int .i64 f.index.rows, .int .i64 (f.index.entries.length : Int)] 2) := ⟨_, rfl⟩
  have HBX2 : Hid (Below wX.heap.size wX w2) := by rw [hw2]; exact (Below.refl _ _).alloc (Nat.le_refl _) _
  have HW : Hid ((((w.alloc (.cells #[.int .i64 3, .int .i64 f.number, .slice sp f.cols.length sc, .int .i64 f.seq, .int .i64 f.first, .int .i64 f.rows, .slice bp f.block.length bc, .int .i64 f.index.at_, .int .i64 f.index.frames, .int .i64 f.index.rows, .slice ep f.index.entries.length ec] 30)).alloc (.cells #[.int .u8 3] 5)).alloc (.cells #[.int .i64 f.index.at_, .int .i64 f.index.frames, .int .i64 f.index.rows, .slice ep f.index.entries.length ec] 28)).alloc (.cells #[.int .i64 f.index.at_, .int .i64 f.index.frames, .int .i64 f.index.rows, .int .i64 (f.index.entries.length : Int)] 2) = w2) := by rw [hw2, hwX, hw1, hw0]; exact rfl
  have hin : (0 ≤ f.index.at_ ∧ 0 ≤ f.index.frames ∧ 0 ≤ f.index.rows) ∧ f.index.entries.length ≤ 64 ∧ f.index.entries.all Fr.entOk = true := by
    unfold Fr.err0 at he
    rw [if_neg (by omega), if_neg (by omega), if_pos hk] at he
    unfold Fr.idxErr at he
    by_cases hb : (Fr.within Fr.S f.index.at_ && Fr.within Fr.S f.index.frames && Fr.within Fr.S f.index.rows) = false
    · rw [if_pos hb] at he; omega
    · rw [if_neg hb] at he
      rw [Bool.not_eq_false] at hb
      simp only [Bool.and_eq_true, Fr.within_iff] at hb
      by_cases h64 : 64 < f.index.entries.length
      · rw [if_pos h64] at he; omega
      · rw [if_neg h64] at he
        by_cases hal : f.index.entries.all Fr.entOk = false
        · rw [if_pos hal] at he; omega
        · rw [Bool.not_eq_false] at hal
          exact ⟨by omega, by omega, hal⟩
  obtain ⟨v0, v1, v2, v3, v4, v5, v6, v7⟩ := hw
  unfold Fr.i64 at v6
  have HEw : Hid (∀ e ∈ f.index.entries, (0 ≤ e.at_ ∧ e.at_ ≤ 9223372036854775807) ∧ (0 ≤ e.row ∧ e.row ≤ 9223372036854775807) ∧ (0 ≤ e.sch ∧ e.sch ≤ 9223372036854775807)) := fun e hm => by
    have h1 := List.all_eq_true.1 hin.2.2 e hm
    unfold Fr.entOk at h1
    simp only [Bool.and_eq_true, Fr.within_iff] at h1
    have hs : Fr.S = 1099511627776 := rfl
    rw [hs] at h1
    omega
  have hI : Ints w2 (w.heap.size + 3) [f.index.at_, f.index.frames, f.index.rows, (f.index.entries.length : Int)] := by rw [hw2]; exact ints_at hzX [f.index.at_, f.index.frames, f.index.rows, (f.index.entries.length : Int)] rfl
  have h64 := hin.2.1
  have HP := Lib.hid (refNums (w.heap.size + 3) [f.index.at_, f.index.frames, f.index.rows, (f.index.entries.length : Int)] (by simp) (fun m hm => by
      simp only [List.mem_cons, List.not_mem_nil, or_false] at hm
      omega) w2 hI)
  have hnl : (Fr.nums [f.index.at_, f.index.frames, f.index.rows, (f.index.entries.length : Int)]).length ≤ 40 := by
    have g1 := Leb.put_length_le f.index.at_.toNat
    have g2 := Leb.put_length_le f.index.frames.toNat
    have g3 := Leb.put_length_le f.index.rows.toNat
    have g4 := Leb.put_length_le (f.index.entries.length : Int).toNat
    simp only [Fr.nums_cons, Fr.nums_nil, List.append_nil, List.length_append]
    omega
  have HHd : Hid (Fr.head f = 3 :: (Fr.nums [f.index.at_, f.index.frames, f.index.rows, (f.index.entries.length : Int)] ++ (f.index.entries.map Fr.entB).flatten)) := by
    show _ = _
    unfold Fr.head Fr.fields
    rw [if_neg (by omega), if_neg (by omega), hk]
    rfl
  have HB0X : Hid (Below w0.heap.size w0 wX) := HB01.out.trans (HB1X.out.mono HB01.out.size)
  have HB02 : Hid (Below w0.heap.size w0 w2) := HB0X.out.trans (HBX2.out.mono HB0X.out.size)
  have HB12 : Hid (Below w1.heap.size w1 w2) := HB1X.out.trans (HBX2.out.mono HB1X.out.size)
  have HEs := Lib.hid h9
  rw [hk]
  have HK0 := Lib.hid hK0
  have HKX := Lib.hid ((HBX2.out.block _ (by omega)).trans hKX)
  obtain ⟨ns, hns⟩ : ∃ ns, ns = Fr.nums [f.index.at_, f.index.frames, f.index.rows, (f.index.entries.length : Int)] := ⟨_, rfl⟩
  rw [← hns] at HP hnl HHd
  have hz2 : w2.heap.size = w.heap.size + 4 := by rw [hw2]; simp [hzX]
  clear hw0 hw1 hwX hw2 hK0 hKX hx h3 h6 h9 hk he hI hin hns v0 v1 v2 v3 v4 v5 v6 v7
  go_enter Tryz.func49, Tryz.ntmps49
  go_wp2_with fail
  rw [HW.out]
  refine HP.out.mono ?_
  rintro e w3 ⟨p3, cap3, rfl, hh3, hb3⟩
  have HB03 := Lib.hid (HB02.out.trans (hb3.mono HB02.out.size))
  have HB13 := Lib.hid (HB12.out.trans (hb3.mono HB12.out.size))
  have HKX3 := Lib.hid ((hb3.block _ (by omega)).trans HKX.out)
  have HA3 := Lib.hid (has_slice hh3)
  have HL3 := Lib.hid (HL1.out.on HB13.out)
  have hz3 := hb3.size
  clear hh3 hb3 HP HW HKX
  have hz0' := HB03.out.size
  go_wp2_with (first
    | (at_builtin
       refine wp_ontoL HL3.out HA3.out (by simp only [List.length_cons, List.length_nil]; omega) (by omega) rfl rfl rfl rfl rfl ?_
       intro ys4 q4 cap4 W4 HY4 hh4 ha4 hk4
       have HBy4 := Lib.hid (aside_low ha4 HL3.out (by omega))
       have HHy4 := Lib.hid hh4
       have HKX4 := Lib.hid ((ha4.block (w.heap.size + 2) (by omega) (fun hc => by have h : some (w.heap.size + 1) = some (w.heap.size + 2) := hc; injection h with h; omega)).trans HKX3.out)
       have hz4 := ha4.size
       clear ha4 hk4 hh4)
    | fail)
  have HB04 : Hid (Below w0.heap.size w0 W4) := HB03.out.trans HBy4.out
  have hy4 : ys4.length ≤ 41 := by rw [HY4.out]; simp; omega
  have HKX4l : Hid (w.heap.size + 2 < W4.heap.size) := Lib.hid (by omega : w.heap.size + 2 < W4.heap.size)
  go_loopw [4, 6] (fun v4 v6 wr => ∃ (k : Nat) (xs : List UInt8), k ≤ f.index.entries.length ∧ v6 = .int .i64 k ∧ xs.length ≤ 30 * k ∧ Hid (xs = ((f.index.entries.take k).map Fr.entB).flatten ∧ Has wr W4.heap.size v4 xs ∧ Below W4.heap.size W4 wr)) (fun _ v6 _ => f.index.entries.length - (intOf v6).toNat)
  case atStart => exact ⟨0, [], by omega, rfl, by simp, rfl, has_nil _ _, Below.refl _ _⟩
  case round =>
    obtain ⟨k, xs, hk, rfl, hxl, HK⟩ := hrel
    have HO := Lib.hid HK.out.2.1
    have HBr := Lib.hid HK.out.2.2
    have HXs := Lib.hid HK.out.1
    have hsr := HBr.out.size
    have hKr := (HBr.out.block _ HKX4l.out).trans HKX4.out
    have n3 := blk_cell hKr 3
    simp only [List.getElem?_toArray, List.getElem?_cons_zero, List.getElem?_cons_succ] at n3
    by_cases hlt : k < f.index.entries.length
    · have hlt' : (k : Int) < (f.index.entries.length : Int) := by omega
      obtain ⟨bb, ob, hep, hbb, a0, a1, a2⟩ := (HEs.out.on (HB0.out.trans ((HB04.out.trans (HBr.out.mono (by omega))).mono HB0.out.size))) k hlt
      have hu := HEw.out f.index.entries[k] (List.getElem_mem hlt)
      subst hep
      obtain ⟨ea, hea⟩ : ∃ ea, ea = f.index.entries[k].at_ := ⟨_, rfl⟩
      obtain ⟨eb, heb⟩ : ∃ eb, eb = f.index.entries[k].row := ⟨_, rfl⟩
      obtain ⟨eC, hec⟩ : ∃ eC, eC = f.index.entries[k].sch := ⟨_, rfl⟩
      have HE1 := Lib.hid (entB_take_succ f.index.entries k hlt)
      have HEb : Hid (Fr.entB f.index.entries[k] = Fr.nums [ea, eb, eC]) := by
        show _ = _
        rw [hea, heb, hec]
        rfl
      rw [← hea] at a0 hu
      rw [← heb] at a1 hu
      rw [← hec] at a2 hu
      have HP : Hid (Calls Tryz.prog 96 #[.slice (some ⟨wr.heap.size, 0, none⟩) 3 3] (wr.alloc (.cells #[.int .i64 ea, .int .i64 eb, .int .i64 eC] 2)).drew fun e w'' => ∃ p cap, e = .returned (.slice p (Fr.nums [ea, eb, eC]).length cap) ∧ At w'' p (Fr.nums [ea, eb, eC]) ∧ Below wr.heap.size wr w'') := by
        refine (refNums wr.heap.size [ea, eb, eC] (by simp) (fun m hm => ?_) _ (ints_new wr [ea, eb, eC] rfl).drew).mono ?_
        · simp only [List.mem_cons, List.not_mem_nil, or_false] at hm
          omega
        · rintro e w'' ⟨p, cap, rfl, hh, hb⟩
          have hb0 : Below wr.heap.size wr (wr.alloc (.cells #[.int .i64 ea, .int .i64 eb, .int .i64 eC] 2)).drew := ((Below.refl _ _).alloc (Nat.le_refl _) _).drew
          exact ⟨p, cap, rfl, has_slice hh, hb0.trans (hb.mono hb0.size)⟩
      have hul : (Fr.nums [ea, eb, eC]).length ≤ 30 := by
        have h1 := Leb.put_length_le ea.toNat
        have h2 := Leb.put_length_le eb.toNat
        have h3 := Leb.put_length_le eC.toNat
        simp only [Fr.nums_cons, Fr.nums_nil, List.append_nil, List.length_append]
        omega
      obtain ⟨u, hu'⟩ : ∃ u, u = Fr.nums [ea, eb, eC] := ⟨_, rfl⟩
      rw [← hu'] at HP hul HEb
      clear hu' hea heb hec hu HK hKr
      go_wp2_with fail
      go_region_held3 (fun w' => w'.cell? ⟨bb, ob + k * 3, none⟩ = some (.int .i64 ea) ∧ w'.cell? ⟨bb, ob + k * 3 + 1, none⟩ = some (.int .i64 eb) ∧ w'.cell? ⟨bb, ob + k * 3 + 2, none⟩ = some (.int .i64 eC) ∧ w'.cell? ⟨w.heap.size + 2, 3, none⟩ = some (.slice (some ⟨bb, ob, none⟩) f.index.entries.length ec)) (go_keep) (first
        | (go_at_call 96; refine HP.out.mono ?_; rintro e w5 ⟨p5, cap5, rfl, ha5, hb5⟩; have z0 := cell_on hb5 a0; have z1 := cell_on hb5 a1; have z2 := cell_on hb5 a2; have z3 := cell_on hb5 n3; have HA5 := Lib.hid ha5; have HB5 := Lib.hid hb5; have hs5 := hb5.size; clear ha5 hb5))
      go_wp2_with (first
        | (at_builtin
           refine wp_ontoL (HO.out.on HB5.out) HA5.out (by omega) (by omega) rfl rfl rfl rfl rfl ?_
           intro ys q6 cap6 W HY hh ha hk2
           have HB6 := Lib.hid (aside_low ha (HO.out.on HB5.out) (by omega))
           have HYs := Lib.hid hh
           have hyl : ys.length ≤ 30 * (k + 1) := by rw [HY.out, List.length_append]; omega
           clear ha hk2 hh)
        | fail)
      go_roundw
      case rel =>
        refine ⟨k + 1, ys, by omega, by go_num, hyl, ?_, HYs.out, (HBr.out.trans (HB5.out.mono hsr)).trans HB6.out⟩
        rw [HY.out, HXs.out, HE1.out, HEb.out]
      case measure => simp [intOf]; omega
    · have hkk : k = f.index.entries.length := by omega
      subst hkk
      have HXe : Hid (xs = (f.index.entries.map Fr.entB).flatten) := by
        show _ = _
        rw [HXs.out, List.take_length]
      obtain ⟨p8, cap8, rfl, ha8, -⟩ := HO.out.at
      have HA8 := Lib.hid ha8
      have HH8 := Lib.hid (HHy4.out.on HBr.out)
      have HB08 := Lib.hid (HB04.out.trans (HBr.out.mono (by omega)))
      have hz8 := HB08.out.size
      clear ha8 HK hKr
      go_wp2_with (first
        | (at_builtin
           refine wp_ontoL HH8.out HA8.out (by first | omega | (simp only [List.length_cons, List.length_nil]; omega)) (by omega) rfl rfl rfl rfl rfl ?_
           intro ys6 q6 cap6 W6 HY6 hh6 ha6 hk6
           have HBy6 := Lib.hid (aside_low ha6 HH8.out (by omega))
           have HHy6 := Lib.hid hh6
           clear ha6 hk6 hh6)
        | fail)
      have HB06 : Hid (Below w0.heap.size w0 W6) := HB08.out.trans HBy6.out
      have hy6 : ys6.length ≤ 3000 := by rw [HY6.out, List.length_append]; omega
      have HZ : Hid (Fr.check ys6 = Fr.check (Fr.head f)) := by show _ = _; rw [HY6.out, HY4.out, HXe.out, HHd.out]; rfl
      have HCk := Lib.hid (refChecked q6 cap6 ys6 (by omega) W6 (has_slice HHy6.out))
      have HBW := HB06
      go_wp2_with fail
      refine HCk.out.mono ?_
      rintro e w9 ⟨q9, cap9, rfl, hh9, hb9⟩
      have HB9 := Lib.hid (HB0.out.trans ((HBW.out.trans (hb9.mono HBW.out.size)).mono HB0.out.size))
      have HH9 := Lib.hid (hh9.lower (B' := w.heap.size) (Nat.le_trans HB0.out.size HBW.out.size))
      clear hh9 hb9 HCk
      go_wp2
      go_ret
      rw [← HZ.out]
      exact ⟨_, _, rfl, HH9.out, HB9.out⟩
/-- P12.1's body, of the document -/
theorem refBody (f : Fr) (hbk : f.block.length ≤ 1048576) (hw : f.wf) (he : Fr.err0 f = 0) (u : Array Value) (w : World) (hx : FLies w u f) :
    Calls Tryz.prog 49 #[.agg u] w (BodyV w (Fr.check (Fr.head f))) := by
  rcases Fr.head_fields he with h1 | h2 | h3
  · exact refBody_1 f h1 hw he u w hx
  · exact refBody_2 f h2 hbk hw he u w hx
  · exact refBody_3 f h3 hw he u w hx
end Go.Proofs.YtclhbhhlddbocaaGreatDoor
