/- WValR: put together. -/
import Derived.Test.YtpkbdnilakaakaaGreatM20
import Derived.Test.YtpkbdnilakaakaaGreatM12

/- The document's ValueBytes. -/
namespace Go.Proofs.YtpkbdnilakaakaaGreat
open Go.RowKit

set_option maxRecDepth 100000 in
set_option maxHeartbeats 1000000 in
theorem refValB_1 (i : Int) (hi : i = 0 ∨ i = 1) (b : Nat) (t : ByteArray) (p : Option Addr) (n c : Nat) (w : World) : Calls Tryz.prog 63 #[.agg #[.int .i64 1, .int .i64 i, .float .f64 b, .string t, .slice p n c]] w (FreshB w [UInt8.ofNat i.toNat]) := by
  have hB : ∀ o o2, Below w.heap.size w ((w.alloc o).alloc o2) := fun o o2 => ((Below.refl _ _).alloc (Nat.le_refl _) _).alloc (by simp) _
  have HB := Lib.hid hB
  obtain ⟨c0, hc0⟩ : ∃ c0, c0 = UInt8.ofNat i.toNat := ⟨_, rfl⟩
  have hkz : i = (c0.toNat : Int) := by rw [hc0, UInt8.toNat_ofNat']; omega
  have HL : Hid (∀ (w : World), Has (w.alloc (.cells #[.int .u8 i] 5)) w.heap.size (.slice (some ⟨w.heap.size, 0, none⟩) 1 1) [c0]) := fun w => has_lit [c0] (by rw [hkz]; rfl) (Nat.le_refl _) (by simp)
  have hi1 : 0 ≤ i := by omega
  have hi2 : i ≤ 1 := by omega
  rw [← hc0]
  clear hB hkz hc0 hi
  go_enter Tryz.func63, Tryz.ntmps63
  go_wp2
  go_ret
  have hh := HL.out (w.alloc (.cells #[.int .i64 1, .int .i64 i, .float .f64 b, .string t, .slice p n c] 44))
  exact ⟨_, _, rfl, by have := hh.lower (B' := w.heap.size) (by simp); simpa using this, HB.out _ _⟩

set_option maxRecDepth 100000 in
set_option maxHeartbeats 1000000 in
theorem refValB_2 (i : Int) (hi : -9223372036854775808 ≤ i ∧ i ≤ 9223372036854775807) (b : Nat) (t : ByteArray) (p : Option Addr) (n c : Nat) (w : World) : Calls Tryz.prog 63 #[.agg #[.int .i64 2, .int .i64 i, .float .f64 b, .string t, .slice p n c]] w (FreshB w (Leb.put (Leb.zig i))) := by
  have HB : Hid (∀ o, Below w.heap.size w (w.alloc o)) := fun o => (Below.refl _ _).alloc (Nat.le_refl _) _
  have hz : Leb.zig i < 18446744073709551616 := by unfold Leb.zig; split <;> omega
  have HZ := Lib.hid (refZig_any i hi.1 hi.2)
  have HP := Lib.hid (refPut_any (Leb.zig i) hz)
  generalize Leb.zig i = z at *
  clear hi hz
  go_enter Tryz.func63, Tryz.ntmps63
  go_wp2_with fail
  refine (HZ.out _).mono ?_
  rintro e w1 ⟨rfl, hw1⟩
  rw [hw1]
  clear hw1 w1
  go_wp2_with fail
  refine (HP.out _).mono ?_
  rintro e w1 ⟨g, cap, rfl, hm, hb⟩
  have HM := Lib.hid hm
  have HB1 := Lib.hid ((HB.out _).trans (hb.mono (HB.out _).size))
  clear hm hb
  go_wp2
  go_ret
  exact ⟨_, _, rfl, HM.out.has.lower (by simp), HB1.out⟩

set_option maxRecDepth 100000 in
set_option maxHeartbeats 1000000 in
theorem refValB_45 (k i : Int) (hk : k = 4 ∨ k = 5) (b : Nat) (t : ByteArray) (ht : t.size ≤ 1024) (p : Option Addr) (n c : Nat) (w : World) : Calls Tryz.prog 63 #[.agg #[.int .i64 k, .int .i64 i, .float .f64 b, .string t, .slice p n c]] w (FreshB w (Leb.put t.size ++ t.data.toList)) := by
  have HB : Hid (∀ o, Below w.heap.size w (w.alloc o)) := fun o => (Below.refl _ _).alloc (Nat.le_refl _) _
  have HP := Lib.hid (refPut_any t.size (by omega))
  have hlen := Leb.put_length_le t.size
  obtain ⟨l0, hl0⟩ : ∃ l0, l0 = Leb.put t.size := ⟨_, rfl⟩
  rw [← hl0] at HP hlen ⊢
  clear hl0
  have hts : (t.size : Int) ≤ 1024 := by omega
  have HY : Hid (∀ k, (w.alloc (.cells #[.int .i64 k, .int .i64 i, .float .f64 b, .string t, .slice p n c] 44)).cell? ⟨w.heap.size, 3, none⟩ = some (.string t)) := fun k => by simp
  rcases hk with rfl | rfl
  all_goals
    go_enter Tryz.func63, Tryz.ntmps63
    go_wp2_with fail
    refine (HP.out _).mono ?_
    rintro e w1 ⟨g, cap, rfl, hm, hb⟩
    have HM := Lib.hid (hm.has.lower (B' := w.heap.size) (by simp))
    have HB1 := Lib.hid ((HB.out _).trans (hb.mono (HB.out _).size))
    have c3 := cell_on hb (HY.out _)
    clear hm hb
    go_wp2_with (at_builtin; refine wp_ontoS (B := w.heap.size) (t := t) HM.out (by omega) HB1.out.size rfl rfl rfl rfl rfl ?_; intro ys q3 cap3 W HYs hH3 ha3 hb3)
    go_ret
    rw [← HYs.out]
    exact ⟨q3, cap3, rfl, hH3, HB1.out.trans (aside_low ha3 HM.out HB1.out.size)⟩

set_option maxRecDepth 100000 in
set_option maxHeartbeats 1000000 in
theorem refValB_3 (i : Int) (b : Nat) (hb64 : b < 18446744073709551616) (t : ByteArray) (p : Option Addr) (n c : Nat) (w : World) : Calls Tryz.prog 63 #[.agg #[.int .i64 3, .int .i64 i, .float .f64 b, .string t, .slice p n c]] w (FreshB w (Sch.le 8 (fixB b))) := by
  have HB : Hid (∀ o, Below w.heap.size w (w.alloc o)) := fun o => (Below.refl _ _).alloc (Nat.le_refl _) _
  have hf := Sch.fixB_lt hb64
  have HBits := Lib.hid (refBits_any b)
  generalize fixB b = m at *
  have HS : Hid (Eight m [] m) := ⟨by simp, hf, rfl⟩
  clear hf hb64
  go_enter Tryz.func63, Tryz.ntmps63
  go_wp2_with fail
  refine (HBits.out _).mono ?_
  rintro e w1 ⟨rfl, hw1⟩
  rw [hw1]
  clear hw1 w1
  go_wp2_with fail
  go_loopw [3, 5, 6] (fun v3 v5 v6 wr => ∃ (n : Nat) (xs : List UInt8), v5 = .int .u64 n ∧ v6 = .int .i64 xs.length ∧ xs.length ≤ 8 ∧ n < 18446744073709551616 ∧ Hid (Eight m xs n ∧ Has wr w.heap.size v3 xs ∧ Below w.heap.size w wr)) (fun _ _ v6 _ => 8 - (intOf v6).toNat)
  case atStart => exact ⟨m, [], rfl, rfl, by simp, HS.out.2.1, HS.out, has_nil _ _, HB.out _⟩
  case round =>
    obtain ⟨z, xs, rfl, rfl, hx8, hz, HK⟩ := hrel
    have HO := Lib.hid HK.out.2.1
    have hB := HK.out.2.2.size
    by_cases hlt : xs.length < 8
    · have hlt' : (xs.length : Int) < 8 := by omega
      have HN := Lib.hid (eight_next HK.out.1 hlt)
      have hcn : (UInt8.ofNat (z % 256)).toNat = z % 256 := by rw [UInt8.toNat_ofNat']; omega
      generalize UInt8.ofNat (z % 256) = c1 at hcn HN
      go_wp2_with (at_builtin; refine wp_push HO.out c1 (by omega) hB (by omega) rfl rfl rfl rfl rfl ?_; intro g cap W hmine hb)
      go_roundw
      case rel => exact ⟨z / 256, xs ++ [c1], by go_num, by simp, by simp; omega, by omega, HN.out, by have := hmine.has; simpa using this, HK.out.2.2.trans hb⟩
      case measure => simp [intOf]; omega
    · have hjn : ¬ (xs.length : Int) < 8 := by omega
      have he : Sch.le 8 m = xs := by
        rw [HK.out.1.2.2, show 8 - xs.length = 0 by omega]
        simp [Sch.le]
      have HE := Lib.hid he
      obtain ⟨q, cap, hv, -, -⟩ := HO.out.at
      subst hv
      have HF := Lib.hid HK.out.2.2
      clear HK he
      go_wp2
      go_ret
      rw [HE.out]
      exact ⟨q, cap, rfl, HO.out, HF.out⟩

set_option maxRecDepth 100000 in
set_option maxHeartbeats 1000000 in
theorem refValB_67 (k i : Int) (h67 : k = 6 ∨ k = 7) (b : Nat) (t : ByteArray) (xs : List V) (hn : xs.length ≤ 256)
    (ih : ∀ x ∈ xs, ∀ (w : World) (u : Array Value), VLies w u x → Calls Tryz.prog 63 #[.agg u] w (FreshB w (Sch.vB x)))
    (hlen : (xs.map Sch.vB).flatten.length ≤ 20000000000) (p : Option Addr) (c : Nat) (w : World) (hx : Items w p xs) :
    Calls Tryz.prog 63 #[.agg #[.int .i64 k, .int .i64 i, .float .f64 b, .string t, .slice p xs.length c]] w (FreshB w (Sch.vH k i b t xs.length ++ (xs.map Sch.vB).flatten)) := by
  have HB : Hid (∀ o, Below w.heap.size w (w.alloc o)) := fun o => (Below.refl _ _).alloc (Nat.le_refl _) _
  have HX := Lib.hid hx
  have HIH := Lib.hid ih
  clear hx ih
  have HY : Hid (∀ k, (w.alloc (.cells #[.int .i64 k, .int .i64 i, .float .f64 b, .string t, .slice p xs.length c] 44)).cell? ⟨w.heap.size, 4, none⟩ = some (.slice p xs.length c)) := fun k => by simp
  rcases h67 with rfl | rfl
  · by_cases h0 : 0 < xs.length
    · have g0 : (0 : Int) < (xs.length : Int) := by omega
      obtain ⟨l0, hl0⟩ : ∃ l0 : List UInt8, l0 = [1] := ⟨_, rfl⟩
      have HE : Hid (Sch.vH 6 i b t xs.length = l0) := by
        show _ = _
        rw [hl0, Sch.vH, if_neg (by decide), if_neg (by decide), if_neg (by decide), if_neg (by decide), if_pos rfl, if_pos h0]
      have hl0n : l0.length ≤ 10 := by rw [hl0]; simp
      have HFl := Lib.hid (refFlag7 true)
      go_enter Tryz.func63, Tryz.ntmps63
      go_wp2_with fail
      refine (HFl.out _).mono ?_
      rintro e w1 ⟨rfl, hw1⟩
      rw [hw1]
      clear hw1 w1
      simp only [if_true]
      go_wp2_with (at_builtin; refine wp_pushH (B := w.heap.size + 1) (H := w.heap.size + 1) (by simp) (has_nil _ _) 1 (by simp) (by simp) (by rfl) rfl rfl rfl rfl rfl ?_; intro g cap W hmine hb)
      have HM : Hid (Has W (w.heap.size + 1) (.slice (some ⟨g, 0, none⟩) 1 cap) l0) := by
        show Has _ _ _ _
        rw [hl0]
        exact hmine.has
      have HB1 := Lib.hid hb
      clear hmine hb hl0
      go_loopw [3, 7] (fun v3 v7 wr => ∃ j : Nat, j ≤ xs.length ∧ v7 = .int .i64 j ∧ Hid (Has wr (w.heap.size + 1) v3 (l0 ++ ((xs.take j).map Sch.vB).flatten) ∧ Below (w.heap.size + 1) (w.alloc (.cells #[.int .i64 6, .int .i64 i, .float .f64 b, .string t, .slice p xs.length c] 44)) wr)) (fun _ v7 _ => xs.length - (intOf v7).toNat)
      case atStart => exact ⟨0, by omega, rfl, by simpa using HM.out, HB1.out⟩
      case round =>
        obtain ⟨j, hj, rfl, HK⟩ := hrel
        have n4 : wr.cell? ⟨w.heap.size, 4, none⟩ = some (.slice p xs.length c) := by rw [HK.out.2.cell (p := ⟨w.heap.size, 4, none⟩) (by show w.heap.size < _; omega)]; exact HY.out _
        have hbw : Below w.heap.size w wr := (HB.out _).trans (HK.out.2.mono (by omega))
        by_cases hlt : j < xs.length
        · obtain ⟨ux, hvx, hix⟩ := HX.out j hlt
          obtain ⟨bx, ox, kx, ix, fx, tx, qx, nx, cx, rfl, _, rfl, a0, a1, a2, a3, a4⟩ := (hix.on hbw).lies
          have HC := Lib.hid (HIH.out _ (List.getElem_mem hlt) wr _ (hvx.on hbw))
          have hj1 : (j : Int) < (xs.length : Int) := by omega
          have HO := Lib.hid HK.out.1
          have HBk := Lib.hid HK.out.2
          have hs1 : w.heap.size + 1 ≤ wr.heap.size := by have := HK.out.2.size; simp at this; omega
          have ht1 := Sch.flatten_take_le Sch.vB xs (j + 1)
          rw [Sch.flatten_take Sch.vB xs j hlt, List.length_append] at ht1
          have HFT := Lib.hid (Sch.flatten_take Sch.vB xs j hlt)
          obtain ⟨l1, hl1⟩ : ∃ l1, l1 = ((xs.take j).map Sch.vB).flatten := ⟨_, rfl⟩
          obtain ⟨l2, hl2⟩ : ∃ l2, l2 = Sch.vB xs[j] := ⟨_, rfl⟩
          rw [← hl1] at HO ht1 HFT
          rw [← hl2] at HC ht1 HFT
          clear hvx hix hbw HK hl1 hl2
          unfold cells5 at HC
          go_wp2_with fail
          refine HC.out.mono ?_
          rintro e w2 ⟨q, cap, rfl, hq, hb2⟩
          have HQ := Lib.hid hq
          have HO2 := Lib.hid (HO.out.on hb2)
          have HB2 := Lib.hid (HBk.out.trans (hb2.mono hs1))
          have hs2 : w.heap.size + 1 ≤ w2.heap.size := by have := hb2.size; omega
          have hlo : (l0 ++ l1).length ≤ 20000000100 := by rw [List.length_append]; omega
          obtain ⟨lo, hlo0⟩ : ∃ lo, lo = l0 ++ l1 := ⟨_, rfl⟩
          have HN : Hid (l0 ++ ((xs.take (j + 1)).map Sch.vB).flatten = lo ++ l2) := by
            show _ = _
            rw [HFT.out, ← List.append_assoc, ← hlo0]
          rw [← hlo0] at HO2 hlo
          clear hb2 hq a0 a1 a2 a3 a4 HC HO hlo0 HFT
          go_wp2_with (at_builtin; obtain ⟨p2, c2, he2, hat2, -⟩ := HQ.out.at; injection he2 with he2; refine wp_ontoL (B := w.heap.size + 1) (p := q) HO2.out (by rw [he2]; exact hat2) (by omega) hs2 rfl rfl rfl rfl rfl ?_; intro ys q3 cap3 W HYs hH3 ha3 hb3)
          have HR : Hid (Has W (w.heap.size + 1) (.slice q3 ys.length cap3) (l0 ++ ((xs.take (j + 1)).map Sch.vB).flatten) ∧ Below (w.heap.size + 1) (w.alloc (.cells #[.int .i64 6, .int .i64 i, .float .f64 b, .string t, .slice (some ⟨bx, ox, none⟩) xs.length c] 44)) W) := by
            refine ⟨?_, HB2.out.trans (aside_low ha3 HO2.out hs2)⟩
            rw [HN.out, ← HYs.out]
            exact hH3
          clear hH3 ha3 hb3
          go_roundw
          case rel => exact ⟨j + 1, by omega, by go_num, HR⟩
          case measure => simp [intOf]; omega
        · have hjn : ¬ (j : Int) < (xs.length : Int) := by omega
          have he : ((xs.take j).map Sch.vB).flatten = (xs.map Sch.vB).flatten := by rw [List.take_of_length_le (by omega)]
          have HO := HK.out.1
          rw [he] at HO
          obtain ⟨L, hL⟩ : ∃ L, L = l0 ++ (xs.map Sch.vB).flatten := ⟨_, rfl⟩
          rw [← hL] at HO
          have HLl := Lib.hid hL
          obtain ⟨q, cap, hv, -, -⟩ := HO.at
          subst hv
          replace HO := Lib.hid (HO.lower (B' := w.heap.size) (by omega))
          have HF := Lib.hid hbw
          clear HK he hbw hlt hL
          go_wp2
          go_ret
          rw [HE.out, ← HLl.out]
          exact ⟨q, cap, rfl, HO.out, HF.out⟩
    · have g0 : ¬ (0 : Int) < (xs.length : Int) := by omega
      obtain ⟨l0, hl0⟩ : ∃ l0 : List UInt8, l0 = [0] := ⟨_, rfl⟩
      have HE : Hid (Sch.vH 6 i b t xs.length = l0) := by
        show _ = _
        rw [hl0, Sch.vH, if_neg (by decide), if_neg (by decide), if_neg (by decide), if_neg (by decide), if_pos rfl, if_neg h0]
      have hl0n : l0.length ≤ 10 := by rw [hl0]; simp
      have HFl := Lib.hid (refFlag7 false)
      go_enter Tryz.func63, Tryz.ntmps63
      go_wp2_with fail
      refine (HFl.out _).mono ?_
      rintro e w1 ⟨rfl, hw1⟩
      rw [hw1]
      clear hw1 w1
      simp only [Bool.false_eq_true, if_false]
      go_wp2_with (at_builtin; refine wp_pushH (B := w.heap.size + 1) (H := w.heap.size + 1) (by simp) (has_nil _ _) 0 (by simp) (by simp) (by rfl) rfl rfl rfl rfl rfl ?_; intro g cap W hmine hb)
      have HM : Hid (Has W (w.heap.size + 1) (.slice (some ⟨g, 0, none⟩) 1 cap) l0) := by
        show Has _ _ _ _
        rw [hl0]
        exact hmine.has
      have HB1 := Lib.hid hb
      clear hmine hb hl0
      go_loopw [3, 7] (fun v3 v7 wr => ∃ j : Nat, j ≤ xs.length ∧ v7 = .int .i64 j ∧ Hid (Has wr (w.heap.size + 1) v3 (l0 ++ ((xs.take j).map Sch.vB).flatten) ∧ Below (w.heap.size + 1) (w.alloc (.cells #[.int .i64 6, .int .i64 i, .float .f64 b, .string t, .slice p xs.length c] 44)) wr)) (fun _ v7 _ => xs.length - (intOf v7).toNat)
      case atStart => exact ⟨0, by omega, rfl, by simpa using HM.out, HB1.out⟩
      case round =>
        obtain ⟨j, hj, rfl, HK⟩ := hrel
        have n4 : wr.cell? ⟨w.heap.size, 4, none⟩ = some (.slice p xs.length c) := by rw [HK.out.2.cell (p := ⟨w.heap.size, 4, none⟩) (by show w.heap.size < _; omega)]; exact HY.out _
        have hbw : Below w.heap.size w wr := (HB.out _).trans (HK.out.2.mono (by omega))
        by_cases hlt : j < xs.length
        · omega
        · have hjn : ¬ (j : Int) < (xs.length : Int) := by omega
          have he : ((xs.take j).map Sch.vB).flatten = (xs.map Sch.vB).flatten := by rw [List.take_of_length_le (by omega)]
          have HO := HK.out.1
          rw [he] at HO
          obtain ⟨L, hL⟩ : ∃ L, L = l0 ++ (xs.map Sch.vB).flatten := ⟨_, rfl⟩
          rw [← hL] at HO
          have HLl := Lib.hid hL
          obtain ⟨q, cap, hv, -, -⟩ := HO.at
          subst hv
          replace HO := Lib.hid (HO.lower (B' := w.heap.size) (by omega))
          have HF := Lib.hid hbw
          clear HK he hbw hlt hL
          go_wp2
          go_ret
          rw [HE.out, ← HLl.out]
          exact ⟨q, cap, rfl, HO.out, HF.out⟩
  · have HP := Lib.hid (refPut_any xs.length (by omega))
    have hl0n := Leb.put_length_le xs.length
    obtain ⟨l0, hl0⟩ : ∃ l0, l0 = Leb.put xs.length := ⟨_, rfl⟩
    have HE : Hid (Sch.vH 7 i b t xs.length = l0) := by
      show _ = _
      rw [hl0, Sch.vH, if_neg (by decide), if_neg (by decide), if_neg (by decide), if_neg (by decide), if_neg (by decide), if_pos rfl]
    rw [← hl0] at HP hl0n
    clear hl0
    have hxi : (xs.length : Int) ≤ 256 := by omega
    go_enter Tryz.func63, Tryz.ntmps63
    go_wp2_with fail
    refine (HP.out _).mono ?_
    rintro e w1 ⟨g, cap, rfl, hm, hb⟩
    have HM : Hid (Has w1 (w.heap.size + 1) (.slice (some ⟨g, 0, none⟩) l0.length cap) l0) := by
      show Has _ _ _ _
      have := hm.has
      simpa using this
    have HB1 : Hid (Below (w.heap.size + 1) (w.alloc (.cells #[.int .i64 7, .int .i64 i, .float .f64 b, .string t, .slice p xs.length c] 44)) w1) := by
      show Below _ _ _
      simpa using hb
    clear hm hb
    go_wp2_with fail
    go_loopw [3, 7] (fun v3 v7 wr => ∃ j : Nat, j ≤ xs.length ∧ v7 = .int .i64 j ∧ Hid (Has wr (w.heap.size + 1) v3 (l0 ++ ((xs.take j).map Sch.vB).flatten) ∧ Below (w.heap.size + 1) (w.alloc (.cells #[.int .i64 7, .int .i64 i, .float .f64 b, .string t, .slice p xs.length c] 44)) wr)) (fun _ v7 _ => xs.length - (intOf v7).toNat)
    case atStart => exact ⟨0, by omega, rfl, by simpa using HM.out, HB1.out⟩
    case round =>
      obtain ⟨j, hj, rfl, HK⟩ := hrel
      have n4 : wr.cell? ⟨w.heap.size, 4, none⟩ = some (.slice p xs.length c) := by rw [HK.out.2.cell (p := ⟨w.heap.size, 4, none⟩) (by show w.heap.size < _; omega)]; exact HY.out _
      have hbw : Below w.heap.size w wr := (HB.out _).trans (HK.out.2.mono (by omega))
      by_cases hlt : j < xs.length
      · obtain ⟨ux, hvx, hix⟩ := HX.out j hlt
        obtain ⟨bx, ox, kx, ix, fx, tx, qx, nx, cx, rfl, _, rfl, a0, a1, a2, a3, a4⟩ := (hix.on hbw).lies
        have HC := Lib.hid (HIH.out _ (List.getElem_mem hlt) wr _ (hvx.on hbw))
        have hj1 : (j : Int) < (xs.length : Int) := by omega
        have HO := Lib.hid HK.out.1
        have HBk := Lib.hid HK.out.2
        have hs1 : w.heap.size + 1 ≤ wr.heap.size := by have := HK.out.2.size; simp at this; omega
        have ht1 := Sch.flatten_take_le Sch.vB xs (j + 1)
        rw [Sch.flatten_take Sch.vB xs j hlt, List.length_append] at ht1
        have HFT := Lib.hid (Sch.flatten_take Sch.vB xs j hlt)
        obtain ⟨l1, hl1⟩ : ∃ l1, l1 = ((xs.take j).map Sch.vB).flatten := ⟨_, rfl⟩
        obtain ⟨l2, hl2⟩ : ∃ l2, l2 = Sch.vB xs[j] := ⟨_, rfl⟩
        rw [← hl1] at HO ht1 HFT
        rw [← hl2] at HC ht1 HFT
        clear hvx hix hbw HK hl1 hl2
        unfold cells5 at HC
        go_wp2_with fail
        refine HC.out.mono ?_
        rintro e w2 ⟨q, cap, rfl, hq, hb2⟩
        have HQ := Lib.hid hq
        have HO2 := Lib.hid (HO.out.on hb2)
        have HB2 := Lib.hid (HBk.out.trans (hb2.mono hs1))
        have hs2 : w.heap.size + 1 ≤ w2.heap.size := by have := hb2.size; omega
        have hlo : (l0 ++ l1).length ≤ 20000000100 := by rw [List.length_append]; omega
        obtain ⟨lo, hlo0⟩ : ∃ lo, lo = l0 ++ l1 := ⟨_, rfl⟩
        have HN : Hid (l0 ++ ((xs.take (j + 1)).map Sch.vB).flatten = lo ++ l2) := by
          show _ = _
          rw [HFT.out, ← List.append_assoc, ← hlo0]
        rw [← hlo0] at HO2 hlo
        clear hb2 hq a0 a1 a2 a3 a4 HC HO hlo0 HFT
        go_wp2_with (at_builtin; obtain ⟨p2, c2, he2, hat2, -⟩ := HQ.out.at; injection he2 with he2; refine wp_ontoL (B := w.heap.size + 1) (p := q) HO2.out (by rw [he2]; exact hat2) (by omega) hs2 rfl rfl rfl rfl rfl ?_; intro ys q3 cap3 W HYs hH3 ha3 hb3)
        have HR : Hid (Has W (w.heap.size + 1) (.slice q3 ys.length cap3) (l0 ++ ((xs.take (j + 1)).map Sch.vB).flatten) ∧ Below (w.heap.size + 1) (w.alloc (.cells #[.int .i64 7, .int .i64 i, .float .f64 b, .string t, .slice (some ⟨bx, ox, none⟩) xs.length c] 44)) W) := by
          refine ⟨?_, HB2.out.trans (aside_low ha3 HO2.out hs2)⟩
          rw [HN.out, ← HYs.out]
          exact hH3
        clear hH3 ha3 hb3
        go_roundw
        case rel => exact ⟨j + 1, by omega, by go_num, HR⟩
        case measure => simp [intOf]; omega
      · have hjn : ¬ (j : Int) < (xs.length : Int) := by omega
        have he : ((xs.take j).map Sch.vB).flatten = (xs.map Sch.vB).flatten := by rw [List.take_of_length_le (by omega)]
        have HO := HK.out.1
        rw [he] at HO
        obtain ⟨L, hL⟩ : ∃ L, L = l0 ++ (xs.map Sch.vB).flatten := ⟨_, rfl⟩
        rw [← hL] at HO
        have HLl := Lib.hid hL
        obtain ⟨q, cap, hv, -, -⟩ := HO.at
        subst hv
        replace HO := Lib.hid (HO.lower (B' := w.heap.size) (by omega))
        have HF := Lib.hid hbw
        clear HK he hbw hlt hL
        go_wp2
        go_ret
        rw [HE.out, ← HLl.out]
        exact ⟨q, cap, rfl, HO.out, HF.out⟩

theorem refValueBytes7 : ∀ (x : V) (d : Nat) (w : World) (u : Array Value), 1 ≤ d → chk d x = 0 → x.wf → VLies w u x → Calls Tryz.prog 63 #[.agg u] w (FreshB w (Sch.vB x)) := by
  intro x
  refine V.ind (P := fun x => ∀ (d : Nat) (w : World) (u : Array Value), 1 ≤ d → chk d x = 0 → x.wf → VLies w u x → Calls Tryz.prog 63 #[.agg u] w (FreshB w (Sch.vB x))) ?_ x
  intro k i b t xs ih d w u hd1 hc hw hx
  obtain ⟨p, c, rfl, hxl, hxc, hxi⟩ := hx.open
  unfold cells5
  obtain ⟨hd, ho, ht, hn, -, hcs⟩ := Sch.chk_open hc
  obtain ⟨o1, -, -, -, -, o6, -⟩ := Sch.own_open ho
  obtain ⟨-, wi, wb, -, ws⟩ := V.wf_mk.1 hw
  have hlen := Sch.vB_small hc hd1
  rcases (show k = 1 ∨ k = 2 ∨ k = 3 ∨ (k = 4 ∨ k = 5) ∨ (k = 6 ∨ k = 7) by omega) with rfl | rfl | rfl | hk | hk
  · rw [Sch.vB_leaf xs (by omega), Sch.vH, if_pos rfl]
    exact refValB_1 i (o6 rfl) b t p _ c w
  · rw [Sch.vB_leaf xs (by omega), Sch.vH, if_neg (by decide), if_pos rfl]
    exact refValB_2 i wi b t p _ c w
  · rw [Sch.vB_leaf xs (by omega), Sch.vH, if_neg (by decide), if_neg (by decide), if_pos rfl]
    exact refValB_3 i b wb t p _ c w
  · rw [Sch.vB_leaf xs (by omega), Sch.vH, if_neg (by omega), if_neg (by omega), if_neg (by omega), if_pos hk]
    exact refValB_45 k i hk b t ht p _ c w
  · rw [Sch.vB_items xs hk] at hlen ⊢
    rw [List.length_append] at hlen
    exact refValB_67 k i hk b t xs hn (fun y hy w' u' hl => ih y hy (d + 1) w' u' (by omega) (hcs y hy) (ws y hy) hl) (by omega) p c w hxi
end Go.Proofs.YtpkbdnilakaakaaGreat
