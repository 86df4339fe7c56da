/- The landed text: appendOpt, appendValue. -/
import Derived.Test.YtpjcmahlnnglcaaGreatDoorK21T
namespace Go.Proofs.YtpjcmahlnnglcaaGreatDoor
open Go.RowKit
attribute [local go_sem] run_store_float

section
variable {w w1 : World} {B : Nat} {v v1 : Value} {l : List UInt8}
theorem Grew.undrew (h : Grew w.drew B v w1 v1 l) : Grew w B v w1 v1 l := ⟨h.has, ⟨h.aside.os, h.aside.tape, h.aside.output, h.aside.size, h.aside.block⟩, h.fresh⟩
end
set_option maxHeartbeats 1000000 in
theorem appendOpt0 (p : Option Addr) (c B : Nat) (w : World) (v : Value) (xs : List UInt8) (hv : Has w B v xs) (hB : B ≤ w.heap.size) (hl : xs.length ≤ 140000000000000) : Calls Tryz.prog 73 #[v, .slice p 0 c] w (GrxV w B (xs ++ [110, 111, 110, 101])) := by
  have HV := Lib.hid hv
  have t4 : (ByteArray.mk #[110, 111, 110, 101]).size = 4 := rfl
  clear hv
  go_enter Tryz.func73, Tryz.ntmps73
  go_wp2_with (first
    | (at_builtin; refine wp_ontoS (B := B) (t := ⟨#[110, 111, 110, 101]⟩) HV.out (by rw [show (ByteArray.mk #[110, 111, 110, 101]).size = 4 from rfl]; omega) hB rfl rfl rfl rfl rfl ?_; intro ys q4 cap4 W HY hH4 ha4 hb4
       have HG1 := Lib.hid (Grx.of ⟨hH4, ha4, hb4⟩ HV.out)
       clear hH4 ha4 hb4)
    | fail)
  go_ret
  have e : xs ++ [110, 111, 110, 101] = ys := HY.out.symm
  rw [e]
  exact ⟨q4, cap4, rfl, HG1.out⟩
set_option maxHeartbeats 1000000 in
theorem appendOpt1 (x : V) (hx : AppV x) (p : Option Addr) (c : Nat) (w0 w : World) (hv0 : Hv w0) (hxi : ∀ j (hj : j < [x].length), ∃ u', VLies w0 u' [x][j] ∧ Item w0 p j u') (hb0 : Below w0.heap.size w0 w) (v : Value) (xs : List UInt8) (hv : Has w w0.heap.size v xs) (hlen : xs.length + ([115, 111, 109, 101, 40] ++ (Tx.val text x ++ [41])).length ≤ 140000000000000) :
    Calls Tryz.prog 73 #[v, .slice p 1 c] w (GrxV w w0.heap.size (xs ++ ([115, 111, 109, 101, 40] ++ (Tx.val text x ++ [41])))) := by
  have hBs := hb0.size
  have t5 : (ByteArray.mk #[115, 111, 109, 101, 40]).size = 5 := rfl
  have HV := Lib.hid hv
  have HB0 := Lib.hid hb0
  rw [List.length_append, List.length_append] at hlen
  simp only [List.length_cons, List.length_nil] at hlen
  have HC : Hid (∀ w' v' l, Below w0.heap.size w0 w' → Has w' w0.heap.size v' l → l.length + (Tx.val text x).length ≤ 140000000000000 → Calls Tryz.prog 41 #[v', .slice p 1 c] w' (GrxV w' w0.heap.size (l ++ Tx.val text x))) := fun w' v' l h1 h2 h3 => appendValuesX [x] (by simp) (fun y hy => by rw [List.mem_singleton] at hy; rw [hy]; exact hx) p c w0 w' hv0 hxi h1 v' l h2 h3
  obtain ⟨tt, htt⟩ : ∃ tt, tt = Tx.val text x := ⟨_, rfl⟩
  rw [← htt] at HC hlen ⊢
  clear hv hb0 hx hv0 hxi htt
  go_enter Tryz.func73, Tryz.ntmps73
  go_wp2_with (first
    | (at_builtin; refine wp_ontoS (B := w0.heap.size) (t := ⟨#[115, 111, 109, 101, 40]⟩) HV.out (by rw [show (ByteArray.mk #[115, 111, 109, 101, 40]).size = 5 from rfl]; omega) hBs rfl rfl rfl rfl rfl ?_; intro ys5 q5 cap5 W5 HY5 hH5 ha5 hb5
       have HG5 := Lib.hid (Grx.of ⟨hH5, ha5, hb5⟩ HV.out)
       clear hH5 ha5 hb5)
    | fail)
  have hyl : ys5.length + tt.length ≤ 139999999999999 := by
    rw [HY5.out, List.length_append]
    show xs.length + 5 + tt.length ≤ _
    omega
  refine (HC.out W5 _ _ (HB0.out.trans (HG5.out.below hBs)) HG5.out.has (by omega)).mono ?_
  intro e w4 hh
  obtain ⟨q6, cap6, he6, hg6⟩ := hh.open
  subst he6
  have HG6 := Lib.hid (HG5.out.trans hg6)
  obtain ⟨l6, hl6⟩ : ∃ l6, l6 = ys5 ++ tt := ⟨_, rfl⟩
  rw [← hl6] at HG6 ⊢
  have HL6 := Lib.hid hl6
  have hl6n : l6.length ≤ 139999999999999 := by rw [hl6, List.length_append]; exact hyl
  have hB6 : w0.heap.size ≤ w4.heap.size := Nat.le_trans hBs HG6.out.size
  have HH6 := Lib.hid HG6.out.has
  clear hh hg6 hl6 HC
  go_wp2_with (first
    | (at_builtin; refine wp_pushG rfl HH6.out 41 (by omega) hB6 rfl rfl rfl rfl rfl rfl ?_
       intro q7 cap7 W7 zs7 HZ7 hg7
       have HG7 := Lib.hid (HG6.out.trans (Grx.of hg7 HH6.out))
       clear hg7)
    | fail)
  go_ret
  have e : xs ++ ([115, 111, 109, 101, 40] ++ (tt ++ [41])) = zs7 := by rw [HZ7.out, HL6.out, HY5.out]; simp
  have e' : xs ++ 115 :: 111 :: 109 :: 101 :: 40 :: (tt ++ [41]) = zs7 := e
  first | rw [e] | rw [e']
  exact ⟨q7, cap7, rfl, HG7.out⟩
set_option maxHeartbeats 1000000 in
theorem av1 (i : Int) (b : Nat) (t : ByteArray) (p : Option Addr) (n c : Nat) (w0 w : World) (hv0 : Hv w0) (hb0 : Below w0.heap.size w0 w) (v : Value) (xs : List UInt8) (hv : Has w w0.heap.size v xs) (hlen : xs.length ≤ 140000000000000)  : Calls Tryz.prog 38 #[v, .agg #[.int .i64 1, .int .i64 i, .float .f64 b, .string t, .slice p n c]] w (GrxV w w0.heap.size (xs ++ (if i = 1 then [116, 114, 117, 101] else [102, 97, 108, 115, 101]))) := by
  obtain ⟨q0, cap0, rfl, -, -⟩ := hv.at
  have hBs := hb0.size
  have hB7 := hv0.size
  obtain ⟨W0, hW0⟩ : ∃ W0, W0 = w.alloc (.cells #[.int .i64 1, .int .i64 i, .float .f64 b, .string t, .slice p n c] 31) := ⟨_, rfl⟩
  have hbW : Below w.heap.size w W0 := by rw [hW0]; exact (Below.refl _ _).alloc (Nat.le_refl _) _
  have hblk : W0.heap[w.heap.size]? = some (.cells #[.int .i64 1, .int .i64 i, .float .f64 b, .string t, .slice p n c] 31 (0, 0)) := by rw [hW0]; exact blk_new w _
  have c0 : W0.cell? ⟨w.heap.size, 0, none⟩ = some (.int .i64 1) := blk_cell hblk 0
  have c1 : W0.cell? ⟨w.heap.size, 1, none⟩ = some (.int .i64 i) := blk_cell hblk 1
  have c2 : W0.cell? ⟨w.heap.size, 2, none⟩ = some (.float .f64 b) := blk_cell hblk 2
  have c3 : W0.cell? ⟨w.heap.size, 3, none⟩ = some (.string t) := blk_cell hblk 3
  have c4 : W0.cell? ⟨w.heap.size, 4, none⟩ = some (.slice p n c) := blk_cell hblk 4
  have hvW : Hv W0 := (hv0.on hb0 hB7).on hbW (Nat.le_trans hB7 hBs)
  have HVW := Lib.hid (hv.on hbW)
  have HG0 := Lib.hid (Grx.new hv hbW)
  have HB0 := Lib.hid hb0
  have HBW := Lib.hid (hb0.trans (hbW.mono hBs))
  have hBW : w0.heap.size ≤ W0.heap.size := Nat.le_trans hBs hbW.size
  have HW0 := Lib.hid hW0
  have HC := Lib.hid (appendBoolX (i == 1) w0.heap.size W0 _ xs HVW.out hBW hlen)
  have e1 : (if (i == 1) = true then [116, 114, 117, 101] else [102, 97, 108, 115, 101] : List UInt8) = if i = 1 then [116, 114, 117, 101] else [102, 97, 108, 115, 101] := by simp only [beq_iff_eq]
  rw [e1] at HC
  clear e1
  obtain ⟨L, hL⟩ : ∃ L, L = xs ++ (if i = 1 then [116, 114, 117, 101] else [102, 97, 108, 115, 101]) := ⟨_, rfl⟩
  rw [← hL] at HC ⊢
  clear hv hb0 hv0 hbW hblk hvW hW0 hL
  go_enter Tryz.func38, Tryz.ntmps38
  go_wp2_with fail
  rw [← HW0.out]
  refine HC.out.mono ?_
  intro e w4 hh
  obtain ⟨q6, cap6, he6, hg6⟩ := hh.open
  subst he6
  have HG6 := Lib.hid (HG0.out.trans hg6)
  clear hh hg6 HC
  go_wp2
  go_ret
  exact ⟨q6, cap6, rfl, HG6.out⟩
set_option maxHeartbeats 1000000 in
theorem av2 (i : Int) (b : Nat) (t : ByteArray) (p : Option Addr) (n c : Nat) (w0 w : World) (hv0 : Hv w0) (hb0 : Below w0.heap.size w0 w) (v : Value) (xs : List UInt8) (hv : Has w w0.heap.size v xs) (hlen : xs.length ≤ 140000000000000) (hi : -9223372036854775808 ≤ i ∧ i ≤ 9223372036854775807) : Calls Tryz.prog 38 #[v, .agg #[.int .i64 2, .int .i64 i, .float .f64 b, .string t, .slice p n c]] w (GrxV w w0.heap.size (xs ++ Lib.itoa i)) := by
  obtain ⟨q0, cap0, rfl, -, -⟩ := hv.at
  have hBs := hb0.size
  have hB7 := hv0.size
  obtain ⟨W0, hW0⟩ : ∃ W0, W0 = w.alloc (.cells #[.int .i64 2, .int .i64 i, .float .f64 b, .string t, .slice p n c] 31) := ⟨_, rfl⟩
  have hbW : Below w.heap.size w W0 := by rw [hW0]; exact (Below.refl _ _).alloc (Nat.le_refl _) _
  have hblk : W0.heap[w.heap.size]? = some (.cells #[.int .i64 2, .int .i64 i, .float .f64 b, .string t, .slice p n c] 31 (0, 0)) := by rw [hW0]; exact blk_new w _
  have c0 : W0.cell? ⟨w.heap.size, 0, none⟩ = some (.int .i64 2) := blk_cell hblk 0
  have c1 : W0.cell? ⟨w.heap.size, 1, none⟩ = some (.int .i64 i) := blk_cell hblk 1
  have c2 : W0.cell? ⟨w.heap.size, 2, none⟩ = some (.float .f64 b) := blk_cell hblk 2
  have c3 : W0.cell? ⟨w.heap.size, 3, none⟩ = some (.string t) := blk_cell hblk 3
  have c4 : W0.cell? ⟨w.heap.size, 4, none⟩ = some (.slice p n c) := blk_cell hblk 4
  have hvW : Hv W0 := (hv0.on hb0 hB7).on hbW (Nat.le_trans hB7 hBs)
  have HVW := Lib.hid (hv.on hbW)
  have HG0 := Lib.hid (Grx.new hv hbW)
  have HB0 := Lib.hid hb0
  have HBW := Lib.hid (hb0.trans (hbW.mono hBs))
  have hBW : w0.heap.size ≤ W0.heap.size := Nat.le_trans hBs hbW.size
  have HW0 := Lib.hid hW0
  have HC := Lib.hid (appendIntX i hi w0.heap.size W0 _ xs HVW.out hBW hlen hvW hB7)
  obtain ⟨L, hL⟩ : ∃ L, L = xs ++ Lib.itoa i := ⟨_, rfl⟩
  rw [← hL] at HC ⊢
  clear hv hb0 hv0 hbW hblk hvW hW0 hL
  go_enter Tryz.func38, Tryz.ntmps38
  go_wp2_with fail
  rw [← HW0.out]
  refine HC.out.mono ?_
  intro e w4 hh
  obtain ⟨q6, cap6, he6, hg6⟩ := hh.open
  subst he6
  have HG6 := Lib.hid (HG0.out.trans hg6)
  clear hh hg6 HC
  go_wp2
  go_ret
  exact ⟨q6, cap6, rfl, HG6.out⟩
set_option maxHeartbeats 1000000 in
theorem av4 (i : Int) (b : Nat) (t : ByteArray) (p : Option Addr) (n c : Nat) (w0 w : World) (hv0 : Hv w0) (hb0 : Below w0.heap.size w0 w) (v : Value) (xs : List UInt8) (hv : Has w w0.heap.size v xs) (hlen : xs.length ≤ 140000000000000) (ht : t.size ≤ 1024) : Calls Tryz.prog 38 #[v, .agg #[.int .i64 4, .int .i64 i, .float .f64 b, .string t, .slice p n c]] w (GrxV w w0.heap.size (xs ++ Tx.quo 34 t.data.toList)) := by
  obtain ⟨q0, cap0, rfl, -, -⟩ := hv.at
  have hBs := hb0.size
  have hB7 := hv0.size
  obtain ⟨W0, hW0⟩ : ∃ W0, W0 = w.alloc (.cells #[.int .i64 4, .int .i64 i, .float .f64 b, .string t, .slice p n c] 31) := ⟨_, rfl⟩
  have hbW : Below w.heap.size w W0 := by rw [hW0]; exact (Below.refl _ _).alloc (Nat.le_refl _) _
  have hblk : W0.heap[w.heap.size]? = some (.cells #[.int .i64 4, .int .i64 i, .float .f64 b, .string t, .slice p n c] 31 (0, 0)) := by rw [hW0]; exact blk_new w _
  have c0 : W0.cell? ⟨w.heap.size, 0, none⟩ = some (.int .i64 4) := blk_cell hblk 0
  have c1 : W0.cell? ⟨w.heap.size, 1, none⟩ = some (.int .i64 i) := blk_cell hblk 1
  have c2 : W0.cell? ⟨w.heap.size, 2, none⟩ = some (.float .f64 b) := blk_cell hblk 2
  have c3 : W0.cell? ⟨w.heap.size, 3, none⟩ = some (.string t) := blk_cell hblk 3
  have c4 : W0.cell? ⟨w.heap.size, 4, none⟩ = some (.slice p n c) := blk_cell hblk 4
  have hvW : Hv W0 := (hv0.on hb0 hB7).on hbW (Nat.le_trans hB7 hBs)
  have HVW := Lib.hid (hv.on hbW)
  have HG0 := Lib.hid (Grx.new hv hbW)
  have HB0 := Lib.hid hb0
  have HBW := Lib.hid (hb0.trans (hbW.mono hBs))
  have hBW : w0.heap.size ≤ W0.heap.size := Nat.le_trans hBs hbW.size
  have HW0 := Lib.hid hW0
  have HC := Lib.hid (appendQuotedX 34 (by decide) t ht w0.heap.size W0 _ xs HVW.out hBW hlen)
  obtain ⟨L, hL⟩ : ∃ L, L = xs ++ Tx.quo 34 t.data.toList := ⟨_, rfl⟩
  rw [← hL] at HC ⊢
  clear hv hb0 hv0 hbW hblk hvW hW0 hL
  go_enter Tryz.func38, Tryz.ntmps38
  go_wp2_with fail
  rw [← HW0.out]
  refine HC.out.mono ?_
  intro e w4 hh
  obtain ⟨q6, cap6, he6, hg6⟩ := hh.open
  subst he6
  have HG6 := Lib.hid (HG0.out.trans hg6)
  clear hh hg6 HC
  go_wp2
  go_ret
  exact ⟨q6, cap6, rfl, HG6.out⟩
set_option maxHeartbeats 1000000 in
theorem av5 (i : Int) (b : Nat) (t : ByteArray) (p : Option Addr) (n c : Nat) (w0 w : World) (hv0 : Hv w0) (hb0 : Below w0.heap.size w0 w) (v : Value) (xs : List UInt8) (hv : Has w w0.heap.size v xs) (hlen : xs.length ≤ 140000000000000) (ht : t.size ≤ 1024) : Calls Tryz.prog 38 #[v, .agg #[.int .i64 5, .int .i64 i, .float .f64 b, .string t, .slice p n c]] w (GrxV w w0.heap.size (xs ++ Tx.quo 39 t.data.toList)) := by
  obtain ⟨q0, cap0, rfl, -, -⟩ := hv.at
  have hBs := hb0.size
  have hB7 := hv0.size
  obtain ⟨W0, hW0⟩ : ∃ W0, W0 = w.alloc (.cells #[.int .i64 5, .int .i64 i, .float .f64 b, .string t, .slice p n c] 31) := ⟨_, rfl⟩
  have hbW : Below w.heap.size w W0 := by rw [hW0]; exact (Below.refl _ _).alloc (Nat.le_refl _) _
  have hblk : W0.heap[w.heap.size]? = some (.cells #[.int .i64 5, .int .i64 i, .float .f64 b, .string t, .slice p n c] 31 (0, 0)) := by rw [hW0]; exact blk_new w _
  have c0 : W0.cell? ⟨w.heap.size, 0, none⟩ = some (.int .i64 5) := blk_cell hblk 0
  have c1 : W0.cell? ⟨w.heap.size, 1, none⟩ = some (.int .i64 i) := blk_cell hblk 1
  have c2 : W0.cell? ⟨w.heap.size, 2, none⟩ = some (.float .f64 b) := blk_cell hblk 2
  have c3 : W0.cell? ⟨w.heap.size, 3, none⟩ = some (.string t) := blk_cell hblk 3
  have c4 : W0.cell? ⟨w.heap.size, 4, none⟩ = some (.slice p n c) := blk_cell hblk 4
  have hvW : Hv W0 := (hv0.on hb0 hB7).on hbW (Nat.le_trans hB7 hBs)
  have HVW := Lib.hid (hv.on hbW)
  have HG0 := Lib.hid (Grx.new hv hbW)
  have HB0 := Lib.hid hb0
  have HBW := Lib.hid (hb0.trans (hbW.mono hBs))
  have hBW : w0.heap.size ≤ W0.heap.size := Nat.le_trans hBs hbW.size
  have HW0 := Lib.hid hW0
  have HC := Lib.hid (appendQuotedX 39 (by decide) t ht w0.heap.size W0 _ xs HVW.out hBW hlen)
  obtain ⟨L, hL⟩ : ∃ L, L = xs ++ Tx.quo 39 t.data.toList := ⟨_, rfl⟩
  rw [← hL] at HC ⊢
  clear hv hb0 hv0 hbW hblk hvW hW0 hL
  go_enter Tryz.func38, Tryz.ntmps38
  go_wp2_with fail
  rw [← HW0.out]
  refine HC.out.mono ?_
  intro e w4 hh
  obtain ⟨q6, cap6, he6, hg6⟩ := hh.open
  subst he6
  have HG6 := Lib.hid (HG0.out.trans hg6)
  clear hh hg6 HC
  go_wp2
  go_ret
  exact ⟨q6, cap6, rfl, HG6.out⟩
end Go.Proofs.YtpjcmahlnnglcaaGreatDoor
