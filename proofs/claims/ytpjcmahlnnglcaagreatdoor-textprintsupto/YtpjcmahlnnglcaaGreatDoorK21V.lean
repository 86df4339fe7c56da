/- The landed text: appendValue at floats, opts and lists; appendValue. -/
import Derived.Test.YtpjcmahlnnglcaaGreatDoorK21U
namespace Go.Proofs.YtpjcmahlnnglcaaGreatDoor
open Go.RowKit
attribute [local go_sem] run_store_float

set_option maxRecDepth 100000 in
set_option maxHeartbeats 4000000 in
theorem av3 (i : Int) (b : Nat) (t : ByteArray) (p : Option Addr) (n c : Nat) (w0 w : World) (hv0 : Hv w0) (hb0 : Below w0.heap.size w0 w) (v : Value) (xs : List UInt8) (hv : Has w w0.heap.size v xs) (hlen : xs.length ≤ 140000000000000) (hbb : b < 18446744073709551616) : Calls Tryz.prog 38 #[v, .agg #[.int .i64 3, .int .i64 i, .float .f64 b, .string t, .slice p n c]] w (GrxV w w0.heap.size (xs ++ (126 :: text b))) := by
  obtain ⟨q0, cap0, rfl, -, -⟩ := hv.at
  have hBs := hb0.size
  have hB7 := hv0.size
  obtain ⟨W0, hW0⟩ : ∃ W0, W0 = w.alloc (.cells #[.int .i64 3, .int .i64 i, .float .f64 b, .string t, .slice p n c] 31) := ⟨_, rfl⟩
  have hbW : Below w.heap.size w W0 := by rw [hW0]; exact (Below.refl _ _).alloc (Nat.le_refl _) _
  have hblk : W0.heap[w.heap.size]? = some (.cells #[.int .i64 3, .int .i64 i, .float .f64 b, .string t, .slice p n c] 31 (0, 0)) := by rw [hW0]; exact blk_new w _
  have c0 : W0.cell? ⟨w.heap.size, 0, none⟩ = some (.int .i64 3) := blk_cell hblk 0
  have c1 : W0.cell? ⟨w.heap.size, 1, none⟩ = some (.int .i64 i) := blk_cell hblk 1
  have c2 : W0.cell? ⟨w.heap.size, 2, none⟩ = some (.float .f64 b) := blk_cell hblk 2
  have c3 : W0.cell? ⟨w.heap.size, 3, none⟩ = some (.string t) := blk_cell hblk 3
  have c4 : W0.cell? ⟨w.heap.size, 4, none⟩ = some (.slice p n c) := blk_cell hblk 4
  have hvW : Hv W0 := (hv0.on hb0 hB7).on hbW (Nat.le_trans hB7 hBs)
  have HVW := Lib.hid (hv.on hbW)
  have HG0 := Lib.hid (Grx.new hv hbW)
  have HB0 := Lib.hid hb0
  have HBW := Lib.hid (hb0.trans (hbW.mono hBs))
  have hBW : w0.heap.size ≤ W0.heap.size := Nat.le_trans hBs hbW.size
  have HW0 := Lib.hid hW0
  have HRP : Hid (∀ w', Hv w' → Calls Tryz.prog 71 #[.float .f64 b] w' fun e w'' => e = .returned (.string ⟨(text b).toArray⟩) ∧ Below w'.heap.size w' w'') := fun w' h => realPrint_any b hbb w' h.tab h.tz
  have hl := text_len b
  obtain ⟨T, hT⟩ : ∃ T, T = text b := ⟨_, rfl⟩
  rw [← hT] at HRP hl ⊢
  have y2 : ∀ o, (W0.alloc o).cell? ⟨w.heap.size, 2, none⟩ = some (.float .f64 b) := fun o => blk_cell ((blk_old W0 o (blk_lt hblk)).trans hblk) 2
  have HBlk := Lib.hid hblk
  have HHv := Lib.hid hvW
  have hts : (ByteArray.mk T.toArray).size = T.length := by show T.toArray.size = _; simp
  clear hv hb0 hv0 hbW hblk hvW hW0 hT
  go_enter Tryz.func38, Tryz.ntmps38
  go_wp2_with fail
  rw [← HW0.out]
  go_region_law (first
    | (refine step_pushG (B := w0.heap.size) (xs := xs) (v := .slice q0 xs.length cap0) (w := W0.drew) (H := W0.heap.size) (by rfl) HVW.out.drew 126 (by omega) hBW (.tmp 22) (.tmp 23) (by rfl) (by rfl) (by rfl) (by rfl) (by rfl) (by rfl) ?_
       intro q3 cap3 W5 ys5 HY5 hg3
       have hgx := Grx.of hg3.undrew HVW.out
       have HG3 := Lib.hid (HG0.out.trans hgx)
       have d2 : W5.cell? ⟨w.heap.size, 2, none⟩ = some (.float .f64 b) := blk_cell (hgx.blk HBlk.out (by decide)) 2
       have HV5 := Lib.hid (HHv.out.on (hgx.below hBW) hB7)
       have hyl : ys5.length ≤ 140000000000001 := by (rw [HY5.out, List.length_append, List.length_singleton]; omega)
       clear hg3 hgx)
    | (refine step_call1 (.tmp 26) 28 (by rfl) (by rfl) (by rfl) Tryz.func71 (by kernel_rfl) (by rfl) (HRP.out W5 HV5.out) ?_
       rintro e w4 ⟨he4, hb4⟩
       refine ⟨_, he4, ?_⟩
       have HG4 := Lib.hid (HG3.out.on hb4)
       clear he4 hb4)
    | (refine step_ontoX (B := w0.heap.size) (xs := ys5) (t := ⟨T.toArray⟩) (w := w4) (v := .slice q3 ys5.length cap3) HG4.out.has (by omega) (Nat.le_trans hBs HG4.out.size) (.tmp 24) (.tmp 27) (by rfl) (by rfl) (by rfl) (by rfl) (by rfl) ?_
       intro q7 cap7 W7 zs7 HZ7 hg7
       have HG7 := Lib.hid (HG4.out.trans (Grx.of hg7 HG4.out.has))
       clear hg7))
  all_goals
    go_wp2
    go_ret
    have e : xs ++ 126 :: T = zs7 := by rw [HZ7.out, HY5.out]; simp
    rw [e]
    exact ⟨q7, cap7, rfl, HG7.out⟩

set_option maxRecDepth 100000 in
set_option maxHeartbeats 4000000 in
theorem av7 (i : Int) (b : Nat) (t : ByteArray) (p : Option Addr) (n c : Nat) (w0 w : World) (hv0 : Hv w0) (hb0 : Below w0.heap.size w0 w) (v : Value) (xs : List UInt8) (hv : Has w w0.heap.size v xs) (L : Tx.Bs) (hlen : xs.length + L.length + 2 ≤ 140000000000000) (hC : ∀ w' v' l, Below w0.heap.size w0 w' → Has w' w0.heap.size v' l → l.length + L.length ≤ 140000000000000 → Calls Tryz.prog 41 #[v', .slice p n c] w' (GrxV w' w0.heap.size (l ++ L))) : Calls Tryz.prog 38 #[v, .agg #[.int .i64 7, .int .i64 i, .float .f64 b, .string t, .slice p n c]] w (GrxV w w0.heap.size (xs ++ (91 :: (L ++ [93])))) := by
  obtain ⟨q0, cap0, rfl, -, -⟩ := hv.at
  have hBs := hb0.size
  have hB7 := hv0.size
  obtain ⟨W0, hW0⟩ : ∃ W0, W0 = w.alloc (.cells #[.int .i64 7, .int .i64 i, .float .f64 b, .string t, .slice p n c] 31) := ⟨_, rfl⟩
  have hbW : Below w.heap.size w W0 := by rw [hW0]; exact (Below.refl _ _).alloc (Nat.le_refl _) _
  have hblk : W0.heap[w.heap.size]? = some (.cells #[.int .i64 7, .int .i64 i, .float .f64 b, .string t, .slice p n c] 31 (0, 0)) := by rw [hW0]; exact blk_new w _
  have c0 : W0.cell? ⟨w.heap.size, 0, none⟩ = some (.int .i64 7) := blk_cell hblk 0
  have c1 : W0.cell? ⟨w.heap.size, 1, none⟩ = some (.int .i64 i) := blk_cell hblk 1
  have c2 : W0.cell? ⟨w.heap.size, 2, none⟩ = some (.float .f64 b) := blk_cell hblk 2
  have c3 : W0.cell? ⟨w.heap.size, 3, none⟩ = some (.string t) := blk_cell hblk 3
  have c4 : W0.cell? ⟨w.heap.size, 4, none⟩ = some (.slice p n c) := blk_cell hblk 4
  have hvW : Hv W0 := (hv0.on hb0 hB7).on hbW (Nat.le_trans hB7 hBs)
  have HVW := Lib.hid (hv.on hbW)
  have HG0 := Lib.hid (Grx.new hv hbW)
  have HB0 := Lib.hid hb0
  have HBW := Lib.hid (hb0.trans (hbW.mono hBs))
  have hBW : w0.heap.size ≤ W0.heap.size := Nat.le_trans hBs hbW.size
  have HW0 := Lib.hid hW0
  have HC := Lib.hid hC
  have y4 : ∀ o, (W0.alloc o).cell? ⟨w.heap.size, 4, none⟩ = some (.slice p n c) := fun o => blk_cell ((blk_old W0 o (blk_lt hblk)).trans hblk) 4
  have HBlk := Lib.hid hblk
  clear hv hb0 hv0 hbW hblk hvW hW0 hC
  go_enter Tryz.func38, Tryz.ntmps38
  go_wp2_with fail
  rw [← HW0.out]
  go_region_law (first
    | (refine step_pushG (B := w0.heap.size) (xs := xs) (v := .slice q0 xs.length cap0) (w := W0.drew) (H := W0.heap.size) (by rfl) HVW.out.drew 91 (by omega) hBW (.tmp 47) (.tmp 48) (by rfl) (by rfl) (by rfl) (by rfl) (by rfl) (by rfl) ?_
       intro q3 cap3 W5 ys5 HY5 hg3
       have hgx := Grx.of hg3.undrew HVW.out
       have HG3 := Lib.hid (HG0.out.trans hgx)
       have d4 : W5.cell? ⟨w.heap.size, 4, none⟩ = some (.slice p n c) := blk_cell (hgx.blk HBlk.out (by decide)) 4
       have HB5 := Lib.hid (HB0.out.trans (HG3.out.below hBs))
       have hyl : ys5.length ≤ xs.length + 1 := by (rw [HY5.out, List.length_append, List.length_singleton]; omega)
       clear hg3 hgx)
    | (refine step_call2 (.tmp 49) (.tmp 51) 58 29 (by rfl) (by rfl) (by rfl) (by rfl) Tryz.func41 (by kernel_rfl) (by rfl) (HC.out W5 (.slice q3 ys5.length cap3) ys5 HB5.out HG3.out.has (by omega)) ?_
       intro e w4 hh
       obtain ⟨q6, cap6, he6, hg6⟩ := hh.open
       refine ⟨_, he6, ?_⟩
       have HG6 := Lib.hid (HG3.out.trans hg6)
       obtain ⟨l6, hl6⟩ : ∃ l6, l6 = ys5 ++ L := ⟨_, rfl⟩
       rw [← hl6] at HG6 ⊢
       have HL6 := Lib.hid hl6
       have hl6n : l6.length ≤ 140000000000000 := by (rw [hl6, List.length_append]; omega)
       clear hh hg6 he6 hl6))
  all_goals
    have hB6 : w0.heap.size ≤ w4.heap.size := Nat.le_trans hBs HG6.out.size
    have HH6 := Lib.hid HG6.out.has
    clear d4 y4 c0 c1 c2 c3 c4
    go_wp2_with (first
      | (at_builtin; refine wp_pushG rfl HH6.out 93 (by omega) hB6 rfl rfl rfl rfl rfl rfl ?_
         intro q7 cap7 W7 zs7 HZ7 hg7
         have HG7 := Lib.hid (HG6.out.trans (Grx.of hg7 HH6.out))
         clear hg7)
      | fail)
    go_ret
    have e : xs ++ 91 :: (L ++ [93]) = zs7 := by rw [HZ7.out, HL6.out, HY5.out]; simp
    rw [e]
    exact ⟨q7, cap7, rfl, HG7.out⟩
set_option maxHeartbeats 1000000 in
theorem av6 (i : Int) (b : Nat) (t : ByteArray) (p : Option Addr) (n c : Nat) (w0 w : World) (hv0 : Hv w0) (hb0 : Below w0.heap.size w0 w) (v : Value) (xs : List UInt8) (hv : Has w w0.heap.size v xs) (L : Tx.Bs) (hC : ∀ w' v', Below w0.heap.size w0 w' → Has w' w0.heap.size v' xs → Calls Tryz.prog 73 #[v', .slice p n c] w' (GrxV w' w0.heap.size (xs ++ L))) : Calls Tryz.prog 38 #[v, .agg #[.int .i64 6, .int .i64 i, .float .f64 b, .string t, .slice p n c]] w (GrxV w w0.heap.size (xs ++ L)) := by
  obtain ⟨q0, cap0, rfl, -, -⟩ := hv.at
  have hBs := hb0.size
  have hB7 := hv0.size
  obtain ⟨W0, hW0⟩ : ∃ W0, W0 = w.alloc (.cells #[.int .i64 6, .int .i64 i, .float .f64 b, .string t, .slice p n c] 31) := ⟨_, rfl⟩
  have hbW : Below w.heap.size w W0 := by rw [hW0]; exact (Below.refl _ _).alloc (Nat.le_refl _) _
  have hblk : W0.heap[w.heap.size]? = some (.cells #[.int .i64 6, .int .i64 i, .float .f64 b, .string t, .slice p n c] 31 (0, 0)) := by rw [hW0]; exact blk_new w _
  have c0 : W0.cell? ⟨w.heap.size, 0, none⟩ = some (.int .i64 6) := blk_cell hblk 0
  have c1 : W0.cell? ⟨w.heap.size, 1, none⟩ = some (.int .i64 i) := blk_cell hblk 1
  have c2 : W0.cell? ⟨w.heap.size, 2, none⟩ = some (.float .f64 b) := blk_cell hblk 2
  have c3 : W0.cell? ⟨w.heap.size, 3, none⟩ = some (.string t) := blk_cell hblk 3
  have c4 : W0.cell? ⟨w.heap.size, 4, none⟩ = some (.slice p n c) := blk_cell hblk 4
  have hvW : Hv W0 := (hv0.on hb0 hB7).on hbW (Nat.le_trans hB7 hBs)
  have HVW := Lib.hid (hv.on hbW)
  have HG0 := Lib.hid (Grx.new hv hbW)
  have HB0 := Lib.hid hb0
  have HBW := Lib.hid (hb0.trans (hbW.mono hBs))
  have hBW : w0.heap.size ≤ W0.heap.size := Nat.le_trans hBs hbW.size
  have HW0 := Lib.hid hW0
  have HC := Lib.hid (hC W0 _ HBW.out HVW.out)
  obtain ⟨L', hL'⟩ : ∃ L', L' = xs ++ L := ⟨_, rfl⟩
  rw [← hL'] at HC ⊢
  clear hv hb0 hv0 hbW hblk hvW hW0 hL' hC
  go_enter Tryz.func38, Tryz.ntmps38
  go_wp2_with fail
  rw [← HW0.out]
  refine HC.out.mono ?_
  intro e w4 hh
  obtain ⟨q6, cap6, he6, hg6⟩ := hh.open
  subst he6
  have HG6 := Lib.hid (HG0.out.trans hg6)
  clear hh hg6 HC
  go_wp2
  go_ret
  exact ⟨q6, cap6, rfl, HG6.out⟩

theorem appendValueX : ∀ (x : V) (d : Nat), 1 ≤ d → chk d x = 0 → x.wf → AppV x := by
  refine V.ind ?_
  intro k i b t ys ih d hd1 hd hw w0 w u v xs hv0 hx hb0 hv hlen
  obtain ⟨p, c, rfl, hxl, hxc, hxi⟩ := hx.open
  unfold cells5
  obtain ⟨hd4, ho, h3, h4, -, h6⟩ := Sch.chk_open hd
  obtain ⟨hk, hi, hb, ht, hn0, h1, h7⟩ := Sch.own_open ho
  rw [V.wf_mk] at hw
  obtain ⟨-, hwi, hwb, -, hwx⟩ := hw
  have hall : ∀ y ∈ ys, AppV y := fun y hy => ih y hy (d + 1) (by omega) (h6 y hy) (hwx y hy)
  rcases Tx.word_cases hk with rfl | rfl | rfl | rfl | rfl | rfl | rfl
  · rw [Tx.val_one]
    exact av1 i b t p _ c w0 w hv0 hb0 v xs hv (by omega)
  · rw [Tx.val_two]
    exact av2 i b t p _ c w0 w hv0 hb0 v xs hv (by omega) hwi
  · rw [Tx.val_three]
    exact av3 i b t p _ c w0 w hv0 hb0 v xs hv (by omega) hwb
  · rw [Tx.val_four]
    exact av4 i b t p _ c w0 w hv0 hb0 v xs hv (by omega) h3
  · rw [Tx.val_five]
    exact av5 i b t p _ c w0 w hv0 hb0 v xs hv (by omega) h3
  · match ys, h7 rfl, hall, hxi, hlen with
    | [], _, _, _, hlen =>
      rw [Tx.val_none] at hlen ⊢
      exact av6 i b t p _ c w0 w hv0 hb0 v xs hv _ fun w' v' g1 g2 => appendOpt0 p c _ w' v' xs g2 g1.size (by omega)
    | [y], _, hall, hxi, hlen =>
      rw [Tx.val_some] at hlen ⊢
      exact av6 i b t p _ c w0 w hv0 hb0 v xs hv _ fun w' v' g1 g2 => appendOpt1 y (hall y (by simp)) p c w0 w' hv0 hxi g1 v' xs g2 hlen
  · rw [Tx.val_list] at hlen ⊢
    refine av7 i b t p _ c w0 w hv0 hb0 v xs hv _ ?_ fun w' v' l g1 g2 g3 => appendValuesX ys (by omega) hall p c w0 w' hv0 hxi g1 v' l g2 g3
    simp only [List.length_cons, List.length_append, List.length_nil] at hlen
    omega
end Go.Proofs.YtpjcmahlnnglcaaGreatDoor
