/- The landed text: PrintType, PrintSchema, PrintValue, PrintRow. -/
import Derived.Test.YtpjcmahlnnglcaaGreatDoorK21W
import Derived.Test.YtpjcmahlnnglcaaGreatDoorK21P
namespace Go.Proofs.YtpjcmahlnnglcaaGreatDoor
open Go.RowKit
attribute [local go_sem] run_store_float

/-- what a print answers -/
def PrnR (w : World) (er : Nat) (T : Tx.Bs) (e : Ending) (w' : World) : Prop := e = .returned (.tuple #[.string ⟨(if er = 0 then T else []).toArray⟩, .int .i64 (er : Nat)]) ∧ Below w.heap.size w w'
theorem PrnR.open {w w' : World} {er : Nat} {T : Tx.Bs} {e : Ending} (h : PrnR w er T e w') : e = .returned (.tuple #[.string ⟨(if er = 0 then T else []).toArray⟩, .int .i64 (er : Nat)]) ∧ Below w.heap.size w w' := h
theorem sch_short {s : List Col} (h : Sch.err s = 0) (hw : ∀ x ∈ s, x.wf) : (Tx.sch text s).length ≤ 138000000000000 := by
  obtain ⟨-, h16, hce, -⟩ := Sch.err_open h
  have hj := join_le 135000000100 (s.map (Tx.col text)) (fun y hy => by
    obtain ⟨z, hz, rfl⟩ := List.mem_map.1 hy
    obtain ⟨l', hl'⟩ := Sch.colsErr_mem s [] hce z hz
    obtain ⟨hnm, -, hty, -, hdf2⟩ := Sch.col_open hl'
    obtain ⟨wn, wty, wd⟩ := hw z hz
    have h1 := ty_len z.ty 1 hty
    have h0 := (Sch.name_size hnm).2
    have hns : z.name.data.toList.length = z.name.size := by rw [Array.length_toList]; rfl
    unfold Tx.col
    simp only [List.length_append, List.length_cons]
    by_cases hh : z.has = true
    · have h2 := val_short (tx := text) text_len (hdf2 hh).1 (Nat.le_refl _) wd
      rw [if_pos hh]
      simp only [List.length_cons]
      omega
    · rw [if_neg hh]
      simp only [List.length_nil]
      omega)
  rw [List.length_map] at hj
  have h8 : s.length * (135000000100 + 2) ≤ 16 * (135000000100 + 2) := Nat.mul_le_mul_right _ h16
  unfold Tx.sch
  omega
set_option maxRecDepth 100000 in
set_option maxHeartbeats 2000000 in
theorem printTypeY (k : Int) (p : Option Addr) (n c : Nat) (er : Nat) (T : Tx.Bs) (w : World) (hv0 : Hv w) (HCk : Hid (∀ w', Below w.heap.size w w' → Calls Tryz.prog 29 #[.agg #[.int .i64 k, .slice p n c]] w' fun e w'' => e = .returned (.int .i64 (er : Nat)) ∧ Below w'.heap.size w' w'')) (HAp : Hid (er = 0 → ∀ w', Below w.heap.size w w' → Hv w' → Calls Tryz.prog 30 #[.slice none 0 0, .agg #[.int .i64 k, .slice p n c]] w' (GrxV w' w'.heap.size T))) :
    Calls Tryz.prog 9 #[.agg #[.int .i64 k, .slice p n c]] w (PrnR w er T) := by
  obtain ⟨W0, hW0⟩ : ∃ W0, W0 = w.alloc (.cells #[.int .i64 k, .slice p n c] 24) := ⟨_, rfl⟩
  have hbW : Below w.heap.size w W0 := by rw [hW0]; exact (Below.refl _ _).alloc (Nat.le_refl _) _
  have hblk : W0.heap[w.heap.size]? = some (.cells #[.int .i64 k, .slice p n c] 24 (0, 0)) := by rw [hW0]; exact blk_new w _
  have HC1 := Lib.hid (HCk.out W0 hbW)
  have HB0 := Lib.hid hbW
  have HW0 := Lib.hid hW0
  have HBk := Lib.hid hblk
  have HHv := Lib.hid (hv0.on hbW hv0.size)
  have hs7 : 7 ≤ W0.heap.size := Nat.le_trans hv0.size hbW.size
  have c0 : W0.cell? ⟨w.heap.size, 0, none⟩ = some (.int .i64 k) := blk_cell hblk 0
  have c1 : W0.cell? ⟨w.heap.size, 1, none⟩ = some (.slice p n c) := blk_cell hblk 1
  clear hW0 hbW hblk HCk
  go_enter Tryz.func9, Tryz.ntmps9
  go_wp2_with fail
  rw [← HW0.out]
  refine HC1.out.mono ?_
  rintro e w1 ⟨rfl, hb1⟩
  have HB1 := Lib.hid (HB0.out.trans (hb1.mono HB0.out.size))
  have hk1 := blk_on HBk.out hb1 (blk_lt HBk.out)
  have HV1 := Lib.hid (HHv.out.on hb1 hs7)
  clear hb1 HC1 HBk HHv
  clear c0
  clear c1
  have d0 : w1.cell? ⟨w.heap.size, 0, none⟩ = some (.int .i64 k) := blk_cell hk1 0
  have d1 : w1.cell? ⟨w.heap.size, 1, none⟩ = some (.slice p n c) := blk_cell hk1 1
  clear hk1
  by_cases h0 : er = 0
  · have g0 : ((er : Int) != 0) = false := bne_f (by omega)
    have HA := Lib.hid (HAp.out h0 w1 HB1.out HV1.out)
    have HE : Hid ((if er = 0 then T else []) = T) := by show _ = _; rw [if_pos h0]
    have HZ := Lib.hid h0
    clear h0 HAp
    go_wp2_with fail
    refine HA.out.mono ?_
    intro e w2 hh
    obtain ⟨q, cap, he, hg⟩ := hh.open
    subst he
    obtain ⟨p5, cap5, he5, hat5, -⟩ := hg.has.at
    injection he5 with he6 he7 he8
    have hcv := conv_str hat5 cap
    rw [← he6] at hcv
    have HB2 := Lib.hid (HB1.out.trans ((hg.below (Nat.le_refl _)).mono HB1.out.size))
    clear hh hg HA he6 he7 he8 hat5
    go_wp2
    go_ret2
    refine ⟨?_, HB2.out⟩
    rw [HE.out, HZ.out]
    rfl
  · have g0 : ((er : Int) != 0) = true := bne_t (by omega)
    have HE : Hid ((if er = 0 then T else []) = []) := by show _ = _; rw [if_neg h0]
    clear h0 HAp
    go_wp2
    go_ret2
    refine ⟨?_, HB1.out⟩
    rw [HE.out]
    rfl
set_option maxRecDepth 100000 in
set_option maxHeartbeats 2000000 in
theorem printSchemaY (p : Option Addr) (n c : Nat) (er : Nat) (T : Tx.Bs) (w : World) (hv0 : Hv w) (HCk : Hid (∀ w', Below w.heap.size w w' → Calls Tryz.prog 33 #[.agg #[.slice p n c]] w' fun e w'' => e = .returned (.int .i64 (er : Nat)) ∧ Below w'.heap.size w' w'')) (HAp : Hid (er = 0 → ∀ w', Below w.heap.size w w' → Hv w' → Calls Tryz.prog 34 #[.slice none 0 0, .slice p n c] w' (GrxV w' w'.heap.size T))) :
    Calls Tryz.prog 11 #[.agg #[.slice p n c]] w (PrnR w er T) := by
  obtain ⟨W0, hW0⟩ : ∃ W0, W0 = w.alloc (.cells #[.slice p n c] 27) := ⟨_, rfl⟩
  have hbW : Below w.heap.size w W0 := by rw [hW0]; exact (Below.refl _ _).alloc (Nat.le_refl _) _
  have hblk : W0.heap[w.heap.size]? = some (.cells #[.slice p n c] 27 (0, 0)) := by rw [hW0]; exact blk_new w _
  have HC1 := Lib.hid (HCk.out W0 hbW)
  have HB0 := Lib.hid hbW
  have HW0 := Lib.hid hW0
  have HBk := Lib.hid hblk
  have HHv := Lib.hid (hv0.on hbW hv0.size)
  have hs7 : 7 ≤ W0.heap.size := Nat.le_trans hv0.size hbW.size
  have c0 : W0.cell? ⟨w.heap.size, 0, none⟩ = some (.slice p n c) := blk_cell hblk 0
  clear hW0 hbW hblk HCk
  go_enter Tryz.func11, Tryz.ntmps11
  go_wp2_with fail
  rw [← HW0.out]
  refine HC1.out.mono ?_
  rintro e w1 ⟨rfl, hb1⟩
  have HB1 := Lib.hid (HB0.out.trans (hb1.mono HB0.out.size))
  have hk1 := blk_on HBk.out hb1 (blk_lt HBk.out)
  have HV1 := Lib.hid (HHv.out.on hb1 hs7)
  clear hb1 HC1 HBk HHv
  clear c0
  have d0 : w1.cell? ⟨w.heap.size, 0, none⟩ = some (.slice p n c) := blk_cell hk1 0
  clear hk1
  by_cases h0 : er = 0
  · have g0 : ((er : Int) != 0) = false := bne_f (by omega)
    have HA := Lib.hid (HAp.out h0 w1 HB1.out HV1.out)
    have HE : Hid ((if er = 0 then T else []) = T) := by show _ = _; rw [if_pos h0]
    have HZ := Lib.hid h0
    clear h0 HAp
    go_wp2_with fail
    refine HA.out.mono ?_
    intro e w2 hh
    obtain ⟨q, cap, he, hg⟩ := hh.open
    subst he
    obtain ⟨p5, cap5, he5, hat5, -⟩ := hg.has.at
    injection he5 with he6 he7 he8
    have hcv := conv_str hat5 cap
    rw [← he6] at hcv
    have HB2 := Lib.hid (HB1.out.trans ((hg.below (Nat.le_refl _)).mono HB1.out.size))
    clear hh hg HA he6 he7 he8 hat5
    go_wp2
    go_ret2
    refine ⟨?_, HB2.out⟩
    rw [HE.out, HZ.out]
    rfl
  · have g0 : ((er : Int) != 0) = true := bne_t (by omega)
    have HE : Hid ((if er = 0 then T else []) = []) := by show _ = _; rw [if_neg h0]
    clear h0 HAp
    go_wp2
    go_ret2
    refine ⟨?_, HB1.out⟩
    rw [HE.out]
    rfl
set_option maxRecDepth 100000 in
set_option maxHeartbeats 2000000 in
theorem printValueY (k i : Int) (b : Nat) (t : ByteArray) (p : Option Addr) (n c : Nat) (er : Nat) (T : Tx.Bs) (w : World) (hv0 : Hv w) (HCk : Hid (∀ w', Below w.heap.size w w' → Calls Tryz.prog 37 #[.agg #[.int .i64 k, .int .i64 i, .float .f64 b, .string t, .slice p n c]] w' fun e w'' => e = .returned (.int .i64 (er : Nat)) ∧ Below w'.heap.size w' w'')) (HAp : Hid (er = 0 → ∀ w', Below w.heap.size w w' → Hv w' → Calls Tryz.prog 38 #[.slice none 0 0, .agg #[.int .i64 k, .int .i64 i, .float .f64 b, .string t, .slice p n c]] w' (GrxV w' w'.heap.size T))) :
    Calls Tryz.prog 13 #[.agg #[.int .i64 k, .int .i64 i, .float .f64 b, .string t, .slice p n c]] w (PrnR w er T) := by
  obtain ⟨W0, hW0⟩ : ∃ W0, W0 = w.alloc (.cells #[.int .i64 k, .int .i64 i, .float .f64 b, .string t, .slice p n c] 31) := ⟨_, rfl⟩
  have hbW : Below w.heap.size w W0 := by rw [hW0]; exact (Below.refl _ _).alloc (Nat.le_refl _) _
  have hblk : W0.heap[w.heap.size]? = some (.cells #[.int .i64 k, .int .i64 i, .float .f64 b, .string t, .slice p n c] 31 (0, 0)) := by rw [hW0]; exact blk_new w _
  have HC1 := Lib.hid (HCk.out W0 hbW)
  have HB0 := Lib.hid hbW
  have HW0 := Lib.hid hW0
  have HBk := Lib.hid hblk
  have HHv := Lib.hid (hv0.on hbW hv0.size)
  have hs7 : 7 ≤ W0.heap.size := Nat.le_trans hv0.size hbW.size
  have c0 : W0.cell? ⟨w.heap.size, 0, none⟩ = some (.int .i64 k) := blk_cell hblk 0
  have c1 : W0.cell? ⟨w.heap.size, 1, none⟩ = some (.int .i64 i) := blk_cell hblk 1
  have c2 : W0.cell? ⟨w.heap.size, 2, none⟩ = some (.float .f64 b) := blk_cell hblk 2
  have c3 : W0.cell? ⟨w.heap.size, 3, none⟩ = some (.string t) := blk_cell hblk 3
  have c4 : W0.cell? ⟨w.heap.size, 4, none⟩ = some (.slice p n c) := blk_cell hblk 4
  clear hW0 hbW hblk HCk
  go_enter Tryz.func13, Tryz.ntmps13
  go_wp2_with fail
  rw [← HW0.out]
  refine HC1.out.mono ?_
  rintro e w1 ⟨rfl, hb1⟩
  have HB1 := Lib.hid (HB0.out.trans (hb1.mono HB0.out.size))
  have hk1 := blk_on HBk.out hb1 (blk_lt HBk.out)
  have HV1 := Lib.hid (HHv.out.on hb1 hs7)
  clear hb1 HC1 HBk HHv
  clear c0
  clear c1
  clear c2
  clear c3
  clear c4
  have d0 : w1.cell? ⟨w.heap.size, 0, none⟩ = some (.int .i64 k) := blk_cell hk1 0
  have d1 : w1.cell? ⟨w.heap.size, 1, none⟩ = some (.int .i64 i) := blk_cell hk1 1
  have d2 : w1.cell? ⟨w.heap.size, 2, none⟩ = some (.float .f64 b) := blk_cell hk1 2
  have d3 : w1.cell? ⟨w.heap.size, 3, none⟩ = some (.string t) := blk_cell hk1 3
  have d4 : w1.cell? ⟨w.heap.size, 4, none⟩ = some (.slice p n c) := blk_cell hk1 4
  clear hk1
  by_cases h0 : er = 0
  · have g0 : ((er : Int) != 0) = false := bne_f (by omega)
    have HA := Lib.hid (HAp.out h0 w1 HB1.out HV1.out)
    have HE : Hid ((if er = 0 then T else []) = T) := by show _ = _; rw [if_pos h0]
    have HZ := Lib.hid h0
    clear h0 HAp
    go_wp2_with fail
    refine HA.out.mono ?_
    intro e w2 hh
    obtain ⟨q, cap, he, hg⟩ := hh.open
    subst he
    obtain ⟨p5, cap5, he5, hat5, -⟩ := hg.has.at
    injection he5 with he6 he7 he8
    have hcv := conv_str hat5 cap
    rw [← he6] at hcv
    have HB2 := Lib.hid (HB1.out.trans ((hg.below (Nat.le_refl _)).mono HB1.out.size))
    clear hh hg HA he6 he7 he8 hat5
    go_wp2
    go_ret2
    refine ⟨?_, HB2.out⟩
    rw [HE.out, HZ.out]
    rfl
  · have g0 : ((er : Int) != 0) = true := bne_t (by omega)
    have HE : Hid ((if er = 0 then T else []) = []) := by show _ = _; rw [if_neg h0]
    clear h0 HAp
    go_wp2
    go_ret2
    refine ⟨?_, HB1.out⟩
    rw [HE.out]
    rfl
set_option maxRecDepth 100000 in
set_option maxHeartbeats 2000000 in
theorem printRowY (p : Option Addr) (n c : Nat) (er : Nat) (T : Tx.Bs) (w : World) (hv0 : Hv w) (HCk : Hid (∀ w', Below w.heap.size w w' → Calls Tryz.prog 40 #[.agg #[.slice p n c]] w' fun e w'' => e = .returned (.int .i64 (er : Nat)) ∧ Below w'.heap.size w' w'')) (HAp : Hid (er = 0 → ∀ w', Below w.heap.size w w' → Hv w' → Calls Tryz.prog 41 #[.slice none 0 0, .slice p n c] w' (GrxV w' w'.heap.size T))) :
    Calls Tryz.prog 15 #[.agg #[.slice p n c]] w (PrnR w er T) := by
  obtain ⟨W0, hW0⟩ : ∃ W0, W0 = w.alloc (.cells #[.slice p n c] 33) := ⟨_, rfl⟩
  have hbW : Below w.heap.size w W0 := by rw [hW0]; exact (Below.refl _ _).alloc (Nat.le_refl _) _
  have hblk : W0.heap[w.heap.size]? = some (.cells #[.slice p n c] 33 (0, 0)) := by rw [hW0]; exact blk_new w _
  have HC1 := Lib.hid (HCk.out W0 hbW)
  have HB0 := Lib.hid hbW
  have HW0 := Lib.hid hW0
  have HBk := Lib.hid hblk
  have HHv := Lib.hid (hv0.on hbW hv0.size)
  have hs7 : 7 ≤ W0.heap.size := Nat.le_trans hv0.size hbW.size
  have c0 : W0.cell? ⟨w.heap.size, 0, none⟩ = some (.slice p n c) := blk_cell hblk 0
  clear hW0 hbW hblk HCk
  go_enter Tryz.func15, Tryz.ntmps15
  go_wp2_with fail
  rw [← HW0.out]
  refine HC1.out.mono ?_
  rintro e w1 ⟨rfl, hb1⟩
  have HB1 := Lib.hid (HB0.out.trans (hb1.mono HB0.out.size))
  have hk1 := blk_on HBk.out hb1 (blk_lt HBk.out)
  have HV1 := Lib.hid (HHv.out.on hb1 hs7)
  clear hb1 HC1 HBk HHv
  clear c0
  have d0 : w1.cell? ⟨w.heap.size, 0, none⟩ = some (.slice p n c) := blk_cell hk1 0
  clear hk1
  by_cases h0 : er = 0
  · have g0 : ((er : Int) != 0) = false := bne_f (by omega)
    have HA := Lib.hid (HAp.out h0 w1 HB1.out HV1.out)
    have HE : Hid ((if er = 0 then T else []) = T) := by show _ = _; rw [if_pos h0]
    have HZ := Lib.hid h0
    clear h0 HAp
    go_wp2_with fail
    refine HA.out.mono ?_
    intro e w2 hh
    obtain ⟨q, cap, he, hg⟩ := hh.open
    subst he
    obtain ⟨p5, cap5, he5, hat5, -⟩ := hg.has.at
    injection he5 with he6 he7 he8
    have hcv := conv_str hat5 cap
    rw [← he6] at hcv
    have HB2 := Lib.hid (HB1.out.trans ((hg.below (Nat.le_refl _)).mono HB1.out.size))
    clear hh hg HA he6 he7 he8 hat5
    go_wp2
    go_ret2
    refine ⟨?_, HB2.out⟩
    rw [HE.out, HZ.out]
    rfl
  · have g0 : ((er : Int) != 0) = true := bne_t (by omega)
    have HE : Hid ((if er = 0 then T else []) = []) := by show _ = _; rw [if_neg h0]
    clear h0 HAp
    go_wp2
    go_ret2
    refine ⟨?_, HB1.out⟩
    rw [HE.out]
    rfl
theorem PrintTypeX (x : Ty) (w : World) (u : Array Value) (hv : Hv w) (hx : TLies w u x) : Calls Tryz.prog 9 #[.agg u] w (PrnR w (Ty.check 1 x) (Tx.ty x)) := by
  obtain ⟨k, ts⟩ := x
  obtain ⟨p, c, rfl, -⟩ := hx.open
  refine printTypeY k p ts.length c _ _ w hv (fun w' hb => checkTypeK _ w' _ (hx.on hb)) (fun h0 w' hb hv' => ?_)
  have := appendTypeX (.mk k ts) 1 w' w' _ (.slice none 0 0) [] h0 hv' (hx.on hb) (Below.refl _ _) (has_nil _ _) (by simp)
  exact this
theorem PrintSchemaX (s : List Col) (p : Option Addr) (c : Nat) (w : World) (hv : Hv w) (hs : s.length * 120 ≤ 140737488351232) (hx : Cols w p s) (hwf : ∀ x ∈ s, x.wf) : Calls Tryz.prog 11 #[.agg #[.slice p s.length c]] w (PrnR w (Sch.err s) (Tx.sch text s)) := by
  refine printSchemaY p s.length c _ _ w hv (fun w' hb => checkSK s p c w' hs (hx.on hb) hwf) (fun h0 w' hb hv' => ?_)
  have hsh := sch_short h0 hwf
  obtain ⟨-, h16, hce, -⟩ := Sch.err_open h0
  have hall : ∀ x ∈ s, Ty.check 1 x.ty = 0 ∧ (x.has = true → chk 1 x.dflt = 0) := fun x hx => by
    obtain ⟨l', hl'⟩ := Sch.colsErr_mem s [] hce x hx
    obtain ⟨-, -, hty, -, hdf2⟩ := Sch.col_open hl'
    exact ⟨hty, fun hh => (hdf2 hh).1⟩
  exact appendColumnsX s h16 (fun x hx => (hall x hx).1) (fun x hx hh => appendValueX x.dflt 1 (Nat.le_refl _) ((hall x hx).2 hh) (hwf x hx).2.2) p c w' w' hv' (hx.on hb) (Below.refl _ _) (.slice none 0 0) [] (has_nil _ _) (by simp only [List.length_nil]; omega)
theorem PrintValueX (x : V) (w : World) (u : Array Value) (hv : Hv w) (hx : VLies w u x) (hw : x.wf) : Calls Tryz.prog 13 #[.agg u] w (PrnR w (chk 1 x) (Tx.val text x)) := by
  obtain ⟨k, i, b, t, xs⟩ := x
  obtain ⟨p, c, rfl, -⟩ := hx.open
  refine printValueY k i b t p xs.length c _ _ w hv (fun w' hb => checkK _ w' _ (hx.on hb)) (fun h0 w' hb hv' => ?_)
  have hsh := val_short (tx := text) text_len h0 (Nat.le_refl _) hw
  exact appendValueX (.mk k i b t xs) 1 (Nat.le_refl _) h0 hw w' w' _ (.slice none 0 0) [] hv' (hx.on hb) (Below.refl _ _) (has_nil _ _) (by simp only [List.length_nil]; omega)
theorem rowErr_all : ∀ (xs : List V), rowErr xs = 0 → ∀ x ∈ xs, chk 1 x = 0
  | [], _, x, hx => by cases hx
  | y :: l, h, x, hx => by
    unfold rowErr at h
    by_cases h1 : chk 1 y = 0
    · rw [if_pos h1] at h
      rcases List.mem_cons.1 hx with rfl | hx
      · exact h1
      · exact rowErr_all l h x hx
    · rw [if_neg h1] at h; exact absurd h h1
theorem PrintRowX (xs : List V) (p : Option Addr) (c : Nat) (w : World) (hv : Hv w) (hl : xs.length * 64 ≤ 140737488351232) (hx : Items w p xs) (hwf : ∀ x ∈ xs, x.wf) (hlen : rowErr xs = 0 → (Tx.row text xs).length ≤ 139000000000000) : Calls Tryz.prog 15 #[.agg #[.slice p xs.length c]] w (PrnR w (rowErr xs) (Tx.row text xs)) := by
  refine printRowY p xs.length c _ _ w hv (fun w' hb => checkRowX xs p c w' (hx.on hb) hl) (fun h0 w' hb hv' => ?_)
  have hl2 := hlen h0
  unfold Tx.row at hl2
  exact appendValuesX xs (by omega) (fun x hx => appendValueX x 1 (Nat.le_refl _) (rowErr_all xs h0 x hx) (hwf x hx)) p c w' w' hv' (hx.on hb) (Below.refl _ _) (.slice none 0 0) [] (has_nil _ _) (by simp only [List.length_nil]; omega)
end Go.Proofs.YtpjcmahlnnglcaaGreatDoor
