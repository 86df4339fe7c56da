/- The law TextUnlike. -/
import Derived.Test.YtlgmfeokamegiaaGreatDoorTx13
import Derived.Test.YtlgmfeokamegiaaGreatDoorK21Z
namespace Go.Proofs.YtlgmfeokamegiaaGreatDoor
open Go.RowKit
attribute [local go_sem] run_store_float

theorem toList_inj21 {a b : ByteArray} (h : a.toList = b.toList) : a = b := by
  rw [Lib.toList_data, Lib.toList_data] at h
  cases a; cases b
  exact congrArg ByteArray.mk (Array.toList_inj.1 h)
theorem items_one21 {w : World} {g : Nat} {k i : Int} {b : Nat} {t : ByteArray} {p : Option Addr} {n c : Nat} {T : TypeId} {x : V} (hg : w.heap[g]? = some (.cells #[.int .i64 k, .int .i64 i, .float .f64 b, .string t, .slice p n c] T (0, 0))) (hx : VLies w #[.int .i64 k, .int .i64 i, .float .f64 b, .string t, .slice p n c] x) : Items w (some ⟨g, 0, none⟩) [x] := by
  intro j hj
  have hj0 : j = 0 := by simpa using hj
  subst hj0
  exact ⟨_, hx, ⟨g, 0, k, i, b, t, p, n, c, rfl, blk_lt hg, rfl, blk_cell hg 0, blk_cell hg 1, blk_cell hg 2, blk_cell hg 3, blk_cell hg 4⟩⟩
/-- the row of one value -/
theorem PrintOne (v : V) (hvw : v.wf) (w : World) (hv : Hv w) {g : Nat} {k i : Int} {b : Nat} {t : ByteArray} {p : Option Addr} {n c : Nat} {T : TypeId} (hg : w.heap[g]? = some (.cells #[.int .i64 k, .int .i64 i, .float .f64 b, .string t, .slice p n c] T (0, 0))) (hx : VLies w #[.int .i64 k, .int .i64 i, .float .f64 b, .string t, .slice p n c] v) :
    Calls Tryz.prog 7 #[.agg #[.slice (some ⟨g, 0, none⟩) 1 1]] w (PrnR w (chk 1 v) (Tx.val text v)) := by
  have h := PrintRowX [v] (some ⟨g, 0, none⟩) 1 w hv (by simp) (items_one21 hg hx) (fun x hx => by rcases List.mem_cons.1 hx with rfl | h; exact hvw; cases h) (fun h => by
    rw [rowErr_one] at h
    have := val_short (tx := text) text_len h (Nat.le_refl _) hvw
    rw [row_one]; omega)
  rw [rowErr_one, row_one] at h
  exact h

set_option maxRecDepth 100000 in
set_option maxHeartbeats 16000000 in
theorem textUnlike21 (tk : Int) (tp : Option Addr) (tn tc : Nat) (t : Ty) (uk : Int) (up : Option Addr) (un uc : Nat) (u : Ty) (vk vi : Int) (vb : Nat) (vt : ByteArray) (vp : Option Addr) (vn vc : Nat) (v : V) (wk wi : Int) (wb : Nat) (wt : ByteArray) (wp : Option Addr) (wn wc : Nat) (z : V) (w : World)
    (hv : Hv w) (hT : TLies w #[.int .i64 tk, .slice tp tn tc] t) (hU : TLies w #[.int .i64 uk, .slice up un uc] u) (hV : VLies w #[.int .i64 vk, .int .i64 vi, .float .f64 vb, .string vt, .slice vp vn vc] v) (hvw : v.wf) (hZ : VLies w #[.int .i64 wk, .int .i64 wi, .float .f64 wb, .string wt, .slice wp wn wc] z) (hzw : z.wf) :
    Calls Tryz.prog 3 #[.agg #[.int .i64 tk, .slice tp tn tc], .agg #[.int .i64 uk, .slice up un uc], .agg #[.int .i64 vk, .int .i64 vi, .float .f64 vb, .string vt, .slice vp vn vc], .agg #[.int .i64 wk, .int .i64 wi, .float .f64 wb, .string wt, .slice wp wn wc]] w fun e w' => e = .returned (.bool true) ∧ Below w.heap.size w w' := by
  obtain ⟨W0, hW0⟩ : ∃ W0, W0 = (((w.alloc (.cells #[.int .i64 tk, .slice tp tn tc] 24)).alloc (.cells #[.int .i64 uk, .slice up un uc] 24)).alloc (.cells #[.int .i64 vk, .int .i64 vi, .float .f64 vb, .string vt, .slice vp vn vc] 28)).alloc (.cells #[.int .i64 wk, .int .i64 wi, .float .f64 wb, .string wt, .slice wp wn wc] 28) := ⟨_, rfl⟩
  have hb0 : Below w.heap.size w W0 := by rw [hW0]; exact ((((Below.refl _ _).alloc (Nat.le_refl _) _).alloc (by simp) _).alloc (by simp; omega) _).alloc (by simp; omega) _
  have HCells : Hid (∀ wx, Below W0.heap.size W0 wx → wx.cell? ⟨w.heap.size, 0, none⟩ = some (.int .i64 tk) ∧ wx.cell? ⟨w.heap.size, 1, none⟩ = some (.slice tp tn tc) ∧ wx.cell? ⟨w.heap.size + 1, 0, none⟩ = some (.int .i64 uk) ∧ wx.cell? ⟨w.heap.size + 1, 1, none⟩ = some (.slice up un uc) ∧ wx.cell? ⟨w.heap.size + 1 + 1, 0, none⟩ = some (.int .i64 vk) ∧ wx.cell? ⟨w.heap.size + 1 + 1, 1, none⟩ = some (.int .i64 vi) ∧ wx.cell? ⟨w.heap.size + 1 + 1, 2, none⟩ = some (.float .f64 vb) ∧ wx.cell? ⟨w.heap.size + 1 + 1, 3, none⟩ = some (.string vt) ∧ wx.cell? ⟨w.heap.size + 1 + 1, 4, none⟩ = some (.slice vp vn vc) ∧ wx.cell? ⟨w.heap.size + 1 + 1 + 1, 0, none⟩ = some (.int .i64 wk) ∧ wx.cell? ⟨w.heap.size + 1 + 1 + 1, 1, none⟩ = some (.int .i64 wi) ∧ wx.cell? ⟨w.heap.size + 1 + 1 + 1, 2, none⟩ = some (.float .f64 wb) ∧ wx.cell? ⟨w.heap.size + 1 + 1 + 1, 3, none⟩ = some (.string wt) ∧ wx.cell? ⟨w.heap.size + 1 + 1 + 1, 4, none⟩ = some (.slice wp wn wc)) := fun wx hx => by
    have e1 : (w.alloc (.cells #[.int .i64 tk, .slice tp tn tc] 24)).heap.size = w.heap.size + 1 := by simp
    have e2 : ((w.alloc (.cells #[.int .i64 tk, .slice tp tn tc] 24)).alloc (.cells #[.int .i64 uk, .slice up un uc] 24)).heap.size = w.heap.size + 1 + 1 := by simp
    have e3 : (((w.alloc (.cells #[.int .i64 tk, .slice tp tn tc] 24)).alloc (.cells #[.int .i64 uk, .slice up un uc] 24)).alloc (.cells #[.int .i64 vk, .int .i64 vi, .float .f64 vb, .string vt, .slice vp vn vc] 28)).heap.size = w.heap.size + 1 + 1 + 1 := by simp
    have k0 := blk_new w (.cells #[.int .i64 tk, .slice tp tn tc] 24)
    have k1 := blk_new (w.alloc (.cells #[.int .i64 tk, .slice tp tn tc] 24)) (.cells #[.int .i64 uk, .slice up un uc] 24)
    have k2 := blk_new ((w.alloc (.cells #[.int .i64 tk, .slice tp tn tc] 24)).alloc (.cells #[.int .i64 uk, .slice up un uc] 24)) (.cells #[.int .i64 vk, .int .i64 vi, .float .f64 vb, .string vt, .slice vp vn vc] 28)
    have k3 := blk_new (((w.alloc (.cells #[.int .i64 tk, .slice tp tn tc] 24)).alloc (.cells #[.int .i64 uk, .slice up un uc] 24)).alloc (.cells #[.int .i64 vk, .int .i64 vi, .float .f64 vb, .string vt, .slice vp vn vc] 28)) (.cells #[.int .i64 wk, .int .i64 wi, .float .f64 wb, .string wt, .slice wp wn wc] 28)
    rw [e1] at k1
    rw [e2] at k2
    rw [e3] at k3
    have k0 := (blk_old _ (.cells #[.int .i64 uk, .slice up un uc] 24) (blk_lt k0)).trans k0
    have k0 := (blk_old _ (.cells #[.int .i64 vk, .int .i64 vi, .float .f64 vb, .string vt, .slice vp vn vc] 28) (blk_lt k0)).trans k0
    have k0 := (blk_old _ (.cells #[.int .i64 wk, .int .i64 wi, .float .f64 wb, .string wt, .slice wp wn wc] 28) (blk_lt k0)).trans k0
    have k1 := (blk_old _ (.cells #[.int .i64 vk, .int .i64 vi, .float .f64 vb, .string vt, .slice vp vn vc] 28) (blk_lt k1)).trans k1
    have k1 := (blk_old _ (.cells #[.int .i64 wk, .int .i64 wi, .float .f64 wb, .string wt, .slice wp wn wc] 28) (blk_lt k1)).trans k1
    have k2 := (blk_old _ (.cells #[.int .i64 wk, .int .i64 wi, .float .f64 wb, .string wt, .slice wp wn wc] 28) (blk_lt k2)).trans k2
    rw [← hW0] at k0 k1 k2 k3
    exact ⟨cell_on hx (blk_cell k0 0), cell_on hx (blk_cell k0 1), cell_on hx (blk_cell k1 0), cell_on hx (blk_cell k1 1), cell_on hx (blk_cell k2 0), cell_on hx (blk_cell k2 1), cell_on hx (blk_cell k2 2), cell_on hx (blk_cell k2 3), cell_on hx (blk_cell k2 4), cell_on hx (blk_cell k3 0), cell_on hx (blk_cell k3 1), cell_on hx (blk_cell k3 2), cell_on hx (blk_cell k3 3), cell_on hx (blk_cell k3 4)⟩
  have HHv := Lib.hid (fun w' (hb : Below W0.heap.size W0 w') => hv.on (hb0.trans (hb.mono hb0.size)) hv.size)
  have HTw := Lib.hid (fun w' (hb : Below W0.heap.size W0 w') => hb0.trans (hb.mono hb0.size))
  have HLv := Lib.hid (live21 W0 (HHv.out W0 (Below.refl _ _)))
  have HP1 := Lib.hid (fun w' (hb : Below W0.heap.size W0 w') => PrintTypeX t w' _ (HHv.out w' hb) (hT.on (HTw.out w' hb)))
  have HP2 := Lib.hid (fun w' (hb : Below W0.heap.size W0 w') => PrintTypeX u w' _ (HHv.out w' hb) (hU.on (HTw.out w' hb)))
  have HP3 := Lib.hid (fun w' (hb : Below W0.heap.size W0 w') => PrintValueX v w' _ (HHv.out w' hb) (hV.on (HTw.out w' hb)) hvw)
  have HP4 := Lib.hid (fun w' (hb : Below W0.heap.size W0 w') => PrintValueX z w' _ (HHv.out w' hb) (hZ.on (HTw.out w' hb)) hzw)
  have HP5 := Lib.hid (fun (w' : World) (g : Nat) (T : TypeId) (hb : Below W0.heap.size W0 w') (hg : w'.heap[g]? = some (.cells #[.int .i64 vk, .int .i64 vi, .float .f64 vb, .string vt, .slice vp vn vc] T (0, 0))) => PrintOne v hvw w' (HHv.out w' hb) hg (hV.on (HTw.out w' hb)))
  have HP6 := Lib.hid (fun (w' : World) (g : Nat) (T : TypeId) (hb : Below W0.heap.size W0 w') (hg : w'.heap[g]? = some (.cells #[.int .i64 wk, .int .i64 wi, .float .f64 wb, .string wt, .slice wp wn wc] T (0, 0))) => PrintOne z hzw w' (HHv.out w' hb) hg (hZ.on (HTw.out w' hb)))
  have HQ1 := Lib.hid (fun w' (hb : Below W0.heap.size W0 w') => refSameType7 t u w' _ _ (hT.on (HTw.out w' hb)) (hU.on (HTw.out w' hb)))
  have HQ2 := Lib.hid (fun w' (hb : Below W0.heap.size W0 w') => refSame6 v z w' _ _ (hV.on (HTw.out w' hb)) (hZ.on (HTw.out w' hb)))
  obtain ⟨f1, hf1⟩ : ∃ f, f = Ty.check 1 t := ⟨_, rfl⟩
  obtain ⟨T1, hT1⟩ : ∃ T : ByteArray, T = ⟨(if f1 = 0 then Tx.ty t else []).toArray⟩ := ⟨_, rfl⟩
  obtain ⟨f2, hf2⟩ : ∃ f, f = Ty.check 1 u := ⟨_, rfl⟩
  obtain ⟨T2, hT2⟩ : ∃ T : ByteArray, T = ⟨(if f2 = 0 then Tx.ty u else []).toArray⟩ := ⟨_, rfl⟩
  obtain ⟨f3, hf3⟩ : ∃ f, f = chk 1 v := ⟨_, rfl⟩
  obtain ⟨T3, hT3⟩ : ∃ T : ByteArray, T = ⟨(if f3 = 0 then Tx.val text v else []).toArray⟩ := ⟨_, rfl⟩
  obtain ⟨f4, hf4⟩ : ∃ f, f = chk 1 z := ⟨_, rfl⟩
  obtain ⟨T4, hT4⟩ : ∃ T : ByteArray, T = ⟨(if f4 = 0 then Tx.val text z else []).toArray⟩ := ⟨_, rfl⟩
  obtain ⟨s1, hs1⟩ : ∃ s, s = Ty.same t u := ⟨_, rfl⟩
  obtain ⟨s2, hs2⟩ : ∃ s, s = V.same v z := ⟨_, rfl⟩
  unfold PrnR at HP1 HP2 HP3 HP4 HP5 HP6
  rw [← hf1, ← hT1] at HP1
  rw [← hf2, ← hT2] at HP2
  rw [← hf3, ← hT3] at HP3 HP5
  rw [← hf4, ← hT4] at HP4 HP6
  rw [← hs1] at HQ1
  rw [← hs2] at HQ2
  have HZ1 : Hid ((((f1 : Int) == 0) = false ∨ (((f1 : Int) == 0) = true ∧ ((f2 : Int) == 0) = false)) ∨ (((f1 : Int) == 0) = true ∧ ((f2 : Int) == 0) = true ∧ (T1.toList == T2.toList) = s1)) := by
    by_cases h : f1 = 0
    · by_cases h' : f2 = 0
      · refine .inr ⟨beq_t (by omega), beq_t (by omega), ?_⟩
        have := unlikeT (t := t) (u := u) (by omega) (by omega)
        rw [if_pos h] at hT1
        rw [if_pos h'] at hT2
        rw [← hT1, ← hT2, ← hs1] at this
        cases s1
        · exact beq_eq_false_iff_ne.2 fun hh => by simpa using this.1 (toList_inj21 hh)
        · exact beq_iff_eq.2 (by rw [this.2 rfl])
      · exact .inl (.inr ⟨beq_t (by omega), beq_f (by omega)⟩)
    · exact .inl (.inl (beq_f (by omega)))
  have HZ2 : Hid ((((f3 : Int) == 0) = false ∧ ((f3 : Int) != 0) = true) ∨ (((f3 : Int) == 0) = true ∧ ((f3 : Int) != 0) = false)) := by
    by_cases h : f3 = 0
    · exact .inr ⟨beq_t (by omega), bne_f (by omega)⟩
    · exact .inl ⟨beq_f (by omega), bne_t (by omega)⟩
  have HZ3 : Hid ((((f4 : Int) == 0) = false ∧ ((f4 : Int) != 0) = true) ∨ (((f4 : Int) == 0) = true ∧ ((f4 : Int) != 0) = false)) := by
    by_cases h : f4 = 0
    · exact .inr ⟨beq_t (by omega), bne_f (by omega)⟩
    · exact .inl ⟨beq_f (by omega), bne_t (by omega)⟩
  have HZ4 : Hid (((f3 : Int) == 0) = true → ((f4 : Int) == 0) = true → (T3.toList == T4.toList) = s2) := fun h h' => by
    have h := eq_of_beq h
    have h' := eq_of_beq h'
    have := unlikeV (v := v) (w := z) (by omega) (by omega) hvw hzw
    rw [if_pos (by omega)] at hT3
    rw [if_pos (by omega)] at hT4
    rw [← hT3, ← hT4, ← hs2] at this
    cases s2
    · exact beq_eq_false_iff_ne.2 fun hh => by simpa using this.1 (toList_inj21 hh)
    · exact beq_iff_eq.2 (by rw [this.2 rfl])
  have HW0 := Lib.hid hW0
  have HB0 := Lib.hid hb0
  clear hW0 hb0 hT hU hV hZ hv hvw hzw hf1 hf2 hf3 hf4 hT1 hT2 hT3 hT4 hs1 hs2
  go_enter Tryz.func3, Tryz.ntmps3
  go_wp2_with fail
  rw [← HW0.out]
  clear HW0
  refine HLv.out.mono ?_
  rintro e x0 ⟨rfl, hb⟩
  have HY0 : Hid (Below W0.heap.size W0 x0) := hb
  clear hb HLv
  obtain ⟨t0, t1, u0, u1, v0, v1, v2, v3, v4, z0, z1, z2, z3, z4⟩ := HCells.out _ HY0.out
  have HX := Lib.hid (HP1.out _ HY0.out)
  clear HP1
  go_wp2_with fail
  refine HX.out.mono ?_
  rintro e y1 ⟨rfl, hb⟩
  have HY1 := Lib.hid (HY0.out.trans (hb.mono HY0.out.size))
  clear hb HX HY0 t0 t1 u0 u1 v0 v1 v2 v3 v4 z0 z1 z2 z3 z4
  obtain ⟨t0, t1, u0, u1, v0, v1, v2, v3, v4, z0, z1, z2, z3, z4⟩ := HCells.out _ HY1.out
  have HX := Lib.hid (HP2.out _ HY1.out)
  clear HP2
  go_wp2_with fail
  refine HX.out.mono ?_
  rintro e y2 ⟨rfl, hb⟩
  have HY2 := Lib.hid (HY1.out.trans (hb.mono HY1.out.size))
  clear hb HX HY1 t0 t1 u0 u1 v0 v1 v2 v3 v4 z0 z1 z2 z3 z4
  obtain ⟨t0, t1, u0, u1, v0, v1, v2, v3, v4, z0, z1, z2, z3, z4⟩ := HCells.out _ HY2.out
  have HX := Lib.hid (HP3.out _ HY2.out)
  clear HP3
  go_wp2_with fail
  refine HX.out.mono ?_
  rintro e y3 ⟨rfl, hb⟩
  have HY3 := Lib.hid (HY2.out.trans (hb.mono HY2.out.size))
  clear hb HX HY2 t0 t1 u0 u1 v0 v1 v2 v3 v4 z0 z1 z2 z3 z4
  obtain ⟨t0, t1, u0, u1, v0, v1, v2, v3, v4, z0, z1, z2, z3, z4⟩ := HCells.out _ HY3.out
  have HX := Lib.hid (HP4.out _ HY3.out)
  clear HP4
  go_wp2_with fail
  refine HX.out.mono ?_
  rintro e y4 ⟨rfl, hb⟩
  have HY4 := Lib.hid (HY3.out.trans (hb.mono HY3.out.size))
  clear hb HX HY3 t0 t1 u0 u1 v0 v1 v2 v3 v4 z0 z1 z2 z3 z4
  obtain ⟨Z1, hZ1⟩ : ∃ Z, Z = y4.alloc (.cells #[.int .i64 vk, .int .i64 vi, .float .f64 vb, .string vt, .slice vp vn vc] 28) := ⟨_, rfl⟩
  have hbz : Below y4.heap.size y4 Z1 := by rw [hZ1]; exact (Below.refl _ _).alloc (Nat.le_refl _) _
  have hk : Z1.heap[y4.heap.size]? = some (.cells #[.int .i64 vk, .int .i64 vi, .float .f64 vb, .string vt, .slice vp vn vc] 28 (0, 0)) := by rw [hZ1]; exact blk_new y4 _
  have HC := Lib.hid (HY4.out.trans (hbz.mono HY4.out.size))
  have HX := Lib.hid (HP5.out Z1 _ _ HC.out hk)
  obtain ⟨t0, t1, u0, u1, v0, v1, v2, v3, v4, z0, z1, z2, z3, z4⟩ := HCells.out _ HY4.out
  have HZ := Lib.hid hZ1
  clear hZ1 hbz hk HP5
  go_wp2_with fail
  rw [← HZ.out]
  refine HX.out.mono ?_
  rintro e y5 ⟨rfl, hb⟩
  have HY5 := Lib.hid (HC.out.trans (hb.mono HC.out.size))
  clear hb HX HY4 HC HZ t0 t1 u0 u1 v0 v1 v2 v3 v4 z0 z1 z2 z3 z4
  obtain ⟨Z2, hZ2⟩ : ∃ Z, Z = y5.alloc (.cells #[.int .i64 wk, .int .i64 wi, .float .f64 wb, .string wt, .slice wp wn wc] 28) := ⟨_, rfl⟩
  have hbz : Below y5.heap.size y5 Z2 := by rw [hZ2]; exact (Below.refl _ _).alloc (Nat.le_refl _) _
  have hk : Z2.heap[y5.heap.size]? = some (.cells #[.int .i64 wk, .int .i64 wi, .float .f64 wb, .string wt, .slice wp wn wc] 28 (0, 0)) := by rw [hZ2]; exact blk_new y5 _
  have HC := Lib.hid (HY5.out.trans (hbz.mono HY5.out.size))
  have HX := Lib.hid (HP6.out Z2 _ _ HC.out hk)
  obtain ⟨t0, t1, u0, u1, v0, v1, v2, v3, v4, z0, z1, z2, z3, z4⟩ := HCells.out _ HY5.out
  have HZ := Lib.hid hZ2
  clear hZ2 hbz hk HP6
  go_wp2_with fail
  rw [← HZ.out]
  refine HX.out.mono ?_
  rintro e y6 ⟨rfl, hb⟩
  have HY6 := Lib.hid (HC.out.trans (hb.mono HC.out.size))
  clear hb HX HY5 HC HZ t0 t1 u0 u1 v0 v1 v2 v3 v4 z0 z1 z2 z3 z4
  obtain ⟨t0, t1, u0, u1, v0, v1, v2, v3, v4, z0, z1, z2, z3, z4⟩ := HCells.out _ HY6.out
  rcases HZ1.out with g12 | ⟨g1, g2, g5⟩
  · clear HZ1 HQ1
    rcases g12 with g1 | ⟨g1, g2⟩
    all_goals
      rcases HZ2.out with ⟨g3, h3⟩ | ⟨g3, h3⟩ <;> rcases HZ3.out with ⟨g4, h4⟩ | ⟨g4, h4⟩
      all_goals clear HZ2 HZ3
      case inr.inr =>
        have g6 := HZ4.out g3 g4
        have HS := Lib.hid (HQ2.out _ HY6.out)
        clear HQ2 HZ4
        go_wp2_with fail
        refine HS.out.mono ?_
        rintro e y8 ⟨rfl, hb⟩
        have HE := Lib.hid (HB0.out.trans ((HY6.out.trans (hb.mono HY6.out.size)).mono HB0.out.size))
        clear hb HS
        go_wp2
        go_ret
        exact ⟨rfl, HE.out⟩
      all_goals
        have HE := Lib.hid (HB0.out.trans (HY6.out.mono HB0.out.size))
        clear HQ2 HZ4
        go_wp2
        go_ret
        exact ⟨rfl, HE.out⟩
  · have HT := Lib.hid (HQ1.out _ HY6.out)
    clear HZ1 HQ1
    rcases HZ2.out with ⟨g3, h3⟩ | ⟨g3, h3⟩ <;> rcases HZ3.out with ⟨g4, h4⟩ | ⟨g4, h4⟩
    all_goals
      clear HZ2 HZ3
      go_wp2_with fail
      refine HT.out.mono ?_
      rintro e y7 ⟨rfl, hb⟩
      have HY7 := Lib.hid (HY6.out.trans (hb.mono HY6.out.size))
      clear hb HT HY6 t0 t1 u0 u1 v0 v1 v2 v3 v4 z0 z1 z2 z3 z4
      obtain ⟨t0, t1, u0, u1, v0, v1, v2, v3, v4, z0, z1, z2, z3, z4⟩ := HCells.out _ HY7.out
    rotate_left 3
    · have g6 := HZ4.out g3 g4
      have HS := Lib.hid (HQ2.out _ HY7.out)
      clear HQ2 HZ4
      go_wp2_with fail
      refine HS.out.mono ?_
      rintro e y8 ⟨rfl, hb⟩
      have HE := Lib.hid (HB0.out.trans ((HY7.out.trans (hb.mono HY7.out.size)).mono HB0.out.size))
      clear hb HS
      go_wp2
      go_ret
      exact ⟨rfl, HE.out⟩
    all_goals
      have HE := Lib.hid (HB0.out.trans (HY7.out.mono HB0.out.size))
      clear HQ2 HZ4
      go_wp2
      go_ret
      exact ⟨rfl, HE.out⟩
end Go.Proofs.YtlgmfeokamegiaaGreatDoor
