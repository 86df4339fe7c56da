/- WT21A, WT21B: put together. -/
import Derived.Test.YtpjcmahlnnglcaaGreatDoorTxL
import Derived.Test.YtpjcmahlnnglcaaGreatDoorB07
import Derived.Test.YtpjcmahlnnglcaaGreatDoorB16
import Derived.Test.YtpjcmahlnnglcaaGreatDoorB01
import Derived.Lib.ItoaLen

/- The document's kinds, typed. -/
namespace Go.Proofs.YtpjcmahlnnglcaaGreatDoor
open Go.RowKit

/-- the words of kinds, as they lie -/
def kindsC : Array Value := #[.string ⟨#[]⟩, .string ⟨#[98, 111, 111, 108]⟩, .string ⟨#[105, 110, 116]⟩, .string ⟨#[102, 108, 111, 97, 116]⟩, .string ⟨#[116, 101, 120, 116]⟩, .string ⟨#[98, 121, 116, 101, 115]⟩, .string ⟨#[111, 112, 116]⟩, .string ⟨#[108, 105, 115, 116]⟩]
set_option maxRecDepth 100000 in
theorem refKinds21 (w : World) : Calls Tryz.prog 61 #[] w fun e w' => e = .returned (.slice (some ⟨w.heap.size, 0, none⟩) 8 8) ∧ w' = w.alloc (.cells kindsC 9) := by
  go_enter Tryz.func61, Tryz.ntmps61
  go_wp2
  go_ret
  exact ⟨rfl, rfl⟩
theorem kinds_at {m : Nat} (h : 1 ≤ m ∧ m ≤ 7) : kindsC[m]? = some (.string ⟨(Tx.word (m : Int)).toArray⟩) := by
  have h7 : m = 1 ∨ m = 2 ∨ m = 3 ∨ m = 4 ∨ m = 5 ∨ m = 6 ∨ m = 7 := by omega
  rcases h7 with rfl | rfl | rfl | rfl | rfl | rfl | rfl <;> rfl
theorem refKind21 {m : Nat} (h : 1 ≤ m ∧ m ≤ 7) (w : World) : Calls Tryz.prog 61 #[] w fun e w' => e = .returned (.slice (some ⟨w.heap.size, 0, none⟩) 8 8) ∧ w'.cell? ⟨w.heap.size, m, none⟩ = some (.string ⟨(Tx.word (m : Int)).toArray⟩) ∧ Below w.heap.size w w' := by
  refine (refKinds21 w).mono ?_
  rintro e w' ⟨rfl, rfl⟩
  refine ⟨rfl, ?_, (Below.refl _ _).alloc (Nat.le_refl _) _⟩
  rw [← kinds_at h]
  have := blk_new w (.cells kindsC 9)
  unfold World.cell?
  rw [this]
  rfl

set_option maxRecDepth 100000 in
set_option maxHeartbeats 2000000 in
theorem refTyped21 : ∀ (x : Ty) (d : Nat) (w : World) (u : Array Value), Ty.check d x = 0 → TLies w u x → Calls Tryz.prog 32 #[.agg u] w fun e w' => e = .returned (.string ⟨(Tx.ty x).toArray⟩) ∧ Below w.heap.size w w' := by
  intro x
  refine Ty.ind (P := fun x => ∀ (d : Nat) (w : World) (u : Array Value), Ty.check d x = 0 → TLies w u x → Calls Tryz.prog 32 #[.agg u] w fun e w' => e = .returned (.string ⟨(Tx.ty x).toArray⟩) ∧ Below w.heap.size w w') ?_ x
  rintro k xs ih d w u hd hx
  obtain ⟨p, c, rfl, hxl, hxc, hxi⟩ := hx.open
  unfold cells2
  obtain ⟨hd4, hk, htt⟩ := Sch.ty_open hd
  obtain ⟨m, rfl⟩ : ∃ m : Nat, k = (m : Nat) := ⟨k.toNat, by omega⟩
  obtain ⟨n, hn⟩ : ∃ n, n = xs.length := ⟨_, rfl⟩
  have hxi2 := hxi
  rw [← hn]
  obtain ⟨W0, hW0⟩ : ∃ W0, w.alloc (.cells #[.int .i64 (m : Nat), .slice p n c] 24) = W0 := ⟨_, rfl⟩
  have hb0 : Below w.heap.size w W0 := by rw [← hW0]; exact (Below.refl _ _).alloc (Nat.le_refl _) _
  have hbk : W0.heap[w.heap.size]? = some (.cells #[.int .i64 (m : Nat), .slice p n c] 24) := by rw [← hW0]; exact blk_new w _
  have c0 : W0.cell? ⟨w.heap.size, 0, none⟩ = some (.int .i64 (m : Nat)) := blk_cell hbk 0
  have c1 : W0.cell? ⟨w.heap.size, 1, none⟩ = some (.slice p n c) := blk_cell hbk 1
  have HW0 := Lib.hid hW0
  have HB0 := Lib.hid hb0
  have HKd := Lib.hid (fun w' => refKind21 (m := m) (by omega) w')
  obtain ⟨wd, hwd⟩ : ∃ wd, wd = (Tx.word (m : Int)).toArray := ⟨_, rfl⟩
  rw [← hwd] at HKd
  have m0 : (0 : Int) ≤ (m : Int) := by omega
  have m1 : (m : Int) < 8 := by omega
  clear hW0 hx
  rcases htt with ⟨h67, rfl⟩ | ⟨h67, x, rfl, hx⟩
  · have HT : Hid ((Tx.ty (.mk (m : Int) [])).toArray = wd) := by show _ = _; rw [Tx.ty_leaf, hwd]
    obtain rfl : n = 0 := hn
    clear hwd hbk ih hxi hxi2 hd
    go_enter Tryz.func32, Tryz.ntmps32
    go_wp2_with fail
    rw [HW0.out]
    have f0 : ∀ z : Ext W0, z.val.cell? ⟨w.heap.size, 0, none⟩ = some (.int .i64 (m : Nat)) := fun z => cell_on z.2 c0
    refine wp_region_plan (u := W0) [(true, 1), (true, 2), (false, 0), (true, 3), (true, 4), (true, 5)] (by kernel_rfl) (by kernel_rfl) (fun c d v a w h => by cases d <;> exact h) ?_
    iterate 2
      refine wpPlan_look ?_
      simp only [List.getElem?_cons_succ, List.getElem?_cons_zero]
      apply Exists.intro
      refine ⟨fun z => ?_, ?_⟩
      · go_simp
        try with_reducible rfl
      try simp only [Act.put, List.setIfInBounds_toArray, List.set_cons_zero, List.set_cons_succ]
    refine wpPlan_go ?_
    simp only [List.getElem?_cons_zero]
    intro K hK
    go_simp
    refine (HKd.out _).mono ?_
    rintro e w1 ⟨rfl, hc1, hb1⟩
    have hB1 : Below W0.heap.size W0 w1 := (Below.refl W0.heap.size W0).drew.trans hb1
    have f1 : ∀ z : Ext w1, z.val.cell? ⟨W0.heap.size, m, none⟩ = some (.string ⟨wd⟩) := fun z => cell_on z.2 hc1
    have HB1 := Lib.hid (HB0.out.trans (hB1.mono HB0.out.size))
    refine hK _ _ ⟨⟨_, hB1⟩, rfl⟩ ?_
    clear hK K hb1 hB1 hc1
    try simp only [Act.put, List.setIfInBounds_toArray, List.set_cons_zero, List.set_cons_succ]
    iterate 3
      refine wpPlan_look ?_
      simp only [List.getElem?_cons_succ, List.getElem?_cons_zero]
      apply Exists.intro
      refine ⟨fun z => ?_, ?_⟩
      · go_simp
        try with_reducible rfl
      try simp only [Act.put, List.setIfInBounds_toArray, List.set_cons_zero, List.set_cons_succ]
    refine wpPlan_end ?_
    go_wp2
    go_ret
    rw [HT.out]
    exact ⟨rfl, HB1.out⟩
  · obtain rfl : n = 1 := hn
    obtain ⟨ux, hvx, hix⟩ := hxi2 0 (by simp)
    have HC : Hid (∀ w', Below w.heap.size w w' → Calls Tryz.prog 32 #[.agg ux] w' fun e w'' => e = .returned (.string ⟨(Tx.ty x).toArray⟩) ∧ Below w'.heap.size w' w'') := fun w' hb => ih x (by simp) (d + 1) w' _ hx (hvx.on hb)
    obtain ⟨bx, ox, kx, qx, nx, cx, rfl, hbx, rfl, a0, a1⟩ := (hix.on HB0.out).lies
    rw [Nat.zero_mul, Nat.add_zero] at a0 a1
    unfold cells2 at HC
    clear hbk ih hxi hxi2 hd hvx hix
    have HT : Hid (((ByteArray.mk wd ++ ByteArray.mk #[40]) ++ ByteArray.mk (Tx.ty x).toArray) ++ ByteArray.mk #[41] = ⟨(Tx.ty (.mk (m : Int) [x])).toArray⟩) := by
      show _ = _
      have e1 : (#[40] : Array UInt8) = [40].toArray := rfl
      have e2 : (#[41] : Array UInt8) = [41].toArray := rfl
      rw [hwd, e1, e2, cat21, cat21, cat21, Tx.ty_one]
      simp
    have f0 : ∀ z : Ext W0, z.val.cell? ⟨w.heap.size, 0, none⟩ = some (.int .i64 (m : Nat)) := fun z => cell_on z.2 c0
    have f1 : ∀ z : Ext W0, z.val.cell? ⟨w.heap.size, 1, none⟩ = some (.slice (some ⟨bx, ox, none⟩) 1 c) := fun z => cell_on z.2 c1
    have f2 : ∀ z : Ext W0, z.val.cell? ⟨bx, ox, none⟩ = some (.int .i64 kx) := fun z => cell_on z.2 a0
    have f3 : ∀ z : Ext W0, z.val.cell? ⟨bx, ox + 1, none⟩ = some (.slice qx nx cx) := fun z => cell_on z.2 a1
    obtain ⟨tx, htx⟩ : ∃ tx, tx = (Tx.ty x).toArray := ⟨_, rfl⟩
    have hlt := ty_len x (d + 1) hx
    have hlw := word_len (m : Int)
    have ht1 : tx.size ≤ 40 := by rw [htx, List.size_toArray]; omega
    have hw1 : wd.size ≤ 5 := by rw [hwd, List.size_toArray]; exact hlw
    rw [← htx] at HC HT
    have g1 : ¬ 9223372036854775807 < wd.size + 1 := by omega
    have g2 : ¬ 9223372036854775807 < wd.size + 1 + tx.size := by omega
    have g3 : ¬ 9223372036854775807 < wd.size + 1 + tx.size + 1 := by omega
    clear hwd htx hlt hlw ht1 hw1
    go_enter Tryz.func32, Tryz.ntmps32
    go_wp2_with fail
    rw [HW0.out]
    refine wp_region_plan (u := W0) [(true, 1), (true, 2), (true, 6), (true, 7), (true, 8), (true, 9), (false, 0), (true, 3), (true, 4), (true, 5), (false, 10), (true, 11), (true, 12), (true, 13)] (by kernel_rfl) (by kernel_rfl) (fun c d v a w h => by cases d <;> exact h) ?_
    iterate 6
      refine wpPlan_look ?_
      simp only [List.getElem?_cons_succ, List.getElem?_cons_zero]
      apply Exists.intro
      refine ⟨fun z => ?_, ?_⟩
      · go_simp
        try with_reducible rfl
      try simp only [Act.put, List.setIfInBounds_toArray, List.set_cons_zero, List.set_cons_succ]
    refine wpPlan_go ?_
    simp only [List.getElem?_cons_zero]
    intro K hK
    go_simp
    refine (HKd.out _).mono ?_
    rintro e w1 ⟨rfl, hc1, hb1⟩
    have hB1 : Below W0.heap.size W0 w1 := (Below.refl W0.heap.size W0).drew.trans hb1
    have f4 : ∀ z : Ext w1, z.val.cell? ⟨W0.heap.size, m, none⟩ = some (.string ⟨wd⟩) := fun z => cell_on z.2 hc1
    have HB1 := Lib.hid (HB0.out.trans (hB1.mono HB0.out.size))
    refine hK _ _ ⟨⟨_, hB1⟩, rfl⟩ ?_
    clear hK K hb1 hB1 hc1
    try simp only [Act.put, List.setIfInBounds_toArray, List.set_cons_zero, List.set_cons_succ]
    iterate 3
      refine wpPlan_look ?_
      simp only [List.getElem?_cons_succ, List.getElem?_cons_zero]
      apply Exists.intro
      refine ⟨fun z => ?_, ?_⟩
      · go_simp
        try with_reducible rfl
      try simp only [Act.put, List.setIfInBounds_toArray, List.set_cons_zero, List.set_cons_succ]
    refine wpPlan_go ?_
    simp only [List.getElem?_cons_succ, List.getElem?_cons_zero]
    intro K hK
    go_simp
    refine (HC.out _ HB1.out).mono ?_
    rintro e w2 ⟨rfl, hb2⟩
    have HB2 := Lib.hid (HB1.out.trans (hb2.mono HB1.out.size))
    have hB2 : InExt w1 w2 := ⟨⟨w2, hb2⟩, rfl⟩
    refine hK _ _ hB2 ?_
    clear hK K hb2 hB2
    try simp only [Act.put, List.setIfInBounds_toArray, List.set_cons_zero, List.set_cons_succ]
    iterate 3
      refine wpPlan_look ?_
      simp only [List.getElem?_cons_succ, List.getElem?_cons_zero]
      apply Exists.intro
      refine ⟨fun z => ?_, ?_⟩
      · go_simp
        try with_reducible rfl
      try simp only [Act.put, List.setIfInBounds_toArray, List.set_cons_zero, List.set_cons_succ]
    refine wpPlan_end ?_
    go_wp2
    go_ret
    rw [HT.out]
    exact ⟨rfl, HB2.out⟩
end Go.Proofs.YtpjcmahlnnglcaaGreatDoor

/- The document's digits. -/
namespace Go.Proofs.YtpjcmahlnnglcaaGreatDoor
open Go.RowKit

theorem itoa_small {u : Nat} (h : u < 10) : Lib.itoa (u : Int) = [UInt8.ofNat (48 + u)] := by rw [Lib.itoa_nonneg, Lib.decDigits, dif_pos h]
theorem itoa_more {u : Nat} (h : ¬ u < 10) : Lib.itoa (u : Int) = Lib.itoa ((u / 10 : Nat) : Int) ++ Lib.itoa ((u % 10 : Nat) : Int) := by
  rw [Lib.itoa_nonneg, Lib.itoa_nonneg, itoa_small (by omega), Lib.decDigits, dif_neg h]
theorem itoa_minus {u : Nat} (h : 1 ≤ u) : Lib.itoa (-(u : Int)) = 45 :: Lib.itoa (u : Int) := by rw [Lib.itoa_neg u h, Lib.itoa_nonneg]
theorem itoa_below {u : Nat} (h : ¬ u < 10) : Lib.itoa (-(u : Int)) = Lib.itoa (-((u / 10 : Nat) : Int)) ++ Lib.itoa ((u % 10 : Nat) : Int) := by
  rw [itoa_minus (by omega), itoa_more h, itoa_minus (by omega)]
  rfl

set_option maxRecDepth 100000 in
theorem refDigit21 {u : Nat} (h : u < 10) (w : World) : Calls Tryz.prog 65 #[.int .i64 (u : Nat)] w fun e w' => e = .returned (.string ⟨(Lib.itoa (u : Int)).toArray⟩) ∧ Below w.heap.size w w' := by
  have hd := Tx.dig_of u h
  obtain ⟨c, hc⟩ : ∃ c, c = UInt8.ofNat (48 + u) := ⟨_, rfl⟩
  have hu : (48 + (u : Int)) = (c.toNat : Int) := by rw [hc, hd]; omega
  have hcv : (convert 58 9 (.slice (some ⟨w.heap.size, 0, none⟩) 1 1)).run Tryz.prog (w.alloc (.cells #[.int .u8 (48 + (u : Int))] 5)) = .ok (.string ⟨#[c]⟩) (w.alloc (.cells #[.int .u8 (48 + (u : Int))] 5)) := by
    have hA : At (w.alloc (.cells #[.int .u8 (48 + (u : Int))] 5)) (some ⟨w.heap.size, 0, none⟩) [c] := by
      rw [hu]
      refine .inr ⟨w.heap.size, 0, rfl, by simp, fun j hj => ?_⟩
      obtain rfl : j = 0 := by simpa using hj
      exact blk_cell (blk_new w _) 0
    exact conv_str hA 1
  have hB : Below w.heap.size w (w.alloc (.cells #[.int .u8 (48 + (u : Int))] 5)) := (Below.refl _ _).alloc (Nat.le_refl _) _
  have HB := Lib.hid hB
  have HE : Hid ((Lib.itoa (u : Int)).toArray = #[c]) := by show _ = _; rw [itoa_small h, hc]
  have g0 : (u : Int) < 10 := by omega
  have g1 : decide ((u : Int) < 0) = false := decide_eq_false (by omega)
  clear hc
  clear hd hu hB h
  go_enter Tryz.func65, Tryz.ntmps65
  go_wp2
  go_ret
  rw [HE.out]
  exact ⟨rfl, HB.out⟩
set_option maxRecDepth 100000 in
set_option maxHeartbeats 2000000 in
theorem refDigits21 : ∀ (k : Nat) (n : Int), n.natAbs ≤ k → (-9223372036854775808 ≤ n ∧ n ≤ 9223372036854775807) → ∀ w : World, Calls Tryz.prog 65 #[.int .i64 n] w fun e w' => e = .returned (.string ⟨(Lib.itoa n).toArray⟩) ∧ Below w.heap.size w w' := by
  intro k
  induction k using Nat.strongRecOn with
  | ind k ih =>
    intro n hk hn w
    have HI : Hid (∀ m : Int, m.natAbs < n.natAbs → (-9223372036854775808 ≤ m ∧ m ≤ 9223372036854775807) → ∀ w : World, Calls Tryz.prog 65 #[.int .i64 m] w fun e w' => e = .returned (.string ⟨(Lib.itoa m).toArray⟩) ∧ Below w.heap.size w w') := fun m hm h w => ih m.natAbs (by omega) m (Nat.le_refl _) h w
    clear ih hk
    by_cases h0 : n < 0
    · obtain ⟨u, rfl⟩ : ∃ u : Nat, n = -(u : Int) := ⟨n.natAbs, by omega⟩
      have u0 : 0 < u := by omega
      have u1 : decide (0 < u) = true := decide_eq_true u0
      by_cases h10 : u < 10
      · have HS := Lib.hid (refDigit21 h10 w)
        have g1 : (u : Int) < 10 := by omega
        have g2 : decide ((u : Int) < 10) = true := decide_eq_true g1
        have HE : Hid (ByteArray.mk #[45] ++ ByteArray.mk (Lib.itoa (u : Int)).toArray = ⟨(Lib.itoa (-(u : Int))).toArray⟩) := by
          show _ = _
          have e1 : (#[45] : Array UInt8) = [45].toArray := rfl
          rw [e1, cat21, itoa_minus u0]
          rfl
        have hl := itoa_len (u : Int) (by omega)
        obtain ⟨T, hT⟩ : ∃ T, T = (Lib.itoa (u : Int)).toArray := ⟨_, rfl⟩
        have hts : T.size ≤ 21 := by rw [hT, List.size_toArray]; exact hl
        rw [← hT] at HS HE
        have k1 : ¬ 9223372036854775807 < 1 + T.size := by omega
        clear hT hl h10 HI h0
        go_enter Tryz.func65, Tryz.ntmps65
        go_wp2_with fail
        refine HS.out.mono ?_
        rintro e w1 ⟨rfl, hb1⟩
        have HB1 := Lib.hid hb1
        clear hb1 HS
        go_wp2
        go_ret
        rw [HE.out]
        exact ⟨rfl, HB1.out⟩
      · have g1 : ¬ (u : Int) < 10 := by omega
        have g2 : decide ((u : Int) < 10) = false := decide_eq_false g1
        have H1 := Lib.hid (HI.out (-((u / 10 : Nat) : Int)) (by omega) (by omega))
        have H2 := Lib.hid (fun w => refDigit21 (u := u % 10) (by omega) w)
        have HE : Hid (ByteArray.mk (Lib.itoa (-((u / 10 : Nat) : Int))).toArray ++ ByteArray.mk (Lib.itoa ((u % 10 : Nat) : Int)).toArray = ⟨(Lib.itoa (-(u : Int))).toArray⟩) := by
          show _ = _
          rw [cat21, itoa_below h10]
        have hl := itoa_len (-((u / 10 : Nat) : Int)) (by omega)
        have hl2 := itoa_len ((u % 10 : Nat) : Int) (by omega)
        obtain ⟨T, hT⟩ : ∃ T, T = (Lib.itoa (-((u / 10 : Nat) : Int))).toArray := ⟨_, rfl⟩
        obtain ⟨U, hU⟩ : ∃ U, U = (Lib.itoa ((u % 10 : Nat) : Int)).toArray := ⟨_, rfl⟩
        have hts : T.size ≤ 21 := by rw [hT, List.size_toArray]; exact hl
        have hus : U.size ≤ 21 := by rw [hU, List.size_toArray]; exact hl2
        rw [← hT] at H1 HE
        rw [← hU] at H2 HE
        have k1 : ¬ 9223372036854775807 < T.size + U.size := by omega
        have e1 : (-((u / 10 : Nat) : Int)) = -((u : Int) / 10) := by omega
        have e2 : ((u % 10 : Nat) : Int) = (u : Int) % 10 := by omega
        rw [e1] at H1
        rw [e2] at H2
        clear hT hU hl hl2 HI h0 e1 e2
        go_enter Tryz.func65, Tryz.ntmps65
        go_wp2_with fail
        refine (H1.out w).mono ?_
        rintro e w1 ⟨rfl, hb1⟩
        have HB1 := Lib.hid hb1
        clear hb1 H1
        go_wp2_with fail
        refine (H2.out w1).mono ?_
        rintro e w2 ⟨rfl, hb2⟩
        have HB2 := Lib.hid (HB1.out.trans (hb2.mono HB1.out.size))
        clear hb2 H2
        go_wp2
        go_ret
        rw [HE.out]
        exact ⟨rfl, HB2.out⟩
    · obtain ⟨u, rfl⟩ : ∃ u : Nat, n = (u : Int) := ⟨n.natAbs, by omega⟩
      by_cases h10 : u < 10
      · exact refDigit21 h10 w
      · have g1 : ¬ (u : Int) < 10 := by omega
        have g2 : decide ((u : Int) < 10) = false := decide_eq_false g1
        have H1 := Lib.hid (HI.out ((u / 10 : Nat) : Int) (by omega) (by omega))
        have H2 := Lib.hid (fun w => refDigit21 (u := u % 10) (by omega) w)
        have HE : Hid (ByteArray.mk (Lib.itoa ((u / 10 : Nat) : Int)).toArray ++ ByteArray.mk (Lib.itoa ((u % 10 : Nat) : Int)).toArray = ⟨(Lib.itoa (u : Int)).toArray⟩) := by
          show _ = _
          rw [cat21, itoa_more h10]
        have hl := itoa_len ((u / 10 : Nat) : Int) (by omega)
        have hl2 := itoa_len ((u % 10 : Nat) : Int) (by omega)
        obtain ⟨T, hT⟩ : ∃ T, T = (Lib.itoa ((u / 10 : Nat) : Int)).toArray := ⟨_, rfl⟩
        obtain ⟨U, hU⟩ : ∃ U, U = (Lib.itoa ((u % 10 : Nat) : Int)).toArray := ⟨_, rfl⟩
        have hts : T.size ≤ 21 := by rw [hT, List.size_toArray]; exact hl
        have hus : U.size ≤ 21 := by rw [hU, List.size_toArray]; exact hl2
        rw [← hT] at H1 HE
        rw [← hU] at H2 HE
        have k1 : ¬ 9223372036854775807 < T.size + U.size := by omega
        have e1 : ((u / 10 : Nat) : Int) = (u : Int) / 10 := by omega
        have e2 : ((u % 10 : Nat) : Int) = (u : Int) % 10 := by omega
        rw [e1] at H1
        rw [e2] at H2
        clear hT hU hl hl2 HI h0 e1 e2
        go_enter Tryz.func65, Tryz.ntmps65
        go_wp2_with fail
        refine (H1.out w).mono ?_
        rintro e w1 ⟨rfl, hb1⟩
        have HB1 := Lib.hid hb1
        clear hb1 H1
        go_wp2_with fail
        refine (H2.out w1).mono ?_
        rintro e w2 ⟨rfl, hb2⟩
        have HB2 := Lib.hid (HB1.out.trans (hb2.mono HB1.out.size))
        clear hb2 H2
        go_wp2
        go_ret
        rw [HE.out]
        exact ⟨rfl, HB2.out⟩
end Go.Proofs.YtpjcmahlnnglcaaGreatDoor
