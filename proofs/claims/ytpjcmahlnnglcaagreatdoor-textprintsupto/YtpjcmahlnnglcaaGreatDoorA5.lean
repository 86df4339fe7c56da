/- WT21P, WT21Q, KPr: put together. -/
import Derived.Test.YtpjcmahlnnglcaaGreatDoorA3
import Derived.Test.YtpjcmahlnnglcaaGreatDoorK21P
import Derived.Test.YtpjcmahlnnglcaaGreatDoorB07
import Derived.Test.YtpjcmahlnnglcaaGreatDoorA4
import Derived.Test.YtpjcmahlnnglcaaGreatDoorK21Z

/- The document's PrintRow. -/
namespace Go.Proofs.YtpjcmahlnnglcaaGreatDoor
open Go.RowKit
attribute [local go_sem] run_store_float

/-- the text of the first j -/
def jt {α : Type} (f : α → Tx.Bs) (xs : List α) (j : Nat) : Tx.Bs := Tx.join ((xs.take j).map f)
theorem jt_next {α : Type} (f : α → Tx.Bs) (xs : List α) (j : Nat) (h : j < xs.length) : jt f xs (j + 1) = jt f xs j ++ ((if j = 0 then [] else [44, 32]) ++ f xs[j]) := by
  unfold jt
  rw [List.take_succ_eq_append_getElem h, List.map_append]
  by_cases hj : j = 0
  · subst hj
    simp [Tx.join]
  · rw [List.map_cons, List.map_nil, join_snoc _ _ (fun hc => by have := congrArg List.length hc; rw [List.length_map, List.length_take] at this; simp only [List.length_nil] at this; omega), if_neg hj]
    simp
theorem jt_len {α : Type} (f : α → Tx.Bs) (xs : List α) (j B : Nat) (h : ∀ i (hi : i < xs.length), i < j → (f xs[i]).length ≤ B) : (jt f xs j).length ≤ j * (B + 2) := by
  unfold jt
  refine Nat.le_trans (join_le B _ fun x hx => ?_) (Nat.mul_le_mul_right _ (by simp; omega))
  obtain ⟨y, hy, rfl⟩ := List.mem_map.1 hx
  obtain ⟨i, hi, rfl⟩ := List.mem_iff_getElem.1 hy
  rw [List.length_take] at hi
  rw [List.getElem_take]
  exact h i (by omega) (by omega)
theorem jt_all {α : Type} (f : α → Tx.Bs) (xs : List α) (j : Nat) (h : xs.length ≤ j) : jt f xs j = Tx.join (xs.map f) := by
  unfold jt
  rw [List.take_of_length_le h]
theorem rowErr_at (xs : List V) (j : Nat) (hj : j < xs.length) (h : ∀ i (h : i < xs.length), i < j → chk 1 xs[i] = 0) (h0 : chk 1 xs[j] ≠ 0) : rowErr xs = chk 1 xs[j] := by
  rw [rowErr_take xs j h, List.drop_eq_getElem_cons hj]
  exact if_neg h0
theorem rowErr_none (xs : List V) (h : ∀ i (h : i < xs.length), chk 1 xs[i] = 0) : rowErr xs = 0 := by
  rw [rowErr_take xs xs.length (fun i hi _ => h i hi), List.drop_length]
  rfl

set_option maxRecDepth 100000 in
set_option maxHeartbeats 4000000 in
theorem refPrintRow21 {tx : Nat → Tx.Bs} (hP : FltP tx) (xs : List V) (p : Option Addr) (c : Nat) (w : World) (hl : xs.length ≤ 10000000) (hx : Items w p xs) (hwf : ∀ x ∈ xs, x.wf) : Calls Tryz.prog 16 #[.agg #[.slice p xs.length c]] w (Told21 w (rowErr xs) (Tx.row tx xs)) := by
  obtain ⟨n, hn⟩ : ∃ n, n = xs.length := ⟨_, rfl⟩
  have hn7 : (n : Int) ≤ 10000000 := by omega
  have HB0 : Hid (Below w.heap.size w (w.alloc (.cells #[.slice p n c] 33))) := (Below.refl _ _).alloc (Nat.le_refl _) _
  have HI : Hid (∀ j (hj : j < xs.length) w', Below w.heap.size w w' → ∃ u', (∀ w'', Below w'.heap.size w' w'' → Calls Tryz.prog 39 #[.agg u'] w'' fun e w3 => e = .returned (.int .i64 (chk 1 xs[j] : Nat)) ∧ Below w''.heap.size w'' w3) ∧ (chk 1 xs[j] = 0 → ∀ w'', Below w'.heap.size w' w'' → Calls Tryz.prog 36 #[.agg u'] w'' fun e w3 => e = .returned (.string ⟨(Tx.val tx xs[j]).toArray⟩) ∧ Below w''.heap.size w'' w3) ∧ Item w' p j u') := fun j hj w' hb => by
    obtain ⟨u', q1, q2⟩ := hx j hj
    exact ⟨u', fun w'' hb' => refCheck6 xs[j] w'' u' (q1.on (hb.trans (hb'.mono hb.size))), fun h0 w'' hb' => refValued21 hP xs[j] 1 w'' u' (Nat.le_refl _) h0 (hwf _ (List.getElem_mem hj)) (q1.on (hb.trans (hb'.mono hb.size))), q2.on hb⟩
  have HVl : Hid (∀ j (hj : j < xs.length), chk 1 xs[j] = 0 → (Tx.val tx xs[j]).length ≤ 135000000000) := fun j hj h0 => val_short hP.len h0 (Nat.le_refl _) (hwf _ (List.getElem_mem hj))
  have HN := Lib.hid hn
  rw [← hn]
  obtain ⟨er, her⟩ : ∃ er, er = rowErr xs := ⟨_, rfl⟩
  rw [← her]
  have HEr := Lib.hid her
  clear hx hwf hn her hl
  go_enter Tryz.func16, Tryz.ntmps16
  go_wp2_with fail
  go_loopw [4, 11] (fun v4 v11 wr => ∃ (j : Nat) (T : Array UInt8), j ≤ n ∧ v11 = .int .i64 (j : Nat) ∧ v4 = .string ⟨T⟩ ∧ Hid (ByteArray.mk T = ⟨(jt (Tx.val tx) xs j).toArray⟩) ∧ Hid (∀ i (h : i < xs.length), i < j → chk 1 xs[i] = 0) ∧ Hid (Below w.heap.size w wr)) (fun _ v11 _ => n - (intOf v11).toNat)
  case atStart => exact ⟨0, _, Nat.zero_le _, rfl, rfl, rfl, fun i _ h => absurd h (Nat.not_lt_zero _), HB0⟩
  case round =>
    obtain ⟨j, T, hj, rfl, rfl, HT, HG, HB⟩ := hrel
    have hjI : (j : Int) ≤ 10000000 := by omega
    have hTl : T.size ≤ 1400000000000000000 := by
      have h2 := jt_len (Tx.val tx) xs j 135000000000 (fun i hi hij => HVl.out i hi (HG.out i hi hij))
      have h3 : T.size = (jt (Tx.val tx) xs j).length := by have := congrArg (fun b : ByteArray => b.data.size) HT.out; simpa using this
      have h4 : j ≤ 10000000 := by omega
      have h5 := Nat.mul_le_mul_right (135000000000 + 2) h4
      omega
    by_cases hlt : j < n
    · have f1 : (j : Int) < (n : Int) := by omega
      have hjx : j < xs.length := by have := HN.out; omega
      obtain ⟨u', hc, hc2, hit⟩ := HI.out j hjx wr HB.out
      obtain ⟨bx, ox, kx, ex, fx, gx, qx, nx, cx, rfl, hbx, rfl, a0, a1, a2, a3, a4⟩ := hit.lies
      unfold cells5 at hc hc2
      obtain ⟨W1, hW1⟩ : ∃ W, W = wr.alloc (.cells #[.int .i64 kx, .int .i64 ex, .float .f64 fx, .string gx, .slice qx nx cx] 31) := ⟨_, rfl⟩
      have hbw : Below wr.heap.size wr W1 := by rw [hW1]; exact (Below.refl _ _).alloc (Nat.le_refl _) _
      have hk1 : W1.heap[wr.heap.size]? = some (.cells #[.int .i64 kx, .int .i64 ex, .float .f64 fx, .string gx, .slice qx nx cx] 31 (0, 0)) := by rw [hW1]; exact blk_new wr _
      have HBx := Lib.hid (HB.out.trans (hbw.mono HB.out.size))
      have HC := Lib.hid (hc W1 hbw)
      have HC2 : Hid (chk 1 xs[j] = 0 → ∀ w'', Below W1.heap.size W1 w'' → Calls Tryz.prog 36 #[.agg #[.int .i64 kx, .int .i64 ex, .float .f64 fx, .string gx, .slice qx nx cx]] w'' fun e w3 => e = .returned (.string ⟨(Tx.val tx xs[j]).toArray⟩) ∧ Below w''.heap.size w'' w3) := fun h0 w'' hb => hc2 h0 w'' (hbw.trans (hb.mono hbw.size))
      have HK1 := Lib.hid hk1
      have HW1 := Lib.hid hW1
      have hN := jt_next (Tx.val tx) xs j hjx
      have hlx := HVl.out j hjx
      have hre := rowErr_at xs j hjx HG.out
      have hG1 : chk 1 xs[j] = 0 → ∀ i (h : i < xs.length), i < j + 1 → chk 1 xs[i] = 0 := fun h0 i hi hij => by
        by_cases he : i = j
        · subst he; exact h0
        · exact HG.out i hi (by omega)
      obtain ⟨X, hX⟩ : ∃ X, X = (Tx.val tx (xs[j]'hjx)).toArray := ⟨_, rfl⟩
      obtain ⟨ej, hej⟩ : ∃ e, e = chk 1 (xs[j]'hjx) := ⟨_, rfl⟩
      have hXl : ej = 0 → X.size ≤ 135000000000 := fun h => by rw [hX, List.size_toArray]; exact hlx (by omega)
      rw [← hX] at HC2
      rw [← hej] at HC HC2 hre hG1
      have hT := HT.out
      have HG1 := Lib.hid hG1
      clear hc hc2 hit hbw hk1 hW1 hlx hG1 hej
      go_wp2_with fail
      rw [← HW1.out]
      refine HC.out.mono ?_
      rintro e w1 ⟨rfl, hb1⟩
      have HB1 := Lib.hid (HBx.out.trans (hb1.mono HBx.out.size))
      have hk2 := blk_on HK1.out hb1 (blk_lt HK1.out)
      have y0 : w1.cell? ⟨wr.heap.size, 0, none⟩ = some (.int .i64 kx) := blk_cell hk2 0
      have y1 : w1.cell? ⟨wr.heap.size, 1, none⟩ = some (.int .i64 ex) := blk_cell hk2 1
      have y2 : w1.cell? ⟨wr.heap.size, 2, none⟩ = some (.float .f64 fx) := blk_cell hk2 2
      have y3 : w1.cell? ⟨wr.heap.size, 3, none⟩ = some (.string gx) := blk_cell hk2 3
      have y4 : w1.cell? ⟨wr.heap.size, 4, none⟩ = some (.slice qx nx cx) := blk_cell hk2 4
      by_cases h0 : ej = 0
      · have hXl := hXl h0
        have HV := Lib.hid (HC2.out h0 w1 hb1)
        have HG2 := Lib.hid (HG1.out h0)
        clear hb1 hk2 HC HC2 hre HG1 HI HVl HEr HK1 HW1
        subst h0
        by_cases hj0 : j = 0
        · have g0 : ¬ (0 : Int) < (j : Int) := by omega
          have g1 : decide ((0 : Int) < (j : Int)) = false := decide_eq_false g0
          have g2 : decide (0 < j) = false := decide_eq_false (by omega)
          have HN2 : Hid (ByteArray.mk T ++ ByteArray.mk X = ⟨(jt (Tx.val tx) xs (j + 1)).toArray⟩) := by
            show _ = _
            rw [hT, hX, cat21, hN, if_pos hj0]; simp
          have k3 : ¬ 9223372036854775807 < T.size + X.size := by omega
          clear hT hX hN hj0 hbx hjx HG
          go_wp2_with fail
          refine HV.out.mono ?_
          rintro e w2 ⟨rfl, hb2⟩
          have HB2 := Lib.hid (HB1.out.trans (hb2.mono HB1.out.size))
          clear hb2 HV
          go_wp2
          go_roundw
          case rel => exact ⟨j + 1, _, by omega, by go_num, rfl, HN2, HG2, HB2⟩
          case measure => simp [intOf]; omega
        · have g0 : (0 : Int) < (j : Int) := by omega
          have g1 : decide ((0 : Int) < (j : Int)) = true := decide_eq_true g0
          have g2 : decide (0 < j) = true := decide_eq_true (by omega)
          have k2 : ¬ 9223372036854775807 < T.size + 2 := by omega
          have HN2 : Hid ((ByteArray.mk T ++ ByteArray.mk #[44, 32]) ++ ByteArray.mk X = ⟨(jt (Tx.val tx) xs (j + 1)).toArray⟩) := by
            show _ = _
            have e2 : (#[44, 32] : Array UInt8) = [44, 32].toArray := rfl
            rw [hT, hX, e2, cat21, cat21, hN, if_neg hj0]; simp
          have k3 : ¬ 9223372036854775807 < T.size + 2 + X.size := by omega
          clear hT hX hN hj0 hbx hjx HG
          go_wp2_with fail
          refine HV.out.mono ?_
          rintro e w2 ⟨rfl, hb2⟩
          have HB2 := Lib.hid (HB1.out.trans (hb2.mono HB1.out.size))
          clear hb2 HV
          go_wp2
          go_roundw
          case rel => exact ⟨j + 1, _, by omega, by go_num, rfl, HN2, HG2, HB2⟩
          case measure => simp [intOf]; omega
      · have g0 : ((ej : Int) != 0) = true := by rw [bne_iff_ne]; omega
        have g1 : ((ej : Int) == 0) = false := by rw [beq_eq_false_iff_ne]; omega
        have HR : Hid (Told21 w er (Tx.row tx xs) (.returned (.tuple #[.string ⟨#[]⟩, .int .i64 (ej : Nat)])) w1) := by
          have e : er = ej := by rw [HEr.out, hre h0]
          rw [e]
          exact told_no h0 HB1.out
        clear hb1 hk2 HC HC2 hre HG1 HI HVl HEr HK1 HW1 h0 hXl
        go_wp2
        go_ret2
        exact HR.out
    · have f1 : ¬ (j : Int) < (n : Int) := by omega
      have HR : Hid (Told21 w er (Tx.row tx xs) (.returned (.tuple #[.string ⟨T⟩, .int .i64 0])) wr) := by
        have h1 : rowErr xs = 0 := rowErr_none xs (fun i hi => HG.out i hi (by have := HN.out; omega))
        have h2 : er = 0 := by rw [HEr.out, h1]
        have h3 : ByteArray.mk T = ⟨(Tx.row tx xs).toArray⟩ := by
          rw [HT.out, jt_all _ _ _ (by have := HN.out; omega)]
          rfl
        rw [h2, h3]
        exact told_ok HB.out
      clear HI HVl HEr
      go_wp2
      go_ret2
      exact HR.out
end Go.Proofs.YtpjcmahlnnglcaaGreatDoor

/- The document's PrintSchema. -/
namespace Go.Proofs.YtpjcmahlnnglcaaGreatDoor
open Go.RowKit
attribute [local go_sem] run_store_float

theorem col_short {tx : Nat → Tx.Bs} (hP : ∀ x, (tx x).length ≤ 100) {z : Col} (hty : Ty.check 1 z.ty = 0) (hnm : z.name.size ≤ 1000) (hdf : z.has = true → chk 1 z.dflt = 0) (wd : z.dflt.wf) : (Tx.col tx z).length ≤ 135000002000 := by
  have h1 := ty_len z.ty 1 hty
  have hns : z.name.data.toList.length = z.name.size := by rw [Array.length_toList]; rfl
  unfold Tx.col
  simp only [List.length_append, List.length_cons]
  by_cases hh : z.has = true
  · have h2 := val_short (tx := tx) hP (hdf hh) (Nat.le_refl _) wd
    rw [if_pos hh]
    simp only [List.length_cons]
    omega
  · rw [if_neg hh]
    simp only [List.length_nil]
    omega

set_option maxRecDepth 100000 in
set_option maxHeartbeats 8000000 in
theorem refPrintSchema21 {tx : Nat → Tx.Bs} (hP : FltP tx) (s : List Col) (p : Option Addr) (c : Nat) (w : World) (hl : s.length * 120 ≤ 140737488351232) (hcp : s.length ≤ c) (hx : Cols w p s) (hwf : ∀ x ∈ s, x.wf) : Calls Tryz.prog 12 #[.agg #[.slice p s.length c]] w (Told21 w (Sch.err s) (Tx.sch tx s)) := by
  have HB0 : Hid (Below w.heap.size w (w.alloc (.cells #[.slice p s.length c] 27))) := (Below.refl _ _).alloc (Nat.le_refl _) _
  have HC := Lib.hid (refCheck7 s p c _ hl hcp (hx.on HB0.out) hwf)
  have HK0 := Lib.hid (blk_new w (.cells #[.slice p s.length c] 27))
  by_cases h0 : Sch.err s = 0
  · obtain ⟨-, h16, hce, -⟩ := Sch.err_open h0
    have hall : ∀ x ∈ s, Ty.check 1 x.ty = 0 ∧ x.name.size ≤ 1000 ∧ (x.has = true → chk 1 x.dflt = 0) ∧ x.dflt.wf := fun x hx => by
      obtain ⟨l', hl'⟩ := Sch.colsErr_mem s [] hce x hx
      obtain ⟨hnm, -, hty, -, hdf2⟩ := Sch.col_open hl'
      have := (Sch.name_size hnm).2
      exact ⟨hty, by omega, fun hh => (hdf2 hh).1, (hwf x hx).2.2⟩
    rw [h0] at HC ⊢
    have HI : Hid (∀ j (hj : j < s.length) w', Below w.heap.size w w' → ∃ blk off k tp tn tc vk vi vb vt vp vn vc, p = some ⟨blk, off, none⟩ ∧ blk < w'.heap.size ∧ At9 w' blk (off + j * 9) s[j].name k tp tn tc s[j].has vk vi vb vt vp vn vc ∧ (∀ w'', Below w'.heap.size w' w'' → Calls Tryz.prog 32 #[.agg #[.int .i64 k, .slice tp tn tc]] w'' fun e w3 => e = .returned (.string ⟨(Tx.ty s[j].ty).toArray⟩) ∧ Below w''.heap.size w'' w3) ∧ (s[j].has = true → ∀ w'', Below w'.heap.size w' w'' → Calls Tryz.prog 36 #[.agg #[.int .i64 vk, .int .i64 vi, .float .f64 vb, .string vt, .slice vp vn vc]] w'' fun e w3 => e = .returned (.string ⟨(Tx.val tx s[j].dflt).toArray⟩) ∧ Below w''.heap.size w'' w3)) := fun j hj w' hb => by
      obtain ⟨blk, off, k, tp, tn, tc, vk, vi, vb, vt, vp, vn, vc, h1, h2, h3, h4, h5⟩ := (hx.on hb).at j hj
      obtain ⟨q1, q2, q3, q4⟩ := hall _ (List.getElem_mem hj)
      exact ⟨blk, off, k, tp, tn, tc, vk, vi, vb, vt, vp, vn, vc, h1, h2, h3, fun w'' hb' => refTyped21 _ 1 w'' _ q1 (h4.on hb'), fun hh w'' hb' => refValued21 hP _ 1 w'' _ (Nat.le_refl _) (q3 hh) q4 (h5.on hb')⟩
    have HLn : Hid (∀ j (hj : j < s.length), (Tx.ty s[j].ty).length ≤ 1000 ∧ s[j].name.size ≤ 1000 ∧ (s[j].has = true → (Tx.val tx s[j].dflt).length ≤ 135000000000) ∧ (Tx.col tx s[j]).length ≤ 135000002000) := fun j hj => by
      obtain ⟨q1, q2, q3, q4⟩ := hall _ (List.getElem_mem hj)
      have := ty_len s[j].ty 1 q1
      exact ⟨by omega, q2, fun hh => val_short hP.len (q3 hh) (Nat.le_refl _) q4, col_short hP.len q1 q2 q3 q4⟩
    obtain ⟨n, hn⟩ : ∃ n, n = s.length := ⟨_, rfl⟩
    have HN := Lib.hid hn
    have hnI : (n : Int) ≤ 16 := by omega
    rw [← hn] at HB0 HK0 HC ⊢
    clear hx hwf hn hl hcp h0 h16 hce hall
    go_enter Tryz.func12, Tryz.ntmps12
    go_wp2_with fail
    refine HC.out.mono ?_
    rintro e w1 ⟨rfl, hb1⟩
    have hk1 := blk_on HK0.out hb1 (blk_lt HK0.out)
    have y0 : w1.cell? ⟨w.heap.size, 0, none⟩ = some (.slice p n c) := blk_cell hk1 0
    have HB1 := Lib.hid (HB0.out.trans (hb1.mono HB0.out.size))
    clear hb1 hk1 HK0 HB0 HC
    go_wp2_with fail
    go_loopw [5, 16] (fun v5 v16 wr => ∃ (j : Nat) (T : Array UInt8), j ≤ n ∧ v16 = .int .i64 (j : Nat) ∧ v5 = .string ⟨T⟩ ∧ Hid (ByteArray.mk T = ⟨(jt (Tx.col tx) s j).toArray⟩) ∧ Hid (Below w.heap.size w wr)) (fun _ v16 _ => n - (intOf v16).toNat)
    case atStart => exact ⟨0, _, Nat.zero_le _, rfl, rfl, rfl, HB1⟩
    case round =>
      obtain ⟨j, T, hj, rfl, rfl, HT, HB⟩ := hrel
      have hjI : (j : Int) ≤ 16 := by omega
      have hTl : T.size ≤ 140000000000000 := by
        have h2 := jt_len (Tx.col tx) s j 135000002000 (fun i hi hij => (HLn.out i hi).2.2.2)
        have h3 : T.size = (jt (Tx.col tx) s j).length := by have := congrArg (fun b : ByteArray => b.data.size) HT.out; simpa using this
        have h4 : j ≤ 16 := by omega
        have h5 := Nat.mul_le_mul_right (135000002000 + 2) h4
        omega
      by_cases hlt : j < n
      · have f1 : (j : Int) < (n : Int) := by omega
        have hjx : j < s.length := by have := HN.out; omega
        obtain ⟨bx, ox, kx, tp, tn, tc, vk, vi, vb, vt, vp, vn, vc, rfl, hbx, h9, hct, hcv⟩ := HI.out j hjx wr HB.out
        obtain ⟨l1, l2, l3, -⟩ := HLn.out j hjx
        have hN := jt_next (Tx.col tx) s j hjx
        have hcol : Tx.col tx s[j] = s[j].name.data.toList ++ 32 :: (Tx.ty s[j].ty ++ (if s[j].has then 32 :: 61 :: 32 :: Tx.val tx s[j].dflt else [])) := rfl
        obtain ⟨nm, hnm⟩ : ∃ x, x = s[j].name := ⟨_, rfl⟩
        obtain ⟨has, hhas⟩ : ∃ x, x = s[j].has := ⟨_, rfl⟩
        obtain ⟨X, hX⟩ : ∃ X, X = (Tx.ty s[j].ty).toArray := ⟨_, rfl⟩
        obtain ⟨Y, hY⟩ : ∃ X, X = (Tx.val tx s[j].dflt).toArray := ⟨_, rfl⟩
        have hXl : X.size ≤ 1000 := by rw [hX, List.size_toArray]; exact l1
        rw [← hX] at hct
        rw [← hY, ← hhas] at hcv
        rw [← hnm] at h9 l2 hcol
        rw [← hhas] at h9 l3 hcol
        have hYl : has = true → Y.size ≤ 135000000000 := fun h => by rw [hY, List.size_toArray]; exact l3 h
        obtain ⟨W1, hW1⟩ : ∃ W, W = wr.alloc (.cells #[.string nm, .int .i64 kx, .slice tp tn tc, .bool has, .int .i64 vk, .int .i64 vi, .float .f64 vb, .string vt, .slice vp vn vc] 50) := ⟨_, rfl⟩
        have hbw : Below wr.heap.size wr W1 := by rw [hW1]; exact (Below.refl _ _).alloc (Nat.le_refl _) _
        have hk1 : W1.heap[wr.heap.size]? = some (.cells #[.string nm, .int .i64 kx, .slice tp tn tc, .bool has, .int .i64 vk, .int .i64 vi, .float .f64 vb, .string vt, .slice vp vn vc] 50 (0, 0)) := by rw [hW1]; exact blk_new wr _
        have HBx := Lib.hid (HB.out.trans (hbw.mono HB.out.size))
        have HCt : Hid (∀ w'', Below W1.heap.size W1 w'' → Calls Tryz.prog 32 #[.agg #[.int .i64 kx, .slice tp tn tc]] w'' fun e w3 => e = .returned (.string ⟨X⟩) ∧ Below w''.heap.size w'' w3) := fun w'' hb => hct w'' (hbw.trans (hb.mono hbw.size))
        have HCv : Hid (has = true → ∀ w'', Below W1.heap.size W1 w'' → Calls Tryz.prog 36 #[.agg #[.int .i64 vk, .int .i64 vi, .float .f64 vb, .string vt, .slice vp vn vc]] w'' fun e w3 => e = .returned (.string ⟨Y⟩) ∧ Below w''.heap.size w'' w3) := fun hh w'' hb => hcv hh w'' (hbw.trans (hb.mono hbw.size))
        obtain ⟨a0, a1, a2, a3, a4, a5, a6, a7, a8⟩ := h9
        have HK1 := Lib.hid hk1
        have HW1 := Lib.hid hW1
        have hE : ∀ T2 : Array UInt8, ByteArray.mk T2 = ⟨(jt (Tx.col tx) s j ++ (if j = 0 then [] else [44, 32])).toArray⟩ → (has = false → ByteArray.mk T2 ++ ((nm ++ ByteArray.mk #[32]) ++ ByteArray.mk X) = ⟨(jt (Tx.col tx) s (j + 1)).toArray⟩) ∧ (has = true → (ByteArray.mk T2 ++ ((nm ++ ByteArray.mk #[32]) ++ ByteArray.mk X)) ++ (ByteArray.mk #[32, 61, 32] ++ ByteArray.mk Y) = ⟨(jt (Tx.col tx) s (j + 1)).toArray⟩) := fun T2 h2 => by
          have e1 : (#[32] : Array UInt8) = [32].toArray := rfl
          have e2 : (#[32, 61, 32] : Array UInt8) = [32, 61, 32].toArray := rfl
          have e3 : nm = ⟨nm.data.toList.toArray⟩ := by cases nm; simp
          rw [h2, e3, e1, e2, hX, hY, cat21, cat21, cat21, cat21, cat21, hN, hcol]
          refine ⟨fun hh => ?_, fun hh => ?_⟩
          · rw [hh]; simp
          · rw [hh]; simp
        have hT := HT.out
        clear hct hcv hbw hk1 hW1 hcol hN hX hY hnm hhas l1 l3 HI HLn
        have HZ : Hid (∃ T2 : Array UInt8, T2.size ≤ T.size + 2 ∧ ByteArray.mk T2 = ⟨(jt (Tx.col tx) s j ++ (if j = 0 then [] else [44, 32])).toArray⟩ ∧ ((¬ (0 : Int) < (j : Int) ∧ decide ((0 : Int) < (j : Int)) = false ∧ decide (0 < j) = false ∧ ByteArray.mk T = ⟨T2⟩) ∨ ((0 : Int) < (j : Int) ∧ decide ((0 : Int) < (j : Int)) = true ∧ decide (0 < j) = true ∧ ByteArray.mk T ++ ByteArray.mk #[44, 32] = ⟨T2⟩))) := by
          by_cases hj0 : j = 0
          · exact ⟨T, by omega, by rw [hT, if_pos hj0, List.append_nil], .inl ⟨by omega, decide_eq_false (by omega), decide_eq_false (by omega), rfl⟩⟩
          · refine ⟨T ++ #[44, 32], by simp, ?_, .inr ⟨by omega, decide_eq_true (by omega), decide_eq_true (by omega), ?_⟩⟩
            · have e2 : (#[44, 32] : Array UInt8) = [44, 32].toArray := rfl
              have h3 : ByteArray.mk (T ++ #[44, 32]) = ByteArray.mk T ++ ByteArray.mk #[44, 32] := by
                apply ByteArray.ext; simp
              rw [h3, hT, e2, cat21, if_neg hj0]
            · apply ByteArray.ext; simp
        obtain ⟨T2, hT2l, hT2, hor⟩ := HZ.out
        have HE := Lib.hid (hE T2 hT2)
        clear hE hT HZ hT2 hbx hjx
        have k1 : ¬ 9223372036854775807 < T.size + 2 := by omega
        have k2 : ¬ 9223372036854775807 < nm.size + 1 := by omega
        have k3 : ¬ 9223372036854775807 < nm.size + 1 + X.size := by omega
        have k4 : ¬ 9223372036854775807 < T2.size + (nm.size + 1 + X.size) := by omega
        have k5 : has = true → ¬ 9223372036854775807 < 3 + Y.size := fun h => by have := hYl h; omega
        have k6 : has = true → ¬ 9223372036854775807 < T2.size + (nm.size + 1 + X.size) + (3 + Y.size) := fun h => by have := hYl h; omega
        have f0 : ∀ z : Ext W1, z.val.cell? ⟨wr.heap.size, 0, none⟩ = some (.string nm) := fun z => cell_on z.2 (blk_cell HK1.out 0)
        have f2 : ∀ z : Ext W1, z.val.cell? ⟨wr.heap.size, 1, none⟩ = some (.int .i64 kx) := fun z => cell_on z.2 (blk_cell HK1.out 1)
        have f3 : ∀ z : Ext W1, z.val.cell? ⟨wr.heap.size, 2, none⟩ = some (.slice tp tn tc) := fun z => cell_on z.2 (blk_cell HK1.out 2)
        rcases hor with ⟨g0, g1, g2, g3⟩ | ⟨g0, g1, g2, g3⟩
        all_goals
          go_wp2_with fail
          rw [← HW1.out]
          refine wp_region_plan (u := W1) [(true, 0), (true, 1), (true, 2), (true, 3), (true, 4), (true, 5), (false, 6), (true, 7), (true, 8), (true, 9)] (by kernel_rfl) (by kernel_rfl) (fun c d v a w h => by cases d <;> exact h) ?_
          iterate 6
            refine wpPlan_look ?_
            simp only [List.getElem?_cons_succ, List.getElem?_cons_zero]
            apply Exists.intro
            refine ⟨fun z => ?_, ?_⟩
            · go_simp
              try with_reducible rfl
            try simp only [Act.put, List.setIfInBounds_toArray, List.set_cons_zero, List.set_cons_succ]
          refine wpPlan_go ?_
          simp only [List.getElem?_cons_succ, List.getElem?_cons_zero]
          intro K hK
          go_simp
          refine (HCt.out _ (Below.refl W1.heap.size W1).drew).mono ?_
          rintro e w2 ⟨rfl, hb2⟩
          have hB2 : Below W1.heap.size W1 w2 := (Below.refl W1.heap.size W1).drew.trans hb2
          have HB2 := Lib.hid hB2
          refine hK _ _ ⟨⟨_, hB2⟩, rfl⟩ ?_
          clear hK K hb2 hB2 f0 f2 f3
          try simp only [Act.put, List.setIfInBounds_toArray, List.set_cons_zero, List.set_cons_succ]
          iterate 3
            refine wpPlan_look ?_
            simp only [List.getElem?_cons_succ, List.getElem?_cons_zero]
            apply Exists.intro
            refine ⟨fun z => ?_, ?_⟩
            · go_simp
              try with_reducible rfl
            try simp only [Act.put, List.setIfInBounds_toArray, List.set_cons_zero, List.set_cons_succ]
          refine wpPlan_end ?_
          have hk2 := blk_on HK1.out HB2.out (blk_lt HK1.out)
          have y3 : w2.cell? ⟨wr.heap.size, 3, none⟩ = some (.bool has) := blk_cell hk2 3
          have y4 : w2.cell? ⟨wr.heap.size, 4, none⟩ = some (.int .i64 vk) := blk_cell hk2 4
          have y5 : w2.cell? ⟨wr.heap.size, 5, none⟩ = some (.int .i64 vi) := blk_cell hk2 5
          have y6 : w2.cell? ⟨wr.heap.size, 6, none⟩ = some (.float .f64 vb) := blk_cell hk2 6
          have y7 : w2.cell? ⟨wr.heap.size, 7, none⟩ = some (.string vt) := blk_cell hk2 7
          have y8 : w2.cell? ⟨wr.heap.size, 8, none⟩ = some (.slice vp vn vc) := blk_cell hk2 8
          have HBa := Lib.hid (HBx.out.trans (HB2.out.mono HBx.out.size))
          clear hk2 HCt
          cases has with
          | false =>
            have HE2 := Lib.hid (HE.out.1 rfl)
            clear HE HCv k5 k6 hYl
            obtain ⟨T3, hT3⟩ : ∃ T3 : ByteArray, T3 = ByteArray.mk T2 ++ ((nm ++ ByteArray.mk #[32]) ++ ByteArray.mk X) := ⟨_, rfl⟩
            rw [← hT3] at HE2
            go_wp2
            go_roundw
            case rel => exact ⟨j + 1, _, by omega, by go_num, rfl, (show _ = _ from hT3.symm.trans HE2.out), HBa⟩
            case measure => simp [intOf]; omega
          | true =>
            have HE2 := Lib.hid (HE.out.2 rfl)
            have k5 := k5 rfl
            have k6 := k6 rfl
            have HV := Lib.hid (HCv.out rfl w2 HB2.out)
            clear HE HCv hYl
            go_wp2_with fail
            refine HV.out.mono ?_
            rintro e w3 ⟨rfl, hb3⟩
            have HB3 := Lib.hid (HBa.out.trans (hb3.mono HBa.out.size))
            clear hb3 HV
            go_wp2
            go_roundw
            case rel => exact ⟨j + 1, _, by omega, by go_num, rfl, HE2, HB3⟩
            case measure => simp [intOf]; omega
      · have f1 : ¬ (j : Int) < (n : Int) := by omega
        have HR : Hid (Told21 w 0 (Tx.sch tx s) (.returned (.tuple #[.string ⟨T⟩, .int .i64 0])) wr) := by
          have h3 : ByteArray.mk T = ⟨(Tx.sch tx s).toArray⟩ := by
            rw [HT.out, jt_all _ _ _ (by have := HN.out; omega)]
            rfl
          rw [h3]
          exact told_ok HB.out
        clear HI HLn
        go_wp2
        go_ret2
        exact HR.out
  · obtain ⟨er, her⟩ : ∃ er, er = Sch.err s := ⟨_, rfl⟩
    rw [← her] at HC h0 ⊢
    obtain ⟨n, hn⟩ : ∃ n, n = s.length := ⟨_, rfl⟩
    rw [← hn] at HC HB0 ⊢
    have g0 : ((er : Int) != 0) = true := by rw [bne_iff_ne]; omega
    have g1 : ((er : Int) == 0) = false := by rw [beq_eq_false_iff_ne]; omega
    have HNo : Hid (∀ w', Below w.heap.size w w' → Told21 w er (Tx.sch tx s) (.returned (.tuple #[.string ⟨#[]⟩, .int .i64 (er : Nat)])) w') := fun w' hb => told_no h0 hb
    clear h0 her hn hx hwf hl hcp HK0
    go_enter Tryz.func12, Tryz.ntmps12
    go_wp2_with fail
    refine HC.out.mono ?_
    rintro e w1 ⟨rfl, hb1⟩
    have HB1 := Lib.hid (HB0.out.trans (hb1.mono HB0.out.size))
    clear hb1 HC
    go_wp2
    go_ret2
    exact HNo.out _ HB1.out
end Go.Proofs.YtpjcmahlnnglcaaGreatDoor

/- The law TextPrints. -/
namespace Go.Proofs.YtpjcmahlnnglcaaGreatDoor
open Go.RowKit
attribute [local go_sem] run_store_float

theorem fltP21 : FltP text := ⟨fun x hx w => (refPrint_any x hx w).mono fun e w' ⟨h1, h2⟩ => ⟨h1, by rw [h2]; exact Below.refl _ _⟩, text_len⟩

set_option maxRecDepth 100000 in
set_option maxHeartbeats 16000000 in
theorem textPrints21 (tk : Int) (tp : Option Addr) (tn tc : Nat) (t : Ty) (sp : Option Addr) (sc : Nat) (s : List Col) (vk vi : Int) (vb : Nat) (vt : ByteArray) (vp : Option Addr) (vn vc : Nat) (v : V) (rp : Option Addr) (rc : Nat) (r : List V) (w : World)
    (hv : Hv w) (hT : TLies w #[.int .i64 tk, .slice tp tn tc] t) (hsl : s.length * 120 ≤ 140737488351232) (hsc : s.length ≤ sc) (hS : Cols w sp s) (hsw : ∀ c ∈ s, c.wf) (hV : VLies w #[.int .i64 vk, .int .i64 vi, .float .f64 vb, .string vt, .slice vp vn vc] v) (hvw : v.wf) (hrl : r.length ≤ 10000000) (hR : Items w rp r) (hrw : ∀ x ∈ r, x.wf) (hrt : rowErr r = 0 → (Tx.row text r).length ≤ 1099511627776) :
    Calls Tryz.prog 3 #[.agg #[.int .i64 tk, .slice tp tn tc], .agg #[.slice sp s.length sc], .agg #[.int .i64 vk, .int .i64 vi, .float .f64 vb, .string vt, .slice vp vn vc], .agg #[.slice rp r.length rc]] w fun e w' => e = .returned (.bool true) ∧ Below w.heap.size w w' := by
  obtain ⟨sl, hsl'⟩ : ∃ n, n = s.length := ⟨_, rfl⟩
  obtain ⟨rl, hrl'⟩ : ∃ n, n = r.length := ⟨_, rfl⟩
  rw [← hsl', ← hrl']
  obtain ⟨W0, hW0⟩ : ∃ W0, W0 = (((w.alloc (.cells #[.int .i64 tk, .slice tp tn tc] 24)).alloc (.cells #[.slice sp sl sc] 27)).alloc (.cells #[.int .i64 vk, .int .i64 vi, .float .f64 vb, .string vt, .slice vp vn vc] 31)).alloc (.cells #[.slice rp rl rc] 33) := ⟨_, rfl⟩
  have hb0 : Below w.heap.size w W0 := by rw [hW0]; exact ((((Below.refl _ _).alloc (Nat.le_refl _) _).alloc (by simp) _).alloc (by simp; omega) _).alloc (by simp; omega) _
  have HCells : Hid (∀ wx, Below W0.heap.size W0 wx → wx.cell? ⟨w.heap.size, 0, none⟩ = some (.int .i64 tk) ∧ wx.cell? ⟨w.heap.size, 1, none⟩ = some (.slice tp tn tc) ∧ wx.cell? ⟨w.heap.size + 1, 0, none⟩ = some (.slice sp sl sc) ∧ wx.cell? ⟨w.heap.size + 1 + 1, 0, none⟩ = some (.int .i64 vk) ∧ wx.cell? ⟨w.heap.size + 1 + 1, 1, none⟩ = some (.int .i64 vi) ∧ wx.cell? ⟨w.heap.size + 1 + 1, 2, none⟩ = some (.float .f64 vb) ∧ wx.cell? ⟨w.heap.size + 1 + 1, 3, none⟩ = some (.string vt) ∧ wx.cell? ⟨w.heap.size + 1 + 1, 4, none⟩ = some (.slice vp vn vc) ∧ wx.cell? ⟨w.heap.size + 1 + 1 + 1, 0, none⟩ = some (.slice rp rl rc)) := fun wx hx => by
    have e1 : (w.alloc (.cells #[.int .i64 tk, .slice tp tn tc] 24)).heap.size = w.heap.size + 1 := by simp
    have e2 : ((w.alloc (.cells #[.int .i64 tk, .slice tp tn tc] 24)).alloc (.cells #[.slice sp sl sc] 27)).heap.size = w.heap.size + 1 + 1 := by simp
    have e3 : (((w.alloc (.cells #[.int .i64 tk, .slice tp tn tc] 24)).alloc (.cells #[.slice sp sl sc] 27)).alloc (.cells #[.int .i64 vk, .int .i64 vi, .float .f64 vb, .string vt, .slice vp vn vc] 31)).heap.size = w.heap.size + 1 + 1 + 1 := by simp
    have k0 := blk_new w (.cells #[.int .i64 tk, .slice tp tn tc] 24)
    have k1 := blk_new (w.alloc (.cells #[.int .i64 tk, .slice tp tn tc] 24)) (.cells #[.slice sp sl sc] 27)
    have k2 := blk_new ((w.alloc (.cells #[.int .i64 tk, .slice tp tn tc] 24)).alloc (.cells #[.slice sp sl sc] 27)) (.cells #[.int .i64 vk, .int .i64 vi, .float .f64 vb, .string vt, .slice vp vn vc] 31)
    have k3 := blk_new (((w.alloc (.cells #[.int .i64 tk, .slice tp tn tc] 24)).alloc (.cells #[.slice sp sl sc] 27)).alloc (.cells #[.int .i64 vk, .int .i64 vi, .float .f64 vb, .string vt, .slice vp vn vc] 31)) (.cells #[.slice rp rl rc] 33)
    rw [e1] at k1
    rw [e2] at k2
    rw [e3] at k3
    have k0 := (blk_old _ (.cells #[.slice sp sl sc] 27) (blk_lt k0)).trans k0
    have k0 := (blk_old _ (.cells #[.int .i64 vk, .int .i64 vi, .float .f64 vb, .string vt, .slice vp vn vc] 31) (blk_lt k0)).trans k0
    have k0 := (blk_old _ (.cells #[.slice rp rl rc] 33) (blk_lt k0)).trans k0
    have k1 := (blk_old _ (.cells #[.int .i64 vk, .int .i64 vi, .float .f64 vb, .string vt, .slice vp vn vc] 31) (blk_lt k1)).trans k1
    have k1 := (blk_old _ (.cells #[.slice rp rl rc] 33) (blk_lt k1)).trans k1
    have k2 := (blk_old _ (.cells #[.slice rp rl rc] 33) (blk_lt k2)).trans k2
    rw [← hW0] at k0 k1 k2 k3
    have ht0 : W0.cell? ⟨w.heap.size, 0, none⟩ = some (.int .i64 tk) := blk_cell k0 0
    have ht1 : W0.cell? ⟨w.heap.size, 1, none⟩ = some (.slice tp tn tc) := blk_cell k0 1
    have hs0 : W0.cell? ⟨w.heap.size + 1, 0, none⟩ = some (.slice sp sl sc) := blk_cell k1 0
    have hv0 : W0.cell? ⟨w.heap.size + 1 + 1, 0, none⟩ = some (.int .i64 vk) := blk_cell k2 0
    have hv1 : W0.cell? ⟨w.heap.size + 1 + 1, 1, none⟩ = some (.int .i64 vi) := blk_cell k2 1
    have hv2 : W0.cell? ⟨w.heap.size + 1 + 1, 2, none⟩ = some (.float .f64 vb) := blk_cell k2 2
    have hv3 : W0.cell? ⟨w.heap.size + 1 + 1, 3, none⟩ = some (.string vt) := blk_cell k2 3
    have hv4 : W0.cell? ⟨w.heap.size + 1 + 1, 4, none⟩ = some (.slice vp vn vc) := blk_cell k2 4
    have hr0 : W0.cell? ⟨w.heap.size + 1 + 1 + 1, 0, none⟩ = some (.slice rp rl rc) := blk_cell k3 0
    exact ⟨cell_on hx ht0, cell_on hx ht1, cell_on hx hs0, cell_on hx hv0, cell_on hx hv1, cell_on hx hv2, cell_on hx hv3, cell_on hx hv4, cell_on hx hr0⟩
  have HHv := Lib.hid (fun w' (hb : Below W0.heap.size W0 w') => hv.on (hb0.trans (hb.mono hb0.size)) hv.size)
  have HTw := Lib.hid (fun w' (hb : Below W0.heap.size W0 w') => hb0.trans (hb.mono hb0.size))
  have HLv := Lib.hid (live21 W0 (HHv.out W0 (Below.refl _ _)))
  have HP1 := Lib.hid (fun w' (hb : Below W0.heap.size W0 w') => PrintTypeX t w' _ (HHv.out w' hb) (hT.on (HTw.out w' hb)))
  have HQ1 := Lib.hid (fun w' (hb : Below W0.heap.size W0 w') => refPrintType21 t w' _ (hT.on (HTw.out w' hb)))
  have HP2 := Lib.hid (fun w' (hb : Below W0.heap.size W0 w') => PrintSchemaX s sp sc w' (HHv.out w' hb) hsl (hS.on (HTw.out w' hb)) hsw)
  have HQ2 := Lib.hid (fun w' (hb : Below W0.heap.size W0 w') => refPrintSchema21 fltP21 s sp sc w' hsl hsc (hS.on (HTw.out w' hb)) hsw)
  have HP3 := Lib.hid (fun w' (hb : Below W0.heap.size W0 w') => PrintValueX v w' _ (HHv.out w' hb) (hV.on (HTw.out w' hb)) hvw)
  have HQ3 := Lib.hid (fun w' (hb : Below W0.heap.size W0 w') => refPrintValue21 fltP21 v hvw w' _ (hV.on (HTw.out w' hb)))
  have HP4 := Lib.hid (fun w' (hb : Below W0.heap.size W0 w') => PrintRowX r rp rc w' (HHv.out w' hb) (by omega) (hR.on (HTw.out w' hb)) hrw (fun h => by have := hrt h; omega))
  have HQ4 := Lib.hid (fun w' (hb : Below W0.heap.size W0 w') => refPrintRow21 fltP21 r rp rc w' hrl (hR.on (HTw.out w' hb)) hrw)
  rw [← hsl'] at HP2 HQ2
  rw [← hrl'] at HP4 HQ4
  unfold PrnR at HP1 HP2 HP3 HP4
  unfold Told21 at HQ1 HQ2 HQ3 HQ4
  obtain ⟨f1, hf1⟩ : ∃ f, f = Ty.check 1 t := ⟨_, rfl⟩
  obtain ⟨T1, hT1⟩ : ∃ T : ByteArray, T = ⟨(if f1 = 0 then Tx.ty t else []).toArray⟩ := ⟨_, rfl⟩
  rw [← hf1, ← hT1] at HP1 HQ1
  obtain ⟨f2, hf2⟩ : ∃ f, f = Sch.err s := ⟨_, rfl⟩
  obtain ⟨T2, hT2⟩ : ∃ T : ByteArray, T = ⟨(if f2 = 0 then Tx.sch text s else []).toArray⟩ := ⟨_, rfl⟩
  rw [← hf2, ← hT2] at HP2 HQ2
  obtain ⟨f3, hf3⟩ : ∃ f, f = chk 1 v := ⟨_, rfl⟩
  obtain ⟨T3, hT3⟩ : ∃ T : ByteArray, T = ⟨(if f3 = 0 then Tx.val text v else []).toArray⟩ := ⟨_, rfl⟩
  rw [← hf3, ← hT3] at HP3 HQ3
  obtain ⟨f4, hf4⟩ : ∃ f, f = rowErr r := ⟨_, rfl⟩
  obtain ⟨T4, hT4⟩ : ∃ T : ByteArray, T = ⟨(if f4 = 0 then Tx.row text r else []).toArray⟩ := ⟨_, rfl⟩
  rw [← hf4, ← hT4] at HP4 HQ4
  have HW0 := Lib.hid hW0
  have HB0 := Lib.hid hb0
  clear hW0 hb0 hT hS hV hR hv hsl hsc hrl hsw hvw hrw hrt hf1 hf2 hf3 hf4 hT1 hT2 hT3 hT4 hsl' hrl'
  go_enter Tryz.func3, Tryz.ntmps3
  go_wp2_with fail
  rw [← HW0.out]
  clear HW0
  refine HLv.out.mono ?_
  rintro e x0 ⟨rfl, hb⟩
  have HY0 : Hid (Below W0.heap.size W0 x0) := hb
  clear hb HLv
  obtain ⟨t0, t1, s0, v0, v1, v2, v3, v4, r0⟩ := HCells.out _ HY0.out
  have HX := Lib.hid (HP1.out _ HY0.out)
  clear HP1
  go_wp2_with fail
  refine HX.out.mono ?_
  rintro e y1 ⟨rfl, hb⟩
  have HY1 := Lib.hid (HY0.out.trans (hb.mono HY0.out.size))
  clear hb HX HY0 t0 t1 s0 v0 v1 v2 v3 v4 r0
  obtain ⟨t0, t1, s0, v0, v1, v2, v3, v4, r0⟩ := HCells.out _ HY1.out
  have HX := Lib.hid (HQ1.out _ HY1.out)
  clear HQ1
  go_wp2_with fail
  refine HX.out.mono ?_
  rintro e y2 ⟨rfl, hb⟩
  have HY2 := Lib.hid (HY1.out.trans (hb.mono HY1.out.size))
  clear hb HX HY1 t0 t1 s0 v0 v1 v2 v3 v4 r0
  obtain ⟨t0, t1, s0, v0, v1, v2, v3, v4, r0⟩ := HCells.out _ HY2.out
  have HX := Lib.hid (HP2.out _ HY2.out)
  clear HP2
  go_wp2_with fail
  refine HX.out.mono ?_
  rintro e y3 ⟨rfl, hb⟩
  have HY3 := Lib.hid (HY2.out.trans (hb.mono HY2.out.size))
  clear hb HX HY2 t0 t1 s0 v0 v1 v2 v3 v4 r0
  obtain ⟨t0, t1, s0, v0, v1, v2, v3, v4, r0⟩ := HCells.out _ HY3.out
  have HX := Lib.hid (HQ2.out _ HY3.out)
  clear HQ2
  go_wp2_with fail
  refine HX.out.mono ?_
  rintro e y4 ⟨rfl, hb⟩
  have HY4 := Lib.hid (HY3.out.trans (hb.mono HY3.out.size))
  clear hb HX HY3 t0 t1 s0 v0 v1 v2 v3 v4 r0
  obtain ⟨t0, t1, s0, v0, v1, v2, v3, v4, r0⟩ := HCells.out _ HY4.out
  have HX := Lib.hid (HP3.out _ HY4.out)
  clear HP3
  go_wp2_with fail
  refine HX.out.mono ?_
  rintro e y5 ⟨rfl, hb⟩
  have HY5 := Lib.hid (HY4.out.trans (hb.mono HY4.out.size))
  clear hb HX HY4 t0 t1 s0 v0 v1 v2 v3 v4 r0
  obtain ⟨t0, t1, s0, v0, v1, v2, v3, v4, r0⟩ := HCells.out _ HY5.out
  have HX := Lib.hid (HQ3.out _ HY5.out)
  clear HQ3
  go_wp2_with fail
  refine HX.out.mono ?_
  rintro e y6 ⟨rfl, hb⟩
  have HY6 := Lib.hid (HY5.out.trans (hb.mono HY5.out.size))
  clear hb HX HY5 t0 t1 s0 v0 v1 v2 v3 v4 r0
  obtain ⟨t0, t1, s0, v0, v1, v2, v3, v4, r0⟩ := HCells.out _ HY6.out
  have HX := Lib.hid (HP4.out _ HY6.out)
  clear HP4
  go_wp2_with fail
  refine HX.out.mono ?_
  rintro e y7 ⟨rfl, hb⟩
  have HY7 := Lib.hid (HY6.out.trans (hb.mono HY6.out.size))
  clear hb HX HY6 t0 t1 s0 v0 v1 v2 v3 v4 r0
  obtain ⟨t0, t1, s0, v0, v1, v2, v3, v4, r0⟩ := HCells.out _ HY7.out
  have HX := Lib.hid (HQ4.out _ HY7.out)
  clear HQ4
  go_wp2_with fail
  refine HX.out.mono ?_
  rintro e y8 ⟨rfl, hb⟩
  have HY8 := Lib.hid (HY7.out.trans (hb.mono HY7.out.size))
  clear hb HX HY7 t0 t1 s0 v0 v1 v2 v3 v4 r0
  have HE := Lib.hid (HB0.out.trans (HY8.out.mono HB0.out.size))
  go_wp2
  go_ret
  exact ⟨rfl, HE.out⟩
end Go.Proofs.YtpjcmahlnnglcaaGreatDoor
