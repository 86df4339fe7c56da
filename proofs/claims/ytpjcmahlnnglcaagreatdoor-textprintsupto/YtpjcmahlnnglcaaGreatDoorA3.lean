/- WT21D, WT21E: put together. -/
import Derived.Test.YtpjcmahlnnglcaaGreatDoorWT21C

/- The document's valued. -/
namespace Go.Proofs.YtpjcmahlnnglcaaGreatDoor
open Go.RowKit
attribute [local go_sem] run_store_float

/-- what is asked of the document's Print of floats -/
structure FltP (tx : Nat → Tx.Bs) : Prop where
  print : ∀ (x : Nat), x < 18446744073709551616 → ∀ w : World, Calls Tryz.prog 66 #[.float .f64 x] w fun e w' => e = .returned (.string ⟨(tx x).toArray⟩) ∧ Below w.heap.size w w'
  len : ∀ x, (tx x).length ≤ 100

set_option maxRecDepth 100000 in
set_option maxHeartbeats 4000000 in
theorem refValued21 {tx : Nat → Tx.Bs} (hP : FltP tx) : ∀ (v : V) (d : Nat) (w : World) (u : Array Value), 1 ≤ d → chk d v = 0 → v.wf → VLies w u v → Calls Tryz.prog 36 #[.agg u] w fun e w' => e = .returned (.string ⟨(Tx.val tx v).toArray⟩) ∧ Below w.heap.size w w' := by
  intro v
  refine V.ind (P := fun v => ∀ (d : Nat) (w : World) (u : Array Value), 1 ≤ d → chk d v = 0 → v.wf → VLies w u v → Calls Tryz.prog 36 #[.agg u] w fun e w' => e = .returned (.string ⟨(Tx.val tx v).toArray⟩) ∧ Below w.heap.size w w') ?_ v
  intro k i b t xs ih d w u hd1 hd hw hx
  have hsh := val_short hP.len hd hd1 hw
  obtain ⟨p, c, rfl, hxl, hxc, hxi⟩ := hx.open
  unfold cells5
  obtain ⟨hd4, ho, h3, h4, -, h6⟩ := Sch.chk_open hd
  obtain ⟨hk, hi, hb, ht, hn0, h1, h7⟩ := Sch.own_open ho
  rw [V.wf_mk] at hw
  obtain ⟨-, hwi, hwb, -, hwx⟩ := hw
  obtain ⟨n, hn⟩ : ∃ n, n = xs.length := ⟨_, rfl⟩
  rw [← hn]
  have HN := Lib.hid hn
  clear hn
  obtain ⟨W0, hW0⟩ : ∃ W0, w.alloc (.cells #[.int .i64 k, .int .i64 i, .float .f64 b, .string t, .slice p n c] 31) = W0 := ⟨_, rfl⟩
  have hb0 : Below w.heap.size w W0 := by rw [← hW0]; exact (Below.refl _ _).alloc (Nat.le_refl _) _
  have hbk : W0.heap[w.heap.size]? = some (.cells #[.int .i64 k, .int .i64 i, .float .f64 b, .string t, .slice p n c] 31) := by rw [← hW0]; exact blk_new w _
  have c0 : W0.cell? ⟨w.heap.size, 0, none⟩ = some (.int .i64 k) := blk_cell hbk 0
  have c1 : W0.cell? ⟨w.heap.size, 1, none⟩ = some (.int .i64 i) := blk_cell hbk 1
  have c2 : W0.cell? ⟨w.heap.size, 2, none⟩ = some (.float .f64 b) := blk_cell hbk 2
  have c3 : W0.cell? ⟨w.heap.size, 3, none⟩ = some (.string t) := blk_cell hbk 3
  have c4 : W0.cell? ⟨w.heap.size, 4, none⟩ = some (.slice p n c) := blk_cell hbk 4
  have HW0 := Lib.hid hW0
  have HB0 := Lib.hid hb0
  clear hW0 hbk hx hb0
  rcases Tx.word_cases hk with rfl | rfl | rfl | rfl | rfl | rfl | rfl
  · rw [Tx.val_one]
    rcases h1 rfl with rfl | rfl
    · go_enter Tryz.func36, Tryz.ntmps36
      go_wp2
      go_ret
      rw [HW0.out]
      exact ⟨rfl, HB0.out⟩
    · go_enter Tryz.func36, Tryz.ntmps36
      go_wp2
      go_ret
      rw [HW0.out]
      exact ⟨rfl, HB0.out⟩
  · have HD := Lib.hid (refDigits21 i.natAbs i (Nat.le_refl _) hwi W0)
    rw [Tx.val_two]
    clear ih hxi hd
    go_enter Tryz.func36, Tryz.ntmps36
    go_wp2_with fail
    rw [HW0.out]
    refine HD.out.mono ?_
    rintro e w1 ⟨rfl, hb1⟩
    have HB1 := Lib.hid (HB0.out.trans (hb1.mono HB0.out.size))
    clear hb1 HD
    go_wp2
    go_ret
    exact ⟨rfl, HB1.out⟩
  · have HD := Lib.hid (hP.print b hwb W0)
    have hl := hP.len b
    rw [Tx.val_three]
    have HE : Hid (ByteArray.mk #[126] ++ ByteArray.mk (tx b).toArray = ⟨(126 :: tx b).toArray⟩) := by
      show _ = _
      have e1 : (#[126] : Array UInt8) = [126].toArray := rfl
      rw [e1, cat21]
      rfl
    obtain ⟨T, hT⟩ : ∃ T, T = (tx b).toArray := ⟨_, rfl⟩
    have hts : T.size ≤ 100 := by rw [hT, List.size_toArray]; exact hl
    rw [← hT] at HD HE
    have k1 : ¬ 9223372036854775807 < 1 + T.size := by omega
    clear ih hxi hd hT hl
    go_enter Tryz.func36, Tryz.ntmps36
    go_wp2_with fail
    rw [HW0.out]
    refine HD.out.mono ?_
    rintro e w1 ⟨rfl, hb1⟩
    have HB1 := Lib.hid (HB0.out.trans (hb1.mono HB0.out.size))
    clear hb1 HD
    go_wp2
    go_ret
    rw [HE.out]
    exact ⟨rfl, HB1.out⟩
  · have HD := Lib.hid (refQuoted21 t (by omega) 34 W0)
    rw [Tx.val_four]
    clear ih hxi hd
    go_enter Tryz.func36, Tryz.ntmps36
    go_wp2_with fail
    rw [HW0.out]
    refine HD.out.mono ?_
    rintro e w1 ⟨rfl, hb1⟩
    have HB1 := Lib.hid (HB0.out.trans (hb1.mono HB0.out.size))
    clear hb1 HD
    go_wp2
    go_ret
    exact ⟨rfl, HB1.out⟩
  · have HD := Lib.hid (refQuoted21 t (by omega) 39 W0)
    rw [Tx.val_five]
    clear ih hxi hd
    go_enter Tryz.func36, Tryz.ntmps36
    go_wp2_with fail
    rw [HW0.out]
    refine HD.out.mono ?_
    rintro e w1 ⟨rfl, hb1⟩
    have HB1 := Lib.hid (HB0.out.trans (hb1.mono HB0.out.size))
    clear hb1 HD
    go_wp2
    go_ret
    exact ⟨rfl, HB1.out⟩
  · match xs, h7 rfl with
    | [], _ =>
      rw [Tx.val_none]
      obtain rfl : n = 0 := HN.out
      clear ih hxi hd
      go_enter Tryz.func36, Tryz.ntmps36
      go_wp2
      go_ret
      rw [HW0.out]
      exact ⟨rfl, HB0.out⟩
    | [x], _ =>
      obtain rfl : n = 1 := HN.out
      obtain ⟨ux, hvx, hix⟩ := hxi 0 (by simp)
      have HC := Lib.hid (ih x (by simp) (d + 1) W0 _ (by omega) (h6 x (by simp)) (hwx x (by simp)) (hvx.on HB0.out))
      obtain ⟨bx, ox, kx, ex, fx, gx, qx, nx, cx, rfl, hbx, rfl, a0, a1, a2, a3, a4⟩ := (hix.on HB0.out).lies
      rw [Nat.zero_mul, Nat.add_zero] at a0 a1 a2 a3 a4
      unfold cells5 at HC
      rw [← HW0.out] at a0 a1 a2 a3 a4 HC HB0
      have HE : Hid ((ByteArray.mk #[115, 111, 109, 101, 40] ++ ByteArray.mk (Tx.val tx x).toArray) ++ ByteArray.mk #[41] = ⟨(Tx.val tx (.mk 6 i b t [x])).toArray⟩) := by
        show _ = _
        have e1 : (#[115, 111, 109, 101, 40] : Array UInt8) = [115, 111, 109, 101, 40].toArray := rfl
        have e2 : (#[41] : Array UInt8) = [41].toArray := rfl
        rw [e1, e2, cat21, cat21, Tx.val_some]
        simp
      rw [Tx.val_some] at hsh
      obtain ⟨T, hT⟩ : ∃ T, T = (Tx.val tx x).toArray := ⟨_, rfl⟩
      have hts : T.size ≤ 135000000000 := by rw [hT, List.size_toArray]; simp at hsh; omega
      rw [← hT] at HC HE
      have k1 : ¬ 9223372036854775807 < 5 + T.size := by omega
      have k2 : ¬ 9223372036854775807 < 5 + T.size + 1 := by omega
      clear ih hxi hd hT hsh hvx hix
      go_enter Tryz.func36, Tryz.ntmps36
      go_wp2_with fail
      refine HC.out.mono ?_
      rintro e w1 ⟨rfl, hb1⟩
      have HB1 := Lib.hid (HB0.out.trans (hb1.mono HB0.out.size))
      clear hb1 HC
      go_wp2
      go_ret
      rw [HE.out]
      exact ⟨rfl, HB1.out⟩
  · have hln : ∀ j, (itd tx xs j).length ≤ 135000000000 := fun j => by have := itd_len tx 7 i b t xs rfl j; omega
    have HLn := Lib.hid hln
    have HF : Hid (∀ j, xs.length ≤ j → ByteArray.mk (itd tx xs j).toArray ++ ByteArray.mk #[93] = ⟨(Tx.val tx (.mk 7 i b t xs)).toArray⟩) := fun j hj => by
      have e2 : (#[93] : Array UInt8) = [93].toArray := rfl
      rw [e2, cat21, Tx.val_list]
      unfold itd
      rw [List.take_of_length_le hj]
      rfl
    have HI : Hid (∀ j (hj : j < xs.length) w', Below w.heap.size w w' → ∃ u', (∀ w'', Below w'.heap.size w' w'' → Calls Tryz.prog 36 #[.agg u'] w'' fun e w3 => e = .returned (.string ⟨(Tx.val tx xs[j]).toArray⟩) ∧ Below w''.heap.size w'' w3) ∧ Item w' p j u') := fun j hj w' hb => by
      obtain ⟨u', q1, q2⟩ := hxi j hj
      exact ⟨u', fun w'' hb' => ih xs[j] (List.getElem_mem hj) (d + 1) w'' u' (by omega) (h6 _ (List.getElem_mem hj)) (hwx _ (List.getElem_mem hj)) (q1.on (hb.trans (hb'.mono hb.size))), q2.on hb⟩
    have HVl : Hid (∀ j (hj : j < xs.length), (Tx.val tx xs[j]).length ≤ 135000000000) := fun j hj => val_short hP.len (h6 _ (List.getElem_mem hj)) (by omega) (hwx _ (List.getElem_mem hj))
    have hnI : (n : Int) ≤ 256 := by have := HN.out; omega
    clear ih hxi hd h6 hwx hsh hln
    go_enter Tryz.func36, Tryz.ntmps36
    go_wp2_with fail
    rw [HW0.out]
    go_loopw [3, 50] (fun v3 v50 wr => ∃ (j : Nat) (T : Array UInt8), j ≤ n ∧ v50 = .int .i64 (j : Nat) ∧ v3 = .string ⟨T⟩ ∧ Hid (ByteArray.mk T = ⟨(itd tx xs j).toArray⟩) ∧ Hid (Below w.heap.size w wr)) (fun _ v50 _ => n - (intOf v50).toNat)
    case atStart => exact ⟨0, _, Nat.zero_le _, rfl, rfl, rfl, HB0⟩
    case round =>
      obtain ⟨j, T, hj, rfl, rfl, HT, HB⟩ := hrel
      have hjI : (j : Int) ≤ 256 := by omega
      have hTl : T.size ≤ 135000000000 := by
        have h2 := HLn.out j
        have h3 : T.size = (itd tx xs j).length := by have := congrArg (fun b : ByteArray => b.data.size) HT.out; simpa using this
        omega
      by_cases hlt : j < n
      · have f1 : (j : Int) < (n : Int) := by omega
        have hjx : j < xs.length := by have := HN.out; omega
        obtain ⟨u', hc, hit⟩ := HI.out j hjx wr HB.out
        obtain ⟨bx, ox, kx, ex, fx, gx, qx, nx, cx, rfl, hbx, rfl, a0, a1, a2, a3, a4⟩ := hit.lies
        unfold cells5 at hc
        have HBx := Lib.hid (HB.out.alloc HB.out.size (.cells #[.int .i64 kx, .int .i64 ex, .float .f64 fx, .string gx, .slice qx nx cx] 31))
        have HC := Lib.hid (hc (wr.alloc (.cells #[.int .i64 kx, .int .i64 ex, .float .f64 fx, .string gx, .slice qx nx cx] 31)) ((Below.refl _ _).alloc (Nat.le_refl _) _))
        have hN := itd_next tx xs j hjx
        have hlx := HVl.out j hjx
        obtain ⟨X, hX⟩ : ∃ X, X = (Tx.val tx (xs[j]'hjx)).toArray := ⟨_, rfl⟩
        have hXl : X.size ≤ 135000000000 := by rw [hX, List.size_toArray]; exact hlx
        rw [← hX] at HC
        have hT := HT.out
        clear hc hit
        by_cases hj0 : j = 0
        · have g0 : ¬ (0 : Int) < (j : Int) := by omega
          have g1 : decide ((0 : Int) < (j : Int)) = false := decide_eq_false g0
          have g2 : decide (0 < j) = false := decide_eq_false (by omega)
          have HN2 : Hid (ByteArray.mk T ++ ByteArray.mk X = ⟨(itd tx xs (j + 1)).toArray⟩) := by
            show _ = _
            rw [hT, hX, cat21, hN, if_pos hj0]; simp
          have k3 : ¬ 9223372036854775807 < T.size + X.size := by omega
          clear hT hX hN hlx hj0 hbx hjx HI HVl HF HLn
          go_wp2_with fail
          refine HC.out.mono ?_
          rintro e w1 ⟨rfl, hb1⟩
          have HB1 := Lib.hid (HBx.out.trans (hb1.mono HBx.out.size))
          clear hb1 HC
          go_wp2
          go_roundw
          case rel => exact ⟨j + 1, _, by omega, by go_num, rfl, HN2, HB1⟩
          case measure => simp [intOf]; omega
        · have g0 : (0 : Int) < (j : Int) := by omega
          have g1 : decide ((0 : Int) < (j : Int)) = true := decide_eq_true g0
          have g2 : decide (0 < j) = true := decide_eq_true (by omega)
          have k2 : ¬ 9223372036854775807 < T.size + 2 := by omega
          have HN2 : Hid ((ByteArray.mk T ++ ByteArray.mk #[44, 32]) ++ ByteArray.mk X = ⟨(itd tx xs (j + 1)).toArray⟩) := by
            show _ = _
            have e2 : (#[44, 32] : Array UInt8) = [44, 32].toArray := rfl
            rw [hT, hX, e2, cat21, cat21, hN, if_neg hj0]; simp
          have k3 : ¬ 9223372036854775807 < T.size + 2 + X.size := by omega
          clear hT hX hN hlx hj0 hbx hjx HI HVl HF HLn
          go_wp2_with fail
          refine HC.out.mono ?_
          rintro e w1 ⟨rfl, hb1⟩
          have HB1 := Lib.hid (HBx.out.trans (hb1.mono HBx.out.size))
          clear hb1 HC
          go_wp2
          go_roundw
          case rel => exact ⟨j + 1, _, by omega, by go_num, rfl, HN2, HB1⟩
          case measure => simp [intOf]; omega
      · have f1 : ¬ (j : Int) < (n : Int) := by omega
        have HE := Lib.hid (HF.out j (by have := HN.out; omega))
        rw [← HT.out] at HE
        have k2 : ¬ 9223372036854775807 < T.size + 1 := by omega
        go_wp2
        go_ret
        rw [HE.out]
        exact ⟨rfl, HB.out⟩
end Go.Proofs.YtpjcmahlnnglcaaGreatDoor

/- The document's PrintType, PrintValue. -/
namespace Go.Proofs.YtpjcmahlnnglcaaGreatDoor
open Go.RowKit
attribute [local go_sem] run_store_float

/-- a text, or an error -/
def Told21 (w : World) (er : Nat) (l : Tx.Bs) (e : Ending) (w' : World) : Prop := e = .returned (.tuple #[.string ⟨(if er = 0 then l else []).toArray⟩, .int .i64 (er : Nat)]) ∧ Below w.heap.size w w'
theorem told_no {w w' : World} {er : Nat} {l : Tx.Bs} (h : er ≠ 0) (hb : Below w.heap.size w w') : Told21 w er l (.returned (.tuple #[.string ⟨#[]⟩, .int .i64 (er : Nat)])) w' := by
  unfold Told21
  rw [if_neg h]
  exact ⟨rfl, hb⟩
theorem told_ok {w w' : World} {l : Tx.Bs} (hb : Below w.heap.size w w') : Told21 w 0 l (.returned (.tuple #[.string ⟨l.toArray⟩, .int .i64 0])) w' := by
  unfold Told21
  rw [if_pos rfl]
  exact ⟨rfl, hb⟩

set_option maxRecDepth 100000 in
set_option maxHeartbeats 1000000 in
theorem refPrintType21 (x : Ty) (w : World) (u : Array Value) (h : TLies w u x) : Calls Tryz.prog 10 #[.agg u] w (Told21 w (Ty.check 1 x) (Tx.ty x)) := by
  obtain ⟨k, xs⟩ := x
  obtain ⟨p, c, hu, -⟩ := h.open
  subst hu
  unfold cells2 at h ⊢
  obtain ⟨n, hn⟩ : ∃ n, n = xs.length := ⟨_, rfl⟩
  rw [← hn] at h ⊢
  have HB0 : Hid (Below w.heap.size w (w.alloc (.cells #[.int .i64 k, .slice p n c] 24))) := (Below.refl _ _).alloc (Nat.le_refl _) _
  have HC := Lib.hid (refCheckType7 (.mk k xs) _ _ (h.on HB0.out))
  have HT : Hid (Ty.check 1 (.mk k xs) = 0 → ∀ w', Below w.heap.size w w' → Calls Tryz.prog 32 #[.agg #[.int .i64 k, .slice p n c]] w' fun e w'' => e = .returned (.string ⟨(Tx.ty (.mk k xs)).toArray⟩) ∧ Below w'.heap.size w' w'') := fun hz w' hb => refTyped21 _ 1 w' _ hz (h.on hb)
  have HBk := Lib.hid (blk_new w (.cells #[.int .i64 k, .slice p n c] 24))
  generalize hL : Tx.ty (.mk k xs) = L at *
  generalize hE : Ty.check 1 (.mk k xs) = er at *
  have HNo := Lib.hid (@told_no w (er := er) (l := L))
  clear hL hE hn h
  by_cases h0 : er = 0
  · subst h0
    go_enter Tryz.func10, Tryz.ntmps10
    go_wp2_with fail
    refine HC.out.mono ?_
    rintro e w1 ⟨rfl, hb1⟩
    have HB1 := Lib.hid (HB0.out.trans (hb1.mono HB0.out.size))
    have hk1 := (hb1.block _ (by simp)).trans HBk.out
    have y0 : w1.cell? ⟨w.heap.size, 0, none⟩ = some (.int .i64 k) := blk_cell hk1 0
    have y1 : w1.cell? ⟨w.heap.size, 1, none⟩ = some (.slice p n c) := blk_cell hk1 1
    have HT1 := Lib.hid (HT.out trivial w1 HB1.out)
    clear hb1 HC hk1 HBk HT
    go_wp2_with fail
    refine HT1.out.mono ?_
    rintro e w2 ⟨rfl, hb2⟩
    have HB2 := Lib.hid (HB1.out.trans (hb2.mono HB1.out.size))
    clear hb2 HT1 y0 y1
    go_wp2
    go_ret2
    exact told_ok HB2.out
  · have g0 : ((er : Int) != 0) = true := by rw [bne_iff_ne]; omega
    have g1 : ((er : Int) == 0) = false := by rw [beq_eq_false_iff_ne]; omega
    have HNo2 : Hid (∀ w', Below w.heap.size w w' → Told21 w er L (.returned (.tuple #[.string ⟨#[]⟩, .int .i64 (er : Nat)])) w') := fun w' hb => HNo.out w' h0 hb
    clear h0 HNo HT HBk
    go_enter Tryz.func10, Tryz.ntmps10
    go_wp2_with fail
    refine HC.out.mono ?_
    rintro e w1 ⟨rfl, hb1⟩
    have HB1 := Lib.hid (HB0.out.trans (hb1.mono HB0.out.size))
    clear hb1 HC
    go_wp2
    go_ret2
    exact HNo2.out _ HB1.out

set_option maxRecDepth 100000 in
set_option maxHeartbeats 1000000 in
theorem refPrintValue21 {tx : Nat → Tx.Bs} (hP : FltP tx) (x : V) (hw : x.wf) (w : World) (u : Array Value) (h : VLies w u x) : Calls Tryz.prog 14 #[.agg u] w (Told21 w (chk 1 x) (Tx.val tx x)) := by
  obtain ⟨k, i, b, t, xs⟩ := x
  obtain ⟨p, c, hu, -⟩ := h.open
  subst hu
  unfold cells5 at h ⊢
  obtain ⟨n, hn⟩ : ∃ n, n = xs.length := ⟨_, rfl⟩
  rw [← hn] at h ⊢
  have HB0 : Hid (Below w.heap.size w (w.alloc (.cells #[.int .i64 k, .int .i64 i, .float .f64 b, .string t, .slice p n c] 31))) := (Below.refl _ _).alloc (Nat.le_refl _) _
  have HC := Lib.hid (refCheck6 (.mk k i b t xs) _ _ (h.on HB0.out))
  have HT : Hid (chk 1 (.mk k i b t xs) = 0 → ∀ w', Below w.heap.size w w' → Calls Tryz.prog 36 #[.agg #[.int .i64 k, .int .i64 i, .float .f64 b, .string t, .slice p n c]] w' fun e w'' => e = .returned (.string ⟨(Tx.val tx (.mk k i b t xs)).toArray⟩) ∧ Below w'.heap.size w' w'') := fun hz w' hb => refValued21 hP _ 1 w' _ (Nat.le_refl _) hz hw (h.on hb)
  have HBk := Lib.hid (blk_new w (.cells #[.int .i64 k, .int .i64 i, .float .f64 b, .string t, .slice p n c] 31))
  generalize hL : Tx.val tx (.mk k i b t xs) = L at *
  generalize hE : chk 1 (.mk k i b t xs) = er at *
  have HNo := Lib.hid (@told_no w (er := er) (l := L))
  clear hL hE hn h hw
  by_cases h0 : er = 0
  · subst h0
    go_enter Tryz.func14, Tryz.ntmps14
    go_wp2_with fail
    refine HC.out.mono ?_
    rintro e w1 ⟨rfl, hb1⟩
    have HB1 := Lib.hid (HB0.out.trans (hb1.mono HB0.out.size))
    have hk1 := (hb1.block _ (by simp)).trans HBk.out
    have y0 : w1.cell? ⟨w.heap.size, 0, none⟩ = some (.int .i64 k) := blk_cell hk1 0
    have y1 : w1.cell? ⟨w.heap.size, 1, none⟩ = some (.int .i64 i) := blk_cell hk1 1
    have y2 : w1.cell? ⟨w.heap.size, 2, none⟩ = some (.float .f64 b) := blk_cell hk1 2
    have y3 : w1.cell? ⟨w.heap.size, 3, none⟩ = some (.string t) := blk_cell hk1 3
    have y4 : w1.cell? ⟨w.heap.size, 4, none⟩ = some (.slice p n c) := blk_cell hk1 4
    have HT1 := Lib.hid (HT.out trivial w1 HB1.out)
    clear hb1 HC hk1 HBk HT
    go_wp2_with fail
    refine HT1.out.mono ?_
    rintro e w2 ⟨rfl, hb2⟩
    have HB2 := Lib.hid (HB1.out.trans (hb2.mono HB1.out.size))
    clear hb2 HT1 y0 y1 y2 y3 y4
    go_wp2
    go_ret2
    exact told_ok HB2.out
  · have g0 : ((er : Int) != 0) = true := by rw [bne_iff_ne]; omega
    have g1 : ((er : Int) == 0) = false := by rw [beq_eq_false_iff_ne]; omega
    have HNo2 : Hid (∀ w', Below w.heap.size w w' → Told21 w er L (.returned (.tuple #[.string ⟨#[]⟩, .int .i64 (er : Nat)])) w') := fun w' hb => HNo.out w' h0 hb
    clear h0 HNo HT HBk
    go_enter Tryz.func14, Tryz.ntmps14
    go_wp2_with fail
    refine HC.out.mono ?_
    rintro e w1 ⟨rfl, hb1⟩
    have HB1 := Lib.hid (HB0.out.trans (hb1.mono HB0.out.size))
    clear hb1 HC
    go_wp2
    go_ret2
    exact HNo2.out _ HB1.out
end Go.Proofs.YtpjcmahlnnglcaaGreatDoor
