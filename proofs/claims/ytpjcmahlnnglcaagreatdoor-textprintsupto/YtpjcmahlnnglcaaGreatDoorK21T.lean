/- The landed text: appendValues. -/
import Derived.Test.YtpjcmahlnnglcaaGreatDoorK21S
namespace Go.Proofs.YtpjcmahlnnglcaaGreatDoor
open Go.RowKit
attribute [local go_sem] run_store_float

/-- a string onto bytes of the call's own, at a step of a region that draws -/
theorem step_ontoX {B : Nat} {v : Value} {xs : List UInt8} {t : ByteArray} {w : World} (hown : Has w B v xs) (hlen : xs.length + t.size ≤ 140737488355328) (hB : B ≤ w.heap.size)
    {ops : Array Oper} {o : Oper} {a : Act} {K : Act → World → Prop} {Q : Exit → Act → World → Prop} {E : Prop} (s x : Operand)
    (ht : o.type = 58) (hg : o.guard = none) (hop : o.op = Op.call { callee := Callee.builtin Builtin.append, args := #[s, x], argTypes := #[58, 9] })
    (hs : a.eval s = v) (hx : a.eval x = .string t)
    (hK : ∀ q cap W ys, Hid (ys = xs ++ t.data.toList) → Grew w B v W (.slice q ys.length cap) ys → K (a.put o.dst (.slice q ys.length cap)) W) :
    if Region.wanted o (yielded ops a.tmps) = true then Oper.wp Tryz.prog o a w K Q else E := by
  have hw : Region.wanted o (yielded ops a.tmps) = true := by simp [Region.wanted, hg]
  rw [if_pos hw]
  obtain ⟨q, cap, W, ⟨hr⟩, hm, ha, hb3⟩ := onto_str B v xs t w hown hlen hB
  unfold Oper.wp
  have he : (execOp a.eval o).run Tryz.prog w = .ok (.value (.slice q (xs ++ t.data.toList).length cap)) W := by
    simp only [execOp, hop, resolve, invoke, builtin]
    simp [hs, hx, ht, hr, Result.andThen]
  rw [he]
  exact hK q cap W (xs ++ t.data.toList) (Lib.hid rfl) ⟨hm, ha, hb3⟩

theorem text_len (x : Nat) : (text x).length ≤ 100 := by
  unfold text
  split
  · simp
  split
  · simp
  split
  · simp
  split
  · simp
  split
  · rename_i h
    unfold decB at h
    simp only [Bool.and_eq_true, decide_eq_true_eq] at h
    have := itoa_len (Flt.trunc x) (by omega)
    omega
  · rw [List.length_cons, Hex.digits_length]; omega

/-- what is asked of appendValue, at a value -/
def AppV (x : V) : Prop := ∀ (w0 w : World) (u : Array Value) (v : Value) (xs : List UInt8), Hv w0 → VLies w0 u x → Below w0.heap.size w0 w → Has w w0.heap.size v xs → xs.length + (Tx.val text x).length ≤ 140000000000000 → Calls Tryz.prog 38 #[v, .agg u] w (GrxV w w0.heap.size (xs ++ Tx.val text x))

/-- the text of the first j values -/
def vjn (ys : List V) (j : Nat) : Tx.Bs := Tx.join ((ys.take j).map (Tx.val text))
theorem vjn_next (ys : List V) (j : Nat) (h : j < ys.length) : vjn ys (j + 1) = vjn ys j ++ ((if j = 0 then [] else [44, 32]) ++ Tx.val text ys[j]) := by
  have := itd_next text ys j h
  unfold itd at this
  rw [List.cons_append] at this
  exact (List.cons.inj this).2
theorem vjn_end (ys : List V) (j : Nat) (h : ys.length ≤ j) : vjn ys j = Tx.join (ys.map (Tx.val text)) := by unfold vjn; rw [List.take_of_length_le h]
theorem vjn_len (ys : List V) (j : Nat) : (vjn ys j).length ≤ (Tx.join (ys.map (Tx.val text))).length := by
  have := join_take (ys.map (Tx.val text)) j
  unfold vjn
  rw [List.map_take]
  exact this

set_option maxRecDepth 100000 in
set_option maxHeartbeats 4000000 in
theorem appendValuesX (ys : List V) (hn : ys.length ≤ 2199023255552) (ih : ∀ x ∈ ys, AppV x) (p : Option Addr) (c : Nat) (w0 w : World) (hv0 : Hv w0) (hx : ∀ j (hj : j < ys.length), ∃ u', VLies w0 u' ys[j] ∧ Item w0 p j u') (hb0 : Below w0.heap.size w0 w) (v : Value) (xs : List UInt8) (hv : Has w w0.heap.size v xs) (hlen : xs.length + (Tx.join (ys.map (Tx.val text))).length ≤ 140000000000000) :
    Calls Tryz.prog 41 #[v, .slice p ys.length c] w (GrxV w w0.heap.size (xs ++ Tx.join (ys.map (Tx.val text)))) := by
  have hBs := hb0.size
  have t2 : (ByteArray.mk #[44, 32]).size = 2 := rfl
  obtain ⟨q4, cap4, rfl, -, -⟩ := hv.at
  have HV := Lib.hid hv
  have HB0 := Lib.hid hb0
  have HX := Lib.hid hx
  have HIH := Lib.hid ih
  have HH0 := Lib.hid hv0
  obtain ⟨n, hnn⟩ : ∃ n, n = ys.length := ⟨_, rfl⟩
  have HN := Lib.hid hnn
  rw [← hnn] at hn ⊢
  have hnI : (n : Int) ≤ 2199023255552 := by omega
  have HLen : Hid (∀ j, xs.length + (vjn ys j).length ≤ 140000000000000) := fun j => by have := vjn_len ys j; omega
  have HEnd : Hid (∀ j, n ≤ j → xs ++ vjn ys j = xs ++ Tx.join (ys.map (Tx.val text))) := fun j hj => by rw [vjn_end ys j (by omega)]
  obtain ⟨L, hL⟩ : ∃ L, L = xs ++ Tx.join (ys.map (Tx.val text)) := ⟨_, rfl⟩
  rw [← hL] at HEnd ⊢
  have HZ0 : Hid (xs = xs ++ vjn ys 0) := by show _ = _; simp [vjn, Tx.join]
  clear hv hb0 hx ih hv0 hnn hlen hL
  go_enter Tryz.func41, Tryz.ntmps41
  go_wp2_with fail
  go_loopw [0, 9] (fun v0 v9 wr => ∃ (j : Nat) (zs : List UInt8) (q : Option Addr) (cap : Nat), j ≤ n ∧ v9 = .int .i64 j ∧ v0 = .slice q zs.length cap ∧ Hid (zs = xs ++ vjn ys j ∧ Grx w w0.heap.size wr (.slice q zs.length cap) zs)) (fun _ v9 _ => n - (intOf v9).toNat)
  case atStart => exact ⟨0, xs, q4, cap4, by omega, rfl, rfl, HZ0.out, Grx.refl HV.out⟩
  case round =>
    obtain ⟨j, zs, q, cap, hj, rfl, rfl, HL⟩ := hrel
    have hbr : Below w0.heap.size w0 wr := HB0.out.trans (HL.out.2.below hBs)
    by_cases hlt : j < n
    · have hltT : j < ys.length := by have := HN.out; omega
      obtain ⟨ux, hvx, hix⟩ := HX.out j hltT
      obtain ⟨bx, ox, kx, ix, fx, tx, qx, nx, cx, rfl, _, rfl, a0, a1, a2, a3, a4⟩ := (hix.on hbr).lies
      unfold cells5 at hvx
      have hj1 : (j : Int) < (n : Int) := by omega
      obtain ⟨wa, hwa⟩ : ∃ wa, wa = wr.alloc (.cells #[.int .i64 kx, .int .i64 ix, .float .f64 fx, .string tx, .slice qx nx cx] 31) := ⟨_, rfl⟩
      have hba : Below wr.heap.size wr wa := by rw [hwa]; exact (Below.refl _ _).alloc (Nat.le_refl _) _
      have hblk : wa.heap[wr.heap.size]? = some (.cells #[.int .i64 kx, .int .i64 ix, .float .f64 fx, .string tx, .slice qx nx cx] 31 (0, 0)) := by rw [hwa]; exact blk_new wr _
      have HBlk := Lib.hid hblk
      have HHa := Lib.hid (HL.out.2.has.on hba)
      have HGa := Lib.hid (HL.out.2.on hba)
      have hBa : w0.heap.size ≤ wa.heap.size := Nat.le_trans hbr.size hba.size
      have hzl : zs.length ≤ 140000000000000 := by rw [HL.out.1, List.length_append]; exact HLen.out j
      have hl1 := HLen.out (j + 1)
      have hnx := vjn_next ys j hltT
      have HC : Hid (∀ w' v' l, Below w0.heap.size w0 w' → Has w' w0.heap.size v' l → l.length + (Tx.val text (ys[j]'hltT)).length ≤ 140000000000000 → Calls Tryz.prog 38 #[v', .agg #[.int .i64 kx, .int .i64 ix, .float .f64 fx, .string tx, .slice qx nx cx]] w' (GrxV w' w0.heap.size (l ++ Tx.val text (ys[j]'hltT)))) := fun w' v' l h1 h2 h3 => HIH.out _ (List.getElem_mem hltT) w0 w' _ v' l HH0.out hvx h1 h2 h3
      have hWa := Lib.hid hwa
      have HBr := Lib.hid (HB0.out.trans (HGa.out.below hBs))
      obtain ⟨tt, htt⟩ : ∃ tt, tt = Tx.val text (ys[j]'hltT) := ⟨_, rfl⟩
      rw [← htt] at HC hnx
      clear hvx hix hwa htt
      by_cases hj0 : j = 0
      · have g0 : ¬ (0 : Int) < (j : Int) := by omega
        have g1 : decide ((0 : Int) < (j : Int)) = false := decide_eq_false g0
        have g2 : decide (0 < j) = false := decide_eq_false (by omega)
        rw [if_pos hj0, List.nil_append] at hnx
        have HZ : Hid (zs ++ tt = xs ++ vjn ys (j + 1)) := by show _ = _; rw [HL.out.1, hnx, List.append_assoc]
        have hzt : zs.length + tt.length ≤ 140000000000000 := by have := congrArg List.length HZ.out; rw [List.length_append, List.length_append] at this; omega
        have d0 : wa.cell? ⟨wr.heap.size, 0, none⟩ = some (.int .i64 kx) := blk_cell hblk 0
        have d1 : wa.cell? ⟨wr.heap.size, 1, none⟩ = some (.int .i64 ix) := blk_cell hblk 1
        have d2 : wa.cell? ⟨wr.heap.size, 2, none⟩ = some (.float .f64 fx) := blk_cell hblk 2
        have d3 : wa.cell? ⟨wr.heap.size, 3, none⟩ = some (.string tx) := blk_cell hblk 3
        have d4 : wa.cell? ⟨wr.heap.size, 4, none⟩ = some (.slice qx nx cx) := blk_cell hblk 4
        have HCC := Lib.hid (HC.out wa _ _ HBr.out HHa.out hzt)
        clear hnx hj0 HL hblk hba hbr hl1 HX HIH
        go_wp2_with fail
        rw [← hWa.out]
        refine HCC.out.mono ?_
        intro e w4 hh
        obtain ⟨q6, cap6, he6, hg6⟩ := hh.open
        subst he6
        have HG6 := Lib.hid (HGa.out.trans hg6)
        obtain ⟨l6, hl6⟩ : ∃ l6, l6 = zs ++ tt := ⟨_, rfl⟩
        rw [← hl6] at HG6 HZ ⊢
        clear hh hg6 hl6 HCC
        go_wp2
        go_roundw
        case rel => exact ⟨j + 1, l6, q6, cap6, by omega, by go_num, rfl, HZ.out, HG6.out⟩
        case measure => simp [intOf]; omega
      · have g0 : (0 : Int) < (j : Int) := by omega
        have g1 : decide ((0 : Int) < (j : Int)) = true := decide_eq_true g0
        have g2 : decide (0 < j) = true := decide_eq_true (by omega)
        rw [if_neg hj0] at hnx
        have HZ : Hid (zs ++ [44, 32] ++ tt = xs ++ vjn ys (j + 1)) := by show _ = _; rw [HL.out.1, hnx]; simp only [List.append_assoc]
        have hzt : zs.length + 2 + tt.length ≤ 140000000000000 := by have := congrArg List.length HZ.out; rw [List.length_append, List.length_append, List.length_append] at this; simp only [List.length_cons, List.length_nil] at this; omega
        have d0 : wa.cell? ⟨wr.heap.size, 0, none⟩ = some (.int .i64 kx) := blk_cell hblk 0
        clear hnx hj0 HL hba hbr hl1 HX HIH hblk
        go_wp2_with (first
          | (at_builtin; rw [← hWa.out]; refine wp_ontoS (B := w0.heap.size) (t := ⟨#[44, 32]⟩) HHa.out (by rw [show (ByteArray.mk #[44, 32]).size = 2 from rfl]; omega) hBa rfl rfl rfl rfl rfl ?_; intro ys5 q5 cap5 W5 HY5 hH5 ha5 hb5
             have hgx := Grx.of ⟨hH5, ha5, hb5⟩ HHa.out
             have HG5 := Lib.hid (HGa.out.trans hgx)
             have hk5 := hgx.blk HBlk.out (by decide)
             have e0 : W5.cell? ⟨wr.heap.size, 0, none⟩ = some (.int .i64 kx) := blk_cell hk5 0
             have e1 : W5.cell? ⟨wr.heap.size, 1, none⟩ = some (.int .i64 ix) := blk_cell hk5 1
             have e2 : W5.cell? ⟨wr.heap.size, 2, none⟩ = some (.float .f64 fx) := blk_cell hk5 2
             have e3 : W5.cell? ⟨wr.heap.size, 3, none⟩ = some (.string tx) := blk_cell hk5 3
             have e4 : W5.cell? ⟨wr.heap.size, 4, none⟩ = some (.slice qx nx cx) := blk_cell hk5 4
             clear hH5 ha5 hb5 hgx hk5)
          | fail)
        have hyl : ys5.length + tt.length ≤ 140000000000000 := by
          rw [HY5.out, List.length_append]
          show zs.length + 2 + tt.length ≤ _
          exact hzt
        refine (HC.out W5 _ _ (HB0.out.trans (HG5.out.below hBs)) HG5.out.has hyl).mono ?_
        intro e w4 hh
        obtain ⟨q6, cap6, he6, hg6⟩ := hh.open
        subst he6
        have HG6 := Lib.hid (HG5.out.trans hg6)
        obtain ⟨l6, hl6⟩ : ∃ l6, l6 = ys5 ++ tt := ⟨_, rfl⟩
        have HZ6 : Hid (l6 = xs ++ vjn ys (j + 1)) := by show _ = _; rw [hl6, HY5.out]; exact HZ.out
        rw [← hl6] at HG6 ⊢
        clear hh hg6 hl6 HC
        go_wp2
        go_roundw
        case rel => exact ⟨j + 1, l6, q6, cap6, by omega, by go_num, rfl, HZ6.out, HG6.out⟩
        case measure => simp [intOf]; omega
    · have hjn : ¬ (j : Int) < (n : Int) := by omega
      have HE : Hid (L = zs) := by
        show _ = _
        rw [HL.out.1]; exact (HEnd.out j (by omega)).symm
      have HG := Lib.hid HL.out.2
      clear HL hbr
      go_wp2
      go_ret
      rw [HE.out]
      exact ⟨q, cap, rfl, HG.out⟩
end Go.Proofs.YtpjcmahlnnglcaaGreatDoor
