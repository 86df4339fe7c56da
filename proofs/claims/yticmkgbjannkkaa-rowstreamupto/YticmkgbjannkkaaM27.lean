/- K8C, K8D, K8E: put together. -/
import Derived.Test.YticmkgbjannkkaaM26

/- The landed row's writer: ints, floats, texts. -/
namespace Go.Proofs.Yticmkgbjannkkaa
open Go.RowKit

attribute [local go_sem] run_store_float

/-- more bytes, out of a string, at a step of a region that draws -/
theorem step_ontoT {B : Nat} {v : Value} {xs : List UInt8} {t : ByteArray} {w : World} (hown : Has w B v xs) (hlen : xs.length + t.size ≤ 140737488355328) (hB : B ≤ w.heap.size)
    {ops : Array Oper} {o : Oper} {a : Act} {K : Act → World → Prop} {Q : Exit → Act → World → Prop} {E : Prop} (s x : Operand)
    (ht : o.type = 28) (hg : o.guard = none) (hop : o.op = Op.call { callee := Callee.builtin Builtin.append, args := #[s, x], argTypes := #[28, 9] })
    (hs : a.eval s = v) (hx : a.eval x = .string t)
    (hK : ∀ q cap W ys, Hid (ys = xs ++ t.data.toList) → Grew w B v W (.slice q ys.length cap) ys → K (a.put o.dst (.slice q ys.length cap)) W) :
    if Region.wanted o (yielded ops a.tmps) = true then Oper.wp Try.prog o a w K Q else E := by
  have hw : Region.wanted o (yielded ops a.tmps) = true := by simp [Region.wanted, hg]
  rw [if_pos hw]
  obtain ⟨q, cap, W, ⟨hr⟩, hm, ha, hb3⟩ := onto_str B v xs t w hown hlen hB
  unfold Oper.wp
  have he : (execOp a.eval o).run Try.prog w = .ok (.value (.slice q (xs ++ t.data.toList).length cap)) W := by
    simp only [execOp, hop, resolve, invoke, builtin]
    simp [hs, hx, ht, hr, Result.andThen]
  rw [he]
  exact hK q cap W (xs ++ t.data.toList) (Lib.hid rfl) ⟨hm, ha, hb3⟩

section
variable {w : World} {B R : Nat} {most : Int} {xs : List UInt8} (h : Wtr w B R most xs) (hx : xs.length ≤ 90000000000000)
include h hx

set_option maxRecDepth 100000 in
set_option maxHeartbeats 1000000 in
theorem writeIntK (k i : Int) (hi : -9223372036854775808 ≤ i ∧ i ≤ 9223372036854775807) (b : Nat) (t : ByteArray) (p : Option Addr) (n c : Nat) : Calls Try.prog 25 #[.pointer (some ⟨R, 0, none⟩), .agg #[.int .i64 k, .int .i64 i, .float .f64 b, .string t, .slice p n c]] w fun e w' => e = .returned (.tuple #[]) ∧ Wtr w' B R most (xs ++ Leb.put (Leb.zig i)) ∧ AsW R w w' := by
  have hz : Leb.zig i < 18446744073709551616 := by unfold Leb.zig; split <;> omega
  have HZ := Lib.hid (zig_any i hi.1 hi.2)
  obtain ⟨W0, hW0⟩ : ∃ W0, W0 = w.alloc (.cells #[.int .i64 k, .int .i64 i, .float .f64 b, .string t, .slice p n c] 53) := ⟨_, rfl⟩
  have HB0 : Hid (Below w.heap.size w W0) := by rw [hW0]; exact (Below.refl _ _).alloc (Nat.le_refl _) _
  have HN := Lib.hid (numberW (Leb.zig i) hz xs (by omega) B R most W0 (h.on HB0.out))
  obtain ⟨z, hzz⟩ : ∃ z, z = Leb.zig i := ⟨_, rfl⟩
  rw [← hzz] at HZ HN ⊢
  have HW0 := Lib.hid hW0
  have hR := h.lt
  clear hi hz h hzz hW0
  go_enter Try.func25, Try.ntmps25
  go_wp2_with fail
  refine (HZ.out _).mono ?_
  rintro e w1 ⟨rfl, hw1⟩
  rw [hw1]
  clear hw1 w1
  go_wp2_with fail
  rw [← HW0.out]
  refine HN.out.mono ?_
  rintro e w2 ⟨rfl, h2, h3⟩
  have H2 := Lib.hid h2
  have H3 := Lib.hid h3
  clear h2 h3 HN
  go_wp2
  go_end0
  exact ⟨rfl, H2.out, (AsW.new hR HB0.out).trans H3.out⟩

set_option maxRecDepth 100000 in
set_option maxHeartbeats 1000000 in
theorem writeTextK (k i : Int) (b : Nat) (t : ByteArray) (ht : t.size ≤ 1024) (p : Option Addr) (n c : Nat) : Calls Try.prog 27 #[.pointer (some ⟨R, 0, none⟩), .agg #[.int .i64 k, .int .i64 i, .float .f64 b, .string t, .slice p n c]] w fun e w' => e = .returned (.tuple #[]) ∧ Wtr w' B R most (xs ++ (Leb.put t.size ++ t.data.toList)) ∧ AsW R w w' := by
  obtain ⟨W0, hW0⟩ : ∃ W0, W0 = w.alloc (.cells #[.int .i64 k, .int .i64 i, .float .f64 b, .string t, .slice p n c] 53) := ⟨_, rfl⟩
  have HB0 : Hid (Below w.heap.size w W0) := by rw [hW0]; exact (Below.refl _ _).alloc (Nat.le_refl _) _
  have hR := h.lt
  have HHw := Lib.hid h
  have d3 : W0.cell? ⟨w.heap.size, 3, none⟩ = some (.string t) := by rw [hW0]; simp
  have hs0 : W0.heap.size = w.heap.size + 1 := by rw [hW0]; simp
  have HN := Lib.hid (numberW t.size (by omega) xs (by omega) B R most W0 (h.on HB0.out))
  have hpl := Leb.put_length_le t.size
  obtain ⟨l0, hl0⟩ : ∃ z, z = Leb.put t.size := ⟨_, rfl⟩
  rw [← hl0] at HN hpl ⊢
  have hts : (t.size : Int) ≤ 1024 := by omega
  have HW0 := Lib.hid hW0
  clear h hl0 hW0
  go_enter Try.func27, Try.ntmps27
  go_wp2_with fail
  rw [← HW0.out]
  refine HN.out.mono ?_
  rintro e w2 ⟨rfl, hw2, ha2⟩
  have HH := Lib.hid hw2
  have HA2 := Lib.hid ha2
  obtain ⟨T, q, cap, h1, h2, h3, h4, h5⟩ := hw2.out
  have c1 : w2.cell? ⟨R, 1, none⟩ = some (.slice q (xs ++ l0).length cap) := blk_cell h1 1
  have e3 : w2.cell? ⟨w.heap.size, 3, none⟩ = some (.string t) := by
    rw [World.cell?_of_block (w := W0) (ha2.far HHw.out HB0.out (Nat.le_refl _) (by show w.heap.size < _; omega))]
    exact d3
  have H1 := Lib.hid h1
  have H2 := Lib.hid h2
  have H3 := Lib.hid h3
  have hB := hw2.base
  obtain ⟨ys0, hys0⟩ : ∃ ys0, ys0 = xs ++ l0 := ⟨_, rfl⟩
  have hyl : ys0.length ≤ xs.length + 10 := by rw [hys0, List.length_append]; omega
  have HY0 : Hid (xs ++ (l0 ++ t.data.toList) = ys0 ++ t.data.toList) := by show _ = _; rw [hys0, List.append_assoc]
  rw [← hys0] at c1 H1 H3 HH
  clear hw2 ha2 h1 h2 h3 HN d3 HHw hys0
  go_wp2_with fail
  go_region_law (first
    | (refine step_ontoT (B := B) (xs := ys0) (t := t) (v := .slice q ys0.length cap) (w := w2.drew) H3.out.drew (by omega) hB (.tmp 14) (.tmp 16) (by rfl) (by rfl) (by rfl) (by rfl) (by rfl) ?_
       intro q3 cap3 W ys HY hg3
       have hg3' : Grew w2 B (.slice q ys0.length cap) W (.slice q3 ys.length cap3) ys := ⟨hg3.has, ⟨hg3.aside.os, hg3.aside.tape, hg3.aside.output, hg3.aside.size, hg3.aside.block⟩, hg3.fresh⟩
       have hM := HH.out.more H1.out H2.out h4 h5 H3.out hg3'
       have e1 : W.cell? ⟨R, 1, none⟩ = some (.slice q ys0.length cap) := blk_cell hM.1 1
       have f1 : W.frozen? ⟨R, 1, none⟩ = false := blk_free hM.1 1
       have HM2 := Lib.hid hM.2
       clear hM hg3 hg3')
    | fail)
  all_goals
    go_end0
    rw [HY0.out, ← HY.out]
    exact ⟨rfl, HM2.out.1, ((AsW.new hR HB0.out).trans HA2.out).trans HM2.out.2⟩

set_option maxRecDepth 100000 in
set_option maxHeartbeats 1000000 in
theorem writeFloatK (k i : Int) (b : Nat) (hb64 : b < 18446744073709551616) (t : ByteArray) (p : Option Addr) (n c : Nat) : Calls Try.prog 26 #[.pointer (some ⟨R, 0, none⟩), .agg #[.int .i64 k, .int .i64 i, .float .f64 b, .string t, .slice p n c]] w fun e w' => e = .returned (.tuple #[]) ∧ Wtr w' B R most (xs ++ Sch.le 8 (fixB b)) ∧ AsW R w w' := by
  obtain ⟨W0, hW0⟩ : ∃ W0, W0 = w.alloc (.cells #[.int .i64 k, .int .i64 i, .float .f64 b, .string t, .slice p n c] 53) := ⟨_, rfl⟩
  have HB0 : Hid (Below w.heap.size w W0) := by rw [hW0]; exact (Below.refl _ _).alloc (Nat.le_refl _) _
  have hf := Sch.fixB_lt hb64
  have HBits := Lib.hid (realBits_any b)
  generalize fixB b = m at *
  have HS : Hid (Eight m [] m) := ⟨by simp, hf, rfl⟩
  have HH0 := Lib.hid (h.on HB0.out)
  have hR := h.lt
  have HW0 := Lib.hid hW0
  clear hf hb64 h hW0
  go_enter Try.func26, Try.ntmps26
  go_wp2_with fail
  refine (HBits.out _).mono ?_
  rintro e w1 ⟨rfl, hw1⟩
  rw [hw1]
  clear hw1 w1
  go_wp2_with fail
  rw [← HW0.out]
  clear HW0
  go_loopw [4, 8] (fun v4 v8 wr => ∃ (n : Nat) (es : List UInt8), v4 = .int .u64 n ∧ v8 = .int .i64 es.length ∧ es.length ≤ 8 ∧ n < 18446744073709551616 ∧ Hid (Eight m es n ∧ Wtr wr B R most (xs ++ es) ∧ AsW R W0 wr)) (fun _ v8 _ => 8 - (intOf v8).toNat)
  case atStart => exact ⟨m, [], rfl, rfl, by simp, HS.out.2.1, HS.out, by rw [List.append_nil]; exact HH0.out, AsW.new HH0.out.lt (Below.refl _ _)⟩
  case round =>
    obtain ⟨z, es, rfl, rfl, h8, hz, HK⟩ := hrel
    obtain ⟨ys0, hys0⟩ : ∃ ys0, ys0 = xs ++ es := ⟨_, rfl⟩
    have hyl : ys0.length = xs.length + es.length := by rw [hys0, List.length_append]
    have HY0 := Lib.hid hys0
    have HH := Lib.hid HK.out.2.1
    have HA := Lib.hid HK.out.2.2
    rw [← hys0] at HH
    clear hys0
    by_cases hlt : es.length < 8
    · have hlt' : (es.length : Int) < 8 := by omega
      have HN := Lib.hid (eight_next HK.out.1 hlt)
      have hcn : (UInt8.ofNat (z % 256)).toNat = z % 256 := by rw [UInt8.toNat_ofNat']; omega
      generalize UInt8.ofNat (z % 256) = c1 at hcn HN
      obtain ⟨T, q, cap, h1, h2, h3, h4, h5⟩ := HH.out.out
      have r1 : wr.cell? ⟨R, 1, none⟩ = some (.slice q ys0.length cap) := blk_cell h1 1
      have H1 := Lib.hid h1
      have H2 := Lib.hid h2
      have H3 := Lib.hid h3
      have hB := HH.out.base
      have HZ : Hid ((z : Int) % 256 = (c1.toNat : Int)) := by
        show _ = _
        omega
      have HYl := Lib.hid hyl
      clear HK h1 h2 h3 hcn hyl
      go_wp2_with (first
        | (at_builtin; refine wp_pushG (B := B) (xs := ys0) (v := .slice q ys0.length cap) (w := wr) rfl H3.out c1 (by have := HYl.out; omega) hB HZ.out rfl rfl rfl rfl rfl ?_
           intro q3 cap3 W ys HY hg3
           have hM := HH.out.more H1.out H2.out h4 h5 H3.out hg3
           have e1 : W.cell? ⟨R, 1, none⟩ = some (.slice q ys0.length cap) := blk_cell hM.1 1
           have f1 : W.frozen? ⟨R, 1, none⟩ = false := blk_free hM.1 1
           have HM2 := Lib.hid hM.2
           clear hM hg3))
      go_roundw
      case rel => exact ⟨z / 256, es ++ [c1], by go_num, by simp, by simp; omega, by omega, HN.out, by rw [← List.append_assoc, ← HY0.out, ← HY.out]; exact HM2.out.1, HA.out.trans HM2.out.2⟩
      case measure => simp [intOf]; omega
    · have hjn : ¬ (es.length : Int) < 8 := by omega
      have he : Sch.le 8 m = es := by
        rw [HK.out.1.2.2, show 8 - es.length = 0 by omega]
        simp [Sch.le]
      have HE : Hid (xs ++ Sch.le 8 m = ys0) := by show _ = _; rw [he, HY0.out]
      clear HK he
      go_wp2
      go_end0
      rw [HE.out]
      exact ⟨rfl, HH.out, (AsW.new hR HB0.out).trans HA.out⟩
end
end Go.Proofs.Yticmkgbjannkkaa

/- The landed row's writer: items, values. -/
namespace Go.Proofs.Yticmkgbjannkkaa
open Go.RowKit

attribute [local go_sem] run_store_float

/-- what is asked of value, at a value -/
def ValW (x : V) : Prop := ∀ (w0 w : World) (u : Array Value) (B R : Nat) (most : Int) (xs : List UInt8), VLies w0 u x → Below w0.heap.size w0 w → w0.heap.size ≤ R → Wtr w B R most xs → xs.length + (Sch.vB x).length ≤ 80000000000000 → Calls Try.prog 14 #[.pointer (some ⟨R, 0, none⟩), .agg u] w (WrA w B R most xs (Sch.vB x))

section
variable {w : World} {B R : Nat} {most : Int} {xs : List UInt8} (h : Wtr w B R most xs)
include h

set_option maxRecDepth 100000 in
set_option maxHeartbeats 1000000 in
theorem writeItemsK (k i : Int) (b : Nat) (t : ByteArray) (items : List V) (hn : items.length ≤ 256) (ih : ∀ x ∈ items, ValW x) (p : Option Addr) (c : Nat) (w0 : World) (hx : Items w0 p items) (hb0 : Below w0.heap.size w0 w) (hr0 : w0.heap.size ≤ R) (hlen : xs.length + (Leb.put items.length ++ (items.map Sch.vB).flatten).length ≤ 80000000000000) :
    Calls Try.prog 28 #[.pointer (some ⟨R, 0, none⟩), .agg #[.int .i64 k, .int .i64 i, .float .f64 b, .string t, .slice p items.length c]] w (WrA w B R most xs (Leb.put items.length ++ (items.map Sch.vB).flatten)) := by
  obtain ⟨W0, hW0⟩ : ∃ W0, W0 = w.alloc (.cells #[.int .i64 k, .int .i64 i, .float .f64 b, .string t, .slice p items.length c] 53) := ⟨_, rfl⟩
  have HB0 : Hid (Below w.heap.size w W0) := by rw [hW0]; exact (Below.refl _ _).alloc (Nat.le_refl _) _
  have hR := h.lt
  have HHw := Lib.hid h
  have HBw := Lib.hid hb0
  have hlen' : xs.length + ((Leb.put items.length).length + (items.map Sch.vB).flatten.length) ≤ 80000000000000 := by rw [← List.length_append]; exact hlen
  have d4 : W0.cell? ⟨w.heap.size, 4, none⟩ = some (.slice p items.length c) := by rw [hW0]; simp
  have hs0 : W0.heap.size = w.heap.size + 1 := by rw [hW0]; simp
  have HN := Lib.hid (numberW items.length (by omega) xs (by omega) B R most W0 (h.on HB0.out))
  have hpl := Leb.put_length_le items.length
  obtain ⟨l0, hl0⟩ : ∃ z, z = Leb.put items.length := ⟨_, rfl⟩
  rw [← hl0] at HN hpl hlen' ⊢
  have hts : (items.length : Int) ≤ 256 := by omega
  have HW0 := Lib.hid hW0
  have HX := Lib.hid hx
  have HIH := Lib.hid ih
  clear h hl0 hW0 hlen hb0 hx ih
  go_enter Try.func28, Try.ntmps28
  go_wp2_with fail
  rw [← HW0.out]
  refine HN.out.mono ?_
  rintro e w2 ⟨rfl, hw2, ha2⟩
  have HH := Lib.hid hw2
  have HA2 := Lib.hid ha2
  have e4 : w2.cell? ⟨w.heap.size, 4, none⟩ = some (.slice p items.length c) := by
    rw [World.cell?_of_block (w := W0) (ha2.far HHw.out HB0.out (Nat.le_refl _) (by show w.heap.size < _; omega))]
    exact d4
  have HA0 : Hid (AsW R w w2) := (AsW.new hR HB0.out).trans ha2
  have HZ0 : Hid (PutW most xs (l0 ++ ((items.take 0).map Sch.vB).flatten) (xs ++ l0)) := by
    show PutW _ _ _ _
    rw [List.take_zero, List.map_nil, List.flatten_nil, List.append_nil]
    exact PutW.all
  clear hw2 ha2 HN d4
  go_wp2_with fail
  clear e4
  go_loopw [15] (fun v15 wr => ∃ (j : Nat) (zs : List UInt8), j ≤ items.length ∧ v15 = .int .i64 j ∧ zs.length ≤ 80000000000000 ∧ Hid (PutW most xs (l0 ++ ((items.take j).map Sch.vB).flatten) zs ∧ Wtr wr B R most zs ∧ AsW R w wr)) (fun v15 _ => items.length - (intOf v15).toNat)
  case atStart => exact ⟨0, xs ++ l0, by omega, rfl, by rw [List.length_append]; omega, HZ0.out, HH.out, HA0.out⟩
  case round =>
    obtain ⟨j, zs, hj, rfl, hzl, HL⟩ := hrel
    have hbr : Below w0.heap.size w0 wr := HBw.out.trans (HL.out.2.2.below HHw.out hr0)
    by_cases hlt : j < items.length
    · obtain ⟨ux, hvx, hix⟩ := HX.out j hlt
      obtain ⟨bx, ox, kx, ix, fx, tx, qx, nx, cx, rfl, _, rfl, a0, a1, a2, a3, a4⟩ := (hix.on hbr).lies
      have hj1 : (j : Int) < (items.length : Int) := by omega
      obtain ⟨wa, hwa⟩ : ∃ wa, wa = wr.alloc (.cells #[.int .i64 kx, .int .i64 ix, .float .f64 fx, .string tx, .slice qx nx cx] 53) := ⟨_, rfl⟩
      have HBa : Hid (Below wr.heap.size wr wa) := by rw [hwa]; exact (Below.refl _ _).alloc (Nat.le_refl _) _
      have HAs : Hid (wa.cell? ⟨wr.heap.size, 0, none⟩ = some (.int .i64 kx) ∧ wa.cell? ⟨wr.heap.size, 1, none⟩ = some (.int .i64 ix) ∧ wa.cell? ⟨wr.heap.size, 2, none⟩ = some (.float .f64 fx) ∧ wa.cell? ⟨wr.heap.size, 3, none⟩ = some (.string tx) ∧ wa.cell? ⟨wr.heap.size, 4, none⟩ = some (.slice qx nx cx)) := by rw [hwa]; exact ⟨by simp, by simp, by simp, by simp, by simp⟩
      have HWr := Lib.hid (HL.out.2.1.on HBa.out)
      have HAa : Hid (AsW R w wa) := HL.out.2.2.trans (AsW.new HL.out.2.1.lt HBa.out)
      obtain ⟨T, q, cap, h1, -, -, -, -⟩ := HWr.out.out
      have r1 : wa.cell? ⟨R, 1, none⟩ = some (.slice q zs.length cap) := blk_cell h1 1
      have r2 : wa.cell? ⟨R, 2, none⟩ = some (.int .i64 most) := blk_cell h1 2
      have HWa := Lib.hid hwa
      have HTk := Lib.hid (Sch.flatten_take Sch.vB items j hlt)
      have HTl := Lib.hid (Sch.flatten_take_le Sch.vB items j)
      have HTl1 := Lib.hid (Sch.flatten_take_le Sch.vB items (j + 1))
      by_cases hbig : most < zs.length
      · have gb : most < (zs.length : Int) := hbig
        have HPv : Hid (PutW most xs (l0 ++ (items.map Sch.vB).flatten) zs) := by
          have h0 := HTl.out
          have hp := HL.out.1
          have hpl := hp.len
          rw [List.length_append] at hpl
          refine ⟨.inr ⟨hbig, ?_⟩, by rw [List.length_append]; omega⟩
          have : zs.length ≤ (xs ++ (l0 ++ (items.map Sch.vB).flatten)).length := by rw [List.length_append, List.length_append]; omega
          omega
        clear hvx hix hbr HL hwa HAs hbig h1 HTk HTl HTl1
        go_wp2_with fail
        rw [← HWa.out]
        go_region_law (fail)
        all_goals
          go_wp2
          go_end0
          exact ⟨zs, HPv.out, rfl, HWr.out.drew, HAa.out.trans (AsW.new HWr.out.lt (Below.refl _ _).drew)⟩
      · have gb : ¬ most < (zs.length : Int) := hbig
        have HZ : Hid (zs = xs ++ (l0 ++ ((items.take j).map Sch.vB).flatten)) := by
          rcases HL.out.1.eq with h2 | h2
          · exact h2
          · exact absurd h2.1 hbig
        have hzb : zs.length + (Sch.vB items[j]).length ≤ 80000000000000 := by
          have h1 := HTl1.out
          rw [HTk.out, List.length_append] at h1
          rw [HZ.out, List.length_append, List.length_append]
          omega
        have HC := Lib.hid (HIH.out _ (List.getElem_mem hlt) w0 wa.drew _ B R most zs hvx (hbr.trans (HBa.out.drew.mono hbr.size)) hr0 HWr.out.drew hzb)
        unfold cells5 at HC
        obtain ⟨full, hfull⟩ : ∃ l, l = Sch.vB items[j] := ⟨_, rfl⟩
        rw [← hfull] at HC HTk hzb
        obtain ⟨s0, s1, s2, s3, s4⟩ := HAs.out
        clear hvx hix hbr HL hwa hbig hfull h1 HTl HAs
        go_wp2_with fail
        rw [← HWa.out]
        clear HWa a0 a1 a2 a3 a4
        go_region_law (fail)
        all_goals
          go_wp2_with fail
          refine HC.out.mono ?_
          rintro e w3 ⟨ys2, hpv, rfl, hw3, ha3⟩
          have HN2 : Hid (PutW most xs (l0 ++ ((items.take (j + 1)).map Sch.vB).flatten) ys2 ∧ Wtr w3 B R most ys2 ∧ AsW R w w3) := by
            refine ⟨?_, hw3, (HAa.out.trans (AsW.new HWr.out.lt (Below.refl _ _).drew)).trans ha3⟩
            have e1 : xs ++ (l0 ++ ((items.take (j + 1)).map Sch.vB).flatten) = zs ++ full := by rw [HTk.out, HZ.out]; simp
            refine ⟨by rw [e1]; exact hpv.eq, ?_⟩
            have h5 := congrArg List.length e1
            have h6 : (zs ++ full).length = zs.length + full.length := List.length_append
            have h7 : (xs ++ (l0 ++ ((items.take (j + 1)).map Sch.vB).flatten)).length = xs.length + (l0 ++ ((items.take (j + 1)).map Sch.vB).flatten).length := List.length_append
            have h8 := hpv.len
            omega
          have hys : ys2.length ≤ 80000000000000 := by have := hpv.len; omega
          clear hpv hw3 ha3 HC HTk HZ s0 s1 s2 s3 s4
          go_wp2
          go_roundw
          case rel => exact ⟨j + 1, ys2, by omega, by go_num, hys, HN2.out⟩
          case measure => simp [intOf]; omega
    · have hjn : ¬ (j : Int) < (items.length : Int) := by omega
      have HPv : Hid (PutW most xs (l0 ++ (items.map Sch.vB).flatten) zs) := by
        have h1 := HL.out.1
        rw [List.take_of_length_le (by omega)] at h1
        exact h1
      have HW := Lib.hid HL.out.2.1
      have HA := Lib.hid HL.out.2.2
      clear HL hbr
      go_wp2
      go_end0
      exact ⟨zs, HPv.out, rfl, HW.out, HA.out⟩
end
end Go.Proofs.Yticmkgbjannkkaa

/- The landed row's writer: value, by the table. -/
namespace Go.Proofs.Yticmkgbjannkkaa
open Go.RowKit

attribute [local go_sem] run_store_float

set_option maxRecDepth 100000 in
set_option maxHeartbeats 1000000 in
theorem valueW_at (k : Nat) (f : FuncId) (hk : k < 8) (hf : waysW[k]? = some (.func (.func f) #[] #[])) (i : Int) (b : Nat) (t : ByteArray) (p : Option Addr) (n c : Nat) {w : World} {B R : Nat} {most : Int} {xs full : List UInt8} (h : Wtr w B R most xs)
    (hE : ∀ (args : Array Value) (w : World), (callFunc f args).run Try.prog w = .ok (.enter f args) w)
    (hc : ∀ w', Below w.heap.size w w' → Wtr w' B R most xs → Calls Try.prog f #[.pointer (some ⟨R, 0, none⟩), .agg #[.int .i64 k, .int .i64 i, .float .f64 b, .string t, .slice p n c]] w' (WrA w' B R most xs full)) :
    Calls Try.prog 14 #[.pointer (some ⟨R, 0, none⟩), .agg #[.int .i64 k, .int .i64 i, .float .f64 b, .string t, .slice p n c]] w (WrA w B R most xs full) := by
  obtain ⟨W0, hW0⟩ : ∃ W0, W0 = w.alloc (.cells #[.int .i64 k, .int .i64 i, .float .f64 b, .string t, .slice p n c] 53) := ⟨_, rfl⟩
  have HB0 : Hid (Below w.heap.size w W0) := by rw [hW0]; exact (Below.refl _ _).alloc (Nat.le_refl _) _
  have hR := h.lt
  have d0 : W0.cell? ⟨w.heap.size, 0, none⟩ = some (.int .i64 k) := by rw [hW0]; simp
  have d1 : W0.cell? ⟨w.heap.size, 1, none⟩ = some (.int .i64 i) := by rw [hW0]; simp
  have d2 : W0.cell? ⟨w.heap.size, 2, none⟩ = some (.float .f64 b) := by rw [hW0]; simp
  have d3 : W0.cell? ⟨w.heap.size, 3, none⟩ = some (.string t) := by rw [hW0]; simp
  have d4 : W0.cell? ⟨w.heap.size, 4, none⟩ = some (.slice p n c) := by rw [hW0]; simp
  have HH0 := Lib.hid (h.on HB0.out)
  obtain ⟨T, q, cap, h1, h2, -, -, -⟩ := HH0.out.out
  have c0 : W0.cell? ⟨R, 0, none⟩ = some (.slice (some ⟨T, 0, none⟩) 8 8) := blk_cell h1 0
  have ck : W0.cell? ⟨T, k, none⟩ = some (.func (.func f) #[] #[]) := (blk_cell h2 k).trans hf
  have hki : (k : Int) < 8 := by omega
  have HW0 := Lib.hid hW0
  have HC := Lib.hid hc
  have HE := Lib.hid hE
  clear h hW0 hc hE h1 h2 hf
  go_enter Try.func14, Try.ntmps14
  go_wp2_with fail
  rw [← HW0.out]
  clear HW0
  go_region_law (first
    | (refine step_callv2 (.tmp 11) (.tmp 12) (.tmp 13) 72 53 (by rfl) (by rfl) (by rfl) (by rfl) (by rfl) HE.out (HC.out _ HB0.out.drew HH0.out.drew) ?_
       rintro e w1 ⟨ys, hpv, rfl, hw1, ha1⟩
       refine ⟨_, rfl, ?_⟩
       have HP := Lib.hid hpv
       have HW1 := Lib.hid hw1
       have HA1 := Lib.hid ha1
       clear hpv hw1 ha1)
    | fail)
  all_goals
    go_end0
    exact ⟨ys, HP.out, rfl, HW1.out, (AsW.new hR HB0.out.drew).trans HA1.out⟩

theorem valueW : ∀ (x : V) (d : Nat), chk d x = 0 → x.wf → ValW x := by
  intro x
  refine V.ind (P := fun x => ∀ (d : Nat), chk d x = 0 → x.wf → ValW x) ?_ x
  rintro k i b t items ih d hc hwf w0 w u B R most xs hx hb0 hr0 hW hlen
  obtain ⟨p, c, rfl, hxl, hxc, hxi⟩ := hx.open
  obtain ⟨wk, wi, wb, wt, wx⟩ := V.wf_mk.1 hwf
  obtain ⟨hd4, ho, ht, hn, -, hcx⟩ := Sch.chk_open hc
  obtain ⟨hk, -, -, -, o5, o6, o7⟩ := Sch.own_open ho
  unfold cells5
  have all : ∀ {w : World} {full : List UInt8} {e : Ending} {w' : World}, (e = .returned (.tuple #[]) ∧ Wtr w' B R most (xs ++ full) ∧ AsW R w w') → WrA w B R most xs full e w' := fun h => ⟨_, PutW.all, h.1, h.2.1, h.2.2⟩
  have hcase : k = 1 ∨ k = 2 ∨ k = 3 ∨ k = 4 ∨ k = 5 ∨ k = 6 ∨ k = 7 := by omega
  have h45 : ∀ f : FuncId, f = 27 → k = 4 ∨ k = 5 → ∀ w, Wtr w B R most xs → Calls Try.prog f #[.pointer (some ⟨R, 0, none⟩), .agg #[.int .i64 k, .int .i64 i, .float .f64 b, .string t, .slice p items.length c]] w (WrA w B R most xs (Sch.vB (.mk k i b t items))) := by
    rintro f rfl h w hw
    have e : Sch.vB (.mk k i b t items) = Leb.put t.size ++ t.data.toList := by rw [Sch.vB_mk, Sch.vH, if_neg (by omega), if_neg (by omega), if_neg (by omega), if_pos h, if_pos (by omega), List.append_nil]
    rw [e]
    exact (writeTextK hw (by omega) k i b t ht p items.length c).mono fun _ _ h => all h
  have h67 : ∀ f : FuncId, f = 28 → k = 6 ∨ k = 7 → ∀ w, Below w0.heap.size w0 w → Wtr w B R most xs → Calls Try.prog f #[.pointer (some ⟨R, 0, none⟩), .agg #[.int .i64 k, .int .i64 i, .float .f64 b, .string t, .slice p items.length c]] w (WrA w B R most xs (Sch.vB (.mk k i b t items))) := by
    rintro f rfl h w hb hw
    have e : Sch.vB (.mk k i b t items) = Leb.put items.length ++ (items.map Sch.vB).flatten := by
      rw [Sch.vB_mk, Sch.vH, if_neg (by omega), if_neg (by omega), if_neg (by omega), if_neg (by omega), if_neg (c := k = 1 ∨ k = 2 ∨ k = 3 ∨ k = 4 ∨ k = 5) (by omega)]
      congr 1
      rcases h with h | h
      · rw [if_pos h]
        have h2 := o7 h
        have h3 : items.length = 0 ∨ items.length = 1 := by omega
        rcases h3 with h3 | h3
        · rw [h3, put_0]; rfl
        · rw [h3, put_1]; rfl
      · rw [if_neg (by omega), if_pos h]
    rw [e] at hlen ⊢
    exact writeItemsK hw k i b t items hn (fun y hy => ih y hy (d + 1) (hcx y hy) (wx y hy)) p c w0 hxi hb hr0 hlen
  rcases hcase with h | h | h | h | h | h | h
  · have e : Sch.vB (.mk k i b t items) = [UInt8.ofNat i.toNat] := by rw [Sch.vB_mk, Sch.vH, if_pos h, if_pos (.inl h), List.append_nil]
    rw [e]
    subst h
    exact valueW_at 1 24 (by omega) rfl i b t p items.length c hW (enters Try.func24 (by kernel_rfl) rfl) (fun w' _ hw => (writeBoolK hw (by omega) 1 i (o6 rfl) b t p items.length c).mono fun _ _ h => all h)
  · have e : Sch.vB (.mk k i b t items) = Leb.put (Leb.zig i) := by rw [Sch.vB_mk, Sch.vH, if_neg (by omega), if_pos h, if_pos (.inr (.inl h)), List.append_nil]
    rw [e]
    subst h
    exact valueW_at 2 25 (by omega) rfl i b t p items.length c hW (enters Try.func25 (by kernel_rfl) rfl) (fun w' _ hw => (writeIntK hw (by omega) 2 i wi b t p items.length c).mono fun _ _ h => all h)
  · have e : Sch.vB (.mk k i b t items) = Sch.le 8 (fixB b) := by rw [Sch.vB_mk, Sch.vH, if_neg (by omega), if_neg (by omega), if_pos h, if_pos (.inr (.inr (.inl h))), List.append_nil]
    rw [e]
    subst h
    exact valueW_at 3 26 (by omega) rfl i b t p items.length c hW (enters Try.func26 (by kernel_rfl) rfl) (fun w' _ hw => (writeFloatK hw (by omega) 3 i b wb t p items.length c).mono fun _ _ h => all h)
  · have h' := h45 _ rfl (.inl h)
    subst h
    exact valueW_at 4 27 (by omega) rfl i b t p items.length c hW (enters Try.func27 (by kernel_rfl) rfl) (fun w' _ hw => h' w' hw)
  · have h' := h45 _ rfl (.inr h)
    subst h
    exact valueW_at 5 27 (by omega) rfl i b t p items.length c hW (enters Try.func27 (by kernel_rfl) rfl) (fun w' _ hw => h' w' hw)
  · have h' := h67 _ rfl (.inl h)
    subst h
    exact valueW_at 6 28 (by omega) rfl i b t p items.length c hW (enters Try.func28 (by kernel_rfl) rfl) (fun w' hb hw => h' w' (hb0.trans (hb.mono hb0.size)) hw)
  · have h' := h67 _ rfl (.inr h)
    subst h
    exact valueW_at 7 28 (by omega) rfl i b t p items.length c hW (enters Try.func28 (by kernel_rfl) rfl) (fun w' hb hw => h' w' (hb0.trans (hb.mono hb0.size)) hw)
end Go.Proofs.Yticmkgbjannkkaa
