/- The landed text: appendQuoted, AppendBool, AppendInt. -/
import Derived.Test.YtpjcmahlnnglcaaGreatDoorK21R
import Derived.Test.YtpjcmahlnnglcaaGreatDoorK21B
import Derived.Lib.AppendIntMem
namespace Go.Proofs.YtpjcmahlnnglcaaGreatDoor
open Go.RowKit

/-- some bytes more, out of a block that was just made -/
theorem lit_at (w : World) (cs : List UInt8) (C : Array Value) (hC : C = (cellsOf cs).toArray) (hl : cs.length ≤ 1000) : At (w.alloc (.cells C 5)) (some ⟨w.heap.size, 0, none⟩) cs := by
  obtain ⟨p, cc, he, hat, -⟩ := (has_lit (B := 0) (w := w) cs (C := C) hC (Nat.zero_le _) (by omega)).at
  injection he with he
  rw [he]; exact hat
theorem wp_litG {B : Nat} {v : Value} {xs : List UInt8} {w : World} {H n : Nat} (hH : w.heap.size = H) (hown : Has w B v xs) (cs : List UInt8) {C : Array Value} (hC : C = (cellsOf cs).toArray) (hn : cs.length = n) (hn2 : n ≤ 1000) (hlen : xs.length + n ≤ 140737488355328) (hB : B ≤ w.heap.size)
    {ops : Array Oper} {rest : List Oper} {o : Oper} {a : Act} {Q : Exit → Act → World → Prop} {s x : Operand}
    (ht : o.type = 58) (hg : o.guard = none) (hop : o.op = Op.call { callee := Callee.builtin Builtin.append, args := #[s, x], argTypes := #[58, 58] })
    (hs : a.eval s = v) (hx : a.eval x = .slice (some ⟨H, 0, none⟩) n n)
    (hK : ∀ q cap W ys, Hid (ys = xs ++ cs) → Grew w B v W (.slice q ys.length cap) ys → wpList Tryz.prog ops Q rest (a.put o.dst (.slice q ys.length cap)) W) :
    wpList Tryz.prog ops Q (o :: rest) a (w.alloc (.cells C 5)) := by
  subst hH
  subst hn
  have hb : Below w.heap.size w (w.alloc (.cells C 5)) := (Below.refl _ _).alloc (Nat.le_refl _) _
  refine wp_ontoL (hown.alloc _) (lit_at w cs C hC hn2) hlen (Nat.le_trans hB hb.size) ht hg hop hs hx ?_
  intro ys q cap W hy h1 h2 h3
  exact hK q cap W ys hy (Grew.from ⟨h1, h2, h3⟩ hb hown)
theorem step_litG {B : Nat} {v : Value} {xs : List UInt8} {w : World} {H n : Nat} (hH : w.heap.size = H) (hown : Has w B v xs) (cs : List UInt8) {C : Array Value} (hC : C = (cellsOf cs).toArray) (hn : cs.length = n) (hn2 : n ≤ 1000) (hlen : xs.length + n ≤ 140737488355328) (hB : B ≤ w.heap.size)
    {ops : Array Oper} {o : Oper} {a : Act} {K : Act → World → Prop} {Q : Exit → Act → World → Prop} {E : Prop} (s x : Operand)
    (ht : o.type = 58) (hg : o.guard = none) (hop : o.op = Op.call { callee := Callee.builtin Builtin.append, args := #[s, x], argTypes := #[58, 58] })
    (hs : a.eval s = v) (hx : a.eval x = .slice (some ⟨H, 0, none⟩) n n)
    (hK : ∀ q cap W ys, Hid (ys = xs ++ cs) → Grew w B v W (.slice q ys.length cap) ys → K (a.put o.dst (.slice q ys.length cap)) W) :
    if Region.wanted o (yielded ops a.tmps) = true then Oper.wp Tryz.prog o a (w.alloc (.cells C 5)) K Q else E := by
  have hw : Region.wanted o (yielded ops a.tmps) = true := by simp [Region.wanted, hg]
  rw [if_pos hw]
  subst hH
  subst hn
  have hb : Below w.heap.size w (w.alloc (.cells C 5)) := (Below.refl _ _).alloc (Nat.le_refl _) _
  obtain ⟨q, cap, W, ⟨hr⟩, hm, ha, -, hb3⟩ := onto_all B v xs cs (some ⟨w.heap.size, 0, none⟩) cs.length _ (hown.alloc _) (lit_at w cs C hC hn2) hlen (Nat.le_trans hB hb.size)
  unfold Oper.wp
  have he : (execOp a.eval o).run Tryz.prog (w.alloc (.cells C 5)) = .ok (.value (.slice q (xs ++ cs).length cap)) W := by
    simp only [execOp, hop, resolve, invoke, builtin]
    simp [hs, hx, ht, hr, Result.andThen]
  rw [he]
  exact hK q cap W (xs ++ cs) (Lib.hid rfl) (Grew.from ⟨hm, ha, hb3⟩ hb hown)

set_option maxHeartbeats 1000000 in
theorem inAppendBoolX (b : Bool) (B : Nat) (w : World) (v : Value) (xs : List UInt8) (hv : Has w B v xs) (hB : B ≤ w.heap.size) (hl : xs.length ≤ 140000000000000) : Calls Tryz.prog 108 #[v, .bool b] w (GrxV w B (xs ++ if b then [116, 114, 117, 101] else [102, 97, 108, 115, 101])) := by
  have HV := Lib.hid hv
  have t4 : (ByteArray.mk #[116, 114, 117, 101]).size = 4 := rfl
  have t5 : (ByteArray.mk #[102, 97, 108, 115, 101]).size = 5 := rfl
  clear hv
  cases b with
  | true =>
    go_enter Tryz.func108, Tryz.ntmps108
    go_wp2_with (first
      | (at_builtin; refine wp_ontoS (B := B) (t := ⟨#[116, 114, 117, 101]⟩) HV.out (by rw [show (ByteArray.mk #[116, 114, 117, 101]).size = 4 from rfl]; omega) hB rfl rfl rfl rfl rfl ?_; intro ys q4 cap4 W HY hH4 ha4 hb4
         have HG1 := Lib.hid (Grx.of ⟨hH4, ha4, hb4⟩ HV.out)
         clear hH4 ha4 hb4)
      | fail)
    go_ret
    rw [← HY.out]
    exact ⟨q4, cap4, rfl, HG1.out⟩
  | false =>
    go_enter Tryz.func108, Tryz.ntmps108
    go_wp2_with (first
      | (at_builtin; refine wp_ontoS (B := B) (t := ⟨#[102, 97, 108, 115, 101]⟩) HV.out (by rw [show (ByteArray.mk #[102, 97, 108, 115, 101]).size = 5 from rfl]; omega) hB rfl rfl rfl rfl rfl ?_; intro ys q4 cap4 W HY hH4 ha4 hb4
         have HG1 := Lib.hid (Grx.of ⟨hH4, ha4, hb4⟩ HV.out)
         clear hH4 ha4 hb4)
      | fail)
    go_ret
    rw [← HY.out]
    exact ⟨q4, cap4, rfl, HG1.out⟩
set_option maxHeartbeats 1000000 in
theorem appendBoolX (b : Bool) (B : Nat) (w : World) (v : Value) (xs : List UInt8) (hv : Has w B v xs) (hB : B ≤ w.heap.size) (hl : xs.length ≤ 140000000000000) : Calls Tryz.prog 69 #[v, .bool b] w (GrxV w B (xs ++ if b then [116, 114, 117, 101] else [102, 97, 108, 115, 101])) := by
  have HC := Lib.hid (inAppendBoolX b B w v xs hv hB hl)
  generalize xs ++ (if b then [116, 114, 117, 101] else [102, 97, 108, 115, 101]) = L at *
  clear hv
  go_enter Tryz.func69, Tryz.ntmps69
  go_wp2_with fail
  refine HC.out.mono ?_
  intro e w1 hh
  obtain ⟨q, cap, he, hg⟩ := hh.open
  subst he
  have HG := Lib.hid hg
  clear hh hg HC
  go_wp2
  go_ret
  exact ⟨q, cap, rfl, HG.out⟩
theorem appendIntX (i : Int) (h0 : -9223372036854775808 ≤ i ∧ i ≤ 9223372036854775807) (B : Nat) (w : World) (v : Value) (xs : List UInt8) (hv : Has w B v xs) (hB : B ≤ w.heap.size) (hl : xs.length ≤ 140000000000000) (hh : Hv w) (hB7 : 7 ≤ B) : Calls Tryz.prog 70 #[v, .int .i64 i, .int .i64 10] w (GrxV w B (xs ++ Lib.itoa i)) := by
  refine (Tryz.strconv_AppendInt_10 B xs.length i h0.1 h0.2 v (cellsOf xs) w hv hB (by omega) (fun w' hb => (hh.on hb hB7).tab)).mono ?_
  rintro e w' ⟨v', rfl, hr, hb, ho⟩
  have hh2 : Has w' B v' (xs ++ Lib.itoa i) := by
    unfold Has
    rw [List.length_append]
    have e1 : cellsOf (xs ++ Lib.itoa i) = cellsOf xs ++ Lib.byteCells (Lib.itoa i) := by simp [cellsOf, Lib.byteCells]
    rw [e1]
    exact hr
  obtain ⟨q, cap, hq, -, -⟩ := hh2.at
  subst hq
  refine ⟨q, cap, rfl, hh2, hb.os, hb.tape, hb.output, hb.size, fun k o hk hc => ?_⟩
  rcases hc with hc | hc
  · exact (hb.block k hc).trans hk
  · exact ho k o hk (by simp) hc
theorem and15b_fin : ∀ v : Fin 256, bits .and .u8 (v.val : Int) 15 = ((v.val % 16 : Nat) : Int) := by decide +kernel
theorem and15b (v : Nat) (h : v < 256) : bits .and .u8 (v : Int) 15 = ((v % 16 : Nat) : Int) := and15b_fin ⟨v, h⟩
theorem dig_fin : ∀ a : Fin 16, (ByteArray.mk #[48, 49, 50, 51, 52, 53, 54, 55, 56, 57, 97, 98, 99, 100, 101, 102])[a.val]'a.isLt = Tx.hexd a.val := by decide +kernel
theorem digH (a : Nat) (h : a < 16) : (ByteArray.mk #[48, 49, 50, 51, 52, 53, 54, 55, 56, 57, 97, 98, 99, 100, 101, 102])[a]'h = Tx.hexd a := dig_fin ⟨a, h⟩
set_option maxRecDepth 100000 in
set_option maxHeartbeats 4000000 in
theorem appendQuotedX (q : UInt8) (hq : q = 34 ∨ q = 39) (t : ByteArray) (ht : t.size ≤ 1024) (B : Nat) (w : World) (v : Value) (xs : List UInt8) (hv : Has w B v xs) (hB : B ≤ w.heap.size) (hl : xs.length ≤ 140000000000000) : Calls Tryz.prog 72 #[v, .string t, .int .u8 (q.toNat : Int)] w (GrxV w B (xs ++ Tx.quo q t.data.toList)) := by
  obtain ⟨l, hll⟩ : ∃ l, l = t.data.toList := ⟨_, rfl⟩
  have hln : l.length = t.size := by rw [hll]; show t.data.toList.length = t.data.size; simp
  rw [← hll]
  have HLl := Lib.hid hll
  have HV := Lib.hid hv
  have htI : (t.size : Int) ≤ 1024 := by omega
  have HLn := Lib.hid hln
  have q8 : (q.toNat : Int) < 256 := by have := q.toNat_lt; omega
  have HQ := Lib.hid hq
  clear hv hll hln hq
  go_enter Tryz.func72, Tryz.ntmps72
  go_wp2_with (first
    | (at_builtin; refine wp_pushG rfl HV.out q (by omega) hB rfl rfl rfl rfl rfl rfl ?_
       intro q7 cap7 W7 zs7 HZ7 hg7
       have HG7 := Lib.hid (Grx.of hg7 HV.out)
       clear hg7)
    | fail)
  have HZ0 : Hid (zs7 = xs ++ qtd q l 0) := by show _ = _; rw [HZ7.out]; simp [qtd]
  clear HZ7
  go_loopw [0, 15] (fun v0 v15 wr => ∃ (j : Nat) (zs : List UInt8) (p : Option Addr) (cap : Nat), j ≤ t.size ∧ v15 = .int .i64 j ∧ v0 = .slice p zs.length cap ∧ Hid (zs = xs ++ qtd q l j ∧ Grx w B wr (.slice p zs.length cap) zs)) (fun _ v15 _ => t.size - (intOf v15).toNat)
  case atStart => exact ⟨0, zs7, q7, cap7, by omega, rfl, rfl, HZ0.out, HG7.out⟩
  case round =>
    obtain ⟨j, zs, p, cap, hj, rfl, rfl, HL⟩ := hrel
    have hBr : B ≤ wr.heap.size := Nat.le_trans hB HL.out.2.size
    have HHr := Lib.hid HL.out.2.has
    have hzl : zs.length ≤ 140000000010000 := by rw [HL.out.1, List.length_append]; have := qtd_len q l j; omega
    by_cases hlt : j < t.size
    · have hj1 : (j : Int) < (t.size : Int) := by omega
      have hjl : j < l.length := by have := HLn.out; omega
      have htj : t[j]'hlt = l[j]'hjl := by simp only [HLl.out]; rfl
      have hnx := qtd_next q l j hjl
      obtain ⟨c, hc⟩ : ∃ c, c = l[j]'hjl := ⟨_, rfl⟩
      rw [← hc] at htj hnx
      have HNx := Lib.hid hnx
      have c8 : (c.toNat : Int) < 256 := by have := c.toNat_lt; omega
      have c9 : (0 : Int) ≤ (c.toNat : Int) := by omega
      clear hc hnx
      by_cases hcq : c = q ∨ c = 92
      · have hes : Tx.esc q c = [92, c] := by unfold Tx.esc; rw [if_pos hcq]
        rw [hes] at HNx
        have et : ((c.toNat : Int) == (q.toNat : Int)) = true ∨ (((c.toNat : Int) == (q.toNat : Int)) = false ∧ ((c.toNat : Int) == 92) = true) := by
          by_cases h1 : c = q
          · exact .inl (by rw [h1]; exact beq_self_eq_true _)
          · refine .inr ⟨by rw [u8eq]; exact decide_eq_false h1, ?_⟩
            rcases hcq with h2 | h2
            · exact absurd h2 h1
            · rw [h2]; rfl
        clear hcq hes
        rcases et with e1 | ⟨e1, e2⟩
        all_goals
          go_wp2_with (first
            | (at_builtin; refine wp_litG (n := 2) rfl HHr.out [92, c] rfl rfl (by decide) (by omega) hBr rfl rfl rfl rfl rfl ?_
               intro q8' cap8 W8 zs8 HZ8 hg8
               have HG8 := Lib.hid (HL.out.2.trans (Grx.of hg8 HHr.out))
               clear hg8)
            | fail)
          go_roundw
          case rel => exact ⟨j + 1, zs8, q8', cap8, by omega, by go_num, rfl, by rw [HZ8.out, HL.out.1, HNx.out, List.append_assoc], HG8.out⟩
          case measure => simp [intOf]; omega
      · have e1 : ((c.toNat : Int) == (q.toNat : Int)) = false := by rw [u8eq]; exact decide_eq_false (fun h => hcq (.inl h))
        have e2 : ((c.toNat : Int) == 92) = false := by
          have : ((c.toNat : Int) == 92) = decide (c = 92) := u8eq (d := 92)
          rw [this]; exact decide_eq_false (fun h => hcq (.inr h))
        have HPl := Lib.hid (fun w' => isPlainX (c.toNat : Int) w')
        by_cases hpl : 32 ≤ c.toNat ∧ c.toNat ≤ 126
        · have hes : Tx.esc q c = [c] := by unfold Tx.esc; rw [if_neg hcq, if_pos hpl]
          rw [hes] at HNx
          have hrp : rPla (c.toNat : Int) = true := by unfold rPla; exact decide_eq_true (by omega)
          rw [hrp] at HPl
          clear hcq hes hpl hrp
          go_wp2_with fail
          refine (HPl.out _).mono ?_
          rintro e w1 ⟨rfl, hw1⟩
          rw [hw1]
          clear hw1 w1 HPl
          go_wp2_with (first
            | (at_builtin; refine wp_pushG rfl HHr.out c (by omega) hBr rfl rfl rfl rfl rfl rfl ?_
               intro q8' cap8 W8 zs8 HZ8 hg8
               have HG8 := Lib.hid (HL.out.2.trans (Grx.of hg8 HHr.out))
               clear hg8)
            | fail)
          go_roundw
          case rel => exact ⟨j + 1, zs8, q8', cap8, by omega, by go_num, rfl, by rw [HZ8.out, HL.out.1, HNx.out, List.append_assoc], HG8.out⟩
          case measure => simp [intOf]; omega
        · have hes : Tx.esc q c = [92, 120, Tx.hexd (c.toNat / 16), Tx.hexd (c.toNat % 16)] := by unfold Tx.esc; rw [if_neg hcq, if_neg hpl]
          rw [hes] at HNx
          have hrp : rPla (c.toNat : Int) = false := by unfold rPla; exact decide_eq_false (by omega)
          rw [hrp] at HPl
          have hand : bits .and .u8 (c.toNat : Int) 15 = ((c.toNat % 16 : Nat) : Int) := and15b c.toNat (by omega)
          have hdiv : (c.toNat : Int) / 16 = ((c.toNat / 16 : Nat) : Int) := by omega
          obtain ⟨a, ha⟩ : ∃ a, a = c.toNat / 16 := ⟨_, rfl⟩
          obtain ⟨b, hb⟩ : ∃ b, b = c.toNat % 16 := ⟨_, rfl⟩
          rw [← ha] at hdiv HNx
          rw [← hb] at hand HNx
          have a1 : a < 16 := by omega
          have b1 : b < 16 := by omega
          have a2 : (0 : Int) ≤ (a : Int) := by omega
          have b2 : (0 : Int) ≤ (b : Int) := by omega
          have a3 : (a : Int) < 16 := by omega
          have b3 : (b : Int) < 16 := by omega
          have a4 : a < (ByteArray.mk #[48, 49, 50, 51, 52, 53, 54, 55, 56, 57, 97, 98, 99, 100, 101, 102]).size := a1
          have b4 : b < (ByteArray.mk #[48, 49, 50, 51, 52, 53, 54, 55, 56, 57, 97, 98, 99, 100, 101, 102]).size := b1
          have a5 : (ByteArray.mk #[48, 49, 50, 51, 52, 53, 54, 55, 56, 57, 97, 98, 99, 100, 101, 102])[a]'a4 = Tx.hexd a := digH a a1
          have b5 : (ByteArray.mk #[48, 49, 50, 51, 52, 53, 54, 55, 56, 57, 97, 98, 99, 100, 101, 102])[b]'b4 = Tx.hexd b := digH b b1
          clear hcq hes hpl hrp ha hb
          go_wp2_with fail
          refine (HPl.out _).mono ?_
          rintro e w1 ⟨rfl, hw1⟩
          rw [hw1]
          clear hw1 w1 HPl
          go_wp2_with fail
          go_region_law (first
            | (refine step_litG (B := B) (xs := zs) (v := .slice p zs.length cap) (w := wr.drew) (H := wr.heap.size) (n := 4) (by rfl) HHr.out.drew [92, 120, Tx.hexd a, Tx.hexd b] (by rfl) (by rfl) (by decide) (by omega) hBr (.tmp 21) (.tmp 28) (by rfl) (by rfl) (by rfl) (by rfl) (by rfl) ?_
               intro q8' cap8 W8 zs8 HZ8 hg8
               have hg8' : Grew wr B (.slice p zs.length cap) W8 (.slice q8' zs8.length cap8) zs8 := ⟨hg8.has, ⟨hg8.aside.os, hg8.aside.tape, hg8.aside.output, hg8.aside.size, hg8.aside.block⟩, hg8.fresh⟩
               have HG8 := Lib.hid (HL.out.2.trans (Grx.of hg8' HHr.out))
               clear hg8 hg8'))
          all_goals
            go_wp2
            go_roundw
            case rel => exact ⟨j + 1, zs8, q8', cap8, by omega, by go_num, rfl, by rw [HZ8.out, HL.out.1, HNx.out, List.append_assoc], HG8.out⟩
            case measure => simp [intOf]; omega
    · have hjn : ¬ (j : Int) < (t.size : Int) := by omega
      have hqe := qtd_end q l j (by have := HLn.out; omega)
      have HQe := Lib.hid hqe
      clear hqe
      go_wp2_with (first
        | (at_builtin; refine wp_pushG rfl HHr.out q (by omega) hBr rfl rfl rfl rfl rfl rfl ?_
           intro q8' cap8 W8 zs8 HZ8 hg8
           have HG8 := Lib.hid (HL.out.2.trans (Grx.of hg8 HHr.out))
           clear hg8)
        | fail)
      go_ret
      have e : xs ++ Tx.quo q l = zs8 := by rw [HZ8.out, HL.out.1, ← HQe.out, List.append_assoc]
      rw [e]
      exact ⟨q8', cap8, rfl, HG8.out⟩
end Go.Proofs.YtpjcmahlnnglcaaGreatDoor
