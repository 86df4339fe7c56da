/- The document's quoted. -/
import Derived.Test.YtpjcmahlnnglcaaGreatDoorA2
import Derived.Test.YtpjcmahlnnglcaaGreatDoorB01
import Derived.Test.YtpjcmahlnnglcaaGreatDoorB16
namespace Go.Proofs.YtpjcmahlnnglcaaGreatDoor
open Go.RowKit

theorem hexd_at : ∀ n : Fin 16, (#[48, 49, 50, 51, 52, 53, 54, 55, 56, 57, 97, 98, 99, 100, 101, 102] : Array UInt8).toList.getD n.val 0 = Tx.hexd n.val := by decide
theorem idx21 (n : Nat) (h : n < 16) (w : World) :
    (Instr.index 9 (.string ⟨#[48, 49, 50, 51, 52, 53, 54, 55, 56, 57, 97, 98, 99, 100, 101, 102]⟩) (.int .u8 (n : Int))).run Tryz.prog w = .ok (.int .u8 ((Tx.hexd n).toNat : Int)) w := by
  have h1 := run_index_string (P := Tryz.prog) w 9 ⟨#[48, 49, 50, 51, 52, 53, 54, 55, 56, 57, 97, 98, 99, 100, 101, 102]⟩ .u8 (n : Int) Tryz.underlying9
  rw [dif_pos ⟨by omega, by show _ < ((16 : Nat) : Int); omega⟩] at h1
  have e : ((n : Int)).toNat = n := by omega
  simp only [e] at h1
  rw [Lib.getD_at _ n (by exact h)] at h1
  have h2 := hexd_at ⟨n, h⟩
  simp only at h2
  rw [h2] at h1
  exact h1
theorem at_lit {w : World} (l : List UInt8) {C : Array Value} (hC : C = (cellsOf l).toArray) : At (w.alloc (.cells C 5)) (some ⟨w.heap.size, 0, none⟩) l := by
  subst hC
  refine .inr ⟨w.heap.size, 0, rfl, by simp, fun j hj => ?_⟩
  have hn := blk_new w (.cells (cellsOf l).toArray 5)
  unfold World.cell?
  rw [hn]
  simp [cellsOf, hj]
/-- an append of bytes, at the operation -/
theorem op_ontoL {B : Nat} {v : Value} {xs l : List UInt8} {p : Option Addr} {c : Nat} {w : World} (hown : Has w B v xs) (h : At w p l) (hlen : xs.length + l.length ≤ 140737488355328) (hB : B ≤ w.heap.size) {o : Oper} {a : Act} {K : Act → World → Prop} {Q : Exit → Act → World → Prop} (y x : Operand)
    (ht : o.type = 58) (hop : o.op = Op.call { callee := Callee.builtin Builtin.append, args := #[y, x], argTypes := #[58, 58] })
    (hs : a.eval y = v) (hx : a.eval x = .slice p l.length c)
    (hK : ∀ ys q cap W, Hid (ys = xs ++ l) → Has W B (.slice q ys.length cap) ys → Below B w W → K (a.put o.dst (.slice q ys.length cap)) W) :
    Oper.wp Tryz.prog o a w K Q := by
  obtain ⟨q, cap, W, hr, hm, ha, -, hb⟩ := onto_all B v xs l p c w hown h hlen hB
  have hr := hr.run
  have h2 := hK (xs ++ l) q cap W (Lib.hid rfl) hm (aside_low ha hown hB)
  rw [List.length_append] at hr h2
  unfold Oper.wp
  simp [execOp, hop, resolve, invoke, builtin, hs, hx, ht, hr, Result.andThen]
  exact h2

set_option maxRecDepth 100000 in
set_option maxHeartbeats 4000000 in
theorem refQuoted21 (s : ByteArray) (hs : s.size ≤ 1048576) (q : UInt8) (w : World) : Calls Tryz.prog 67 #[.string s, .int .u8 (q.toNat : Int)] w fun e w' => e = .returned (.string ⟨(Tx.quo q s.data.toList).toArray⟩) ∧ Below w.heap.size w w' := by
  have hB0 : Below w.heap.size w (w.alloc (.cells #[.int .u8 (q.toNat : Int)] 5)) := (Below.refl _ _).alloc (Nat.le_refl _) _
  have HB0 := Lib.hid hB0
  have HH0 : Hid (Has (w.alloc (.cells #[.int .u8 (q.toNat : Int)] 5)) w.heap.size (.slice (some ⟨w.heap.size, 0, none⟩) 1 1) [q]) := has_lit [q] rfl (Nat.le_refl _) (by simp)
  have hsl : s.data.toList.length = s.size := by show s.data.toList.length = s.data.size; simp
  obtain ⟨l, hl⟩ : ∃ l, l = s.data.toList := ⟨_, rfl⟩
  rw [← hl] at hsl ⊢
  have HL := Lib.hid hl
  clear hB0 hl
  go_enter Tryz.func67, Tryz.ntmps67
  go_wp2_with fail
  go_loopw [5, 6] (fun v5 v6 wr => ∃ (i : Nat) (p : Option Addr) (L : List UInt8) (cap : Nat), i ≤ s.size ∧ v6 = .int .i64 (i : Nat) ∧ v5 = .slice p L.length cap ∧ Hid (L = qtd q l i) ∧ Hid (Has wr w.heap.size (.slice p L.length cap) L) ∧ Hid (Below w.heap.size w wr)) (fun _ v6 _ => s.size - (intOf v6).toNat)
  case atStart => exact ⟨0, _, [q], 1, Nat.zero_le _, rfl, rfl, rfl, HH0, HB0⟩
  case round =>
    obtain ⟨i, p, L, cap, hi, rfl, rfl, HQ, HH, HB⟩ := hrel
    have hiI : (i : Int) ≤ 1048576 := by omega
    have hLl : L.length ≤ 4194305 := by rw [HQ.out]; have := qtd_len q l i; omega
    by_cases hlt : i < s.size
    · have f1 : (i : Int) < (s.size : Int) := by omega
      have hN := qtd_next q l i (by omega)
      have hci : s[i]'hlt = l[i]'(by omega) := by
        simp only [HL.out]
        rfl
      obtain ⟨c, hc⟩ : ∃ c, c = l[i]'(by omega) := ⟨_, rfl⟩
      rw [← hc] at hN hci
      have HN := Lib.hid hN
      clear hN hc
      have hq1 := UInt8.toNat_lt q
      have hc1 := UInt8.toNat_lt c
      have e0 : ∀ d : UInt8, c = d → ((c.toNat : Int) == (d.toNat : Int)) = true := fun d h => by rw [h]; exact beq_self_eq_true _
      have e9 : ∀ d : UInt8, c ≠ d → ((c.toNat : Int) == (d.toNat : Int)) = false := fun d h => by rw [beq_eq_false_iff_ne]; intro hc; exact h (UInt8.toNat_inj.1 (by omega))
      by_cases h1 : c = q
      · have e1 := e0 q h1
        have HE : Hid (Tx.esc q c = [92, c]) := by show _ = _; unfold Tx.esc; rw [if_pos (.inl h1)]
        have HA := Lib.hid (at_lit (w := wr) [92, c] (C := #[.int .u8 92, .int .u8 (c.toNat : Int)]) rfl)
        have HHa := Lib.hid (HH.out.on ((Below.refl wr.heap.size wr).alloc (Nat.le_refl _) (.cells #[.int .u8 92, .int .u8 (c.toNat : Int)] 5)))
        have HBa := Lib.hid (HB.out.alloc HB.out.size (.cells #[.int .u8 92, .int .u8 (c.toNat : Int)] 5))
        clear h1 e0 e9
        clear HH HB
        go_wp2_with (at_builtin; refine wp_ontoL (B := w.heap.size) (xs := L) (l := [92, c]) (p := some ⟨wr.heap.size, 0, none⟩) HHa.out HA.out (by simp; omega) HBa.out.size rfl rfl rfl rfl rfl ?_; intro ys q3 cap3 W HY hH3 ha3 hb3; have HH3 := Lib.hid hH3; have HB3 := Lib.hid (HBa.out.trans (aside_low ha3 HHa.out HBa.out.size)); clear hH3 ha3 hb3)
        go_roundw
        case rel => exact ⟨i + 1, _, ys, _, by omega, by go_num, rfl, (by show ys = _; rw [HY.out, HN.out, HE.out, HQ.out]), HH3, HB3⟩
        case measure => simp [intOf]; omega
      have e1 := e9 q h1
      by_cases h2 : c = 92
      · have e2 : ((c.toNat : Int) == 92) = true := e0 92 h2
        have HE : Hid (Tx.esc q c = [92, c]) := by show _ = _; unfold Tx.esc; rw [if_pos (.inr h2)]
        have HA := Lib.hid (at_lit (w := wr) [92, c] (C := #[.int .u8 92, .int .u8 (c.toNat : Int)]) rfl)
        have HHa := Lib.hid (HH.out.on ((Below.refl wr.heap.size wr).alloc (Nat.le_refl _) (.cells #[.int .u8 92, .int .u8 (c.toNat : Int)] 5)))
        have HBa := Lib.hid (HB.out.alloc HB.out.size (.cells #[.int .u8 92, .int .u8 (c.toNat : Int)] 5))
        clear h1 h2 e0 e9
        clear HH HB
        go_wp2_with (at_builtin; refine wp_ontoL (B := w.heap.size) (xs := L) (l := [92, c]) (p := some ⟨wr.heap.size, 0, none⟩) HHa.out HA.out (by simp; omega) HBa.out.size rfl rfl rfl rfl rfl ?_; intro ys q3 cap3 W HY hH3 ha3 hb3; have HH3 := Lib.hid hH3; have HB3 := Lib.hid (HBa.out.trans (aside_low ha3 HHa.out HBa.out.size)); clear hH3 ha3 hb3)
        go_roundw
        case rel => exact ⟨i + 1, _, ys, _, by omega, by go_num, rfl, (by show ys = _; rw [HY.out, HN.out, HE.out, HQ.out]), HH3, HB3⟩
        case measure => simp [intOf]; omega
      have e2 : ((c.toNat : Int) == 92) = false := e9 92 h2
      by_cases h3 : 32 ≤ c.toNat ∧ c.toNat ≤ 126
      · have g1 : (32 : Int) ≤ (c.toNat : Int) := by omega
        have g2 : (c.toNat : Int) ≤ 126 := by omega
        have g3 : decide ((32 : Int) ≤ (c.toNat : Int)) = true := decide_eq_true g1
        have g4 : decide ((c.toNat : Int) ≤ 126) = true := decide_eq_true g2
        have g5 : decide (32 ≤ c.toNat) = true := decide_eq_true h3.1
        have g6 : decide (c.toNat ≤ 126) = true := decide_eq_true h3.2
        have HE : Hid (Tx.esc q c = [c]) := by show _ = _; unfold Tx.esc; rw [if_neg (fun h => h.elim h1 h2), if_pos h3]
        have HA := Lib.hid (at_lit (w := wr) [c] (C := #[.int .u8 (c.toNat : Int)]) rfl)
        have HHa := Lib.hid (HH.out.on ((Below.refl wr.heap.size wr).alloc (Nat.le_refl _) (.cells #[.int .u8 (c.toNat : Int)] 5)))
        have HBa := Lib.hid (HB.out.alloc HB.out.size (.cells #[.int .u8 (c.toNat : Int)] 5))
        clear h1 h2 e0 e9
        clear HH HB
        go_wp2_with (at_builtin; refine wp_ontoL (B := w.heap.size) (xs := L) (l := [c]) (p := some ⟨wr.heap.size, 0, none⟩) HHa.out HA.out (by simp; omega) HBa.out.size rfl rfl rfl rfl rfl ?_; intro ys q3 cap3 W HY hH3 ha3 hb3; have HH3 := Lib.hid hH3; have HB3 := Lib.hid (HBa.out.trans (aside_low ha3 HHa.out HBa.out.size)); clear hH3 ha3 hb3)
        go_roundw
        case rel => exact ⟨i + 1, _, ys, _, by omega, by go_num, rfl, (by show ys = _; rw [HY.out, HN.out, HE.out, HQ.out]), HH3, HB3⟩
        case measure => simp [intOf]; omega
      have hx := idx21 (c.toNat / 16) (by omega)
      have hy := idx21 (c.toNat % 16) (by omega)
      have ex : ((c.toNat / 16 : Nat) : Int) = (c.toNat : Int) / 16 := by omega
      have ey : ((c.toNat % 16 : Nat) : Int) = (c.toNat : Int) % 16 := by omega
      rw [ex] at hx
      rw [ey] at hy
      have ew1 : IntKind.u8.wrap ((c.toNat : Int) / 16) = (c.toNat : Int) / 16 := by rw [IntKind.wrap_u8]; omega
      have et2 : (c.toNat : Int).tmod 16 = (c.toNat : Int) % 16 := Int.tmod_eq_emod_of_nonneg (by omega)
      have ew2 : IntKind.u8.wrap ((c.toNat : Int) % 16) = (c.toNat : Int) % 16 := by rw [IntKind.wrap_u8]; omega
      obtain ⟨a, ha⟩ : ∃ a, a = Tx.hexd (c.toNat / 16) := ⟨_, rfl⟩
      obtain ⟨b, hb⟩ : ∃ b, b = Tx.hexd (c.toNat % 16) := ⟨_, rfl⟩
      rw [← ha] at hx
      rw [← hb] at hy
      have HE : Hid (Tx.esc q c = [92, 120, a, b]) := by show _ = _; unfold Tx.esc; rw [if_neg (fun h => h.elim h1 h2), if_neg h3, ha, hb]
      have HA := Lib.hid (at_lit (w := wr.drew) [92, 120, a, b] (C := #[.int .u8 92, .int .u8 120, .int .u8 (a.toNat : Int), .int .u8 (b.toNat : Int)]) rfl)
      have HHa := Lib.hid (HH.out.on ((Below.refl wr.heap.size wr).drew.alloc (Nat.le_refl _) (.cells #[.int .u8 92, .int .u8 120, .int .u8 (a.toNat : Int), .int .u8 (b.toNat : Int)] 5)))
      have HBa := Lib.hid (HB.out.drew.alloc HB.out.size (.cells #[.int .u8 92, .int .u8 120, .int .u8 (a.toNat : Int), .int .u8 (b.toNat : Int)] 5))
      clear h1 h2 e0 e9 ha hb ex ey HH HB
      by_cases h4 : 32 ≤ c.toNat
      · have g3 : decide ((32 : Int) ≤ (c.toNat : Int)) = true := decide_eq_true (by omega)
        have g4 : decide ((c.toNat : Int) ≤ 126) = false := decide_eq_false (by omega)
        have g5 : decide (32 ≤ c.toNat) = true := decide_eq_true h4
        have g6 : decide (c.toNat ≤ 126) = false := decide_eq_false (by omega)
        go_wp2_with fail
        refine wp_region_planT (u := wr) [(true, 0), (true, 1), (true, 2), (true, 3), (true, 4), (true, 5), (true, 6), (true, 7), (true, 8), (false, 9), (false, 10), (true, 11)] (by kernel_rfl) (by kernel_rfl) (fun c d v a w h => by cases d <;> exact h) ?_
        iterate 9
          refine wpPlanT_look ?_
          simp only [List.getElem?_cons_succ, List.getElem?_cons_zero]
          apply Exists.intro
          refine ⟨fun z => ?_, ?_⟩
          · go_simp
            try with_reducible rfl
          try simp only [Act.put, List.setIfInBounds_toArray, List.set_cons_zero, List.set_cons_succ]
        refine wpPlanT_go ?_
        simp only [List.getElem?_cons_succ, List.getElem?_cons_zero]
        intro K hK
        go_simp
        refine hK _ _ ?_
        clear hK K
        try simp only [Act.put, List.setIfInBounds_toArray, List.set_cons_zero, List.set_cons_succ]
        refine wpPlanT_go ?_
        simp only [List.getElem?_cons_succ, List.getElem?_cons_zero]
        intro K hK
        refine op_ontoL (B := w.heap.size) (xs := L) (l := [92, 120, a, b]) (p := some ⟨wr.heap.size, 0, none⟩) (c := 4) HHa.out HA.out (by simp; omega) HBa.out.size (.tmp 20) (.tmp 29) rfl rfl rfl rfl ?_
        intro ys q3 cap3 W HY hH3 hb3
        have HH3 := Lib.hid hH3
        have HB3 := Lib.hid (HBa.out.trans hb3)
        refine hK _ _ ?_
        clear hK K hH3 hb3
        try simp only [Act.put, List.setIfInBounds_toArray, List.set_cons_zero, List.set_cons_succ]
        refine wpPlanT_look ?_
        simp only [List.getElem?_cons_succ, List.getElem?_cons_zero]
        apply Exists.intro
        refine ⟨fun z => ?_, ?_⟩
        · go_simp
          try with_reducible rfl
        try simp only [Act.put, List.setIfInBounds_toArray, List.set_cons_zero, List.set_cons_succ]
        refine wpPlanT_end ?_
        go_wp2
        go_roundw
        case rel => exact ⟨i + 1, _, ys, _, by omega, by go_num, rfl, (by show ys = _; rw [HY.out, HN.out, HE.out, HQ.out]), HH3, HB3⟩
        case measure => simp [intOf]; omega
      · have g3 : decide ((32 : Int) ≤ (c.toNat : Int)) = false := decide_eq_false (by omega)
        have g5 : decide (32 ≤ c.toNat) = false := decide_eq_false h4
        go_wp2_with fail
        refine wp_region_planT (u := wr) [(true, 0), (true, 1), (true, 2), (true, 3), (true, 4), (true, 5), (true, 6), (true, 7), (true, 8), (false, 9), (false, 10), (true, 11)] (by kernel_rfl) (by kernel_rfl) (fun c d v a w h => by cases d <;> exact h) ?_
        iterate 9
          refine wpPlanT_look ?_
          simp only [List.getElem?_cons_succ, List.getElem?_cons_zero]
          apply Exists.intro
          refine ⟨fun z => ?_, ?_⟩
          · go_simp
            try with_reducible rfl
          try simp only [Act.put, List.setIfInBounds_toArray, List.set_cons_zero, List.set_cons_succ]
        refine wpPlanT_go ?_
        simp only [List.getElem?_cons_succ, List.getElem?_cons_zero]
        intro K hK
        go_simp
        refine hK _ _ ?_
        clear hK K
        try simp only [Act.put, List.setIfInBounds_toArray, List.set_cons_zero, List.set_cons_succ]
        refine wpPlanT_go ?_
        simp only [List.getElem?_cons_succ, List.getElem?_cons_zero]
        intro K hK
        refine op_ontoL (B := w.heap.size) (xs := L) (l := [92, 120, a, b]) (p := some ⟨wr.heap.size, 0, none⟩) (c := 4) HHa.out HA.out (by simp; omega) HBa.out.size (.tmp 20) (.tmp 29) rfl rfl rfl rfl ?_
        intro ys q3 cap3 W HY hH3 hb3
        have HH3 := Lib.hid hH3
        have HB3 := Lib.hid (HBa.out.trans hb3)
        refine hK _ _ ?_
        clear hK K hH3 hb3
        try simp only [Act.put, List.setIfInBounds_toArray, List.set_cons_zero, List.set_cons_succ]
        refine wpPlanT_look ?_
        simp only [List.getElem?_cons_succ, List.getElem?_cons_zero]
        apply Exists.intro
        refine ⟨fun z => ?_, ?_⟩
        · go_simp
          try with_reducible rfl
        try simp only [Act.put, List.setIfInBounds_toArray, List.set_cons_zero, List.set_cons_succ]
        refine wpPlanT_end ?_
        go_wp2
        go_roundw
        case rel => exact ⟨i + 1, _, ys, _, by omega, by go_num, rfl, (by show ys = _; rw [HY.out, HN.out, HE.out, HQ.out]), HH3, HB3⟩
        case measure => simp [intOf]; omega
    · have f1 : ¬ (i : Int) < (s.size : Int) := by omega
      have HE : Hid (L ++ [q] = Tx.quo q l) := by show _ = _; rw [HQ.out, qtd_end q l i (by omega)]
      have HA := Lib.hid (at_lit (w := wr) [q] (C := #[.int .u8 (q.toNat : Int)]) rfl)
      have HHa := Lib.hid (HH.out.on ((Below.refl wr.heap.size wr).alloc (Nat.le_refl _) (.cells #[.int .u8 (q.toNat : Int)] 5)))
      have HBa := Lib.hid (HB.out.alloc HB.out.size (.cells #[.int .u8 (q.toNat : Int)] 5))
      clear HH HB
      go_wp2_with (at_builtin; refine wp_ontoL (B := w.heap.size) (xs := L) (l := [q]) (p := some ⟨wr.heap.size, 0, none⟩) HHa.out HA.out (by simp; omega) HBa.out.size rfl rfl rfl rfl rfl ?_; intro ys q3 cap3 W HY hH3 ha3 hb3; obtain ⟨p4, c4, he4, hat4, -⟩ := hH3.at; injection he4 with he4 he5 he6; subst he4 he6; have hcv := conv_str hat4 cap3; have HB3 := Lib.hid (HBa.out.trans (aside_low ha3 HHa.out HBa.out.size)); clear hH3 ha3 hb3)
      go_ret
      rw [← HE.out, ← HY.out]
      exact ⟨rfl, HB3.out⟩
end Go.Proofs.YtpjcmahlnnglcaaGreatDoor
