/- K7J, K8A, K8B: put together. -/
import Derived.Test.YticmkgbjannkkaaM23
import Derived.Test.YticmkgbjannkkaaM25
import Derived.Test.YticmkgbjannkkaaM12
import Derived.Test.YticmkgbjannkkaaM04
import Derived.Test.YticmkgbjannkkaaM05
import Derived.Deep.RegionLaw

/- The landed schema: Encode, Check. -/
namespace Go.Proofs.Yticmkgbjannkkaa
open Go.RowKit

attribute [local go_sem] run_store_float

/-- the bytes that Encode tells -/
def encB (s : List Col) : List UInt8 := if Sch.err s = 0 then Sch.bytes s else []
theorem err_colsK (s : List Col) : Sch.err s = if colsK s ≠ 0 then colsK s else if 1024 < (Sch.bytes s).length then 2 else 0 := by
  unfold Sch.err colsK
  by_cases h0 : s.length = 0
  · rw [if_pos h0, if_pos h0, if_pos (by decide)]
  · rw [if_neg h0, if_neg h0]
    by_cases h1 : 16 < s.length
    · rw [if_pos h1, if_pos h1, if_pos (by decide)]
    · rw [if_neg h1, if_neg h1]

set_option maxRecDepth 100000 in
set_option maxHeartbeats 4000000 in
theorem encodeK (s : List Col) (p : Option Addr) (c : Nat) (w : World) (hs : s.length * 120 ≤ 140737488351232) (hx : Cols w p s) (hwf : ∀ x ∈ s, x.wf) :
    Calls Try.prog 23 #[.agg #[.slice p s.length c]] w fun e w' => ∃ q cap, e = .returned (.tuple #[.slice q (encB s).length cap, .int .i64 (Sch.err s : Nat)]) ∧ At w' q (encB s) ∧ (encB s).length ≤ cap ∧ Below w.heap.size w w' := by
  obtain ⟨W0, hW0⟩ : ∃ W0, W0 = w.alloc (.cells #[.slice p s.length c] 24) := ⟨_, rfl⟩
  have HB0 : Hid (Below w.heap.size w W0) := by rw [hW0]; exact (Below.refl _ _).alloc (Nat.le_refl _) _
  have HY0 : Hid (W0.cell? ⟨w.heap.size, 0, none⟩ = some (.slice p s.length c)) := by show _ = _; rw [hW0]; simp
  have HW0 := Lib.hid hW0
  have HX := Lib.hid hx
  have HWf := Lib.hid hwf
  have HE := Lib.hid (err_colsK s)
  have HC := Lib.hid (checkColumnsK s p c W0 (hx.on HB0.out) hwf)
  have HEnc : Hid (encB s = if Sch.err s = 0 then Sch.bytes s else []) := rfl
  have HK0 : Hid (colsK s = 0 → s.length ≤ 16 ∧ Sch.colsErr [] s = 0) := fun h => by
    unfold colsK at h
    split at h
    · omega
    · split at h
      · omega
      · exact ⟨by omega, h⟩
  obtain ⟨L, hL⟩ : ∃ L, L = encB s := ⟨_, rfl⟩
  obtain ⟨R, hR⟩ : ∃ R, R = Sch.err s := ⟨_, rfl⟩
  rw [← hL] at HEnc ⊢
  rw [← hR] at HE HEnc ⊢
  obtain ⟨ck, hck⟩ : ∃ n, n = colsK s := ⟨_, rfl⟩
  rw [← hck] at HC HE HK0
  clear hW0 hx hwf hL hR hck
  go_enter Try.func23, Try.ntmps23
  go_wp2_with fail
  rw [← HW0.out]
  clear HW0
  refine HC.out.mono ?_
  rintro e w1 ⟨rfl, hb1⟩
  have y1 := cell_on hb1 HY0.out
  have HB1 := Lib.hid (HB0.out.trans (hb1.mono HB0.out.size))
  clear hb1 HC HY0
  by_cases h0 : ¬ ck = 0
  · have g0 : ((ck : Int) != 0) = true := bne_t (by omega)
    have HR2 : Hid (R = ck) := by show _ = _; rw [HE.out, if_pos h0]
    have HL2 : Hid (L = []) := by show _ = _; rw [HEnc.out, HR2.out, if_neg h0]
    clear h0 HE HEnc HK0
    go_wp2
    go_ret2
    rw [HL2.out, HR2.out]
    exact ⟨none, 0, rfl, .inl rfl, Nat.le_refl _, HB1.out⟩
  replace h0 : ck = 0 := Classical.not_not.1 h0
  have g0 : ((ck : Int) != 0) = false := bne_f (by omega)
  obtain ⟨hs16, hce⟩ := HK0.out h0
  have HR2 : Hid (R = if 1024 < (Sch.bytes s).length then 2 else 0) := by show _ = _; rw [HE.out, if_neg (by omega)]
  have HCe := Lib.hid hce
  have HP := Lib.hid (put_any s.length (by omega))
  have hpl := Leb.put_length_le s.length
  have HBy : Hid (Sch.bytes s = Leb.put s.length ++ (s.map Sch.cB).flatten) := rfl
  obtain ⟨l0, hl0⟩ : ∃ l0, l0 = Leb.put s.length := ⟨_, rfl⟩
  rw [← hl0] at HP hpl HBy
  obtain ⟨by0, hby⟩ : ∃ l, l = Sch.bytes s := ⟨_, rfl⟩
  rw [← hby] at HBy HR2 HEnc
  have hs16' : (s.length : Int) ≤ 16 := by omega
  clear h0 HE HK0 hce hl0 hby
  go_wp2_with fail
  refine (HP.out _).mono ?_
  rintro e w2 ⟨g, cap0, rfl, hm, hb2⟩
  have y2 := cell_on hb2 y1
  have HH2 := Lib.hid hm.has
  have HB2 := Lib.hid hb2
  clear hm hb2 HP y1
  have HZ0 : Hid (l0 = l0 ++ ((s.take 0).map Sch.cB).flatten) := by show _ = _; simp
  go_wp2_with fail
  go_loopw [5, 22] (fun v5 v22 wr => ∃ (j : Nat) (zs : List UInt8) (q : Option Addr) (cap : Nat), j ≤ s.length ∧ v22 = .int .i64 j ∧ v5 = .slice q zs.length cap ∧ zs.length ≤ 10 + j * 3000 ∧ Hid ((zs = l0 ++ ((s.take j).map Sch.cB).flatten ∨ (1024 < zs.length ∧ 1024 < (l0 ++ ((s.take j).map Sch.cB).flatten).length)) ∧ Has wr w1.heap.size (.slice q zs.length cap) zs ∧ Below w1.heap.size w1 wr)) (fun _ v22 _ => s.length - (intOf v22).toNat)
  case atStart => exact ⟨0, l0, some ⟨g, 0, none⟩, cap0, by omega, rfl, rfl, by omega, .inl HZ0.out, HH2.out, HB2.out⟩
  case round =>
    obtain ⟨j, zs, q, cap, hj, rfl, rfl, hzl, HL⟩ := hrel
    by_cases hlt : j < s.length
    · have hbr : Below w.heap.size w wr := HB1.out.trans (HL.out.2.2.mono HB1.out.size)
      obtain ⟨bx, ox, k, tp, tn, tc, vk, vi, vb, vt, vp, vn, vc, rfl, _, h9, htx, hvx⟩ := (HX.out.on HB1.out).at j hlt
      obtain ⟨a0, a1, a2, a3, a4, a5, a6, a7, a8⟩ := h9.on HL.out.2.2
      have hj1 : (j : Int) < (s.length : Int) := by omega
      obtain ⟨l', hce⟩ := Sch.colsErr_mem s [] HCe.out s[j] (List.getElem_mem hlt)
      obtain ⟨o1, -, o3, -, o5⟩ := Sch.col_open hce
      have hnm := (Sch.name_size o1).2
      obtain ⟨wa, hwa⟩ : ∃ wa, wa = wr.alloc (.cells #[.string s[j].name, .int .i64 k, .slice tp tn tc, .bool s[j].has, .int .i64 vk, .int .i64 vi, .float .f64 vb, .string vt, .slice vp vn vc] 55) := ⟨_, rfl⟩
      have HBa : Hid (Below wr.heap.size wr wa) := by rw [hwa]; exact (Below.refl _ _).alloc (Nat.le_refl _) _
      have hsz := HL.out.2.2.size
      have hb1a : Below w1.heap.size w1 wa := HL.out.2.2.trans (HBa.out.mono hsz)
      have HB1a := Lib.hid hb1a
      have HCol := Lib.hid (appendColumnK s[j] w1 wa _ (.slice q zs.length cap) zs ⟨k, tp, tn, tc, vk, vi, vb, vt, vp, vn, vc, rfl, htx, hvx⟩ (HWf.out _ (List.getElem_mem hlt)) hnm o3 (fun h => (o5 h).1) hb1a (HL.out.2.1.on HBa.out) (by omega))
      have HHa := Lib.hid (HL.out.2.1.on HBa.out)
      have HTk := Lib.hid (Sch.flatten_take Sch.cB s j hlt)
      have HTl := Lib.hid (Sch.flatten_take_le Sch.cB s j)
      have HOld := Lib.hid HL.out.1
      unfold cells9 at HCol
      obtain ⟨cb, hcb⟩ : ∃ l, l = Sch.cB s[j] := ⟨_, rfl⟩
      rw [← hcb] at HCol HTk
      generalize s[j].name = nm at *
      generalize s[j].has = hs0 at *
      have HWa := Lib.hid hwa
      clear h9 htx hvx hce o1 o3 o5 hnm hwa hb1a HL hbr hcb
      go_wp2_with fail
      rw [← HWa.out]
      clear HWa a0 a1 a2 a3 a4 a5 a6 a7 a8
      refine HCol.out.mono ?_
      rintro e w3 ⟨ys, q3, cap3, hor, hyl, rfl, hg3⟩
      have HN : Hid ((ys = l0 ++ ((s.take (j + 1)).map Sch.cB).flatten ∨ (1024 < ys.length ∧ 1024 < (l0 ++ ((s.take (j + 1)).map Sch.cB).flatten).length)) ∧ Has w3 w1.heap.size (.slice q3 ys.length cap3) ys ∧ Below w1.heap.size w1 w3) := by
        refine ⟨?_, hg3.has, HB1a.out.trans (hg3.low HHa.out HB1a.out.size)⟩
        have hge : ∀ (A : List UInt8), (A ++ cb).length = A.length + cb.length := fun A => List.length_append
        rw [HTk.out, ← List.append_assoc]
        rcases HOld.out with h1 | h1
        · rw [← h1]; exact hor
        · refine .inr ⟨?_, ?_⟩
          · rcases hor with h2 | h2
            · rw [h2, List.length_append]; omega
            · exact h2.1
          · rw [List.length_append]; omega
      have hys : ys.length ≤ 10 + (j + 1) * 3000 := by omega
      clear hor hg3 hyl HCol HHa HTk HTl HOld
      go_wp2
      go_roundw
      case rel => exact ⟨j + 1, ys, q3, cap3, by omega, by go_num, rfl, hys, HN.out⟩
      case measure => simp [intOf]; omega
    · have hjn : ¬ (j : Int) < (s.length : Int) := by omega
      have HF : Hid (Below w.heap.size w wr) := HB1.out.trans (HL.out.2.2.mono HB1.out.size)
      have hor : (zs = by0 ∨ (1024 < zs.length ∧ 1024 < by0.length)) := by
        have h1 := HL.out.1
        rw [List.take_of_length_le (by omega), ← HBy.out] at h1
        exact h1
      have HH := Lib.hid HL.out.2.1
      clear HL
      by_cases hbig : 1024 < zs.length
      · have gb : (1024 : Int) < (zs.length : Int) := by omega
        have hby1 : 1024 < by0.length := by
          rcases hor with h1 | h1
          · rw [← h1]; exact hbig
          · exact h1.2
        have HR3 : Hid (R = 2) := by show _ = _; rw [HR2.out, if_pos hby1]
        have HL3 : Hid (L = []) := by show _ = _; rw [HEnc.out, HR3.out, if_neg (by decide)]
        clear hor hbig hby1 HR2 HEnc
        go_wp2
        go_ret2
        rw [HL3.out, HR3.out]
        exact ⟨none, 0, rfl, .inl rfl, Nat.le_refl _, HF.out⟩
      · have gb : ¬ (1024 : Int) < (zs.length : Int) := by omega
        have hzb : zs = by0 := by
          rcases hor with h1 | h1
          · exact h1
          · exact absurd h1.1 hbig
        have HR3 : Hid (R = 0) := by show _ = _; rw [HR2.out, if_neg (by rw [← hzb]; exact hbig)]
        have HL3 : Hid (L = zs) := by show _ = _; rw [HEnc.out, HR3.out, if_pos rfl, hzb]
        obtain ⟨q', cap', he, hat, hcap⟩ := HH.out.at
        injection he with e1 _ e2
        subst e1 e2
        have HAt := Lib.hid hat
        clear hor hbig hzb HR2 HEnc hat
        go_wp2
        go_ret2
        rw [HL3.out, HR3.out]
        exact ⟨_, _, rfl, HAt.out, hcap, HF.out⟩

set_option maxRecDepth 100000 in
set_option maxHeartbeats 400000 in
theorem checkSK (s : List Col) (p : Option Addr) (c : Nat) (w : World) (hs : s.length * 120 ≤ 140737488351232) (hx : Cols w p s) (hwf : ∀ x ∈ s, x.wf) :
    Calls Try.prog 11 #[.agg #[.slice p s.length c]] w fun e w' => e = .returned (.int .i64 (Sch.err s : Nat)) ∧ Below w.heap.size w w' := by
  have HB1 : Hid (Below w.heap.size w (w.alloc (.cells #[.slice p s.length c] 24))) := (Below.refl _ _).alloc (Nat.le_refl _) _
  have HC := Lib.hid (encodeK s p c _ hs (hx.on HB1.out) hwf)
  obtain ⟨R, hR⟩ : ∃ R, R = Sch.err s := ⟨_, rfl⟩
  rw [← hR] at HC ⊢
  obtain ⟨L, hL⟩ : ∃ R, R = encB s := ⟨_, rfl⟩
  rw [← hL] at HC
  clear hR hL hx hwf
  go_enter Try.func11, Try.ntmps11
  go_wp2_with fail
  refine HC.out.mono ?_
  rintro e w2 ⟨q, cap, rfl, -, -, hb2⟩
  have HB2 := Lib.hid (HB1.out.trans (hb2.mono HB1.out.size))
  clear hb2 HC
  go_wp2
  go_ret
  exact ⟨rfl, HB2.out⟩
end Go.Proofs.Yticmkgbjannkkaa

/- The landed row's writer: how it lies. -/
namespace Go.Proofs.Yticmkgbjannkkaa
open Go.RowKit

theorem aside_set (w : World) (R m : Nat) (u : Value) : Aside (fun i => i = R) w (w.setCell ⟨R, m, none⟩ u) := (Aside.refl (fun i => i = R) w).setCell (p := ⟨R, m, none⟩) (.inl rfl) u
/-- bytes more, at a step of a region that draws -/
theorem step_ontoG {B : Nat} {v : Value} {xs l : List UInt8} {p : Option Addr} {c : Nat} {w : World} (hown : Has w B v xs) (h : At w p l) (hlen : xs.length + l.length ≤ 140737488355328) (hB : B ≤ w.heap.size)
    {ops : Array Oper} {o : Oper} {a : Act} {K : Act → World → Prop} {Q : Exit → Act → World → Prop} {E : Prop} (s x : Operand)
    (ht : o.type = 28) (hg : o.guard = none) (hop : o.op = Op.call { callee := Callee.builtin Builtin.append, args := #[s, x], argTypes := #[28, 28] })
    (hs : a.eval s = v) (hx : a.eval x = .slice p l.length c)
    (hK : ∀ q cap W ys, Hid (ys = xs ++ l) → Grew w B v W (.slice q ys.length cap) ys → K (a.put o.dst (.slice q ys.length cap)) W) :
    if Region.wanted o (yielded ops a.tmps) = true then Oper.wp Try.prog o a w K Q else E := by
  have hw : Region.wanted o (yielded ops a.tmps) = true := by simp [Region.wanted, hg]
  rw [if_pos hw]
  obtain ⟨q, cap, W, ⟨hr⟩, hm, ha, -, hb3⟩ := onto_all B v xs l p c w hown h hlen hB
  unfold Oper.wp
  have he : (execOp a.eval o).run Try.prog w = .ok (.value (.slice q (xs ++ l).length cap)) W := by
    simp only [execOp, hop, resolve, invoke, builtin]
    simp [hs, hx, ht, hr, Result.andThen]
  rw [he]
  exact hK q cap W (xs ++ l) (Lib.hid rfl) ⟨hm, ha, hb3⟩

/-- a call of a function value of two arguments, at a step of a region that draws -/
theorem step_callv2 {w : World} {ops : Array Oper} {o : Oper} {a : Act} {K : Act → World → Prop} {Q : Exit → Act → World → Prop} {E : Prop} {f : FuncId} {u v : Value} {R : Ending → World → Prop} (y x x' : Operand) (t t' : TypeId)
    (hg : o.guard = none) (hop : o.op = Op.call { callee := .value y, args := #[x, x'], argTypes := #[t, t'] }) (hy : a.eval y = .func (.func f) #[] #[]) (hx : a.eval x = u) (hx' : a.eval x' = v)
    (hE : ∀ (args : Array Value) (w : World), (callFunc f args).run Try.prog w = .ok (.enter f args) w)
    (hc : Calls Try.prog f #[u, v] w R) (hR : ∀ e w', R e w' → ∃ v, e = .returned v ∧ K (a.put o.dst v) w') :
    if Region.wanted o (yielded ops a.tmps) = true then Oper.wp Try.prog o a w K Q else E := by
  have hw : Region.wanted o (yielded ops a.tmps) = true := by simp [Region.wanted, hg]
  rw [if_pos hw]
  unfold Oper.wp
  have he : (execOp a.eval o).run Try.prog w = .ok (.enter f #[u, v]) w := by
    simp [execOp, hop, resolve, invoke, hx, hx', hy, Deferred.ofValue, hE]
  rw [he, Oper.upon_enter]
  refine hc.mono ?_
  intro e w' hr
  obtain ⟨v, rfl, hk⟩ := hR e w' hr
  exact hk
/-- and one that panics -/
theorem step_callv2b {w : World} {ops : Array Oper} {o : Oper} {a : Act} {K : Act → World → Prop} {Q : Exit → Act → World → Prop} {E : Prop} {f : FuncId} {u v : Value} {R : Ending → World → Prop} (y x x' : Operand) (t t' : TypeId)
    (hg : o.guard = none) (hop : o.op = Op.call { callee := .value y, args := #[x, x'], argTypes := #[t, t'] }) (hy : a.eval y = .func (.func f) #[] #[]) (hx : a.eval x = u) (hx' : a.eval x' = v)
    (hE : ∀ (args : Array Value) (w : World), (callFunc f args).run Try.prog w = .ok (.enter f args) w)
    (hc : Calls Try.prog f #[u, v] w R) (hR : ∀ e w', R e w' → ∃ ch, e = .panicked ch ∧ Q (.panic ch) a w') (v' : Value) (_ : Hid False → K (a.put o.dst v') w) :
    if Region.wanted o (yielded ops a.tmps) = true then Oper.wp Try.prog o a w K Q else E := by
  have hw : Region.wanted o (yielded ops a.tmps) = true := by simp [Region.wanted, hg]
  rw [if_pos hw]
  unfold Oper.wp
  have he : (execOp a.eval o).run Try.prog w = .ok (.enter f #[u, v]) w := by
    simp [execOp, hop, resolve, invoke, hx, hx', hy, Deferred.ofValue, hE]
  rw [he, Oper.upon_enter]
  refine hc.mono ?_
  intro e w' hr
  obtain ⟨v, rfl, hk⟩ := hR e w' hr
  exact hk
/-- a function with a body is entered -/
theorem enters {f : FuncId} {fn : Func} {code : Code} (hf : Try.prog.funcs[f]? = some fn) (hname : (fn.name == "runtime.NumGoroutine") = false) (hb : fn.body = some code) (args : Array Value) (w : World) : (callFunc f args).run Try.prog w = .ok (.enter f args) w := by
  have h1 : fn.name ≠ "runtime.NumGoroutine" := by simpa using hname
  simp [callFunc, hf, h1, hb]

/-- the table of the writer's ways -/
def waysW : Array Value := #[.nilFunc, .func (.func 24) #[] #[], .func (.func 25) #[] #[], .func (.func 26) #[] #[], .func (.func 27) #[] #[], .func (.func 27) #[] #[], .func (.func 28) #[] #[], .func (.func 28) #[] #[]]

/-- the writer in block R has made l -/
structure Wtr (w : World) (B R : Nat) (most : Int) (l : List UInt8) : Prop where
  out : ∃ T q cap, w.heap[R]? = some (.cells #[.slice (some ⟨T, 0, none⟩) 8 8, .slice q l.length cap, .int .i64 most] 47 (0, 0)) ∧ w.heap[T]? = some (.cells waysW 69 (0, 0)) ∧ Has w B (.slice q l.length cap) l ∧ T ≠ R ∧ T < B
  low : R < B
  base : B ≤ w.heap.size
theorem Wtr.on {w w' : World} {B R : Nat} {most : Int} {l : List UInt8} (h : Wtr w B R most l) (hb : Below w.heap.size w w') : Wtr w' B R most l := by
  obtain ⟨T, q, cap, h1, h2, h3, h4, h5⟩ := h.out
  exact ⟨⟨T, q, cap, by rw [hb.block R (blk_lt h1)]; exact h1, by rw [hb.block T (blk_lt h2)]; exact h2, h3.on hb, h4, h5⟩, h.low, Nat.le_trans h.base hb.size⟩
theorem Wtr.lt {w : World} {B R : Nat} {most : Int} {l : List UInt8} (h : Wtr w B R most l) : R < w.heap.size := Nat.lt_of_lt_of_le h.low h.base
/-- the block of the writer's bytes -/
def ownW (w : World) (R k : Nat) : Prop := ∃ t v m, w.heap[R]? = some (.cells #[t, v, m] 47 (0, 0)) ∧ v.ownBlock = some k
theorem ownW_same {w w' : World} {R : Nat} (h : w'.heap[R]? = w.heap[R]?) (k : Nat) : ownW w' R k ↔ ownW w R k := by unfold ownW; rw [h]
theorem ownW_is {w : World} {R k : Nat} {t v m : Value} (h : w.heap[R]? = some (.cells #[t, v, m] 47 (0, 0))) (ho : ownW w R k) : v.ownBlock = some k := by
  obtain ⟨t', v', m', h1, h2⟩ := ho
  rw [h] at h1
  injection h1 with h1
  injection h1 with h1
  simp only [Array.mk.injEq, List.cons.injEq, and_true] at h1
  rw [h1.2.1]
  exact h2
theorem Wtr.owns {w : World} {B R : Nat} {most : Int} {l : List UInt8} (h : Wtr w B R most l) {k : Nat} (ho : ownW w R k) : B ≤ k ∧ k < w.heap.size := by
  obtain ⟨T, q, cap, h1, h2, h3, h4, h5⟩ := h.out
  exact h3.lt k (ownW_is h1 ho)
/-- nothing changed but the writer and its bytes -/
structure AsW (R : Nat) (w w' : World) : Prop where
  aside : Aside (fun k => k = R ∨ ownW w R k) w w'
  fresh : ∀ k, ownW w' R k → ownW w R k ∨ w.heap.size ≤ k
theorem AsW.trans {R : Nat} {w w1 w2 : World} (h : AsW R w w1) (k : AsW R w1 w2) : AsW R w w2 := by
  have hs := h.aside.size
  refine ⟨h.aside.trans k.aside (fun i hi hc => ?_), fun i hi => ?_⟩
  · rcases hc with h1 | h1
    · exact .inl h1
    · rcases h.fresh i h1 with h2 | h2
      · exact .inr h2
      · omega
  · rcases k.fresh i hi with h1 | h1
    · exact h.fresh i h1
    · exact .inr (by omega)
theorem AsW.new {R : Nat} {w w1 : World} (hR : R < w.heap.size) (h : Below w.heap.size w w1) : AsW R w w1 := ⟨aside_new h _, fun k hk => .inl ((ownW_same (h.block R hR) k).1 hk)⟩
theorem AsW.below {A B R : Nat} {most : Int} {l : List UInt8} {w w1 : World} (h : AsW R w w1) (hw : Wtr w B R most l) (hA : A ≤ R) : Below A w w1 := by
  have h1 := hw.low
  have h2 := hw.base
  exact h.aside.below (by omega) (fun k hk hc => by
    rcases hc with h3 | h3
    · omega
    · have := (hw.owns h3).1; omega)
/-- what lies in a block that was made behind the writer -/
theorem AsW.far {B R : Nat} {most : Int} {l : List UInt8} {w W0 w1 : World} (h : AsW R W0 w1) (hw : Wtr w B R most l) (hb : Below w.heap.size w W0) {k : Nat} (h1 : w.heap.size ≤ k) (h2 : k < W0.heap.size) : w1.heap[k]? = W0.heap[k]? := by
  have hR := hw.lt
  refine h.aside.block k h2 (fun hc => ?_)
  rcases hc with h3 | h3
  · omega
  · have := (hw.owns ((ownW_same (hb.block R hR) k).1 h3)).2; omega
/-- more was made -/
theorem Wtr.more {w w1 : World} {B R T : Nat} {most : Int} {q q1 : Option Addr} {cap cap1 : Nat} {l ys : List UInt8} (h : Wtr w B R most l) (h1 : w.heap[R]? = some (.cells #[.slice (some ⟨T, 0, none⟩) 8 8, .slice q l.length cap, .int .i64 most] 47 (0, 0))) (h2 : w.heap[T]? = some (.cells waysW 69 (0, 0))) (h4 : T ≠ R) (h5 : T < B) (h3 : Has w B (.slice q l.length cap) l) (hg : Grew w B (.slice q l.length cap) w1 (.slice q1 ys.length cap1) ys) :
    w1.heap[R]? = some (.cells #[.slice (some ⟨T, 0, none⟩) 8 8, .slice q l.length cap, .int .i64 most] 47 (0, 0)) ∧ Wtr (w1.setCell ⟨R, 1, none⟩ (.slice q1 ys.length cap1)) B R most ys ∧ AsW R w (w1.setCell ⟨R, 1, none⟩ (.slice q1 ys.length cap1)) := by
  have hl := h.low
  have hB := h.base
  have hlt := h3.lt
  have k1 : ∀ k, k < B → w1.heap[k]? = w.heap[k]? := fun k hk => hg.aside.block k (by omega) (fun hc => by have := (hlt k hc).1; omega)
  have r1 : w1.heap[R]? = some (.cells #[.slice (some ⟨T, 0, none⟩) 8 8, .slice q l.length cap, .int .i64 most] 47 (0, 0)) := (k1 R hl).trans h1
  have ha : Aside (fun i => i = R) w1 (w1.setCell ⟨R, 1, none⟩ (.slice q1 ys.length cap1)) := aside_set _ _ _ _
  have hs := hg.aside.size
  have hs2 := ha.size
  refine ⟨r1, ⟨⟨T, q1, cap1, by rw [blk_set r1 1]; rfl, ?_, ?_, h4, h5⟩, hl, by omega⟩, ?_⟩
  · rw [ha.block T (by omega) h4, k1 T h5]; exact h2
  · exact hg.has.aside ha (fun k hk he => by have := (hg.has.lt k hk).1; omega)
  · refine ⟨Aside.trans (Aside.mono hg.aside (fun k hk hc => .inr ⟨_, _, _, h1, hc⟩)) ha (fun k hk he => .inl he), fun k hk => ?_⟩
    have e1 : (w1.setCell ⟨R, 1, none⟩ (.slice q1 ys.length cap1)).heap[R]? = some (.cells #[.slice (some ⟨T, 0, none⟩) 8 8, .slice q1 ys.length cap1, .int .i64 most] 47 (0, 0)) := by rw [blk_set r1 1]; rfl
    rcases hg.fresh k (ownW_is e1 hk) with h6 | h6
    · exact .inl ⟨_, _, _, h1, h6⟩
    · exact .inr h6

/-- bytes put behind others; what is too long already need not grow on -/
structure PutW (most : Int) (xs full ys : List UInt8) : Prop where
  eq : ys = xs ++ full ∨ (most < ys.length ∧ most < (xs ++ full).length)
  len : ys.length ≤ xs.length + full.length
theorem PutW.all {most : Int} {xs full : List UInt8} : PutW most xs full (xs ++ full) := ⟨.inl rfl, by rw [List.length_append]; omega⟩
/-- what such a call answers -/
def WrA (w : World) (B R : Nat) (most : Int) (xs full : List UInt8) (e : Ending) (w' : World) : Prop := ∃ ys, PutW most xs full ys ∧ e = .returned (.tuple #[]) ∧ Wtr w' B R most ys ∧ AsW R w w'

theorem waysToWriteK (w : World) : Calls Try.prog 12 #[] w fun e w' => e = .returned (.slice (some ⟨w.heap.size, 0, none⟩) 8 8) ∧ w' = w.alloc (.cells waysW 69) := by
  go_enter Try.func12, Try.ntmps12
  go_wp2_with fail
  go_ret
  exact ⟨rfl, rfl⟩
theorem Wtr.drew {w : World} {B R : Nat} {most : Int} {l : List UInt8} (h : Wtr w B R most l) : Wtr w.drew B R most l := h.on ((Below.refl _ _).drew)
theorem wtr_start (w : World) (most : Int) : Wtr ((w.alloc (.cells waysW 69)).alloc (.cells #[.slice (some ⟨w.heap.size, 0, none⟩) 8 8, .slice none 0 0, .int .i64 most] 47)) (w.heap.size + 2) (w.heap.size + 1) most [] := by
  refine ⟨⟨w.heap.size, none, 0, ?_, ?_, has_nil _ _, by omega, by omega⟩, by omega, by simp⟩
  · have := blk_new (w.alloc (.cells waysW 69)) (.cells #[.slice (some ⟨w.heap.size, 0, none⟩) 8 8, .slice none 0 0, .int .i64 most] 47)
    simpa using this
  · rw [blk_old _ _ (by simp)]
    exact blk_new w _
end Go.Proofs.Yticmkgbjannkkaa

/- The landed row's writer: its small calls. -/
namespace Go.Proofs.Yticmkgbjannkkaa
open Go.RowKit

attribute [local go_sem] run_store_float

set_option maxRecDepth 100000 in
set_option maxHeartbeats 1000000 in
theorem numberW (n : Nat) (hn : n < 18446744073709551616) (xs : List UInt8) (hx : xs.length ≤ 100000000000000) (B R : Nat) (most : Int) (w : World) (h : Wtr w B R most xs) : Calls Try.prog 38 #[.pointer (some ⟨R, 0, none⟩), .int .u64 n] w fun e w' => e = .returned (.tuple #[]) ∧ Wtr w' B R most (xs ++ Leb.put n) ∧ AsW R w w' := by
  have HP := Lib.hid (put_any n hn)
  have hpl := Leb.put_length_le n
  obtain ⟨l0, hl0⟩ : ∃ l0, l0 = Leb.put n := ⟨_, rfl⟩
  rw [← hl0] at HP hpl ⊢
  obtain ⟨T, q, cap, h1, h2, h3, h4, h5⟩ := h.out
  have c1 : w.cell? ⟨R, 1, none⟩ = some (.slice q xs.length cap) := blk_cell h1 1
  have HH := Lib.hid h
  have H1 := Lib.hid h1
  have H2 := Lib.hid h2
  have H3 := Lib.hid h3
  have hB := h.base
  clear hl0 h h1 h2 h3
  go_enter Try.func38, Try.ntmps38
  go_wp2_with fail
  go_region_law (first
    | (refine step_call1 (.tmp 9) 79 (by rfl) (by rfl) (by rfl) Try.func36 (by kernel_rfl) (by rfl) (HP.out _) ?_
       rintro e w1 ⟨g, cap0, rfl, hm, hb⟩
       refine ⟨_, rfl, ?_⟩
       have hb' : Below w.heap.size w w1 := ⟨hb.os, hb.tape, hb.output, hb.size, hb.block⟩
       have d1 : w1.cell? ⟨R, 1, none⟩ = some (.slice q xs.length cap) := cell_on hb' c1
       have HM := Lib.hid hm
       have HB1 := Lib.hid hb'
       clear hm hb hb')
    | (refine step_ontoG (B := B) (xs := xs) (l := l0) (H3.out.on HB1.out) HM.out.at (by omega) (Nat.le_trans hB HB1.out.size) (.tmp 8) (.tmp 10) (by rfl) (by rfl) (by rfl) (by rfl) (by rfl) ?_
       intro q3 cap3 W ys HY hg3
       have hM := HH.out.more H1.out H2.out h4 h5 H3.out (hg3.from HB1.out H3.out)
       have e1 : W.cell? ⟨R, 1, none⟩ = some (.slice q xs.length cap) := blk_cell hM.1 1
       have f1 : W.frozen? ⟨R, 1, none⟩ = false := blk_free hM.1 1
       have HM2 := Lib.hid hM.2
       clear hM hg3)
    | fail)
  all_goals
    go_end0
    rw [← HY.out]
    exact ⟨rfl, HM2.out⟩

section
variable {w : World} {B R : Nat} {most : Int} {xs : List UInt8} (h : Wtr w B R most xs) (hx : xs.length ≤ 90000000000000)
include h hx

set_option maxRecDepth 100000 in
set_option maxHeartbeats 1000000 in
theorem writeBoolK (k i : Int) (hi : i = 0 ∨ i = 1) (b : Nat) (t : ByteArray) (p : Option Addr) (n c : Nat) : Calls Try.prog 24 #[.pointer (some ⟨R, 0, none⟩), .agg #[.int .i64 k, .int .i64 i, .float .f64 b, .string t, .slice p n c]] w fun e w' => e = .returned (.tuple #[]) ∧ Wtr w' B R most (xs ++ [UInt8.ofNat i.toNat]) ∧ AsW R w w' := by
  obtain ⟨c0, hc0⟩ : ∃ c0, c0 = UInt8.ofNat i.toNat := ⟨_, rfl⟩
  have hkz : i = (c0.toNat : Int) := by rw [hc0, UInt8.toNat_ofNat']; omega
  have HKz : Hid (IntKind.u8.wrap i = (c0.toNat : Int)) := by
    show _ = _
    rw [← hkz]
    rcases hi with rfl | rfl <;> rfl
  rw [← hc0]
  obtain ⟨W0, hW0⟩ : ∃ W0, W0 = w.alloc (.cells #[.int .i64 k, .int .i64 i, .float .f64 b, .string t, .slice p n c] 53) := ⟨_, rfl⟩
  have HB0 : Hid (Below w.heap.size w W0) := by rw [hW0]; exact (Below.refl _ _).alloc (Nat.le_refl _) _
  have hs0 : W0.heap.size = w.heap.size + 1 := by rw [hW0]; simp
  have d1 : W0.cell? ⟨w.heap.size, 1, none⟩ = some (.int .i64 i) := by rw [hW0]; simp
  have HW0 := Lib.hid hW0
  have HH := Lib.hid (h.on HB0.out)
  obtain ⟨T, q, cap, h1, h2, h3, h4, h5⟩ := HH.out.out
  have c1 : W0.cell? ⟨R, 1, none⟩ = some (.slice q xs.length cap) := blk_cell h1 1
  have c1a : ∀ o, (W0.alloc o).cell? ⟨R, 1, none⟩ = some (.slice q xs.length cap) := fun o => cell_on ((Below.refl _ _).alloc (Nat.le_refl _) _) c1
  have H1 := Lib.hid h1
  have H2 := Lib.hid h2
  have H3 := Lib.hid h3
  have hB := HH.out.base
  have hR := h.lt
  clear h h1 h2 h3 hkz hc0 hi hW0
  go_enter Try.func24, Try.ntmps24
  go_wp2_with fail
  rw [← HW0.out]
  clear HW0
  go_region_law (first
    | (refine step_pushG (B := B) (xs := xs) (v := .slice q xs.length cap) (w := W0.drew) (H := w.heap.size + 1) (by exact hs0) H3.out.drew c0 (by omega) hB (.tmp 8) (.tmp 12) HKz.out (by rfl) (by rfl) (by rfl) (by rfl) (by rfl) ?_
       intro q3 cap3 W ys HY hg3
       have hg3' : Grew W0 B (.slice q xs.length cap) W (.slice q3 ys.length cap3) ys := ⟨hg3.has, ⟨hg3.aside.os, hg3.aside.tape, hg3.aside.output, hg3.aside.size, hg3.aside.block⟩, hg3.fresh⟩
       have hM := HH.out.more H1.out H2.out h4 h5 H3.out hg3'
       have e1 : W.cell? ⟨R, 1, none⟩ = some (.slice q xs.length cap) := blk_cell hM.1 1
       have f1 : W.frozen? ⟨R, 1, none⟩ = false := blk_free hM.1 1
       have HM2 := Lib.hid hM.2
       clear hM hg3 hg3')
    | fail)
  all_goals
    go_end0
    rw [← HY.out]
    exact ⟨rfl, HM2.out.1, (AsW.new hR HB0.out).trans HM2.out.2⟩
end
end Go.Proofs.Yticmkgbjannkkaa
