/- K7H, K7I, K7J, K8A, K8B, K8C: put together. -/
import Derived.Test.YtnlhpndjogjejaaM11
import Derived.Test.YtnlhpndjogjejaaM06
import Derived.Deep.RegionLaw
import Derived.Test.YtnlhpndjogjejaaM08
import Derived.Test.YtnlhpndjogjejaaM02
import Derived.Test.YtnlhpndjogjejaaM03

/- The landed schema: appendValue. -/
namespace Go.Proofs.Ytnlhpndjogjejaa
open Go.RowKit

attribute [local go_sem] run_store_float

theorem put_0 : Leb.put 0 = [0] := by kernel_rfl
theorem put_1 : Leb.put 1 = [1] := by kernel_rfl

section
variable {w w0 : World} {v : Value} {xs : List UInt8} (hb0 : Below w0.heap.size w0 w) (hv : Has w w0.heap.size v xs) (hlen : xs.length ≤ 100000)
include hb0 hv hlen

set_option maxRecDepth 100000 in
set_option maxHeartbeats 1000000 in
theorem appendValue_1 (i : Int) (hi : i = 0 ∨ i = 1) (b : Nat) (t : ByteArray) (p : Option Addr) (n c : Nat) : Calls Try.prog 99 #[v, .agg #[.int .i64 1, .int .i64 i, .float .f64 b, .string t, .slice p n c]] w (GrewV w w0.heap.size v (xs ++ [UInt8.ofNat i.toNat])) := by
  obtain ⟨c0, hc0⟩ : ∃ c0, c0 = UInt8.ofNat i.toNat := ⟨_, rfl⟩
  have hkz : i = (c0.toNat : Int) := by rw [hc0, UInt8.toNat_ofNat']; omega
  have HKz := Lib.hid hkz
  have hi1 : 0 ≤ i := by omega
  have hi2 : i ≤ 1 := by omega
  rw [← hc0]
  have HV := Lib.hid hv
  have hBs := hb0.size
  have HBx : Hid (Below w.heap.size w (w.alloc (.cells #[.int .i64 1, .int .i64 i, .float .f64 b, .string t, .slice p n c] 46))) := (Below.refl _ _).alloc (Nat.le_refl _) _
  have HVx := Lib.hid (hv.on HBx.out)
  have hBx : w0.heap.size ≤ (w.alloc (.cells #[.int .i64 1, .int .i64 i, .float .f64 b, .string t, .slice p n c] 46)).heap.size := Nat.le_trans hBs HBx.out.size
  clear hkz hc0 hi hv hb0
  go_enter Try.func99, Try.ntmps99
  go_wp2_with (first
    | (at_builtin; refine wp_pushG (H := w.heap.size + 1) (by simp) HVx.out c0 (by omega) hBx HKz.out rfl rfl rfl rfl rfl ?_
       intro q2 cap2 W ys HY hg2
       have HG2 := Lib.hid (hg2.from HBx.out HV.out)
       clear hg2))
  go_ret
  rw [← HY.out]
  exact ⟨q2, cap2, rfl, HG2.out⟩

set_option maxRecDepth 100000 in
set_option maxHeartbeats 1000000 in
theorem appendValue_2 (i : Int) (hi : -9223372036854775808 ≤ i ∧ i ≤ 9223372036854775807) (b : Nat) (t : ByteArray) (p : Option Addr) (n c : Nat) : Calls Try.prog 99 #[v, .agg #[.int .i64 2, .int .i64 i, .float .f64 b, .string t, .slice p n c]] w (GrewV w w0.heap.size v (xs ++ Leb.put (Leb.zig i))) := by
  have hz : Leb.zig i < 18446744073709551616 := by unfold Leb.zig; split <;> omega
  have HZ := Lib.hid (zig_any i hi.1 hi.2)
  have HP := Lib.hid (put_any (Leb.zig i) hz)
  have hpl := Leb.put_length_le (Leb.zig i)
  obtain ⟨z, hzz⟩ : ∃ z, z = Leb.zig i := ⟨_, rfl⟩
  rw [← hzz] at HZ HP hpl ⊢
  obtain ⟨l0, hl0⟩ : ∃ l0, l0 = Leb.put z := ⟨_, rfl⟩
  rw [← hl0] at HP hpl ⊢
  have HV := Lib.hid hv
  have hBs := hb0.size
  have HBx : Hid (Below w.heap.size w (w.alloc (.cells #[.int .i64 2, .int .i64 i, .float .f64 b, .string t, .slice p n c] 46))) := (Below.refl _ _).alloc (Nat.le_refl _) _
  clear hi hz hv hb0 hzz hl0
  go_enter Try.func99, Try.ntmps99
  go_wp2_with fail
  refine (HZ.out _).mono ?_
  rintro e w1 ⟨rfl, hw1⟩
  rw [hw1]
  clear hw1 w1
  go_wp2_with fail
  refine (HP.out _).mono ?_
  rintro e w1 ⟨g, cap, rfl, hm, hb⟩
  have HM := Lib.hid hm
  have HB1 := Lib.hid (HBx.out.trans (hb.mono HBx.out.size))
  have HV1 := Lib.hid (HV.out.on HB1.out)
  have hB1 : w0.heap.size ≤ w1.heap.size := Nat.le_trans hBs HB1.out.size
  clear hm hb HP
  go_wp2_with (first
    | (at_builtin; refine wp_ontoL (B := w0.heap.size) HV1.out HM.out.at (by omega) hB1 rfl rfl rfl rfl rfl ?_; intro ys q3 cap3 W HY hH3 ha3 hb3
       have HG1 : Hid (Grew w w0.heap.size v W (.slice q3 ys.length cap3) ys) := Grew.from ⟨hH3, ha3, hb3⟩ HB1.out HV.out
       clear hH3 ha3 hb3))
  go_ret
  rw [← HY.out]
  exact ⟨q3, cap3, rfl, HG1.out⟩

set_option maxRecDepth 100000 in
set_option maxHeartbeats 1000000 in
theorem appendValue_3 (i : Int) (b : Nat) (hb64 : b < 18446744073709551616) (t : ByteArray) (p : Option Addr) (n c : Nat) : Calls Try.prog 99 #[v, .agg #[.int .i64 3, .int .i64 i, .float .f64 b, .string t, .slice p n c]] w (GrewV w w0.heap.size v (xs ++ Sch.le 8 (fixB b))) := by
  have HV := Lib.hid hv
  have hBs := hb0.size
  have HBx : Hid (Below w.heap.size w (w.alloc (.cells #[.int .i64 3, .int .i64 i, .float .f64 b, .string t, .slice p n c] 46))) := (Below.refl _ _).alloc (Nat.le_refl _) _
  have HC := Lib.hid (appendFloatK v xs b hb64 w0.heap.size _ (hv.on HBx.out) (Nat.le_trans hBs HBx.out.size) (by omega))
  obtain ⟨l0, hl0⟩ : ∃ l0, l0 = xs ++ Sch.le 8 (fixB b) := ⟨_, rfl⟩
  rw [← hl0] at HC ⊢
  clear hv hb0 hl0
  go_enter Try.func99, Try.ntmps99
  go_wp2_with fail
  refine HC.out.mono ?_
  rintro e w1 ⟨q2, cap2, rfl, hg2⟩
  have HG2 := Lib.hid (hg2.from HBx.out HV.out)
  clear hg2 HC
  go_wp2
  go_ret
  exact ⟨q2, cap2, rfl, HG2.out⟩

set_option maxRecDepth 100000 in
set_option maxHeartbeats 1000000 in
theorem appendValue_45 (k i : Int) (hk : k = 4 ∨ k = 5) (b : Nat) (t : ByteArray) (ht : t.size ≤ 1024) (p : Option Addr) (n c : Nat) : Calls Try.prog 99 #[v, .agg #[.int .i64 k, .int .i64 i, .float .f64 b, .string t, .slice p n c]] w (GrewV w w0.heap.size v (xs ++ (Leb.put t.size ++ t.data.toList))) := by
  have HV := Lib.hid hv
  have hBs := hb0.size
  have HBx : Hid (Below w.heap.size w (w.alloc (.cells #[.int .i64 k, .int .i64 i, .float .f64 b, .string t, .slice p n c] 46))) := (Below.refl _ _).alloc (Nat.le_refl _) _
  have HC := Lib.hid (appendTextK v xs t w0.heap.size _ (hv.on HBx.out) (Nat.le_trans hBs HBx.out.size) (by omega) ht)
  obtain ⟨l0, hl0⟩ : ∃ l0, l0 = xs ++ (Leb.put t.size ++ t.data.toList) := ⟨_, rfl⟩
  rw [← hl0] at HC ⊢
  clear hv hb0 hl0
  rcases hk with rfl | rfl
  all_goals
    go_enter Try.func99, Try.ntmps99
    go_wp2_with fail
    refine HC.out.mono ?_
    rintro e w1 ⟨q2, cap2, rfl, hg2⟩
    have HG2 := Lib.hid (hg2.from HBx.out HV.out)
    clear hg2 HC
    go_wp2
    go_ret
    exact ⟨q2, cap2, rfl, HG2.out⟩

set_option maxRecDepth 100000 in
set_option maxHeartbeats 1000000 in
theorem appendValue_67 (k i : Int) (hk : k = 6 ∨ k = 7) (b : Nat) (t : ByteArray) (items : List V) (hn : items.length ≤ 256) (ih : ItemsOk items) (p : Option Addr) (c : Nat) (hx : Items w0 p items) : Calls Try.prog 99 #[v, .agg #[.int .i64 k, .int .i64 i, .float .f64 b, .string t, .slice p items.length c]] w (PutA w w0.heap.size v xs (Leb.put items.length ++ (items.map Sch.vB).flatten)) := by
  have HV := Lib.hid hv
  have hBs := hb0.size
  have HBx : Hid (Below w.heap.size w (w.alloc (.cells #[.int .i64 k, .int .i64 i, .float .f64 b, .string t, .slice p items.length c] 46))) := (Below.refl _ _).alloc (Nat.le_refl _) _
  have HC := Lib.hid (appendItemsK items hn ih p c w0 _ v xs hx (hb0.trans (HBx.out.mono hBs)) (hv.on HBx.out) hlen)
  obtain ⟨l0, hl0⟩ : ∃ l0, l0 = Leb.put items.length ++ (items.map Sch.vB).flatten := ⟨_, rfl⟩
  rw [← hl0] at HC ⊢
  clear hv hb0 hl0 hx ih
  rcases hk with rfl | rfl
  all_goals
    go_enter Try.func99, Try.ntmps99
    go_wp2_with fail
    refine HC.out.mono ?_
    rintro e w1 ⟨ys, q2, cap2, hpv, rfl, hg2⟩
    have HPv := Lib.hid hpv
    have HG2 := Lib.hid (hg2.from HBx.out HV.out)
    clear hg2 HC hpv
    go_wp2
    go_ret
    exact ⟨ys, q2, cap2, HPv.out, rfl, HG2.out⟩
end

theorem appendValueK : ∀ (x : V) (d : Nat) (w0 w : World) (u : Array Value) (v : Value) (xs : List UInt8), chk d x = 0 → x.wf → VLies w0 u x → Below w0.heap.size w0 w → Has w w0.heap.size v xs → xs.length ≤ 100000 → Calls Try.prog 99 #[v, .agg u] w (PutA w w0.heap.size v xs (Sch.vB x)) := by
  intro x
  refine V.ind (P := fun x => ∀ (d : Nat) (w0 w : World) (u : Array Value) (v : Value) (xs : List UInt8), chk d x = 0 → x.wf → VLies w0 u x → Below w0.heap.size w0 w → Has w w0.heap.size v xs → xs.length ≤ 100000 → Calls Try.prog 99 #[v, .agg u] w (PutA w w0.heap.size v xs (Sch.vB x))) ?_ x
  rintro k i b t items ih d w0 w u v xs hc hwf hx hb0 hv hlen
  obtain ⟨p, c, rfl, hxl, hxc, hxi⟩ := hx.open
  obtain ⟨wk, wi, wb, wt, wx⟩ := V.wf_mk.1 hwf
  obtain ⟨hd4, ho, ht, hn, -, hcx⟩ := Sch.chk_open hc
  obtain ⟨hk, -, -, -, o5, o6, o7⟩ := Sch.own_open ho
  unfold cells5
  have hvh : (Sch.vH k i b t items.length).length ≤ 1034 := Sch.vH_len ht
  have hcase : k = 1 ∨ k = 2 ∨ k = 3 ∨ (k = 4 ∨ k = 5) ∨ (k = 6 ∨ k = 7) := by omega
  rcases hcase with h | h | h | h | h
  · have e : Sch.vB (.mk k i b t items) = [UInt8.ofNat i.toNat] := by rw [Sch.vB_mk, Sch.vH, if_pos h, if_pos (.inl h), List.append_nil]
    rw [e]
    subst h
    exact (appendValue_1 hb0 hv hlen i (o6 rfl) b t p items.length c).mono fun _ _ h => putA_of h (by simp)
  · have e : Sch.vB (.mk k i b t items) = Leb.put (Leb.zig i) := by rw [Sch.vB_mk, Sch.vH, if_neg (by omega), if_pos h, if_pos (.inr (.inl h)), List.append_nil]
    rw [e]
    subst h
    exact (appendValue_2 hb0 hv hlen i wi b t p items.length c).mono fun _ _ h => putA_of h (by have := Leb.put_length_le (Leb.zig i); omega)
  · have e : Sch.vB (.mk k i b t items) = Sch.le 8 (fixB b) := by rw [Sch.vB_mk, Sch.vH, if_neg (by omega), if_neg (by omega), if_pos h, if_pos (.inr (.inr (.inl h))), List.append_nil]
    rw [e]
    subst h
    exact (appendValue_3 hb0 hv hlen i b wb t p items.length c).mono fun _ _ h => putA_of h (by rw [Sch.le_len]; omega)
  · have e : Sch.vB (.mk k i b t items) = Leb.put t.size ++ t.data.toList := by rw [Sch.vB_mk, Sch.vH, if_neg (by omega), if_neg (by omega), if_neg (by omega), if_pos h, if_pos (by omega), List.append_nil]
    rw [e]
    exact (appendValue_45 hb0 hv hlen k i h b t ht p items.length c).mono fun _ _ h => putA_of h (by
      have := Leb.put_length_le t.size
      have hs : t.data.toList.length = t.size := by rw [Array.length_toList]; rfl
      rw [List.length_append]; omega)
  · have e : Sch.vB (.mk k i b t items) = Leb.put items.length ++ (items.map Sch.vB).flatten := by
      rw [Sch.vB_mk, Sch.vH, if_neg (by omega), if_neg (by omega), if_neg (by omega), if_neg (by omega), if_neg (c := k = 1 ∨ k = 2 ∨ k = 3 ∨ k = 4 ∨ k = 5) (by omega)]
      congr 1
      rcases h with h | h
      · rw [if_pos h]
        have h2 := o7 h
        have h3 : items.length = 0 ∨ items.length = 1 := by omega
        rcases h3 with h3 | h3
        · rw [h3, put_0]; rfl
        · rw [h3, put_1]; rfl
      · rw [if_neg (by omega), if_pos h]
    rw [e]
    exact appendValue_67 hb0 hv hlen k i h b t items hn (fun y hy w0 w u v xs h1 h2 h3 h4 => ih y hy (d + 1) w0 w u v xs (hcx y hy) (wx y hy) h1 h2 h3 h4) p c hxi
end Go.Proofs.Ytnlhpndjogjejaa

/- The landed schema: appendColumn. -/
namespace Go.Proofs.Ytnlhpndjogjejaa
open Go.RowKit

attribute [local go_sem] run_store_float

/-- a call of a Go function of two arguments, at a step of a region that draws -/
theorem step_call2 {w : World} {ops : Array Oper} {o : Oper} {a : Act} {K : Act → World → Prop} {Q : Exit → Act → World → Prop} {E : Prop} {f : FuncId} {fn : Func} {code : Code} {u v : Value} {R : Ending → World → Prop} (x y : Operand) (t t' : TypeId)
    (hg : o.guard = none) (hop : o.op = Op.call { callee := .value (.func f), args := #[x, y], argTypes := #[t, t'] }) (hx : a.eval x = u) (hy : a.eval y = v)
    (hf : Try.prog.funcs[f]? = some fn) (hname : (fn.name == "runtime.NumGoroutine") = false) (hb : fn.body = some code)
    (hc : Calls Try.prog f #[u, v] w R) (hR : ∀ e w', R e w' → ∃ z, e = .returned z ∧ K (a.put o.dst z) w') :
    if Region.wanted o (yielded ops a.tmps) = true then Oper.wp Try.prog o a w K Q else E := by
  have hw : Region.wanted o (yielded ops a.tmps) = true := by simp [Region.wanted, hg]
  rw [if_pos hw]
  have h1 : fn.name ≠ "runtime.NumGoroutine" := by simpa using hname
  unfold Oper.wp
  have he : (execOp a.eval o).run Try.prog w = .ok (.enter f #[u, v]) w := by
    have hev : a.eval (.func f) = .func (.func f) #[] #[] := rfl
    simp [execOp, hop, resolve, invoke, hx, hy, hev, Deferred.ofValue, callFunc, hf, h1, hb]
  rw [he, Oper.upon_enter]
  refine hc.mono ?_
  intro e w' hr
  obtain ⟨z, rfl, hk⟩ := hR e w' hr
  exact hk
/-- one byte more, at a step of a region that draws -/
theorem step_pushG {B : Nat} {v : Value} {xs : List UInt8} {w : World} {H : Nat} (hH : w.heap.size = H) (hown : Has w B v xs) (c : UInt8) (hlen : xs.length + 1 ≤ 140737488355328) (hB : B ≤ w.heap.size)
    {z : Int} {ops : Array Oper} {o : Oper} {a : Act} {K : Act → World → Prop} {Q : Exit → Act → World → Prop} {E : Prop} (s x : Operand)
    (hz : z = (c.toNat : Int)) (ht : o.type = 28) (hg : o.guard = none) (hop : o.op = Op.call { callee := Callee.builtin Builtin.append, args := #[s, x], argTypes := #[28, 28] })
    (hs : a.eval s = v) (hx : a.eval x = .slice (some ⟨H, 0, none⟩) 1 1)
    (hK : ∀ q cap W ys, Hid (ys = xs ++ [c]) → Grew w B v W (.slice q ys.length cap) ys → K (a.put o.dst (.slice q ys.length cap)) W) :
    if Region.wanted o (yielded ops a.tmps) = true then Oper.wp Try.prog o a (w.alloc (.cells #[.int .u8 z] 5)) K Q else E := by
  have hw : Region.wanted o (yielded ops a.tmps) = true := by simp [Region.wanted, hg]
  rw [if_pos hw]
  subst hH
  have hb : Below w.heap.size w (w.alloc (.cells #[.int .u8 z] 5)) := (Below.refl _ _).alloc (Nat.le_refl _) _
  obtain ⟨q, cap, W, ⟨hr⟩, hm, ha, -, hb3⟩ := onto_all B v xs [c] (some ⟨w.heap.size, 0, none⟩) 1 _ (hown.alloc _) (one_atK w z c hz) (by simpa using hlen) (Nat.le_trans hB hb.size)
  unfold Oper.wp
  have hl1 : [c].length = 1 := rfl
  rw [hl1] at hr
  have he : (execOp a.eval o).run Try.prog (w.alloc (.cells #[.int .u8 z] 5)) = .ok (.value (.slice q (xs ++ [c]).length cap)) W := by
    simp only [execOp, hop, resolve, invoke, builtin]
    simp [hs, hx, ht, hr, Result.andThen]
  rw [he]
  exact hK q cap W (xs ++ [c]) (Lib.hid rfl) (Grew.from ⟨hm, ha, hb3⟩ hb hown)

set_option maxRecDepth 100000 in
set_option maxHeartbeats 2000000 in
theorem appendColumnK (x : Col) (w0 w : World) (u : Array Value) (v : Value) (xs : List UInt8) (hu : CLies w0 u x) (hwf : x.wf) (hn : x.name.size ≤ 16) (hty : Ty.check 1 x.ty = 0) (hdf : x.has = true → chk 1 x.dflt = 0) (hb0 : Below w0.heap.size w0 w) (hv : Has w w0.heap.size v xs) (hlen : xs.length ≤ 90000) :
    Calls Try.prog 72 #[v, .agg u] w fun e w' => ∃ ys q cap, (ys = xs ++ Sch.cB x ∨ (1024 < ys.length ∧ 1024 < (xs ++ Sch.cB x).length)) ∧ ys.length ≤ xs.length + 3000 ∧ e = .returned (.slice q ys.length cap) ∧ Grew w w0.heap.size v w' (.slice q ys.length cap) ys := by
  obtain ⟨k, tp, tn, tc, vk, vi, vb, vt, vp, vn, vc, rfl, ht, hd⟩ := hu.out
  obtain ⟨nm, ty, has, df⟩ := x
  obtain ⟨wn, wty, wd⟩ := hwf
  dsimp only at ht hd hty hn wn wty wd hdf
  unfold cells9
  have hBs := hb0.size
  obtain ⟨W0, hW0⟩ : ∃ W0, W0 = w.alloc (.cells #[.string nm, .int .i64 k, .slice tp tn tc, .bool has, .int .i64 vk, .int .i64 vi, .float .f64 vb, .string vt, .slice vp vn vc] 61) := ⟨_, rfl⟩
  have HBx : Hid (Below w.heap.size w W0) := by rw [hW0]; exact (Below.refl _ _).alloc (Nat.le_refl _) _
  have HBlk : Hid (W0.heap[w.heap.size]? = some (.cells #[.string nm, .int .i64 k, .slice tp tn tc, .bool has, .int .i64 vk, .int .i64 vi, .float .f64 vb, .string vt, .slice vp vn vc] 61 (0, 0))) := by rw [hW0]; exact blk_new w _
  have HW0 := Lib.hid hW0
  have HV := Lib.hid hv
  have HB0 := Lib.hid hb0
  -- whatever grows out of v's own block leaves the copy alone
  have HKeep : Hid (∀ W v' l, Grew W0 w0.heap.size v W v' l → W.heap[w.heap.size]? = some (.cells #[.string nm, .int .i64 k, .slice tp tn tc, .bool has, .int .i64 vk, .int .i64 vi, .float .f64 vb, .string vt, .slice vp vn vc] 61 (0, 0)) ∧ Below w0.heap.size w0 W) := fun W v' l hg => by
    refine ⟨?_, (hb0.trans (HBx.out.mono hBs)).trans (hg.low (HV.out.on HBx.out) (Nat.le_trans hBs HBx.out.size))⟩
    rw [hg.aside.block _ (by have := blk_lt HBlk.out; exact this) (fun hc => by have := (HV.out.lt _ hc).2; omega)]
    exact HBlk.out
  have HC1 := Lib.hid (appendTextK v xs nm w0.heap.size W0 (hv.on HBx.out) (Nat.le_trans hBs HBx.out.size) (by omega) (by omega))
  have HC2 := Lib.hid (fun w' v' l (hg : Grew W0 w0.heap.size v w' v' l) (hl : l.length + 20 ≤ 1000000) => appendTypeK ty 1 w0 w' _ v' l hty ht (HKeep.out w' v' l hg).2 hg.has hl)
  have HC3 := Lib.hid (fun w' v' l (hb : Below w0.heap.size w0 w') (hh : Has w' w0.heap.size v' l) (hl : l.length ≤ 100000) (h1 : has = true) => appendValueK df 1 w0 w' _ v' l (hdf h1) wd hd hb hh hl)
  have hns : nm.data.toList.length = nm.size := by rw [Array.length_toList]; rfl
  have hpl := Leb.put_length_le nm.size
  have htl := tyB_len4 hty
  have HcB : Hid (Sch.cB ⟨nm, ty, has, df⟩ = Leb.put nm.size ++ (nm.data.toList ++ (Sch.tyB ty ++ (if has then 1 else 0) :: (if has then Sch.vB df else [])))) := rfl
  obtain ⟨l1, hl1⟩ : ∃ l, l = xs ++ (Leb.put nm.size ++ nm.data.toList) := ⟨_, rfl⟩
  have hl1n : l1.length ≤ xs.length + 26 := by rw [hl1, List.length_append, List.length_append]; omega
  rw [← hl1] at HC1
  unfold cells2 at HC2
  unfold cells5 at HC3
  obtain ⟨cb, hcb⟩ : ∃ l, l = Sch.cB ⟨nm, ty, has, df⟩ := ⟨_, rfl⟩
  rw [← hcb] at HcB ⊢
  have HL1 := Lib.hid hl1
  clear hW0 hu ht hd hty hdf hv hb0 hl1 hcb wn wty wd hns hpl
  go_enter Try.func72, Try.ntmps72
  go_wp2_with fail
  rw [← HW0.out]
  clear HW0
  refine HC1.out.mono ?_
  rintro e w1 ⟨q1, cap1, rfl, hg1⟩
  have HG1 := Lib.hid hg1
  obtain ⟨hblk1, -⟩ := HKeep.out _ _ _ hg1
  have c1 : w1.cell? ⟨w.heap.size, 1, none⟩ = some (.int .i64 k) := blk_cell hblk1 1
  have c2 : w1.cell? ⟨w.heap.size, 2, none⟩ = some (.slice tp tn tc) := blk_cell hblk1 2
  obtain ⟨l2, hl2⟩ : ∃ l, l = l1 ++ Sch.tyB ty := ⟨_, rfl⟩
  have HC2' := Lib.hid (HC2.out w1 (.slice q1 l1.length cap1) l1 HG1.out (by omega))
  rw [← hl2] at HC2'
  have hl2n : l2.length ≤ xs.length + 31 := by rw [hl2, List.length_append]; omega
  have HL2 := Lib.hid hl2
  clear hg1 hblk1 HC1 HC2 hl2
  go_wp2_with fail
  refine HC2'.out.mono ?_
  rintro e w2 ⟨q2, cap2, rfl, hg2⟩
  have HG2 := Lib.hid (HG1.out.trans hg2)
  obtain ⟨hblk2, hbw2⟩ := HKeep.out _ _ _ HG2.out
  have c3 : w2.cell? ⟨w.heap.size, 3, none⟩ = some (.bool has) := blk_cell hblk2 3
  have HBw2 := Lib.hid hbw2
  have hB2 := hbw2.size
  have HH2 := Lib.hid HG2.out.has
  have HGw := Lib.hid (HG2.out.from HBx.out HV.out)
  clear hg2 c1 c2 HC2' HG1 hbw2
  cases has with
  | false =>
    have HE : Hid (xs ++ cb = l2 ++ [0]) := by
      show _ = _
      rw [HcB.out, HL2.out, HL1.out]
      simp
    clear HC3 HcB HL1 HL2 HKeep hblk2
    go_wp2_with (first
      | (at_builtin; refine wp_pushG (B := w0.heap.size) rfl HH2.out 0 (by omega) hB2 (by rfl) rfl rfl rfl rfl rfl ?_
         intro q3 cap3 W ys HY hg3
         have HG3 := Lib.hid (HGw.out.trans hg3)
         clear hg3))
    go_ret
    refine ⟨ys, q3, cap3, .inl ?_, ?_, rfl, HG3.out⟩
    · rw [HE.out, HY.out]
    · rw [HY.out, List.length_append, List.length_singleton]; omega
  | true =>
    have c4 : w2.cell? ⟨w.heap.size, 4, none⟩ = some (.int .i64 vk) := blk_cell hblk2 4
    have c5 : w2.cell? ⟨w.heap.size, 5, none⟩ = some (.int .i64 vi) := blk_cell hblk2 5
    have c6 : w2.cell? ⟨w.heap.size, 6, none⟩ = some (.float .f64 vb) := blk_cell hblk2 6
    have c7 : w2.cell? ⟨w.heap.size, 7, none⟩ = some (.string vt) := blk_cell hblk2 7
    have c8 : w2.cell? ⟨w.heap.size, 8, none⟩ = some (.slice vp vn vc) := blk_cell hblk2 8
    have hblkA : ∀ o, (w2.alloc o).heap[w.heap.size]? = some (.cells #[.string nm, .int .i64 k, .slice tp tn tc, .bool true, .int .i64 vk, .int .i64 vi, .float .f64 vb, .string vt, .slice vp vn vc] 61 (0, 0)) := fun o => (blk_old w2 o (blk_lt hblk2)).trans hblk2
    have y4 : ∀ o, (w2.alloc o).cell? ⟨w.heap.size, 4, none⟩ = some (.int .i64 vk) := fun o => blk_cell (hblkA o) 4
    have y5 : ∀ o, (w2.alloc o).cell? ⟨w.heap.size, 5, none⟩ = some (.int .i64 vi) := fun o => blk_cell (hblkA o) 5
    have y6 : ∀ o, (w2.alloc o).cell? ⟨w.heap.size, 6, none⟩ = some (.float .f64 vb) := fun o => blk_cell (hblkA o) 6
    have y7 : ∀ o, (w2.alloc o).cell? ⟨w.heap.size, 7, none⟩ = some (.string vt) := fun o => blk_cell (hblkA o) 7
    have y8 : ∀ o, (w2.alloc o).cell? ⟨w.heap.size, 8, none⟩ = some (.slice vp vn vc) := fun o => blk_cell (hblkA o) 8
    clear hblkA
    have HE : Hid (xs ++ cb = l2 ++ [1] ++ Sch.vB df) := by
      show _ = _
      rw [HcB.out, HL2.out, HL1.out]
      simp
    obtain ⟨full, hfull⟩ : ∃ l, l = Sch.vB df := ⟨_, rfl⟩
    rw [← hfull] at HE HC3
    clear HcB HL1 HL2 hfull
    go_wp2_with fail
    go_region_law (first
      | (refine step_pushG (B := w0.heap.size) (xs := l2) (v := .slice q2 l2.length cap2) (w := w2.drew) (H := w2.heap.size) (by rfl) HH2.out.drew 1 (by omega) hB2 (.tmp 19) (.tmp 20) (by rfl) (by rfl) (by rfl) (by rfl) (by rfl) (by rfl) ?_
         intro q3 cap3 W ys HY hg3
         have hg3' : Grew w2 w0.heap.size (.slice q2 l2.length cap2) W (.slice q3 ys.length cap3) ys := ⟨hg3.has, ⟨hg3.aside.os, hg3.aside.tape, hg3.aside.output, hg3.aside.size, hg3.aside.block⟩, hg3.fresh⟩
         have HG3 := Lib.hid (HG2.out.trans hg3')
         have HGw3 := Lib.hid (HGw.out.trans hg3')
         have hk3 := HKeep.out _ _ _ HG3.out
         have d4 : W.cell? ⟨w.heap.size, 4, none⟩ = some (.int .i64 vk) := blk_cell hk3.1 4
         have d5 : W.cell? ⟨w.heap.size, 5, none⟩ = some (.int .i64 vi) := blk_cell hk3.1 5
         have d6 : W.cell? ⟨w.heap.size, 6, none⟩ = some (.float .f64 vb) := blk_cell hk3.1 6
         have d7 : W.cell? ⟨w.heap.size, 7, none⟩ = some (.string vt) := blk_cell hk3.1 7
         have d8 : W.cell? ⟨w.heap.size, 8, none⟩ = some (.slice vp vn vc) := blk_cell hk3.1 8
         have HBw3 := Lib.hid hk3.2
         have hyl : ys.length ≤ xs.length + 32 := by (rw [HY.out, List.length_append, List.length_singleton]; omega)
         clear hg3 hg3' hk3)
      | (refine step_call2 (.tmp 21) (.tmp 23) 28 46 (by rfl) (by rfl) (by rfl) (by rfl) Try.func99 (by kernel_rfl) (by rfl) (HC3.out W (.slice q3 ys.length cap3) ys HBw3.out HG3.out.has (by omega) (by first | rfl | trivial)) ?_
         rintro e w4 ⟨zs, q4, cap4, hpv, rfl, hg4⟩
         refine ⟨_, rfl, ?_⟩
         have HG4 := Lib.hid (HGw3.out.trans hg4)
         have HPv := Lib.hid hpv
         clear hg4 hpv))
    all_goals
      go_wp2
      go_ret
      refine ⟨zs, q4, cap4, ?_, ?_, rfl, HG4.out⟩
      · rw [HE.out, ← HY.out]; exact HPv.out.eq
      · have := HPv.out.len; omega
end Go.Proofs.Ytnlhpndjogjejaa

/- The landed schema: Encode, Check. -/
namespace Go.Proofs.Ytnlhpndjogjejaa
open Go.RowKit

attribute [local go_sem] run_store_float

/-- the bytes that Encode tells -/
def encB (s : List Col) : List UInt8 := if Sch.err s = 0 then Sch.bytes s else []
theorem err_colsK (s : List Col) : Sch.err s = if colsK s ≠ 0 then colsK s else if 1024 < (Sch.bytes s).length then 2 else 0 := by
  unfold Sch.err colsK
  by_cases h0 : s.length = 0
  · rw [if_pos h0, if_pos h0, if_pos (by decide)]
  · rw [if_neg h0, if_neg h0]
    by_cases h1 : 16 < s.length
    · rw [if_pos h1, if_pos h1, if_pos (by decide)]
    · rw [if_neg h1, if_neg h1]

set_option maxRecDepth 100000 in
set_option maxHeartbeats 4000000 in
theorem encodeK (s : List Col) (p : Option Addr) (c : Nat) (w : World) (hs : s.length * 120 ≤ 140737488351232) (hx : Cols w p s) (hwf : ∀ x ∈ s, x.wf) :
    Calls Try.prog 46 #[.agg #[.slice p s.length c]] w fun e w' => ∃ q cap, e = .returned (.tuple #[.slice q (encB s).length cap, .int .i64 (Sch.err s : Nat)]) ∧ At w' q (encB s) ∧ (encB s).length ≤ cap ∧ Below w.heap.size w w' := by
  obtain ⟨W0, hW0⟩ : ∃ W0, W0 = w.alloc (.cells #[.slice p s.length c] 24) := ⟨_, rfl⟩
  have HB0 : Hid (Below w.heap.size w W0) := by rw [hW0]; exact (Below.refl _ _).alloc (Nat.le_refl _) _
  have HY0 : Hid (W0.cell? ⟨w.heap.size, 0, none⟩ = some (.slice p s.length c)) := by show _ = _; rw [hW0]; simp
  have HW0 := Lib.hid hW0
  have HX := Lib.hid hx
  have HWf := Lib.hid hwf
  have HE := Lib.hid (err_colsK s)
  have HC := Lib.hid (checkColumnsK s p c W0 (hx.on HB0.out) hwf)
  have HEnc : Hid (encB s = if Sch.err s = 0 then Sch.bytes s else []) := rfl
  have HK0 : Hid (colsK s = 0 → s.length ≤ 16 ∧ Sch.colsErr [] s = 0) := fun h => by
    unfold colsK at h
    split at h
    · omega
    · split at h
      · omega
      · exact ⟨by omega, h⟩
  obtain ⟨L, hL⟩ : ∃ L, L = encB s := ⟨_, rfl⟩
  obtain ⟨R, hR⟩ : ∃ R, R = Sch.err s := ⟨_, rfl⟩
  rw [← hL] at HEnc ⊢
  rw [← hR] at HE HEnc ⊢
  obtain ⟨ck, hck⟩ : ∃ n, n = colsK s := ⟨_, rfl⟩
  rw [← hck] at HC HE HK0
  clear hW0 hx hwf hL hR hck
  go_enter Try.func46, Try.ntmps46
  go_wp2_with fail
  rw [← HW0.out]
  clear HW0
  refine HC.out.mono ?_
  rintro e w1 ⟨rfl, hb1⟩
  have y1 := cell_on hb1 HY0.out
  have HB1 := Lib.hid (HB0.out.trans (hb1.mono HB0.out.size))
  clear hb1 HC HY0
  by_cases h0 : ¬ ck = 0
  · have g0 : ((ck : Int) != 0) = true := bne_t (by omega)
    have HR2 : Hid (R = ck) := by show _ = _; rw [HE.out, if_pos h0]
    have HL2 : Hid (L = []) := by show _ = _; rw [HEnc.out, HR2.out, if_neg h0]
    clear h0 HE HEnc HK0
    go_wp2
    go_ret2
    rw [HL2.out, HR2.out]
    exact ⟨none, 0, rfl, .inl rfl, Nat.le_refl _, HB1.out⟩
  replace h0 : ck = 0 := Classical.not_not.1 h0
  have g0 : ((ck : Int) != 0) = false := bne_f (by omega)
  obtain ⟨hs16, hce⟩ := HK0.out h0
  have HR2 : Hid (R = if 1024 < (Sch.bytes s).length then 2 else 0) := by show _ = _; rw [HE.out, if_neg (by omega)]
  have HCe := Lib.hid hce
  have HP := Lib.hid (put_any s.length (by omega))
  have hpl := Leb.put_length_le s.length
  have HBy : Hid (Sch.bytes s = Leb.put s.length ++ (s.map Sch.cB).flatten) := rfl
  obtain ⟨l0, hl0⟩ : ∃ l0, l0 = Leb.put s.length := ⟨_, rfl⟩
  rw [← hl0] at HP hpl HBy
  obtain ⟨by0, hby⟩ : ∃ l, l = Sch.bytes s := ⟨_, rfl⟩
  rw [← hby] at HBy HR2 HEnc
  have hs16' : (s.length : Int) ≤ 16 := by omega
  clear h0 HE HK0 hce hl0 hby
  go_wp2_with fail
  refine (HP.out _).mono ?_
  rintro e w2 ⟨g, cap0, rfl, hm, hb2⟩
  have y2 := cell_on hb2 y1
  have HH2 := Lib.hid hm.has
  have HB2 := Lib.hid hb2
  clear hm hb2 HP y1
  have HZ0 : Hid (l0 = l0 ++ ((s.take 0).map Sch.cB).flatten) := by show _ = _; simp
  go_wp2_with fail
  go_loopw [5, 22] (fun v5 v22 wr => ∃ (j : Nat) (zs : List UInt8) (q : Option Addr) (cap : Nat), j ≤ s.length ∧ v22 = .int .i64 j ∧ v5 = .slice q zs.length cap ∧ zs.length ≤ 10 + j * 3000 ∧ Hid ((zs = l0 ++ ((s.take j).map Sch.cB).flatten ∨ (1024 < zs.length ∧ 1024 < (l0 ++ ((s.take j).map Sch.cB).flatten).length)) ∧ Has wr w1.heap.size (.slice q zs.length cap) zs ∧ Below w1.heap.size w1 wr)) (fun _ v22 _ => s.length - (intOf v22).toNat)
  case atStart => exact ⟨0, l0, some ⟨g, 0, none⟩, cap0, by omega, rfl, rfl, by omega, .inl HZ0.out, HH2.out, HB2.out⟩
  case round =>
    obtain ⟨j, zs, q, cap, hj, rfl, rfl, hzl, HL⟩ := hrel
    by_cases hlt : j < s.length
    · have hbr : Below w.heap.size w wr := HB1.out.trans (HL.out.2.2.mono HB1.out.size)
      obtain ⟨bx, ox, k, tp, tn, tc, vk, vi, vb, vt, vp, vn, vc, rfl, _, h9, htx, hvx⟩ := (HX.out.on HB1.out).at j hlt
      obtain ⟨a0, a1, a2, a3, a4, a5, a6, a7, a8⟩ := h9.on HL.out.2.2
      have hj1 : (j : Int) < (s.length : Int) := by omega
      obtain ⟨l', hce⟩ := Sch.colsErr_mem s [] HCe.out s[j] (List.getElem_mem hlt)
      obtain ⟨o1, -, o3, -, o5⟩ := Sch.col_open hce
      have hnm := (Sch.name_size o1).2
      obtain ⟨wa, hwa⟩ : ∃ wa, wa = wr.alloc (.cells #[.string s[j].name, .int .i64 k, .slice tp tn tc, .bool s[j].has, .int .i64 vk, .int .i64 vi, .float .f64 vb, .string vt, .slice vp vn vc] 61) := ⟨_, rfl⟩
      have HBa : Hid (Below wr.heap.size wr wa) := by rw [hwa]; exact (Below.refl _ _).alloc (Nat.le_refl _) _
      have hsz := HL.out.2.2.size
      have hb1a : Below w1.heap.size w1 wa := HL.out.2.2.trans (HBa.out.mono hsz)
      have HB1a := Lib.hid hb1a
      have HCol := Lib.hid (appendColumnK s[j] w1 wa _ (.slice q zs.length cap) zs ⟨k, tp, tn, tc, vk, vi, vb, vt, vp, vn, vc, rfl, htx, hvx⟩ (HWf.out _ (List.getElem_mem hlt)) hnm o3 (fun h => (o5 h).1) hb1a (HL.out.2.1.on HBa.out) (by omega))
      have HHa := Lib.hid (HL.out.2.1.on HBa.out)
      have HTk := Lib.hid (Sch.flatten_take Sch.cB s j hlt)
      have HTl := Lib.hid (Sch.flatten_take_le Sch.cB s j)
      have HOld := Lib.hid HL.out.1
      unfold cells9 at HCol
      obtain ⟨cb, hcb⟩ : ∃ l, l = Sch.cB s[j] := ⟨_, rfl⟩
      rw [← hcb] at HCol HTk
      generalize s[j].name = nm at *
      generalize s[j].has = hs0 at *
      have HWa := Lib.hid hwa
      clear h9 htx hvx hce o1 o3 o5 hnm hwa hb1a HL hbr hcb
      go_wp2_with fail
      rw [← HWa.out]
      clear HWa a0 a1 a2 a3 a4 a5 a6 a7 a8
      refine HCol.out.mono ?_
      rintro e w3 ⟨ys, q3, cap3, hor, hyl, rfl, hg3⟩
      have HN : Hid ((ys = l0 ++ ((s.take (j + 1)).map Sch.cB).flatten ∨ (1024 < ys.length ∧ 1024 < (l0 ++ ((s.take (j + 1)).map Sch.cB).flatten).length)) ∧ Has w3 w1.heap.size (.slice q3 ys.length cap3) ys ∧ Below w1.heap.size w1 w3) := by
        refine ⟨?_, hg3.has, HB1a.out.trans (hg3.low HHa.out HB1a.out.size)⟩
        have hge : ∀ (A : List UInt8), (A ++ cb).length = A.length + cb.length := fun A => List.length_append
        rw [HTk.out, ← List.append_assoc]
        rcases HOld.out with h1 | h1
        · rw [← h1]; exact hor
        · refine .inr ⟨?_, ?_⟩
          · rcases hor with h2 | h2
            · rw [h2, List.length_append]; omega
            · exact h2.1
          · rw [List.length_append]; omega
      have hys : ys.length ≤ 10 + (j + 1) * 3000 := by omega
      clear hor hg3 hyl HCol HHa HTk HTl HOld
      go_wp2
      go_roundw
      case rel => exact ⟨j + 1, ys, q3, cap3, by omega, by go_num, rfl, hys, HN.out⟩
      case measure => simp [intOf]; omega
    · have hjn : ¬ (j : Int) < (s.length : Int) := by omega
      have HF : Hid (Below w.heap.size w wr) := HB1.out.trans (HL.out.2.2.mono HB1.out.size)
      have hor : (zs = by0 ∨ (1024 < zs.length ∧ 1024 < by0.length)) := by
        have h1 := HL.out.1
        rw [List.take_of_length_le (by omega), ← HBy.out] at h1
        exact h1
      have HH := Lib.hid HL.out.2.1
      clear HL
      by_cases hbig : 1024 < zs.length
      · have gb : (1024 : Int) < (zs.length : Int) := by omega
        have hby1 : 1024 < by0.length := by
          rcases hor with h1 | h1
          · rw [← h1]; exact hbig
          · exact h1.2
        have HR3 : Hid (R = 2) := by show _ = _; rw [HR2.out, if_pos hby1]
        have HL3 : Hid (L = []) := by show _ = _; rw [HEnc.out, HR3.out, if_neg (by decide)]
        clear hor hbig hby1 HR2 HEnc
        go_wp2
        go_ret2
        rw [HL3.out, HR3.out]
        exact ⟨none, 0, rfl, .inl rfl, Nat.le_refl _, HF.out⟩
      · have gb : ¬ (1024 : Int) < (zs.length : Int) := by omega
        have hzb : zs = by0 := by
          rcases hor with h1 | h1
          · exact h1
          · exact absurd h1.1 hbig
        have HR3 : Hid (R = 0) := by show _ = _; rw [HR2.out, if_neg (by rw [← hzb]; exact hbig)]
        have HL3 : Hid (L = zs) := by show _ = _; rw [HEnc.out, HR3.out, if_pos rfl, hzb]
        obtain ⟨q', cap', he, hat, hcap⟩ := HH.out.at
        injection he with e1 _ e2
        subst e1 e2
        have HAt := Lib.hid hat
        clear hor hbig hzb HR2 HEnc hat
        go_wp2
        go_ret2
        rw [HL3.out, HR3.out]
        exact ⟨_, _, rfl, HAt.out, hcap, HF.out⟩

set_option maxRecDepth 100000 in
set_option maxHeartbeats 400000 in
theorem checkSK (s : List Col) (p : Option Addr) (c : Nat) (w : World) (hs : s.length * 120 ≤ 140737488351232) (hx : Cols w p s) (hwf : ∀ x ∈ s, x.wf) :
    Calls Try.prog 21 #[.agg #[.slice p s.length c]] w fun e w' => e = .returned (.int .i64 (Sch.err s : Nat)) ∧ Below w.heap.size w w' := by
  have HB1 : Hid (Below w.heap.size w (w.alloc (.cells #[.slice p s.length c] 24))) := (Below.refl _ _).alloc (Nat.le_refl _) _
  have HC := Lib.hid (encodeK s p c _ hs (hx.on HB1.out) hwf)
  obtain ⟨R, hR⟩ : ∃ R, R = Sch.err s := ⟨_, rfl⟩
  rw [← hR] at HC ⊢
  obtain ⟨L, hL⟩ : ∃ R, R = encB s := ⟨_, rfl⟩
  rw [← hL] at HC
  clear hR hL hx hwf
  go_enter Try.func21, Try.ntmps21
  go_wp2_with fail
  refine HC.out.mono ?_
  rintro e w2 ⟨q, cap, rfl, -, -, hb2⟩
  have HB2 := Lib.hid (HB1.out.trans (hb2.mono HB1.out.size))
  clear hb2 HC
  go_wp2
  go_ret
  exact ⟨rfl, HB2.out⟩
end Go.Proofs.Ytnlhpndjogjejaa

/- The landed row's writer: how it lies. -/
namespace Go.Proofs.Ytnlhpndjogjejaa
open Go.RowKit

theorem aside_set (w : World) (R m : Nat) (u : Value) : Aside (fun i => i = R) w (w.setCell ⟨R, m, none⟩ u) := (Aside.refl (fun i => i = R) w).setCell (p := ⟨R, m, none⟩) (.inl rfl) u
/-- bytes more, at a step of a region that draws -/
theorem step_ontoG {B : Nat} {v : Value} {xs l : List UInt8} {p : Option Addr} {c : Nat} {w : World} (hown : Has w B v xs) (h : At w p l) (hlen : xs.length + l.length ≤ 140737488355328) (hB : B ≤ w.heap.size)
    {ops : Array Oper} {o : Oper} {a : Act} {K : Act → World → Prop} {Q : Exit → Act → World → Prop} {E : Prop} (s x : Operand)
    (ht : o.type = 28) (hg : o.guard = none) (hop : o.op = Op.call { callee := Callee.builtin Builtin.append, args := #[s, x], argTypes := #[28, 28] })
    (hs : a.eval s = v) (hx : a.eval x = .slice p l.length c)
    (hK : ∀ q cap W ys, Hid (ys = xs ++ l) → Grew w B v W (.slice q ys.length cap) ys → K (a.put o.dst (.slice q ys.length cap)) W) :
    if Region.wanted o (yielded ops a.tmps) = true then Oper.wp Try.prog o a w K Q else E := by
  have hw : Region.wanted o (yielded ops a.tmps) = true := by simp [Region.wanted, hg]
  rw [if_pos hw]
  obtain ⟨q, cap, W, ⟨hr⟩, hm, ha, -, hb3⟩ := onto_all B v xs l p c w hown h hlen hB
  unfold Oper.wp
  have he : (execOp a.eval o).run Try.prog w = .ok (.value (.slice q (xs ++ l).length cap)) W := by
    simp only [execOp, hop, resolve, invoke, builtin]
    simp [hs, hx, ht, hr, Result.andThen]
  rw [he]
  exact hK q cap W (xs ++ l) (Lib.hid rfl) ⟨hm, ha, hb3⟩

/-- a call of a function value of two arguments, at a step of a region that draws -/
theorem step_callv2 {w : World} {ops : Array Oper} {o : Oper} {a : Act} {K : Act → World → Prop} {Q : Exit → Act → World → Prop} {E : Prop} {f : FuncId} {u v : Value} {R : Ending → World → Prop} (y x x' : Operand) (t t' : TypeId)
    (hg : o.guard = none) (hop : o.op = Op.call { callee := .value y, args := #[x, x'], argTypes := #[t, t'] }) (hy : a.eval y = .func (.func f) #[] #[]) (hx : a.eval x = u) (hx' : a.eval x' = v)
    (hE : ∀ (args : Array Value) (w : World), (callFunc f args).run Try.prog w = .ok (.enter f args) w)
    (hc : Calls Try.prog f #[u, v] w R) (hR : ∀ e w', R e w' → ∃ v, e = .returned v ∧ K (a.put o.dst v) w') :
    if Region.wanted o (yielded ops a.tmps) = true then Oper.wp Try.prog o a w K Q else E := by
  have hw : Region.wanted o (yielded ops a.tmps) = true := by simp [Region.wanted, hg]
  rw [if_pos hw]
  unfold Oper.wp
  have he : (execOp a.eval o).run Try.prog w = .ok (.enter f #[u, v]) w := by
    simp [execOp, hop, resolve, invoke, hx, hx', hy, Deferred.ofValue, hE]
  rw [he, Oper.upon_enter]
  refine hc.mono ?_
  intro e w' hr
  obtain ⟨v, rfl, hk⟩ := hR e w' hr
  exact hk
/-- and one that panics -/
theorem step_callv2b {w : World} {ops : Array Oper} {o : Oper} {a : Act} {K : Act → World → Prop} {Q : Exit → Act → World → Prop} {E : Prop} {f : FuncId} {u v : Value} {R : Ending → World → Prop} (y x x' : Operand) (t t' : TypeId)
    (hg : o.guard = none) (hop : o.op = Op.call { callee := .value y, args := #[x, x'], argTypes := #[t, t'] }) (hy : a.eval y = .func (.func f) #[] #[]) (hx : a.eval x = u) (hx' : a.eval x' = v)
    (hE : ∀ (args : Array Value) (w : World), (callFunc f args).run Try.prog w = .ok (.enter f args) w)
    (hc : Calls Try.prog f #[u, v] w R) (hR : ∀ e w', R e w' → ∃ ch, e = .panicked ch ∧ Q (.panic ch) a w') (v' : Value) (_ : Hid False → K (a.put o.dst v') w) :
    if Region.wanted o (yielded ops a.tmps) = true then Oper.wp Try.prog o a w K Q else E := by
  have hw : Region.wanted o (yielded ops a.tmps) = true := by simp [Region.wanted, hg]
  rw [if_pos hw]
  unfold Oper.wp
  have he : (execOp a.eval o).run Try.prog w = .ok (.enter f #[u, v]) w := by
    simp [execOp, hop, resolve, invoke, hx, hx', hy, Deferred.ofValue, hE]
  rw [he, Oper.upon_enter]
  refine hc.mono ?_
  intro e w' hr
  obtain ⟨v, rfl, hk⟩ := hR e w' hr
  exact hk
/-- a function with a body is entered -/
theorem enters {f : FuncId} {fn : Func} {code : Code} (hf : Try.prog.funcs[f]? = some fn) (hname : (fn.name == "runtime.NumGoroutine") = false) (hb : fn.body = some code) (args : Array Value) (w : World) : (callFunc f args).run Try.prog w = .ok (.enter f args) w := by
  have h1 : fn.name ≠ "runtime.NumGoroutine" := by simpa using hname
  simp [callFunc, hf, h1, hb]

/-- the table of the writer's ways -/
def waysW : Array Value := #[.nilFunc, .func (.func 47) #[] #[], .func (.func 48) #[] #[], .func (.func 49) #[] #[], .func (.func 50) #[] #[], .func (.func 50) #[] #[], .func (.func 51) #[] #[], .func (.func 51) #[] #[]]

/-- the writer in block R has made l -/
structure Wtr (w : World) (B R : Nat) (most : Int) (l : List UInt8) : Prop where
  out : ∃ T q cap, w.heap[R]? = some (.cells #[.slice (some ⟨T, 0, none⟩) 8 8, .slice q l.length cap, .int .i64 most] 68 (0, 0)) ∧ w.heap[T]? = some (.cells waysW 91 (0, 0)) ∧ Has w B (.slice q l.length cap) l ∧ T ≠ R ∧ T < B
  low : R < B
  base : B ≤ w.heap.size
theorem Wtr.on {w w' : World} {B R : Nat} {most : Int} {l : List UInt8} (h : Wtr w B R most l) (hb : Below w.heap.size w w') : Wtr w' B R most l := by
  obtain ⟨T, q, cap, h1, h2, h3, h4, h5⟩ := h.out
  exact ⟨⟨T, q, cap, by rw [hb.block R (blk_lt h1)]; exact h1, by rw [hb.block T (blk_lt h2)]; exact h2, h3.on hb, h4, h5⟩, h.low, Nat.le_trans h.base hb.size⟩
theorem Wtr.lt {w : World} {B R : Nat} {most : Int} {l : List UInt8} (h : Wtr w B R most l) : R < w.heap.size := Nat.lt_of_lt_of_le h.low h.base
/-- the block of the writer's bytes -/
def ownW (w : World) (R k : Nat) : Prop := ∃ t v m, w.heap[R]? = some (.cells #[t, v, m] 68 (0, 0)) ∧ v.ownBlock = some k
theorem ownW_same {w w' : World} {R : Nat} (h : w'.heap[R]? = w.heap[R]?) (k : Nat) : ownW w' R k ↔ ownW w R k := by unfold ownW; rw [h]
theorem ownW_is {w : World} {R k : Nat} {t v m : Value} (h : w.heap[R]? = some (.cells #[t, v, m] 68 (0, 0))) (ho : ownW w R k) : v.ownBlock = some k := by
  obtain ⟨t', v', m', h1, h2⟩ := ho
  rw [h] at h1
  injection h1 with h1
  injection h1 with h1
  simp only [Array.mk.injEq, List.cons.injEq, and_true] at h1
  rw [h1.2.1]
  exact h2
theorem Wtr.owns {w : World} {B R : Nat} {most : Int} {l : List UInt8} (h : Wtr w B R most l) {k : Nat} (ho : ownW w R k) : B ≤ k ∧ k < w.heap.size := by
  obtain ⟨T, q, cap, h1, h2, h3, h4, h5⟩ := h.out
  exact h3.lt k (ownW_is h1 ho)
/-- nothing changed but the writer and its bytes -/
structure AsW (R : Nat) (w w' : World) : Prop where
  aside : Aside (fun k => k = R ∨ ownW w R k) w w'
  fresh : ∀ k, ownW w' R k → ownW w R k ∨ w.heap.size ≤ k
theorem AsW.trans {R : Nat} {w w1 w2 : World} (h : AsW R w w1) (k : AsW R w1 w2) : AsW R w w2 := by
  have hs := h.aside.size
  refine ⟨h.aside.trans k.aside (fun i hi hc => ?_), fun i hi => ?_⟩
  · rcases hc with h1 | h1
    · exact .inl h1
    · rcases h.fresh i h1 with h2 | h2
      · exact .inr h2
      · omega
  · rcases k.fresh i hi with h1 | h1
    · exact h.fresh i h1
    · exact .inr (by omega)
theorem AsW.new {R : Nat} {w w1 : World} (hR : R < w.heap.size) (h : Below w.heap.size w w1) : AsW R w w1 := ⟨aside_new h _, fun k hk => .inl ((ownW_same (h.block R hR) k).1 hk)⟩
theorem AsW.below {A B R : Nat} {most : Int} {l : List UInt8} {w w1 : World} (h : AsW R w w1) (hw : Wtr w B R most l) (hA : A ≤ R) : Below A w w1 := by
  have h1 := hw.low
  have h2 := hw.base
  exact h.aside.below (by omega) (fun k hk hc => by
    rcases hc with h3 | h3
    · omega
    · have := (hw.owns h3).1; omega)
/-- what lies in a block that was made behind the writer -/
theorem AsW.far {B R : Nat} {most : Int} {l : List UInt8} {w W0 w1 : World} (h : AsW R W0 w1) (hw : Wtr w B R most l) (hb : Below w.heap.size w W0) {k : Nat} (h1 : w.heap.size ≤ k) (h2 : k < W0.heap.size) : w1.heap[k]? = W0.heap[k]? := by
  have hR := hw.lt
  refine h.aside.block k h2 (fun hc => ?_)
  rcases hc with h3 | h3
  · omega
  · have := (hw.owns ((ownW_same (hb.block R hR) k).1 h3)).2; omega
/-- more was made -/
theorem Wtr.more {w w1 : World} {B R T : Nat} {most : Int} {q q1 : Option Addr} {cap cap1 : Nat} {l ys : List UInt8} (h : Wtr w B R most l) (h1 : w.heap[R]? = some (.cells #[.slice (some ⟨T, 0, none⟩) 8 8, .slice q l.length cap, .int .i64 most] 68 (0, 0))) (h2 : w.heap[T]? = some (.cells waysW 91 (0, 0))) (h4 : T ≠ R) (h5 : T < B) (h3 : Has w B (.slice q l.length cap) l) (hg : Grew w B (.slice q l.length cap) w1 (.slice q1 ys.length cap1) ys) :
    w1.heap[R]? = some (.cells #[.slice (some ⟨T, 0, none⟩) 8 8, .slice q l.length cap, .int .i64 most] 68 (0, 0)) ∧ Wtr (w1.setCell ⟨R, 1, none⟩ (.slice q1 ys.length cap1)) B R most ys ∧ AsW R w (w1.setCell ⟨R, 1, none⟩ (.slice q1 ys.length cap1)) := by
  have hl := h.low
  have hB := h.base
  have hlt := h3.lt
  have k1 : ∀ k, k < B → w1.heap[k]? = w.heap[k]? := fun k hk => hg.aside.block k (by omega) (fun hc => by have := (hlt k hc).1; omega)
  have r1 : w1.heap[R]? = some (.cells #[.slice (some ⟨T, 0, none⟩) 8 8, .slice q l.length cap, .int .i64 most] 68 (0, 0)) := (k1 R hl).trans h1
  have ha : Aside (fun i => i = R) w1 (w1.setCell ⟨R, 1, none⟩ (.slice q1 ys.length cap1)) := aside_set _ _ _ _
  have hs := hg.aside.size
  have hs2 := ha.size
  refine ⟨r1, ⟨⟨T, q1, cap1, by rw [blk_set r1 1]; rfl, ?_, ?_, h4, h5⟩, hl, by omega⟩, ?_⟩
  · rw [ha.block T (by omega) h4, k1 T h5]; exact h2
  · exact hg.has.aside ha (fun k hk he => by have := (hg.has.lt k hk).1; omega)
  · refine ⟨Aside.trans (Aside.mono hg.aside (fun k hk hc => .inr ⟨_, _, _, h1, hc⟩)) ha (fun k hk he => .inl he), fun k hk => ?_⟩
    have e1 : (w1.setCell ⟨R, 1, none⟩ (.slice q1 ys.length cap1)).heap[R]? = some (.cells #[.slice (some ⟨T, 0, none⟩) 8 8, .slice q1 ys.length cap1, .int .i64 most] 68 (0, 0)) := by rw [blk_set r1 1]; rfl
    rcases hg.fresh k (ownW_is e1 hk) with h6 | h6
    · exact .inl ⟨_, _, _, h1, h6⟩
    · exact .inr h6

/-- bytes put behind others; what is too long already need not grow on -/
structure PutW (most : Int) (xs full ys : List UInt8) : Prop where
  eq : ys = xs ++ full ∨ (most < ys.length ∧ most < (xs ++ full).length)
  len : ys.length ≤ xs.length + full.length
theorem PutW.all {most : Int} {xs full : List UInt8} : PutW most xs full (xs ++ full) := ⟨.inl rfl, by rw [List.length_append]; omega⟩
/-- what such a call answers -/
def WrA (w : World) (B R : Nat) (most : Int) (xs full : List UInt8) (e : Ending) (w' : World) : Prop := ∃ ys, PutW most xs full ys ∧ e = .returned (.tuple #[]) ∧ Wtr w' B R most ys ∧ AsW R w w'

theorem waysToWriteK (w : World) : Calls Try.prog 22 #[] w fun e w' => e = .returned (.slice (some ⟨w.heap.size, 0, none⟩) 8 8) ∧ w' = w.alloc (.cells waysW 91) := by
  go_enter Try.func22, Try.ntmps22
  go_wp2_with fail
  go_ret
  exact ⟨rfl, rfl⟩
theorem Wtr.drew {w : World} {B R : Nat} {most : Int} {l : List UInt8} (h : Wtr w B R most l) : Wtr w.drew B R most l := h.on ((Below.refl _ _).drew)
theorem wtr_start (w : World) (most : Int) : Wtr ((w.alloc (.cells waysW 91)).alloc (.cells #[.slice (some ⟨w.heap.size, 0, none⟩) 8 8, .slice none 0 0, .int .i64 most] 68)) (w.heap.size + 2) (w.heap.size + 1) most [] := by
  refine ⟨⟨w.heap.size, none, 0, ?_, ?_, has_nil _ _, by omega, by omega⟩, by omega, by simp⟩
  · have := blk_new (w.alloc (.cells waysW 91)) (.cells #[.slice (some ⟨w.heap.size, 0, none⟩) 8 8, .slice none 0 0, .int .i64 most] 68)
    simpa using this
  · rw [blk_old _ _ (by simp)]
    exact blk_new w _
end Go.Proofs.Ytnlhpndjogjejaa

/- The landed row's writer: its small calls. -/
namespace Go.Proofs.Ytnlhpndjogjejaa
open Go.RowKit

attribute [local go_sem] run_store_float

set_option maxRecDepth 100000 in
set_option maxHeartbeats 1000000 in
theorem numberW (n : Nat) (hn : n < 18446744073709551616) (xs : List UInt8) (hx : xs.length ≤ 100000000000000) (B R : Nat) (most : Int) (w : World) (h : Wtr w B R most xs) : Calls Try.prog 73 #[.pointer (some ⟨R, 0, none⟩), .int .u64 n] w fun e w' => e = .returned (.tuple #[]) ∧ Wtr w' B R most (xs ++ Leb.put n) ∧ AsW R w w' := by
  have HP := Lib.hid (put_any n hn)
  have hpl := Leb.put_length_le n
  obtain ⟨l0, hl0⟩ : ∃ l0, l0 = Leb.put n := ⟨_, rfl⟩
  rw [← hl0] at HP hpl ⊢
  obtain ⟨T, q, cap, h1, h2, h3, h4, h5⟩ := h.out
  have c1 : w.cell? ⟨R, 1, none⟩ = some (.slice q xs.length cap) := blk_cell h1 1
  have HH := Lib.hid h
  have H1 := Lib.hid h1
  have H2 := Lib.hid h2
  have H3 := Lib.hid h3
  have hB := h.base
  clear hl0 h h1 h2 h3
  go_enter Try.func73, Try.ntmps73
  go_wp2_with fail
  go_region_law (first
    | (refine step_call1 (.tmp 9) 101 (by rfl) (by rfl) (by rfl) Try.func71 (by kernel_rfl) (by rfl) (HP.out _) ?_
       rintro e w1 ⟨g, cap0, rfl, hm, hb⟩
       refine ⟨_, rfl, ?_⟩
       have hb' : Below w.heap.size w w1 := ⟨hb.os, hb.tape, hb.output, hb.size, hb.block⟩
       have d1 : w1.cell? ⟨R, 1, none⟩ = some (.slice q xs.length cap) := cell_on hb' c1
       have HM := Lib.hid hm
       have HB1 := Lib.hid hb'
       clear hm hb hb')
    | (refine step_ontoG (B := B) (xs := xs) (l := l0) (H3.out.on HB1.out) HM.out.at (by omega) (Nat.le_trans hB HB1.out.size) (.tmp 8) (.tmp 10) (by rfl) (by rfl) (by rfl) (by rfl) (by rfl) ?_
       intro q3 cap3 W ys HY hg3
       have hM := HH.out.more H1.out H2.out h4 h5 H3.out (hg3.from HB1.out H3.out)
       have e1 : W.cell? ⟨R, 1, none⟩ = some (.slice q xs.length cap) := blk_cell hM.1 1
       have f1 : W.frozen? ⟨R, 1, none⟩ = false := blk_free hM.1 1
       have HM2 := Lib.hid hM.2
       clear hM hg3)
    | fail)
  all_goals
    go_end0
    rw [← HY.out]
    exact ⟨rfl, HM2.out⟩

section
variable {w : World} {B R : Nat} {most : Int} {xs : List UInt8} (h : Wtr w B R most xs) (hx : xs.length ≤ 90000000000000)
include h hx

set_option maxRecDepth 100000 in
set_option maxHeartbeats 1000000 in
theorem writeBoolK (k i : Int) (hi : i = 0 ∨ i = 1) (b : Nat) (t : ByteArray) (p : Option Addr) (n c : Nat) : Calls Try.prog 47 #[.pointer (some ⟨R, 0, none⟩), .agg #[.int .i64 k, .int .i64 i, .float .f64 b, .string t, .slice p n c]] w fun e w' => e = .returned (.tuple #[]) ∧ Wtr w' B R most (xs ++ [UInt8.ofNat i.toNat]) ∧ AsW R w w' := by
  obtain ⟨c0, hc0⟩ : ∃ c0, c0 = UInt8.ofNat i.toNat := ⟨_, rfl⟩
  have hkz : i = (c0.toNat : Int) := by rw [hc0, UInt8.toNat_ofNat']; omega
  have HKz : Hid (IntKind.u8.wrap i = (c0.toNat : Int)) := by
    show _ = _
    rw [← hkz]
    rcases hi with rfl | rfl <;> rfl
  rw [← hc0]
  obtain ⟨W0, hW0⟩ : ∃ W0, W0 = w.alloc (.cells #[.int .i64 k, .int .i64 i, .float .f64 b, .string t, .slice p n c] 46) := ⟨_, rfl⟩
  have HB0 : Hid (Below w.heap.size w W0) := by rw [hW0]; exact (Below.refl _ _).alloc (Nat.le_refl _) _
  have hs0 : W0.heap.size = w.heap.size + 1 := by rw [hW0]; simp
  have d1 : W0.cell? ⟨w.heap.size, 1, none⟩ = some (.int .i64 i) := by rw [hW0]; simp
  have HW0 := Lib.hid hW0
  have HH := Lib.hid (h.on HB0.out)
  obtain ⟨T, q, cap, h1, h2, h3, h4, h5⟩ := HH.out.out
  have c1 : W0.cell? ⟨R, 1, none⟩ = some (.slice q xs.length cap) := blk_cell h1 1
  have c1a : ∀ o, (W0.alloc o).cell? ⟨R, 1, none⟩ = some (.slice q xs.length cap) := fun o => cell_on ((Below.refl _ _).alloc (Nat.le_refl _) _) c1
  have H1 := Lib.hid h1
  have H2 := Lib.hid h2
  have H3 := Lib.hid h3
  have hB := HH.out.base
  have hR := h.lt
  clear h h1 h2 h3 hkz hc0 hi hW0
  go_enter Try.func47, Try.ntmps47
  go_wp2_with fail
  rw [← HW0.out]
  clear HW0
  go_region_law (first
    | (refine step_pushG (B := B) (xs := xs) (v := .slice q xs.length cap) (w := W0.drew) (H := w.heap.size + 1) (by exact hs0) H3.out.drew c0 (by omega) hB (.tmp 8) (.tmp 12) HKz.out (by rfl) (by rfl) (by rfl) (by rfl) (by rfl) ?_
       intro q3 cap3 W ys HY hg3
       have hg3' : Grew W0 B (.slice q xs.length cap) W (.slice q3 ys.length cap3) ys := ⟨hg3.has, ⟨hg3.aside.os, hg3.aside.tape, hg3.aside.output, hg3.aside.size, hg3.aside.block⟩, hg3.fresh⟩
       have hM := HH.out.more H1.out H2.out h4 h5 H3.out hg3'
       have e1 : W.cell? ⟨R, 1, none⟩ = some (.slice q xs.length cap) := blk_cell hM.1 1
       have f1 : W.frozen? ⟨R, 1, none⟩ = false := blk_free hM.1 1
       have HM2 := Lib.hid hM.2
       clear hM hg3 hg3')
    | fail)
  all_goals
    go_end0
    rw [← HY.out]
    exact ⟨rfl, HM2.out.1, (AsW.new hR HB0.out).trans HM2.out.2⟩
end
end Go.Proofs.Ytnlhpndjogjejaa

/- The landed row's writer: ints, floats, texts. -/
namespace Go.Proofs.Ytnlhpndjogjejaa
open Go.RowKit

attribute [local go_sem] run_store_float

/-- more bytes, out of a string, at a step of a region that draws -/
theorem step_ontoT {B : Nat} {v : Value} {xs : List UInt8} {t : ByteArray} {w : World} (hown : Has w B v xs) (hlen : xs.length + t.size ≤ 140737488355328) (hB : B ≤ w.heap.size)
    {ops : Array Oper} {o : Oper} {a : Act} {K : Act → World → Prop} {Q : Exit → Act → World → Prop} {E : Prop} (s x : Operand)
    (ht : o.type = 28) (hg : o.guard = none) (hop : o.op = Op.call { callee := Callee.builtin Builtin.append, args := #[s, x], argTypes := #[28, 9] })
    (hs : a.eval s = v) (hx : a.eval x = .string t)
    (hK : ∀ q cap W ys, Hid (ys = xs ++ t.data.toList) → Grew w B v W (.slice q ys.length cap) ys → K (a.put o.dst (.slice q ys.length cap)) W) :
    if Region.wanted o (yielded ops a.tmps) = true then Oper.wp Try.prog o a w K Q else E := by
  have hw : Region.wanted o (yielded ops a.tmps) = true := by simp [Region.wanted, hg]
  rw [if_pos hw]
  obtain ⟨q, cap, W, ⟨hr⟩, hm, ha, hb3⟩ := onto_str B v xs t w hown hlen hB
  unfold Oper.wp
  have he : (execOp a.eval o).run Try.prog w = .ok (.value (.slice q (xs ++ t.data.toList).length cap)) W := by
    simp only [execOp, hop, resolve, invoke, builtin]
    simp [hs, hx, ht, hr, Result.andThen]
  rw [he]
  exact hK q cap W (xs ++ t.data.toList) (Lib.hid rfl) ⟨hm, ha, hb3⟩

section
variable {w : World} {B R : Nat} {most : Int} {xs : List UInt8} (h : Wtr w B R most xs) (hx : xs.length ≤ 90000000000000)
include h hx

set_option maxRecDepth 100000 in
set_option maxHeartbeats 1000000 in
theorem writeIntK (k i : Int) (hi : -9223372036854775808 ≤ i ∧ i ≤ 9223372036854775807) (b : Nat) (t : ByteArray) (p : Option Addr) (n c : Nat) : Calls Try.prog 48 #[.pointer (some ⟨R, 0, none⟩), .agg #[.int .i64 k, .int .i64 i, .float .f64 b, .string t, .slice p n c]] w fun e w' => e = .returned (.tuple #[]) ∧ Wtr w' B R most (xs ++ Leb.put (Leb.zig i)) ∧ AsW R w w' := by
  have hz : Leb.zig i < 18446744073709551616 := by unfold Leb.zig; split <;> omega
  have HZ := Lib.hid (zig_any i hi.1 hi.2)
  obtain ⟨W0, hW0⟩ : ∃ W0, W0 = w.alloc (.cells #[.int .i64 k, .int .i64 i, .float .f64 b, .string t, .slice p n c] 46) := ⟨_, rfl⟩
  have HB0 : Hid (Below w.heap.size w W0) := by rw [hW0]; exact (Below.refl _ _).alloc (Nat.le_refl _) _
  have HN := Lib.hid (numberW (Leb.zig i) hz xs (by omega) B R most W0 (h.on HB0.out))
  obtain ⟨z, hzz⟩ : ∃ z, z = Leb.zig i := ⟨_, rfl⟩
  rw [← hzz] at HZ HN ⊢
  have HW0 := Lib.hid hW0
  have hR := h.lt
  clear hi hz h hzz hW0
  go_enter Try.func48, Try.ntmps48
  go_wp2_with fail
  refine (HZ.out _).mono ?_
  rintro e w1 ⟨rfl, hw1⟩
  rw [hw1]
  clear hw1 w1
  go_wp2_with fail
  rw [← HW0.out]
  refine HN.out.mono ?_
  rintro e w2 ⟨rfl, h2, h3⟩
  have H2 := Lib.hid h2
  have H3 := Lib.hid h3
  clear h2 h3 HN
  go_wp2
  go_end0
  exact ⟨rfl, H2.out, (AsW.new hR HB0.out).trans H3.out⟩

set_option maxRecDepth 100000 in
set_option maxHeartbeats 1000000 in
theorem writeTextK (k i : Int) (b : Nat) (t : ByteArray) (ht : t.size ≤ 1024) (p : Option Addr) (n c : Nat) : Calls Try.prog 50 #[.pointer (some ⟨R, 0, none⟩), .agg #[.int .i64 k, .int .i64 i, .float .f64 b, .string t, .slice p n c]] w fun e w' => e = .returned (.tuple #[]) ∧ Wtr w' B R most (xs ++ (Leb.put t.size ++ t.data.toList)) ∧ AsW R w w' := by
  obtain ⟨W0, hW0⟩ : ∃ W0, W0 = w.alloc (.cells #[.int .i64 k, .int .i64 i, .float .f64 b, .string t, .slice p n c] 46) := ⟨_, rfl⟩
  have HB0 : Hid (Below w.heap.size w W0) := by rw [hW0]; exact (Below.refl _ _).alloc (Nat.le_refl _) _
  have hR := h.lt
  have HHw := Lib.hid h
  have d3 : W0.cell? ⟨w.heap.size, 3, none⟩ = some (.string t) := by rw [hW0]; simp
  have hs0 : W0.heap.size = w.heap.size + 1 := by rw [hW0]; simp
  have HN := Lib.hid (numberW t.size (by omega) xs (by omega) B R most W0 (h.on HB0.out))
  have hpl := Leb.put_length_le t.size
  obtain ⟨l0, hl0⟩ : ∃ z, z = Leb.put t.size := ⟨_, rfl⟩
  rw [← hl0] at HN hpl ⊢
  have hts : (t.size : Int) ≤ 1024 := by omega
  have HW0 := Lib.hid hW0
  clear h hl0 hW0
  go_enter Try.func50, Try.ntmps50
  go_wp2_with fail
  rw [← HW0.out]
  refine HN.out.mono ?_
  rintro e w2 ⟨rfl, hw2, ha2⟩
  have HH := Lib.hid hw2
  have HA2 := Lib.hid ha2
  obtain ⟨T, q, cap, h1, h2, h3, h4, h5⟩ := hw2.out
  have c1 : w2.cell? ⟨R, 1, none⟩ = some (.slice q (xs ++ l0).length cap) := blk_cell h1 1
  have e3 : w2.cell? ⟨w.heap.size, 3, none⟩ = some (.string t) := by
    rw [World.cell?_of_block (w := W0) (ha2.far HHw.out HB0.out (Nat.le_refl _) (by show w.heap.size < _; omega))]
    exact d3
  have H1 := Lib.hid h1
  have H2 := Lib.hid h2
  have H3 := Lib.hid h3
  have hB := hw2.base
  obtain ⟨ys0, hys0⟩ : ∃ ys0, ys0 = xs ++ l0 := ⟨_, rfl⟩
  have hyl : ys0.length ≤ xs.length + 10 := by rw [hys0, List.length_append]; omega
  have HY0 : Hid (xs ++ (l0 ++ t.data.toList) = ys0 ++ t.data.toList) := by show _ = _; rw [hys0, List.append_assoc]
  rw [← hys0] at c1 H1 H3 HH
  clear hw2 ha2 h1 h2 h3 HN d3 HHw hys0
  go_wp2_with fail
  go_region_law (first
    | (refine step_ontoT (B := B) (xs := ys0) (t := t) (v := .slice q ys0.length cap) (w := w2.drew) H3.out.drew (by omega) hB (.tmp 14) (.tmp 16) (by rfl) (by rfl) (by rfl) (by rfl) (by rfl) ?_
       intro q3 cap3 W ys HY hg3
       have hg3' : Grew w2 B (.slice q ys0.length cap) W (.slice q3 ys.length cap3) ys := ⟨hg3.has, ⟨hg3.aside.os, hg3.aside.tape, hg3.aside.output, hg3.aside.size, hg3.aside.block⟩, hg3.fresh⟩
       have hM := HH.out.more H1.out H2.out h4 h5 H3.out hg3'
       have e1 : W.cell? ⟨R, 1, none⟩ = some (.slice q ys0.length cap) := blk_cell hM.1 1
       have f1 : W.frozen? ⟨R, 1, none⟩ = false := blk_free hM.1 1
       have HM2 := Lib.hid hM.2
       clear hM hg3 hg3')
    | fail)
  all_goals
    go_end0
    rw [HY0.out, ← HY.out]
    exact ⟨rfl, HM2.out.1, ((AsW.new hR HB0.out).trans HA2.out).trans HM2.out.2⟩

set_option maxRecDepth 100000 in
set_option maxHeartbeats 1000000 in
theorem writeFloatK (k i : Int) (b : Nat) (hb64 : b < 18446744073709551616) (t : ByteArray) (p : Option Addr) (n c : Nat) : Calls Try.prog 49 #[.pointer (some ⟨R, 0, none⟩), .agg #[.int .i64 k, .int .i64 i, .float .f64 b, .string t, .slice p n c]] w fun e w' => e = .returned (.tuple #[]) ∧ Wtr w' B R most (xs ++ Sch.le 8 (fixB b)) ∧ AsW R w w' := by
  obtain ⟨W0, hW0⟩ : ∃ W0, W0 = w.alloc (.cells #[.int .i64 k, .int .i64 i, .float .f64 b, .string t, .slice p n c] 46) := ⟨_, rfl⟩
  have HB0 : Hid (Below w.heap.size w W0) := by rw [hW0]; exact (Below.refl _ _).alloc (Nat.le_refl _) _
  have hf := Sch.fixB_lt hb64
  have HBits := Lib.hid (realBits_any b)
  generalize fixB b = m at *
  have HS : Hid (Eight m [] m) := ⟨by simp, hf, rfl⟩
  have HH0 := Lib.hid (h.on HB0.out)
  have hR := h.lt
  have HW0 := Lib.hid hW0
  clear hf hb64 h hW0
  go_enter Try.func49, Try.ntmps49
  go_wp2_with fail
  refine (HBits.out _).mono ?_
  rintro e w1 ⟨rfl, hw1⟩
  rw [hw1]
  clear hw1 w1
  go_wp2_with fail
  rw [← HW0.out]
  clear HW0
  go_loopw [4, 8] (fun v4 v8 wr => ∃ (n : Nat) (es : List UInt8), v4 = .int .u64 n ∧ v8 = .int .i64 es.length ∧ es.length ≤ 8 ∧ n < 18446744073709551616 ∧ Hid (Eight m es n ∧ Wtr wr B R most (xs ++ es) ∧ AsW R W0 wr)) (fun _ v8 _ => 8 - (intOf v8).toNat)
  case atStart => exact ⟨m, [], rfl, rfl, by simp, HS.out.2.1, HS.out, by rw [List.append_nil]; exact HH0.out, AsW.new HH0.out.lt (Below.refl _ _)⟩
  case round =>
    obtain ⟨z, es, rfl, rfl, h8, hz, HK⟩ := hrel
    obtain ⟨ys0, hys0⟩ : ∃ ys0, ys0 = xs ++ es := ⟨_, rfl⟩
    have hyl : ys0.length = xs.length + es.length := by rw [hys0, List.length_append]
    have HY0 := Lib.hid hys0
    have HH := Lib.hid HK.out.2.1
    have HA := Lib.hid HK.out.2.2
    rw [← hys0] at HH
    clear hys0
    by_cases hlt : es.length < 8
    · have hlt' : (es.length : Int) < 8 := by omega
      have HN := Lib.hid (eight_next HK.out.1 hlt)
      have hcn : (UInt8.ofNat (z % 256)).toNat = z % 256 := by rw [UInt8.toNat_ofNat']; omega
      generalize UInt8.ofNat (z % 256) = c1 at hcn HN
      obtain ⟨T, q, cap, h1, h2, h3, h4, h5⟩ := HH.out.out
      have r1 : wr.cell? ⟨R, 1, none⟩ = some (.slice q ys0.length cap) := blk_cell h1 1
      have H1 := Lib.hid h1
      have H2 := Lib.hid h2
      have H3 := Lib.hid h3
      have hB := HH.out.base
      have HZ : Hid ((z : Int) % 256 = (c1.toNat : Int)) := by
        show _ = _
        omega
      have HYl := Lib.hid hyl
      clear HK h1 h2 h3 hcn hyl
      go_wp2_with (first
        | (at_builtin; refine wp_pushG (B := B) (xs := ys0) (v := .slice q ys0.length cap) (w := wr) rfl H3.out c1 (by have := HYl.out; omega) hB HZ.out rfl rfl rfl rfl rfl ?_
           intro q3 cap3 W ys HY hg3
           have hM := HH.out.more H1.out H2.out h4 h5 H3.out hg3
           have e1 : W.cell? ⟨R, 1, none⟩ = some (.slice q ys0.length cap) := blk_cell hM.1 1
           have f1 : W.frozen? ⟨R, 1, none⟩ = false := blk_free hM.1 1
           have HM2 := Lib.hid hM.2
           clear hM hg3))
      go_roundw
      case rel => exact ⟨z / 256, es ++ [c1], by go_num, by simp, by simp; omega, by omega, HN.out, by rw [← List.append_assoc, ← HY0.out, ← HY.out]; exact HM2.out.1, HA.out.trans HM2.out.2⟩
      case measure => simp [intOf]; omega
    · have hjn : ¬ (es.length : Int) < 8 := by omega
      have he : Sch.le 8 m = es := by
        rw [HK.out.1.2.2, show 8 - es.length = 0 by omega]
        simp [Sch.le]
      have HE : Hid (xs ++ Sch.le 8 m = ys0) := by show _ = _; rw [he, HY0.out]
      clear HK he
      go_wp2
      go_end0
      rw [HE.out]
      exact ⟨rfl, HH.out, (AsW.new hR HB0.out).trans HA.out⟩
end
end Go.Proofs.Ytnlhpndjogjejaa
