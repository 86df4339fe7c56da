/- K7H, K7I, K7J, K7R, K7S, K7T, TBuilt, K7U: put together. -/
import Derived.Test.YtnlhpndjogjejaaGreatDoorB08
import Derived.Test.YtnlhpndjogjejaaGreatDoorB04
import Derived.Deep.RegionLaw
import Derived.Test.YtnlhpndjogjejaaGreatDoorB06
import Derived.Test.YtnlhpndjogjejaaGreatDoorB03
import Derived.Test.YtnlhpndjogjejaaGreatDoorB01
import Derived.Test.YtnlhpndjogjejaaGreatDoorB07

/- The landed schema: appendValue. -/
namespace Go.Proofs.YtnlhpndjogjejaaGreatDoor
open Go.RowKit

attribute [local go_sem] run_store_float

theorem put_0 : Leb.put 0 = [0] := by kernel_rfl
theorem put_1 : Leb.put 1 = [1] := by kernel_rfl

section
variable {w w0 : World} {v : Value} {xs : List UInt8} (hb0 : Below w0.heap.size w0 w) (hv : Has w w0.heap.size v xs) (hlen : xs.length ≤ 100000)
include hb0 hv hlen

set_option maxRecDepth 100000 in
set_option maxHeartbeats 1000000 in
theorem appendValue_1 (i : Int) (hi : i = 0 ∨ i = 1) (b : Nat) (t : ByteArray) (p : Option Addr) (n c : Nat) : Calls Tryz.prog 130 #[v, .agg #[.int .i64 1, .int .i64 i, .float .f64 b, .string t, .slice p n c]] w (GrewV w w0.heap.size v (xs ++ [UInt8.ofNat i.toNat])) := by
  obtain ⟨c0, hc0⟩ : ∃ c0, c0 = UInt8.ofNat i.toNat := ⟨_, rfl⟩
  have hkz : i = (c0.toNat : Int) := by rw [hc0, UInt8.toNat_ofNat']; omega
  have HKz := Lib.hid hkz
  have hi1 : 0 ≤ i := by omega
  have hi2 : i ≤ 1 := by omega
  rw [← hc0]
  have HV := Lib.hid hv
  have hBs := hb0.size
  have HBx : Hid (Below w.heap.size w (w.alloc (.cells #[.int .i64 1, .int .i64 i, .float .f64 b, .string t, .slice p n c] 65))) := (Below.refl _ _).alloc (Nat.le_refl _) _
  have HVx := Lib.hid (hv.on HBx.out)
  have hBx : w0.heap.size ≤ (w.alloc (.cells #[.int .i64 1, .int .i64 i, .float .f64 b, .string t, .slice p n c] 65)).heap.size := Nat.le_trans hBs HBx.out.size
  clear hkz hc0 hi hv hb0
  go_enter Tryz.func130, Tryz.ntmps130
  go_wp2_with (first
    | (at_builtin; refine wp_pushG (H := w.heap.size + 1) (by simp) HVx.out c0 (by omega) hBx HKz.out rfl rfl rfl rfl rfl ?_
       intro q2 cap2 W ys HY hg2
       have HG2 := Lib.hid (hg2.from HBx.out HV.out)
       clear hg2))
  go_ret
  rw [← HY.out]
  exact ⟨q2, cap2, rfl, HG2.out⟩

set_option maxRecDepth 100000 in
set_option maxHeartbeats 1000000 in
theorem appendValue_2 (i : Int) (hi : -9223372036854775808 ≤ i ∧ i ≤ 9223372036854775807) (b : Nat) (t : ByteArray) (p : Option Addr) (n c : Nat) : Calls Tryz.prog 130 #[v, .agg #[.int .i64 2, .int .i64 i, .float .f64 b, .string t, .slice p n c]] w (GrewV w w0.heap.size v (xs ++ Leb.put (Leb.zig i))) := by
  have hz : Leb.zig i < 18446744073709551616 := by unfold Leb.zig; split <;> omega
  have HZ := Lib.hid (zig_any i hi.1 hi.2)
  have HP := Lib.hid (put_any (Leb.zig i) hz)
  have hpl := Leb.put_length_le (Leb.zig i)
  obtain ⟨z, hzz⟩ : ∃ z, z = Leb.zig i := ⟨_, rfl⟩
  rw [← hzz] at HZ HP hpl ⊢
  obtain ⟨l0, hl0⟩ : ∃ l0, l0 = Leb.put z := ⟨_, rfl⟩
  rw [← hl0] at HP hpl ⊢
  have HV := Lib.hid hv
  have hBs := hb0.size
  have HBx : Hid (Below w.heap.size w (w.alloc (.cells #[.int .i64 2, .int .i64 i, .float .f64 b, .string t, .slice p n c] 65))) := (Below.refl _ _).alloc (Nat.le_refl _) _
  clear hi hz hv hb0 hzz hl0
  go_enter Tryz.func130, Tryz.ntmps130
  go_wp2_with fail
  refine (HZ.out _).mono ?_
  rintro e w1 ⟨rfl, hw1⟩
  rw [hw1]
  clear hw1 w1
  go_wp2_with fail
  refine (HP.out _).mono ?_
  rintro e w1 ⟨g, cap, rfl, hm, hb⟩
  have HM := Lib.hid hm
  have HB1 := Lib.hid (HBx.out.trans (hb.mono HBx.out.size))
  have HV1 := Lib.hid (HV.out.on HB1.out)
  have hB1 : w0.heap.size ≤ w1.heap.size := Nat.le_trans hBs HB1.out.size
  clear hm hb HP
  go_wp2_with (first
    | (at_builtin; refine wp_ontoL (B := w0.heap.size) HV1.out HM.out.at (by omega) hB1 rfl rfl rfl rfl rfl ?_; intro ys q3 cap3 W HY hH3 ha3 hb3
       have HG1 : Hid (Grew w w0.heap.size v W (.slice q3 ys.length cap3) ys) := Grew.from ⟨hH3, ha3, hb3⟩ HB1.out HV.out
       clear hH3 ha3 hb3))
  go_ret
  rw [← HY.out]
  exact ⟨q3, cap3, rfl, HG1.out⟩

set_option maxRecDepth 100000 in
set_option maxHeartbeats 1000000 in
theorem appendValue_3 (i : Int) (b : Nat) (hb64 : b < 18446744073709551616) (t : ByteArray) (p : Option Addr) (n c : Nat) : Calls Tryz.prog 130 #[v, .agg #[.int .i64 3, .int .i64 i, .float .f64 b, .string t, .slice p n c]] w (GrewV w w0.heap.size v (xs ++ Sch.le 8 (fixB b))) := by
  have HV := Lib.hid hv
  have hBs := hb0.size
  have HBx : Hid (Below w.heap.size w (w.alloc (.cells #[.int .i64 3, .int .i64 i, .float .f64 b, .string t, .slice p n c] 65))) := (Below.refl _ _).alloc (Nat.le_refl _) _
  have HC := Lib.hid (appendFloatK v xs b hb64 w0.heap.size _ (hv.on HBx.out) (Nat.le_trans hBs HBx.out.size) (by omega))
  obtain ⟨l0, hl0⟩ : ∃ l0, l0 = xs ++ Sch.le 8 (fixB b) := ⟨_, rfl⟩
  rw [← hl0] at HC ⊢
  clear hv hb0 hl0
  go_enter Tryz.func130, Tryz.ntmps130
  go_wp2_with fail
  refine HC.out.mono ?_
  rintro e w1 ⟨q2, cap2, rfl, hg2⟩
  have HG2 := Lib.hid (hg2.from HBx.out HV.out)
  clear hg2 HC
  go_wp2
  go_ret
  exact ⟨q2, cap2, rfl, HG2.out⟩

set_option maxRecDepth 100000 in
set_option maxHeartbeats 1000000 in
theorem appendValue_45 (k i : Int) (hk : k = 4 ∨ k = 5) (b : Nat) (t : ByteArray) (ht : t.size ≤ 1024) (p : Option Addr) (n c : Nat) : Calls Tryz.prog 130 #[v, .agg #[.int .i64 k, .int .i64 i, .float .f64 b, .string t, .slice p n c]] w (GrewV w w0.heap.size v (xs ++ (Leb.put t.size ++ t.data.toList))) := by
  have HV := Lib.hid hv
  have hBs := hb0.size
  have HBx : Hid (Below w.heap.size w (w.alloc (.cells #[.int .i64 k, .int .i64 i, .float .f64 b, .string t, .slice p n c] 65))) := (Below.refl _ _).alloc (Nat.le_refl _) _
  have HC := Lib.hid (appendTextK v xs t w0.heap.size _ (hv.on HBx.out) (Nat.le_trans hBs HBx.out.size) (by omega) ht)
  obtain ⟨l0, hl0⟩ : ∃ l0, l0 = xs ++ (Leb.put t.size ++ t.data.toList) := ⟨_, rfl⟩
  rw [← hl0] at HC ⊢
  clear hv hb0 hl0
  rcases hk with rfl | rfl
  all_goals
    go_enter Tryz.func130, Tryz.ntmps130
    go_wp2_with fail
    refine HC.out.mono ?_
    rintro e w1 ⟨q2, cap2, rfl, hg2⟩
    have HG2 := Lib.hid (hg2.from HBx.out HV.out)
    clear hg2 HC
    go_wp2
    go_ret
    exact ⟨q2, cap2, rfl, HG2.out⟩

set_option maxRecDepth 100000 in
set_option maxHeartbeats 1000000 in
theorem appendValue_67 (k i : Int) (hk : k = 6 ∨ k = 7) (b : Nat) (t : ByteArray) (items : List V) (hn : items.length ≤ 256) (ih : ItemsOk items) (p : Option Addr) (c : Nat) (hx : Items w0 p items) : Calls Tryz.prog 130 #[v, .agg #[.int .i64 k, .int .i64 i, .float .f64 b, .string t, .slice p items.length c]] w (PutA w w0.heap.size v xs (Leb.put items.length ++ (items.map Sch.vB).flatten)) := by
  have HV := Lib.hid hv
  have hBs := hb0.size
  have HBx : Hid (Below w.heap.size w (w.alloc (.cells #[.int .i64 k, .int .i64 i, .float .f64 b, .string t, .slice p items.length c] 65))) := (Below.refl _ _).alloc (Nat.le_refl _) _
  have HC := Lib.hid (appendItemsK items hn ih p c w0 _ v xs hx (hb0.trans (HBx.out.mono hBs)) (hv.on HBx.out) hlen)
  obtain ⟨l0, hl0⟩ : ∃ l0, l0 = Leb.put items.length ++ (items.map Sch.vB).flatten := ⟨_, rfl⟩
  rw [← hl0] at HC ⊢
  clear hv hb0 hl0 hx ih
  rcases hk with rfl | rfl
  all_goals
    go_enter Tryz.func130, Tryz.ntmps130
    go_wp2_with fail
    refine HC.out.mono ?_
    rintro e w1 ⟨ys, q2, cap2, hpv, rfl, hg2⟩
    have HPv := Lib.hid hpv
    have HG2 := Lib.hid (hg2.from HBx.out HV.out)
    clear hg2 HC hpv
    go_wp2
    go_ret
    exact ⟨ys, q2, cap2, HPv.out, rfl, HG2.out⟩
end

theorem appendValueK : ∀ (x : V) (d : Nat) (w0 w : World) (u : Array Value) (v : Value) (xs : List UInt8), chk d x = 0 → x.wf → VLies w0 u x → Below w0.heap.size w0 w → Has w w0.heap.size v xs → xs.length ≤ 100000 → Calls Tryz.prog 130 #[v, .agg u] w (PutA w w0.heap.size v xs (Sch.vB x)) := by
  intro x
  refine V.ind (P := fun x => ∀ (d : Nat) (w0 w : World) (u : Array Value) (v : Value) (xs : List UInt8), chk d x = 0 → x.wf → VLies w0 u x → Below w0.heap.size w0 w → Has w w0.heap.size v xs → xs.length ≤ 100000 → Calls Tryz.prog 130 #[v, .agg u] w (PutA w w0.heap.size v xs (Sch.vB x))) ?_ x
  rintro k i b t items ih d w0 w u v xs hc hwf hx hb0 hv hlen
  obtain ⟨p, c, rfl, hxl, hxc, hxi⟩ := hx.open
  obtain ⟨wk, wi, wb, wt, wx⟩ := V.wf_mk.1 hwf
  obtain ⟨hd4, ho, ht, hn, -, hcx⟩ := Sch.chk_open hc
  obtain ⟨hk, -, -, -, o5, o6, o7⟩ := Sch.own_open ho
  unfold cells5
  have hvh : (Sch.vH k i b t items.length).length ≤ 1034 := Sch.vH_len ht
  have hcase : k = 1 ∨ k = 2 ∨ k = 3 ∨ (k = 4 ∨ k = 5) ∨ (k = 6 ∨ k = 7) := by omega
  rcases hcase with h | h | h | h | h
  · have e : Sch.vB (.mk k i b t items) = [UInt8.ofNat i.toNat] := by rw [Sch.vB_mk, Sch.vH, if_pos h, if_pos (.inl h), List.append_nil]
    rw [e]
    subst h
    exact (appendValue_1 hb0 hv hlen i (o6 rfl) b t p items.length c).mono fun _ _ h => putA_of h (by simp)
  · have e : Sch.vB (.mk k i b t items) = Leb.put (Leb.zig i) := by rw [Sch.vB_mk, Sch.vH, if_neg (by omega), if_pos h, if_pos (.inr (.inl h)), List.append_nil]
    rw [e]
    subst h
    exact (appendValue_2 hb0 hv hlen i wi b t p items.length c).mono fun _ _ h => putA_of h (by have := Leb.put_length_le (Leb.zig i); omega)
  · have e : Sch.vB (.mk k i b t items) = Sch.le 8 (fixB b) := by rw [Sch.vB_mk, Sch.vH, if_neg (by omega), if_neg (by omega), if_pos h, if_pos (.inr (.inr (.inl h))), List.append_nil]
    rw [e]
    subst h
    exact (appendValue_3 hb0 hv hlen i b wb t p items.length c).mono fun _ _ h => putA_of h (by rw [Sch.le_len]; omega)
  · have e : Sch.vB (.mk k i b t items) = Leb.put t.size ++ t.data.toList := by rw [Sch.vB_mk, Sch.vH, if_neg (by omega), if_neg (by omega), if_neg (by omega), if_pos h, if_pos (by omega), List.append_nil]
    rw [e]
    exact (appendValue_45 hb0 hv hlen k i h b t ht p items.length c).mono fun _ _ h => putA_of h (by
      have := Leb.put_length_le t.size
      have hs : t.data.toList.length = t.size := by rw [Array.length_toList]; rfl
      rw [List.length_append]; omega)
  · have e : Sch.vB (.mk k i b t items) = Leb.put items.length ++ (items.map Sch.vB).flatten := by
      rw [Sch.vB_mk, Sch.vH, if_neg (by omega), if_neg (by omega), if_neg (by omega), if_neg (by omega), if_neg (c := k = 1 ∨ k = 2 ∨ k = 3 ∨ k = 4 ∨ k = 5) (by omega)]
      congr 1
      rcases h with h | h
      · rw [if_pos h]
        have h2 := o7 h
        have h3 : items.length = 0 ∨ items.length = 1 := by omega
        rcases h3 with h3 | h3
        · rw [h3, put_0]; rfl
        · rw [h3, put_1]; rfl
      · rw [if_neg (by omega), if_pos h]
    rw [e]
    exact appendValue_67 hb0 hv hlen k i h b t items hn (fun y hy w0 w u v xs h1 h2 h3 h4 => ih y hy (d + 1) w0 w u v xs (hcx y hy) (wx y hy) h1 h2 h3 h4) p c hxi
end Go.Proofs.YtnlhpndjogjejaaGreatDoor

/- The landed schema: appendColumn. -/
namespace Go.Proofs.YtnlhpndjogjejaaGreatDoor
open Go.RowKit

attribute [local go_sem] run_store_float

/-- a call of a Go function of two arguments, at a step of a region that draws -/
theorem step_call2 {w : World} {ops : Array Oper} {o : Oper} {a : Act} {K : Act → World → Prop} {Q : Exit → Act → World → Prop} {E : Prop} {f : FuncId} {fn : Func} {code : Code} {u v : Value} {R : Ending → World → Prop} (x y : Operand) (t t' : TypeId)
    (hg : o.guard = none) (hop : o.op = Op.call { callee := .value (.func f), args := #[x, y], argTypes := #[t, t'] }) (hx : a.eval x = u) (hy : a.eval y = v)
    (hf : Tryz.prog.funcs[f]? = some fn) (hname : (fn.name == "runtime.NumGoroutine") = false) (hb : fn.body = some code)
    (hc : Calls Tryz.prog f #[u, v] w R) (hR : ∀ e w', R e w' → ∃ z, e = .returned z ∧ K (a.put o.dst z) w') :
    if Region.wanted o (yielded ops a.tmps) = true then Oper.wp Tryz.prog o a w K Q else E := by
  have hw : Region.wanted o (yielded ops a.tmps) = true := by simp [Region.wanted, hg]
  rw [if_pos hw]
  have h1 : fn.name ≠ "runtime.NumGoroutine" := by simpa using hname
  unfold Oper.wp
  have he : (execOp a.eval o).run Tryz.prog w = .ok (.enter f #[u, v]) w := by
    have hev : a.eval (.func f) = .func (.func f) #[] #[] := rfl
    simp [execOp, hop, resolve, invoke, hx, hy, hev, Deferred.ofValue, callFunc, hf, h1, hb]
  rw [he, Oper.upon_enter]
  refine hc.mono ?_
  intro e w' hr
  obtain ⟨z, rfl, hk⟩ := hR e w' hr
  exact hk
/-- one byte more, at a step of a region that draws -/
theorem step_pushG {B : Nat} {v : Value} {xs : List UInt8} {w : World} {H : Nat} (hH : w.heap.size = H) (hown : Has w B v xs) (c : UInt8) (hlen : xs.length + 1 ≤ 140737488355328) (hB : B ≤ w.heap.size)
    {z : Int} {ops : Array Oper} {o : Oper} {a : Act} {K : Act → World → Prop} {Q : Exit → Act → World → Prop} {E : Prop} (s x : Operand)
    (hz : z = (c.toNat : Int)) (ht : o.type = 22) (hg : o.guard = none) (hop : o.op = Op.call { callee := Callee.builtin Builtin.append, args := #[s, x], argTypes := #[22, 22] })
    (hs : a.eval s = v) (hx : a.eval x = .slice (some ⟨H, 0, none⟩) 1 1)
    (hK : ∀ q cap W ys, Hid (ys = xs ++ [c]) → Grew w B v W (.slice q ys.length cap) ys → K (a.put o.dst (.slice q ys.length cap)) W) :
    if Region.wanted o (yielded ops a.tmps) = true then Oper.wp Tryz.prog o a (w.alloc (.cells #[.int .u8 z] 5)) K Q else E := by
  have hw : Region.wanted o (yielded ops a.tmps) = true := by simp [Region.wanted, hg]
  rw [if_pos hw]
  subst hH
  have hb : Below w.heap.size w (w.alloc (.cells #[.int .u8 z] 5)) := (Below.refl _ _).alloc (Nat.le_refl _) _
  obtain ⟨q, cap, W, ⟨hr⟩, hm, ha, -, hb3⟩ := onto_all B v xs [c] (some ⟨w.heap.size, 0, none⟩) 1 _ (hown.alloc _) (one_atK w z c hz) (by simpa using hlen) (Nat.le_trans hB hb.size)
  unfold Oper.wp
  have hl1 : [c].length = 1 := rfl
  rw [hl1] at hr
  have he : (execOp a.eval o).run Tryz.prog (w.alloc (.cells #[.int .u8 z] 5)) = .ok (.value (.slice q (xs ++ [c]).length cap)) W := by
    simp only [execOp, hop, resolve, invoke, builtin]
    simp [hs, hx, ht, hr, Result.andThen]
  rw [he]
  exact hK q cap W (xs ++ [c]) (Lib.hid rfl) (Grew.from ⟨hm, ha, hb3⟩ hb hown)

set_option maxRecDepth 100000 in
set_option maxHeartbeats 2000000 in
theorem appendColumnK (x : Col) (w0 w : World) (u : Array Value) (v : Value) (xs : List UInt8) (hu : CLies w0 u x) (hwf : x.wf) (hn : x.name.size ≤ 16) (hty : Ty.check 1 x.ty = 0) (hdf : x.has = true → chk 1 x.dflt = 0) (hb0 : Below w0.heap.size w0 w) (hv : Has w w0.heap.size v xs) (hlen : xs.length ≤ 90000) :
    Calls Tryz.prog 123 #[v, .agg u] w fun e w' => ∃ ys q cap, (ys = xs ++ Sch.cB x ∨ (1024 < ys.length ∧ 1024 < (xs ++ Sch.cB x).length)) ∧ ys.length ≤ xs.length + 3000 ∧ e = .returned (.slice q ys.length cap) ∧ Grew w w0.heap.size v w' (.slice q ys.length cap) ys := by
  obtain ⟨k, tp, tn, tc, vk, vi, vb, vt, vp, vn, vc, rfl, ht, hd⟩ := hu.out
  obtain ⟨nm, ty, has, df⟩ := x
  obtain ⟨wn, wty, wd⟩ := hwf
  dsimp only at ht hd hty hn wn wty wd hdf
  unfold cells9
  have hBs := hb0.size
  obtain ⟨W0, hW0⟩ : ∃ W0, W0 = w.alloc (.cells #[.string nm, .int .i64 k, .slice tp tn tc, .bool has, .int .i64 vk, .int .i64 vi, .float .f64 vb, .string vt, .slice vp vn vc] 67) := ⟨_, rfl⟩
  have HBx : Hid (Below w.heap.size w W0) := by rw [hW0]; exact (Below.refl _ _).alloc (Nat.le_refl _) _
  have HBlk : Hid (W0.heap[w.heap.size]? = some (.cells #[.string nm, .int .i64 k, .slice tp tn tc, .bool has, .int .i64 vk, .int .i64 vi, .float .f64 vb, .string vt, .slice vp vn vc] 67 (0, 0))) := by rw [hW0]; exact blk_new w _
  have HW0 := Lib.hid hW0
  have HV := Lib.hid hv
  have HB0 := Lib.hid hb0
  -- whatever grows out of v's own block leaves the copy alone
  have HKeep : Hid (∀ W v' l, Grew W0 w0.heap.size v W v' l → W.heap[w.heap.size]? = some (.cells #[.string nm, .int .i64 k, .slice tp tn tc, .bool has, .int .i64 vk, .int .i64 vi, .float .f64 vb, .string vt, .slice vp vn vc] 67 (0, 0)) ∧ Below w0.heap.size w0 W) := fun W v' l hg => by
    refine ⟨?_, (hb0.trans (HBx.out.mono hBs)).trans (hg.low (HV.out.on HBx.out) (Nat.le_trans hBs HBx.out.size))⟩
    rw [hg.aside.block _ (by have := blk_lt HBlk.out; exact this) (fun hc => by have := (HV.out.lt _ hc).2; omega)]
    exact HBlk.out
  have HC1 := Lib.hid (appendTextK v xs nm w0.heap.size W0 (hv.on HBx.out) (Nat.le_trans hBs HBx.out.size) (by omega) (by omega))
  have HC2 := Lib.hid (fun w' v' l (hg : Grew W0 w0.heap.size v w' v' l) (hl : l.length + 20 ≤ 1000000) => appendTypeK ty 1 w0 w' _ v' l hty ht (HKeep.out w' v' l hg).2 hg.has hl)
  have HC3 := Lib.hid (fun w' v' l (hb : Below w0.heap.size w0 w') (hh : Has w' w0.heap.size v' l) (hl : l.length ≤ 100000) (h1 : has = true) => appendValueK df 1 w0 w' _ v' l (hdf h1) wd hd hb hh hl)
  have hns : nm.data.toList.length = nm.size := by rw [Array.length_toList]; rfl
  have hpl := Leb.put_length_le nm.size
  have htl := tyB_len4 hty
  have HcB : Hid (Sch.cB ⟨nm, ty, has, df⟩ = Leb.put nm.size ++ (nm.data.toList ++ (Sch.tyB ty ++ (if has then 1 else 0) :: (if has then Sch.vB df else [])))) := rfl
  obtain ⟨l1, hl1⟩ : ∃ l, l = xs ++ (Leb.put nm.size ++ nm.data.toList) := ⟨_, rfl⟩
  have hl1n : l1.length ≤ xs.length + 26 := by rw [hl1, List.length_append, List.length_append]; omega
  rw [← hl1] at HC1
  unfold cells2 at HC2
  unfold cells5 at HC3
  obtain ⟨cb, hcb⟩ : ∃ l, l = Sch.cB ⟨nm, ty, has, df⟩ := ⟨_, rfl⟩
  rw [← hcb] at HcB ⊢
  have HL1 := Lib.hid hl1
  clear hW0 hu ht hd hty hdf hv hb0 hl1 hcb wn wty wd hns hpl
  go_enter Tryz.func123, Tryz.ntmps123
  go_wp2_with fail
  rw [← HW0.out]
  clear HW0
  refine HC1.out.mono ?_
  rintro e w1 ⟨q1, cap1, rfl, hg1⟩
  have HG1 := Lib.hid hg1
  obtain ⟨hblk1, -⟩ := HKeep.out _ _ _ hg1
  have c1 : w1.cell? ⟨w.heap.size, 1, none⟩ = some (.int .i64 k) := blk_cell hblk1 1
  have c2 : w1.cell? ⟨w.heap.size, 2, none⟩ = some (.slice tp tn tc) := blk_cell hblk1 2
  obtain ⟨l2, hl2⟩ : ∃ l, l = l1 ++ Sch.tyB ty := ⟨_, rfl⟩
  have HC2' := Lib.hid (HC2.out w1 (.slice q1 l1.length cap1) l1 HG1.out (by omega))
  rw [← hl2] at HC2'
  have hl2n : l2.length ≤ xs.length + 31 := by rw [hl2, List.length_append]; omega
  have HL2 := Lib.hid hl2
  clear hg1 hblk1 HC1 HC2 hl2
  go_wp2_with fail
  refine HC2'.out.mono ?_
  rintro e w2 ⟨q2, cap2, rfl, hg2⟩
  have HG2 := Lib.hid (HG1.out.trans hg2)
  obtain ⟨hblk2, hbw2⟩ := HKeep.out _ _ _ HG2.out
  have c3 : w2.cell? ⟨w.heap.size, 3, none⟩ = some (.bool has) := blk_cell hblk2 3
  have HBw2 := Lib.hid hbw2
  have hB2 := hbw2.size
  have HH2 := Lib.hid HG2.out.has
  have HGw := Lib.hid (HG2.out.from HBx.out HV.out)
  clear hg2 c1 c2 HC2' HG1 hbw2
  cases has with
  | false =>
    have HE : Hid (xs ++ cb = l2 ++ [0]) := by
      show _ = _
      rw [HcB.out, HL2.out, HL1.out]
      simp
    clear HC3 HcB HL1 HL2 HKeep hblk2
    go_wp2_with (first
      | (at_builtin; refine wp_pushG (B := w0.heap.size) rfl HH2.out 0 (by omega) hB2 (by rfl) rfl rfl rfl rfl rfl ?_
         intro q3 cap3 W ys HY hg3
         have HG3 := Lib.hid (HGw.out.trans hg3)
         clear hg3))
    go_ret
    refine ⟨ys, q3, cap3, .inl ?_, ?_, rfl, HG3.out⟩
    · rw [HE.out, HY.out]
    · rw [HY.out, List.length_append, List.length_singleton]; omega
  | true =>
    have c4 : w2.cell? ⟨w.heap.size, 4, none⟩ = some (.int .i64 vk) := blk_cell hblk2 4
    have c5 : w2.cell? ⟨w.heap.size, 5, none⟩ = some (.int .i64 vi) := blk_cell hblk2 5
    have c6 : w2.cell? ⟨w.heap.size, 6, none⟩ = some (.float .f64 vb) := blk_cell hblk2 6
    have c7 : w2.cell? ⟨w.heap.size, 7, none⟩ = some (.string vt) := blk_cell hblk2 7
    have c8 : w2.cell? ⟨w.heap.size, 8, none⟩ = some (.slice vp vn vc) := blk_cell hblk2 8
    have hblkA : ∀ o, (w2.alloc o).heap[w.heap.size]? = some (.cells #[.string nm, .int .i64 k, .slice tp tn tc, .bool true, .int .i64 vk, .int .i64 vi, .float .f64 vb, .string vt, .slice vp vn vc] 67 (0, 0)) := fun o => (blk_old w2 o (blk_lt hblk2)).trans hblk2
    have y4 : ∀ o, (w2.alloc o).cell? ⟨w.heap.size, 4, none⟩ = some (.int .i64 vk) := fun o => blk_cell (hblkA o) 4
    have y5 : ∀ o, (w2.alloc o).cell? ⟨w.heap.size, 5, none⟩ = some (.int .i64 vi) := fun o => blk_cell (hblkA o) 5
    have y6 : ∀ o, (w2.alloc o).cell? ⟨w.heap.size, 6, none⟩ = some (.float .f64 vb) := fun o => blk_cell (hblkA o) 6
    have y7 : ∀ o, (w2.alloc o).cell? ⟨w.heap.size, 7, none⟩ = some (.string vt) := fun o => blk_cell (hblkA o) 7
    have y8 : ∀ o, (w2.alloc o).cell? ⟨w.heap.size, 8, none⟩ = some (.slice vp vn vc) := fun o => blk_cell (hblkA o) 8
    clear hblkA
    have HE : Hid (xs ++ cb = l2 ++ [1] ++ Sch.vB df) := by
      show _ = _
      rw [HcB.out, HL2.out, HL1.out]
      simp
    obtain ⟨full, hfull⟩ : ∃ l, l = Sch.vB df := ⟨_, rfl⟩
    rw [← hfull] at HE HC3
    clear HcB HL1 HL2 hfull
    go_wp2_with fail
    go_region_law (first
      | (refine step_pushG (B := w0.heap.size) (xs := l2) (v := .slice q2 l2.length cap2) (w := w2.drew) (H := w2.heap.size) (by rfl) HH2.out.drew 1 (by omega) hB2 (.tmp 19) (.tmp 20) (by rfl) (by rfl) (by rfl) (by rfl) (by rfl) (by rfl) ?_
         intro q3 cap3 W ys HY hg3
         have hg3' : Grew w2 w0.heap.size (.slice q2 l2.length cap2) W (.slice q3 ys.length cap3) ys := ⟨hg3.has, ⟨hg3.aside.os, hg3.aside.tape, hg3.aside.output, hg3.aside.size, hg3.aside.block⟩, hg3.fresh⟩
         have HG3 := Lib.hid (HG2.out.trans hg3')
         have HGw3 := Lib.hid (HGw.out.trans hg3')
         have hk3 := HKeep.out _ _ _ HG3.out
         have d4 : W.cell? ⟨w.heap.size, 4, none⟩ = some (.int .i64 vk) := blk_cell hk3.1 4
         have d5 : W.cell? ⟨w.heap.size, 5, none⟩ = some (.int .i64 vi) := blk_cell hk3.1 5
         have d6 : W.cell? ⟨w.heap.size, 6, none⟩ = some (.float .f64 vb) := blk_cell hk3.1 6
         have d7 : W.cell? ⟨w.heap.size, 7, none⟩ = some (.string vt) := blk_cell hk3.1 7
         have d8 : W.cell? ⟨w.heap.size, 8, none⟩ = some (.slice vp vn vc) := blk_cell hk3.1 8
         have HBw3 := Lib.hid hk3.2
         have hyl : ys.length ≤ xs.length + 32 := by (rw [HY.out, List.length_append, List.length_singleton]; omega)
         clear hg3 hg3' hk3)
      | (refine step_call2 (.tmp 21) (.tmp 23) 22 65 (by rfl) (by rfl) (by rfl) (by rfl) Tryz.func130 (by kernel_rfl) (by rfl) (HC3.out W (.slice q3 ys.length cap3) ys HBw3.out HG3.out.has (by omega) (by first | rfl | trivial)) ?_
         rintro e w4 ⟨zs, q4, cap4, hpv, rfl, hg4⟩
         refine ⟨_, rfl, ?_⟩
         have HG4 := Lib.hid (HGw3.out.trans hg4)
         have HPv := Lib.hid hpv
         clear hg4 hpv))
    all_goals
      go_wp2
      go_ret
      refine ⟨zs, q4, cap4, ?_, ?_, rfl, HG4.out⟩
      · rw [HE.out, ← HY.out]; exact HPv.out.eq
      · have := HPv.out.len; omega
end Go.Proofs.YtnlhpndjogjejaaGreatDoor

/- The landed schema: Encode, Check. -/
namespace Go.Proofs.YtnlhpndjogjejaaGreatDoor
open Go.RowKit

attribute [local go_sem] run_store_float

/-- the bytes that Encode tells -/
def encB (s : List Col) : List UInt8 := if Sch.err s = 0 then Sch.bytes s else []
theorem err_colsK (s : List Col) : Sch.err s = if colsK s ≠ 0 then colsK s else if 1024 < (Sch.bytes s).length then 2 else 0 := by
  unfold Sch.err colsK
  by_cases h0 : s.length = 0
  · rw [if_pos h0, if_pos h0, if_pos (by decide)]
  · rw [if_neg h0, if_neg h0]
    by_cases h1 : 16 < s.length
    · rw [if_pos h1, if_pos h1, if_pos (by decide)]
    · rw [if_neg h1, if_neg h1]

set_option maxRecDepth 100000 in
set_option maxHeartbeats 4000000 in
theorem encodeK (s : List Col) (p : Option Addr) (c : Nat) (w : World) (hs : s.length * 120 ≤ 140737488351232) (hx : Cols w p s) (hwf : ∀ x ∈ s, x.wf) :
    Calls Tryz.prog 118 #[.agg #[.slice p s.length c]] w fun e w' => ∃ q cap, e = .returned (.tuple #[.slice q (encB s).length cap, .int .i64 (Sch.err s : Nat)]) ∧ At w' q (encB s) ∧ (encB s).length ≤ cap ∧ Below w.heap.size w w' := by
  obtain ⟨W0, hW0⟩ : ∃ W0, W0 = w.alloc (.cells #[.slice p s.length c] 25) := ⟨_, rfl⟩
  have HB0 : Hid (Below w.heap.size w W0) := by rw [hW0]; exact (Below.refl _ _).alloc (Nat.le_refl _) _
  have HY0 : Hid (W0.cell? ⟨w.heap.size, 0, none⟩ = some (.slice p s.length c)) := by show _ = _; rw [hW0]; simp
  have HW0 := Lib.hid hW0
  have HX := Lib.hid hx
  have HWf := Lib.hid hwf
  have HE := Lib.hid (err_colsK s)
  have HC := Lib.hid (checkColumnsK s p c W0 (hx.on HB0.out) hwf)
  have HEnc : Hid (encB s = if Sch.err s = 0 then Sch.bytes s else []) := rfl
  have HK0 : Hid (colsK s = 0 → s.length ≤ 16 ∧ Sch.colsErr [] s = 0) := fun h => by
    unfold colsK at h
    split at h
    · omega
    · split at h
      · omega
      · exact ⟨by omega, h⟩
  obtain ⟨L, hL⟩ : ∃ L, L = encB s := ⟨_, rfl⟩
  obtain ⟨R, hR⟩ : ∃ R, R = Sch.err s := ⟨_, rfl⟩
  rw [← hL] at HEnc ⊢
  rw [← hR] at HE HEnc ⊢
  obtain ⟨ck, hck⟩ : ∃ n, n = colsK s := ⟨_, rfl⟩
  rw [← hck] at HC HE HK0
  clear hW0 hx hwf hL hR hck
  go_enter Tryz.func118, Tryz.ntmps118
  go_wp2_with fail
  rw [← HW0.out]
  clear HW0
  refine HC.out.mono ?_
  rintro e w1 ⟨rfl, hb1⟩
  have y1 := cell_on hb1 HY0.out
  have HB1 := Lib.hid (HB0.out.trans (hb1.mono HB0.out.size))
  clear hb1 HC HY0
  by_cases h0 : ¬ ck = 0
  · have g0 : ((ck : Int) != 0) = true := bne_t (by omega)
    have HR2 : Hid (R = ck) := by show _ = _; rw [HE.out, if_pos h0]
    have HL2 : Hid (L = []) := by show _ = _; rw [HEnc.out, HR2.out, if_neg h0]
    clear h0 HE HEnc HK0
    go_wp2
    go_ret2
    rw [HL2.out, HR2.out]
    exact ⟨none, 0, rfl, .inl rfl, Nat.le_refl _, HB1.out⟩
  replace h0 : ck = 0 := Classical.not_not.1 h0
  have g0 : ((ck : Int) != 0) = false := bne_f (by omega)
  obtain ⟨hs16, hce⟩ := HK0.out h0
  have HR2 : Hid (R = if 1024 < (Sch.bytes s).length then 2 else 0) := by show _ = _; rw [HE.out, if_neg (by omega)]
  have HCe := Lib.hid hce
  have HP := Lib.hid (put_any s.length (by omega))
  have hpl := Leb.put_length_le s.length
  have HBy : Hid (Sch.bytes s = Leb.put s.length ++ (s.map Sch.cB).flatten) := rfl
  obtain ⟨l0, hl0⟩ : ∃ l0, l0 = Leb.put s.length := ⟨_, rfl⟩
  rw [← hl0] at HP hpl HBy
  obtain ⟨by0, hby⟩ : ∃ l, l = Sch.bytes s := ⟨_, rfl⟩
  rw [← hby] at HBy HR2 HEnc
  have hs16' : (s.length : Int) ≤ 16 := by omega
  clear h0 HE HK0 hce hl0 hby
  go_wp2_with fail
  refine (HP.out _).mono ?_
  rintro e w2 ⟨g, cap0, rfl, hm, hb2⟩
  have y2 := cell_on hb2 y1
  have HH2 := Lib.hid hm.has
  have HB2 := Lib.hid hb2
  clear hm hb2 HP y1
  have HZ0 : Hid (l0 = l0 ++ ((s.take 0).map Sch.cB).flatten) := by show _ = _; simp
  go_wp2_with fail
  go_loopw [5, 22] (fun v5 v22 wr => ∃ (j : Nat) (zs : List UInt8) (q : Option Addr) (cap : Nat), j ≤ s.length ∧ v22 = .int .i64 j ∧ v5 = .slice q zs.length cap ∧ zs.length ≤ 10 + j * 3000 ∧ Hid ((zs = l0 ++ ((s.take j).map Sch.cB).flatten ∨ (1024 < zs.length ∧ 1024 < (l0 ++ ((s.take j).map Sch.cB).flatten).length)) ∧ Has wr w1.heap.size (.slice q zs.length cap) zs ∧ Below w1.heap.size w1 wr)) (fun _ v22 _ => s.length - (intOf v22).toNat)
  case atStart => exact ⟨0, l0, some ⟨g, 0, none⟩, cap0, by omega, rfl, rfl, by omega, .inl HZ0.out, HH2.out, HB2.out⟩
  case round =>
    obtain ⟨j, zs, q, cap, hj, rfl, rfl, hzl, HL⟩ := hrel
    by_cases hlt : j < s.length
    · have hbr : Below w.heap.size w wr := HB1.out.trans (HL.out.2.2.mono HB1.out.size)
      obtain ⟨bx, ox, k, tp, tn, tc, vk, vi, vb, vt, vp, vn, vc, rfl, _, h9, htx, hvx⟩ := (HX.out.on HB1.out).at j hlt
      obtain ⟨a0, a1, a2, a3, a4, a5, a6, a7, a8⟩ := h9.on HL.out.2.2
      have hj1 : (j : Int) < (s.length : Int) := by omega
      obtain ⟨l', hce⟩ := Sch.colsErr_mem s [] HCe.out s[j] (List.getElem_mem hlt)
      obtain ⟨o1, -, o3, -, o5⟩ := Sch.col_open hce
      have hnm := (Sch.name_size o1).2
      obtain ⟨wa, hwa⟩ : ∃ wa, wa = wr.alloc (.cells #[.string s[j].name, .int .i64 k, .slice tp tn tc, .bool s[j].has, .int .i64 vk, .int .i64 vi, .float .f64 vb, .string vt, .slice vp vn vc] 67) := ⟨_, rfl⟩
      have HBa : Hid (Below wr.heap.size wr wa) := by rw [hwa]; exact (Below.refl _ _).alloc (Nat.le_refl _) _
      have hsz := HL.out.2.2.size
      have hb1a : Below w1.heap.size w1 wa := HL.out.2.2.trans (HBa.out.mono hsz)
      have HB1a := Lib.hid hb1a
      have HCol := Lib.hid (appendColumnK s[j] w1 wa _ (.slice q zs.length cap) zs ⟨k, tp, tn, tc, vk, vi, vb, vt, vp, vn, vc, rfl, htx, hvx⟩ (HWf.out _ (List.getElem_mem hlt)) hnm o3 (fun h => (o5 h).1) hb1a (HL.out.2.1.on HBa.out) (by omega))
      have HHa := Lib.hid (HL.out.2.1.on HBa.out)
      have HTk := Lib.hid (Sch.flatten_take Sch.cB s j hlt)
      have HTl := Lib.hid (Sch.flatten_take_le Sch.cB s j)
      have HOld := Lib.hid HL.out.1
      unfold cells9 at HCol
      obtain ⟨cb, hcb⟩ : ∃ l, l = Sch.cB s[j] := ⟨_, rfl⟩
      rw [← hcb] at HCol HTk
      generalize s[j].name = nm at *
      generalize s[j].has = hs0 at *
      have HWa := Lib.hid hwa
      clear h9 htx hvx hce o1 o3 o5 hnm hwa hb1a HL hbr hcb
      go_wp2_with fail
      rw [← HWa.out]
      clear HWa a0 a1 a2 a3 a4 a5 a6 a7 a8
      refine HCol.out.mono ?_
      rintro e w3 ⟨ys, q3, cap3, hor, hyl, rfl, hg3⟩
      have HN : Hid ((ys = l0 ++ ((s.take (j + 1)).map Sch.cB).flatten ∨ (1024 < ys.length ∧ 1024 < (l0 ++ ((s.take (j + 1)).map Sch.cB).flatten).length)) ∧ Has w3 w1.heap.size (.slice q3 ys.length cap3) ys ∧ Below w1.heap.size w1 w3) := by
        refine ⟨?_, hg3.has, HB1a.out.trans (hg3.low HHa.out HB1a.out.size)⟩
        have hge : ∀ (A : List UInt8), (A ++ cb).length = A.length + cb.length := fun A => List.length_append
        rw [HTk.out, ← List.append_assoc]
        rcases HOld.out with h1 | h1
        · rw [← h1]; exact hor
        · refine .inr ⟨?_, ?_⟩
          · rcases hor with h2 | h2
            · rw [h2, List.length_append]; omega
            · exact h2.1
          · rw [List.length_append]; omega
      have hys : ys.length ≤ 10 + (j + 1) * 3000 := by omega
      clear hor hg3 hyl HCol HHa HTk HTl HOld
      go_wp2
      go_roundw
      case rel => exact ⟨j + 1, ys, q3, cap3, by omega, by go_num, rfl, hys, HN.out⟩
      case measure => simp [intOf]; omega
    · have hjn : ¬ (j : Int) < (s.length : Int) := by omega
      have HF : Hid (Below w.heap.size w wr) := HB1.out.trans (HL.out.2.2.mono HB1.out.size)
      have hor : (zs = by0 ∨ (1024 < zs.length ∧ 1024 < by0.length)) := by
        have h1 := HL.out.1
        rw [List.take_of_length_le (by omega), ← HBy.out] at h1
        exact h1
      have HH := Lib.hid HL.out.2.1
      clear HL
      by_cases hbig : 1024 < zs.length
      · have gb : (1024 : Int) < (zs.length : Int) := by omega
        have hby1 : 1024 < by0.length := by
          rcases hor with h1 | h1
          · rw [← h1]; exact hbig
          · exact h1.2
        have HR3 : Hid (R = 2) := by show _ = _; rw [HR2.out, if_pos hby1]
        have HL3 : Hid (L = []) := by show _ = _; rw [HEnc.out, HR3.out, if_neg (by decide)]
        clear hor hbig hby1 HR2 HEnc
        go_wp2
        go_ret2
        rw [HL3.out, HR3.out]
        exact ⟨none, 0, rfl, .inl rfl, Nat.le_refl _, HF.out⟩
      · have gb : ¬ (1024 : Int) < (zs.length : Int) := by omega
        have hzb : zs = by0 := by
          rcases hor with h1 | h1
          · exact h1
          · exact absurd h1.1 hbig
        have HR3 : Hid (R = 0) := by show _ = _; rw [HR2.out, if_neg (by rw [← hzb]; exact hbig)]
        have HL3 : Hid (L = zs) := by show _ = _; rw [HEnc.out, HR3.out, if_pos rfl, hzb]
        obtain ⟨q', cap', he, hat, hcap⟩ := HH.out.at
        injection he with e1 _ e2
        subst e1 e2
        have HAt := Lib.hid hat
        clear hor hbig hzb HR2 HEnc hat
        go_wp2
        go_ret2
        rw [HL3.out, HR3.out]
        exact ⟨_, _, rfl, HAt.out, hcap, HF.out⟩

end Go.Proofs.YtnlhpndjogjejaaGreatDoor

/- The landed schema's reader: what is left to read, and its small calls. -/
namespace Go.Proofs.YtnlhpndjogjejaaGreatDoor
open Go.RowKit

/-- a panic with an error -/
def errV (k : Nat) : List PanicEntry := [{ v := .iface 31 (.int .i64 k), recovered := false }]

/-- p[n:] -/
def cutP (p : Option Addr) (n c : Nat) : Option Addr := if c = n then p else p.map (·.add n)
/-- p[:n] -/
def cutH (p : Option Addr) (c : Nat) : Option Addr := if c = 0 then p else p.map (·.add 0)
theorem run_cut_l (p : Option Addr) (len c n : Nat) (h : n ≤ len) (w : World) : (Instr.slice 22 (.slice p len c) (some (.int .i64 n)) none none).run Tryz.prog w = .ok (.slice (cutP p n c) (len - n) (c - n)) w := by
  have hs : (sizeOf (Tryz.prog.elem 22)).run Tryz.prog w = .ok 1 w := by kernel_rfl
  rw [run_slice_l w 22 p len c (by kernel_rfl) .i64 (n : Int) (by omega) (by omega), hs]
  simp [sliced, cutP, Result.andThen]
theorem run_cut_h (p : Option Addr) (len c n : Nat) (h : n ≤ c) (w : World) : (Instr.slice 22 (.slice p len c) none (some (.int .i64 n)) none).run Tryz.prog w = .ok (.slice (cutH p c) n c) w := by
  have hs : (sizeOf (Tryz.prog.elem 22)).run Tryz.prog w = .ok 1 w := by kernel_rfl
  rw [run_slice_h w 22 p len c (by kernel_rfl) .i64 (n : Int) (by omega) (by omega), hs]
  simp [sliced, cutH, Result.andThen]
theorem add_block (a : Addr) (n : Nat) : (a.add n).block = a.block := by
  unfold Addr.add
  split <;> rfl
theorem cutP_block {p : Option Addr} {n c A : Nat} (h : ∀ a, p = some a → a.block < A) : ∀ a, cutP p n c = some a → a.block < A := by
  intro a ha
  unfold cutP at ha
  split at ha
  · exact h a ha
  · cases p with
    | none => cases ha
    | some b =>
      simp only [Option.map_some, Option.some.injEq] at ha
      subst ha
      rw [add_block]
      exact h b rfl
theorem At.cut {w : World} {p : Option Addr} {l : List UInt8} (h : At w p l) (n c : Nat) (hc : l.length ≤ c) : At w (cutP p n c) (l.drop n) := by
  by_cases h0 : l.length ≤ n
  · exact .inl (List.drop_eq_nil_of_le h0)
  · obtain ⟨b, o, rfl, hb, hcs⟩ := at_some h (by omega)
    refine .inr ⟨b, o + n, ?_, hb, cells_drop hcs n⟩
    unfold cutP
    rw [if_neg (by omega), Option.map_some, Lib.add_plain]
theorem At.head {w : World} {p : Option Addr} {l : List UInt8} (h : At w p l) (n c : Nat) : At w (cutH p c) (l.take n) := by
  rcases h with rfl | ⟨b, o, rfl, hb, hcs⟩
  · exact .inl (by simp)
  · refine .inr ⟨b, o, ?_, hb, cells_take hcs n⟩
    unfold cutH
    split
    · rfl
    · rw [Option.map_some, Lib.add_plain]; rfl

/-- the reader in block R has l left; its bytes lie below A -/
structure Rdr (w : World) (A R : Nat) (l : List UInt8) : Prop where
  out : ∃ p c, w.heap[R]? = some (.cells #[.slice p l.length c] 114 (0, 0)) ∧ At w p l ∧ l.length ≤ c ∧ (l ≠ [] → ∀ a, p = some a → a.block < A)
  small : l.length ≤ 1024
  low : A ≤ R
theorem Rdr.lt {w : World} {A R : Nat} {l : List UInt8} (h : Rdr w A R l) : R < w.heap.size := by
  obtain ⟨p, c, h1, _⟩ := h.out
  exact blk_lt h1
theorem At.keep {w w' : World} {p : Option Addr} {l : List UInt8} {A : Nat} (h : At w p l) (hp : l ≠ [] → ∀ a, p = some a → a.block < A) (hk : ∀ k, k < A → w'.heap[k]? = w.heap[k]?) (hs : w.heap.size ≤ w'.heap.size) : At w' p l := by
  rcases h with rfl | ⟨b, o, rfl, hb, hcs⟩
  · exact .inl rfl
  · refine .inr ⟨b, o, rfl, by omega, fun j hj => ?_⟩
    rw [World.cell?_of_block (w := w) (hk b (hp (List.ne_nil_of_length_pos (by omega)) _ rfl))]
    exact hcs j hj
theorem Rdr.keep {w w' : World} {A R : Nat} {l : List UInt8} (h : Rdr w A R l) (hk : ∀ k, k ≤ R → w'.heap[k]? = w.heap[k]?) (hs : w.heap.size ≤ w'.heap.size) : Rdr w' A R l := by
  obtain ⟨p, c, h1, h2, h3, h4⟩ := h.out
  have hl := h.low
  exact ⟨⟨p, c, (hk R (Nat.le_refl _)).trans h1, h2.keep h4 (fun k hk' => hk k (by omega)) hs, h3, h4⟩, h.small, h.low⟩
theorem Rdr.on {w w' : World} {A R : Nat} {l : List UInt8} (h : Rdr w A R l) (hb : Below w.heap.size w w') : Rdr w' A R l := h.keep (fun k hk => hb.block k (by have := h.lt; omega)) hb.size
theorem Rdr.aside {w w' : World} {A R : Nat} {l : List UInt8} {F : Nat → Prop} (h : Rdr w A R l) (ha : Aside F w w') (hF : ∀ k, F k → R < k) : Rdr w' A R l :=
  h.keep (fun k hk => ha.block k (by have := h.lt; omega) (fun hc => by have := hF k hc; omega)) ha.size
/-- so many bytes are taken off -/
theorem Rdr.cut {w : World} {A R : Nat} {l : List UInt8} {p : Option Addr} {c : Nat} (h : Rdr w A R l) (h1 : w.heap[R]? = some (.cells #[.slice p l.length c] 114 (0, 0))) (h2 : At w p l) (h3 : l.length ≤ c) (h4 : l ≠ [] → ∀ a, p = some a → a.block < A) (n : Nat) (hn : n ≤ l.length) :
    Rdr (w.setCell ⟨R, 0, none⟩ (.slice (cutP p n c) (l.length - n) (c - n))) A R (l.drop n) := by
  have hl := h.low
  have h5 : l.drop n ≠ [] → ∀ a, cutP p n c = some a → a.block < A := fun hne => cutP_block (h4 (fun he => hne (by rw [he]; simp)))
  refine ⟨⟨cutP p n c, c - n, ?_, ?_, by rw [List.length_drop]; omega, h5⟩, by rw [List.length_drop]; have := h.small; omega, hl⟩
  · rw [blk_set h1 0, List.length_drop]; rfl
  · refine (h2.cut n c h3).keep h5 (fun k hk => ?_) (by simp [World.setCell])
    exact Below.heap_setCell _ _ _ _ (by show k ≠ R; omega)
theorem aside_set (w : World) (R m : Nat) (u : Value) : Aside (fun i => i = R) w (w.setCell ⟨R, m, none⟩ u) := (Aside.refl (fun i => i = R) w).setCell (p := ⟨R, m, none⟩) (.inl rfl) u

/-- what a call of the reader answers -/
def RdA {α : Type} (w : World) (A R : Nat) (l : List UInt8) (r : Except Nat (α × Nat)) (V : α → Value → World → Prop) (e : Ending) (w' : World) : Prop := match r with
  | .error k => e = .panicked (errV k) ∧ Aside (fun i => i = R) w w'
  | .ok (a, j) => ∃ v, e = .returned v ∧ V a v w' ∧ Rdr w' A R (l.drop j) ∧ Aside (fun i => i = R) w w'
/-- a number -/
def isI (n : Nat) (v : Value) (_ : World) : Prop := v = .int .i64 n
def isU (n : Nat) (v : Value) (_ : World) : Prop := v = .int .u64 n
def isT (t : ByteArray) (v : Value) (_ : World) : Prop := v = .string t
def isB (b : List UInt8) (v : Value) (w : World) : Prop := ∃ q c, v = .slice q b.length c ∧ At w q b ∧ b.length ≤ c

set_option maxHeartbeats 400000 in
theorem need_t (a : Value) (k : Int) (w : World) : Calls Tryz.prog 62 #[a, .bool true, .int .i64 k] w fun e w' => e = .returned (.tuple #[]) ∧ w' = w := by
  go_enter Tryz.func62, Tryz.ntmps62
  go_wp2
  go_end0
  exact ⟨rfl, rfl⟩
set_option maxHeartbeats 400000 in
theorem need_f (a : Value) (k : Nat) (w : World) : Calls Tryz.prog 62 #[a, .bool false, .int .i64 k] w fun e w' => e = .panicked (errV k) ∧ w' = w := by
  go_enter Tryz.func62, Tryz.ntmps62
  go_wp2
  exact ⟨rfl, rfl, rfl⟩
end Go.Proofs.YtnlhpndjogjejaaGreatDoor

/- The landed schema's reader: take, number, count, flag, text, name. -/
namespace Go.Proofs.YtnlhpndjogjejaaGreatDoor
open Go.RowKit

/-- so many bytes -/
def takeR (n : Nat) (l : List UInt8) : Except Nat (List UInt8 × Nat) := if l.length < n then .error 30 else .ok (l.take n, n)
/-- a number of at most that many -/
def countR (most er : Nat) (l : List UInt8) : Except Nat (Nat × Nat) := match Sch.num l with
  | .error e => .error e
  | .ok (n, k) => if most < n then .error er else .ok (n, k)
/-- a name -/
def nameR (l : List UInt8) : Except Nat (ByteArray × Nat) := match Sch.text 16 70 l with
  | .error e => .error e
  | .ok (t, k) => if Sch.name t = false then .error 70 else .ok (t, k)

set_option maxRecDepth 100000 in
set_option maxHeartbeats 1000000 in
theorem takeK (n : Nat) (l : List UInt8) (A R : Nat) (w : World) (h : Rdr w A R l) : Calls Tryz.prog 78 #[.pointer (some ⟨R, 0, none⟩), .int .i64 n] w (RdA w A R l (takeR n l) isB) := by
  obtain ⟨p, c, h1, h2, h3, h4⟩ := h.out
  have c0 : w.cell? ⟨R, 0, none⟩ = some (.slice p l.length c) := blk_cell h1 0
  have f0 := blk_free h1 0
  obtain ⟨r, hr⟩ : ∃ r, r = takeR n l := ⟨_, rfl⟩
  rw [← hr]
  by_cases hlt : l.length < n
  · have g0 : ¬ (n : Int) ≤ (l.length : Int) := by omega
    have HR : Hid (r = .error 30) := by show _ = _; rw [hr, takeR, if_pos hlt]
    clear hr hlt h1 h2 h3 h4 h
    go_enter Tryz.func78, Tryz.ntmps78
    go_wp2_with fail
    refine (need_f _ 30 _).mono ?_
    rintro e w1 ⟨rfl, hw1⟩
    rw [hw1]
    clear hw1 w1
    go_wp2
    rw [HR.out]
    exact ⟨rfl, rfl, Aside.refl _ _⟩
  · have g0 : (n : Int) ≤ (l.length : Int) := by omega
    have HR : Hid (r = .ok (l.take n, n)) := by show _ = _; rw [hr, takeR, if_neg hlt]
    have s1 := run_cut_h p l.length c n (by omega) w
    have s2 := run_cut_l p l.length c n (by omega) w
    have HCut := Lib.hid (h.cut h1 h2 h3 h4 n (by omega))
    have HHd : Hid (isB (l.take n) (.slice (cutH p c) n c) (w.setCell ⟨R, 0, none⟩ (.slice (cutP p n c) (l.length - n) (c - n)))) := by
      have e1 : (l.take n).length = n := by rw [List.length_take]; omega
      refine ⟨cutH p c, c, by rw [e1], ?_, by omega⟩
      have hl := h.low
      have hp2 : l.take n ≠ [] → ∀ a, cutH p c = some a → a.block < A := fun hne a ha => by
        have h4 := h4 (fun he => hne (by rw [he]; simp))
        unfold cutH at ha
        split at ha
        · exact h4 a ha
        · cases p with
          | none => cases ha
          | some b =>
            simp only [Option.map_some, Option.some.injEq] at ha
            subst ha
            rw [add_block]
            exact h4 b rfl
      exact (h2.head n c).keep hp2 (fun k hk => Below.heap_setCell _ _ _ _ (by show k ≠ R; omega)) (by simp [World.setCell])
    clear hr hlt h1 h2 h3 h4 h
    go_enter Tryz.func78, Tryz.ntmps78
    go_wp2_with fail
    refine (need_t _ 30 _).mono ?_
    rintro e w1 ⟨rfl, hw1⟩
    rw [hw1]
    clear hw1 w1
    go_wp2
    go_ret
    rw [HR.out]
    exact ⟨_, rfl, HHd.out, HCut.out, aside_set _ _ _ _⟩

theorem RdA.good {α : Type} {w w' : World} {A R : Nat} {l : List UInt8} {a : α} {j : Nat} {V : α → Value → World → Prop} {e : Ending} (h : RdA w A R l (.ok (a, j)) V e w') : ∃ v, e = .returned v ∧ V a v w' ∧ Rdr w' A R (l.drop j) ∧ Aside (fun i => i = R) w w' := h
theorem RdA.bad {α : Type} {w w' : World} {A R : Nat} {l : List UInt8} {k : Nat} {V : α → Value → World → Prop} {e : Ending} (h : RdA w A R l (.error k) V e w') : e = .panicked (errV k) ∧ Aside (fun i => i = R) w w' := h
theorem isB.open {b : List UInt8} {v : Value} {w : World} (h : isB b v w) : ∃ q c, v = .slice q b.length c ∧ At w q b ∧ b.length ≤ c := h
theorem gotV0_ok {l : List UInt8} {n k : Nat} (h : Sch.num l = .ok (n, k)) : gotV l 0 = .tuple #[.int .u64 n, .int .i64 k, .int .i64 0] := by
  unfold Sch.num at h
  split at h
  · next h0 =>
    injection h with h
    injection h with h1 h2
    have e : Leb.getAt l 0 = Leb.get l := by unfold Leb.getAt; rw [if_neg (by decide)]; rfl
    unfold gotV Leb.nextAt
    rw [e, if_pos h0, h0, h1, h2]
    simp
  · cases h
theorem gotV0_err {l : List UInt8} {er : Nat} (h : Sch.num l = .error er) : er ≠ 0 ∧ ∃ m : Nat, gotV l 0 = .tuple #[.int .u64 m, .int .i64 0, .int .i64 er] := by
  unfold Sch.num at h
  split at h
  · cases h
  · next h0 =>
    injection h with h
    have e : Leb.getAt l 0 = Leb.get l := by unfold Leb.getAt; rw [if_neg (by decide)]; rfl
    refine ⟨by rw [← h]; exact h0, (Leb.get l).n, ?_⟩
    unfold gotV Leb.nextAt
    rw [e, if_neg h0, h]
theorem num_le {l : List UInt8} {n k : Nat} (h : Sch.num l = .ok (n, k)) : k ≤ l.length ∧ n < 18446744073709551616 := by
  obtain ⟨h1, r, h2, h3⟩ := Sch.num_ok h
  refine ⟨?_, h1⟩
  rw [h3, h2, List.length_append]
  omega

set_option maxRecDepth 100000 in
set_option maxHeartbeats 1000000 in
theorem numberK (l : List UInt8) (A R : Nat) (w : World) (h : Rdr w A R l) : Calls Tryz.prog 77 #[.pointer (some ⟨R, 0, none⟩)] w (RdA w A R l (Sch.num l) isU) := by
  obtain ⟨p, c, h1, h2, h3, h4⟩ := h.out
  have hsm := h.small
  have c0 : w.cell? ⟨R, 0, none⟩ = some (.slice p l.length c) := blk_cell h1 0
  have f0 := blk_free h1 0
  have HG := Lib.hid (get_any p c l 0 (by omega) h3 w h2)
  obtain ⟨r, hr⟩ : ∃ r, r = Sch.num l := ⟨_, rfl⟩
  rw [← hr]
  cases r with
  | error er =>
    obtain ⟨he0, m, hgv⟩ := gotV0_err hr.symm
    rw [hgv] at HG
    have g0 : ((er : Int) == 0) = false := beq_f (by omega)
    clear hr hgv h1 h2 h3 h4 h he0
    go_enter Tryz.func77, Tryz.ntmps77
    go_wp2_with fail
    refine HG.out.mono ?_
    rintro e w1 ⟨rfl, hw1⟩
    rw [hw1]
    clear hw1 w1 HG
    go_wp2_with fail
    refine (need_f _ er _).mono ?_
    rintro e w1 ⟨rfl, hw1⟩
    rw [hw1]
    clear hw1 w1
    go_wp2
    exact ⟨rfl, rfl, Aside.refl _ _⟩
  | ok nk =>
    obtain ⟨n, k⟩ := nk
    rw [gotV0_ok hr.symm] at HG
    obtain ⟨hk, -⟩ := num_le hr.symm
    have s2 := run_cut_l p l.length c k hk w
    have HCut := Lib.hid (h.cut h1 h2 h3 h4 k hk)
    clear hr h1 h2 h3 h4 h hk
    go_enter Tryz.func77, Tryz.ntmps77
    go_wp2_with fail
    refine HG.out.mono ?_
    rintro e w1 ⟨rfl, hw1⟩
    rw [hw1]
    clear hw1 w1 HG
    go_wp2_with fail
    refine (need_t _ 0 _).mono ?_
    rintro e w1 ⟨rfl, hw1⟩
    rw [hw1]
    clear hw1 w1
    go_wp2
    go_ret
    exact ⟨_, rfl, rfl, HCut.out, aside_set _ _ _ _⟩

set_option maxRecDepth 100000 in
set_option maxHeartbeats 1000000 in
theorem countK (most er : Nat) (hm : most ≤ 1024) (l : List UInt8) (A R : Nat) (w : World) (h : Rdr w A R l) : Calls Tryz.prog 70 #[.pointer (some ⟨R, 0, none⟩), .int .u64 most, .int .i64 er] w (RdA w A R l (countR most er l) isI) := by
  have HN := Lib.hid (numberK l A R w h)
  obtain ⟨r, hr⟩ : ∃ r, r = countR most er l := ⟨_, rfl⟩
  have HR : Hid (r = match Sch.num l with
    | .error e => .error e
    | .ok (n, k) => if most < n then .error er else .ok (n, k)) := hr
  rw [← hr]
  clear h hr
  obtain ⟨m, hm0⟩ : ∃ m, m = Sch.num l := ⟨_, rfl⟩
  rw [← hm0] at HN HR
  have HM := Lib.hid hm0
  clear hm0
  cases m with
  | error e0 =>
    go_enter Tryz.func70, Tryz.ntmps70
    go_wp2_with fail
    refine HN.out.mono ?_
    intro e w1 hh
    obtain ⟨he, ha⟩ := hh.bad
    subst he
    clear hh
    have HA := Lib.hid ha
    clear ha HN
    go_wp2
    rw [HR.out]
    exact ⟨rfl, rfl, HA.out⟩
  | ok nk =>
    obtain ⟨n, k⟩ := nk
    have hn64 := (num_le HM.out.symm).2
    by_cases hlt : most < n
    · have HR2 : Hid (r = .error er) := by show _ = _; rw [HR.out]; exact if_pos hlt
      have g0 : ¬ n ≤ most := by omega
      clear HR hlt
      go_enter Tryz.func70, Tryz.ntmps70
      go_wp2_with fail
      refine HN.out.mono ?_
      intro e w1 hh
      obtain ⟨v, he, hv, -, ha⟩ := hh.good
      clear hh
      replace hv : v = .int .u64 (n : Nat) := hv
      subst hv
      subst he
      have HA := Lib.hid ha
      clear ha HN
      go_wp2_with fail
      refine (need_f _ er _).mono ?_
      rintro e w2 ⟨rfl, hw2⟩
      rw [hw2]
      clear hw2 w2
      go_wp2
      rw [HR2.out]
      exact ⟨rfl, rfl, HA.out⟩
    · have HR2 : Hid (r = .ok (n, k)) := by show _ = _; rw [HR.out]; exact if_neg hlt
      have g0 : n ≤ most := by omega
      have g1 : (n : Int) ≤ 1024 := by omega
      clear HR hlt
      go_enter Tryz.func70, Tryz.ntmps70
      go_wp2_with fail
      refine HN.out.mono ?_
      intro e w1 hh
      obtain ⟨v, he, hv, hrd, ha⟩ := hh.good
      clear hh
      replace hv : v = .int .u64 (n : Nat) := hv
      subst hv
      subst he
      have HA := Lib.hid ha
      have HRd := Lib.hid hrd
      clear ha HN hrd
      go_wp2_with fail
      refine (need_t _ er _).mono ?_
      rintro e w2 ⟨rfl, hw2⟩
      rw [hw2]
      clear hw2 w2
      go_wp2
      go_ret
      rw [HR2.out]
      exact ⟨_, rfl, rfl, HRd.out, HA.out⟩

set_option maxRecDepth 100000 in
set_option maxHeartbeats 1000000 in
theorem flagK (l : List UInt8) (A R : Nat) (w : World) (h : Rdr w A R l) : Calls Tryz.prog 81 #[.pointer (some ⟨R, 0, none⟩)] w (RdA w A R l (Sch.bit l) isI) := by
  have HT := Lib.hid (takeK 1 l A R w h)
  clear h
  cases l with
  | nil =>
    have e1 : takeR 1 [] = .error 30 := rfl
    rw [e1] at HT
    go_enter Tryz.func81, Tryz.ntmps81
    go_wp2_with fail
    refine HT.out.mono ?_
    intro e w1 hh
    obtain ⟨he, ha⟩ := hh.bad
    subst he
    clear hh
    have HA := Lib.hid ha
    clear ha HT
    go_wp2
    exact ⟨rfl, rfl, HA.out⟩
  | cons b t =>
    have e1 : takeR 1 (b :: t) = .ok ([b], 1) := by
      unfold takeR
      rw [if_neg (by simp)]
      rfl
    rw [e1] at HT
    have hb := b.toNat_lt
    by_cases hlt : 1 < b.toNat
    · have e2 : Sch.bit (b :: t) = .error 5 := by rw [Sch.bit, if_pos hlt]
      have g0 : decide ((b.toNat : Int) ≤ 1) = false := decide_eq_false (by omega)
      rw [e2]
      clear e1 e2
      go_enter Tryz.func81, Tryz.ntmps81
      go_wp2_with fail
      refine HT.out.mono ?_
      intro e w1 hh
      obtain ⟨v, he, hv, -, ha⟩ := hh.good
      obtain ⟨q, c, hv, hat, -⟩ := hv.open
      clear hh
      subst hv
      subst he
      obtain ⟨bq, oq, rfl, -, hcs⟩ := at_some hat (by simp)
      have d0 : w1.cell? ⟨bq, oq, none⟩ = some (.int .u8 (b.toNat : Int)) := hcs 0 (by simp)
      have HA := Lib.hid ha
      clear ha HT hat hcs
      go_wp2_with fail
      refine (need_f _ 5 _).mono ?_
      rintro e w2 ⟨rfl, hw2⟩
      rw [hw2]
      clear hw2 w2
      go_wp2
      exact ⟨rfl, rfl, HA.out⟩
    · have e2 : Sch.bit (b :: t) = .ok (b.toNat, 1) := by rw [Sch.bit, if_neg hlt]
      have g0 : decide ((b.toNat : Int) ≤ 1) = true := decide_eq_true (by omega)
      rw [e2]
      clear e1 e2
      go_enter Tryz.func81, Tryz.ntmps81
      go_wp2_with fail
      refine HT.out.mono ?_
      intro e w1 hh
      obtain ⟨v, he, hv, hrd, ha⟩ := hh.good
      obtain ⟨q, c, hv, hat, -⟩ := hv.open
      clear hh
      subst hv
      subst he
      obtain ⟨bq, oq, rfl, -, hcs⟩ := at_some hat (by simp)
      have d0 : w1.cell? ⟨bq, oq, none⟩ = some (.int .u8 (b.toNat : Int)) := hcs 0 (by simp)
      have HA := Lib.hid ha
      have HRd := Lib.hid hrd
      clear ha HT hat hcs hrd
      go_wp2_with fail
      refine (need_t _ 5 _).mono ?_
      rintro e w2 ⟨rfl, hw2⟩
      rw [hw2]
      clear hw2 w2
      go_wp2
      go_ret
      exact ⟨_, rfl, rfl, HRd.out, HA.out⟩

/-- what was read, then what comes of it -/
def thenR {α β : Type} (r : Except Nat (α × Nat)) (f : α → Nat → Except Nat β) : Except Nat β := match r with
  | .error e => .error e
  | .ok (a, k) => f a k
theorem thenR_ok {α β : Type} (a : α) (k : Nat) (f : α → Nat → Except Nat β) : thenR (.ok (a, k)) f = f a k := rfl
theorem thenR_error {α β : Type} (e : Nat) (f : α → Nat → Except Nat β) : thenR (.error e) f = .error e := rfl
theorem text_count (most er : Nat) (l : List UInt8) : Sch.text most er l = thenR (countR most er l) fun n k => thenR (takeR n (l.drop k)) fun b j => .ok (textOf b, k + j) := by
  unfold Sch.text countR
  cases Sch.num l with
  | error e => rfl
  | ok nk =>
    obtain ⟨n, k⟩ := nk
    dsimp only
    by_cases h : most < n
    · rw [if_pos h, if_pos h]; rfl
    · rw [if_neg h, if_neg h, thenR_ok]
      unfold takeR
      rw [List.length_drop]
      by_cases h2 : l.length - k < n
      · rw [if_pos h2, if_pos h2]; rfl
      · rw [if_neg h2, if_neg h2]
        rfl
theorem nameR_count (l : List UInt8) : nameR l = thenR (countR 16 70 l) fun n k => thenR (takeR n (l.drop k)) fun b j => if Sch.name (textOf b) = false then .error 70 else .ok (textOf b, k + j) := by
  unfold nameR
  rw [text_count]
  cases countR 16 70 l with
  | error e => rfl
  | ok nk =>
    obtain ⟨n, k⟩ := nk
    rw [thenR_ok, thenR_ok]
    cases takeR n (l.drop k) with
    | error e => rfl
    | ok bj => rfl

set_option maxRecDepth 100000 in
set_option maxHeartbeats 1000000 in
theorem textK (l : List UInt8) (A R : Nat) (w : World) (h : Rdr w A R l) : Calls Tryz.prog 89 #[.pointer (some ⟨R, 0, none⟩)] w (RdA w A R l (Sch.text 1024 2 l) isT) := by
  have HN := Lib.hid (countK 1024 2 (by omega) l A R w h)
  obtain ⟨r, hr⟩ : ∃ r, r = Sch.text 1024 2 l := ⟨_, rfl⟩
  have HR := Lib.hid (hr.trans (text_count 1024 2 l))
  rw [← hr]
  obtain ⟨m, hm⟩ : ∃ m, m = countR 1024 2 l := ⟨_, rfl⟩
  rw [← hm] at HN HR
  clear h hr hm
  cases m with
  | error e0 =>
    go_enter Tryz.func89, Tryz.ntmps89
    go_wp2_with fail
    refine HN.out.mono ?_
    intro e w1 hh
    obtain ⟨he, ha⟩ := hh.bad
    subst he
    clear hh
    have HA := Lib.hid ha
    clear ha HN
    go_wp2
    rw [HR.out]
    exact ⟨rfl, rfl, HA.out⟩
  | ok nk =>
    obtain ⟨n, k⟩ := nk
    go_enter Tryz.func89, Tryz.ntmps89
    go_wp2_with fail
    refine HN.out.mono ?_
    intro e w1 hh
    obtain ⟨v, he, hv, hrd, ha⟩ := hh.good
    clear hh
    replace hv : v = .int .i64 (n : Nat) := hv
    subst hv
    subst he
    have HA := Lib.hid ha
    have HT := Lib.hid (takeK n (l.drop k) A R w1 hrd)
    obtain ⟨m, hm⟩ : ∃ m, m = takeR n (l.drop k) := ⟨_, rfl⟩
    have HR2 : Hid (r = thenR (takeR n (l.drop k)) fun b j => .ok (textOf b, k + j)) := HR.out
    rw [← hm] at HT HR2
    clear ha HN hrd hm HR
    cases m with
    | error e0 =>
      go_wp2_with fail
      refine HT.out.mono ?_
      intro e w2 hh
      obtain ⟨he, ha⟩ := hh.bad
      subst he
      clear hh
      have HA2 := Lib.hid (HA.out.trans ha (fun _ _ h => h))
      clear ha HT
      go_wp2
      rw [HR2.out]
      exact ⟨rfl, rfl, HA2.out⟩
    | ok bj =>
      obtain ⟨b, j⟩ := bj
      go_wp2_with fail
      refine HT.out.mono ?_
      intro e w2 hh
      obtain ⟨v, he, hv, hrd, ha⟩ := hh.good
      obtain ⟨q, c, hv, hat, -⟩ := hv.open
      clear hh
      subst hv
      subst he
      have HA2 := Lib.hid (HA.out.trans ha (fun _ _ h => h))
      have hcv := conv_str hat c
      have HRd : Hid (Rdr w2 A R (l.drop (k + j))) := by
        show Rdr _ _ _ _
        rw [← List.drop_drop]
        exact hrd
      clear ha HT hat hrd
      go_wp2
      go_ret
      rw [HR2.out]
      exact ⟨_, rfl, rfl, HRd.out, HA2.out⟩

set_option maxRecDepth 100000 in
set_option maxHeartbeats 1000000 in
theorem nameRK (l : List UInt8) (A R : Nat) (w : World) (h : Rdr w A R l) : Calls Tryz.prog 71 #[.pointer (some ⟨R, 0, none⟩)] w (RdA w A R l (nameR l) isT) := by
  have HN := Lib.hid (countK 16 70 (by omega) l A R w h)
  obtain ⟨r, hr⟩ : ∃ r, r = nameR l := ⟨_, rfl⟩
  have HR := Lib.hid (hr.trans (nameR_count l))
  rw [← hr]
  obtain ⟨m, hm⟩ : ∃ m, m = countR 16 70 l := ⟨_, rfl⟩
  rw [← hm] at HN HR
  clear h hr hm
  cases m with
  | error e0 =>
    go_enter Tryz.func71, Tryz.ntmps71
    go_wp2_with fail
    refine HN.out.mono ?_
    intro e w1 hh
    obtain ⟨he, ha⟩ := hh.bad
    subst he
    clear hh
    have HA := Lib.hid ha
    clear ha HN
    go_wp2
    rw [HR.out]
    exact ⟨rfl, rfl, HA.out⟩
  | ok nk =>
    obtain ⟨n, k⟩ := nk
    go_enter Tryz.func71, Tryz.ntmps71
    go_wp2_with fail
    refine HN.out.mono ?_
    intro e w1 hh
    obtain ⟨v, he, hv, hrd, ha⟩ := hh.good
    clear hh
    replace hv : v = .int .i64 (n : Nat) := hv
    subst hv
    subst he
    have HA := Lib.hid ha
    have HT := Lib.hid (takeK n (l.drop k) A R w1 hrd)
    obtain ⟨m, hm⟩ : ∃ m, m = takeR n (l.drop k) := ⟨_, rfl⟩
    have HR2 : Hid (r = thenR (takeR n (l.drop k)) fun b j => if Sch.name (textOf b) = false then .error 70 else .ok (textOf b, k + j)) := HR.out
    rw [← hm] at HT HR2
    clear ha HN hrd hm HR
    cases m with
    | error e0 =>
      go_wp2_with fail
      refine HT.out.mono ?_
      intro e w2 hh
      obtain ⟨he, ha⟩ := hh.bad
      subst he
      clear hh
      have HA2 := Lib.hid (HA.out.trans ha (fun _ _ h => h))
      clear ha HT
      go_wp2
      rw [HR2.out]
      exact ⟨rfl, rfl, HA2.out⟩
    | ok bj =>
      obtain ⟨b, j⟩ := bj
      go_wp2_with fail
      refine HT.out.mono ?_
      intro e w2 hh
      obtain ⟨v, he, hv, hrd, ha⟩ := hh.good
      obtain ⟨q, c, hv, hat, -⟩ := hv.open
      clear hh
      subst hv
      subst he
      have HA2 := Lib.hid (HA.out.trans ha (fun _ _ h => h))
      have hcv := conv_str hat c
      have HRd : Hid (Rdr w2 A R (l.drop (k + j))) := by
        show Rdr _ _ _ _
        rw [← List.drop_drop]
        exact hrd
      have HNm := Lib.hid (nameK (textOf b) w2)
      have HR3 : Hid (r = if Sch.name (textOf b) = false then .error 70 else .ok (textOf b, k + j)) := HR2.out
      obtain ⟨t, ht⟩ : ∃ t, t = textOf b := ⟨_, rfl⟩
      rw [← ht] at hcv HNm HR3
      obtain ⟨rn, hrn⟩ : ∃ b, b = Sch.name t := ⟨_, rfl⟩
      rw [← hrn] at HNm HR3
      clear ha HT hat hrd HR2 hrn ht
      go_wp2_with fail
      refine HNm.out.mono ?_
      rintro e w3 ⟨rfl, hw3⟩
      rw [hw3]
      clear hw3 w3 HNm
      cases rn with
      | false =>
        have HR4 : Hid (r = .error 70) := HR3.out.trans (if_pos (by first | rfl | trivial))
        clear HR3
        go_wp2_with fail
        refine (need_f _ 70 _).mono ?_
        rintro e w3 ⟨rfl, hw3⟩
        rw [hw3]
        clear hw3 w3
        go_wp2
        rw [HR4.out]
        exact ⟨rfl, rfl, HA2.out⟩
      | true =>
        have HR4 : Hid (r = .ok (t, k + j)) := HR3.out.trans (if_neg (by first | decide | simp))
        clear HR3
        go_wp2_with fail
        refine (need_t _ 70 _).mono ?_
        rintro e w3 ⟨rfl, hw3⟩
        rw [hw3]
        clear hw3 w3
        go_wp2
        go_ret
        rw [HR4.out]
        exact ⟨_, rfl, rfl, HRd.out, HA2.out⟩
end Go.Proofs.YtnlhpndjogjejaaGreatDoor

/- The landed schema's reader: float. -/
namespace Go.Proofs.YtnlhpndjogjejaaGreatDoor
open Go.RowKit

/-- eight bits put behind those that stand -/
theorem or_join8 (m x k : Nat) (hm : m < 256 ^ k) (hx : m + x * 256 ^ k < 18446744073709551616) : bits .or .u64 (m : Int) (IntKind.u64.wrap ((x : Int) * 2 ^ (8 * k))) = ((m + x * 256 ^ k : Nat) : Int) := by
  have e : (2 : Nat) ^ (8 * k) = 256 ^ k := by rw [Nat.pow_mul]
  have e2 : ((x : Int) * 2 ^ (8 * k)) = ((x * 256 ^ k : Nat) : Int) := by
    rw [← e]; push_cast; rfl
  have e3 : IntKind.u64.wrap (((x * 256 ^ k : Nat) : Int)) = ((x * 256 ^ k : Nat) : Int) := by
    rw [IntKind.wrap_u64]; omega
  rw [e2, e3, bits_join_low .u64 64 (by decide) wraps_u64 (8 * k) (m : Int) _ (by omega) (by rw [← e] at hm; exact_mod_cast hm) (by omega) (by omega) (by rw [← e]; push_cast; exact Int.mul_emod_left _ _) (by omega)]
  omega
theorem un_take_succ (r : List UInt8) (k : Nat) (h : k < r.length) : Sch.un (r.take (k + 1)) = Sch.un (r.take k) + r[k].toNat * 256 ^ k := by
  induction r generalizing k with
  | nil => simp at h
  | cons c r ih =>
    cases k with
    | zero => simp [Sch.un]
    | succ k =>
      have hk : k < r.length := by simpa using h
      have := ih k hk
      simp only [List.take_succ_cons, Sch.un, List.getElem_cons_succ, this, Nat.pow_succ]
      generalize (256 : Nat) ^ k = P
      generalize r[k].toNat = x
      rw [Nat.add_mul, Nat.mul_assoc]
      omega
theorem un_take_lt (r : List UInt8) (k : Nat) (h : k ≤ r.length) : Sch.un (r.take k) < 256 ^ k := by
  have := Sch.un_lt (r.take k)
  rw [List.length_take, Nat.min_eq_left h] at this
  exact this

def isF (n : Nat) (v : Value) (_ : World) : Prop := v = .float .f64 n

set_option maxRecDepth 100000 in
set_option maxHeartbeats 1000000 in
theorem floatK (l : List UInt8) (A R : Nat) (w : World) (h : Rdr w A R l) : Calls Tryz.prog 88 #[.pointer (some ⟨R, 0, none⟩)] w (RdA w A R l (Sch.float l) isF) := by
  have HT := Lib.hid (takeK 8 l A R w h)
  obtain ⟨r, hr⟩ : ∃ r, r = Sch.float l := ⟨_, rfl⟩
  rw [← hr]
  clear h
  by_cases hlt : l.length < 8
  · have e1 : takeR 8 l = .error 30 := by rw [takeR, if_pos hlt]
    have HR : Hid (r = .error 30) := by show _ = _; rw [hr, Sch.float, if_pos hlt]
    rw [e1] at HT
    clear e1 hlt hr
    go_enter Tryz.func88, Tryz.ntmps88
    go_wp2_with fail
    refine HT.out.mono ?_
    intro e w1 hh
    obtain ⟨he, ha⟩ := hh.bad
    subst he
    clear hh
    have HA := Lib.hid ha
    clear ha HT
    go_wp2
    rw [HR.out]
    exact ⟨rfl, rfl, HA.out⟩
  · have e1 : takeR 8 l = .ok (l.take 8, 8) := by rw [takeR, if_neg hlt]
    have HR : Hid (r = if fixB (Sch.un (l.take 8)) = Sch.un (l.take 8) then .ok (Sch.un (l.take 8), 8) else .error 5) := by show _ = _; rw [hr, Sch.float, if_neg hlt]
    rw [e1] at HT
    have hb8 : (l.take 8).length = 8 := by rw [List.length_take]; omega
    obtain ⟨b, hb⟩ : ∃ b, b = l.take 8 := ⟨_, rfl⟩
    rw [← hb] at HT HR hb8
    have HB8 := Lib.hid hb8
    have HU : Hid (Sch.un (b.take 0) = 0) := by show _ = _; simp [Sch.un]
    clear e1 hlt hr hb hb8
    go_enter Tryz.func88, Tryz.ntmps88
    go_wp2_with fail
    refine HT.out.mono ?_
    intro e w1 hh
    obtain ⟨v, he, hv, hrd, ha⟩ := hh.good
    obtain ⟨q, c, hv2, hat, -⟩ := hv.open
    clear hh hv
    subst hv2
    subst he
    rw [HB8.out]
    have HA := Lib.hid ha
    have HRd := Lib.hid hrd
    obtain ⟨bq, oq, hq, -, hcs⟩ := at_some hat (by rw [HB8.out]; decide)
    subst hq
    have HCs := Lib.hid hcs
    clear ha HT hat hrd hcs
    go_wp2_with fail
    go_loop [3, 10] (fun v3 v10 => ∃ (k m : Nat), k ≤ 8 ∧ v10 = .int .i64 k ∧ v3 = .int .u64 m ∧ m < 18446744073709551616 ∧ Hid (m = Sch.un (b.take k))) (fun _ v10 => 8 - (intOf v10).toNat)
    case atStart => exact ⟨0, 0, by omega, rfl, rfl, by omega, HU.out.symm⟩
    case round =>
      obtain ⟨k, m, hk, rfl, rfl, hm, HK⟩ := hrel
      by_cases hk8 : k < 8
      · have hk1 : (k : Int) < 8 := by omega
        have hkb : k < b.length := by rw [HB8.out]; exact hk8
        have d0 := HCs.out k hkb
        have hs := un_take_succ b k hkb
        have hlt2 := un_take_lt b (k + 1) (by omega)
        obtain ⟨x, hx⟩ : ∃ x, x = b[k].toNat := ⟨_, rfl⟩
        rw [← hx] at d0 hs
        have hx8 : x < 256 := by rw [hx]; exact b[k].toNat_lt
        have hlim : m + x * 256 ^ k < 18446744073709551616 := by
          rw [HK.out, ← hs]
          have e : (256 : Nat) ^ (k + 1) ≤ 256 ^ 8 := Nat.pow_le_pow_right (by decide) (by omega)
          have e2 : (256 : Nat) ^ 8 = 18446744073709551616 := by decide
          omega
        have hor := or_join8 m x k (by rw [HK.out]; exact un_take_lt b k (by omega)) hlim
        have HN : Hid (m + x * 256 ^ k = Sch.un (b.take (k + 1))) := by show _ = _; rw [hs, HK.out]
        clear hs hlt2 hx HK hkb
        obtain ⟨y, hy⟩ : ∃ y, y = m + x * 256 ^ k := ⟨_, rfl⟩
        rw [← hy] at hor HN hlim
        clear hy
        go_wp2
        go_round
        case rel => exact ⟨k + 1, y, by omega, by go_num, rfl, hlim, HN.out⟩
        case measure => simp [intOf]; omega
      · have hkn : ¬ (k : Int) < 8 := by omega
        have hk9 : k = 8 := by omega
        subst hk9
        have HN : Hid (m = Sch.un b) := by
          show _ = _
          rw [HK.out, List.take_of_length_le (by rw [HB8.out]; exact Nat.le_refl _)]
        clear HK
        have HOf := Lib.hid (realOf_any (m : Int))
        have em : ((m : Int)).toNat = m := by omega
        rw [em] at HOf
        have HBi := Lib.hid (realBits_any (fixB m))
        rw [fixB_idem] at HBi
        have HR2 : Hid (r = if fixB m = m then .ok (m, 8) else .error 5) := by show _ = _; rw [HR.out, HN.out]
        clear HR HN em
        go_wp2_with fail
        refine (HOf.out _).mono ?_
        rintro e w2 ⟨rfl, hw2⟩
        rw [hw2]
        clear hw2 w2
        go_wp2_with fail
        refine (HBi.out _).mono ?_
        rintro e w2 ⟨rfl, hw2⟩
        rw [hw2]
        clear hw2 w2
        by_cases hfx : fixB m = m
        · have HR4 : Hid (r = .ok (m, 8)) := HR2.out.trans (if_pos hfx)
          rw [hfx]
          clear HR2
          go_wp2_with fail
          refine (need_t _ 5 _).mono ?_
          rintro e w2 ⟨rfl, hw2⟩
          rw [hw2]
          clear hw2 w2
          go_wp2
          go_ret
          rw [HR4.out]
          exact ⟨_, rfl, rfl, HRd.out, HA.out⟩
        · have HR4 : Hid (r = .error 5) := HR2.out.trans (if_neg hfx)
          have g0 : ((fixB m : Int) == (m : Int)) = false := beq_f (by omega)
          clear HR2
          go_wp2_with fail
          refine (need_f _ 5 _).mono ?_
          rintro e w2 ⟨rfl, hw2⟩
          rw [hw2]
          clear hw2 w2
          go_wp2
          rw [HR4.out]
          exact ⟨rfl, rfl, HA.out⟩
end Go.Proofs.YtnlhpndjogjejaaGreatDoor

/- How a type is built, item by item. -/
namespace Go.Proofs.YtnlhpndjogjejaaGreatDoor
open Go.RowKit

theorem flat2_len (us : Nat → Array Value) : ∀ n, (∀ j, j < n → (us j).size = 2) → (flat us n).length = n * 2
  | 0, _ => by simp [flat]
  | n + 1, h => by
    rw [flat, List.length_append, flat2_len us n fun j hj => h j (by omega), Array.length_toList, h n (by omega)]; omega
theorem flat2_get (us : Nat → Array Value) : ∀ n, (∀ j, j < n → (us j).size = 2) → ∀ j, j < n → ∀ m, m < 2 → (flat us n)[j * 2 + m]? = (us j)[m]?
  | 0, _, j, hj, _, _ => by omega
  | n + 1, h, j, hj, m, hm => by
    have hl := flat2_len us n fun j hj => h j (by omega)
    rw [flat]
    rcases Nat.lt_or_ge j n with h1 | h1
    · rw [List.getElem?_append_left (by omega), flat2_get us n (fun j hj => h j (by omega)) j h1 m hm]
    · have hjn : j = n := by omega
      subst hjn
      rw [List.getElem?_append_right (by omega), hl, Nat.add_sub_cancel_left]
      simp

def zeroT : Value := .agg (cells2 0 none 0 0)
theorem info42 : (Tryz.prog.info? 61).map (fun i => (i.zero, i.size, i.bytes)) = some (some zeroT, 2, 32) := by kernel_rfl
theorem one2 {w : World} {F : Nat → Prop} {u : Array Value} {x : Ty} (h : TOwn w F u x) : ∀ a ∈ u.toList, a.oneCell' = true := by
  obtain ⟨k, p, n, c, rfl⟩ := h.shape
  intro a ha
  simp [cells2] at ha
  rcases ha with rfl | rfl <;> rfl
section
variable {B : Nat} {v : Value} {n : Nat} {us : Nat → Array Value} {w : World} {u : Array Value} {ad H : Nat}
/-- in the walk -/
theorem wp_moreT (hown : w.ownsRow B 61 2 v n (flat us n)) (h5 : u.size = 2) (h1 : ∀ a ∈ u.toList, a.oneCell' = true) (hblk : w.heap[ad]? = some (.cells u 61 (0, 0))) (hn : (n + 1) * 32 ≤ 140737488355328) (hB : B ≤ w.heap.size) (hH : w.heap.size = H)
    {ops : Array Oper} {rest : List Oper} {o : Oper} {a : Act} {Q : Exit → Act → World → Prop} {y x : Operand}
    (hg : o.guard = none) (hop : o.op = Op.call { callee := Callee.builtin Builtin.append, args := #[y, x], argTypes := #[59, 59] })
    (hs : a.eval y = v) (hx : a.eval x = .slice (some ⟨ad, 0, none⟩) 1 1)
    (hK : ∀ g cap w', w'.ownsRow B 61 2 (.slice (some ⟨g, 0, none⟩) (n + 1) cap) (n + 1) (flat us n ++ u.toList) → w.grownBy w' v.ownBlock → (v.ownBlock = some g ∨ g = H) → wpList Tryz.prog ops Q rest (a.put o.dst (.slice (some ⟨g, 0, none⟩) (n + 1) cap)) w') :
    wpList Tryz.prog ops Q (o :: rest) a w := by
  obtain ⟨i, hi, hz, hsz, hby⟩ := info_parts info42
  exact wpList_append_lies w hg y x 59 hop B 61 i zeroT 2 32 Tryz.underlying59 hi hz hsz hby rfl (by decide) v n (flat us n) hs hown ⟨ad, 0, none⟩ 1 1 u.toList hx (by simp [h5])
    (World.news_of_block hblk) h1 (by decide) (by unfold maxLen; omega) hn hB H hH fun g cap w' h2 h3 h4 _ => hK g cap w' h2 h3 h4
/-- at a step of a region that draws -/
theorem step_moreT (hown : w.ownsRow B 61 2 v n (flat us n)) (h5 : u.size = 2) (h1 : ∀ a ∈ u.toList, a.oneCell' = true) (hblk : w.heap[ad]? = some (.cells u 61 (0, 0))) (hn : (n + 1) * 32 ≤ 140737488355328) (hB : B ≤ w.heap.size) (hH : w.heap.size = H)
    {ops : Array Oper} {o : Oper} {a : Act} {K : Act → World → Prop} {Q : Exit → Act → World → Prop} {E : Prop} (y x : Operand)
    (hg : o.guard = none) (hop : o.op = Op.call { callee := Callee.builtin Builtin.append, args := #[y, x], argTypes := #[59, 59] })
    (hs : a.eval y = v) (hx : a.eval x = .slice (some ⟨ad, 0, none⟩) 1 1)
    (hK : ∀ g cap w', w'.ownsRow B 61 2 (.slice (some ⟨g, 0, none⟩) (n + 1) cap) (n + 1) (flat us n ++ u.toList) → w.grownBy w' v.ownBlock → (v.ownBlock = some g ∨ g = H) → K (a.put o.dst (.slice (some ⟨g, 0, none⟩) (n + 1) cap)) w') :
    if Region.wanted o (yielded ops a.tmps) = true then Oper.wp Tryz.prog o a w K Q else E := by
  obtain ⟨i, hi, hz, hsz, hby⟩ := info_parts info42
  exact step_append_lies w hg y x 59 hop B 61 i zeroT 2 32 Tryz.underlying59 hi hz hsz hby rfl (by decide) v n (flat us n) hs hown ⟨ad, 0, none⟩ 1 1 u.toList hx (by simp [h5])
    (World.news_of_block hblk) h1 (by decide) (by unfold maxLen; omega) hn hB H hH fun g cap w' h2 h3 h4 _ => hK g cap w' h2 h3 h4
end


/-- types that are built: they lie in a row of the call's own, and each in blocks of its own -/
structure TBuilt (w : World) (B : Nat) (v : Value) (n : Nat) (us : Nat → Array Value) (Fs : Nat → Nat → Prop) (ys : List Ty) : Prop where
  len : ys.length = n
  five : ∀ j, j < n → (us j).size = 2
  row : w.ownsRow B 61 2 v n (flat us n)
  own : ∀ j (h : j < ys.length), TOwn w (Fs j) (us j) ys[j]
  apart : ∀ j m, j < n → m < n → j ≠ m → ∀ k, Fs j k → ¬ Fs m k
  beside : ∀ g, v.ownBlock = some g → ∀ j, j < n → ¬ Fs j g
  range : ∀ j, j < n → ∀ k, Fs j k → B ≤ k ∧ k < w.heap.size

theorem tbuilt_nil (w : World) (B : Nat) : TBuilt w B (.slice none 0 0) 0 (fun _ => #[]) (fun _ _ => False) [] :=
  ⟨rfl, fun j hj => by omega, World.ownsRow_nil _ _ _ _, fun j hj => by simp at hj, fun j m hj => by omega, fun g hg => by simp [Value.ownBlock] at hg, fun j hj => by omega⟩

section
variable {w w' : World} {B : Nat} {v : Value} {n : Nat} {us : Nat → Array Value} {Fs : Nat → Nat → Prop} {ys : List Ty}
theorem TBuilt.aside {G : Nat → Prop} (h : TBuilt w B v n us Fs ys) (ha : Aside G w w') (h1 : ∀ g, v.ownBlock = some g → ¬ G g) (h2 : ∀ j, j < n → ∀ k, Fs j k → ¬ G k) : TBuilt w' B v n us Fs ys := by
  refine ⟨h.len, h.five, ?_, fun j hj => (h.own j hj).aside ha (h2 j (by rw [← h.len]; exact hj)), h.apart, h.beside, fun j hj k hk => ⟨(h.range j hj k hk).1, Nat.lt_of_lt_of_le (h.range j hj k hk).2 ha.size⟩⟩
  refine ⟨h.row.1, ?_⟩
  rcases h.row.2 with h3 | ⟨g, cap, cur, rfl, h4, h5, h6⟩
  · exact .inl h3
  · exact .inr ⟨g, cap, cur, rfl, h4, by rw [ha.block g (Array.getElem?_eq_some_iff.1 h5).1 (h1 g rfl)]; exact h5, h6⟩
theorem TBuilt.lt (h : TBuilt w B v n us Fs ys) : ∀ g, v.ownBlock = some g → B ≤ g ∧ g < w.heap.size := World.ownsRow.lt h.row
theorem TBuilt.on (h : TBuilt w B v n us Fs ys) (hb : Below w.heap.size w w') : TBuilt w' B v n us Fs ys :=
  h.aside (aside_new hb (fun _ => False)) (fun _ _ hc => hc) (fun _ _ _ _ hc => hc)
theorem TBuilt.set (h : TBuilt w B v n us Fs ys) (p : Addr) (u : Value) (hp : p.block < B) : TBuilt (w.setCell p u) B v n us Fs ys :=
  h.aside (G := fun k => k = p.block) ((Aside.refl (fun k => k = p.block) w).setCell (p := p) (.inl rfl) u) (fun g hg hc => by have := (h.lt g hg).1; omega) (fun j hj k hk hc => by have := (h.range j hj k hk).1; omega)

/-- one more -/
theorem TBuilt.step {w2 w3 w4 : World} {u : Array Value} {F : Nat → Prop} {x : Ty} {g cap : Nat} (h : TBuilt w B v n us Fs ys) (hb : Below w.heap.size w w2) (hx : TOwn w2 F u x) (hF : ∀ k, F k → w.heap.size ≤ k ∧ k < w2.heap.size) (hb3 : Below w2.heap.size w2 w3) (hB : B ≤ w.heap.size)
    (hr : w4.ownsRow B 61 2 (.slice (some ⟨g, 0, none⟩) (n + 1) cap) (n + 1) (flat us n ++ u.toList)) (hg : w3.grownBy w4 v.ownBlock) (hn : v.ownBlock = some g ∨ g = w3.heap.size) :
    TBuilt w4 B (.slice (some ⟨g, 0, none⟩) (n + 1) cap) (n + 1) (fun j => if j = n then u else us j) (fun j => if j = n then F else Fs j) (ys ++ [x]) := by
  have hs := hb.size
  have hs3 := hb3.size
  have ha : Aside (fun k => v.ownBlock = some k) w2 w4 := by
    refine (aside_new hb3 _).trans (G := fun k => v.ownBlock = some k) ⟨hg.os, hg.tape, hg.output, hg.size, fun k hk hf => hg.block k hk (fun hc => hf hc.symm)⟩ (fun _ _ h => h)
  have hgF : ∀ k, F k → ¬ v.ownBlock = some k := fun k hk hc => by have := (h.lt k hc).2; have := (hF k hk).1; omega
  have hn1 : ∀ j, j < n + 1 → j ≠ n → j < n := fun j h1 h2 => by omega
  refine ⟨by rw [List.length_append, h.len]; rfl, fun j hj => ?_, ?_, fun j hj => ?_, fun j m hj hm hjm k hk => ?_, fun g' hg' j hj => ?_, fun j hj k hk => ?_⟩
  · split
    · exact hx.five
    · exact h.five j (by omega)
  · rw [flat, flat_congr _ us n (fun j hj => by simp [show ¬ j = n by omega])]
    simpa using hr
  · rw [List.length_append, h.len, List.length_singleton] at hj
    by_cases hjn : j = n
    · subst hjn
      rw [if_pos rfl, if_pos rfl, List.getElem_append_right (by rw [h.len]; exact Nat.le_refl _)]
      simp only [h.len, Nat.sub_self, List.getElem_singleton]
      exact hx.aside ha hgF
    · rw [if_neg hjn, if_neg hjn, List.getElem_append_left (by rw [h.len]; omega)]
      exact ((h.own j (by rw [h.len]; omega)).under hb (fun k hk => (h.range j (by omega) k hk).2)).aside ha (fun k hk hc => h.beside k hc j (by omega) hk)
  · by_cases hjn : j = n
    · rw [if_pos hjn] at hk
      rw [if_neg (by omega)]
      exact fun hc => by have := (h.range m (by omega) k hc).2; have := (hF k hk).1; omega
    · rw [if_neg hjn] at hk
      by_cases hmn : m = n
      · rw [if_pos hmn]
        exact fun hc => by have := (h.range j (by omega) k hk).2; have := (hF k hc).1; omega
      · rw [if_neg hmn]
        exact h.apart j m (by omega) (by omega) hjm k hk
  · simp only [Value.ownBlock, Option.some.injEq] at hg'
    subst hg'
    by_cases hjn : j = n
    · rw [if_pos hjn]
      intro hc
      have := hF _ hc
      rcases hn with hn | hn
      · exact hgF _ hc hn
      · omega
    · rw [if_neg hjn]
      intro hc
      rcases hn with hn | hn
      · exact h.beside _ hn j (by omega) hc
      · have := (h.range j (by omega) _ hc).2; omega
  · have h4 := ha.size
    by_cases hjn : j = n
    · rw [if_pos hjn] at hk
      have := hF k hk; omega
    · rw [if_neg hjn] at hk
      have := h.range j (by omega) k hk; omega

/-- what is built is a value that lies in blocks of its own -/
theorem TBuilt.done (h : TBuilt w B v n us Fs ys) (hl : n * 32 ≤ 140737488351232) (k : Int) : ∃ p c, v = .slice p n c ∧ TOwn w (fun k => B ≤ k ∧ k < w.heap.size) (cells2 k p n c) (.mk k ys) := by
  rcases h.row.2 with ⟨rfl, h0⟩ | ⟨g, cap, cur, rfl, h1, h2, h3, h4, h5, h6⟩
  · have hy : ys = [] := List.eq_nil_of_length_eq_zero (by rw [h.len]; exact h0)
    subst hy
    subst h0
    exact ⟨none, 0, rfl, .none⟩
  · refine ⟨_, cap, rfl, ?_⟩
    have hg := (Array.getElem?_eq_some_iff.1 h2).1
    have hlen := h.len
    have hcell : ∀ q, q < n * 2 → w.cell? ⟨g, q, none⟩ = (flat us n)[q]? := fun q hq => by
      rw [← h6, List.getElem?_take_of_lt hq]
      simp [World.cell?, h2]
    subst hlen
    refine .some us Fs hl h3 h.five ⟨hg, fun j hj m hm => ?_⟩ (fun j hj m hm => by simp [World.frozen?, h2]) ⟨h1, hg⟩ (fun j hj => h.beside g rfl j hj) h.apart (fun j hj k hk => h.range j hj k hk) h.own
    rw [Nat.zero_add, hcell _ (by omega), flat2_get us _ h.five j hj m hm]
end

/-- what a fresh value's call answers -/
def FreshT (w : World) (y : Ty) (e : Ending) (w' : World) : Prop := ∃ u', e = .returned (.agg u') ∧ TOwn w' (fun k => w.heap.size ≤ k ∧ k < w'.heap.size) u' y ∧ Below w.heap.size w w'

/-- while a value is built: its parameter stands in the first block, its answer's place in the next, the value in the third; j items are there -/
structure MakingT (w : World) (C0 : Array Value) (k : Int) (zs : List Ty) (j : Nat) (v : Value) (wr : World) : Prop where
  built : ∃ us Fs, TBuilt wr (w.heap.size + 3) v j us Fs (zs.take j)
  b0 : wr.heap[w.heap.size]? = some (.cells C0 61 (0, 0))
  b1 : wr.heap[w.heap.size + 1]? = some (.cells (cells2 0 none 0 0) 61 (0, 0))
  b2 : wr.heap[w.heap.size + 2]? = some (.cells #[.int .i64 k, v] 61 (0, 0))
  below : Below w.heap.size w wr
  size : w.heap.size + 3 ≤ wr.heap.size

section
variable {w wr : World} {C0 : Array Value} {k : Int} {zs : List Ty} {j : Nat} {v : Value}
theorem makingT_start (w : World) (C0 : Array Value) (k : Int) (zs : List Ty) :
    MakingT w C0 k zs 0 (.slice none 0 0) (((w.alloc (.cells C0 61)).alloc (.cells (cells2 0 none 0 0) 61)).alloc (.cells #[.int .i64 k, .slice none 0 0] 61)) := by
  refine ⟨⟨_, _, tbuilt_nil _ _⟩, ?_, ?_, ?_, ((((Below.refl _ w).alloc (Nat.le_refl _) _).alloc (by simp) _).alloc (by simp; omega) _), by simp⟩
  · rw [blk_old _ _ (by simp; omega), blk_old _ _ (by simp)]; exact blk_new w _
  · rw [blk_old _ _ (by simp)]
    have := blk_new (w.alloc (.cells C0 61)) (.cells (cells2 0 none 0 0) 61)
    simpa using this
  · have := blk_new ((w.alloc (.cells C0 61)).alloc (.cells (cells2 0 none 0 0) 61)) (.cells #[.int .i64 k, .slice none 0 0] 61)
    simpa using this

theorem MakingT.slice (h : MakingT w C0 k zs j v wr) : ∃ p c, v = .slice p j c := by
  obtain ⟨us, Fs, hb⟩ := h.built
  rcases hb.row.2 with ⟨h1, h2⟩ | ⟨g, cap, cur, h1, _⟩
  · exact ⟨none, 0, by rw [h1, h2]⟩
  · exact ⟨_, cap, h1⟩

theorem MakingT.next {w2 w3 w4 : World} {u : Array Value} {F : Nat → Prop} {g cap : Nat} {us : Nat → Array Value} {Fs : Nat → Nat → Prop} (h : MakingT w C0 k zs j v wr) (hbt : TBuilt wr (w.heap.size + 3) v j us Fs (zs.take j)) (hj : j < zs.length) (hb : Below wr.heap.size wr w2) (hx : TOwn w2 F u zs[j])
    (hF : ∀ k, F k → wr.heap.size ≤ k ∧ k < w2.heap.size) (hb3 : Below w2.heap.size w2 w3)
    (hr : w4.ownsRow (w.heap.size + 3) 61 2 (.slice (some ⟨g, 0, none⟩) (j + 1) cap) (j + 1) (flat us j ++ u.toList)) (hg : w3.grownBy w4 v.ownBlock) (hn : v.ownBlock = some g ∨ g = w3.heap.size) :
    Below w.heap.size w w4 ∧ (∀ n, n < 3 → w4.heap[w.heap.size + n]? = wr.heap[w.heap.size + n]?) ∧ MakingT w C0 k zs (j + 1) (.slice (some ⟨g, 0, none⟩) (j + 1) cap) (w4.setCell ⟨w.heap.size + 2, 1, none⟩ (.slice (some ⟨g, 0, none⟩) (j + 1) cap)) := by
  have hs := h.size
  have hs2 := hb.size
  have hs3 := hb3.size
  have hst := hbt.step hb hx hF hb3 hs hr hg hn
  have hold : ∀ n, n < 3 → w4.heap[w.heap.size + n]? = wr.heap[w.heap.size + n]? := fun n hn => by
    rw [hg.block _ (by omega) (fun hc => by have := (hbt.lt _ hc.symm).1; omega), hb3.block _ (by omega), hb.block _ (by omega)]
  have hb4 : Below w.heap.size w w4 := ((h.below.trans (hb.mono (by omega))).trans (hb3.mono (by omega))).grown hg (by omega) (fun k hk => by have := (hbt.lt k hk).1; omega)
  refine ⟨hb4, hold, ⟨⟨(fun n => if n = j then u else us n), (fun n => if n = j then F else Fs n), ?_⟩, ?_, ?_, ?_, ?_, ?_⟩⟩
  · rw [List.take_succ_eq_append_getElem hj]
    exact hst.set ⟨w.heap.size + 2, 1, none⟩ _ (by show w.heap.size + 2 < _; omega)
  · have := hold 0 (by omega)
    rw [Nat.add_zero] at this
    exact blk_set_far (this.trans h.b0) _ _ (by show w.heap.size ≠ w.heap.size + 2; omega)
  · exact blk_set_far ((hold 1 (by omega)).trans h.b1) _ _ (by show w.heap.size + 1 ≠ w.heap.size + 2; omega)
  · rw [blk_set ((hold 2 (by omega)).trans h.b2)]
    rfl
  · exact hb4.setCell (by show w.heap.size ≤ w.heap.size + 2; omega) _
  · have := hg.size
    simp [World.setCell]
    omega


theorem MakingT.finish {q : Option Addr} {d : Nat} (h : MakingT w C0 k zs j (.slice q j d) wr) (hj : j = zs.length) (hl : j * 32 ≤ 140737488351232) :
    (put2 wr (w.heap.size + 1) k (.slice q j d)).heap[w.heap.size + 1]? = some (.cells (cells2 k q j d) 61 (0, 0)) ∧ FreshT w (.mk k zs) (.returned (.agg (cells2 k q j d))) (put2 wr (w.heap.size + 1) k (.slice q j d)) := by
  unfold put2
  refine ⟨?_, _, rfl, ?_, ?_⟩
  · rw [blk_set (blk_set h.b1 0 _) 1 _]
    rfl
  · obtain ⟨us, Fs, hb⟩ := h.built
    have hp : ∀ m, (⟨w.heap.size + 1, m, none⟩ : Addr).block < w.heap.size + 3 := fun m => by show w.heap.size + 1 < _; omega
    have h5 := (hb.set ⟨w.heap.size + 1, 0, none⟩ (.int .i64 k) (hp 0)).set ⟨w.heap.size + 1, 1, none⟩ (.slice q j d) (hp 1)
    obtain ⟨p', c', he, hv⟩ := h5.done hl k
    injection he with h6 h7 h8
    subst h6 h8
    rw [hj, List.take_length] at hv
    rw [← hj] at hv
    exact hv.mono fun k hk => ⟨by omega, hk.2⟩
  · have hp : ∀ m, w.heap.size ≤ (⟨w.heap.size + 1, m, none⟩ : Addr).block := fun m => by show _ ≤ w.heap.size + 1; omega
    exact (h.below.setCell (hp 0) _).setCell (hp 1) _
end
end Go.Proofs.YtnlhpndjogjejaaGreatDoor

/- The landed schema's reader: typeAt. -/
namespace Go.Proofs.YtnlhpndjogjejaaGreatDoor
open Go.RowKit

/-- what changed in block R alone, and then new blocks -/
theorem Aside.split {w w2 : World} {R : Nat} (h : Aside (fun i => i = R) w w2) (hR : R < w.heap.size) : ∃ w1, Aside (fun i => i = R) w w1 ∧ w1.heap.size = w.heap.size ∧ Below w1.heap.size w1 w2 := by
  have hs := h.size
  refine ⟨{ w with heap := w.heap.setIfInBounds R (w2.heap[R]'(by omega)) }, ⟨rfl, rfl, rfl, by simp, fun k hk hf => ?_⟩, by simp, ⟨h.os, h.tape, h.output, by simpa using hs, fun k hk => ?_⟩⟩
  · show (w.heap.setIfInBounds R _)[k]? = _
    rw [Array.getElem?_setIfInBounds_ne (fun e => hf e.symm)]
  · have hk' : k < w.heap.size := by simpa using hk
    show _ = (w.heap.setIfInBounds R _)[k]?
    by_cases e : k = R
    · subst e
      rw [Array.getElem?_setIfInBounds_self_of_lt hk']
      exact Array.getElem?_eq_getElem _
    · rw [Array.getElem?_setIfInBounds_ne (fun e2 => e e2.symm)]
      exact h.block k hk' e

/-- a call of a Go function of two arguments that panics, at a step of a region that draws -/
theorem step_call2b {w : World} {ops : Array Oper} {o : Oper} {a : Act} {K : Act → World → Prop} {Q : Exit → Act → World → Prop} {E : Prop} {f : FuncId} {fn : Func} {code : Code} {u v : Value} {R : Ending → World → Prop} (x y : Operand) (t t' : TypeId)
    (hg : o.guard = none) (hop : o.op = Op.call { callee := .value (.func f), args := #[x, y], argTypes := #[t, t'] }) (hx : a.eval x = u) (hy : a.eval y = v)
    (hf : Tryz.prog.funcs[f]? = some fn) (hname : (fn.name == "runtime.NumGoroutine") = false) (hb : fn.body = some code)
    (hc : Calls Tryz.prog f #[u, v] w R) (hR : ∀ e w', R e w' → ∃ ch, e = .panicked ch ∧ Q (.panic ch) a w') (v' : Value) (_ : Hid False → K (a.put o.dst v') w) :
    if Region.wanted o (yielded ops a.tmps) = true then Oper.wp Tryz.prog o a w K Q else E := by
  have hw : Region.wanted o (yielded ops a.tmps) = true := by simp [Region.wanted, hg]
  rw [if_pos hw]
  have h1 : fn.name ≠ "runtime.NumGoroutine" := by simpa using hname
  unfold Oper.wp
  have he : (execOp a.eval o).run Tryz.prog w = .ok (.enter f #[u, v]) w := by
    have hev : a.eval (.func f) = .func (.func f) #[] #[] := rfl
    simp [execOp, hop, resolve, invoke, hx, hy, hev, Deferred.ofValue, callFunc, hf, h1, hb]
  rw [he, Oper.upon_enter]
  refine hc.mono ?_
  intro e w' hr
  obtain ⟨z, rfl, hk⟩ := hR e w' hr
  exact hk
/-- where no run comes -/
theorem step_never {w : World} {ops : Array Oper} {o : Oper} {a : Act} {K : Act → World → Prop} {Q : Exit → Act → World → Prop} {E : Prop} (h : Hid False) (v' : Value) (_ : K (a.put o.dst v') w) :
    if Region.wanted o (yielded ops a.tmps) = true then Oper.wp Tryz.prog o a w K Q else E := h.out.elim
/-- and one that returns -/
theorem step_call2g {w : World} {ops : Array Oper} {o : Oper} {a : Act} {K : Act → World → Prop} {Q : Exit → Act → World → Prop} {E : Prop} {f : FuncId} {fn : Func} {code : Code} {u v : Value} {R : Ending → World → Prop} (x y : Operand) (t t' : TypeId)
    (hg : o.guard = none) (hop : o.op = Op.call { callee := .value (.func f), args := #[x, y], argTypes := #[t, t'] }) (hx : a.eval x = u) (hy : a.eval y = v)
    (hf : Tryz.prog.funcs[f]? = some fn) (hname : (fn.name == "runtime.NumGoroutine") = false) (hb : fn.body = some code)
    (hc : Calls Tryz.prog f #[u, v] w R) (hR : ∀ e w', R e w' → ∃ z, e = .returned z ∧ K (a.put o.dst z) w') :
    if Region.wanted o (yielded ops a.tmps) = true then Oper.wp Tryz.prog o a w K Q else E := by
  have hw : Region.wanted o (yielded ops a.tmps) = true := by simp [Region.wanted, hg]
  rw [if_pos hw]
  have h1 : fn.name ≠ "runtime.NumGoroutine" := by simpa using hname
  unfold Oper.wp
  have he : (execOp a.eval o).run Tryz.prog w = .ok (.enter f #[u, v]) w := by
    have hev : a.eval (.func f) = .func (.func f) #[] #[] := rfl
    simp [execOp, hop, resolve, invoke, hx, hy, hev, Deferred.ofValue, callFunc, hf, h1, hb]
  rw [he, Oper.upon_enter]
  refine hc.mono ?_
  intro e w' hr
  obtain ⟨z, rfl, hk⟩ := hR e w' hr
  exact hk

theorem Rdr.drew {w : World} {A R : Nat} {l : List UInt8} (h : Rdr w A R l) : Rdr w.drew A R l := h.keep (fun _ _ => rfl) (Nat.le_refl _)
theorem RdA.undrew {α : Type} {w w' : World} {A R : Nat} {l : List UInt8} {r : Except Nat (α × Nat)} {V : α → Value → World → Prop} {e : Ending} (h : RdA w.drew A R l r V e w') : RdA w A R l r V e w' := by
  cases r with
  | error k =>
    obtain ⟨h1, h2⟩ := h.bad
    exact ⟨h1, ⟨h2.os, h2.tape, h2.output, h2.size, h2.block⟩⟩
  | ok aj =>
    obtain ⟨a, j⟩ := aj
    obtain ⟨v, h1, h2, h3, h4⟩ := h.good
    exact ⟨v, h1, h2, h3, ⟨h4.os, h4.tape, h4.output, h4.size, h4.block⟩⟩

/-- a type in blocks that are new since w -/
def isTy (w : World) (t : Ty) (v : Value) (w' : World) : Prop := ∃ u, v = .agg u ∧ TOwn w' (fun k => w.heap.size ≤ k ∧ k < w'.heap.size) u t
theorem isTy.open {w w' : World} {t : Ty} {v : Value} (h : isTy w t v w') : ∃ u, v = .agg u ∧ TOwn w' (fun k => w.heap.size ≤ k ∧ k < w'.heap.size) u t := h
theorem rdT_cons (f : Nat) (c : UInt8) (r : List UInt8) : Sch.rdT (f + 1) (c :: r) = if c.toNat < 1 ∨ 7 < c.toNat then .error 60 else if c.toNat ≠ 6 ∧ c.toNat ≠ 7 then .ok (⟨(c.toNat : Int), []⟩, 1) else thenR (Sch.rdT f r) fun t j => .ok (⟨(c.toNat : Int), [t]⟩, j + 1) := by
  rw [Sch.rdT]
  split
  · rfl
  · split
    · rfl
    · cases Sch.rdT f r with
      | error e => rfl
      | ok p => rfl

/-- one type more: what holds behind the store -/
theorem moreT {w W w2 w4 : World} {A R T N : Nat} {b : Int} {t' : Ty} {u : Array Value} {g cap : Nat} {lr : List UInt8} (hR : R < w.heap.size) (hN0 : w.heap.size ≤ N) (hNT : N < T) (hT : T < W.heap.size)
    (bT : W.heap[T]? = some (.cells #[.int .i64 b, .slice none 0 0] 61 (0, 0))) (bN : W.heap[N]? = some (.cells #[.int .i64 0, .slice none 0 0] 61 (0, 0))) (ha0 : Aside (fun i => i = R) w W)
    (ha : Aside (fun i => i = R) W w2) (hown : TOwn w2 (fun k => W.heap.size ≤ k ∧ k < w2.heap.size) u t') (hrd : Rdr w2 A R lr)
    (hr : w4.ownsRow W.heap.size 61 2 (.slice (some ⟨g, 0, none⟩) 1 cap) 1 (flat (fun _ => #[]) 0 ++ u.toList)) (hg : (w2.alloc (.cells u 61)).grownBy w4 none) (hn : g = w2.heap.size + 1) :
    w4.frozen? ⟨T, 1, none⟩ = false ∧ w4.cell? ⟨T, 1, none⟩ = some (.slice none 0 0) ∧ ∀ w5, w5 = w4.setCell ⟨T, 1, none⟩ (.slice (some ⟨g, 0, none⟩) 1 cap) → w5.cell? ⟨T, 0, none⟩ = some (.int .i64 b) ∧ w5.cell? ⟨T, 1, none⟩ = some (.slice (some ⟨g, 0, none⟩) 1 cap) ∧
      w5.heap[N]? = some (.cells #[.int .i64 0, .slice none 0 0] 61 (0, 0)) ∧ TOwn w5 (fun k => W.heap.size ≤ k ∧ k < w5.heap.size) (cells2 b (some ⟨g, 0, none⟩) 1 cap) ⟨b, [t']⟩ ∧ Rdr w5 A R lr ∧ Aside (fun i => i = R) w w5 ∧ W.heap.size ≤ w5.heap.size := by
  have hs2 := ha.size
  have hsz0 := ha0.size
  have hb3 : Below w2.heap.size w2 (w2.alloc (.cells u 61)) := (Below.refl _ _).alloc (Nat.le_refl _) _
  have hs3 := hb3.size
  have hs4 := hg.size
  obtain ⟨wx, hx1, hx2, hx3⟩ := ha.split (by omega)
  have hst := (tbuilt_nil wx W.heap.size).step hx3 hown (fun k hk => ⟨by rw [hx2]; exact hk.1, hk.2⟩) hb3 (by rw [hx2]; exact Nat.le_refl _) hr hg (.inr (by rw [hn]; simp))
  obtain ⟨p3, c3, he3, hown3⟩ := hst.done (by omega) b
  injection he3 with e1 e2 e3
  subst e1 e3
  -- what stands in w4
  have keep : ∀ k, k < W.heap.size → k ≠ R → w4.heap[k]? = W.heap[k]? := fun k hk hne => by
    rw [hg.block k (by omega) (by simp), hb3.block k (by omega), ha.block k hk hne]
  have bT4 : w4.heap[T]? = some (.cells #[.int .i64 b, .slice none 0 0] 61 (0, 0)) := (keep T hT (by omega)).trans bT
  have bN4 : w4.heap[N]? = some (.cells #[.int .i64 0, .slice none 0 0] 61 (0, 0)) := (keep N (by omega) (by omega)).trans bN
  refine ⟨blk_free bT4 1, blk_cell bT4 1, fun w5 hw5 => ?_⟩
  have ha5 : Aside (fun i => i = T) w4 w5 := by rw [hw5]; exact aside_set _ _ _ _
  have hs5 := ha5.size
  have hs5' : w5.heap.size = w4.heap.size := by rw [hw5]; simp [World.setCell]
  have bT5 : w5.heap[T]? = some (.cells #[.int .i64 b, .slice (some ⟨g, 0, none⟩) 1 cap] 61 (0, 0)) := by rw [hw5, blk_set bT4 1]; rfl
  have a24 : Aside (fun _ => False) w2 w4 := (aside_new hb3 (fun _ => False)).trans (G := fun _ => False) ⟨hg.os, hg.tape, hg.output, hg.size, fun k hk _ => hg.block k hk (by simp)⟩ (fun _ _ h => h)
  refine ⟨blk_cell bT5 0, blk_cell bT5 1, ?_, ?_, ?_, ?_, by omega⟩
  · rw [ha5.block N (by omega) (by omega)]; exact bN4
  · rw [hs5']
    exact hown3.aside ha5 (fun k hk => by omega)
  · exact (hrd.aside a24 (fun _ h => h.elim)).aside ha5 (fun k hk => by rw [hk]; omega)
  · refine ((ha0.trans ha (fun _ _ h => h)).trans a24 (fun _ _ h => h.elim)).trans ha5 (fun i hi he => ?_)
    rw [he] at hi; omega

/-- the answer is laid into its place -/
theorem finT {w wr : World} {A R : Nat} {b : Int} {q : Option Addr} {n c : Nat} {x : Ty} {l : List UInt8} {F : Nat → Prop} (hR : R < w.heap.size) (bN : wr.heap[w.heap.size]? = some (.cells #[.int .i64 0, .slice none 0 0] 61 (0, 0)))
    (hown : TOwn wr F (cells2 b q n c) x) (hF : ∀ k, F k → w.heap.size < k ∧ k < wr.heap.size) (hrd : Rdr wr A R l) (ha : Aside (fun i => i = R) w wr) {w5 : World} (hw5 : w5 = (wr.setCell ⟨w.heap.size, 0, none⟩ (.int .i64 b)).setCell ⟨w.heap.size, 1, none⟩ (.slice q n c)) :
    w5.heap[w.heap.size]? = some (.cells (cells2 b q n c) 61 (0, 0)) ∧ isTy w x (.agg (cells2 b q n c)) w5 ∧ Rdr w5 A R l ∧ Aside (fun i => i = R) w w5 := by
  have h1 : Aside (fun i => i = w.heap.size) wr (wr.setCell ⟨w.heap.size, 0, none⟩ (.int .i64 b)) := aside_set _ _ _ _
  have h2 : Aside (fun i => i = w.heap.size) wr w5 := by rw [hw5]; exact h1.trans (aside_set _ _ _ _) (fun _ _ h => h)
  have hs : w5.heap.size = wr.heap.size := by rw [hw5]; simp [World.setCell]
  refine ⟨?_, ⟨_, rfl, ?_⟩, hrd.aside h2 (fun k hk => by rw [hk]; exact hR), ha.trans h2 (fun i hi he => by rw [he] at hi; omega)⟩
  · rw [hw5, blk_set (blk_set bN 0 _) 1]; rfl
  · exact (hown.aside h2 (fun k hk he => by have := hF k hk; omega)).mono (fun k hk => by have := hF k hk; omega)

set_option maxRecDepth 100000 in
set_option maxHeartbeats 2000000 in
theorem typeAtK : ∀ (f d : Nat) (l : List UInt8) (A R : Nat) (w : World), d + f = 5 → Rdr w A R l → Calls Tryz.prog 80 #[.pointer (some ⟨R, 0, none⟩), .int .i64 d] w (RdA w A R l (Sch.rdT f l) (isTy w)) := by
  intro f
  induction f with
  | zero =>
    intro d l A R w hd h
    have g0 : decide ((d : Int) ≤ 4) = false := decide_eq_false (by omega)
    have HB1 : Hid (Below w.heap.size w (w.alloc (.cells #[.int .i64 0, .slice none 0 0] 61))) := (Below.refl _ _).alloc (Nat.le_refl _) _
    have e1 : Sch.rdT 0 l = .error 62 := rfl
    rw [e1]
    clear h e1
    go_enter Tryz.func80, Tryz.ntmps80
    go_wp2_with fail
    try rw [g0]
    refine (need_f _ 62 _).mono ?_
    rintro e w2 ⟨rfl, hw2⟩
    rw [hw2]
    clear hw2 w2
    go_wp2
    exact ⟨rfl, rfl, aside_new HB1.out _⟩
  | succ f ih =>
    intro d l A R w hd h
    have g0 : decide ((d : Int) ≤ 4) = true := decide_eq_true (by omega)
    have hdi : (d : Int) ≤ 4 := by omega
    obtain ⟨W0, hW0⟩ : ∃ W0, W0 = w.alloc (.cells #[.int .i64 0, .slice none 0 0] 61) := ⟨_, rfl⟩
    have HB1 : Hid (Below w.heap.size w W0) := by rw [hW0]; exact (Below.refl _ _).alloc (Nat.le_refl _) _
    have HN0 : Hid (W0.heap[w.heap.size]? = some (.cells #[.int .i64 0, .slice none 0 0] 61 (0, 0))) := by rw [hW0]; exact blk_new w _
    have HW0 := Lib.hid hW0
    have HT := Lib.hid (takeK 1 l A R W0 (h.on HB1.out))
    have hRlt := h.lt
    have HIH := Lib.hid ih
    clear h hW0 ih
    cases l with
    | nil =>
      have e1 : takeR 1 [] = .error 30 := rfl
      have e2 : Sch.rdT (f + 1) [] = .error 30 := rfl
      rw [e1] at HT
      rw [e2]
      clear e1 e2
      go_enter Tryz.func80, Tryz.ntmps80
      go_wp2_with fail
      rw [← HW0.out]
      try rw [g0]
      refine (need_t _ 62 _).mono ?_
      rintro e w2 ⟨rfl, hw2⟩
      rw [hw2]
      clear hw2 w2
      go_wp2_with fail
      refine HT.out.mono ?_
      intro e w1 hh
      obtain ⟨he, ha⟩ := hh.bad
      subst he
      clear hh
      have HA := Lib.hid ((aside_new HB1.out _).trans ha (fun _ _ h => h))
      clear ha HT
      go_wp2
      exact ⟨rfl, rfl, HA.out⟩
    | cons b t =>
      have e1 : takeR 1 (b :: t) = .ok ([b], 1) := by
        unfold takeR
        rw [if_neg (by simp)]
        rfl
      rw [e1] at HT
      obtain ⟨r, hr⟩ : ∃ r, r = Sch.rdT (f + 1) (b :: t) := ⟨_, rfl⟩
      have HR := Lib.hid (hr.trans (rdT_cons f b t))
      rw [← hr]
      clear hr e1
      have hb8 := b.toNat_lt
      go_enter Tryz.func80, Tryz.ntmps80
      go_wp2_with fail
      rw [← HW0.out]
      try rw [g0]
      refine (need_t _ 62 _).mono ?_
      rintro e w2 ⟨rfl, hw2⟩
      rw [hw2]
      clear hw2 w2 HW0
      go_wp2_with fail
      refine HT.out.mono ?_
      intro e w1 hh
      obtain ⟨v, he, hv, hrd, ha⟩ := hh.good
      obtain ⟨q, c, hv2, hat, -⟩ := hv.open
      clear hh hv
      subst hv2
      subst he
      obtain ⟨bq, oq, hq, -, hcs⟩ := at_some hat (by simp)
      subst hq
      have d0 : w1.cell? ⟨bq, oq, none⟩ = some (.int .u8 (b.toNat : Int)) := hcs 0 (by simp)
      have HRd : Hid (Rdr w1 A R t) := hrd
      have HA1 := Lib.hid ((aside_new HB1.out (fun i => i = R)).trans ha (fun _ _ h => h))
      have HNlt := Lib.hid (blk_lt HN0.out)
      have HN1 : Hid (w1.heap[w.heap.size]? = some (.cells #[.int .i64 0, .slice none 0 0] 61 (0, 0))) := by
        show _ = _
        rw [ha.block _ HNlt.out (by omega)]
        exact HN0.out
      have hsz1 : w.heap.size < w1.heap.size := Nat.lt_of_lt_of_le HNlt.out ha.size
      clear ha hat hrd hcs HT HN0 HB1
      obtain ⟨W, hW⟩ : ∃ W, W = w1.alloc (.cells #[.int .i64 (b.toNat : Int), .slice none 0 0] 61) := ⟨_, rfl⟩
      have HBW : Hid (Below w1.heap.size w1 W) := by rw [hW]; exact (Below.refl _ _).alloc (Nat.le_refl _) _
      have HTb : Hid (W.heap[w1.heap.size]? = some (.cells #[.int .i64 (b.toNat : Int), .slice none 0 0] 61 (0, 0))) := by rw [hW]; exact blk_new w1 _
      have HNb : Hid (W.heap[w.heap.size]? = some (.cells #[.int .i64 0, .slice none 0 0] 61 (0, 0))) := blk_on HN1.out HBW.out hsz1
      have HAW := Lib.hid (HA1.out.trans (aside_new HBW.out (fun _ => False)) (fun _ _ h => h.elim))
      have HRdW := Lib.hid (HRd.out.on HBW.out)
      have hszW : w1.heap.size < W.heap.size := blk_lt HTb.out
      have HW := Lib.hid hW
      clear hW HN1 HA1 HRd
      by_cases hkind : b.toNat < 1 ∨ 7 < b.toNat
      · have HR2 : Hid (r = .error 60) := HR.out.trans (if_pos hkind)
        clear HR
        rcases hkind with hk | hk
        · have g1 : decide ((1 : Int) ≤ (b.toNat : Int)) = false := decide_eq_false (by omega)
          go_wp2_with fail
          rw [← HW.out]
          refine (need_f _ 60 _).mono ?_
          rintro e w2 ⟨rfl, hw2⟩
          rw [hw2]
          clear hw2 w2
          go_wp2
          rw [HR2.out]
          exact ⟨rfl, rfl, HAW.out⟩
        · have g1 : decide ((1 : Int) ≤ (b.toNat : Int)) = true := decide_eq_true (by omega)
          have g2 : decide ((b.toNat : Int) ≤ 7) = false := decide_eq_false (by omega)
          go_wp2_with fail
          rw [← HW.out]
          refine (need_f _ 60 _).mono ?_
          rintro e w2 ⟨rfl, hw2⟩
          rw [hw2]
          clear hw2 w2
          go_wp2
          rw [HR2.out]
          exact ⟨rfl, rfl, HAW.out⟩
      have g1 : decide ((1 : Int) ≤ (b.toNat : Int)) = true := decide_eq_true (by omega)
      have g2 : decide ((b.toNat : Int) ≤ 7) = true := decide_eq_true (by omega)
      have HR1 := Lib.hid (HR.out.trans (if_neg hkind))
      clear HR
      go_wp2_with fail
      rw [← HW.out]
      refine (need_t _ 60 _).mono ?_
      rintro e w2 ⟨rfl, hw2⟩
      rw [hw2]
      clear hw2 w2 HW d0
      have c0 : W.cell? ⟨w1.heap.size, 0, none⟩ = some (.int .i64 (b.toNat : Int)) := blk_cell HTb.out 0
      have c1 : W.cell? ⟨w1.heap.size, 1, none⟩ = some (.slice none 0 0) := blk_cell HTb.out 1
      have n0 : W.cell? ⟨w.heap.size, 0, none⟩ = some (.int .i64 0) := blk_cell HNb.out 0
      have n1 : W.cell? ⟨w.heap.size, 1, none⟩ = some (.slice none 0 0) := blk_cell HNb.out 1
      have nf0 := blk_free HNb.out 0
      have nf1 := blk_free HNb.out 1
      have tf1 := blk_free HTb.out 1
      have HOc := Lib.hid (ofCountK (b.toNat : Int) W)
      go_wp2_with fail
      refine HOc.out.mono ?_
      rintro e w2 ⟨rfl, hw2⟩
      rw [hw2]
      clear hw2 w2 HOc
      by_cases h67 : b.toNat = 6 ∨ b.toNat = 7
      · have hw : Ty.want (b.toNat : Int) = 1 := by unfold Ty.want; rw [if_pos (by omega)]
        rw [hw]
        have HR2 : Hid (r = thenR (Sch.rdT f t) fun t j => .ok (⟨(b.toNat : Int), [t]⟩, j + 1)) := HR1.out.trans (if_neg (by omega))
        have ew : IntKind.i64.wrap ((d : Int) + 1) = ((d + 1 : Nat) : Int) := by rw [IntKind.wrap_i64]; omega
        have HC : Hid (∀ w', Rdr w' A R t → Calls Tryz.prog 80 #[.pointer (some ⟨R, 0, none⟩), .int .i64 (IntKind.i64.wrap ((d : Int) + 1))] w'.drew (RdA w' A R t (Sch.rdT f t) (isTy w'))) := fun w' hr => by
          rw [ew]
          exact (HIH.out (d + 1) t A R w'.drew (by omega) hr.drew).mono fun _ _ h => h.undrew
        obtain ⟨m, hm⟩ : ∃ m, m = Sch.rdT f t := ⟨_, rfl⟩
        rw [← hm] at HR2 HC
        clear hw HR1 hm HIH ew
        cases m with
        | error er =>
          have HErr : Hid (∀ w2, Aside (fun i => i = R) W w2 → RdA w A R (b :: t) r (isTy w) (.panicked (errV er)) w2) := fun w2 ha => by
            rw [HR2.out]
            exact ⟨rfl, HAW.out.trans ha (fun _ _ h => h)⟩
          go_wp2_with fail
          go_loopw [29] (fun v29 wr => v29 = .int .i64 0 ∧ wr = W) (fun _ _ => 0)
          case atStart => exact ⟨rfl, rfl⟩
          case round =>
            obtain ⟨rfl, rfl⟩ := hrel
            go_wp2_with fail
            go_region_law (first
              | (refine step_call2b (.tmp 33) (.tmp 35) 120 3 (by rfl) (by rfl) (by rfl) (by rfl) Tryz.func80 (by kernel_rfl) (by rfl) (HC.out _ HRdW.out) (fun e w2 hh => ⟨_, hh.bad.1, rfl, HErr.out w2 hh.bad.2⟩) (.agg #[.int .i64 0, .slice none 0 0]) ?_
                 intro HF)
              | (refine step_never HF (.slice none 0 0) ?_))
            all_goals exact HF.out.elim
        | ok tj =>
          obtain ⟨t', j'⟩ := tj
          have HRok : Hid (r = .ok (⟨(b.toNat : Int), [t']⟩, j' + 1)) := HR2.out
          have HS0 := Lib.hid (tbuilt_nil W W.heap.size)
          clear HR2
          go_wp2_with fail
          go_loopw [29] (fun v29 wr => (v29 = .int .i64 0 ∧ wr = W) ∨ (v29 = .int .i64 1 ∧ ∃ q c, wr.cell? ⟨w1.heap.size, 0, none⟩ = some (.int .i64 (b.toNat : Int)) ∧ wr.cell? ⟨w1.heap.size, 1, none⟩ = some (.slice q 1 c) ∧ Hid (wr.heap[w.heap.size]? = some (.cells #[.int .i64 0, .slice none 0 0] 61 (0, 0)) ∧ TOwn wr (fun k => W.heap.size ≤ k ∧ k < wr.heap.size) (cells2 (b.toNat : Int) q 1 c) ⟨(b.toNat : Int), [t']⟩ ∧ Rdr wr A R ((b :: t).drop (j' + 1)) ∧ Aside (fun i => i = R) w wr ∧ W.heap.size ≤ wr.heap.size))) (fun v29 _ => 1 - (intOf v29).toNat)
          case atStart => exact .inl ⟨rfl, rfl⟩
          case round =>
            rcases hrel with ⟨rfl, rfl⟩ | ⟨rfl, q, c2, e0, e1, HS⟩
            · go_wp2_with fail
              go_region_law (first
                | (refine step_call2g (.tmp 33) (.tmp 35) 120 3 (by rfl) (by rfl) (by rfl) (by rfl) Tryz.func80 (by kernel_rfl) (by rfl) (HC.out _ HRdW.out) ?_
                   intro e w2 hh
                   obtain ⟨v2, he, hv, hrd, ha⟩ := hh.good
                   obtain ⟨u2, hv2, hown⟩ := hv.open
                   clear hh hv
                   obtain ⟨k2, p2, n2, c2, hu2⟩ := hown.shape
                   subst hu2
                   subst hv2
                   refine ⟨_, he, ?_⟩
                   clear he
                   unfold cells2
                   have z1 : w2.cell? ⟨w1.heap.size, 1, none⟩ = some (.slice none 0 0) := by (rw [ha.cell hszW (by show ¬ w1.heap.size = R; omega)]; exact c1)
                   have z2 : ∀ o, (w2.alloc o).cell? ⟨w1.heap.size, 1, none⟩ = some (.slice none 0 0) := fun o => by (rw [World.cell?_alloc_past _ _ _ (by have := ha.size; show w1.heap.size < _; omega)]; exact z1)
                   have HOwn := Lib.hid hown
                   have HRd2 := Lib.hid hrd
                   have HA2 := Lib.hid ha
                   have HB3 : Hid (Below w2.heap.size w2 (w2.alloc (.cells #[.int .i64 k2, .slice p2 n2 c2] 61))) := (Below.refl _ _).alloc (Nat.le_refl _) _
                   have hs2 := ha.size
                   clear hown hrd ha)
                | (refine step_moreT (B := wr.heap.size) (us := fun _ => #[]) (v := .slice none 0 0) (n := 0) (World.ownsRow_nil _ _ _ _) (u := #[.int .i64 k2, .slice p2 n2 c2]) rfl (one2 HOwn.out) (ad := w2.heap.size) (by exact blk_new w2 _) (by omega) (by simp; omega) (H := w2.heap.size + 1) (by simp) (.tmp 32) (.tmp 37) (by rfl) (by rfl) (by rfl) (by rfl) ?_
                   intro g2 cap2 w4 hr4 hg4 hn4
                   obtain ⟨f4, g4, hmk⟩ := moreT (N := w.heap.size) (T := w1.heap.size) hRlt (Nat.le_refl _) hsz1 hszW HTb.out HNb.out HAW.out HA2.out HOwn.out HRd2.out hr4 hg4 (hn4.resolve_left (by simp [Value.ownBlock]))
                   have HMK := Lib.hid hmk
                   clear hmk hr4 hg4 hn4))
              all_goals
                go_wp2
                go_roundw
                case rel =>
                  obtain ⟨m0, m1, m2, m3, m4, m5, m6⟩ := HMK.out _ rfl
                  refine .inr ⟨by go_num, some ⟨g2, 0, none⟩, cap2, m0, m1, m2, m3, ?_, m5, m6⟩
                  rw [List.drop_succ_cons]
                  exact m4
                case measure => simp [intOf]
            · have z0 := blk_cell HS.out.1 0
              have z1 := blk_cell HS.out.1 1
              have zf0 := blk_free HS.out.1 0
              have zf1 := blk_free HS.out.1 1
              clear c0 c1 n0 n1 nf0 nf1 tf1
              have HFin := Lib.hid (fun w5 hw5 => finT (w5 := w5) hRlt HS.out.1 HS.out.2.1 (fun k hk => ⟨by omega, hk.2⟩) HS.out.2.2.1 HS.out.2.2.2.1 hw5)
              go_wp2
              obtain ⟨f1, f2, f3, f4⟩ := HFin.out _ rfl
              refine bodyPost_ret (v := .agg (cells2 (b.toNat : Int) q 1 c2)) (results_cell_row rfl _ _ w.heap.size _ _ _ _ rfl f1 Tryz.underlying61 rfl (by kernel_rfl)) rfl ?_
              rw [HRok.out]
              exact ⟨_, rfl, f2, f3, f4⟩
      · have hw : Ty.want (b.toNat : Int) = 0 := by unfold Ty.want; rw [if_neg (by omega)]
        rw [hw]
        have HRok : Hid (r = .ok (⟨(b.toNat : Int), []⟩, 1)) := HR1.out.trans (if_pos (by omega))
        have HFin := Lib.hid (fun w5 hw5 => finT (w5 := w5) (b := (b.toNat : Int)) (q := none) (n := 0) (c := 0) (x := ⟨(b.toNat : Int), []⟩) (F := fun _ => False) hRlt HNb.out .none (fun _ h => h.elim) HRdW.out HAW.out hw5)
        clear hw HR1 HIH
        go_wp2_with fail
        go_loopw [29] (fun v29 wr => v29 = .int .i64 0 ∧ wr = W) (fun _ _ => 0)
        case atStart => exact ⟨rfl, rfl⟩
        case round =>
          obtain ⟨rfl, rfl⟩ := hrel
          go_wp2
          obtain ⟨f1, f2, f3, f4⟩ := HFin.out _ rfl
          refine bodyPost_ret (v := .agg (cells2 (b.toNat : Int) none 0 0)) (results_cell_row rfl _ _ w.heap.size _ _ _ _ rfl f1 Tryz.underlying61 rfl (by kernel_rfl)) rfl ?_
          rw [HRok.out]
          exact ⟨_, rfl, f2, f3, f4⟩
end Go.Proofs.YtnlhpndjogjejaaGreatDoor
