/- K7F, K7G: put together. -/
import Derived.Test.YticmkgbjannkkaaM02
import Derived.Test.YticmkgbjannkkaaM04
import Derived.Test.YticmkgbjannkkaaM06
import Derived.Test.YticmkgbjannkkaaM12
import Derived.Test.YticmkgbjannkkaaM09
import Derived.Test.YticmkgbjannkkaaM15
import Derived.Test.YticmkgbjannkkaaM05

/- The landed schema: appendText, appendType, appendFloat. -/
namespace Go.Proofs.Yticmkgbjannkkaa
open Go.RowKit

/-- a slice of bytes of the call's own became another one: nothing else changed -/
structure Grew (w : World) (B : Nat) (v : Value) (w' : World) (v' : Value) (l : List UInt8) : Prop where
  has : Has w' B v' l
  aside : Aside (fun k => v.ownBlock = some k) w w'
  fresh : ∀ k, v'.ownBlock = some k → v.ownBlock = some k ∨ w.heap.size ≤ k
theorem Grew.refl {w : World} {B : Nat} {v : Value} {l : List UInt8} (h : Has w B v l) : Grew w B v w v l := ⟨h, Aside.refl _ _, fun _ hk => .inl hk⟩
theorem Grew.trans {w w1 w2 : World} {B : Nat} {v v1 v2 : Value} {l1 l2 : List UInt8} (h : Grew w B v w1 v1 l1) (k : Grew w1 B v1 w2 v2 l2) : Grew w B v w2 v2 l2 := by
  have hs := h.aside.size
  refine ⟨k.has, h.aside.trans k.aside (fun i hi hc => ?_), fun i hi => ?_⟩
  · rcases h.fresh i hc with h1 | h1
    · exact h1
    · omega
  · rcases k.fresh i hi with h1 | h1
    · rcases h.fresh i h1 with h2 | h2
      · exact .inl h2
      · exact .inr h2
    · exact .inr (by omega)
theorem Grew.on {w w1 w2 : World} {B : Nat} {v v1 : Value} {l : List UInt8} (h : Grew w B v w1 v1 l) (hb : Below w1.heap.size w1 w2) : Grew w B v w2 v1 l :=
  ⟨h.has.on hb, h.aside.trans (aside_new hb (fun _ => False)) (fun _ _ hc => hc.elim), h.fresh⟩
/-- from an earlier world on, of which nothing was changed -/
theorem Grew.from {w w0 w1 : World} {B : Nat} {v v1 : Value} {l l0 : List UInt8} (h : Grew w0 B v w1 v1 l) (hb : Below w.heap.size w w0) (_ : Has w B v l0) : Grew w B v w1 v1 l := by
  have hs := hb.size
  refine ⟨h.has, (aside_new hb (fun k => v.ownBlock = some k)).trans h.aside (fun _ _ hc => hc), fun k hk => ?_⟩
  rcases h.fresh k hk with h1 | h1
  · exact .inl h1
  · exact .inr (by omega)
theorem Grew.low {w w1 : World} {B : Nat} {v v1 : Value} {l l0 : List UInt8} (h : Grew w B v w1 v1 l) (h0 : Has w B v l0) (hB : B ≤ w.heap.size) : Below B w w1 := aside_low h.aside h0 hB
/-- what an append of bytes answers -/
def GrewV (w : World) (B : Nat) (v : Value) (l : List UInt8) (e : Ending) (w' : World) : Prop := ∃ q cap, e = .returned (.slice q l.length cap) ∧ Grew w B v w' (.slice q l.length cap) l

set_option maxHeartbeats 1000000 in
theorem appendTextK (v : Value) (xs : List UInt8) (t : ByteArray) (B : Nat) (w : World) (hv : Has w B v xs) (hB : B ≤ w.heap.size) (hx : xs.length ≤ 1000000) (ht : t.size ≤ 1024) :
    Calls Try.prog 56 #[v, .string t] w (GrewV w B v (xs ++ (Leb.put t.size ++ t.data.toList))) := by
  have HP := Lib.hid (put_any t.size (by omega))
  have hlen := Leb.put_length_le t.size
  obtain ⟨l0, hl0⟩ : ∃ l0, l0 = Leb.put t.size := ⟨_, rfl⟩
  rw [← hl0] at HP hlen ⊢
  have hts : (t.size : Int) ≤ 1024 := by omega
  have HV := Lib.hid hv
  clear hl0 hv
  go_enter Try.func56, Try.ntmps56
  go_wp2_with fail
  refine (HP.out _).mono ?_
  rintro e w1 ⟨g, cap, rfl, hm, hb⟩
  have HM := Lib.hid hm
  have HV1 := Lib.hid (HV.out.on hb)
  have HG0 := Lib.hid ((Grew.refl HV.out).on hb)
  have hB1 : B ≤ w1.heap.size := Nat.le_trans hB hb.size
  clear hm hb HP
  go_wp2_with (first
    | (at_builtin; refine wp_ontoL (B := B) HV1.out HM.out.at (by omega) hB1 rfl rfl rfl rfl rfl ?_; intro ys q3 cap3 W HY hH3 ha3 hb3; have hlY : ys.length ≤ 1000010 := by (rw [HY.out, List.length_append]; omega)
       have HH3 := Lib.hid hH3
       have HG1 : Hid (Grew w B v W (.slice q3 ys.length cap3) ys) := HG0.out.trans ⟨hH3, ha3, hb3⟩
       have hBW : B ≤ W.heap.size := Nat.le_trans hB1 ha3.size
       clear hH3 ha3 hb3)
    | (at_builtin; refine wp_ontoS (B := B) (t := t) HH3.out (by omega) hBW rfl rfl rfl rfl rfl ?_; intro ys2 q4 cap4 W2 HY2 hH4 ha4 hb4
       have HG2 : Hid (Grew w B v W2 (.slice q4 ys2.length cap4) ys2) := HG1.out.trans ⟨hH4, ha4, hb4⟩
       clear hH4 ha4 hb4))
  go_ret
  rw [HY.out, List.append_assoc] at HY2
  rw [← HY2.out]
  exact ⟨q4, cap4, rfl, HG2.out⟩

theorem tyB_len4 {x : Ty} {d : Nat} (h : Ty.check d x = 0) : (Sch.tyB x).length ≤ 5 := by have := Sch.tyB_len x d h; omega
theorem one_atK (w : World) (z : Int) (c : UInt8) (hz : z = (c.toNat : Int)) : At (w.alloc (.cells #[.int .u8 z] 5)) (some ⟨w.heap.size, 0, none⟩) [c] := by
  obtain ⟨p, cc, he, hat, -⟩ := (has_lit (B := 0) (w := w) [c] (C := #[.int .u8 z]) (by rw [hz]; rfl) (Nat.zero_le _) (by simp)).at
  injection he with he
  rw [he]; exact hat
/-- one byte more, out of a block that was just made -/
theorem wp_pushG {B : Nat} {v : Value} {xs : List UInt8} {w : World} {H : Nat} (hH : w.heap.size = H) (hown : Has w B v xs) (c : UInt8) (hlen : xs.length + 1 ≤ 140737488355328) (hB : B ≤ w.heap.size)
    {z : Int} {ops : Array Oper} {rest : List Oper} {o : Oper} {a : Act} {Q : Exit → Act → World → Prop} {s x : Operand}
    (hz : z = (c.toNat : Int)) (ht : o.type = 28) (hg : o.guard = none) (hop : o.op = Op.call { callee := Callee.builtin Builtin.append, args := #[s, x], argTypes := #[28, 28] })
    (hs : a.eval s = v) (hx : a.eval x = .slice (some ⟨H, 0, none⟩) 1 1)
    (hK : ∀ q cap W ys, Hid (ys = xs ++ [c]) → Grew w B v W (.slice q ys.length cap) ys → wpList Try.prog ops Q rest (a.put o.dst (.slice q ys.length cap)) W) :
    wpList Try.prog ops Q (o :: rest) a (w.alloc (.cells #[.int .u8 z] 5)) := by
  subst hH
  have hb : Below w.heap.size w (w.alloc (.cells #[.int .u8 z] 5)) := (Below.refl _ _).alloc (Nat.le_refl _) _
  refine wp_ontoL (hown.alloc _) (one_atK w z c hz) (by simpa using hlen) (Nat.le_trans hB hb.size) ht hg hop hs hx ?_
  intro ys q cap W hy h1 h2 h3
  exact hK q cap W ys hy (Grew.from ⟨h1, h2, h3⟩ hb hown)

set_option maxRecDepth 100000 in
set_option maxHeartbeats 1000000 in
theorem appendTypeK : ∀ (x : Ty) (d : Nat) (w0 w : World) (u : Array Value) (v : Value) (xs : List UInt8), Ty.check d x = 0 → TLies w0 u x → Below w0.heap.size w0 w → Has w w0.heap.size v xs → xs.length + 5 * (5 - d) ≤ 1000000 → Calls Try.prog 57 #[v, .agg u] w (GrewV w w0.heap.size v (xs ++ Sch.tyB x)) := by
  intro x
  refine Ty.ind (P := fun x => ∀ (d : Nat) (w0 w : World) (u : Array Value) (v : Value) (xs : List UInt8), Ty.check d x = 0 → TLies w0 u x → Below w0.heap.size w0 w → Has w w0.heap.size v xs → xs.length + 5 * (5 - d) ≤ 1000000 → Calls Try.prog 57 #[v, .agg u] w (GrewV w w0.heap.size v (xs ++ Sch.tyB x))) ?_ x
  rintro k ts ih d w0 w u v xs hd hx hb0 hv hlen
  obtain ⟨p, c, rfl, hxl, hxc, hxi⟩ := hx.open
  unfold cells2
  have hBs := hb0.size
  have hB1 : Below w.heap.size w (w.alloc (.cells #[.int .i64 k, .slice p ts.length c] 50)) := (Below.refl _ _).alloc (Nat.le_refl _) _
  have HB1 := Lib.hid hB1
  have HB0 := Lib.hid hb0
  have HV := Lib.hid hv
  clear hB1 hx hb0 hv
  obtain ⟨hd4, hk, htt⟩ := Sch.ty_open hd
  obtain ⟨hk1, hk7⟩ := hk
  have hcn := Sch.kind_byte ⟨hk1, hk7⟩
  obtain ⟨c0, hc0⟩ : ∃ c0, c0 = UInt8.ofNat k.toNat := ⟨_, rfl⟩
  have hkz : k = (c0.toNat : Int) := by rw [hc0, hcn]; omega
  have HKz := Lib.hid hkz
  have HH1 := Lib.hid (HV.out.on HB1.out)
  have hB1s : w0.heap.size ≤ (w.alloc (.cells #[.int .i64 k, .slice p ts.length c] 50)).heap.size := Nat.le_trans hBs HB1.out.size
  have HT : Hid (Sch.tyB (.mk k ts) = [c0] ++ (ts.map Sch.tyB).flatten ∧ ts.length ≤ 1 ∧ ∀ y ∈ ts, Ty.check (d + 1) y = 0) := by
    show _ ∧ _ ∧ _
    rcases htt with ⟨h67, rfl⟩ | ⟨h67, y, rfl, hy⟩
    · exact ⟨by rw [Sch.tyB_mk, if_neg h67, hc0]; rfl, by simp, fun y hy => by cases hy⟩
    · refine ⟨by rw [Sch.tyB_mk, if_pos h67, hc0]; simp, by simp, fun z hz => ?_⟩
      rw [List.mem_singleton] at hz
      rw [hz]; exact hy
  have HX : Hid (∀ j (hj : j < ts.length), ∃ u', TLies w0 u' ts[j] ∧ ItemT w0 p j u') := hxi
  have HIH := Lib.hid ih
  have HAt : Hid (At ((w.alloc (.cells #[.int .i64 k, .slice p ts.length c] 50)).alloc (.cells #[.int .u8 k] 5)) (some ⟨w.heap.size + 1, 0, none⟩) [c0]) := by
    show At _ _ _
    have := one_atK (w.alloc (.cells #[.int .i64 k, .slice p ts.length c] 50)) k c0 HKz.out
    simpa using this
  clear ih hxi hd hkz hcn hc0 htt
  go_enter Try.func57, Try.ntmps57
  go_wp2_with (first
    | (at_builtin; refine wp_ontoL (B := w0.heap.size) (l := [c0]) (HH1.out.alloc _) HAt.out (by simp; omega) (Nat.le_trans hB1s (by simp)) rfl rfl rfl rfl rfl ?_
       intro ys q3 cap3 W HY hH3 ha3 hb3
       have HG1 : Hid (Grew w w0.heap.size v W (.slice q3 ys.length cap3) ys) := by
         refine Grew.from (w0 := (w.alloc (.cells #[.int .i64 k, .slice p ts.length c] 50)).alloc (.cells #[.int .u8 k] 5)) ⟨hH3, ha3, hb3⟩ ?_ HV.out
         exact HB1.out.alloc HB1.out.size _
       have c1 : W.cell? ⟨w.heap.size, 1, none⟩ = some (.slice p ts.length c) := by
         rw [ha3.cell (by simp; omega) (fun hc => by have := (HV.out.lt _ hc).2; simp at this)]
         simp
       clear hH3 ha3 hb3))
  have HY0 : Hid (ys = xs ++ ([c0] ++ ((ts.take 0).map Sch.tyB).flatten)) := by show _ = _; rw [HY.out]; simp
  clear HY HAt HH1 c1
  go_loopw [0, 16] (fun v0 v16 wr => ∃ (j : Nat) (zs : List UInt8) (q : Option Addr) (cap : Nat), j ≤ ts.length ∧ v16 = .int .i64 j ∧ v0 = .slice q zs.length cap ∧ Hid (zs = xs ++ ([c0] ++ ((ts.take j).map Sch.tyB).flatten) ∧ Grew w w0.heap.size v wr (.slice q zs.length cap) zs)) (fun _ v16 _ => ts.length - (intOf v16).toNat)
  case atStart => exact ⟨0, ys, q3, cap3, by omega, rfl, rfl, HY0.out, HG1.out⟩
  case round =>
    obtain ⟨j, zs, q, cap, hj, rfl, rfl, HL⟩ := hrel
    have hbr : Below w0.heap.size w0 wr := HB0.out.trans (HL.out.2.low HV.out hBs)
    by_cases hlt : j < ts.length
    · obtain ⟨ux, hvx, hix⟩ := HX.out j hlt
      obtain ⟨bx, ox, kx, qx, nx, cx, rfl, _, rfl, a0, a1⟩ := (hix.on hbr).lies
      have hj1 : (j : Int) < (ts.length : Int) := by omega
      have hj0 : j = 0 := by have := HT.out.2.1; omega
      have hz1 : zs.length = xs.length + 1 := by rw [HL.out.1, hj0]; simp
      obtain ⟨wa, hwa⟩ : ∃ wa, wa = wr.alloc (.cells #[.int .i64 kx, .slice qx nx cx] 50) := ⟨_, rfl⟩
      have HBa : Hid (Below wr.heap.size wr wa) := by rw [hwa]; exact (Below.refl _ _).alloc (Nat.le_refl _) _
      have HC := Lib.hid (HIH.out _ (List.getElem_mem hlt) (d + 1) w0 wa _ (.slice q zs.length cap) zs (HT.out.2.2 _ (List.getElem_mem hlt)) hvx (hbr.trans (HBa.out.mono hbr.size)) (HL.out.2.has.on HBa.out) (by omega))
      have HGa := Lib.hid (HL.out.2.on HBa.out)
      have HZ : Hid (zs ++ Sch.tyB ts[j] = xs ++ ([c0] ++ ((ts.take (j + 1)).map Sch.tyB).flatten)) := by
        show _ = _
        rw [HL.out.1, Sch.flatten_take Sch.tyB ts j hlt]
        simp
      obtain ⟨l2, hl2⟩ : ∃ l, l = zs ++ Sch.tyB ts[j] := ⟨_, rfl⟩
      rw [← hl2] at HC HZ
      unfold cells2 at HC
      have HWa := Lib.hid hwa
      clear hvx hix hbr HL hwa hl2 hj0 hz1
      go_wp2_with fail
      rw [← HWa.out]
      clear HWa a0 a1
      refine HC.out.mono ?_
      rintro e w2 ⟨q2, cap2, rfl, hg2⟩
      have HG2 := Lib.hid (HGa.out.trans hg2)
      clear hg2 HC HGa
      go_wp2
      go_roundw
      case rel => exact ⟨j + 1, l2, q2, cap2, by omega, by go_num, rfl, HZ.out, HG2.out⟩
      case measure => simp [intOf]; omega
    · have hjn : ¬ (j : Int) < (ts.length : Int) := by omega
      have HE : Hid (xs ++ Sch.tyB (.mk k ts) = zs) := by
        show _ = _
        rw [HL.out.1, HT.out.1, List.take_of_length_le (by omega)]
      have HG := Lib.hid HL.out.2
      clear HL hbr
      go_wp2
      go_ret
      rw [HE.out]
      exact ⟨q, cap, rfl, HG.out⟩

set_option maxRecDepth 100000 in
set_option maxHeartbeats 1000000 in
theorem appendFloatK (v : Value) (xs : List UInt8) (b : Nat) (hb64 : b < 18446744073709551616) (B : Nat) (w : World) (hv : Has w B v xs) (hB : B ≤ w.heap.size) (hx : xs.length ≤ 1000000) :
    Calls Try.prog 76 #[v, .float .f64 b] w (GrewV w B v (xs ++ Sch.le 8 (fixB b))) := by
  have hf := Sch.fixB_lt hb64
  have HBits := Lib.hid (realBits_any b)
  generalize fixB b = m at *
  have HS : Hid (Eight m [] m) := ⟨by simp, hf, rfl⟩
  have HV := Lib.hid hv
  obtain ⟨q0, cap0, rfl, -, -⟩ := hv.at
  clear hf hb64 hv
  go_enter Try.func76, Try.ntmps76
  go_wp2_with fail
  refine (HBits.out _).mono ?_
  rintro e w1 ⟨rfl, hw1⟩
  rw [hw1]
  clear hw1 w1
  go_wp2_with fail
  go_loopw [0, 5, 8] (fun v0 v5 v8 wr => ∃ (n : Nat) (es zs : List UInt8) (q : Option Addr) (cap : Nat), v0 = .slice q zs.length cap ∧ v5 = .int .u64 n ∧ v8 = .int .i64 es.length ∧ es.length ≤ 8 ∧ n < 18446744073709551616 ∧ Hid (Eight m es n ∧ zs = xs ++ es ∧ Grew w B (.slice q0 xs.length cap0) wr (.slice q zs.length cap) zs)) (fun _ _ v8 _ => 8 - (intOf v8).toNat)
  case atStart => exact ⟨m, [], xs, q0, cap0, rfl, rfl, rfl, by simp, HS.out.2.1, HS.out, by simp, Grew.refl HV.out⟩
  case round =>
    obtain ⟨z, es, zs, q, cap, rfl, rfl, rfl, h8, hz, HK⟩ := hrel
    have hBr : B ≤ wr.heap.size := Nat.le_trans hB HK.out.2.2.aside.size
    have HZl : Hid (zs.length = xs.length + es.length) := by show _ = _; rw [HK.out.2.1, List.length_append]
    by_cases hlt : es.length < 8
    · have hlt' : (es.length : Int) < 8 := by omega
      have HN := Lib.hid (eight_next HK.out.1 hlt)
      have hcn : (UInt8.ofNat (z % 256)).toNat = z % 256 := by rw [UInt8.toNat_ofNat']; omega
      generalize UInt8.ofNat (z % 256) = c1 at hcn HN
      have HO := Lib.hid HK.out.2.2.has
      go_wp2_with (first
        | (at_builtin; refine wp_pushG rfl HO.out c1 (by have := HZl.out; omega) hBr (by omega) rfl rfl rfl rfl rfl ?_
           intro q2 cap2 W ys HY hg2
           have HG2 := Lib.hid (HK.out.2.2.trans hg2)
           clear hg2))
      go_roundw
      case rel => exact ⟨z / 256, es ++ [c1], ys, q2, cap2, rfl, by go_num, by simp, by simp; omega, by omega, HN.out, by rw [HY.out, HK.out.2.1, List.append_assoc], HG2.out⟩
      case measure => simp [intOf]; omega
    · have hjn : ¬ (es.length : Int) < 8 := by omega
      have he : Sch.le 8 m = es := by
        rw [HK.out.1.2.2, show 8 - es.length = 0 by omega]
        simp [Sch.le]
      have HE : Hid (xs ++ Sch.le 8 m = zs) := by show _ = _; rw [he, HK.out.2.1]
      have HF := Lib.hid HK.out.2.2
      clear HK he
      go_wp2
      go_ret
      rw [HE.out]
      exact ⟨q, cap, rfl, HF.out⟩
end Go.Proofs.Yticmkgbjannkkaa

/- The landed schema: appendItems, appendValue. -/
namespace Go.Proofs.Yticmkgbjannkkaa
open Go.RowKit

attribute [local go_sem] run_store_float

/-- bytes put behind others; what is too long already need not grow on -/
structure PutV (xs full ys : List UInt8) : Prop where
  eq : ys = xs ++ full ∨ (1024 < ys.length ∧ 1024 < (xs ++ full).length)
  len : ys.length ≤ max xs.length 1024 + 1034
theorem PutV.all {xs full : List UInt8} (h : full.length ≤ 1034) : PutV xs full (xs ++ full) := ⟨.inl rfl, by rw [List.length_append]; omega⟩
/-- what such a call answers -/
def PutA (w : World) (B : Nat) (v : Value) (xs full : List UInt8) (e : Ending) (w' : World) : Prop := ∃ ys q cap, PutV xs full ys ∧ e = .returned (.slice q ys.length cap) ∧ Grew w B v w' (.slice q ys.length cap) ys
theorem putA_of {w w' : World} {B : Nat} {v : Value} {xs full : List UInt8} {e : Ending} (h : GrewV w B v (xs ++ full) e w') (hl : full.length ≤ 1034) : PutA w B v xs full e w' := by
  obtain ⟨q, cap, h1, h2⟩ := h
  exact ⟨_, q, cap, PutV.all hl, h1, h2⟩
/-- what was asked of the items -/
def ItemsOk (items : List V) : Prop := ∀ x ∈ items, ∀ (w0 w : World) (u : Array Value) (v : Value) (xs : List UInt8), VLies w0 u x → Below w0.heap.size w0 w → Has w w0.heap.size v xs → xs.length ≤ 100000 → Calls Try.prog 58 #[v, .agg u] w (PutA w w0.heap.size v xs (Sch.vB x))

set_option maxRecDepth 100000 in
set_option maxHeartbeats 1000000 in
theorem appendItemsK (items : List V) (hn : items.length ≤ 256) (ih : ItemsOk items) (p : Option Addr) (c : Nat) (w0 w : World) (v : Value) (xs : List UInt8) (hx : Items w0 p items) (hb0 : Below w0.heap.size w0 w) (hv : Has w w0.heap.size v xs) (hlen : xs.length ≤ 100000) :
    Calls Try.prog 77 #[v, .slice p items.length c] w (PutA w w0.heap.size v xs (Leb.put items.length ++ (items.map Sch.vB).flatten)) := by
  have HP := Lib.hid (put_any items.length (by omega))
  have hpl := Leb.put_length_le items.length
  obtain ⟨l0, hl0⟩ : ∃ l0, l0 = Leb.put items.length := ⟨_, rfl⟩
  rw [← hl0] at HP hpl ⊢
  have hn' : (items.length : Int) ≤ 256 := by omega
  have HV := Lib.hid hv
  have HX := Lib.hid hx
  have HIH := Lib.hid ih
  have HB0 := Lib.hid hb0
  have hBs := hb0.size
  obtain ⟨q0, cap0, rfl, -, -⟩ := hv.at
  clear hl0 hv hx ih hb0
  go_enter Try.func77, Try.ntmps77
  go_wp2_with fail
  refine (HP.out _).mono ?_
  rintro e w1 ⟨g, cap, rfl, hm, hb⟩
  have HM := Lib.hid hm
  have HV1 := Lib.hid (HV.out.on hb)
  have HG0 := Lib.hid ((Grew.refl HV.out).on hb)
  have hB1 : w0.heap.size ≤ w1.heap.size := Nat.le_trans hBs hb.size
  clear hm hb HP
  go_wp2_with (first
    | (at_builtin; refine wp_ontoL (B := w0.heap.size) HV1.out HM.out.at (by omega) hB1 rfl rfl rfl rfl rfl ?_; intro ys q3 cap3 W HY hH3 ha3 hb3
       have HG1 : Hid (Grew w w0.heap.size (.slice q0 xs.length cap0) W (.slice q3 ys.length cap3) ys) := HG0.out.trans ⟨hH3, ha3, hb3⟩
       clear hH3 ha3 hb3))
  have HY0 : Hid ((ys = xs ++ (l0 ++ ((items.take 0).map Sch.vB).flatten) ∨ (1024 < ys.length ∧ 1024 < (xs ++ (l0 ++ ((items.take 0).map Sch.vB).flatten)).length)) ∧ ys.length ≤ max xs.length 1024 + 1034) := by
    refine ⟨.inl ?_, ?_⟩
    · rw [HY.out]; simp
    · rw [HY.out, List.length_append]; omega
  clear HY HM HV1 HG0
  go_loopw [0, 15] (fun v0 v15 wr => ∃ (j : Nat) (zs : List UInt8) (q : Option Addr) (cap : Nat), j ≤ items.length ∧ v15 = .int .i64 j ∧ v0 = .slice q zs.length cap ∧ zs.length ≤ 200000 ∧ Hid (((zs = xs ++ (l0 ++ ((items.take j).map Sch.vB).flatten) ∨ (1024 < zs.length ∧ 1024 < (xs ++ (l0 ++ ((items.take j).map Sch.vB).flatten)).length)) ∧ zs.length ≤ max xs.length 1024 + 1034) ∧ Grew w w0.heap.size (.slice q0 xs.length cap0) wr (.slice q zs.length cap) zs)) (fun _ v15 _ => items.length - (intOf v15).toNat)
  case atStart => exact ⟨0, ys, q3, cap3, by omega, rfl, rfl, by have := HY0.out.2; omega, HY0.out, HG1.out⟩
  case round =>
    obtain ⟨j, zs, q, cap, hj, rfl, rfl, hzl, HL⟩ := hrel
    have hbr : Below w0.heap.size w0 wr := HB0.out.trans (HL.out.2.low HV.out hBs)
    by_cases hlt : j < items.length
    · obtain ⟨ux, hvx, hix⟩ := HX.out j hlt
      obtain ⟨bx, ox, kx, ix, fx, tx, qx, nx, cx, rfl, _, rfl, a0, a1, a2, a3, a4⟩ := (hix.on hbr).lies
      have hj1 : (j : Int) < (items.length : Int) := by omega
      obtain ⟨wa, hwa⟩ : ∃ wa, wa = wr.alloc (.cells #[.int .i64 kx, .int .i64 ix, .float .f64 fx, .string tx, .slice qx nx cx] 53) := ⟨_, rfl⟩
      have HBa : Hid (Below wr.heap.size wr wa) := by rw [hwa]; exact (Below.refl _ _).alloc (Nat.le_refl _) _
      have HAs : Hid (wa.cell? ⟨wr.heap.size, 0, none⟩ = some (.int .i64 kx) ∧ wa.cell? ⟨wr.heap.size, 1, none⟩ = some (.int .i64 ix) ∧ wa.cell? ⟨wr.heap.size, 2, none⟩ = some (.float .f64 fx) ∧ wa.cell? ⟨wr.heap.size, 3, none⟩ = some (.string tx) ∧ wa.cell? ⟨wr.heap.size, 4, none⟩ = some (.slice qx nx cx)) := by rw [hwa]; exact ⟨by simp, by simp, by simp, by simp, by simp⟩
      have HGa := Lib.hid (HL.out.2.on HBa.out)
      have HWa := Lib.hid hwa
      by_cases hbig : 1024 < zs.length
      · have gb : (1024 : Int) < (zs.length : Int) := by omega
        have HPv : Hid (PutV xs (l0 ++ (items.map Sch.vB).flatten) zs) := by
          refine ⟨.inr ⟨hbig, ?_⟩, HL.out.1.2⟩
          have h1 := Sch.flatten_take_le Sch.vB items j
          rw [List.length_append, List.length_append]
          rcases HL.out.1.1 with h2 | h2
          · rw [h2, List.length_append, List.length_append] at hbig
            omega
          · have h3 := h2.2
            rw [List.length_append, List.length_append] at h3
            omega
        clear hvx hix hbr HL hwa HAs hbig
        go_wp2
        go_ret
        rw [← HWa.out]
        exact ⟨zs, q, cap, HPv.out, rfl, HGa.out⟩
      · have gb : ¬ (1024 : Int) < (zs.length : Int) := by omega
        have HC := Lib.hid (HIH.out _ (List.getElem_mem hlt) w0 wa _ (.slice q zs.length cap) zs hvx (hbr.trans (HBa.out.mono hbr.size)) (HL.out.2.has.on HBa.out) (by omega))
        unfold cells5 at HC
        have HZ : Hid (zs = xs ++ (l0 ++ ((items.take j).map Sch.vB).flatten)) := by
          rcases HL.out.1.1 with h2 | h2
          · exact h2
          · exact absurd h2.1 hbig
        have HTk := Lib.hid (Sch.flatten_take Sch.vB items j hlt)
        have hzs : zs.length ≤ 1024 := by omega
        obtain ⟨full, hfull⟩ : ∃ l, l = Sch.vB items[j] := ⟨_, rfl⟩
        rw [← hfull] at HC HTk
        clear hvx hix hbr HL hwa hbig hfull
        go_wp2_with fail
        rw [← HWa.out]
        clear HWa a0 a1 a2 a3 a4 HAs
        refine HC.out.mono ?_
        rintro e w2 ⟨ys2, q2, cap2, hpv, rfl, hg2⟩
        have HG2 := Lib.hid (HGa.out.trans hg2)
        have HZ2 : Hid ((ys2 = xs ++ (l0 ++ ((items.take (j + 1)).map Sch.vB).flatten) ∨ (1024 < ys2.length ∧ 1024 < (xs ++ (l0 ++ ((items.take (j + 1)).map Sch.vB).flatten)).length)) ∧ ys2.length ≤ max xs.length 1024 + 1034) := by
          have e1 : xs ++ (l0 ++ ((items.take (j + 1)).map Sch.vB).flatten) = zs ++ full := by rw [HTk.out, HZ.out]; simp
          rw [e1]
          refine ⟨hpv.eq, ?_⟩
          have := hpv.len
          omega
        have hys : ys2.length ≤ 200000 := by have := HZ2.out.2; omega
        clear hg2 HC HGa hpv HTk HZ
        go_wp2
        go_roundw
        case rel => exact ⟨j + 1, ys2, q2, cap2, by omega, by go_num, rfl, hys, HZ2.out, HG2.out⟩
        case measure => simp [intOf]; omega
    · have hjn : ¬ (j : Int) < (items.length : Int) := by omega
      have HPv : Hid (PutV xs (l0 ++ (items.map Sch.vB).flatten) zs) := by
        have h1 := HL.out.1
        rw [List.take_of_length_le (by omega)] at h1
        exact ⟨h1.1, h1.2⟩
      have HG := Lib.hid HL.out.2
      clear HL hbr
      go_wp2
      go_ret
      exact ⟨zs, q, cap, HPv.out, rfl, HG.out⟩
end Go.Proofs.Yticmkgbjannkkaa
