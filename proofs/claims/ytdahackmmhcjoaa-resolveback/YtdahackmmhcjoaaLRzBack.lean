/- ResolveBack over the landed resolve (wip/mk-back9.py wrote it). -/
import Derived.Test.YtdahackmmhcjoaaExact9
import Derived.Test.YtdahackmmhcjoaaStep0
import Derived.Test.YtdahackmmhcjoaaM17
import Derived.Test.YtdahackmmhcjoaaM03
import Derived.Test.YtdahackmmhcjoaaM02
import Derived.Deep.Cut
namespace Go.Proofs.Ytdahackmmhcjoaa
open Go.RowKit

attribute [local go_sem] run_store_float

theorem V0_wf9 : (V0).wf := V.wf_mk.2 ⟨⟨by omega, by omega⟩, ⟨by omega, by omega⟩, by omega, by decide, fun x hx => by cases hx⟩
theorem below_on {a cur c : World} (h : Below a.heap.size a cur) (h2 : Below cur.heap.size cur c) : Below a.heap.size a c := h.trans (h2.mono h.size)
theorem zero_new {X cur c : World} {z : Obj} (h : cur.heap = (X.alloc z).heap) (h2 : Below cur.heap.size cur c) : c.heap[X.heap.size]? = some z := (h2.block _ (by rw [h]; exact blk_lt (blk_new X z))).trans (by rw [h]; exact blk_new X z)
theorem zero_old {X cur c : World} {z : Obj} {g : Nat} (h : X.heap[g]? = some z) (h2 : Below cur.heap.size cur c) (he : cur.heap = X.heap) : c.heap[g]? = some z := (h2.block _ (by rw [he]; exact blk_lt h)).trans (by rw [he]; exact h)
theorem tb_new {W cur w9 : World} {k i : Int} {b : Nat} {t : ByteArray} {p : Option Addr} {n c : Nat} {er : Int} {r : Except Nat V} (h : Below W.heap.size W cur) (hb : Below cur.heap.size cur w9) (hv : AnsR cur.heap.size w9 (cells5 k i b t p n c) er r) : Told5 W (w9.alloc (.cells #[.int .i64 k, .int .i64 i, .float .f64 b, .string t, .slice p n c] 28)) w9.heap.size er r := by
  have h2 := below_on h hb
  refine ⟨h2.alloc h2.size _, ?_⟩
  cases r with
  | error er' => exact hv
  | ok y =>
    refine ⟨hv.1, _, _, _, _, _, _, _, blk_new w9 _, ?_⟩
    have h3 : Below w9.heap.size w9 (w9.alloc (.cells #[.int .i64 k, .int .i64 i, .float .f64 b, .string t, .slice p n c] 28)) := (Below.refl _ _).alloc (Nat.le_refl _) _
    exact (hv.2.under h3 (fun j hj => hj.2)).mono fun j hj => ⟨Nat.le_trans h.size hj.1, Nat.lt_of_lt_of_le hj.2 h3.size⟩
theorem tb_old {W cur w9 : World} {g : Nat} {a0 a1 a2 a3 a4 : Value} {k i : Int} {b : Nat} {t : ByteArray} {p : Option Addr} {n c : Nat} {er : Int} {r : Except Nat V} (h : Below W.heap.size W cur) (hb : Below cur.heap.size cur w9) (hz : w9.heap[g]? = some (.cells #[a0, a1, a2, a3, a4] 28 (0, 0))) (hg : W.heap.size ≤ g) (hgc : g < cur.heap.size) (hv : AnsR cur.heap.size w9 (cells5 k i b t p n c) er r) : Told5 W (put5 w9 g k i b t (.slice p n c)) g er r := by
  have h2 := below_on h hb
  refine ⟨put5_below h2 hg, ?_⟩
  cases r with
  | error er' => exact hv
  | ok y =>
    refine ⟨hv.1, k, i, b, t, p, n, c, put5_block hz, ?_⟩
    rw [put5_size]
    exact (hv.2.aside (put5_aside _) (fun j hj hc => by omega)).mono fun j hj => ⟨Nat.le_trans h.size hj.1, hj.2⟩
theorem tl_opt {w : World} {k : Int} {tp : Option Addr} {tn tc : Nat} {t : Ty} {g : Nat} (h : TLies w (cells2 k tp tn tc) t) (hg : w.heap[g]? = some (.cells #[.int .i64 k, .slice tp tn tc] 24 (0, 0))) : TLies w (cells2 6 (some ⟨g, 0, none⟩) 1 1) (.mk 6 [t]) := by
  refine TLies.mk (xs := [t]) (fun _ => cells2 k tp tn tc) (by simp) (Nat.le_refl _) (fun _ => ⟨g, 0, rfl, blk_lt hg, fun j hj m hm => ?_⟩) (fun j hj => ?_)
  · have : j = 0 := by simp at hj; omega
    subst this
    rw [blk_cell hg]
    simp [cells2]
  · have : j = 0 := by simp at hj; omega
    subst this
    exact h

/-- Value's answer, one form for all -/
theorem valueV (a b : Ty) (x : V) (w : World) (ua ub uv : Array Value) (ha : TLies w ua a) (hb : TLies w ub b) (hx : VLies w uv x) (hw : x.wf) : Calls Try.prog 5 #[.agg ua, .agg ub, .agg uv] w fun e w' => ∃ k i f t p n c, e = .returned (.tuple #[.agg #[.int .i64 k, .int .i64 i, .float .f64 f, .string t, .slice p n c], .int .i64 (eOf (Rz.value a b x) : Nat)]) ∧ VLies w' #[.int .i64 k, .int .i64 i, .float .f64 f, .string t, .slice p n c] (vOf (Rz.value a b x)) ∧ Below w.heap.size w w' :=
  (valueK9 a b x w ua ub uv ha hb hx hw).mono (fun _ _ h => valR_form h)
theorem vOf_wf {a b : Ty} {x : V} (hw : x.wf) : (vOf (Rz.value a b x)).wf := by
  have h := Rz.value_good (a := a) (b := b) hw
  cases hr : Rz.value a b x with
  | error e => exact V0_wf9
  | ok y => rw [hr] at h; exact h.2.2.1
theorem leaf_wf (k i : Int) (b : Nat) (hk : 0 ≤ k ∧ k ≤ 10) (h1 : -9223372036854775808 ≤ i) (h2 : i ≤ 9223372036854775807) (hb : b < 18446744073709551616) : (V.mk k i b ⟨#[]⟩ []).wf := V.wf_mk.2 ⟨⟨by omega, by omega⟩, ⟨h1, h2⟩, hb, by decide, fun x hx => by cases hx⟩

set_option maxRecDepth 100000 in
set_option maxHeartbeats 4000000 in
theorem resolveBack9 (k : Int) (tp : Option Addr) (tn tc : Nat) (vk vi : Int) (vb : Nat) (vt : ByteArray) (vp : Option Addr) (vn vc : Nat) (t : Ty) (x : V) (n : Int) (f : Nat) (w : World) (hT : TLies w (cells2 k tp tn tc) t) (hV : VLies w (cells5 vk vi vb vt vp vn vc) x) (hw : x.wf) (hn1 : -9223372036854775808 ≤ n) (hn2 : n ≤ 9223372036854775807) (hf : f < 18446744073709551616) :
    Calls Try.prog 3 #[.agg #[.int .i64 k, .slice tp tn tc, .int .i64 vk, .int .i64 vi, .float .f64 vb, .string vt, .slice vp vn vc, .int .i64 n, .float .f64 f]] w fun e w' => e = .returned (.bool true) ∧ Below w.heap.size w w' := by
  obtain ⟨W0, hW0⟩ : ∃ W0, W0 = ((((w.alloc (.cells #[.int .i64 k, .slice tp tn tc, .int .i64 vk, .int .i64 vi, .float .f64 vb, .string vt, .slice vp vn vc, .int .i64 n, .float .f64 f] 30)).alloc (.cells #[.int .i64 k, .slice tp tn tc] 24)).alloc (.cells #[.int .i64 vk, .int .i64 vi, .float .f64 vb, .string vt, .slice vp vn vc] 28)).alloc (.cells #[.int .i64 k, .slice tp tn tc] 24)).alloc (.cells #[.int .i64 6, .slice (some ⟨w.heap.size + 1 + 1 + 1, 0, none⟩) 1 1] 24) := ⟨_, rfl⟩
  obtain ⟨l0, l1, l2, l3, l4, lb, ls⟩ := al5 w (.cells #[.int .i64 k, .slice tp tn tc, .int .i64 vk, .int .i64 vi, .float .f64 vb, .string vt, .slice vp vn vc, .int .i64 n, .float .f64 f] 30) (.cells #[.int .i64 k, .slice tp tn tc] 24) (.cells #[.int .i64 vk, .int .i64 vi, .float .f64 vb, .string vt, .slice vp vn vc] 28) (.cells #[.int .i64 k, .slice tp tn tc] 24) (.cells #[.int .i64 6, .slice (some ⟨w.heap.size + 1 + 1 + 1, 0, none⟩) 1 1] 24)
  rw [← hW0] at l0 l1 l2 l3 l4 lb ls
  have hopt := tl_opt (hT.on lb) l3
  have HV1 := Lib.hid (valueV t (.mk 6 [t]) x W0 _ _ _ (hT.on lb) hopt (hV.on lb) hw)
  have HW0 := Lib.hid hW0
  have HB0 := Lib.hid lb
  unfold cells2 cells5 at HV1
  clear hW0
  go_enter Try.func3, Try.ntmps3
  go_wp2_with fail
  rw [← HW0.out]
  clear HW0
  obtain ⟨r1, hr1⟩ : ∃ r1, r1 = Rz.value t (.mk 6 [t]) x := ⟨_, rfl⟩
  rw [← hr1] at HV1
  have HR1 := Lib.hid hr1
  clear hr1
  refine HV1.out.mono ?_
  rintro e w1 ⟨ak, ai, ab, at_, ap, an, ac, rfl, hva, hb1⟩
  obtain ⟨W1, hW1⟩ : ∃ W, W = w1.alloc (.cells #[.int .i64 ak, .int .i64 ai, .float .f64 ab, .string at_, .slice ap an ac] 28) := ⟨_, rfl⟩
  have h11 : Below w1.heap.size w1 W1 := by rw [hW1]; exact (Below.refl _ _).alloc (Nat.le_refl _) _
  have h01 : Below W0.heap.size W0 W1 := hb1.trans (h11.mono hb1.size)
  have HB1 : Hid (Below w.heap.size w W1) := HB0.out.trans (h01.mono HB0.out.size)
  have HW1 := Lib.hid hW1
  have m1 : W1.cell? ⟨w.heap.size + 1, 0, none⟩ = some (.int .i64 k) := blk_at l1 h01 0
  have m2 : W1.cell? ⟨w.heap.size + 1, 1, none⟩ = some (.slice tp tn tc) := blk_at l1 h01 1
  have m3 : W1.cell? ⟨w.heap.size + 1 + 1 + 1 + 1, 0, none⟩ = some (.int .i64 6) := blk_at l4 h01 0
  have m4 : W1.cell? ⟨w.heap.size + 1 + 1 + 1 + 1, 1, none⟩ = some (.slice (some ⟨w.heap.size + 1 + 1 + 1, 0, none⟩) 1 1) := blk_at l4 h01 1
  rw [hW1] at m1 m2 m3 m4
  have HT1 := Lib.hid ((hT.on HB0.out).on h01)
  have HO1 := Lib.hid (hopt.on h01)
  have HVa := Lib.hid (hva.on h11)
  have HKa : Hid (W1.heap[w1.heap.size]? = some (.cells #[.int .i64 ak, .int .i64 ai, .float .f64 ab, .string at_, .slice ap an ac] 28 (0, 0))) := by rw [hW1]; exact blk_new w1 _
  have HL2 := Lib.hid (show ∀ w', Below W1.heap.size W1 w' → w'.heap[w.heap.size + 1 + 1]? = some (.cells #[.int .i64 vk, .int .i64 vi, .float .f64 vb, .string vt, .slice vp vn vc] 28 (0, 0)) from fun w' hb => ((h01.trans (hb.mono h01.size)).block _ (blk_lt l2)).trans l2)
  have HVx := Lib.hid ((hV.on HB0.out).on h01)
  have HWx := Lib.hid hw
  have HN1 : Hid (∀ e, r1 = .error e → ¬ eOf r1 = 0) := fun e he => by
    have hg := Rz.value_good (a := t) (b := .mk 6 [t]) hw
    rw [← HR1.out, he] at hg
    rw [he]
    exact hg
  clear hW1 HV1 hva h11 h01 hb1 hopt hT hV hw l0 l1 l2 l3 l4
  go_upto_if 42 with fail
  rw [← HW1.out]
  rw [← HW1.out] at m1 m2 m3 m4
  clear HW1
  go_cut [10, 11, 12] from 23 (fun v10 _ _ wx => v10 = .bool true ∧ Hid (Below w.heap.size w wx))
  case first =>
    rcases Nat.eq_zero_or_pos (eOf r1) with he | he
    · have ge : ((eOf r1 : Int) == 0) = true := beq_t (by omega)
      have hv1 : ∃ y, r1 = .ok y := by
        cases r1 with
        | ok y => exact ⟨y, rfl⟩
        | error e => exact absurd he (HN1.out e rfl)
      obtain ⟨y, rfl⟩ := hv1
      have hbk := Rz.value_back HWx.out HR1.out.symm
      have HV2 := Lib.hid (valueV (.mk 6 [t]) t y W1 _ _ _ HO1.out HT1.out HVa.out (by have := vOf_wf (a := t) (b := .mk 6 [t]) HWx.out; rw [← HR1.out] at this; exact this))
      rw [hbk] at HV2
      have a0 : W1.cell? ⟨w1.heap.size, 0, none⟩ = some (.int .i64 ak) := blk_cell HKa.out 0
      have a1 : W1.cell? ⟨w1.heap.size, 1, none⟩ = some (.int .i64 ai) := blk_cell HKa.out 1
      have a2 : W1.cell? ⟨w1.heap.size, 2, none⟩ = some (.float .f64 ab) := blk_cell HKa.out 2
      have a3 : W1.cell? ⟨w1.heap.size, 3, none⟩ = some (.string at_) := blk_cell HKa.out 3
      have a4 : W1.cell? ⟨w1.heap.size, 4, none⟩ = some (.slice ap an ac) := blk_cell HKa.out 4
      unfold cells2 at HV2
      clear hbk he
      go_wp2_with fail
      refine HV2.out.mono ?_
      rintro e w2 ⟨uk, ui, ub, ut, up, un, uc, rfl, hvu, hb2⟩
      obtain ⟨W2, hW2⟩ : ∃ W, W = w2.alloc (.cells #[.int .i64 uk, .int .i64 ui, .float .f64 ub, .string ut, .slice up un uc] 28) := ⟨_, rfl⟩
      have h22 : Below w2.heap.size w2 W2 := by rw [hW2]; exact (Below.refl _ _).alloc (Nat.le_refl _) _
      have h12 : Below W1.heap.size W1 W2 := hb2.trans (h22.mono hb2.size)
      have HB2 := Lib.hid (HB1.out.trans (h12.mono HB1.out.size))
      have hk2 : W2.heap[w2.heap.size]? = some (.cells #[.int .i64 uk, .int .i64 ui, .float .f64 ub, .string ut, .slice up un uc] 28 (0, 0)) := by rw [hW2]; exact blk_new w2 _
      have hl2 := HL2.out W2 h12
      have u0 := blk_cell hk2 0
      have u1 := blk_cell hk2 1
      have u2 := blk_cell hk2 2
      have u3 := blk_cell hk2 3
      have u4 := blk_cell hk2 4
      have v0 := blk_cell hl2 0
      have v1 := blk_cell hl2 1
      have v2 := blk_cell hl2 2
      have v3 := blk_cell hl2 3
      have v4 := blk_cell hl2 4
      have HSm := Lib.hid (refSame6 (V.fix x) x W2 _ _ (hvu.on h22) (HVx.out.on h12))
      rw [same_fixed] at HSm
      unfold cells5 at HSm
      rw [hW2] at u0 u1 u2 u3 u4 v0 v1 v2 v3 v4
      have HW2 := Lib.hid hW2
      clear hW2 h22 h12 hk2 hl2 hvu hb2 a0 a1 a2 a3 a4 m1 m2 m3 m4 HV2
      go_wp2_with fail
      rw [← HW2.out]
      clear HW2 u0 u1 u2 u3 u4 v0 v1 v2 v3 v4
      refine HSm.out.mono ?_
      rintro e w3 ⟨rfl, hb3⟩
      have HB3 := Lib.hid (HB2.out.trans (hb3.mono HB2.out.size))
      clear hb3
      go_wp2
      go_meet
      exact ⟨rfl, HB3⟩
    · have ge : ((eOf r1 : Int) == 0) = false := beq_f (by omega)
      clear he m1 m2 m3 m4
      go_wp2
      go_meet
      exact ⟨rfl, HB1⟩
  case rest =>
    obtain ⟨rfl, HBc⟩ := hcut
    clear m1 m2 m3 m4 HT1 HO1 HVa HL2 HVx HKa
    go_wp2_with fail
    refine (integer9 _).mono ?_
    rintro e w5 ⟨rfl, hb5⟩
    have HB5 := Lib.hid (HBc.out.trans (hb5.mono HBc.out.size))
    clear hb5
    go_wp2_with fail
    refine (float9 _).mono ?_
    rintro e w6 ⟨rfl, hb6⟩
    have HB6 := Lib.hid (HB5.out.trans (hb6.mono HB5.out.size))
    clear hb6
    obtain ⟨r3, hr3⟩ : ∃ r, r = Rz.value (.mk 2 []) (.mk 3 []) (.mk 2 n 0 ⟨#[]⟩ []) := ⟨_, rfl⟩
    have HV3 := Lib.hid (valueV (.mk 2 []) (.mk 3 []) (.mk 2 n 0 ⟨#[]⟩ []) w6 _ _ _ (tl_leaf9 _ 2 none 0) (tl_leaf9 _ 3 none 0) (vl_leaf9 _ 2 n 0 ⟨#[]⟩ none 0) (leaf_wf 2 n 0 (by omega) hn1 hn2 (by omega)))
    have HTp := Lib.hid (there_plain n)
    have HWf3 : Hid ((vOf r3).wf) := by rw [hr3]; exact vOf_wf (leaf_wf 2 n 0 (by omega) hn1 hn2 (by omega))
    rw [← hr3] at HV3 HTp
    obtain ⟨rb, hrb⟩ : ∃ r, r = Rz.value (.mk 3 []) (.mk 2 []) (vOf r3) := ⟨_, rfl⟩
    rw [← hrb] at HTp
    have HRb := Lib.hid hrb
    obtain ⟨e3, he3⟩ : ∃ e, e = eOf r3 := ⟨_, rfl⟩
    rw [← he3] at HV3 HTp
    unfold cells2 cells5 at HV3
    clear hr3 hrb he3
    go_wp2_with fail
    refine HV3.out.mono ?_
    rintro e w7 ⟨ck, ci, cb, ct, cp, cn, cc, rfl, hvc, hb7⟩
    obtain ⟨W7, hW7⟩ : ∃ W, W = w7.alloc (.cells #[.int .i64 ck, .int .i64 ci, .float .f64 cb, .string ct, .slice cp cn cc] 28) := ⟨_, rfl⟩
    have h77 : Below w7.heap.size w7 W7 := by rw [hW7]; exact (Below.refl _ _).alloc (Nat.le_refl _) _
    have hb7' : Below w6.heap.size w6 W7 := hb7.trans (h77.mono hb7.size)
    have HB7 := Lib.hid (HB6.out.trans (hb7'.mono HB6.out.size))
    have hk7 : W7.heap[w7.heap.size]? = some (.cells #[.int .i64 ck, .int .i64 ci, .float .f64 cb, .string ct, .slice cp cn cc] 28 (0, 0)) := by rw [hW7]; exact blk_new w7 _
    have k0 := blk_cell hk7 0
    have k1 := blk_cell hk7 1
    have k2 := blk_cell hk7 2
    have k3 := blk_cell hk7 3
    have k4 := blk_cell hk7 4
    have HVb : Hid (∀ w', Below W7.heap.size W7 w' → Calls Try.prog 5 #[.agg #[.int .i64 3, .slice none 0 0], .agg #[.int .i64 2, .slice none 0 0], .agg #[.int .i64 ck, .int .i64 ci, .float .f64 cb, .string ct, .slice cp cn cc]] w' (ValR w' rb)) := fun w' h => by
      have hv := (hvc.on h77).on h
      rw [HRb.out]
      exact valueK9 (.mk 3 []) (.mk 2 []) _ w' _ _ _ (tl_leaf9 _ 3 none 0) (tl_leaf9 _ 2 none 0) hv HWf3.out
    have HBx : Hid (Below W7.heap.size W7 W7) := Below.refl _ _
    have hd7 : w7.heap.size < W7.heap.size := by rw [hW7]; simp
    have hd8 : ¬ w7.heap.size = W7.heap.size := by omega
    have hd9 : ¬ W7.heap.size = w7.heap.size := by omega
    have HW7 := Lib.hid hW7
    clear hW7 h77 hb7 hb7' hk7 hvc HV3
    rw [HW7.out] at k0 k1 k2 k3 k4
    go_wp2_with fail
    rw [← HW7.out]
    rw [← HW7.out] at k0 k1 k2 k3 k4
    clear HW7
    go_cut [15, 16] from 23 (fun va vb wx => ∃ (gb : Nat) (er : Int), va = .pointer (some ⟨gb, 0, none⟩) ∧ vb = .int .i64 er ∧ Hid (Told5 W7 wx gb er rb))
    case first =>
      go_region_held3 (fun w' => w'.cell? ⟨w7.heap.size, 0, none⟩ = some (.int .i64 ck) ∧ w'.cell? ⟨w7.heap.size, 1, none⟩ = some (.int .i64 ci) ∧ w'.cell? ⟨w7.heap.size, 2, none⟩ = some (.float .f64 cb) ∧ w'.cell? ⟨w7.heap.size, 3, none⟩ = some (.string ct) ∧ w'.cell? ⟨w7.heap.size, 4, none⟩ = some (.slice cp cn cc)) (go_keep) (first
      | (go_at_call 8; refine (float9 _).mono ?_; rintro e wf ⟨rfl, hb⟩; have hx := below_on (by first | exact HBx.out | exact below_drewN HBx.out _ | exact HBx.out.alloc HBx.out.size _ | exact below_drewN (HBx.out.alloc HBx.out.size _) _ | exact (below_drewN HBx.out _).alloc HBx.out.size _ | exact below_drewN ((below_drewN HBx.out _).alloc HBx.out.size _) _) hb; have z0 := cell_on hx k0; have z1 := cell_on hx k1; have z2 := cell_on hx k2; have z3 := cell_on hx k3; have z4 := cell_on hx k4; (first | (have HZ := Lib.hid (And.intro (zero_new (by rfl) hb) HBx.out.size)) | (have HZ := Lib.hid (And.intro (zero_old HZ.out.1 hb (by rfl)) HZ.out.2)) | skip); have hdf : ¬ w7.heap.size = wf.heap.size := (by have := hx.size; omega); have hqf : ¬ wf.heap.size = w7.heap.size := (by have := hx.size; omega); have HBx := Lib.hid hx; clear hb hx)
      | (go_at_call 7; refine (integer9 _).mono ?_; rintro e wi ⟨rfl, hb⟩; have hx := below_on (by first | exact HBx.out | exact below_drewN HBx.out _ | exact HBx.out.alloc HBx.out.size _ | exact below_drewN (HBx.out.alloc HBx.out.size _) _ | exact (below_drewN HBx.out _).alloc HBx.out.size _ | exact below_drewN ((below_drewN HBx.out _).alloc HBx.out.size _) _) hb; have z0 := cell_on hx k0; have z1 := cell_on hx k1; have z2 := cell_on hx k2; have z3 := cell_on hx k3; have z4 := cell_on hx k4; (first | (have HZ := Lib.hid (And.intro (zero_new (by rfl) hb) HBx.out.size)) | (have HZ := Lib.hid (And.intro (zero_old HZ.out.1 hb (by rfl)) HZ.out.2)) | skip); have hdi : ¬ w7.heap.size = wi.heap.size := (by have := hx.size; omega); have hqi : ¬ wi.heap.size = w7.heap.size := (by have := hx.size; omega); have HBx := Lib.hid hx; clear hb hx)
      | (go_at_call 5; refine (HVb.out _ (by first | exact HBx.out | exact below_drewN HBx.out _ | exact HBx.out.alloc HBx.out.size _ | exact below_drewN (HBx.out.alloc HBx.out.size _) _ | exact (below_drewN HBx.out _).alloc HBx.out.size _ | exact below_drewN ((below_drewN HBx.out _).alloc HBx.out.size _) _)).mono ?_; intro e w9 hh; obtain ⟨k5, i5, b5, t5, p5, n5, c5, er, he, hb, hv⟩ := hh.any; unfold cells5 at he; subst he; have hx := below_on (by first | exact HBx.out | exact below_drewN HBx.out _ | exact HBx.out.alloc HBx.out.size _ | exact below_drewN (HBx.out.alloc HBx.out.size _) _ | exact (below_drewN HBx.out _).alloc HBx.out.size _ | exact below_drewN ((below_drewN HBx.out _).alloc HBx.out.size _) _) hb; have z0 := cell_on hx k0; have z1 := cell_on hx k1; have z2 := cell_on hx k2; have z3 := cell_on hx k3; have z4 := cell_on hx k4
         first
         | (have hz := zero_new (z := .cells #[.int .i64 0, .int .i64 0, .float .f64 0, .string ⟨#[]⟩, .slice none 0 0] 28 (0, 0)) (by rfl) hb; have y0 := blk_cell hz 0; have y1 := blk_cell hz 1; have y2 := blk_cell hz 2; have y3 := blk_cell hz 3; have y4 := blk_cell hz 4; have x0 := blk_free hz 0; have x1 := blk_free hz 1; have x2 := blk_free hz 2; have x3 := blk_free hz 3; have x4 := blk_free hz 4; have hT := tb_old (by first | exact HBx.out | exact below_drewN HBx.out _ | exact HBx.out.alloc HBx.out.size _ | exact below_drewN (HBx.out.alloc HBx.out.size _) _ | exact (below_drewN HBx.out _).alloc HBx.out.size _ | exact below_drewN ((below_drewN HBx.out _).alloc HBx.out.size _) _) hb hz (by exact HBx.out.size) (by simp) hv; unfold put5 at hT; have HTd := Lib.hid hT; clear hz hT hb hv hx hh)
         | (have hz := zero_old HZ.out.1 hb (by rfl); have y0 := blk_cell hz 0; have y1 := blk_cell hz 1; have y2 := blk_cell hz 2; have y3 := blk_cell hz 3; have y4 := blk_cell hz 4; have x0 := blk_free hz 0; have x1 := blk_free hz 1; have x2 := blk_free hz 2; have x3 := blk_free hz 3; have x4 := blk_free hz 4; have hT := tb_old (by first | exact HBx.out | exact below_drewN HBx.out _ | exact HBx.out.alloc HBx.out.size _ | exact below_drewN (HBx.out.alloc HBx.out.size _) _ | exact (below_drewN HBx.out _).alloc HBx.out.size _ | exact below_drewN ((below_drewN HBx.out _).alloc HBx.out.size _) _) hb hz (by exact HZ.out.2) (by exact blk_lt HZ.out.1) hv; unfold put5 at hT; have HTd := Lib.hid hT; clear hz hT hb hv hx hh)
         | (have HTd := Lib.hid (tb_new (by first | exact HBx.out | exact below_drewN HBx.out _ | exact HBx.out.alloc HBx.out.size _ | exact below_drewN (HBx.out.alloc HBx.out.size _) _ | exact (below_drewN HBx.out _).alloc HBx.out.size _ | exact below_drewN ((below_drewN HBx.out _).alloc HBx.out.size _) _) hb hv); clear hb hv hx hh)))
      all_goals (try go_wp2_with fail)
      all_goals go_meet
      all_goals exact ⟨_, _, rfl, rfl, HTd⟩
    case rest =>
      obtain ⟨gb, er, rfl, rfl, HTd⟩ := hcut
      have HBb := Lib.hid (HB7.out.trans (HTd.out.below.mono HB7.out.size))
      clear k0 k1 k2 k3 k4 HVb HBx
      go_upto_region 13 with fail
      go_cut [17] from 23 (fun v17 wx => v17 = .bool true ∧ wx = wc)
      case first =>
        rcases HTp.out with h10 | ⟨h0, h1, h2⟩
        · have g10 : ((e3 : Int) == 10) = true := beq_t (by omega)
          clear h10
          go_wp2
          go_meet
          exact ⟨rfl, rfl⟩
        · have g10 : ((e3 : Int) == 10) = false := beq_f (by omega)
          have g0 : ((e3 : Int) == 0) = true := beq_t (by omega)
          have hok : ∃ y, rb = .ok y := by
            cases hb : rb with
            | ok y => exact ⟨y, rfl⟩
            | error e => rw [hb] at h2; simp [vOf, V0] at h2
          obtain ⟨y, rfl⟩ := hok
          have h2' : y = .mk 2 n 0 ⟨#[]⟩ [] := h2
          subst h2'
          obtain ⟨hee, yk, yi, yb, yt, yp, yn, yc, hky, hvy⟩ := HTd.out.told
          subst hee
          obtain ⟨p', c', he', -⟩ := hvy.lies.open
          unfold cells5 at he'
          simp only [Array.mk.injEq, List.cons.injEq, Value.int.injEq, true_and, and_true] at he'
          have hyi : yi = n := he'.2.1
          subst hyi
          have b1 := blk_cell hky 1
          clear h0 h1 h2 hky hvy he' HTd
          go_wp2
          go_meet
          exact ⟨rfl, rfl⟩
      case rest =>
        obtain ⟨rfl, rfl⟩ := hcut
        clear HTp HTd
        go_wp2_with fail
        refine (float9 _).mono ?_
        rintro e w10 ⟨rfl, hb10⟩
        have HB10 := Lib.hid (HBb.out.trans (hb10.mono HBb.out.size))
        clear hb10
        go_wp2_with fail
        refine (integer9 _).mono ?_
        rintro e w11 ⟨rfl, hb11⟩
        have HB11 := Lib.hid (HB10.out.trans (hb11.mono HB10.out.size))
        clear hb11
        obtain ⟨r4, hr4⟩ : ∃ r, r = Rz.value (.mk 3 []) (.mk 2 []) (.mk 3 0 f ⟨#[]⟩ []) := ⟨_, rfl⟩
        have HV4 := Lib.hid (valueV (.mk 3 []) (.mk 2 []) (.mk 3 0 f ⟨#[]⟩ []) w11 _ _ _ (tl_leaf9 _ 3 none 0) (tl_leaf9 _ 2 none 0) (vl_leaf9 _ 3 0 f ⟨#[]⟩ none 0) (leaf_wf 3 0 f (by omega) (by omega) (by omega) hf))
        have HBp := Lib.hid (back_plain hf)
        have HWf4 : Hid ((vOf r4).wf) := by rw [hr4]; exact vOf_wf (leaf_wf 3 0 f (by omega) (by omega) (by omega) hf)
        rw [← hr4] at HV4 HBp
        obtain ⟨rd, hrd⟩ : ∃ r, r = Rz.value (.mk 2 []) (.mk 3 []) (vOf r4) := ⟨_, rfl⟩
        rw [← hrd] at HBp
        have HRd := Lib.hid hrd
        obtain ⟨e4, he4⟩ : ∃ e, e = eOf r4 := ⟨_, rfl⟩
        rw [← he4] at HV4 HBp
        unfold cells2 cells5 at HV4
        clear hr4 hrd he4
        go_wp2_with fail
        refine HV4.out.mono ?_
        rintro e w7 ⟨ck, ci, cb, ct, cp, cn, cc, rfl, hvc, hb7⟩
        obtain ⟨W7, hW7⟩ : ∃ W, W = w7.alloc (.cells #[.int .i64 ck, .int .i64 ci, .float .f64 cb, .string ct, .slice cp cn cc] 28) := ⟨_, rfl⟩
        have h77 : Below w7.heap.size w7 W7 := by rw [hW7]; exact (Below.refl _ _).alloc (Nat.le_refl _) _
        have hb7' : Below w11.heap.size w11 W7 := hb7.trans (h77.mono hb7.size)
        have HB7 := Lib.hid (HB11.out.trans (hb7'.mono HB11.out.size))
        have hk7 : W7.heap[w7.heap.size]? = some (.cells #[.int .i64 ck, .int .i64 ci, .float .f64 cb, .string ct, .slice cp cn cc] 28 (0, 0)) := by rw [hW7]; exact blk_new w7 _
        have k0 := blk_cell hk7 0
        have k1 := blk_cell hk7 1
        have k2 := blk_cell hk7 2
        have k3 := blk_cell hk7 3
        have k4 := blk_cell hk7 4
        have HVd : Hid (∀ w', Below W7.heap.size W7 w' → Calls Try.prog 5 #[.agg #[.int .i64 2, .slice none 0 0], .agg #[.int .i64 3, .slice none 0 0], .agg #[.int .i64 ck, .int .i64 ci, .float .f64 cb, .string ct, .slice cp cn cc]] w' (ValR w' rd)) := fun w' h => by
          have hv := (hvc.on h77).on h
          rw [HRd.out]
          exact valueK9 (.mk 2 []) (.mk 3 []) _ w' _ _ _ (tl_leaf9 _ 2 none 0) (tl_leaf9 _ 3 none 0) hv HWf4.out
        have HBx : Hid (Below W7.heap.size W7 W7) := Below.refl _ _
        have hd7 : w7.heap.size < W7.heap.size := by rw [hW7]; simp
        have hd8 : ¬ w7.heap.size = W7.heap.size := by omega
        have hd9 : ¬ W7.heap.size = w7.heap.size := by omega
        have HW7 := Lib.hid hW7
        clear hW7 h77 hb7 hb7' hk7 hvc HV4
        rw [HW7.out] at k0 k1 k2 k3 k4
        go_wp2_with fail
        rw [← HW7.out]
        rw [← HW7.out] at k0 k1 k2 k3 k4
        clear HW7
        go_cut [20, 21] from 23 (fun va vb wx => ∃ (gb : Nat) (er : Int), va = .pointer (some ⟨gb, 0, none⟩) ∧ vb = .int .i64 er ∧ Hid (Told5 W7 wx gb er rd))
        case first =>
          go_region_held3 (fun w' => w'.cell? ⟨w7.heap.size, 0, none⟩ = some (.int .i64 ck) ∧ w'.cell? ⟨w7.heap.size, 1, none⟩ = some (.int .i64 ci) ∧ w'.cell? ⟨w7.heap.size, 2, none⟩ = some (.float .f64 cb) ∧ w'.cell? ⟨w7.heap.size, 3, none⟩ = some (.string ct) ∧ w'.cell? ⟨w7.heap.size, 4, none⟩ = some (.slice cp cn cc)) (go_keep) (first
          | (go_at_call 8; refine (float9 _).mono ?_; rintro e wf ⟨rfl, hb⟩; have hx := below_on (by first | exact HBx.out | exact below_drewN HBx.out _ | exact HBx.out.alloc HBx.out.size _ | exact below_drewN (HBx.out.alloc HBx.out.size _) _ | exact (below_drewN HBx.out _).alloc HBx.out.size _ | exact below_drewN ((below_drewN HBx.out _).alloc HBx.out.size _) _) hb; have z0 := cell_on hx k0; have z1 := cell_on hx k1; have z2 := cell_on hx k2; have z3 := cell_on hx k3; have z4 := cell_on hx k4; (first | (have HZ := Lib.hid (And.intro (zero_new (by rfl) hb) HBx.out.size)) | (have HZ := Lib.hid (And.intro (zero_old HZ.out.1 hb (by rfl)) HZ.out.2)) | skip); have hdf : ¬ w7.heap.size = wf.heap.size := (by have := hx.size; omega); have hqf : ¬ wf.heap.size = w7.heap.size := (by have := hx.size; omega); have HBx := Lib.hid hx; clear hb hx)
          | (go_at_call 7; refine (integer9 _).mono ?_; rintro e wi ⟨rfl, hb⟩; have hx := below_on (by first | exact HBx.out | exact below_drewN HBx.out _ | exact HBx.out.alloc HBx.out.size _ | exact below_drewN (HBx.out.alloc HBx.out.size _) _ | exact (below_drewN HBx.out _).alloc HBx.out.size _ | exact below_drewN ((below_drewN HBx.out _).alloc HBx.out.size _) _) hb; have z0 := cell_on hx k0; have z1 := cell_on hx k1; have z2 := cell_on hx k2; have z3 := cell_on hx k3; have z4 := cell_on hx k4; (first | (have HZ := Lib.hid (And.intro (zero_new (by rfl) hb) HBx.out.size)) | (have HZ := Lib.hid (And.intro (zero_old HZ.out.1 hb (by rfl)) HZ.out.2)) | skip); have hdi : ¬ w7.heap.size = wi.heap.size := (by have := hx.size; omega); have hqi : ¬ wi.heap.size = w7.heap.size := (by have := hx.size; omega); have HBx := Lib.hid hx; clear hb hx)
          | (go_at_call 5; refine (HVd.out _ (by first | exact HBx.out | exact below_drewN HBx.out _ | exact HBx.out.alloc HBx.out.size _ | exact below_drewN (HBx.out.alloc HBx.out.size _) _ | exact (below_drewN HBx.out _).alloc HBx.out.size _ | exact below_drewN ((below_drewN HBx.out _).alloc HBx.out.size _) _)).mono ?_; intro e w9 hh; obtain ⟨k5, i5, b5, t5, p5, n5, c5, er, he, hb, hv⟩ := hh.any; unfold cells5 at he; subst he; have hx := below_on (by first | exact HBx.out | exact below_drewN HBx.out _ | exact HBx.out.alloc HBx.out.size _ | exact below_drewN (HBx.out.alloc HBx.out.size _) _ | exact (below_drewN HBx.out _).alloc HBx.out.size _ | exact below_drewN ((below_drewN HBx.out _).alloc HBx.out.size _) _) hb; have z0 := cell_on hx k0; have z1 := cell_on hx k1; have z2 := cell_on hx k2; have z3 := cell_on hx k3; have z4 := cell_on hx k4
             first
             | (have hz := zero_new (z := .cells #[.int .i64 0, .int .i64 0, .float .f64 0, .string ⟨#[]⟩, .slice none 0 0] 28 (0, 0)) (by rfl) hb; have y0 := blk_cell hz 0; have y1 := blk_cell hz 1; have y2 := blk_cell hz 2; have y3 := blk_cell hz 3; have y4 := blk_cell hz 4; have x0 := blk_free hz 0; have x1 := blk_free hz 1; have x2 := blk_free hz 2; have x3 := blk_free hz 3; have x4 := blk_free hz 4; have hT := tb_old (by first | exact HBx.out | exact below_drewN HBx.out _ | exact HBx.out.alloc HBx.out.size _ | exact below_drewN (HBx.out.alloc HBx.out.size _) _ | exact (below_drewN HBx.out _).alloc HBx.out.size _ | exact below_drewN ((below_drewN HBx.out _).alloc HBx.out.size _) _) hb hz (by exact HBx.out.size) (by simp) hv; unfold put5 at hT; have HTd := Lib.hid hT; clear hz hT hb hv hx hh)
             | (have hz := zero_old HZ.out.1 hb (by rfl); have y0 := blk_cell hz 0; have y1 := blk_cell hz 1; have y2 := blk_cell hz 2; have y3 := blk_cell hz 3; have y4 := blk_cell hz 4; have x0 := blk_free hz 0; have x1 := blk_free hz 1; have x2 := blk_free hz 2; have x3 := blk_free hz 3; have x4 := blk_free hz 4; have hT := tb_old (by first | exact HBx.out | exact below_drewN HBx.out _ | exact HBx.out.alloc HBx.out.size _ | exact below_drewN (HBx.out.alloc HBx.out.size _) _ | exact (below_drewN HBx.out _).alloc HBx.out.size _ | exact below_drewN ((below_drewN HBx.out _).alloc HBx.out.size _) _) hb hz (by exact HZ.out.2) (by exact blk_lt HZ.out.1) hv; unfold put5 at hT; have HTd := Lib.hid hT; clear hz hT hb hv hx hh)
             | (have HTd := Lib.hid (tb_new (by first | exact HBx.out | exact below_drewN HBx.out _ | exact HBx.out.alloc HBx.out.size _ | exact below_drewN (HBx.out.alloc HBx.out.size _) _ | exact (below_drewN HBx.out _).alloc HBx.out.size _ | exact below_drewN ((below_drewN HBx.out _).alloc HBx.out.size _) _) hb hv); clear hb hv hx hh)))
          all_goals (try go_wp2_with fail)
          all_goals go_meet
          all_goals exact ⟨_, _, rfl, rfl, HTd⟩
        case rest =>
          obtain ⟨gd, er, rfl, rfl, HTd⟩ := hcut
          have HBd := Lib.hid (HB7.out.trans (HTd.out.below.mono HB7.out.size))
          clear k0 k1 k2 k3 k4 HVd HBx
          go_upto_region 16 with fail
          go_cut [22] from 23 (fun v22 wx => v22 = .bool true ∧ Hid (Below w.heap.size w wx))
          case first =>
            rcases HBp.out with h10 | ⟨h0, h1, h2⟩
            · have g10 : ((e4 : Int) == 10) = true := beq_t (by omega)
              clear h10
              go_wp2
              go_meet
              exact ⟨rfl, HBd⟩
            · have g10 : ((e4 : Int) == 10) = false := beq_f (by omega)
              have g0 : ((e4 : Int) == 0) = true := beq_t (by omega)
              have hok : ∃ y, rd = .ok y := by
                cases hb : rd with
                | ok y => exact ⟨y, rfl⟩
                | error e => rw [hb] at h2; simp [vOf, V0] at h2
              obtain ⟨y, rfl⟩ := hok
              have h2' : y = .mk 3 0 f ⟨#[]⟩ [] := h2
              subst h2'
              obtain ⟨hee, yk, yi, yb, yt, yp, yn, yc, hky, hvy⟩ := HTd.out.told
              subst hee
              have HSm := Lib.hid (refSame6 (.mk 3 0 f ⟨#[]⟩ []) (.mk 3 0 f ⟨#[]⟩ []) wc _ _ hvy.lies (vl_leaf9 _ 3 0 f ⟨#[]⟩ none 0))
              rw [same_self] at HSm
              unfold cells5 at HSm
              have b0 := blk_cell hky 0
              have b1 := blk_cell hky 1
              have b2 := blk_cell hky 2
              have b3 := blk_cell hky 3
              have b4 := blk_cell hky 4
              clear h0 h1 h2 hky hvy HTd
              go_wp2_with fail
              refine HSm.out.mono ?_
              rintro e w12 ⟨rfl, hb12⟩
              have HB12 := Lib.hid (HBd.out.trans (hb12.mono HBd.out.size))
              clear hb12
              go_wp2
              go_meet
              exact ⟨rfl, HB12⟩
          case rest =>
            obtain ⟨rfl, HBz⟩ := hcut
            go_wp2_with fail
            refine (live9 _).mono ?_
            rintro e w13 ⟨rfl, hb13⟩
            have HB13 := Lib.hid (HBz.out.trans (hb13.mono HBz.out.size))
            clear hb13
            go_wp2
            go_ret
            exact ⟨rfl, HB13.out⟩
end Go.Proofs.Ytdahackmmhcjoaa
