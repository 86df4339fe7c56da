/- ValueAlike over what package value's functions answer. -/
import Derived.Test.YtooklmgkkkbfdaaLVSames
import Derived.Test.YtooklmgkkkbfdaaVAlike
namespace Go.Proofs.Ytooklmgkkkbfdaa
open Go.RowKit
attribute [local go_sem] run_store_float

set_option maxRecDepth 100000 in
set_option maxHeartbeats 4000000 in
theorem valueAlike_any {I : World → Prop} (K : ValueOk I) (x y z : V) (u v q : Array Value) (w : World) (hx : VLies w u x) (hy : VLies w v y) (hz : VLies w q z) (hI : I w) :
    Calls Try.prog 7 #[.agg u, .agg v, .agg q] w fun e w' => e = .returned (.bool true) ∧ Below w.heap.size w w' := by
  have HK := Lib.hid K
  have HI := Lib.hid hI
  have HX := Lib.hid hx
  have HY := Lib.hid hy
  have HZ := Lib.hid hz
  clear hI hx K hy hz
  obtain ⟨ka, ia, ba, ta, xs⟩ := x
  obtain ⟨kb, ib, bb, tb, ys⟩ := y
  obtain ⟨kc, ic, bc, tc, zs⟩ := z
  obtain ⟨pa, ca, rfl, -, -, -⟩ := HX.out.open
  obtain ⟨pb, cb, rfl, -, -, -⟩ := HY.out.open
  obtain ⟨pc, cc, rfl, -, -, -⟩ := HZ.out.open
  unfold cells5
  have h3 := three_world (x := .mk ka ia ba ta xs) (y := .mk kb ib bb tb ys) (z := .mk kc ic bc tc zs) HX.out HY.out HZ.out
  have H3 := Lib.hid h3
  clear h3 HX HY HZ
  go_enter Try.func7, Try.ntmps7
  go_wp2_with fail
  generalize V.mk ka ia ba ta xs = x at H3
  generalize V.mk kb ib bb tb ys = y at H3
  generalize V.mk kc ic bc tc zs = z at H3
  generalize (((w.alloc (.cells #[.int .i64 ka, .int .i64 ia, .float .f64 ba, .string ta, .slice pa xs.length ca] 25)).alloc (.cells #[.int .i64 kb, .int .i64 ib, .float .f64 bb, .string tb, .slice pb ys.length cb] 25)).alloc (.cells #[.int .i64 kc, .int .i64 ic, .float .f64 bc, .string tc, .slice pc zs.length cc] 25)) = w0 at H3 ⊢
  refine (HK.out.fix x _ w0 H3.out.2.1.lies (HK.out.on HI.out H3.out.1)).mono ?_
  rintro e w1 hF
  obtain ⟨kf, jf, bf, tf, pf, nf, cf, rfl, hO, hb1⟩ := hF.open
  have hb1a : Below w0.heap.size w0 (w1.alloc (.cells #[.int .i64 kf, .int .i64 jf, .float .f64 bf, .string tf, .slice pf nf cf] 25)) := hb1.alloc hb1.size _
  have HW := Lib.hid (And.intro (H3.out.1.trans (hb1a.mono H3.out.1.size)) (And.intro (H3.out.2.1.on hb1a) (And.intro (H3.out.2.2.1.on hb1a) (And.intro (H3.out.2.2.2.on hb1a) (holds_new hO.lies)))))
  clear hF hO hb1 hb1a H3
  go_wp2_with fail
  generalize w1.alloc (.cells #[.int .i64 kf, .int .i64 jf, .float .f64 bf, .string tf, .slice pf nf cf] 25) = W at HW ⊢
  generalize w1.heap.size = gf at HW ⊢
  generalize w.heap.size + 1 + 1 = gc at HW ⊢
  generalize w.heap.size + 1 = gb at HW ⊢
  obtain ⟨ga, hga⟩ : ∃ ga, ga = w.heap.size := ⟨_, rfl⟩
  rw [← hga] at HW ⊢
  have HGa := Lib.hid hga
  clear hga
  obtain ⟨G, hG⟩ : ∃ G : World → Prop, ∀ w', G w' ↔ Below W.heap.size W w' := ⟨_, fun _ => Iff.rfl⟩
  have hGd : ∀ w', G w' → G w'.drew := fun w' h => (hG _).2 ((hG _).1 h).drew
  have hGs : ∀ w' w'', G w' → Below w'.heap.size w' w'' → G w'' := fun w' w'' h hb => (hG _).2 (((hG _).1 h).trans (hb.mono ((hG _).1 h).size))
  have hG0 : G W := (hG _).2 (Below.refl _ _)
  have HGI : Hid (∀ w', G w' → I w' ∧ Below w.heap.size w w') := fun w' h => by
    have h1 := HW.out.1
    rw [HGa.out] at h1
    have h2 := h1.trans (((hG _).1 h).mono h1.size)
    exact ⟨HK.out.on HI.out h2, h2⟩
  have HLa : Hid (∀ w', G w' → VLies w' #[.int .i64 ka, .int .i64 ia, .float .f64 ba, .string ta, .slice pa xs.length ca] x) := fun w' h => HW.out.2.1.lies.on ((hG _).1 h)
  have HLb : Hid (∀ w', G w' → VLies w' #[.int .i64 kb, .int .i64 ib, .float .f64 bb, .string tb, .slice pb ys.length cb] y) := fun w' h => HW.out.2.2.1.lies.on ((hG _).1 h)
  have HLc : Hid (∀ w', G w' → VLies w' #[.int .i64 kc, .int .i64 ic, .float .f64 bc, .string tc, .slice pc zs.length cc] z) := fun w' h => HW.out.2.2.2.1.lies.on ((hG _).1 h)
  have HLf : Hid (∀ w', G w' → VLies w' #[.int .i64 kf, .int .i64 jf, .float .f64 bf, .string tf, .slice pf nf cf] (V.fix x)) := fun w' h => HW.out.2.2.2.2.lies.on ((hG _).1 h)
  have HCaf : Hid (∀ w', G w' → w'.cell? ⟨ga, 0, none⟩ = some (.int .i64 ka) ∧ w'.cell? ⟨ga, 1, none⟩ = some (.int .i64 ia) ∧ w'.cell? ⟨ga, 2, none⟩ = some (.float .f64 ba) ∧ w'.cell? ⟨ga, 3, none⟩ = some (.string ta) ∧ w'.cell? ⟨ga, 4, none⟩ = some (.slice pa xs.length ca) ∧ w'.cell? ⟨gf, 0, none⟩ = some (.int .i64 kf) ∧ w'.cell? ⟨gf, 1, none⟩ = some (.int .i64 jf) ∧ w'.cell? ⟨gf, 2, none⟩ = some (.float .f64 bf) ∧ w'.cell? ⟨gf, 3, none⟩ = some (.string tf) ∧ w'.cell? ⟨gf, 4, none⟩ = some (.slice pf nf cf)) := fun w' h => by
    obtain ⟨a0, a1, a2, a3, a4⟩ := (HW.out.2.1.on ((hG _).1 h)).cells
    obtain ⟨f0, f1, f2, f3, f4⟩ := (HW.out.2.2.2.2.on ((hG _).1 h)).cells
    exact ⟨a0, a1, a2, a3, a4, f0, f1, f2, f3, f4⟩
  have HCab : Hid (∀ w', G w' → w'.cell? ⟨ga, 0, none⟩ = some (.int .i64 ka) ∧ w'.cell? ⟨ga, 1, none⟩ = some (.int .i64 ia) ∧ w'.cell? ⟨ga, 2, none⟩ = some (.float .f64 ba) ∧ w'.cell? ⟨ga, 3, none⟩ = some (.string ta) ∧ w'.cell? ⟨ga, 4, none⟩ = some (.slice pa xs.length ca) ∧ w'.cell? ⟨gb, 0, none⟩ = some (.int .i64 kb) ∧ w'.cell? ⟨gb, 1, none⟩ = some (.int .i64 ib) ∧ w'.cell? ⟨gb, 2, none⟩ = some (.float .f64 bb) ∧ w'.cell? ⟨gb, 3, none⟩ = some (.string tb) ∧ w'.cell? ⟨gb, 4, none⟩ = some (.slice pb ys.length cb)) := fun w' h => by
    obtain ⟨a0, a1, a2, a3, a4⟩ := (HW.out.2.1.on ((hG _).1 h)).cells
    obtain ⟨f0, f1, f2, f3, f4⟩ := (HW.out.2.2.1.on ((hG _).1 h)).cells
    exact ⟨a0, a1, a2, a3, a4, f0, f1, f2, f3, f4⟩
  have HCc : Hid (∀ w', G w' → w'.cell? ⟨gc, 0, none⟩ = some (.int .i64 kc) ∧ w'.cell? ⟨gc, 1, none⟩ = some (.int .i64 ic) ∧ w'.cell? ⟨gc, 2, none⟩ = some (.float .f64 bc) ∧ w'.cell? ⟨gc, 3, none⟩ = some (.string tc) ∧ w'.cell? ⟨gc, 4, none⟩ = some (.slice pc zs.length cc)) := fun w' h => by
    obtain ⟨a0, a1, a2, a3, a4⟩ := (HW.out.2.2.2.1.on ((hG _).1 h)).cells
    exact ⟨a0, a1, a2, a3, a4⟩
  obtain ⟨r, hr⟩ : ∃ r, r = V.same x y := ⟨_, rfl⟩
  obtain ⟨r2, hr2⟩ : ∃ r2, r2 = V.same y z := ⟨_, rfl⟩
  obtain ⟨r3, hr3⟩ : ∃ r3, r3 = V.same x z := ⟨_, rfl⟩
  obtain ⟨n, hn⟩ : ∃ n, n = chk 1 x := ⟨_, rfl⟩
  obtain ⟨m, hm⟩ : ∃ m, m = chk 1 y := ⟨_, rfl⟩
  have HSfa : Hid (∀ w', G w' → Calls Try.prog 17 #[.agg #[.int .i64 kf, .int .i64 jf, .float .f64 bf, .string tf, .slice pf nf cf], .agg #[.int .i64 ka, .int .i64 ia, .float .f64 ba, .string ta, .slice pa xs.length ca]] w' fun e w'' => e = .returned (.bool true) ∧ G w'') := fun w' h => by
    have hc := HK.out.same (V.fix x) x _ _ w' (HLf.out w' h) (HLa.out w' h) (HGI.out w' h).1
    rw [same_fixed] at hc
    exact hc.mono fun e w'' ⟨he, hb⟩ => ⟨he, hGs w' w'' h hb⟩
  have HSab : Hid (∀ w', G w' → Calls Try.prog 17 #[.agg #[.int .i64 ka, .int .i64 ia, .float .f64 ba, .string ta, .slice pa xs.length ca], .agg #[.int .i64 kb, .int .i64 ib, .float .f64 bb, .string tb, .slice pb ys.length cb]] w' fun e w'' => e = .returned (.bool r) ∧ G w'') := fun w' h => by
    have hc := HK.out.same x y _ _ w' (HLa.out w' h) (HLb.out w' h) (HGI.out w' h).1
    rw [← hr] at hc
    exact hc.mono fun e w'' ⟨he, hb⟩ => ⟨he, hGs w' w'' h hb⟩
  have HSbc : Hid (∀ w', G w' → Calls Try.prog 17 #[.agg #[.int .i64 kb, .int .i64 ib, .float .f64 bb, .string tb, .slice pb ys.length cb], .agg #[.int .i64 kc, .int .i64 ic, .float .f64 bc, .string tc, .slice pc zs.length cc]] w' fun e w'' => e = .returned (.bool r2) ∧ G w'') := fun w' h => by
    have hc := HK.out.same y z _ _ w' (HLb.out w' h) (HLc.out w' h) (HGI.out w' h).1
    rw [← hr2] at hc
    exact hc.mono fun e w'' ⟨he, hb⟩ => ⟨he, hGs w' w'' h hb⟩
  have HSac : Hid (∀ w', G w' → Calls Try.prog 17 #[.agg #[.int .i64 ka, .int .i64 ia, .float .f64 ba, .string ta, .slice pa xs.length ca], .agg #[.int .i64 kc, .int .i64 ic, .float .f64 bc, .string tc, .slice pc zs.length cc]] w' fun e w'' => e = .returned (.bool r3) ∧ G w'') := fun w' h => by
    have hc := HK.out.same x z _ _ w' (HLa.out w' h) (HLc.out w' h) (HGI.out w' h).1
    rw [← hr3] at hc
    exact hc.mono fun e w'' ⟨he, hb⟩ => ⟨he, hGs w' w'' h hb⟩
  have HSba : Hid (∀ w', G w' → Calls Try.prog 17 #[.agg #[.int .i64 kb, .int .i64 ib, .float .f64 bb, .string tb, .slice pb ys.length cb], .agg #[.int .i64 ka, .int .i64 ia, .float .f64 ba, .string ta, .slice pa xs.length ca]] w' fun e w'' => e = .returned (.bool r) ∧ G w'') := fun w' h => by
    have hc := HK.out.same y x _ _ w' (HLb.out w' h) (HLa.out w' h) (HGI.out w' h).1
    rw [same_swap, ← hr] at hc
    exact hc.mono fun e w'' ⟨he, hb⟩ => ⟨he, hGs w' w'' h hb⟩
  have HSaa : Hid (∀ w', G w' → Calls Try.prog 17 #[.agg #[.int .i64 ka, .int .i64 ia, .float .f64 ba, .string ta, .slice pa xs.length ca], .agg #[.int .i64 ka, .int .i64 ia, .float .f64 ba, .string ta, .slice pa xs.length ca]] w' fun e w'' => e = .returned (.bool true) ∧ G w'') := fun w' h => by
    have hc := HK.out.same x x _ _ w' (HLa.out w' h) (HLa.out w' h) (HGI.out w' h).1
    rw [same_self] at hc
    exact hc.mono fun e w'' ⟨he, hb⟩ => ⟨he, hGs w' w'' h hb⟩
  have HCkf : Hid (∀ w', G w' → Calls Try.prog 9 #[.agg #[.int .i64 kf, .int .i64 jf, .float .f64 bf, .string tf, .slice pf nf cf]] w' fun e w'' => e = .returned (.int .i64 (n : Nat)) ∧ G w'') := fun w' h => by
    have hc := HK.out.check (V.fix x) _ w' (HLf.out w' h) (HGI.out w' h).1
    rw [chk_fix, ← hn] at hc
    exact hc.mono fun e w'' ⟨he, hb⟩ => ⟨he, hGs w' w'' h hb⟩
  have HCka : Hid (∀ w', G w' → Calls Try.prog 9 #[.agg #[.int .i64 ka, .int .i64 ia, .float .f64 ba, .string ta, .slice pa xs.length ca]] w' fun e w'' => e = .returned (.int .i64 (n : Nat)) ∧ G w'') := fun w' h => by
    have hc := HK.out.check x _ w' (HLa.out w' h) (HGI.out w' h).1
    rw [← hn] at hc
    exact hc.mono fun e w'' ⟨he, hb⟩ => ⟨he, hGs w' w'' h hb⟩
  have HCkb : Hid (∀ w', G w' → Calls Try.prog 9 #[.agg #[.int .i64 kb, .int .i64 ib, .float .f64 bb, .string tb, .slice pb ys.length cb]] w' fun e w'' => e = .returned (.int .i64 (m : Nat)) ∧ G w'') := fun w' h => by
    have hc := HK.out.check y _ w' (HLb.out w' h) (HGI.out w' h).1
    rw [← hm] at hc
    exact hc.mono fun e w'' ⟨he, hb⟩ => ⟨he, hGs w' w'' h hb⟩
  have HFf : Hid (∀ w', G w' → Calls Try.prog 14 #[.agg #[.int .i64 kf, .int .i64 jf, .float .f64 bf, .string tf, .slice pf nf cf]] w' fun e w'' => ∃ k1 i1 b1 t1 p1 n1 c1, e = .returned (.agg #[.int .i64 k1, .int .i64 i1, .float .f64 b1, .string t1, .slice p1 n1 c1]) ∧ VLies w'' #[.int .i64 k1, .int .i64 i1, .float .f64 b1, .string t1, .slice p1 n1 c1] (V.fix (V.fix x)) ∧ Below w'.heap.size w' w'' ∧ G w'') := fun w' h =>
    (HK.out.fix (V.fix x) _ w' (HLf.out w' h) (HGI.out w' h).1).mono fun e w'' hF => by
      obtain ⟨k1, i1, b1, t1, p1, n1, c1, he, hO, hb⟩ := hF.open
      exact ⟨k1, i1, b1, t1, p1, n1, c1, he, hO.lies, hb, hGs w' w'' h hb⟩
  have HFa : Hid (∀ w', G w' → Calls Try.prog 14 #[.agg #[.int .i64 ka, .int .i64 ia, .float .f64 ba, .string ta, .slice pa xs.length ca]] w' fun e w'' => ∃ k1 i1 b1 t1 p1 n1 c1, e = .returned (.agg #[.int .i64 k1, .int .i64 i1, .float .f64 b1, .string t1, .slice p1 n1 c1]) ∧ VLies w'' #[.int .i64 k1, .int .i64 i1, .float .f64 b1, .string t1, .slice p1 n1 c1] (V.fix x) ∧ Below w'.heap.size w' w'' ∧ G w'') := fun w' h =>
    (HK.out.fix x _ w' (HLa.out w' h) (HGI.out w' h).1).mono fun e w'' hF => by
      obtain ⟨k1, i1, b1, t1, p1, n1, c1, he, hO, hb⟩ := hF.open
      exact ⟨k1, i1, b1, t1, p1, n1, c1, he, hO.lies, hb, hGs w' w'' h hb⟩
  have HFb : Hid (∀ w', G w' → Calls Try.prog 14 #[.agg #[.int .i64 kb, .int .i64 ib, .float .f64 bb, .string tb, .slice pb ys.length cb]] w' fun e w'' => ∃ k1 i1 b1 t1 p1 n1 c1, e = .returned (.agg #[.int .i64 k1, .int .i64 i1, .float .f64 b1, .string t1, .slice p1 n1 c1]) ∧ VLies w'' #[.int .i64 k1, .int .i64 i1, .float .f64 b1, .string t1, .slice p1 n1 c1] (V.fix y) ∧ Below w'.heap.size w' w'' ∧ G w'') := fun w' h =>
    (HK.out.fix y _ w' (HLb.out w' h) (HGI.out w' h).1).mono fun e w'' hF => by
      obtain ⟨k1, i1, b1, t1, p1, n1, c1, he, hO, hb⟩ := hF.open
      exact ⟨k1, i1, b1, t1, p1, n1, c1, he, hO.lies, hb, hGs w' w'' h hb⟩
  have HR := Lib.hid (And.intro hr (And.intro hr2 (And.intro hr3 (And.intro hn hm))))
  have HGs := Lib.hid hGs
  have HG := Lib.hid hG
  clear hr hr2 hr3 hn hm hGs hG HW
  have hc0 := HCaf.out W hG0
  go_region_held3 (fun w' => (w'.cell? ⟨ga, 0, none⟩ = some (.int .i64 ka) ∧ w'.cell? ⟨ga, 1, none⟩ = some (.int .i64 ia) ∧ w'.cell? ⟨ga, 2, none⟩ = some (.float .f64 ba) ∧ w'.cell? ⟨ga, 3, none⟩ = some (.string ta) ∧ w'.cell? ⟨ga, 4, none⟩ = some (.slice pa xs.length ca) ∧ w'.cell? ⟨gf, 0, none⟩ = some (.int .i64 kf) ∧ w'.cell? ⟨gf, 1, none⟩ = some (.int .i64 jf) ∧ w'.cell? ⟨gf, 2, none⟩ = some (.float .f64 bf) ∧ w'.cell? ⟨gf, 3, none⟩ = some (.string tf) ∧ w'.cell? ⟨gf, 4, none⟩ = some (.slice pf nf cf)) ∧ G w') (go_keep) (first
    | (go_at_call_of 17 kf; refine (HSfa.out _ (by first | assumption | exact hGd _ (by assumption))).mono ?_; rintro e w4 ⟨rfl, hG4⟩; have hc4 := HCaf.out _ hG4)
    | (go_at_call_of 9 kf; refine (HCkf.out _ (by first | assumption | exact hGd _ (by assumption))).mono ?_; rintro e w4 ⟨rfl, hG4⟩; have hc4 := HCaf.out _ hG4)
    | (go_at_call_of 9 ka; refine (HCka.out _ (by first | assumption | exact hGd _ (by assumption))).mono ?_; rintro e w4 ⟨rfl, hG4⟩; have hc4 := HCaf.out _ hG4)
    | (go_at_call_of 14 kf; refine (HFf.out _ (by first | assumption | exact hGd _ (by assumption))).mono ?_; rintro e w4 ⟨k9, i9, b9, t9, p9, n9, c9, rfl, hv9, -, hG4⟩; have HV9 := Lib.hid hv9; clear hv9; have hc4 := HCaf.out _ hG4)
    | (go_at_call_of 13 k9; have hce := exact6 (V.fix (V.fix x)) (V.fix x) _ _ _ HV9.out (HLf.out _ hG4); rw [fix_exact] at hce; refine hce.mono ?_; rintro e w5 ⟨rfl, hb5⟩; have hG5 := HGs.out _ _ hG4 hb5; have hc5 := HCaf.out _ hG5; clear hb5 hce))
  all_goals
    have HG5 := Lib.hid hG5
    clear hc5 hG5 hc4 hG4 HV9
    obtain ⟨a0, a1, a2, a3, a4, b0, b1, b2, b3, b4⟩ := HCab.out w5 HG5.out
    go_wp2_with fail
    refine (HSab.out _ HG5.out).mono ?_
    rintro e w6 ⟨rfl, hG6⟩
    have HG6 := Lib.hid hG6
    clear a0 a1 a2 a3 a4 b0 b1 b2 b3 b4 hG6
    obtain ⟨a0, a1, a2, a3, a4, b0, b1, b2, b3, b4⟩ := HCab.out w6 HG6.out
    obtain ⟨d0, d1, d2, d3, d4⟩ := HCc.out w6 HG6.out
    go_wp2_with fail
    refine (HSbc.out _ HG6.out).mono ?_
    rintro e w7 ⟨rfl, hG7⟩
    have HG7 := Lib.hid hG7
    clear a0 a1 a2 a3 a4 b0 b1 b2 b3 b4 d0 d1 d2 d3 d4 hG7
    obtain ⟨a0, a1, a2, a3, a4, b0, b1, b2, b3, b4⟩ := HCab.out w7 HG7.out
    obtain ⟨d0, d1, d2, d3, d4⟩ := HCc.out w7 HG7.out
    go_wp2_with fail
    refine (HSac.out _ HG7.out).mono ?_
    rintro e w8 ⟨rfl, hG8⟩
    have HG8 := Lib.hid hG8
    clear a0 a1 a2 a3 a4 b0 b1 b2 b3 b4 d0 d1 d2 d3 d4
    have hc8 := HCab.out w8 HG8.out
    go_wp2_with fail
    refine (HSba.out _ HG8.out).mono ?_
    rintro e w9 ⟨rfl, hG9⟩
    have HG9 := Lib.hid hG9
    clear hc8 hG8 hG9
    obtain ⟨a0, a1, a2, a3, a4, b0, b1, b2, b3, b4⟩ := HCab.out w9 HG9.out
    have hrr : (r == r) = true := by simp
    go_wp2_with fail
    refine (HSaa.out _ HG9.out).mono ?_
    rintro e wa ⟨rfl, hGa⟩
    clear a0 a1 a2 a3 a4 b0 b1 b2 b3 b4
    have HGA := Lib.hid hGa
    cases r with
    | false =>
      have hca := HCab.out wa hGa
      go_wp2_with fail
      go_quiet (fail)
      all_goals
        have HGN : Hid (G (wa.drewN nq)) := (HG.out _).2 (below_drewN ((HG.out _).1 HGA.out) nq)
        clear hca hGa
        go_wp2_with fail
        refine (valueLive_ok HK.out _ (HGI.out _ HGN.out).1).mono ?_
        rintro e wb ⟨rfl, hbb⟩
        have HFin := Lib.hid (HGI.out _ (HGs.out _ _ HGN.out hbb)).2
        clear hbb
        go_wp2
        go_ret
        exact ⟨rfl, HFin.out⟩
    | true =>
      have h23 : r2 = r3 := by rw [HR.out.2.1, HR.out.2.2.1]; exact same_on HR.out.1.symm z
      have hnm : n = m := by rw [HR.out.2.2.2.1, HR.out.2.2.2.2]; exact same_chk HR.out.1.symm 1
      subst h23 hnm
      have HEx : Hid (V.exact (V.fix x) (V.fix y) = true) := same_exact HR.out.1.symm
      have h33 : (r2 == r2) = true := by simp
      have hnn : ((n : Int) == (n : Int)) = true := by simp
      have hca := HCab.out wa hGa
      go_wp2_with fail
      go_region_held3 (fun w' => (w'.cell? ⟨ga, 0, none⟩ = some (.int .i64 ka) ∧ w'.cell? ⟨ga, 1, none⟩ = some (.int .i64 ia) ∧ w'.cell? ⟨ga, 2, none⟩ = some (.float .f64 ba) ∧ w'.cell? ⟨ga, 3, none⟩ = some (.string ta) ∧ w'.cell? ⟨ga, 4, none⟩ = some (.slice pa xs.length ca) ∧ w'.cell? ⟨gb, 0, none⟩ = some (.int .i64 kb) ∧ w'.cell? ⟨gb, 1, none⟩ = some (.int .i64 ib) ∧ w'.cell? ⟨gb, 2, none⟩ = some (.float .f64 bb) ∧ w'.cell? ⟨gb, 3, none⟩ = some (.string tb) ∧ w'.cell? ⟨gb, 4, none⟩ = some (.slice pb ys.length cb)) ∧ G w') (go_keep) (first
        | (go_at_call_of 9 ka; refine (HCka.out _ (by first | assumption | exact hGd _ (by assumption))).mono ?_; rintro e w4 ⟨rfl, hG4⟩; have hc4 := HCab.out _ hG4)
        | (go_at_call_of 9 kb; refine (HCkb.out _ (by first | assumption | exact hGd _ (by assumption))).mono ?_; rintro e w4 ⟨rfl, hG4⟩; have hc4 := HCab.out _ hG4)
        | (go_at_call_of 14 ka; refine (HFa.out _ (by first | assumption | exact hGd _ (by assumption))).mono ?_; rintro e w4 ⟨k9, i9, b9, t9, p9, n9, c9, rfl, hv9, -, hG4⟩; have HV9 := Lib.hid hv9; clear hv9; have hc4 := HCab.out _ hG4)
        | (go_at_call_of 14 kb; refine (HFb.out _ (by first | assumption | exact hGd _ (by assumption))).mono ?_; rintro e w4 ⟨k8, i8, b8, t8, p8, n8, c8, rfl, hv8, hb8, hG4⟩; have HV8 := Lib.hid hv8; have HV7 := Lib.hid (HV9.out.on hb8); clear hv8 hb8; have hc4 := HCab.out _ hG4)
        | (go_at_call_of 13 k9; have hce := exact6 (V.fix x) (V.fix y) _ _ _ HV7.out HV8.out; rw [HEx.out] at hce; refine hce.mono ?_; rintro e w5 ⟨rfl, hb5⟩; have hG5 := HGs.out _ _ hG4 hb5; have hc5 := HCab.out _ hG5; clear hb5 hce))
      all_goals
        have HGB := Lib.hid hG5
        clear hca hGa hc5 hG5 hc4 hG4
        go_wp2_with fail
        refine (valueLive_ok HK.out _ (HGI.out _ HGB.out).1).mono ?_
        rintro e wb ⟨rfl, hbb⟩
        have HFin := Lib.hid (HGI.out _ (HGs.out _ _ HGB.out hbb)).2
        clear hbb
        go_wp2
        go_ret
        exact ⟨rfl, HFin.out⟩
end Go.Proofs.Ytooklmgkkkbfdaa
