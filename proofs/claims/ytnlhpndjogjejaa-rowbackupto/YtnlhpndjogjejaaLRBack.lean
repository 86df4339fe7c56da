/- RowBack over what the laws ask of package row. -/
import Derived.Test.YtnlhpndjogjejaaLRBegins
import Derived.Test.YtnlhpndjogjejaaLRReads
import Derived.Test.YtnlhpndjogjejaaM12
import Derived.Test.YtnlhpndjogjejaaM13
import Derived.Test.YtnlhpndjogjejaaM10
namespace Go.Proofs.Ytnlhpndjogjejaa
open Go.RowKit

theorem mapfix_idem (vs : List V) : (vs.map V.fix).map V.fix = vs.map V.fix := by
  rw [List.map_map]
  exact List.map_congr_left (fun v _ => fix_idem v)

theorem fixB_lt8 {b : Nat} (h : b < 18446744073709551616) : fixB b < 18446744073709551616 := by
  unfold fixB
  split
  · omega
  · exact h
theorem V.fix_wf8 : ∀ x : V, x.wf → (V.fix x).wf := by
  intro x
  refine V.ind (P := fun x => x.wf → (V.fix x).wf) ?_ x
  intro k i b t xs ih h
  rw [V.fix_mk]
  obtain ⟨h1, h2, h3, h4, h5⟩ := V.wf_mk.1 h
  refine V.wf_mk.2 ⟨h1, h2, fixB_lt8 h3, h4, fun z hz => ?_⟩
  rw [V.fixL_eq] at hz
  obtain ⟨y, hy, rfl⟩ := List.mem_map.1 hz
  exact ih y hy (h5 y hy)

set_option maxRecDepth 100000 in
set_option maxHeartbeats 4000000 in
theorem rowBack_any {I : World → Prop} (K : RowsOk I) (s : List Col) (p : Option Addr) (cp : Nat) (vs : List V) (q : Option Addr) (cq : Nat) (x : List UInt8) (px : Option Addr) (cx : Nat) (y : List UInt8) (py : Option Addr) (cy : Nat) (a : Int) (w : World) (hS : SchL w p cp s) (hR : RLies w q cq vs) (hl : x.length + y.length ≤ 1048576) (hyc : y.length ≤ cy) (hx : At w px x) (hy : At w py y) (ha1 : -9223372036854775808 ≤ a) (ha2 : a ≤ 9223372036854775807) (hI : I w) :
    Calls Try.prog 3 #[.agg #[.slice p s.length cp, .slice q vs.length cq, .slice px x.length cx, .slice py y.length cy, .int .i64 a]] w fun e w' => e = .returned (.bool true) ∧ Below w.heap.size w w' := by
  obtain ⟨W0, hW0⟩ : ∃ W0, W0 = w.alloc (.cells #[.slice p s.length cp, .slice q vs.length cq, .slice px x.length cx, .slice py y.length cy, .int .i64 a] 30) := ⟨_, rfl⟩
  have HB0 : Hid (Below w.heap.size w W0) := by rw [hW0]; exact (Below.refl _ _).alloc (Nat.le_refl _) _
  have hblk : W0.heap[w.heap.size]? = some (.cells #[.slice p s.length cp, .slice q vs.length cq, .slice px x.length cx, .slice py y.length cy, .int .i64 a] 30 (0, 0)) := by rw [hW0]; exact blk_new w _
  have HCl : Hid (∀ w', Below W0.heap.size W0 w' → w'.cell? ⟨w.heap.size, 0, none⟩ = some (.slice p s.length cp) ∧ w'.cell? ⟨w.heap.size, 1, none⟩ = some (.slice q vs.length cq) ∧ w'.cell? ⟨w.heap.size, 2, none⟩ = some (.slice px x.length cx) ∧ w'.cell? ⟨w.heap.size, 3, none⟩ = some (.slice py y.length cy) ∧ w'.cell? ⟨w.heap.size, 4, none⟩ = some (.int .i64 a)) := fun w' hb => by
    have h := (hb.block _ (blk_lt hblk)).trans hblk
    exact ⟨blk_cell h 0, blk_cell h 1, blk_cell h 2, blk_cell h 3, blk_cell h 4⟩
  have HW0 := Lib.hid hW0
  have HE := Lib.hid (fun w' (hb : Below w.heap.size w w') => K.encode s p cp vs q cq w' (hS.on hb) (hR.on hb) (K.on hI hb))
  have HCk := Lib.hid (fun w' (hb : Below w.heap.size w w') => K.check s p cp vs q cq w' (hS.on hb) (hR.on hb) (K.on hI hb))
  have HD := Lib.hid (fun w' (hb : Below w.heap.size w w') l ql dl i h1 h2 h3 h4 h5 => K.decode s p cp l ql dl i w' (hS.on hb) h1 h2 h3 h4 h5 (K.on hI hb))
  have HE2 := Lib.hid (fun w' (hb : Below w.heap.size w w') us qu cu hu => K.encode s p cp us qu cu w' (hS.on hb) hu (K.on hI hb))
  have HLv := Lib.hid (fun w' (hb : Below w.heap.size w w') => rowLive_ok K w' (K.on hI hb))
  have HSm := Lib.hid (fun w' (hb : Below w.heap.size w w') us qu cu (hu : Items w' qu us) (hl : us.length * 64 ≤ 140737488351232) => refSameRow6 us vs w' qu q cu cq hu ((hR.on hb).items.2.2) hl)
  have HPut := Lib.hid (fun h b r => Rw.read_put (s := s) (vs := vs) h hR.2 b r)
  have HLs := Lib.hid (fun h => (Rw.err_open (s := s) (vs := vs) h).2.2.2)
  have HWf : Hid (∀ v ∈ vs.map V.fix, v.wf) := fun v hv => by
    obtain ⟨z, hz, rfl⟩ := List.mem_map.1 hv
    exact V.fix_wf8 z (hR.2 z hz)
  have HX := Lib.hid hx
  have HY := Lib.hid hy
  obtain ⟨es, hes⟩ : ∃ es, es = Rw.err s vs := ⟨_, rfl⟩
  obtain ⟨ls, hls⟩ : ∃ ls, ls = Rw.out s vs := ⟨_, rfl⟩
  have HLS : Hid (ls = if es = 0 then Rw.bytes vs else []) := by show _ = _; rw [hls, Rw.out, hes]
  rw [← hes] at HE HCk HPut HLs
  rw [← hls] at HE
  unfold Told at HE HE2
  have hl1 : ls.length ≤ 1024 := by
    rw [HLS.out]
    split
    · next h => exact HLs.out h
    · simp
  clear hes hls hW0 hS hR hI K hblk hx hy
  obtain ⟨k0, k1, k2, k3, k4⟩ := HCl.out W0 (Below.refl _ _)
  go_enter Try.func3, Try.ntmps3
  go_wp2_with fail
  rw [← HW0.out]
  clear HW0
  refine (HE.out W0 HB0.out).mono ?_
  rintro e w1 ⟨q1, cap1, rfl, hat1, hn1, hb1⟩
  have HB1 := Lib.hid (HB0.out.trans (hb1.mono HB0.out.size))
  have HBa := Lib.hid hb1
  have HAt1 := Lib.hid hat1
  clear hb1 hat1 HE k0 k1 k2 k3 k4
  obtain ⟨k0, k1, k2, k3, k4⟩ := HCl.out w1 HBa.out
  go_wp2_with fail
  refine (HCk.out w1 HB1.out).mono ?_
  rintro e w2 ⟨rfl, hb2⟩
  have HB2 := Lib.hid (HB1.out.trans (hb2.mono HB1.out.size))
  have HBb := Lib.hid (HBa.out.trans (hb2.mono HBa.out.size))
  have HAt2 := Lib.hid (HAt1.out.on hb2)
  clear hb2 HCk k0 k1 k2 k3 k4 HBa HAt1
  have gl : ¬ (1024 : Int) < (ls.length : Int) := by omega
  -- the second half, from any world on
  obtain ⟨k0, k1, k2, k3, k4⟩ := HCl.out w2 HBb.out
  obtain ⟨rr, hrr⟩ : ∃ r, r = Rw.read s y a := ⟨_, rfl⟩
  have HRe : Hid (∀ er, rr = .error er → er ≠ 0) := fun er h => by rw [hrr] at h; exact Rw.read_err h
  have HRo : Hid (∀ us k, rr = .ok (us, k) → 0 ≤ a ∧ a ≤ y.length ∧ k = a.toNat + (Rw.bytes us).length ∧ k ≤ y.length ∧ (y.drop a.toNat).take (Rw.bytes us).length = Rw.bytes us ∧ Rw.err s us = 0 ∧ ∀ v ∈ us, V.fix v = v ∧ v.wf) := fun us k h => by rw [hrr] at h; exact Rw.read_ok h
  replace HD : Hid (∀ (WX : World), Below w.heap.size w WX → ∀ (l : List UInt8) (ql : Option Addr) (dl : Nat) (i : Int), l.length ≤ 140737488351232 → l.length ≤ dl → At WX ql l → -9223372036854775808 ≤ i → i ≤ 9223372036854775807 → Calls Try.prog 8 #[.agg #[.slice p s.length cp], .slice ql l.length dl, .int .i64 i] WX (RowA WX (Rw.read s l i))) := fun WX hb l ql dl i h1 h2 h3 h4 h5 => HD.out WX hb l ql dl i h1 h2 h3 h4 h5
  have HDy : Hid (∀ (WX : World), Below w.heap.size w WX → Calls Try.prog 8 #[.agg #[.slice p s.length cp], .slice py y.length cy, .int .i64 a] WX (RowA WX rr)) := fun WX hb => by rw [hrr]; exact HD.out WX hb y py cy a (by omega) hyc (HY.out.on hb) ha1 ha2
  clear hrr
  rcases Nat.eq_zero_or_pos es with h1 | h1
  case' inl =>
    have ge : ((es : Int) == 0) = true := by rw [h1]; rfl
    have HLb : Hid (ls = Rw.bytes vs) := by show _ = _; rw [HLS.out, if_pos h1]
    have HP1 := Lib.hid (HPut.out h1)
    clear h1
    have k2a : ∀ o, (w2.alloc o).cell? ⟨w.heap.size, 2, none⟩ = some (.slice px x.length cx) := fun o => cell_on ((Below.refl _ _).alloc (Nat.le_refl _) _) k2
    have k3a : ∀ o, (w2.alloc o).cell? ⟨w.heap.size, 3, none⟩ = some (.slice py y.length cy) := fun o => cell_on ((Below.refl _ _).alloc (Nat.le_refl _) _) k3
    have HE0 : Hid (Has (w2.alloc (.cells #[] 5)) w2.heap.size (.slice (some ⟨w2.heap.size, 0, none⟩) 0 0) []) := has_lit [] rfl (Nat.le_refl _) (by simp)
    have HBE : Hid (Below w2.heap.size w2 (w2.alloc (.cells #[] 5))) := (Below.refl _ _).alloc (Nat.le_refl _) _
    have HKeep : Hid (∀ w', Below w2.heap.size w2 w' → w'.cell? ⟨w.heap.size, 2, none⟩ = some (.slice px x.length cx) ∧ w'.cell? ⟨w.heap.size, 3, none⟩ = some (.slice py y.length cy) ∧ At w' px x ∧ At w' py y ∧ At w' q1 ls) := fun w' hb => ⟨cell_on hb k2, cell_on hb k3, (HX.out.on HB2.out).on hb, (HY.out.on HB2.out).on hb, HAt2.out.on hb⟩
    have HDec : Hid (∀ (wC : World) (q5 : Option Addr) (cap5 : Nat) (all : List UInt8), all = x ++ (ls ++ y) → all.length = x.length + ls.length + y.length → Has wC w2.heap.size (.slice q5 all.length cap5) all → Below w.heap.size w wC → Calls Try.prog 8 #[.agg #[.slice p s.length cp], .slice q5 all.length cap5, .int .i64 (x.length : Nat)] wC (RowA wC (.ok (vs.map V.fix, x.length + ls.length)))) := fun wC q5 cap5 all h1 h2 h3 h4 => by
      obtain ⟨q', cap', he, hat, hcap⟩ := h3.at
      injection he with e1 _ e2
      subst e1 e2
      have h := HD.out wC h4 all q5 cap5 (x.length : Nat) (by omega) hcap hat (by omega) (by omega)
      rw [h1, HLb.out, HP1.out x y] at h
      rw [h1, HLb.out]
      exact h
    have HWfx : Hid (∀ v ∈ vs.map V.fix, v.wf) := HWf.out
    go_wp2_with fail
    go_region_held3 (fun w' => w'.cell? ⟨w.heap.size, 2, none⟩ = some (.slice px x.length cx) ∧ w'.cell? ⟨w.heap.size, 3, none⟩ = some (.slice py y.length cy)) (go_keep) (first
      | (refine step_ontoG (B := w2.heap.size) (xs := []) (l := x) (w := (w2.alloc (.cells #[] 5)).drew) HE0.out.drew (HKeep.out _ HBE.out.drew).2.2.1 (by simp; omega) (by have := HBE.out.size; exact this) (.tmp 38) (.tmp 40) (by rfl) (by rfl) (by rfl) (by rfl) (by rfl) ?_
         intro q3 cap3 wA ys1 HY1 hg1
         have hbA : Below w2.heap.size w2 wA := HBE.out.drew.trans (hg1.low HE0.out.drew (by have := HBE.out.size; exact this))
         have hkA := HKeep.out _ hbA
         have a2 := hkA.1
         have a3 := hkA.2.1
         have HbA := Lib.hid hbA
         have HhA := Lib.hid hg1.has
         have HYl1 : Hid (ys1.length = x.length) := by show _ = _; rw [HY1.out]; simp
         clear hbA hkA hg1)
      | (refine step_ontoG (B := w2.heap.size) (xs := ys1) (l := ls) HhA.out (HKeep.out _ HbA.out).2.2.2.2 (by have := HYl1.out; omega) HbA.out.size (.tmp 41) (.tmp 42) (by rfl) (by rfl) (by rfl) (by rfl) (by rfl) ?_
         intro q4 cap4 wB ys2 HY2 hg2
         have hbB : Below w2.heap.size w2 wB := HbA.out.trans (hg2.low HhA.out HbA.out.size)
         have hkB := HKeep.out _ hbB
         have b2 := hkB.1
         have b3 := hkB.2.1
         have HbB := Lib.hid hbB
         have HhB := Lib.hid hg2.has
         have HYl2 : Hid (ys2.length = x.length + ls.length) := by show _ = _; have := HYl1.out; rw [HY2.out, List.length_append]; omega
         clear hbB hkB hg2)
      | (refine step_ontoG (B := w2.heap.size) (xs := ys2) (l := y) HhB.out (HKeep.out _ HbB.out).2.2.2.1 (by have := HYl2.out; omega) HbB.out.size (.tmp 43) (.tmp 45) (by rfl) (by rfl) (by rfl) (by rfl) (by rfl) ?_
         intro q5 cap5 wC all HY3 hg3
         have hbC : Below w2.heap.size w2 wC := HbB.out.trans (hg3.low HhB.out HbB.out.size)
         have hkC := HKeep.out _ hbC
         have cc2 := hkC.1
         have cc3 := hkC.2.1
         have HbC := Lib.hid hbC
         have HhC := Lib.hid hg3.has
         have HYl3 : Hid (all.length = x.length + ls.length + y.length) := by show _ = _; have := HYl2.out; rw [HY3.out, List.length_append]; omega
         clear hbC hkC hg3))
    have HBC := Lib.hid (HB2.out.trans (HbC.out.mono HB2.out.size))
    have HBCb := Lib.hid (HBb.out.trans (HbC.out.mono HBb.out.size))
    obtain ⟨c0, c1, c2, c3, c4⟩ := HCl.out wC HBCb.out
    have HDc := Lib.hid (HDec.out wC q5 cap5 all (by rw [HY3.out, HY2.out, HY1.out]; simp) HYl3.out HhC.out HBC.out)
    clear HY1 HY2 HY3 HhA HhB HhC HbA HbB HbC a2 a3 b2 b3 cc2 cc3 HYl1 HYl2
    go_wp2_with fail
    refine HDc.out.mono ?_
    rintro e w3 ⟨qr, cr, rfl, hown, hb3⟩
    have HB3 := Lib.hid (HBC.out.trans (hb3.mono HBC.out.size))
    have HB3b := Lib.hid (HBCb.out.trans (hb3.mono HBCb.out.size))
    obtain ⟨W4, hW4⟩ : ∃ W4, W4 = w3.alloc (.cells #[.slice qr (vs.map V.fix).length cr] 27) := ⟨_, rfl⟩
    have hb34 : Below w3.heap.size w3 W4 := by rw [hW4]; exact (Below.refl _ _).alloc (Nat.le_refl _) _
    have HB4 := Lib.hid (HB3.out.trans (hb34.mono HB3.out.size))
    have HB4b := Lib.hid (HB3b.out.trans (hb34.mono HB3b.out.size))
    have u4 : W4.cell? ⟨w3.heap.size, 0, none⟩ = some (.slice qr (vs.map V.fix).length cr) := by rw [hW4]; simp
    have hit := RLies.items (w := W4) (q := qr) (c := cr) (vs := vs.map V.fix) ⟨hown.lies.on hb34, HWfx.out⟩
    have HSmC := Lib.hid (HSm.out W4 HB4.out (vs.map V.fix) qr cr hit.2.2 hit.1)
    rw [(sameL_iff _ _).2 (mapfix_idem vs)] at HSmC
    have ua : ∀ o, (w3.alloc o).cell? ⟨w.heap.size, 1, none⟩ = some (.slice q vs.length cq) ∧ (w3.alloc o).cell? ⟨w.heap.size, 2, none⟩ = some (.slice px x.length cx) := fun o => by
      obtain ⟨z0, z1, z2, z3, z4⟩ := HCl.out w3 HB3b.out
      exact ⟨cell_on ((Below.refl _ _).alloc (Nat.le_refl _) _) z1, cell_on ((Below.refl _ _).alloc (Nat.le_refl _) _) z2⟩
    have ua1 := fun o => (ua o).1
    have ua2 := fun o => (ua o).2
    have hwr : IntKind.i64.wrap ((x.length : Int) + (ls.length : Int)) = (x.length : Int) + (ls.length : Int) := by rw [IntKind.wrap_i64]; omega
    have gn : (((x.length + ls.length : Nat) : Int) != (x.length : Int) + (ls.length : Int)) = false := bne_f (by omega)
    have gn2 : ((x.length : Int) + (ls.length : Int) != (x.length : Int) + (ls.length : Int)) = false := bne_f rfl
    obtain ⟨fx, hfx⟩ : ∃ fx, fx = (vs.map V.fix).length := ⟨_, rfl⟩
    rw [← hfx] at HSmC hW4 u4
    rw [← hfx]
    have HW4 := Lib.hid hW4
    have HU4 := Lib.hid u4
    clear hown hb3 hb34 hit hW4 hfx HDc c0 c1 c2 c3 c4 ua HYl3
    go_wp2_with fail
    rw [← HW4.out]
    clear HW4 ua1 ua2
    refine HSmC.out.mono ?_
    rintro e w5 ⟨rfl, hb5⟩
    have HB5 := Lib.hid (HB4.out.trans (hb5.mono HB4.out.size))
    have HB5b := Lib.hid (HB4b.out.trans (hb5.mono HB4b.out.size))
    clear hb5 HSmC u4 HU4
    obtain ⟨k0', k1', k2', k3', k4'⟩ := HCl.out w5 HB5b.out
    clear k0 k1 k2 k3 k4 k2a k3a
    go_wp2_with fail
    have HBs := HB5
    have HBsb := HB5b
    refine (HDy.out w5 HB5.out).mono ?_
  case' inr =>
    have ge : ((es : Int) == 0) = false := beq_f (by omega)
    clear h1
    go_wp2_with fail
    have HBs := HB2
    have HBsb := HBb
    refine (HDy.out w2 HB2.out).mono ?_
  all_goals
    intro e w7 hh
    cases rr with
    | error er =>
      obtain ⟨he, hb7⟩ := hh
      subst he
      have HB7 := Lib.hid (HBs.out.trans (hb7.mono HBs.out.size))
      have hz : er ≠ 0 := HRe.out er rfl
      have g7 : ((er : Int) != 0) = true := bne_t (by omega)
      obtain ⟨W7, hW7⟩ : ∃ W7, W7 = w7.alloc (.cells #[.slice none 0 0] 27) := ⟨_, rfl⟩
      have HB8 : Hid (Below w.heap.size w W7) := by rw [hW7]; exact HB7.out.alloc HB7.out.size _
      have u7 : W7.cell? ⟨w7.heap.size, 0, none⟩ = some (.slice none 0 0) := by rw [hW7]; simp
      have HU7 := Lib.hid u7
      have HW7 := Lib.hid hW7
      clear hb7 hz hW7 u7
      go_wp2_with fail
      rw [← HW7.out]
      clear HW7
      refine (HLv.out W7 HB8.out).mono ?_
      rintro e w8 ⟨rfl, hb8⟩
      have v7 := cell_on hb8 HU7.out
      have HB9 := Lib.hid (HB8.out.trans (hb8.mono HB8.out.size))
      clear hb8
      go_wp2
      go_ret
      exact ⟨rfl, HB9.out⟩
    | ok uk =>
      obtain ⟨us, k⟩ := uk
      obtain ⟨qu, cu, he, hown, hb7⟩ := hh
      subst he
      obtain ⟨r1, r2, r3, r4, r5, r6, r7⟩ := HRo.out us k rfl
      have HB7 := Lib.hid (HBs.out.trans (hb7.mono HBs.out.size))
      have HB7b := Lib.hid (HBsb.out.trans (hb7.mono HBsb.out.size))
      obtain ⟨W7, hW7⟩ : ∃ W7, W7 = w7.alloc (.cells #[.slice qu us.length cu] 27) := ⟨_, rfl⟩
      have hb78 : Below w7.heap.size w7 W7 := by rw [hW7]; exact (Below.refl _ _).alloc (Nat.le_refl _) _
      have HB8 := Lib.hid (HB7.out.trans (hb78.mono HB7.out.size))
      have HB8b := Lib.hid (HB7b.out.trans (hb78.mono HB7b.out.size))
      have u7 : W7.cell? ⟨w7.heap.size, 0, none⟩ = some (.slice qu us.length cu) := by rw [hW7]; simp
      have hRl : RLies W7 qu cu us := ⟨hown.lies.on hb78, fun v hv => (r7 v hv).2⟩
      have HEu := Lib.hid (HE2.out W7 HB8.out us qu cu hRl)
      rw [r6, Rw.out, if_pos r6] at HEu
      obtain ⟨bu, hbu⟩ : ∃ bu, bu = Rw.bytes us := ⟨_, rfl⟩
      rw [← hbu] at HEu r3 r5
      have HR5 := Lib.hid r5
      have hk : (k : Int) = a + (bu.length : Int) := by omega
      have i1 : ¬ a < 0 := by omega
      have i2 : ¬ (k : Int) < a := by omega
      have i3 : ¬ (y.length : Int) < (k : Int) := by omega
      have HKa := Lib.hid hk
      have s1 : ∀ w, (Instr.slice 28 (.slice py y.length cy) (some (.int .i64 a)) (some (.int .i64 (k : Int))) none).run Try.prog w = .ok (.slice (cutP py a.toNat cy) bu.length (cy - a.toNat)) w := fun w => by
        have h := run_cut_lh py y.length cy a.toNat k (by omega) (by omega) w
        have e1 : ((a.toNat : Nat) : Int) = a := by omega
        have e2 : k - a.toNat = bu.length := by omega
        rw [e1, e2] at h
        exact h
      clear hk
      have HW7 := Lib.hid hW7
      have HU7 := Lib.hid u7
      obtain ⟨c0, c1, c2, c3, c4⟩ := HCl.out W7 HB8b.out
      have d0 := HCl.out w7 HB7b.out
      obtain ⟨d0, d1, d2, d3, d4⟩ := d0
      have da : ∀ o, (w7.alloc o).cell? ⟨w.heap.size, 0, none⟩ = some (.slice p s.length cp) ∧ (w7.alloc o).cell? ⟨w.heap.size, 3, none⟩ = some (.slice py y.length cy) ∧ (w7.alloc o).cell? ⟨w.heap.size, 4, none⟩ = some (.int .i64 a) := fun o => ⟨cell_on ((Below.refl _ _).alloc (Nat.le_refl _) _) d0, cell_on ((Below.refl _ _).alloc (Nat.le_refl _) _) d3, cell_on ((Below.refl _ _).alloc (Nat.le_refl _) _) d4⟩
      have da0 := fun o => (da o).1
      have da3 := fun o => (da o).2.1
      have da4 := fun o => (da o).2.2
      clear hb7 hb78 hown hRl hW7 u7 r1 r2 r3 r4 r5 r6 r7 hbu da d0 d1 d2 d3 d4 c0 c1 c2 c3 c4
      go_wp2_with fail
      rw [← HW7.out]
      clear HW7 da0 da3 da4
      refine HEu.out.mono ?_
      rintro e w8 ⟨qb, cb, rfl, hatb, hcb, hb8⟩
      have HB9 := Lib.hid (HB8.out.trans (hb8.mono HB8.out.size))
      have HB9b := Lib.hid (HB8b.out.trans (hb8.mono HB8b.out.size))
      have HAb := Lib.hid hatb
      clear hatb hb8 HEu
      go_wp2_with fail
      refine (HLv.out w8 HB9.out).mono ?_
      rintro e w9 ⟨rfl, hb9⟩
      have HB10 := Lib.hid (HB9.out.trans (hb9.mono HB9.out.size))
      have HB10b := Lib.hid (HB9b.out.trans (hb9.mono HB9b.out.size))
      have hcut : At w9 (cutP py a.toNat cy) bu := by
        have h := (HY.out.on HB10.out).cut a.toNat cy hyc
        rcases h with h | ⟨b, o, h3, hb, hcs⟩
        · have e0 := HR5.out
          rw [h, List.take_nil] at e0
          exact .inl e0.symm
        · refine .inr ⟨b, o, h3, hb, ?_⟩
          rw [← HR5.out]
          exact cells_take hcs _
      have HSame := Lib.hid (same_any qb (cutP py a.toNat cy) cb (cy - a.toNat) bu bu (by have := hl; have h9 := congrArg List.length HR5.out; rw [List.length_take, List.length_drop] at h9; omega) w9 (HAb.out.on hb9) hcut)
      rw [beq_self_eq_true] at HSame
      obtain ⟨e0, e1, e2, e3, e4⟩ := HCl.out w9 HB10b.out
      clear hb9 hcut HAb i1 i2 i3
      go_wp2_with fail
      refine HSame.out.mono ?_
      rintro e w10 ⟨rfl, n10, rfl⟩
      have HB11 : Hid (Below w.heap.size w (w9.drewN n10)) := below_drewN HB10.out n10
      go_wp2
      go_ret
      exact ⟨rfl, HB11.out⟩
end Go.Proofs.Ytnlhpndjogjejaa
