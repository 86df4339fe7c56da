/- ResolveTyped over the landed resolve. -/
import Derived.Test.YthnlccjjmbnfjabM39
import Derived.Test.YthnlccjjmbnfjabM14
namespace Go.Proofs.Ythnlccjjmbnfjab
open Go.RowKit

/-- a row that was told: where its values lie -/
theorem row_items {w : World} {F : Nat → Prop} {q : Option Addr} {c : Nat} {ys : List V} (h : VOwn w F (cells5 0 0 0 ⟨#[]⟩ q ys.length c) (.mk 0 0 0 ⟨#[]⟩ ys)) : ys.length * 64 ≤ 140737488351232 ∧ Items w q ys := by
  obtain ⟨p, c', he, h1, h2, h3⟩ := h.lies.open
  unfold cells5 at he
  simp only [Array.mk.injEq, List.cons.injEq, Value.slice.injEq, and_true, true_and] at he
  obtain ⟨rfl, rfl⟩ := he
  exact ⟨h1, h3⟩
theorem Items.on9 {w w' : World} {q : Option Addr} {ys : List V} (h : Items w q ys) (hb : Below w.heap.size w w') : Items w' q ys := fun j hj => by
  obtain ⟨u, h1, h2⟩ := h j hj
  exact ⟨u, h1.on hb, h2.on hb⟩

set_option maxRecDepth 100000 in
set_option maxHeartbeats 4000000 in
theorem resolveTyped9 (s t : List Col) (vs : List V) (p q v : Option Addr) (cp cq cv : Nat) (w : World) (hs : s.length * 120 ≤ 140737488351232) (ht : t.length * 120 ≤ 140737488351232) (hx : Cols w p s) (hy : Cols w q t) (hv : Items w v vs) (hws : ∀ x ∈ s, x.wf) (hwt : ∀ x ∈ t, x.wf) (hwv : ∀ x ∈ vs, x.wf) :
    Calls Try.prog 5 #[.agg #[.slice p s.length cp], .agg #[.slice q t.length cq], .agg #[.slice v vs.length cv]] w fun e w' => e = .returned (.bool true) ∧ Below w.heap.size w w' := by
  obtain ⟨W0, hW0⟩ : ∃ W0, W0 = ((w.alloc (.cells #[.slice p s.length cp] 24)).alloc (.cells #[.slice q t.length cq] 24)).alloc (.cells #[.slice v vs.length cv] 34) := ⟨_, rfl⟩
  obtain ⟨l0, l1, l2, lb, ls⟩ := al3 w (.cells #[.slice p s.length cp] 24) (.cells #[.slice q t.length cq] 24) (.cells #[.slice v vs.length cv] 34)
  rw [← hW0] at l0 l1 l2 lb ls
  have HW0 := Lib.hid hW0
  have HB0 := Lib.hid lb
  have HCl : Hid (∀ w', Below W0.heap.size W0 w' → w'.cell? ⟨w.heap.size, 0, none⟩ = some (.slice p s.length cp) ∧ w'.cell? ⟨w.heap.size + 1, 0, none⟩ = some (.slice q t.length cq)) := fun w' h => ⟨blk_at l0 h 0, blk_at l1 h 0⟩
  have HR := Lib.hid (rowK9 s t vs p q v cp cq cv W0 hs ht (hx.on lb) (hy.on lb) (hv.on9 lb) hws hwt hwv)
  have HC := Lib.hid (fun w' (h : Below w.heap.size w w') => checkK9 s t p q cp cq w' hs ht (hx.on h) (hy.on h) hws hwt)
  have HTy := Lib.hid (fun ys h => Rz.row_typed (s := s) (t := t) (vs := vs) (ys := ys) h hwv hwt)
  have HNe := Lib.hid (fun e h => Rz.row_ne (s := s) (t := t) (vs := vs) (e := e) h hwv hwt)
  obtain ⟨r, hr⟩ : ∃ r, r = Rz.row s t vs := ⟨_, rfl⟩
  rw [← hr] at HR HTy HNe
  have HY := Lib.hid hy
  clear hr hW0 l0 l1 l2 lb ls hx hy hv hws hwt hwv
  go_enter Try.func5, Try.ntmps5
  go_wp2_with fail
  rw [← HW0.out]
  clear HW0
  refine HR.out.mono ?_
  intro e w1 hh
  cases r with
  | error er =>
    obtain ⟨rfl, hb1⟩ := hh
    have hz : er ≠ 0 := HNe.out er rfl
    have gz : ((er : Int) != 0) = true := bne_t (by omega)
    obtain ⟨W1, hW1⟩ : ∃ W, W = w1.alloc (.cells #[.slice none 0 0] 34) := ⟨_, rfl⟩
    have hb1' : Below w.heap.size w w1 := HB0.out.trans (hb1.mono HB0.out.size)
    have HB1 : Hid (Below w.heap.size w W1) := by rw [hW1]; exact hb1'.alloc hb1'.size _
    have HK1 : Hid (W1.heap[w1.heap.size]? = some (.cells #[.slice none 0 0] 34 (0, 0))) := by rw [hW1]; exact blk_new w1 _
    have HW1 := Lib.hid hW1
    clear hW1 hb1 hb1' hz HR
    go_wp2_with fail
    rw [← HW1.out]
    clear HW1
    refine (live9 W1).mono ?_
    rintro e w2 ⟨rfl, hb2⟩
    have m1 : w2.cell? ⟨w1.heap.size, 0, none⟩ = some (.slice none 0 0) := blk_cell (blk_go HK1.out hb2) 0
    have HB2 := Lib.hid (HB1.out.trans (hb2.mono HB1.out.size))
    clear hb2
    go_wp2
    go_ret
    exact ⟨rfl, HB2.out⟩
  | ok ys =>
    obtain ⟨q1, c1, rfl, hv1, hb1⟩ := hh
    obtain ⟨t1, t2, t3, t4, t5⟩ := HTy.out ys rfl
    obtain ⟨i1, i2⟩ := row_items hv1
    obtain ⟨W1, hW1⟩ : ∃ W, W = w1.alloc (.cells #[.slice q1 ys.length c1] 34) := ⟨_, rfl⟩
    have h11 : Below w1.heap.size w1 W1 := by rw [hW1]; exact (Below.refl _ _).alloc (Nat.le_refl _) _
    have hb1' : Below W0.heap.size W0 W1 := hb1.trans (h11.mono hb1.size)
    have HB1W := Lib.hid hb1'
    have HB1 : Hid (Below w.heap.size w W1) := HB0.out.trans (hb1'.mono HB0.out.size)
    have HK1 : Hid (W1.heap[w1.heap.size]? = some (.cells #[.slice q1 ys.length c1] 34 (0, 0))) := by rw [hW1]; exact blk_new w1 _
    have HI1 := Lib.hid (i2.on9 h11)
    have HW1 := Lib.hid hW1
    have HT5 := Lib.hid t5
    have hlen : (ys.length : Int) = (t.length : Int) := by omega
    have gl : ((ys.length : Int) != (t.length : Int)) = false := bne_f hlen
    have HC1 := Lib.hid (HC.out W1 HB1.out)
    rw [t1] at HC1
    have HTl := Lib.hid t3
    obtain ⟨k0, k1⟩ := HCl.out W1 hb1'
    have m1 : W1.cell? ⟨w1.heap.size, 0, none⟩ = some (.slice q1 ys.length c1) := blk_cell HK1.out 0
    rw [hW1] at k0 k1 m1
    clear hW1 hb1 hb1' h11 t1 t2 t3 t4 t5 i2 hv1 HR hlen
    go_wp2_with fail
    rw [← HW1.out]
    clear HW1 k0 k1 m1
    refine HC1.out.mono ?_
    rintro e w2 ⟨rfl, hb2⟩
    have HB2W := Lib.hid (HB1W.out.trans (hb2.mono HB1W.out.size))
    have HB2 := Lib.hid (HB1.out.trans (hb2.mono HB1.out.size))
    have HK2 := Lib.hid (blk_go HK1.out hb2)
    have HI2 := Lib.hid (HI1.out.on9 hb2)
    clear hb2 HC1 HC HK1 HI1
    go_wp2_with fail
    go_loopw [9] (fun v9 wr => ∃ j : Nat, j ≤ ys.length ∧ v9 = .int .i64 j ∧ Hid (Below w2.heap.size w2 wr)) (fun v9 _ => ys.length - (intOf v9).toNat)
    case atStart => exact ⟨0, by omega, rfl, Below.refl _ _⟩
    case round =>
      obtain ⟨j, hj, rfl, HL⟩ := hrel
      have m1 : wr.cell? ⟨w1.heap.size, 0, none⟩ = some (.slice q1 ys.length c1) := blk_cell (blk_go HK2.out HL.out) 0
      have HBr := Lib.hid (HB2.out.trans (HL.out.mono HB2.out.size))
      by_cases hlt : j < ys.length
      · have hlt2 : j < t.length := by have := HTl.out; omega
        obtain ⟨bx, ox, k, tp, tn, tc, vk, vi, vb, vt, vp, vn, vc, rfl, _, h9, hT, -⟩ := (HY.out.on HBr.out).at j hlt2
        obtain ⟨-, a1, a2, -⟩ := h9
        obtain ⟨uv, hv1, hv2⟩ := HI2.out j hlt
        obtain ⟨by', oy, ky, iy, fy, ty, qy, ny, cy, rfl, _, rfl, b0, b1, b2, b3, b4⟩ := (hv2.on HL.out).lies
        have hj1 : (j : Int) < (ys.length : Int) := by omega
        have hj2 : (j : Int) < (t.length : Int) := by omega
        have k1 := (HCl.out wr (HB2W.out.trans (HL.out.mono HB2W.out.size))).2
        have HI : Hid (∀ w', Below wr.heap.size wr w' → Calls Try.prog 17 #[.agg #[.int .i64 ky, .int .i64 iy, .float .f64 fy, .string ty, .slice qy ny cy], .agg #[.int .i64 k, .slice tp tn tc]] w' fun e w'' => e = .returned (.bool true) ∧ Below w'.heap.size w' w'') := fun w' hb => by
          have h := refIs7 ys[j] t[j].ty w' _ _ ((hv1.on HL.out).on hb) (hT.on hb)
          rw [HT5.out j hlt hlt2] at h
          exact h
        clear hT hv1 hv2
        go_wp2_with fail
        go_region_held3 (fun w' => w'.cell? ⟨w1.heap.size, 0, none⟩ = some (.slice (some ⟨by', oy, none⟩) ys.length c1) ∧ w'.cell? ⟨w.heap.size + 1, 0, none⟩ = some (.slice (some ⟨bx, ox, none⟩) t.length cq) ∧ w'.cell? ⟨bx, ox + j * 9 + 1, none⟩ = some (.int .i64 k) ∧ w'.cell? ⟨bx, ox + j * 9 + 2, none⟩ = some (.slice tp tn tc) ∧ w'.cell? ⟨by', oy + j * 5, none⟩ = some (.int .i64 ky) ∧ w'.cell? ⟨by', oy + j * 5 + 1, none⟩ = some (.int .i64 iy) ∧ w'.cell? ⟨by', oy + j * 5 + 2, none⟩ = some (.float .f64 fy) ∧ w'.cell? ⟨by', oy + j * 5 + 3, none⟩ = some (.string ty) ∧ w'.cell? ⟨by', oy + j * 5 + 4, none⟩ = some (.slice qy ny cy)) (go_keep) (first
          | (go_at_call 17; refine (HI.out _ (below_drewN (Below.refl _ _) _)).mono ?_; rintro e w4 ⟨rfl, hb4⟩; have hb5 := below_via (w := wr) hb4 (by rfl) (by rfl) (by rfl) (by rfl); have z0 := cell_on hb5 m1; have z1 := cell_on hb5 k1; have z2 := cell_on hb5 a1; have z3 := cell_on hb5 a2; have z4 := cell_on hb5 b0; have z5 := cell_on hb5 b1; have z6 := cell_on hb5 b2; have z7 := cell_on hb5 b3; have z8 := cell_on hb5 b4; have HB4 := Lib.hid (HL.out.trans (hb5.mono HL.out.size)); clear hb4 hb5))
        clear z0 z1 z2 z3 z4 z5 z6 z7 z8 m1 k1 a1 a2 b0 b1 b2 b3 b4 HI
        go_wp2
        go_roundw
        case rel => exact ⟨j + 1, by omega, by go_num, HB4⟩
        case measure => simp [intOf]; omega
      · have hjn : ¬ (j : Int) < (ys.length : Int) := by omega
        clear hlt
        go_wp2_with fail
        refine (live9 wr).mono ?_
        rintro e w5 ⟨rfl, hb5⟩
        have HB5 := Lib.hid (HBr.out.trans (hb5.mono HBr.out.size))
        clear hb5
        go_wp2
        go_ret
        exact ⟨rfl, HB5.out⟩
end Go.Proofs.Ythnlccjjmbnfjab
