/- ResolveValues over the landed resolve. -/
import Derived.Test.YtbedlaaedefclaaM40
import Derived.Test.YtbedlaaedefclaaM44
import Derived.Test.YtbedlaaedefclaaM41
namespace Go.Proofs.Ytbedlaaedefclaa
open Go.RowKit

attribute [local go_sem] run_store_float

/-- the error that is answered, and the value -/
def erR (r : Except Nat V) : Nat := match r with
  | .error e => e
  | .ok _ => 0
def vaR (r : Except Nat V) : V := match r with
  | .error _ => V0
  | .ok y => y
theorem ValR.lies9 {w w' : World} {r : Except Nat V} {e : Ending} (h : ValR w r e w') : ∃ k i b t p n c, e = .returned (.tuple #[.agg (cells5 k i b t p n c), .int .i64 (erR r : Nat)]) ∧ Below w.heap.size w w' ∧ VLies w' (cells5 k i b t p n c) (vaR r) := by
  cases r with
  | error er => exact ⟨_, _, _, _, _, _, _, h.1, h.2, vl_leaf9 w' 0 0 0 ⟨#[]⟩ none 0⟩
  | ok y =>
    obtain ⟨u, he, hv, hb⟩ := h
    obtain ⟨k, i, b, t, p, n, c, rfl⟩ := hv.shape
    exact ⟨_, _, _, _, _, _, _, he, hb, hv.lies⟩

set_option maxRecDepth 100000 in
set_option maxHeartbeats 4000000 in
theorem resolveValues9 (a b : Ty) (x : V) (ua ub uv : Array Value) (w : World) (ha : TLies w ua a) (hb : TLies w ub b) (hx : VLies w uv x) (hw : x.wf) :
    Calls Try.prog 3 #[.agg ua, .agg ub, .agg uv] w fun e w' => e = .returned (.bool true) ∧ Below w.heap.size w w' := by
  have HV := Lib.hid (fun w' (h : Below w.heap.size w w') => valueK9 a b x w' ua ub uv (ha.on h) (hb.on h) (hx.on h) hw)
  have HD := Lib.hid (fun w' (h : Below w.heap.size w w') => refValue9 a b x w' ua ub uv (ha.on h) (hb.on h) (hx.on h) hw)
  obtain ⟨r, hr⟩ : ∃ r, r = Rz.value a b x := ⟨_, rfl⟩
  rw [← hr] at HV HD
  obtain ⟨ka, xa⟩ := a
  obtain ⟨kb, xb⟩ := b
  obtain ⟨k, i, f, t, xs⟩ := x
  obtain ⟨pa, ca, rfl, -⟩ := ha.open
  obtain ⟨pb, cb, rfl, -⟩ := hb.open
  obtain ⟨pv, cv, rfl, -⟩ := hx.open
  unfold cells2 at HV HD ⊢
  unfold cells5 at HV HD ⊢
  generalize xs.length = nv at *
  generalize xa.length = na at *
  generalize xb.length = nb at *
  obtain ⟨W0, hW0⟩ : ∃ W0, W0 = ((w.alloc (.cells #[.int .i64 ka, .slice pa na ca] 24)).alloc (.cells #[.int .i64 kb, .slice pb nb cb] 24)).alloc (.cells #[.int .i64 k, .int .i64 i, .float .f64 f, .string t, .slice pv nv cv] 28) := ⟨_, rfl⟩
  obtain ⟨l0, l1, l2, lb, ls⟩ := al3 w (.cells #[.int .i64 ka, .slice pa na ca] 24) (.cells #[.int .i64 kb, .slice pb nb cb] 24) (.cells #[.int .i64 k, .int .i64 i, .float .f64 f, .string t, .slice pv nv cv] 28)
  rw [← hW0] at l0 l1 l2 lb ls
  have HW0 := Lib.hid hW0
  have HB0 := Lib.hid lb
  have HCl : Hid (∀ w', Below W0.heap.size W0 w' → (w'.cell? ⟨w.heap.size, 0, none⟩ = some (.int .i64 ka) ∧ w'.cell? ⟨w.heap.size, 1, none⟩ = some (.slice pa na ca)) ∧ (w'.cell? ⟨w.heap.size + 1, 0, none⟩ = some (.int .i64 kb) ∧ w'.cell? ⟨w.heap.size + 1, 1, none⟩ = some (.slice pb nb cb)) ∧ (w'.cell? ⟨w.heap.size + 1 + 1, 0, none⟩ = some (.int .i64 k) ∧ w'.cell? ⟨w.heap.size + 1 + 1, 1, none⟩ = some (.int .i64 i) ∧ w'.cell? ⟨w.heap.size + 1 + 1, 2, none⟩ = some (.float .f64 f) ∧ w'.cell? ⟨w.heap.size + 1 + 1, 3, none⟩ = some (.string t) ∧ w'.cell? ⟨w.heap.size + 1 + 1, 4, none⟩ = some (.slice pv nv cv))) := fun w' h => ⟨⟨blk_at l0 h 0, blk_at l0 h 1⟩, ⟨blk_at l1 h 0, blk_at l1 h 1⟩, ⟨blk_at l2 h 0, blk_at l2 h 1, blk_at l2 h 2, blk_at l2 h 3, blk_at l2 h 4⟩⟩
  have HV0 := Lib.hid (HV.out W0 lb)
  have gR : ((erR r : Int) == (erR r : Int)) = true := beq_t rfl
  have HEx : Hid (V.exact (vaR r) (vaR r) = true) := (V.exact_iff _ _).2 rfl
  clear hr hW0 l0 l1 l2 lb ls ha hb hx hw HV
  go_enter Try.func3, Try.ntmps3
  go_wp2_with fail
  rw [← HW0.out]
  clear HW0
  refine HV0.out.mono ?_
  intro e w1 hh
  obtain ⟨k1, i1, b1, t1, p1, n1, c1, he, hb1, hv1⟩ := hh.lies9
  unfold cells5 at he
  subst he
  obtain ⟨W1, hW1⟩ : ∃ W, W = w1.alloc (.cells #[.int .i64 k1, .int .i64 i1, .float .f64 b1, .string t1, .slice p1 n1 c1] 28) := ⟨_, rfl⟩
  have h11 : Below w1.heap.size w1 W1 := by rw [hW1]; exact (Below.refl _ _).alloc (Nat.le_refl _) _
  have hb1' : Below W0.heap.size W0 W1 := hb1.trans (h11.mono hb1.size)
  have HB1 := Lib.hid (HB0.out.trans (hb1'.mono HB0.out.size))
  have HK1 : Hid (W1.heap[w1.heap.size]? = some (.cells #[.int .i64 k1, .int .i64 i1, .float .f64 b1, .string t1, .slice p1 n1 c1] 28 (0, 0))) := by rw [hW1]; exact blk_new w1 _
  have HL1 := Lib.hid (hv1.on h11)
  obtain ⟨⟨c0, c1'⟩, ⟨c2, c3⟩, ⟨c4, c5, c6, c7, c8⟩⟩ := HCl.out W1 hb1'
  have HD1 := Lib.hid (HD.out W1 HB1.out)
  have HW1 := Lib.hid hW1
  rw [hW1] at c0 c1' c2 c3 c4 c5 c6 c7 c8
  clear hW1 h11 hb1 hb1' hv1 hh HV0 HD
  go_wp2_with fail
  rw [← HW1.out]
  clear HW1 c0 c1' c2 c3 c4 c5 c6 c7 c8
  refine HD1.out.mono ?_
  intro e w2 hh
  obtain ⟨k2, i2, b2, t2, p2, n2, c2, he, hb2, hv2⟩ := hh.lies9
  unfold cells5 at he
  subst he
  obtain ⟨W2, hW2⟩ : ∃ W, W = w2.alloc (.cells #[.int .i64 k2, .int .i64 i2, .float .f64 b2, .string t2, .slice p2 n2 c2] 28) := ⟨_, rfl⟩
  have h22 : Below w2.heap.size w2 W2 := by rw [hW2]; exact (Below.refl _ _).alloc (Nat.le_refl _) _
  have hb2' : Below W1.heap.size W1 W2 := hb2.trans (h22.mono hb2.size)
  have HB2 := Lib.hid (HB1.out.trans (hb2'.mono HB1.out.size))
  have HK2 : Hid (W2.heap[w1.heap.size]? = some (.cells #[.int .i64 k1, .int .i64 i1, .float .f64 b1, .string t1, .slice p1 n1 c1] 28 (0, 0)) ∧ W2.heap[w2.heap.size]? = some (.cells #[.int .i64 k2, .int .i64 i2, .float .f64 b2, .string t2, .slice p2 n2 c2] 28 (0, 0))) := ⟨blk_go HK1.out hb2', by rw [hW2]; exact blk_new w2 _⟩
  have HL2 := Lib.hid (And.intro (HL1.out.on hb2') (hv2.on h22))
  have HW2 := Lib.hid hW2
  clear hW2 h22 hb2 hb2' hv2 hh HD1 HL1 HK1
  go_wp2_with fail
  rw [← HW2.out]
  clear HW2
  refine (live9 W2).mono ?_
  rintro e w3 ⟨rfl, hb3⟩
  have HB3 := Lib.hid (HB2.out.trans (hb3.mono HB2.out.size))
  have m0 : w3.cell? ⟨w1.heap.size, 0, none⟩ = some (.int .i64 k1) := blk_cell (blk_go HK2.out.1 hb3) 0
  have m1 : w3.cell? ⟨w1.heap.size, 1, none⟩ = some (.int .i64 i1) := blk_cell (blk_go HK2.out.1 hb3) 1
  have m2 : w3.cell? ⟨w1.heap.size, 2, none⟩ = some (.float .f64 b1) := blk_cell (blk_go HK2.out.1 hb3) 2
  have m3 : w3.cell? ⟨w1.heap.size, 3, none⟩ = some (.string t1) := blk_cell (blk_go HK2.out.1 hb3) 3
  have m4 : w3.cell? ⟨w1.heap.size, 4, none⟩ = some (.slice p1 n1 c1) := blk_cell (blk_go HK2.out.1 hb3) 4
  have o0 : w3.cell? ⟨w2.heap.size, 0, none⟩ = some (.int .i64 k2) := blk_cell (blk_go HK2.out.2 hb3) 0
  have o1 : w3.cell? ⟨w2.heap.size, 1, none⟩ = some (.int .i64 i2) := blk_cell (blk_go HK2.out.2 hb3) 1
  have o2 : w3.cell? ⟨w2.heap.size, 2, none⟩ = some (.float .f64 b2) := blk_cell (blk_go HK2.out.2 hb3) 2
  have o3 : w3.cell? ⟨w2.heap.size, 3, none⟩ = some (.string t2) := blk_cell (blk_go HK2.out.2 hb3) 3
  have o4 : w3.cell? ⟨w2.heap.size, 4, none⟩ = some (.slice p2 n2 c2) := blk_cell (blk_go HK2.out.2 hb3) 4
  have HX := Lib.hid (exact9 (vaR r) (vaR r) w3 _ _ (HL2.out.1.on hb3) (HL2.out.2.on hb3))
  rw [HEx.out] at HX
  unfold cells5 at HX
  clear hb3 HL2 HK2 HEx
  go_wp2_with fail
  refine HX.out.mono ?_
  rintro e w4 ⟨rfl, hb4⟩
  have HB4 := Lib.hid (HB3.out.trans (hb4.mono HB3.out.size))
  clear hb4
  go_wp2
  go_ret
  exact ⟨rfl, HB4.out⟩
end Go.Proofs.Ytbedlaaedefclaa
