/- ValueChecks over what package value's functions answer. -/
import Derived.Test.YtooklmgkkkbfdaaVLive
namespace Go.Proofs.Ytooklmgkkkbfdaa
open Go.RowKit
attribute [local go_sem] run_store_float

/-- a variable that holds a value: block g of w0, and what lies below it, carried on -/
structure Holds (w0 : World) (g : Nat) (k i : Int) (b : Nat) (t : ByteArray) (p : Option Addr) (n c : Nat) (x : V) : Prop where
  blk : w0.heap[g]? = some (.cells #[.int .i64 k, .int .i64 i, .float .f64 b, .string t, .slice p n c] 25 (0, 0))
  lies : VLies w0 #[.int .i64 k, .int .i64 i, .float .f64 b, .string t, .slice p n c] x
theorem holds_new {w : World} {k i : Int} {b : Nat} {t : ByteArray} {p : Option Addr} {n c : Nat} {x : V} (h : VLies w #[.int .i64 k, .int .i64 i, .float .f64 b, .string t, .slice p n c] x) : Holds (w.alloc (.cells #[.int .i64 k, .int .i64 i, .float .f64 b, .string t, .slice p n c] 25)) w.heap.size k i b t p n c x :=
  ⟨blk_new w _, h.on ((Below.refl _ _).alloc (Nat.le_refl _) _)⟩
section
variable {w w' : World} {g : Nat} {k i : Int} {b : Nat} {t : ByteArray} {p : Option Addr} {n c : Nat} {x : V}
theorem Holds.on (h : Holds w g k i b t p n c x) (hb : Below w.heap.size w w') : Holds w' g k i b t p n c x := ⟨blk_on h.blk hb (blk_lt h.blk), h.lies.on hb⟩
theorem Holds.cells (h : Holds w g k i b t p n c x) : w.cell? ⟨g, 0, none⟩ = some (.int .i64 k) ∧ w.cell? ⟨g, 1, none⟩ = some (.int .i64 i) ∧ w.cell? ⟨g, 2, none⟩ = some (.float .f64 b) ∧ w.cell? ⟨g, 3, none⟩ = some (.string t) ∧ w.cell? ⟨g, 4, none⟩ = some (.slice p n c) :=
  have k0 := blk_cell h.blk
  ⟨k0 0, k0 1, k0 2, k0 3, k0 4⟩
theorem Fresh.open {w : World} {y : V} {e : Ending} {w' : World} (h : Fresh w y e w') : ∃ k i b t p n c, e = .returned (.agg #[.int .i64 k, .int .i64 i, .float .f64 b, .string t, .slice p n c]) ∧ VOwn w' (fun k => w.heap.size ≤ k ∧ k < w'.heap.size) #[.int .i64 k, .int .i64 i, .float .f64 b, .string t, .slice p n c] y ∧ Below w.heap.size w w' := by
  obtain ⟨u, h1, h2, h3⟩ := h
  obtain ⟨k, i, b, t, p, n, c, rfl⟩ := h2.shape
  exact ⟨k, i, b, t, p, n, c, h1, h2, h3⟩
end

set_option maxRecDepth 100000 in
set_option maxHeartbeats 1000000 in
theorem valueChecks_any {I : World → Prop} (K : ValueOk I) (x : V) (u : Array Value) (w : World) (hx : VLies w u x) (hI : I w) :
    Calls Try.prog 4 #[.agg u] w fun e w' => e = .returned (.bool true) ∧ Below w.heap.size w w' := by
  have HK := Lib.hid K
  have HI := Lib.hid hI
  have HX := Lib.hid hx
  clear hI hx K
  obtain ⟨k, i, b, t, xs⟩ := x
  obtain ⟨p, c, rfl, -, -, -⟩ := HX.out.open
  unfold cells5
  have hx := HX.out
  unfold cells5 at hx
  have hV0 := holds_new hx
  have hb0 : Below w.heap.size w (w.alloc (.cells #[.int .i64 k, .int .i64 i, .float .f64 b, .string t, .slice p xs.length c] 25)) := (Below.refl _ _).alloc (Nat.le_refl _) _
  have HV0 := Lib.hid hV0
  have HB0 := Lib.hid hb0
  have HE : Hid (V.exact (.mk k i b t xs) (.mk k i b t xs) = true) := (V.exact_iff _ _).2 rfl
  clear hx hV0 hb0
  go_enter Try.func4, Try.ntmps4
  go_wp2_with fail
  generalize hx0 : V.mk k i b t xs = x at HX HV0 HE
  clear hx0
  refine (copied6 x _ _ HV0.out.lies).mono ?_
  rintro e w1 hF
  obtain ⟨k1, i1, b1, t1, p1, n1, c1, rfl, hO, hb1⟩ := hF.open
  have hV1 := HV0.out.on hb1
  have HIn := Lib.hid hO.lies
  obtain ⟨a0, a1, a2, a3, a4⟩ := hV1.cells
  have hs1 : w.heap.size < w1.heap.size := blk_lt hV1.blk
  have hV2 := hV1.on (w' := w1.alloc (.cells #[.int .i64 k1, .int .i64 i1, .float .f64 b1, .string t1, .slice p1 n1 c1] 25)) ((Below.refl _ _).alloc (Nat.le_refl _) _)
  have hN2 := holds_new HIn.out
  have HB2 : Hid (Below w.heap.size w (w1.alloc (.cells #[.int .i64 k1, .int .i64 i1, .float .f64 b1, .string t1, .slice p1 n1 c1] 25))) := (HB0.out.trans (hb1.mono HB0.out.size)).alloc (Nat.le_of_lt hs1) _
  have HV2 := Lib.hid hV2
  have HN2 := Lib.hid hN2
  clear hF hO hb1 hV1 HB0 HV0 hV2 hN2
  go_wp2_with fail
  generalize w1.alloc (.cells #[.int .i64 k1, .int .i64 i1, .float .f64 b1, .string t1, .slice p1 n1 c1] 25) = w2 at HV2 HN2 HB2
  refine (HK.out.check x _ w2 HV2.out.lies (HK.out.on HI.out HB2.out)).mono ?_
  rintro e w3 ⟨rfl, hb3⟩
  have hV3 := HV2.out.on hb3
  have hN3 := HN2.out.on hb3
  have HB3 := Lib.hid (HB2.out.trans (hb3.mono HB2.out.size))
  clear a0 a1 a2 a3 a4 hs1 hb3 HV2 HN2 HB2
  obtain ⟨a0, a1, a2, a3, a4⟩ := hV3.cells
  obtain ⟨d0, d1, d2, d3, d4⟩ := hN3.cells
  have HV3 := Lib.hid hV3
  have HN3 := Lib.hid hN3
  clear hV3 hN3
  go_wp2_with fail
  refine (refCheck6 x w3 _ HN3.out.lies).mono ?_
  rintro e w4 ⟨rfl, hb4⟩
  have hV4 := HV3.out.on hb4
  have hN4 := HN3.out.on hb4
  have HB4 := Lib.hid (HB3.out.trans (hb4.mono HB3.out.size))
  clear a0 a1 a2 a3 a4 d0 d1 d2 d3 d4 hb4 HV3 HN3 HB3
  have HV4 := Lib.hid hV4
  have HN4 := Lib.hid hN4
  clear hV4 hN4
  go_wp2_with fail
  refine (valueLive_ok HK.out w4 (HK.out.on HI.out HB4.out)).mono ?_
  rintro e w5 ⟨rfl, hb5⟩
  have hV5 := HV4.out.on hb5
  have hN5 := HN4.out.on hb5
  have HB5 := Lib.hid (HB4.out.trans (hb5.mono HB4.out.size))
  clear hb5 HV4 HN4 HB4
  obtain ⟨a0, a1, a2, a3, a4⟩ := hV5.cells
  obtain ⟨d0, d1, d2, d3, d4⟩ := hN5.cells
  have HV5 := Lib.hid hV5
  have HN5 := Lib.hid hN5
  clear hV5 hN5
  go_wp2_with fail
  have hC := exact6 x x w5 _ _ HV5.out.lies HN5.out.lies
  rw [HE.out] at hC
  refine hC.mono ?_
  rintro e w6 ⟨rfl, hb6⟩
  have HB6 := Lib.hid (HB5.out.trans (hb6.mono HB5.out.size))
  clear hb6 hC
  go_wp2
  go_ret
  exact ⟨rfl, HB6.out⟩

set_option maxHeartbeats 1000000 in
theorem valueUtfs_any {I : World → Prop} (K : ValueOk I) (t : ByteArray) (ht : t.size ≤ 140737488351232) (w : World) (hI : I w) :
    Calls Try.prog 8 #[.string t] w fun e w' => e = .returned (.bool true) ∧ Below w.heap.size w w' := by
  have HK := Lib.hid K
  have HI := Lib.hid hI
  clear hI K
  obtain ⟨r, hr⟩ : ∃ r, r = utfT t := ⟨_, rfl⟩
  have HR := Lib.hid hr
  clear hr
  go_enter Try.func8, Try.ntmps8
  go_wp2_with fail
  refine (valueLive_ok HK.out w HI.out).mono ?_
  rintro e w1 ⟨rfl, hb1⟩
  have HB1 := Lib.hid hb1
  clear hb1
  go_wp2_with fail
  have hC := HK.out.utf t w1 (by omega) (HK.out.on HI.out HB1.out)
  rw [← HR.out] at hC
  refine hC.mono ?_
  rintro e w2 ⟨rfl, hb2⟩
  have HB2 := Lib.hid (HB1.out.trans (hb2.mono HB1.out.size))
  clear hb2 hC
  go_wp2_with fail
  have hC := refUtf6 t (by omega) w2
  rw [show U8.utf t.data.toList = r from HR.out.symm] at hC
  refine hC.mono ?_
  rintro e w3 ⟨rfl, hw3⟩
  rw [hw3]
  clear hC hw3
  cases r
  all_goals
    go_wp2
    go_ret
    exact ⟨rfl, HB2.out⟩
end Go.Proofs.Ytooklmgkkkbfdaa
