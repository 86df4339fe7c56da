/- ValueFixes over what package value's functions answer. -/
import Derived.Test.YtooklmgkkkbfdaaLVChecks
namespace Go.Proofs.Ytooklmgkkkbfdaa
open Go.RowKit
attribute [local go_sem] run_store_float

/-- a variable that holds a value which lies in blocks of its own -/
structure HoldsO (w0 : World) (g : Nat) (F : Nat → Prop) (k i : Int) (b : Nat) (t : ByteArray) (p : Option Addr) (n c : Nat) (x : V) : Prop where
  blk : w0.heap[g]? = some (.cells #[.int .i64 k, .int .i64 i, .float .f64 b, .string t, .slice p n c] 25 (0, 0))
  own : VOwn w0 F #[.int .i64 k, .int .i64 i, .float .f64 b, .string t, .slice p n c] x
section
variable {w w' : World} {g : Nat} {F G : Nat → Prop} {k i : Int} {b : Nat} {t : ByteArray} {p : Option Addr} {n c : Nat} {x : V}
theorem HoldsO.aside (h : HoldsO w g F k i b t p n c x) (ha : Aside G w w') (hg : ¬ G g) (hF : ∀ k, F k → ¬ G k) : HoldsO w' g F k i b t p n c x :=
  ⟨by rw [ha.block g (blk_lt h.blk) hg]; exact h.blk, h.own.aside ha hF⟩
theorem HoldsO.on (h : HoldsO w g F k i b t p n c x) (hb : Below w.heap.size w w') : HoldsO w' g F k i b t p n c x :=
  h.aside (aside_new hb (fun _ => False)) (fun h => h) (fun _ _ h => h)
theorem HoldsO.holds (h : HoldsO w g F k i b t p n c x) : Holds w g k i b t p n c x := ⟨h.blk, h.own.lies⟩
theorem holdsO_new (h : VOwn w F #[.int .i64 k, .int .i64 i, .float .f64 b, .string t, .slice p n c] x) : HoldsO (w.alloc (.cells #[.int .i64 k, .int .i64 i, .float .f64 b, .string t, .slice p n c] 25)) w.heap.size F k i b t p n c x :=
  ⟨blk_new w _, h.aside ((Aside.refl (fun _ => False) w).alloc _) (fun _ _ h => h)⟩
end

set_option maxRecDepth 100000 in
set_option maxHeartbeats 1000000 in
theorem valueFixes_any {I : World → Prop} (K : ValueOk I) (x : V) (u : Array Value) (w : World) (hx : VLies w u x) (hI : I w) :
    Calls Try.prog 5 #[.agg u] w fun e w' => e = .returned (.bool true) ∧ Below w.heap.size w w' := by
  have HK := Lib.hid K
  have HI := Lib.hid hI
  have HX := Lib.hid hx
  clear hI hx K
  obtain ⟨k, i, b, t, xs⟩ := x
  obtain ⟨p, c, rfl, -, -, -⟩ := HX.out.open
  unfold cells5
  have hx := HX.out
  unfold cells5 at hx
  have hV0 := holds_new hx
  have hb0 : Below w.heap.size w (w.alloc (.cells #[.int .i64 k, .int .i64 i, .float .f64 b, .string t, .slice p xs.length c] 25)) := (Below.refl _ _).alloc (Nat.le_refl _) _
  have HX0 := Lib.hid hx
  have HV0 := Lib.hid hV0
  have HB0 := Lib.hid hb0
  obtain ⟨x, hxe⟩ : ∃ x, x = V.mk k i b t xs := ⟨_, rfl⟩
  rw [← hxe] at HV0 HX0
  have HE : Hid (V.exact x x = true) := (V.exact_iff _ _).2 rfl
  have HE2 : Hid (V.exact (V.fix x) (V.fix x) = true) := (V.exact_iff _ _).2 rfl
  clear hx hV0 hb0 HX hxe
  go_enter Try.func5, Try.ntmps5
  go_wp2_with fail
  have s0 : (w.alloc (.cells #[.int .i64 k, .int .i64 i, .float .f64 b, .string t, .slice p xs.length c] 25)).heap.size = w.heap.size + 1 := by simp
  generalize w.alloc (.cells #[.int .i64 k, .int .i64 i, .float .f64 b, .string t, .slice p xs.length c] 25) = w0 at HV0 HB0 s0 ⊢
  refine (copied6 x _ _ HV0.out.lies).mono ?_
  rintro e w1 hF
  obtain ⟨k1, i1, b1, t1, p1, n1, c1, rfl, hO, hb1⟩ := hF.open
  have hV1 := HV0.out.on hb1
  have hs1 := hb1.size
  have hB1 := HB0.out.trans (hb1.mono HB0.out.size)
  have hV2 := hV1.on (w' := w1.alloc (.cells #[.int .i64 k1, .int .i64 i1, .float .f64 b1, .string t1, .slice p1 n1 c1] 25)) ((Below.refl _ _).alloc (Nat.le_refl _) _)
  have hN2 := holdsO_new hO
  have hB2 := hB1.alloc (by omega) (.cells #[.int .i64 k1, .int .i64 i1, .float .f64 b1, .string t1, .slice p1 n1 c1] 25)
  have s1 : (w1.alloc (.cells #[.int .i64 k1, .int .i64 i1, .float .f64 b1, .string t1, .slice p1 n1 c1] 25)).heap.size = w1.heap.size + 1 := by simp
  obtain ⟨a0, a1, a2, a3, a4⟩ := hV2.cells
  have HV2 := Lib.hid hV2
  have HN2 := Lib.hid hN2
  have HB2 := Lib.hid hB2
  clear hF hO hb1 hV1 hV2 hN2 hB1 hB2 HV0 HB0
  go_wp2_with fail
  generalize w1.alloc (.cells #[.int .i64 k1, .int .i64 i1, .float .f64 b1, .string t1, .slice p1 n1 c1] 25) = w1a at HV2 HN2 HB2 s1 a0 a1 a2 a3 a4 ⊢
  refine (HK.out.fix x _ w1a HV2.out.lies (HK.out.on HI.out HB2.out)).mono ?_
  rintro e w2 hF
  obtain ⟨k2, i2, b2, t2, p2, n2, c2, rfl, hO, hb2⟩ := hF.open
  have hs2 := hb2.size
  have hB3 := (HB2.out.trans (hb2.mono HB2.out.size)).alloc (by have := HB2.out.size; omega) (.cells #[.int .i64 k2, .int .i64 i2, .float .f64 b2, .string t2, .slice p2 n2 c2] 25)
  have hb2a : Below w1a.heap.size w1a (w2.alloc (.cells #[.int .i64 k2, .int .i64 i2, .float .f64 b2, .string t2, .slice p2 n2 c2] 25)) := hb2.alloc hb2.size _
  have hN3 := HN2.out.on hb2a
  have hW3 := holdsO_new hO
  have s2 : (w2.alloc (.cells #[.int .i64 k2, .int .i64 i2, .float .f64 b2, .string t2, .slice p2 n2 c2] 25)).heap.size = w2.heap.size + 1 := by simp
  clear a0 a1 a2 a3 a4
  obtain ⟨d0, d1, d2, d3, d4⟩ := hN3.holds.cells
  have HN3 := Lib.hid hN3
  have HW3 := Lib.hid hW3
  have HB3 := Lib.hid hB3
  have HV3 := Lib.hid (HV2.out.on hb2a)
  clear hF hO hb2 hN3 hW3 hB3 HV2 HN2 HB2 hb2a
  go_wp2_with fail
  generalize w2.alloc (.cells #[.int .i64 k2, .int .i64 i2, .float .f64 b2, .string t2, .slice p2 n2 c2] 25) = w2a at HV3 HN3 HW3 HB3 s2 d0 d1 d2 d3 d4 ⊢
  refine (refFix6 x w2a _ HN3.out.own.lies).mono ?_
  rintro e w3 hF
  obtain ⟨k3, i3, b3, t3, p3, n3, c3, rfl, hO, hb3⟩ := hF.open
  have hs3 := hb3.size
  have hb3a : Below w2a.heap.size w2a (w3.alloc (.cells #[.int .i64 k3, .int .i64 i3, .float .f64 b3, .string t3, .slice p3 n3 c3] 25)) := hb3.alloc hb3.size _
  have hB4 := HB3.out.trans (hb3a.mono HB3.out.size)
  have hN4 := HN3.out.on hb3a
  have hW4 := HW3.out.on hb3a
  have hT4 := holdsO_new hO
  have s3 : (w3.alloc (.cells #[.int .i64 k3, .int .i64 i3, .float .f64 b3, .string t3, .slice p3 n3 c3] 25)).heap.size = w3.heap.size + 1 := by simp
  clear d0 d1 d2 d3 d4
  obtain ⟨d0, d1, d2, d3, d4⟩ := hW4.holds.cells
  obtain ⟨f0, f1, f2, f3, f4⟩ := hT4.holds.cells
  have HV4 := Lib.hid (HV3.out.on hb3a)
  have HN4 := Lib.hid hN4
  have HW4 := Lib.hid hW4
  have HT4 := Lib.hid hT4
  have HB4 := Lib.hid hB4
  clear hF hO hb3 hb3a hN4 hW4 hT4 hB4 HN3 HW3 HB3 HV3
  go_wp2_with fail
  generalize w3.alloc (.cells #[.int .i64 k3, .int .i64 i3, .float .f64 b3, .string t3, .slice p3 n3 c3] 25) = w3a at HV4 HN4 HW4 HT4 HB4 s3 d0 d1 d2 d3 d4 f0 f1 f2 f3 f4 ⊢
  have hC := exact6 (V.fix x) (V.fix x) w3a _ _ HW4.out.own.lies HT4.out.own.lies
  rw [HE2.out] at hC
  refine hC.mono ?_
  rintro e w4 ⟨rfl, hb4⟩
  have hs4 := hb4.size
  have hB5 := HB4.out.trans (hb4.mono HB4.out.size)
  have hN5 := HN4.out.on hb4
  have hW5 := HW4.out.on hb4
  have hT5 := HT4.out.on hb4
  have hV5 := HV4.out.on hb4
  clear d0 d1 d2 d3 d4 f0 f1 f2 f3 f4
  obtain ⟨d0, d1, d2, d3, d4⟩ := hW5.holds.cells
  have HN5 := Lib.hid hN5
  have HW5 := Lib.hid hW5
  have HT5 := Lib.hid hT5
  have HV5 := Lib.hid hV5
  have HB5 := Lib.hid hB5
  clear hC hb4 hN5 hW5 hT5 hV5 hB5 HN4 HW4 HT4 HV4 HB4
  go_wp2_with fail
  refine (spoil6 (V.fix x) w4 _ _ HW5.out.own (fun k hk => by omega)).mono ?_
  rintro e w5 ⟨rfl, ha5⟩
  have hB6 : Below w.heap.size w w5 := HB5.out.trans (ha5.below HB5.out.size (fun k hk hF => by omega))
  have hN6 := HN5.out.aside ha5 (by omega) (fun k hk hF => by omega)
  have hT6 := HT5.out.aside ha5 (by omega) (fun k hk hF => by omega)
  have hV6 : Holds w5 w.heap.size k i b t p xs.length c x := ⟨by rw [ha5.block _ (blk_lt HV5.out.blk) (by omega)]; exact HV5.out.blk, HX0.out.on hB6⟩
  clear d0 d1 d2 d3 d4
  obtain ⟨a0, a1, a2, a3, a4⟩ := hV6.cells
  have hs5 := ha5.size
  have HN6 := Lib.hid hN6
  have HT6 := Lib.hid hT6
  have HV6 := Lib.hid hV6
  have HB6 := Lib.hid hB6
  clear ha5 hN6 hT6 hV6 hB6 HN5 HW5 HT5 HV5 HB5
  go_wp2_with fail
  refine (HK.out.fix x _ w5 HV6.out.lies (HK.out.on HI.out HB6.out)).mono ?_
  rintro e w6 hF
  obtain ⟨k6, i6, b6, t6, p6, n6, c6, rfl, hO, hb6⟩ := hF.open
  have hs6 := hb6.size
  have hb6a : Below w5.heap.size w5 (w6.alloc (.cells #[.int .i64 k6, .int .i64 i6, .float .f64 b6, .string t6, .slice p6 n6 c6] 25)) := hb6.alloc hb6.size _
  have hB7 := HB6.out.trans (hb6a.mono HB6.out.size)
  have hN7 := HN6.out.on hb6a
  have hT7 := HT6.out.on hb6a
  have hV7 := HV6.out.on hb6a
  have hA7 := holdsO_new hO
  clear a0 a1 a2 a3 a4
  have HN7 := Lib.hid hN7
  have HT7 := Lib.hid hT7
  have HV7 := Lib.hid hV7
  have HA7 := Lib.hid hA7
  have HB7 := Lib.hid hB7
  clear hF hO hb6 hb6a hN7 hT7 hV7 hA7 hB7 HN6 HT6 HV6 HB6
  go_wp2_with fail
  generalize w6.alloc (.cells #[.int .i64 k6, .int .i64 i6, .float .f64 b6, .string t6, .slice p6 n6 c6] 25) = w6a at HV7 HN7 HT7 HA7 HB7 ⊢
  refine (valueLive_ok HK.out w6a (HK.out.on HI.out HB7.out)).mono ?_
  rintro e w7 ⟨rfl, hb7⟩
  have hB8 := HB7.out.trans (hb7.mono HB7.out.size)
  have hN8 := HN7.out.on hb7
  have hT8 := HT7.out.on hb7
  have hV8 := HV7.out.on hb7
  have hA8 := HA7.out.on hb7
  obtain ⟨a0, a1, a2, a3, a4⟩ := hV8.cells
  obtain ⟨d0, d1, d2, d3, d4⟩ := hN8.holds.cells
  have HN8 := Lib.hid hN8
  have HT8 := Lib.hid hT8
  have HV8 := Lib.hid hV8
  have HA8 := Lib.hid hA8
  have HB8 := Lib.hid hB8
  clear hb7 hN8 hT8 hV8 hA8 hB8 HN7 HT7 HV7 HA7 HB7
  go_wp2_with fail
  have hC := exact6 x x w7 _ _ HV8.out.lies HN8.out.own.lies
  rw [HE.out] at hC
  refine hC.mono ?_
  rintro e w8 ⟨rfl, hb8⟩
  have hB9 := HB8.out.trans (hb8.mono HB8.out.size)
  have hT9 := HT8.out.on hb8
  have hA9 := HA8.out.on hb8
  clear a0 a1 a2 a3 a4 d0 d1 d2 d3 d4
  obtain ⟨a0, a1, a2, a3, a4⟩ := hA9.holds.cells
  obtain ⟨d0, d1, d2, d3, d4⟩ := hT9.holds.cells
  have HT9 := Lib.hid hT9
  have HA9 := Lib.hid hA9
  have HB9 := Lib.hid hB9
  clear hC hb8 hT9 hA9 hB9 HN8 HT8 HV8 HA8 HB8
  go_wp2_with fail
  have hC := exact6 (V.fix x) (V.fix x) w8 _ _ HA9.out.own.lies HT9.out.own.lies
  rw [HE2.out] at hC
  refine hC.mono ?_
  rintro e w9 ⟨rfl, hb9⟩
  have HBf := Lib.hid (HB9.out.trans (hb9.mono HB9.out.size))
  clear hC hb9
  go_wp2
  go_ret
  exact ⟨rfl, HBf.out⟩
end Go.Proofs.Ytooklmgkkkbfdaa
