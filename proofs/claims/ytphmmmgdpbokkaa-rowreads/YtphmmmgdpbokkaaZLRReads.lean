/- RowReads over what the laws ask of package row. -/
import Derived.Test.YtphmmmgdpbokkaaM26
namespace Go.Proofs.Ytphmmmgdpbokkaa
open Go.RowKit

attribute [local go_sem] run_store_float

/-- what is told of a reading: the error, the place, the value -/
def eOf {α : Type} : Except Nat (α × Nat) → Nat
  | .error e => e
  | .ok _ => 0
def nOf {α : Type} : Except Nat (α × Nat) → Nat
  | .error _ => 0
  | .ok (_, k) => k
def vOf : Except Nat (V × Nat) → V
  | .error _ => .mk 0 0 0 ⟨#[]⟩ []
  | .ok (v, _) => v
def rOf : Except Nat (List V × Nat) → List V
  | .error _ => []
  | .ok (v, _) => v
theorem ValA.out {w w' : World} {r : Except Nat (V × Nat)} {e : Ending} (h : ValA w r e w') : ∃ k i b t p n c, e = .returned (.tuple #[.agg #[.int .i64 k, .int .i64 i, .float .f64 b, .string t, .slice p n c], .int .i64 (nOf r : Nat), .int .i64 (eOf r : Nat)]) ∧ VLies w' #[.int .i64 k, .int .i64 i, .float .f64 b, .string t, .slice p n c] (vOf r) ∧ Below w.heap.size w w' := by
  cases r with
  | error er =>
    obtain ⟨rfl, hb⟩ := h
    exact ⟨0, 0, 0, ⟨#[]⟩, none, 0, 0, rfl, vl_leaf w' 0 0 0 ⟨#[]⟩ none 0, hb⟩
  | ok vk =>
    obtain ⟨v, k⟩ := vk
    obtain ⟨u, rfl, hv, hb⟩ := h
    obtain ⟨k', i', b', t', p', n', c', rfl⟩ := hv.shape
    exact ⟨k', i', b', t', p', n', c', rfl, hv.lies, hb⟩
theorem RowA.out {w w' : World} {r : Except Nat (List V × Nat)} {e : Ending} (h : RowA w r e w') : ∃ q c, e = .returned (.tuple #[.agg #[.slice q (rOf r).length c], .int .i64 (nOf r : Nat), .int .i64 (eOf r : Nat)]) ∧ VLies w' (cells5 0 0 0 ⟨#[]⟩ q (rOf r).length c) (.mk 0 0 0 ⟨#[]⟩ (rOf r)) ∧ Below w.heap.size w w' := by
  cases r with
  | error er =>
    obtain ⟨rfl, hb⟩ := h
    exact ⟨none, 0, rfl, vl_leaf w' 0 0 0 ⟨#[]⟩ none 0, hb⟩
  | ok vk =>
    obtain ⟨v, k⟩ := vk
    obtain ⟨q, c, rfl, hv, hb⟩ := h
    exact ⟨q, c, rfl, hv.lies, hb⟩

set_option maxRecDepth 100000 in
set_option maxHeartbeats 2000000 in
theorem rowReads_any {I : World → Prop} (K : RowsOk I) (KV : ReadOk I) (y : Ty) (u : Array Value) (l : List UInt8) (q : Option Addr) (d : Nat) (a : Int) (w : World) (hy : TLies w u y) (wy : y.wf) (hl : l.length ≤ 140737488351232) (hld : l.length ≤ d) (hat : At w q l) (ha1 : -9223372036854775808 ≤ a) (ha2 : a ≤ 9223372036854775807) (hI : I w) :
    Calls Try.prog 6 #[.agg u, .slice q l.length d, .int .i64 a] w fun e w' => e = .returned (.bool true) ∧ Below w.heap.size w w' := by
  obtain ⟨k', ys⟩ := y
  obtain ⟨p, c, rfl, -⟩ := hy.open
  obtain ⟨W0, hW0⟩ : ∃ W0, W0 = w.alloc (.cells (cells2 k' p ys.length c) 24) := ⟨_, rfl⟩
  have HB0 : Hid (Below w.heap.size w W0) := by rw [hW0]; exact (Below.refl _ _).alloc (Nat.le_refl _) _
  have HY : Hid (W0.cell? ⟨w.heap.size, 0, none⟩ = some (.int .i64 k') ∧ W0.cell? ⟨w.heap.size, 1, none⟩ = some (.slice p ys.length c)) := by rw [hW0]; exact ⟨by simp [cells2], by simp [cells2]⟩
  have HW0 := Lib.hid hW0
  obtain ⟨R, hR⟩ : ∃ R, R = Rw.readV (.mk k' ys) l a := ⟨_, rfl⟩
  have HE1 := KV.decodeValue _ _ l q d a W0 (hy.on HB0.out) wy hl hld (hat.on HB0.out) ha1 ha2 (K.on hI HB0.out)
  have HE2 := fun w' (hb : Below w.heap.size w w') => refDecodeValue8 _ _ l q d a hl hld w' (hy.on hb) (hat.on hb) ha1 ha2
  rw [← hR] at HE1
  simp only [← hR] at HE2
  replace HE1 := Lib.hid HE1
  replace HE2 := Lib.hid HE2
  have HLv := Lib.hid (fun w' (hb : Below w.heap.size w w') => rowLive_ok K w' (K.on hI hb))
  clear hW0 hy wy hI K hR hat ha1 ha2
  unfold cells2 at *
  go_enter Try.func6, Try.ntmps6
  go_wp2_with fail
  rw [← HW0.out]
  clear HW0
  refine HE1.out.mono ?_
  intro e w1 h1
  obtain ⟨k1, i1, b1, t1, p1, n1, c1, rfl, hv1, hb1⟩ := h1.out
  have c5 := cell_on hb1 HY.out.1
  have c6 := cell_on hb1 HY.out.2
  have HB1 := Lib.hid (HB0.out.trans (hb1.mono HB0.out.size))
  have HV1 := Lib.hid hv1
  clear hb1 hv1 h1 HE1 HY
  obtain ⟨wa, hwa⟩ : ∃ wa, wa = w1.alloc (.cells #[.int .i64 k1, .int .i64 i1, .float .f64 b1, .string t1, .slice p1 n1 c1] 33) := ⟨_, rfl⟩
  have hba : Below w1.heap.size w1 wa := by rw [hwa]; exact (Below.refl _ _).alloc (Nat.le_refl _) _
  have HYa : Hid (wa.cell? ⟨w1.heap.size, 0, none⟩ = some (.int .i64 k1) ∧ wa.cell? ⟨w1.heap.size, 1, none⟩ = some (.int .i64 i1) ∧ wa.cell? ⟨w1.heap.size, 2, none⟩ = some (.float .f64 b1) ∧ wa.cell? ⟨w1.heap.size, 3, none⟩ = some (.string t1) ∧ wa.cell? ⟨w1.heap.size, 4, none⟩ = some (.slice p1 n1 c1)) := by rw [hwa]; exact ⟨by simp, by simp, by simp, by simp, by simp⟩
  have HBa := Lib.hid (HB1.out.trans (hba.mono HB1.out.size))
  have HVa := Lib.hid (HV1.out.on hba)
  have d5 := cell_on hba c5
  have d6 := cell_on hba c6
  rw [hwa] at d5 d6
  have HWa := Lib.hid hwa
  clear hba hwa HV1
  go_wp2_with fail
  rw [← HWa.out]
  refine (HE2.out wa HBa.out).mono ?_
  intro e w2 h2
  obtain ⟨k2, i2, b2, t2, p2, n2, c2, rfl, hv2, hb2⟩ := h2.out
  have HBa2 := Lib.hid hb2
  have HB2 := Lib.hid (HBa.out.trans (hb2.mono HBa.out.size))
  have HV2 := Lib.hid hv2
  clear hb2 hv2 h2 HE2 c5 c6 d5 d6 HWa
  obtain ⟨wb, hwb⟩ : ∃ wb, wb = w2.alloc (.cells #[.int .i64 k2, .int .i64 i2, .float .f64 b2, .string t2, .slice p2 n2 c2] 33) := ⟨_, rfl⟩
  have hbb : Below w2.heap.size w2 wb := by rw [hwb]; exact (Below.refl _ _).alloc (Nat.le_refl _) _
  have HYb : Hid (wb.cell? ⟨w2.heap.size, 0, none⟩ = some (.int .i64 k2) ∧ wb.cell? ⟨w2.heap.size, 1, none⟩ = some (.int .i64 i2) ∧ wb.cell? ⟨w2.heap.size, 2, none⟩ = some (.float .f64 b2) ∧ wb.cell? ⟨w2.heap.size, 3, none⟩ = some (.string t2) ∧ wb.cell? ⟨w2.heap.size, 4, none⟩ = some (.slice p2 n2 c2)) := by rw [hwb]; exact ⟨by simp, by simp, by simp, by simp, by simp⟩
  have HBb := Lib.hid (HB2.out.trans (hbb.mono HB2.out.size))
  have HVb := Lib.hid (HV2.out.on hbb)
  have HBab := Lib.hid (HBa2.out.trans (hbb.mono HBa2.out.size))
  have HWb := Lib.hid hwb
  clear hbb hwb HV2
  go_wp2_with fail
  rw [← HWb.out]
  clear HWb
  refine (HLv.out wb HBb.out).mono ?_
  rintro e w3 ⟨rfl, hb3⟩
  have HB3 := Lib.hid (HBb.out.trans (hb3.mono HBb.out.size))
  have HBa3 := Lib.hid (HBab.out.trans (hb3.mono HBab.out.size))
  obtain ⟨x0, x1, x2, x3, x4⟩ := HYa.out
  have e0 := cell_on HBa3.out x0
  have e1 := cell_on HBa3.out x1
  have e2 := cell_on HBa3.out x2
  have e3 := cell_on HBa3.out x3
  have e4 := cell_on HBa3.out x4
  obtain ⟨z0, z1, z2, z3, z4⟩ := HYb.out
  have f0 := cell_on hb3 z0
  have f1 := cell_on hb3 z1
  have f2 := cell_on hb3 z2
  have f3 := cell_on hb3 z3
  have f4 := cell_on hb3 z4
  have HEx := Lib.hid (exact6 _ _ w3 _ _ (HVa.out.on HBa3.out) (HVb.out.on hb3))
  rw [(V.exact_iff (vOf R) (vOf R)).2 rfl] at HEx
  clear x0 x1 x2 x3 x4 z0 z1 z2 z3 z4 hb3 HYa HYb HLv
  go_wp2_with fail
  refine HEx.out.mono ?_
  rintro e w4 ⟨rfl, hb4⟩
  have HB4 := Lib.hid (HB3.out.trans (hb4.mono HB3.out.size))
  clear hb4
  go_wp2
  go_ret
  exact ⟨rfl, HB4.out⟩
end Go.Proofs.Ytphmmmgdpbokkaa
