/- WFixR, WSameR: put together. -/
import Derived.Test.YtbedlaaedefclaaM05
import Derived.Test.YtbedlaaedefclaaM04

/- The document's Fix. -/
namespace Go.Proofs.Ytbedlaaedefclaa
open Go.RowKit

attribute [local go_sem] run_store_float

/-- what a fresh value's call answers -/
def Fresh (w : World) (y : V) (e : Ending) (w' : World) : Prop := ∃ u', e = .returned (.agg u') ∧ VOwn w' (fun k => w.heap.size ≤ k ∧ k < w'.heap.size) u' y ∧ Below w.heap.size w w'

/-- while a value is built: its parameter stands in the first block, its answer's place in the next, the value in the third; j items are there -/
structure Making (w : World) (C0 : Array Value) (k i : Int) (b : Nat) (t : ByteArray) (zs : List V) (j : Nat) (v : Value) (wr : World) : Prop where
  built : ∃ us Fs, Built wr (w.heap.size + 3) v j us Fs (zs.take j)
  b0 : wr.heap[w.heap.size]? = some (.cells C0 28 (0, 0))
  b1 : wr.heap[w.heap.size + 1]? = some (.cells (cells5 0 0 0 ⟨#[]⟩ none 0 0) 28 (0, 0))
  b2 : wr.heap[w.heap.size + 2]? = some (.cells #[.int .i64 k, .int .i64 i, .float .f64 b, .string t, v] 28 (0, 0))
  below : Below w.heap.size w wr
  size : w.heap.size + 3 ≤ wr.heap.size

section
variable {w wr : World} {C0 : Array Value} {k i : Int} {b : Nat} {t : ByteArray} {zs : List V} {j : Nat} {v : Value}
theorem making_start (w : World) (C0 : Array Value) (k i : Int) (b : Nat) (t : ByteArray) (zs : List V) :
    Making w C0 k i b t zs 0 (.slice none 0 0) (((w.alloc (.cells C0 28)).alloc (.cells (cells5 0 0 0 ⟨#[]⟩ none 0 0) 28)).alloc (.cells #[.int .i64 k, .int .i64 i, .float .f64 b, .string t, .slice none 0 0] 28)) := by
  refine ⟨⟨_, _, built_nil _ _⟩, ?_, ?_, ?_, ((((Below.refl _ w).alloc (Nat.le_refl _) _).alloc (by simp) _).alloc (by simp; omega) _), by simp⟩
  · rw [blk_old _ _ (by simp; omega), blk_old _ _ (by simp)]; exact blk_new w _
  · rw [blk_old _ _ (by simp)]
    have := blk_new (w.alloc (.cells C0 28)) (.cells (cells5 0 0 0 ⟨#[]⟩ none 0 0) 28)
    simpa using this
  · have := blk_new ((w.alloc (.cells C0 28)).alloc (.cells (cells5 0 0 0 ⟨#[]⟩ none 0 0) 28)) (.cells #[.int .i64 k, .int .i64 i, .float .f64 b, .string t, .slice none 0 0] 28)
    simpa using this

theorem Making.slice (h : Making w C0 k i b t zs j v wr) : ∃ p c, v = .slice p j c := by
  obtain ⟨us, Fs, hb⟩ := h.built
  rcases hb.row.2 with ⟨h1, h2⟩ | ⟨g, cap, cur, h1, _⟩
  · exact ⟨none, 0, by rw [h1, h2]⟩
  · exact ⟨_, cap, h1⟩

theorem Making.next {w2 w3 w4 : World} {u : Array Value} {F : Nat → Prop} {g cap : Nat} {us : Nat → Array Value} {Fs : Nat → Nat → Prop} (h : Making w C0 k i b t zs j v wr) (hbt : Built wr (w.heap.size + 3) v j us Fs (zs.take j)) (hj : j < zs.length) (hb : Below wr.heap.size wr w2) (hx : VOwn w2 F u zs[j])
    (hF : ∀ k, F k → wr.heap.size ≤ k ∧ k < w2.heap.size) (hb3 : Below w2.heap.size w2 w3)
    (hr : w4.ownsRow (w.heap.size + 3) 28 5 (.slice (some ⟨g, 0, none⟩) (j + 1) cap) (j + 1) (flat us j ++ u.toList)) (hg : w3.grownBy w4 v.ownBlock) (hn : v.ownBlock = some g ∨ g = w3.heap.size) :
    Below w.heap.size w w4 ∧ (∀ n, n < 3 → w4.heap[w.heap.size + n]? = wr.heap[w.heap.size + n]?) ∧ Making w C0 k i b t zs (j + 1) (.slice (some ⟨g, 0, none⟩) (j + 1) cap) (w4.setCell ⟨w.heap.size + 2, 4, none⟩ (.slice (some ⟨g, 0, none⟩) (j + 1) cap)) := by
  have hs := h.size
  have hs2 := hb.size
  have hs3 := hb3.size
  have hst := hbt.step hb hx hF hb3 hs hr hg hn
  have hold : ∀ n, n < 3 → w4.heap[w.heap.size + n]? = wr.heap[w.heap.size + n]? := fun n hn => by
    rw [hg.block _ (by omega) (fun hc => by have := (hbt.lt _ hc.symm).1; omega), hb3.block _ (by omega), hb.block _ (by omega)]
  have hb4 : Below w.heap.size w w4 := ((h.below.trans (hb.mono (by omega))).trans (hb3.mono (by omega))).grown hg (by omega) (fun k hk => by have := (hbt.lt k hk).1; omega)
  refine ⟨hb4, hold, ⟨⟨(fun n => if n = j then u else us n), (fun n => if n = j then F else Fs n), ?_⟩, ?_, ?_, ?_, ?_, ?_⟩⟩
  · rw [List.take_succ_eq_append_getElem hj]
    exact hst.set ⟨w.heap.size + 2, 4, none⟩ _ (by show w.heap.size + 2 < _; omega)
  · have := hold 0 (by omega)
    rw [Nat.add_zero] at this
    exact blk_set_far (this.trans h.b0) _ _ (by show w.heap.size ≠ w.heap.size + 2; omega)
  · exact blk_set_far ((hold 1 (by omega)).trans h.b1) _ _ (by show w.heap.size + 1 ≠ w.heap.size + 2; omega)
  · rw [blk_set ((hold 2 (by omega)).trans h.b2)]
    rfl
  · exact hb4.setCell (by show w.heap.size ≤ w.heap.size + 2; omega) _
  · have := hg.size
    simp [World.setCell]
    omega

/-- the answer's place is written: the value is there -/
def put5 (w : World) (g : Nat) (k i : Int) (b : Nat) (t : ByteArray) (v : Value) : World :=
  ((((w.setCell ⟨g, 0, none⟩ (.int .i64 k)).setCell ⟨g, 1, none⟩ (.int .i64 i)).setCell ⟨g, 2, none⟩ (.float .f64 b)).setCell ⟨g, 3, none⟩ (.string t)).setCell ⟨g, 4, none⟩ v
theorem Making.finish {q : Option Addr} {d : Nat} (h : Making w C0 k i b t zs j (.slice q j d) wr) (hj : j = zs.length) (hl : j * 64 ≤ 140737488351232) :
    (put5 wr (w.heap.size + 1) k i b t (.slice q j d)).heap[w.heap.size + 1]? = some (.cells (cells5 k i b t q j d) 28 (0, 0)) ∧ Fresh w (.mk k i b t zs) (.returned (.agg (cells5 k i b t q j d))) (put5 wr (w.heap.size + 1) k i b t (.slice q j d)) := by
  unfold put5
  refine ⟨?_, _, rfl, ?_, ?_⟩
  · rw [blk_set (blk_set (blk_set (blk_set (blk_set h.b1 0 _) 1 _) 2 _) 3 _) 4 _]
    rfl
  · obtain ⟨us, Fs, hb⟩ := h.built
    have hp : ∀ m, (⟨w.heap.size + 1, m, none⟩ : Addr).block < w.heap.size + 3 := fun m => by show w.heap.size + 1 < _; omega
    have h5 := ((((hb.set ⟨w.heap.size + 1, 0, none⟩ (.int .i64 k) (hp 0)).set ⟨w.heap.size + 1, 1, none⟩ (.int .i64 i) (hp 1)).set ⟨w.heap.size + 1, 2, none⟩ (.float .f64 b) (hp 2)).set ⟨w.heap.size + 1, 3, none⟩ (.string t) (hp 3)).set ⟨w.heap.size + 1, 4, none⟩ (.slice q j d) (hp 4)
    obtain ⟨p', c', he, hv⟩ := h5.done hl k i b t
    injection he with h6 h7 h8
    subst h6 h8
    rw [hj, List.take_length] at hv
    rw [← hj] at hv
    exact hv.mono fun k hk => ⟨by omega, hk.2⟩
  · have hp : ∀ m, w.heap.size ≤ (⟨w.heap.size + 1, m, none⟩ : Addr).block := fun m => by show _ ≤ w.heap.size + 1; omega
    exact ((((h.below.setCell (hp 0) _).setCell (hp 1) _).setCell (hp 2) _).setCell (hp 3) _).setCell (hp 4) _
end

theorem fixL_take (xs : List V) (j : Nat) (h : j < xs.length) : (V.fixL xs).take (j + 1) = (V.fixL xs).take j ++ [V.fix xs[j]] := by
  rw [V.fixL_eq, List.take_succ_eq_append_getElem (by simpa using h), List.getElem_map]

set_option maxRecDepth 100000 in
set_option maxHeartbeats 1000000 in
theorem refFix6 : ∀ (x : V) (w : World) (u : Array Value), VLies w u x → Calls Try.prog 38 #[.agg u] w (Fresh w (V.fix x)) := by
  intro x
  refine V.ind (P := fun x => ∀ (w : World) (u : Array Value), VLies w u x → Calls Try.prog 38 #[.agg u] w (Fresh w (V.fix x))) ?_ x
  intro k i b t xs ih w u hx
  rw [V.fix_mk]
  obtain ⟨p, c, rfl, hl, hc, hxi⟩ := hx.open
  unfold cells5
  have HIH := Lib.hid ih
  have HX : Hid (∀ j (hj : j < xs.length), ∃ u', VLies w u' xs[j] ∧ Item w p j u') := hxi
  clear ih hxi hx
  go_enter Try.func38, Try.ntmps38
  go_wp2_with fail
  refine (refFix_any b _).mono ?_
  rintro e w1 ⟨rfl, hw1⟩
  rw [hw1]
  clear hw1 w1
  go_wp2_with fail
  go_loopw [4, 5] (fun v4 _ wr => ∃ (j : Nat) (q : Option Addr) (d : Nat), j ≤ xs.length ∧ v4 = .int .i64 j ∧ Hid (Making w #[.int .i64 k, .int .i64 i, .float .f64 b, .string t, .slice p xs.length c] k i (fixB b) t (V.fixL xs) j (.slice q j d) wr)) (fun v4 _ _ => xs.length - (intOf v4).toNat)
  case atStart => exact ⟨0, none, 0, by omega, rfl, making_start w _ k i (fixB b) t _⟩
  case round =>
    obtain ⟨j, q, d, hj, rfl, HM⟩ := hrel
    have c0 : wr.cell? ⟨w.heap.size, 4, none⟩ = some (.slice p xs.length c) := blk_cell HM.out.b0 4
    have c2 : wr.cell? ⟨w.heap.size + 1 + 1, 4, none⟩ = some (.slice q j d) := blk_cell HM.out.b2 4
    by_cases hlt : j < xs.length
    · obtain ⟨ux, hvx, hix⟩ := HX.out j hlt
      obtain ⟨bx, ox, kx, ix, fx, tx, qx, nx, cx, rfl, _, rfl, a0, a1, a2, a3, a4⟩ := (hix.on HM.out.below).lies
      have HC := Lib.hid (HIH.out _ (List.getElem_mem hlt) wr _ (hvx.on HM.out.below))
      have hj1 : (j : Int) < (xs.length : Int) := by omega
      clear hvx hix
      unfold cells5 at HC
      go_wp2_with fail
      refine HC.out.mono ?_
      rintro e w2 ⟨u', rfl, hv, hb2⟩
      obtain ⟨k', i', b', t', p', n', c', rfl⟩ := hv.shape
      obtain ⟨us, Fs, hbt⟩ := HM.out.built
      have HV := Lib.hid hv
      have HB2 := Lib.hid hb2
      have HBt := Lib.hid hbt
      have d2 : ∀ o, (w2.alloc o).cell? ⟨w.heap.size + 1 + 1, 4, none⟩ = some (.slice q j d) := fun o => by
        have h1 : Below wr.heap.size wr (w2.alloc o) := hb2.alloc hb2.size o
        exact cell_on h1 c2
      have hsz : w.heap.size + 3 ≤ w2.heap.size := Nat.le_trans HM.out.size hb2.size
      have hjl : (V.fixL xs).length = xs.length := by rw [V.fixL_eq, List.length_map]
      have hfj : (V.fixL xs)[j]'(by omega) = V.fix xs[j] := by simp [V.fixL_eq]
      have HFJ := Lib.hid hfj
      clear hv hb2 hbt a0 a1 a2 a3 a4 HC c0 c2 hfj
      unfold cells5 at HV ⊢
      have HB3 : Hid (Below w2.heap.size w2 ((w2.alloc (.cells #[.int .i64 k', .int .i64 i', .float .f64 b', .string t', .slice p' n' c'] 28)).alloc (.cells #[.int .i64 k', .int .i64 i', .float .f64 b', .string t', .slice p' n' c'] 28))) := ((Below.refl _ _).alloc (Nat.le_refl _) _).alloc (by simp) _
      go_wp2_with (at_builtin; refine wp_more (B := w.heap.size + 3) (us := us) ((HBt.out.on HB2.out).on HB3.out).row (u := #[.int .i64 k', .int .i64 i', .float .f64 b', .string t', .slice p' n' c']) rfl (one5 HV.out) (ad := w2.heap.size + 1) (by have := blk_new (w2.alloc (.cells #[.int .i64 k', .int .i64 i', .float .f64 b', .string t', .slice p' n' c'] 28)) (.cells #[.int .i64 k', .int .i64 i', .float .f64 b', .string t', .slice p' n' c'] 28); simpa using this) (by omega) (by simp; omega) rfl rfl rfl rfl rfl ?_
                   intro g2 cap2 w4 hr4 hg4 hn4
                   obtain ⟨-, hold, hmk⟩ := HM.out.next HBt.out (by omega) HB2.out (by rw [HFJ.out]; exact HV.out) (fun _ h => h) HB3.out hr4 hg4 hn4
                   have f4 := blk_free ((hold 2 (by omega)).trans HM.out.b2) 4
                   have g4 : w4.cell? ⟨w.heap.size + 1 + 1, 4, none⟩ = some (.slice q j d) := blk_cell ((hold 2 (by omega)).trans HM.out.b2) 4
                   have HMK := Lib.hid hmk
                   clear hold hmk hr4 hg4 hn4)
      go_roundw
      case rel => exact ⟨j + 1, _, _, by omega, by go_num, HMK⟩
      case measure => simp [intOf]; omega
    · have hjn : ¬ (j : Int) < (xs.length : Int) := by omega
      have hjj : j = xs.length := by omega
      have e0 : wr.cell? ⟨w.heap.size + 1 + 1, 0, none⟩ = some (.int .i64 k) := blk_cell HM.out.b2 0
      have e1 : wr.cell? ⟨w.heap.size + 1 + 1, 1, none⟩ = some (.int .i64 i) := blk_cell HM.out.b2 1
      have e2 : wr.cell? ⟨w.heap.size + 1 + 1, 2, none⟩ = some (.float .f64 (fixB b)) := blk_cell HM.out.b2 2
      have e3 : wr.cell? ⟨w.heap.size + 1 + 1, 3, none⟩ = some (.string t) := blk_cell HM.out.b2 3
      have r0 : wr.cell? ⟨w.heap.size + 1, 0, none⟩ = some (.int .i64 0) := blk_cell HM.out.b1 0
      have r1 : wr.cell? ⟨w.heap.size + 1, 1, none⟩ = some (.int .i64 0) := blk_cell HM.out.b1 1
      have r2 : wr.cell? ⟨w.heap.size + 1, 2, none⟩ = some (.float .f64 0) := blk_cell HM.out.b1 2
      have r3 : wr.cell? ⟨w.heap.size + 1, 3, none⟩ = some (.string ⟨#[]⟩) := blk_cell HM.out.b1 3
      have r4 : wr.cell? ⟨w.heap.size + 1, 4, none⟩ = some (.slice none 0 0) := blk_cell HM.out.b1 4
      have s0 := blk_free HM.out.b1 0
      have s1 := blk_free HM.out.b1 1
      have s2 := blk_free HM.out.b1 2
      have s3 := blk_free HM.out.b1 3
      have s4 := blk_free HM.out.b1 4
      have hfl : (V.fixL xs).length = xs.length := by rw [V.fixL_eq, List.length_map]
      have HF := Lib.hid (HM.out.finish (by omega) (by omega))
      subst hjj
      go_wp2
      refine bodyPost_ret (v := .agg (cells5 k i (fixB b) t q xs.length d)) (results_cell_row rfl _ _ (w.heap.size + 1) _ _ _ _ rfl HF.out.1 Try.underlying28 rfl (by kernel_rfl)) rfl ?_
      exact HF.out.2
end Go.Proofs.Ytbedlaaedefclaa

/- The document's Same, sameList, SameRow. -/
namespace Go.Proofs.Ytbedlaaedefclaa
open Go.RowKit

namespace V
theorem sameL_ne : ∀ (xs ys : List V), xs.length ≠ ys.length → sameL xs ys = false
  | [], [], h => absurd rfl h
  | [], _ :: _, _ => rfl
  | _ :: _, [], _ => rfl
  | x :: r, y :: s, h => by rw [sameL_cons, sameL_ne r s (by simpa using h), Bool.and_false]
theorem sameL_at : ∀ (xs ys : List V) (j : Nat) (h1 : j < xs.length) (h2 : j < ys.length), same xs[j] ys[j] = false → sameL xs ys = false
  | x :: r, y :: s, 0, _, _, h => by rw [sameL_cons]; simp at h; rw [h, Bool.false_and]
  | x :: r, y :: s, j + 1, h1, h2, h => by rw [sameL_cons, sameL_at r s j (by simpa using h1) (by simpa using h2) (by simpa using h), Bool.and_false]
theorem sameL_all : ∀ (xs ys : List V), xs.length = ys.length → (∀ j (h1 : j < xs.length) (h2 : j < ys.length), same xs[j] ys[j] = true) → sameL xs ys = true
  | [], [], _, _ => rfl
  | [], _ :: _, h, _ => by simp at h
  | _ :: _, [], h, _ => by simp at h
  | x :: r, y :: s, h, ha => by
    rw [sameL_cons, sameL_all r s (by simpa using h) (fun j h1 h2 => by have := ha (j + 1) (by simpa using h1) (by simpa using h2); simpa using this)]
    have := ha 0 (by simp) (by simp)
    simp at this
    rw [this]; rfl
end V

/-- values lie in a row -/
def Items (w : World) (p : Option Addr) (xs : List V) : Prop := ∀ j (hj : j < xs.length), ∃ u', VLies w u' xs[j] ∧ Item w p j u'
theorem Items.on {w w' : World} {p : Option Addr} {xs : List V} (h : Items w p xs) (hb : Below w.heap.size w w') : Items w' p xs := fun j hj => by
  obtain ⟨u', h1, h2⟩ := h j hj
  exact ⟨u', h1.on hb, h2.on hb⟩

set_option maxRecDepth 100000 in
set_option maxHeartbeats 400000 in
theorem refSameList_of (xs : List V) (ih : ∀ x ∈ xs, ∀ (y : V) (w : World) (u v : Array Value), VLies w u x → VLies w v y → Calls Try.prog 18 #[.agg u, .agg v] w fun e w' => e = .returned (.bool (V.same x y)) ∧ Below w.heap.size w w')
    (ys : List V) (w : World) (p q : Option Addr) (c d : Nat) (hx : Items w p xs) (hy : Items w q ys) (hxl : xs.length * 64 ≤ 140737488351232) :
    Calls Try.prog 42 #[.slice p xs.length c, .slice q ys.length d] w fun e w' => e = .returned (.bool (V.sameL xs ys)) ∧ Below w.heap.size w w' := by
  by_cases h5 : ¬ xs.length = ys.length
  · have g5 : ((xs.length : Int) != (ys.length : Int)) = true := bne_t (by omega)
    have HE : Hid (V.sameL xs ys = false) := V.sameL_ne xs ys h5
    clear ih hx hy h5
    go_enter Try.func42, Try.ntmps42
    go_wp2
    go_ret
    exact ⟨by rw [HE.out]; rfl, Below.refl _ _⟩
  replace h5 : xs.length = ys.length := Classical.not_not.1 h5
  have g5 : ((xs.length : Int) != (ys.length : Int)) = false := bne_f (by omega)
  have HX := Lib.hid hx
  have HY := Lib.hid hy
  have HIH := Lib.hid ih
  have H5 := Lib.hid h5
  clear ih hx hy h5
  go_enter Try.func42, Try.ntmps42
  go_wp2
  go_loopw [5, 6] (fun v5 _ wr => ∃ j : Nat, j ≤ xs.length ∧ v5 = .int .i64 j ∧ Hid (Below w.heap.size w wr ∧ ∀ m (h1 : m < xs.length) (h2 : m < ys.length), m < j → V.same xs[m] ys[m] = true)) (fun v5 _ _ => xs.length - (intOf v5).toNat)
  case atStart => exact ⟨0, by omega, rfl, Below.refl _ _, fun m _ _ h => by omega⟩
  case round =>
    obtain ⟨j, hj, rfl, HL⟩ := hrel
    have hbw : Below w.heap.size w wr := HL.out.1
    by_cases hlt : j < xs.length
    · have hlt2 : j < ys.length := by have := H5.out; omega
      obtain ⟨ux, hvx, hix⟩ := HX.out j hlt
      obtain ⟨uy, hvy, hiy⟩ := HY.out j hlt2
      obtain ⟨bx, ox, kx, ix, fx, tx, qx, nx, cx, rfl, _, rfl, a0, a1, a2, a3, a4⟩ := (hix.on hbw).lies
      obtain ⟨by', oy, ky, iy, fy, ty, qy, ny, cy, rfl, _, rfl, b0, b1, b2, b3, b4⟩ := (hiy.on hbw).lies
      have HC : Hid (∀ w', Below w.heap.size w w' → Calls Try.prog 18 #[.agg #[.int .i64 kx, .int .i64 ix, .float .f64 fx, .string tx, .slice qx nx cx], .agg #[.int .i64 ky, .int .i64 iy, .float .f64 fy, .string ty, .slice qy ny cy]] w' fun e w'' => e = .returned (.bool (V.same xs[j] ys[j])) ∧ Below w'.heap.size w' w'') :=
        fun w' hb => HIH.out _ (List.getElem_mem hlt) ys[j] w' _ _ (hvx.on hb) (hvy.on hb)
      have HBw := Lib.hid hbw
      have HAll := Lib.hid HL.out.2
      have hj1 : (j : Int) < (xs.length : Int) := by omega
      have hj2 : (j : Int) < (ys.length : Int) := by omega
      obtain ⟨r, hr⟩ : ∃ r, r = V.same xs[j] ys[j] := ⟨_, rfl⟩
      rw [← hr] at HC
      have HRr := Lib.hid hr
      clear hvx hvy hix hiy hbw HL hr
      go_wp2_with fail
      go_region_held3 (fun w' => w'.cell? ⟨bx, ox + j * 5, none⟩ = some (.int .i64 kx) ∧ w'.cell? ⟨bx, ox + j * 5 + 1, none⟩ = some (.int .i64 ix) ∧ w'.cell? ⟨bx, ox + j * 5 + 2, none⟩ = some (.float .f64 fx) ∧ w'.cell? ⟨bx, ox + j * 5 + 3, none⟩ = some (.string tx) ∧ w'.cell? ⟨bx, ox + j * 5 + 4, none⟩ = some (.slice qx nx cx) ∧ w'.cell? ⟨by', oy + j * 5, none⟩ = some (.int .i64 ky) ∧ w'.cell? ⟨by', oy + j * 5 + 1, none⟩ = some (.int .i64 iy) ∧ w'.cell? ⟨by', oy + j * 5 + 2, none⟩ = some (.float .f64 fy) ∧ w'.cell? ⟨by', oy + j * 5 + 3, none⟩ = some (.string ty) ∧ w'.cell? ⟨by', oy + j * 5 + 4, none⟩ = some (.slice qy ny cy)) (go_keep) (first
        | (go_at_call 18; refine (HC.out _ (below_drewN HBw.out _)).mono ?_; rintro e w4 ⟨rfl, hb4⟩; have hb5 := below_via (w := wr) hb4 (by rfl) (by rfl) (by rfl) (by rfl); have z3 := cell_on hb5 a0; have z4 := cell_on hb5 a1; have z5 := cell_on hb5 a2; have z6 := cell_on hb5 a3; have z7 := cell_on hb5 a4; have z8 := cell_on hb5 b0; have z9 := cell_on hb5 b1; have z10 := cell_on hb5 b2; have z11 := cell_on hb5 b3; have z12 := cell_on hb5 b4; have HB4 := Lib.hid hb5; clear hb4 hb5))
      clear z3 z4 z5 z6 z7 z8 z9 z10 z11 z12 a0 a1 a2 a3 a4 b0 b1 b2 b3 b4
      cases r with
      | true =>
        have HN : Hid (Below w.heap.size w w4 ∧ ∀ m (h1 : m < xs.length) (h2 : m < ys.length), m < j + 1 → V.same xs[m] ys[m] = true) := by
          refine ⟨HBw.out.trans (HB4.out.mono HBw.out.size), fun m h1 h2 hm => ?_⟩
          by_cases hmj : m = j
          · subst hmj; exact HRr.out.symm
          · exact HAll.out m h1 h2 (by omega)
        clear HB4 HAll HC
        go_wp2
        go_roundw
        case rel => exact ⟨j + 1, by omega, by go_num, HN⟩
        case measure => simp [intOf]; omega
      | false =>
        have HE : Hid (V.sameL xs ys = false) := V.sameL_at xs ys j hlt hlt2 HRr.out.symm
        have HF := Lib.hid (HBw.out.trans (HB4.out.mono HBw.out.size))
        clear HB4 HAll HC
        go_wp2
        go_ret
        exact ⟨by rw [HE.out]; rfl, HF.out⟩
    · have HE : Hid (V.sameL xs ys = true) := V.sameL_all xs ys H5.out (fun m h1 h2 => HL.out.2 m h1 h2 (by omega))
      have HF := Lib.hid hbw
      have hjn : ¬ (j : Int) < (xs.length : Int) := by omega
      clear HL hbw hlt
      go_wp2
      go_ret
      exact ⟨by rw [HE.out]; rfl, HF.out⟩
theorem beq_t {a b : Int} (h : a = b) : (a == b) = true := by rw [h]; simp
theorem beq_f {a b : Int} (h : ¬ a = b) : (a == b) = false := by rw [beq_eq_false_iff_ne]; exact h

set_option maxRecDepth 100000 in
set_option maxHeartbeats 400000 in
theorem refSame6 : ∀ (x y : V) (w : World) (u v : Array Value), VLies w u x → VLies w v y → Calls Try.prog 18 #[.agg u, .agg v] w fun e w' => e = .returned (.bool (V.same x y)) ∧ Below w.heap.size w w' := by
  intro x
  refine V.ind (P := fun x => ∀ (y : V) (w : World) (u v : Array Value), VLies w u x → VLies w v y → Calls Try.prog 18 #[.agg u, .agg v] w fun e w' => e = .returned (.bool (V.same x y)) ∧ Below w.heap.size w w') ?_ x
  rintro k i b t xs ih ⟨k', i', b', t', ys⟩ w u v hx hy
  obtain ⟨p, c, rfl, hxl, hxc, hxi⟩ := hx.open
  obtain ⟨q, d, rfl, hyl, hyc, hyi⟩ := hy.open
  unfold cells5
  have hB2 : Below w.heap.size w ((w.alloc (.cells #[.int .i64 k, .int .i64 i, .float .f64 b, .string t, .slice p xs.length c] 28)).alloc (.cells #[.int .i64 k', .int .i64 i', .float .f64 b', .string t', .slice q ys.length d] 28)) := ((Below.refl _ _).alloc (Nat.le_refl _) _).alloc (by simp) _
  have HB2 := Lib.hid hB2
  clear hB2 hx hy
  by_cases h1 : ¬ k = k'
  · have g1 := beq_f h1
    have HE : Hid (V.same (.mk k i b t xs) (.mk k' i' b' t' ys) = false) := by show _ = _; simp [V.same_mk, h1]
    clear ih hxi hyi h1
    go_enter Try.func18, Try.ntmps18
    go_wp2_with fail
    refine (refSame_any b b' _).mono ?_
    rintro e w1 ⟨rfl, hw1⟩
    rw [hw1]
    clear hw1 w1
    go_wp2
    go_ret
    exact ⟨by rw [HE.out]; rfl, HB2.out⟩
  replace h1 : k = k' := Classical.not_not.1 h1
  have g1 := beq_t h1
  by_cases h2 : ¬ i = i'
  · have g2 := beq_f h2
    have HE : Hid (V.same (.mk k i b t xs) (.mk k' i' b' t' ys) = false) := by show _ = _; simp [V.same_mk, h2]
    clear ih hxi hyi h1 h2
    go_enter Try.func18, Try.ntmps18
    go_wp2_with fail
    refine (refSame_any b b' _).mono ?_
    rintro e w1 ⟨rfl, hw1⟩
    rw [hw1]
    clear hw1 w1
    go_wp2
    go_ret
    exact ⟨by rw [HE.out]; rfl, HB2.out⟩
  replace h2 : i = i' := Classical.not_not.1 h2
  have g2 := beq_t h2
  by_cases h3 : ¬ t = t'
  · have g3 : (t.toList == t'.toList) = false := by rw [text_eq, decide_eq_false h3]
    have HE : Hid (V.same (.mk k i b t xs) (.mk k' i' b' t' ys) = false) := by show _ = _; simp [V.same_mk, h3]
    clear ih hxi hyi h1 h2 h3
    go_enter Try.func18, Try.ntmps18
    go_wp2_with fail
    refine (refSame_any b b' _).mono ?_
    rintro e w1 ⟨rfl, hw1⟩
    rw [hw1]
    clear hw1 w1
    go_wp2
    go_ret
    exact ⟨by rw [HE.out]; rfl, HB2.out⟩
  replace h3 : t = t' := Classical.not_not.1 h3
  have g3 : (t.toList == t'.toList) = true := by rw [text_eq, decide_eq_true h3]
  by_cases h4 : ¬ fixB b = fixB b'
  · have g4 : ((fixB b : Int) == (fixB b' : Int)) = false := beq_f (by omega)
    have HE : Hid (V.same (.mk k i b t xs) (.mk k' i' b' t' ys) = false) := by show _ = _; simp [V.same_mk, h4]
    clear ih hxi hyi h1 h2 h3 h4
    go_enter Try.func18, Try.ntmps18
    go_wp2_with fail
    refine (refSame_any b b' _).mono ?_
    rintro e w1 ⟨rfl, hw1⟩
    rw [hw1]
    clear hw1 w1
    go_wp2
    go_ret
    exact ⟨by rw [HE.out]; rfl, HB2.out⟩
  replace h4 : fixB b = fixB b' := Classical.not_not.1 h4
  have g4 : ((fixB b : Int) == (fixB b' : Int)) = true := beq_t (by omega)
  have HE : Hid (V.same (.mk k i b t xs) (.mk k' i' b' t' ys) = V.sameL xs ys) := by show _ = _; simp [V.same_mk, h1, h2, h3, h4]
  have hC : ∀ w', Below w.heap.size w w' → Calls Try.prog 42 #[.slice p xs.length c, .slice q ys.length d] w' fun e w'' => e = .returned (.bool (V.sameL xs ys)) ∧ Below w'.heap.size w' w'' := fun w' hb => refSameList_of xs ih ys w' p q c d (Items.on hxi hb) (Items.on hyi hb) hxl
  have HC := Lib.hid hC
  clear ih hxi hyi h1 h2 h3 h4 hC
  go_enter Try.func18, Try.ntmps18
  go_wp2_with fail
  refine (refSame_any b b' _).mono ?_
  rintro e w1 ⟨rfl, hw1⟩
  rw [hw1]
  clear hw1 w1
  go_wp2_with fail
  refine (HC.out _ HB2.out).mono ?_
  rintro e w3 ⟨rfl, hb3⟩
  have HB3 := Lib.hid (HB2.out.trans (hb3.mono HB2.out.size))
  clear hb3
  go_wp2
  go_ret
  exact ⟨by rw [HE.out]; simp, HB3.out⟩

theorem refSameList6 (xs ys : List V) (w : World) (p q : Option Addr) (c d : Nat) (hx : Items w p xs) (hy : Items w q ys) (hxl : xs.length * 64 ≤ 140737488351232) :
    Calls Try.prog 42 #[.slice p xs.length c, .slice q ys.length d] w fun e w' => e = .returned (.bool (V.sameL xs ys)) ∧ Below w.heap.size w w' := refSameList_of xs (fun x _ => refSame6 x) ys w p q c d hx hy hxl

set_option maxHeartbeats 400000 in
theorem refSameRow6 (xs ys : List V) (w : World) (p q : Option Addr) (c d : Nat) (hx : Items w p xs) (hy : Items w q ys) (hxl : xs.length * 64 ≤ 140737488351232) :
    Calls Try.prog 16 #[.agg #[.slice p xs.length c], .agg #[.slice q ys.length d]] w fun e w' => e = .returned (.bool (V.sameL xs ys)) ∧ Below w.heap.size w w' := by
  have hB2 : Below w.heap.size w ((w.alloc (.cells #[.slice p xs.length c] 44)).alloc (.cells #[.slice q ys.length d] 44)) := ((Below.refl _ _).alloc (Nat.le_refl _) _).alloc (by simp) _
  have HB2 := Lib.hid hB2
  have HC := Lib.hid (refSameList6 xs ys _ p q c d (hx.on hB2) (hy.on hB2) hxl)
  clear hB2 hx hy
  go_enter Try.func16, Try.ntmps16
  go_wp2_with fail
  refine HC.out.mono ?_
  rintro e w3 ⟨rfl, hb3⟩
  have HB3 := Lib.hid (HB2.out.trans (hb3.mono HB2.out.size))
  clear hb3
  go_wp2
  go_ret
  exact ⟨rfl, HB3.out⟩
end Go.Proofs.Ytbedlaaedefclaa
