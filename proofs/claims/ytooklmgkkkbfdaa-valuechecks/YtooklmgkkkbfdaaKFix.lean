/- Package value's Fix. -/
import Derived.Test.YtooklmgkkkbfdaaWFixR
namespace Go.Proofs.Ytooklmgkkkbfdaa
open Go.RowKit

attribute [local go_sem] run_store_float

/-- while the items are fixed: the parameter stands in the first block, the answer's place in the next; j items are there -/
structure MakingK (w : World) (C0 : Array Value) (zs : List V) (j : Nat) (v : Value) (wr : World) : Prop where
  built : ∃ us Fs, Built wr (w.heap.size + 2) v j us Fs (zs.take j)
  b0 : wr.heap[w.heap.size]? = some (.cells C0 25 (0, 0))
  b1 : wr.heap[w.heap.size + 1]? = some (.cells (cells5 0 0 0 ⟨#[]⟩ none 0 0) 25 (0, 0))
  below : Below w.heap.size w wr
  size : w.heap.size + 2 ≤ wr.heap.size

section
variable {w wr : World} {C0 : Array Value} {zs : List V} {j : Nat} {v : Value}
theorem makingK_start (w : World) (C0 : Array Value) (zs : List V) :
    MakingK w C0 zs 0 (.slice none 0 0) ((w.alloc (.cells C0 25)).alloc (.cells (cells5 0 0 0 ⟨#[]⟩ none 0 0) 25)) := by
  refine ⟨⟨_, _, built_nil _ _⟩, ?_, ?_, (((Below.refl _ w).alloc (Nat.le_refl _) _).alloc (by simp) _), by simp⟩
  · rw [blk_old _ _ (by simp)]; exact blk_new w _
  · have := blk_new (w.alloc (.cells C0 25)) (.cells (cells5 0 0 0 ⟨#[]⟩ none 0 0) 25)
    simpa using this

theorem MakingK.slice (h : MakingK w C0 zs j v wr) : ∃ p c, v = .slice p j c := by
  obtain ⟨us, Fs, hb⟩ := h.built
  rcases hb.row.2 with ⟨h1, h2⟩ | ⟨g, cap, cur, h1, _⟩
  · exact ⟨none, 0, by rw [h1, h2]⟩
  · exact ⟨_, cap, h1⟩

theorem MakingK.next {w2 w3 w4 : World} {u : Array Value} {F : Nat → Prop} {g cap : Nat} {us : Nat → Array Value} {Fs : Nat → Nat → Prop} (h : MakingK w C0 zs j v wr) (hbt : Built wr (w.heap.size + 2) v j us Fs (zs.take j)) (hj : j < zs.length) (hb : Below wr.heap.size wr w2) (hx : VOwn w2 F u zs[j])
    (hF : ∀ k, F k → wr.heap.size ≤ k ∧ k < w2.heap.size) (hb3 : Below w2.heap.size w2 w3)
    (hr : w4.ownsRow (w.heap.size + 2) 25 5 (.slice (some ⟨g, 0, none⟩) (j + 1) cap) (j + 1) (flat us j ++ u.toList)) (hg : w3.grownBy w4 v.ownBlock) (hn : v.ownBlock = some g ∨ g = w3.heap.size) :
    MakingK w C0 zs (j + 1) (.slice (some ⟨g, 0, none⟩) (j + 1) cap) w4 := by
  have hs := h.size
  have hs2 := hb.size
  have hs3 := hb3.size
  have hst := hbt.step hb hx hF hb3 hs hr hg hn
  have hold : ∀ n, n < 2 → w4.heap[w.heap.size + n]? = wr.heap[w.heap.size + n]? := fun n hn => by
    rw [hg.block _ (by omega) (fun hc => by have := (hbt.lt _ hc.symm).1; omega), hb3.block _ (by omega), hb.block _ (by omega)]
  have hb4 : Below w.heap.size w w4 := ((h.below.trans (hb.mono (by omega))).trans (hb3.mono (by omega))).grown hg (by omega) (fun k hk => by have := (hbt.lt k hk).1; omega)
  refine ⟨⟨(fun n => if n = j then u else us n), (fun n => if n = j then F else Fs n), ?_⟩, ?_, ?_, hb4, ?_⟩
  · rw [List.take_succ_eq_append_getElem hj]
    exact hst
  · have := hold 0 (by omega)
    rw [Nat.add_zero] at this
    exact this.trans h.b0
  · exact (hold 1 (by omega)).trans h.b1
  · have := hg.size
    omega

theorem MakingK.finish {k i : Int} {b : Nat} {t : ByteArray} {s : Value} {q : Option Addr} {d : Nat} (h : MakingK w #[.int .i64 k, .int .i64 i, .float .f64 b, .string t, s] zs j (.slice q j d) wr) (hj : j = zs.length) (hl : j * 64 ≤ 140737488351232) (b' : Nat) :
    (put5 ((wr.setCell ⟨w.heap.size, 2, none⟩ (.float .f64 b')).setCell ⟨w.heap.size, 4, none⟩ (.slice q j d)) (w.heap.size + 1) k i b' t (.slice q j d)).heap[w.heap.size + 1]? = some (.cells (cells5 k i b' t q j d) 25 (0, 0)) ∧ Fresh w (.mk k i b' t zs) (.returned (.agg (cells5 k i b' t q j d))) (put5 ((wr.setCell ⟨w.heap.size, 2, none⟩ (.float .f64 b')).setCell ⟨w.heap.size, 4, none⟩ (.slice q j d)) (w.heap.size + 1) k i b' t (.slice q j d)) := by
  have hb1 := blk_set_far (blk_set_far h.b1 ⟨w.heap.size, 2, none⟩ (.float .f64 b') (by show w.heap.size + 1 ≠ w.heap.size; omega)) ⟨w.heap.size, 4, none⟩ (.slice q j d) (by show w.heap.size + 1 ≠ w.heap.size; omega)
  unfold put5
  refine ⟨?_, _, rfl, ?_, ?_⟩
  · rw [blk_set (blk_set (blk_set (blk_set (blk_set hb1 0 _) 1 _) 2 _) 3 _) 4 _]
    rfl
  · obtain ⟨us, Fs, hb⟩ := h.built
    have hp0 : ∀ m, (⟨w.heap.size, m, none⟩ : Addr).block < w.heap.size + 2 := fun m => by show w.heap.size < _; omega
    have hp : ∀ m, (⟨w.heap.size + 1, m, none⟩ : Addr).block < w.heap.size + 2 := fun m => by show w.heap.size + 1 < _; omega
    have h5 := ((((((hb.set ⟨w.heap.size, 2, none⟩ (.float .f64 b') (hp0 2)).set ⟨w.heap.size, 4, none⟩ (.slice q j d) (hp0 4)).set ⟨w.heap.size + 1, 0, none⟩ (.int .i64 k) (hp 0)).set ⟨w.heap.size + 1, 1, none⟩ (.int .i64 i) (hp 1)).set ⟨w.heap.size + 1, 2, none⟩ (.float .f64 b') (hp 2)).set ⟨w.heap.size + 1, 3, none⟩ (.string t) (hp 3)).set ⟨w.heap.size + 1, 4, none⟩ (.slice q j d) (hp 4)
    obtain ⟨p', c', he, hv⟩ := h5.done hl k i b' t
    injection he with h6 h7 h8
    subst h6 h8
    rw [hj, List.take_length] at hv
    rw [← hj] at hv
    exact hv.mono fun k hk => ⟨by omega, hk.2⟩
  · have hp0 : ∀ m, w.heap.size ≤ (⟨w.heap.size, m, none⟩ : Addr).block := fun m => Nat.le_refl _
    have hp : ∀ m, w.heap.size ≤ (⟨w.heap.size + 1, m, none⟩ : Addr).block := fun m => by show _ ≤ w.heap.size + 1; omega
    exact ((((((h.below.setCell (hp0 2) _).setCell (hp0 4) _).setCell (hp 0) _).setCell (hp 1) _).setCell (hp 2) _).setCell (hp 3) _).setCell (hp 4) _
end

set_option maxRecDepth 100000 in
set_option maxHeartbeats 1000000 in
theorem fixK : ∀ (x : V) (w : World) (u : Array Value), VLies w u x → Calls Try.prog 14 #[.agg u] w (Fresh w (V.fix x)) := by
  intro x
  refine V.ind (P := fun x => ∀ (w : World) (u : Array Value), VLies w u x → Calls Try.prog 14 #[.agg u] w (Fresh w (V.fix x))) ?_ x
  intro k i b t xs ih w u hx
  rw [V.fix_mk]
  obtain ⟨p, c, rfl, hl, hc, hxi⟩ := hx.open
  unfold cells5
  have HIH := Lib.hid ih
  have HX : Hid (∀ j (hj : j < xs.length), ∃ u', VLies w u' xs[j] ∧ Item w p j u') := hxi
  clear ih hxi hx
  go_enter Try.func14, Try.ntmps14
  go_wp2_with fail
  go_loopw [3, 9] (fun v3 v9 wr => ∃ (j : Nat) (q : Option Addr) (d : Nat), j ≤ xs.length ∧ v9 = .int .i64 j ∧ v3 = .slice q j d ∧ Hid (MakingK w #[.int .i64 k, .int .i64 i, .float .f64 b, .string t, .slice p xs.length c] (V.fixL xs) j (.slice q j d) wr)) (fun _ v9 _ => xs.length - (intOf v9).toNat)
  case atStart => exact ⟨0, none, 0, by omega, rfl, rfl, makingK_start w _ _⟩
  case round =>
    obtain ⟨j, q, d, hj, rfl, rfl, HM⟩ := hrel
    by_cases hlt : j < xs.length
    · obtain ⟨ux, hvx, hix⟩ := HX.out j hlt
      obtain ⟨bx, ox, kx, ix, fx, tx, qx, nx, cx, rfl, _, rfl, a0, a1, a2, a3, a4⟩ := (hix.on HM.out.below).lies
      have HC : Hid (∀ w', Below wr.heap.size wr w' → Calls Try.prog 14 #[.agg #[.int .i64 kx, .int .i64 ix, .float .f64 fx, .string tx, .slice qx nx cx]] w' (Fresh w' (V.fix xs[j]))) := fun w' hb => HIH.out _ (List.getElem_mem hlt) w' _ ((hvx.on HM.out.below).on hb)
      have hj1 : (j : Int) < (xs.length : Int) := by omega
      have HBa : Hid (∀ o, Below wr.heap.size wr (wr.alloc o)) := fun o => (Below.refl _ _).alloc (Nat.le_refl _) o
      clear hvx hix
      go_wp2_with fail
      refine (HC.out _ (HBa.out _)).mono ?_
      rintro e w2 ⟨u', rfl, hv, hb2⟩
      obtain ⟨k', i', b', t', p', n', c', rfl⟩ := hv.shape
      obtain ⟨us, Fs, hbt⟩ := HM.out.built
      have hb2' : Below wr.heap.size wr w2 := (HBa.out _).trans (hb2.mono (by simp))
      have HV := Lib.hid (hv.mono (G := fun k => wr.heap.size ≤ k ∧ k < w2.heap.size) fun k hk => ⟨by have := hk.1; simp at this; omega, hk.2⟩)
      have HB2 := Lib.hid hb2'
      have HBt := Lib.hid hbt
      have hsz : w.heap.size + 2 ≤ w2.heap.size := Nat.le_trans HM.out.size hb2'.size
      have hjl : (V.fixL xs).length = xs.length := by rw [V.fixL_eq, List.length_map]
      have hfj : (V.fixL xs)[j]'(by omega) = V.fix xs[j] := by simp [V.fixL_eq]
      have HFJ := Lib.hid hfj
      clear hv hb2 hb2' hbt a0 a1 a2 a3 a4 HC hfj HBa
      unfold cells5 at HV ⊢
      have HB3 : Hid (Below w2.heap.size w2 (w2.alloc (.cells #[.int .i64 k', .int .i64 i', .float .f64 b', .string t', .slice p' n' c'] 25))) := (Below.refl _ _).alloc (Nat.le_refl _) _
      go_wp2_with (at_builtin; refine wp_more (B := w.heap.size + 2) (us := us) ((HBt.out.on HB2.out).on HB3.out).row (u := #[.int .i64 k', .int .i64 i', .float .f64 b', .string t', .slice p' n' c']) rfl (one5 HV.out) (ad := w2.heap.size) (blk_new w2 _) (by omega) (by simp; omega) rfl rfl rfl rfl rfl ?_
                   intro g2 cap2 w4 hr4 hg4 hn4
                   have HMK := Lib.hid (HM.out.next HBt.out (by omega) HB2.out (by rw [HFJ.out]; exact HV.out) (fun _ h => h) HB3.out hr4 hg4 hn4)
                   clear hr4 hg4 hn4)
      go_roundw
      case rel => exact ⟨j + 1, _, _, by omega, by go_num, rfl, HMK⟩
      case measure => simp [intOf]; omega
    · have hjn : ¬ (j : Int) < (xs.length : Int) := by omega
      have hjj : j = xs.length := by omega
      have e0 : wr.cell? ⟨w.heap.size, 0, none⟩ = some (.int .i64 k) := blk_cell HM.out.b0 0
      have e1 : wr.cell? ⟨w.heap.size, 1, none⟩ = some (.int .i64 i) := blk_cell HM.out.b0 1
      have e2 : wr.cell? ⟨w.heap.size, 2, none⟩ = some (.float .f64 b) := blk_cell HM.out.b0 2
      have e3 : wr.cell? ⟨w.heap.size, 3, none⟩ = some (.string t) := blk_cell HM.out.b0 3
      have e4 : wr.cell? ⟨w.heap.size, 4, none⟩ = some (.slice p xs.length c) := blk_cell HM.out.b0 4
      have f2 := blk_free HM.out.b0 2
      have f4 := blk_free HM.out.b0 4
      have r0 : wr.cell? ⟨w.heap.size + 1, 0, none⟩ = some (.int .i64 0) := blk_cell HM.out.b1 0
      have r1 : wr.cell? ⟨w.heap.size + 1, 1, none⟩ = some (.int .i64 0) := blk_cell HM.out.b1 1
      have r2 : wr.cell? ⟨w.heap.size + 1, 2, none⟩ = some (.float .f64 0) := blk_cell HM.out.b1 2
      have r3 : wr.cell? ⟨w.heap.size + 1, 3, none⟩ = some (.string ⟨#[]⟩) := blk_cell HM.out.b1 3
      have r4 : wr.cell? ⟨w.heap.size + 1, 4, none⟩ = some (.slice none 0 0) := blk_cell HM.out.b1 4
      have s0 := blk_free HM.out.b1 0
      have s1 := blk_free HM.out.b1 1
      have s2 := blk_free HM.out.b1 2
      have s3 := blk_free HM.out.b1 3
      have s4 := blk_free HM.out.b1 4
      have hfl : (V.fixL xs).length = xs.length := by rw [V.fixL_eq, List.length_map]
      have HF := Lib.hid (HM.out.finish (by omega) (by omega) (fixB b))
      subst hjj
      go_wp2_with fail
      refine (realFix_any b _).mono ?_
      rintro e w1 ⟨rfl, hw1⟩
      rw [hw1]
      clear hw1 w1
      go_wp2
      refine bodyPost_ret (v := .agg (cells5 k i (fixB b) t q xs.length d)) (results_cell_row rfl _ _ (w.heap.size + 1) _ _ _ _ rfl HF.out.1 Try.underlying25 rfl (by kernel_rfl)) rfl ?_
      exact HF.out.2
end Go.Proofs.Ytooklmgkkkbfdaa
