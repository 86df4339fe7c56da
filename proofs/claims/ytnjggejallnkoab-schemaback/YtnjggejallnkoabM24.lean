/- WValue7, WKind7, WLive7: put together. -/
import Derived.Test.YtnjggejallnkoabM05
import Derived.Deep.RegionLaw
import Derived.Test.YtnjggejallnkoabM23
import Derived.Test.YtnjggejallnkoabM06
import Derived.Test.YtnjggejallnkoabM22
import Derived.Test.YtnjggejallnkoabM17

/- The law's own value(v). -/
namespace Go.Proofs.Ytnjggejallnkoab
open Go.RowKit

attribute [local go_sem] run_store_float

theorem fresh_from {w W w2 : World} {y : V} {e : Ending} (h : Fresh W y e w2) (h1 : W.os = w.os) (h2 : W.tape = w.tape) (h3 : W.output = w.output) (h4 : W.heap = w.heap) : Fresh w y e w2 := by
  obtain ⟨u', rfl, hv, hb⟩ := h
  rw [h4] at hv hb
  exact ⟨u', rfl, hv, below_via hb h1 h2 h3 h4⟩

set_option maxRecDepth 100000 in
set_option maxHeartbeats 1000000 in
theorem value7 : ∀ (x : V) (w : World) (u : Array Value), VLies w u x → Calls Try.prog 19 #[.agg u] w (Fresh w x) := by
  intro x
  refine V.ind (P := fun x => ∀ (w : World) (u : Array Value), VLies w u x → Calls Try.prog 19 #[.agg u] w (Fresh w x)) ?_ x
  intro k i b t xs ih w u hx
  obtain ⟨p, c, rfl, hl, hc, hxi⟩ := hx.open
  unfold cells5
  have HIH := Lib.hid ih
  have HX : Hid (∀ j (hj : j < xs.length), ∃ u', VLies w u' xs[j] ∧ Item w p j u') := hxi
  clear ih hxi hx
  go_enter Try.func19, Try.ntmps19
  go_wp2_with fail
  go_loopw [4] (fun v4 wr => ∃ (j : Nat) (q : Option Addr) (d : Nat), j ≤ xs.length ∧ v4 = .int .i64 j ∧ Hid (Making w #[.int .i64 k, .int .i64 i, .float .f64 b, .string t, .slice p xs.length c] k i b t xs j (.slice q j d) wr)) (fun v4 _ => xs.length - (intOf v4).toNat)
  case atStart => exact ⟨0, none, 0, by omega, rfl, making_start w _ k i b t _⟩
  case round =>
    obtain ⟨j, q, d, hj, rfl, HM⟩ := hrel
    have c0 : wr.cell? ⟨w.heap.size, 4, none⟩ = some (.slice p xs.length c) := blk_cell HM.out.b0 4
    have c2 : wr.cell? ⟨w.heap.size + 1 + 1, 4, none⟩ = some (.slice q j d) := blk_cell HM.out.b2 4
    by_cases hlt : j < xs.length
    · obtain ⟨ux, hvx, hix⟩ := HX.out j hlt
      obtain ⟨bx, ox, kx, ix, fx, tx, qx, nx, cx, rfl, hbx, rfl, y0, y1, y2, y3, y4⟩ := hix.lies
      have HY := Lib.hid (And.intro y0 (And.intro y1 (And.intro y2 (And.intro y3 y4))))
      have a0 := cell_on HM.out.below y0
      have a1 := cell_on HM.out.below y1
      have a2 := cell_on HM.out.below y2
      have a3 := cell_on HM.out.below y3
      have a4 := cell_on HM.out.below y4
      have hn1 : ¬ bx = w.heap.size + 1 + 1 := by omega
      have hn2 : ¬ w.heap.size = w.heap.size + 1 + 1 := by omega
      clear y0 y1 y2 y3 y4
      have HC : Hid (∀ w', Below w.heap.size w w' → Calls Try.prog 19 #[.agg #[.int .i64 kx, .int .i64 ix, .float .f64 fx, .string tx, .slice qx nx cx]] w' (Fresh w' xs[j])) := fun w' hb => HIH.out _ (List.getElem_mem hlt) w' _ (hvx.on hb)
      have HBw := Lib.hid HM.out.below
      have hj1 : (j : Int) < (xs.length : Int) := by omega
      obtain ⟨us, Fs, hbt⟩ := HM.out.built
      have HBt := Lib.hid hbt
      clear hvx hix hbt
      go_wp2_with fail
      go_region_law (first
        | (refine step_call1 (.tmp 20) 46 (by rfl) (by rfl) (by rfl) Try.func19 (by kernel_rfl) (by rfl) (HC.out _ HBw.out.drew) ?_
           intro e w2 hf
           obtain ⟨u', rfl, hv, hb2⟩ := fresh_from (w := wr) hf (by rfl) (by rfl) (by rfl) (by rfl)
           obtain ⟨k', i', b', t', p', n', c', rfl⟩ := hv.shape
           refine ⟨_, rfl, ?_⟩
           unfold cells5 at hv ⊢
           have z2 := cell_on hb2 c2
           have z3 : ∀ o, (w2.alloc o).cell? ⟨w.heap.size + 1 + 1, 4, none⟩ = some (.slice q j d) := fun o => cell_on (hb2.alloc hb2.size o) c2
           have HV := Lib.hid hv
           have HB2 := Lib.hid hb2
           have HB3 : Hid (Below w2.heap.size w2 (w2.alloc (.cells #[.int .i64 k', .int .i64 i', .float .f64 b', .string t', .slice p' n' c'] 46))) := (Below.refl _ _).alloc (Nat.le_refl _) _
           have hsz : w.heap.size + 3 ≤ w2.heap.size := Nat.le_trans HM.out.size HB2.out.size
           clear hv hb2 hf)
        | (refine step_more (B := w.heap.size + 3) (us := us) (v := .slice q j d) (n := j) (by exact ((HBt.out.on HB2.out).on HB3.out).row) (u := #[.int .i64 k', .int .i64 i', .float .f64 b', .string t', .slice p' n' c']) rfl (one5 HV.out) (ad := w2.heap.size) (by exact blk_new w2 _) (by omega) (by simp; omega) (H := w2.heap.size + 1) (by simp) (.tmp 15) (.tmp 22) (by rfl) (by rfl) (by rfl) (by rfl) ?_
           intro g2 cap2 w4 hr4 hg4 hn4
           obtain ⟨hb4, hold, hmk⟩ := HM.out.next (w3 := w2.alloc (.cells #[.int .i64 k', .int .i64 i', .float .f64 b', .string t', .slice p' n' c'] 46)) HBt.out hlt HB2.out HV.out (fun _ h => h) HB3.out hr4 (by exact ⟨hg4.os, hg4.tape, hg4.output, hg4.size, hg4.block⟩) (by simpa using hn4)
           have f4 : w4.frozen? ⟨w.heap.size + 1 + 1, 4, none⟩ = false := blk_free ((hold 2 (by omega)).trans HM.out.b2) 4
           have g4 : w4.cell? ⟨w.heap.size + 1 + 1, 4, none⟩ = some (.slice q j d) := blk_cell ((hold 2 (by omega)).trans HM.out.b2) 4
           have HMK := Lib.hid hmk
           clear hb4 hold hmk hr4 hg4 hn4))
      all_goals
        go_wp2
        go_roundw
        case rel => exact ⟨j + 1, _, _, by omega, by go_num, HMK⟩
        case measure => simp [intOf]; omega
    · have hjn : ¬ (j : Int) < (xs.length : Int) := by omega
      have hjj : j = xs.length := by omega
      have e0 : wr.cell? ⟨w.heap.size + 1 + 1, 0, none⟩ = some (.int .i64 k) := blk_cell HM.out.b2 0
      have e1 : wr.cell? ⟨w.heap.size + 1 + 1, 1, none⟩ = some (.int .i64 i) := blk_cell HM.out.b2 1
      have e2 : wr.cell? ⟨w.heap.size + 1 + 1, 2, none⟩ = some (.float .f64 b) := blk_cell HM.out.b2 2
      have e3 : wr.cell? ⟨w.heap.size + 1 + 1, 3, none⟩ = some (.string t) := blk_cell HM.out.b2 3
      have r0 : wr.cell? ⟨w.heap.size + 1, 0, none⟩ = some (.int .i64 0) := blk_cell HM.out.b1 0
      have r1 : wr.cell? ⟨w.heap.size + 1, 1, none⟩ = some (.int .i64 0) := blk_cell HM.out.b1 1
      have r2 : wr.cell? ⟨w.heap.size + 1, 2, none⟩ = some (.float .f64 0) := blk_cell HM.out.b1 2
      have r3 : wr.cell? ⟨w.heap.size + 1, 3, none⟩ = some (.string ⟨#[]⟩) := blk_cell HM.out.b1 3
      have r4 : wr.cell? ⟨w.heap.size + 1, 4, none⟩ = some (.slice none 0 0) := blk_cell HM.out.b1 4
      have s0 := blk_free HM.out.b1 0
      have s1 := blk_free HM.out.b1 1
      have s2 := blk_free HM.out.b1 2
      have s3 := blk_free HM.out.b1 3
      have s4 := blk_free HM.out.b1 4
      have HF := Lib.hid (HM.out.finish (by omega) (by omega))
      subst hjj
      go_wp2
      refine bodyPost_ret (v := .agg (cells5 k i b t q xs.length d)) (results_cell_row rfl _ _ (w.heap.size + 1) _ _ _ _ rfl HF.out.1 Try.underlying46 rfl (by kernel_rfl)) rfl ?_
      exact HF.out.2
end Go.Proofs.Ytnjggejallnkoab

/- The law's own kind(t). -/
namespace Go.Proofs.Ytnjggejallnkoab
open Go.RowKit

theorem freshT_from {w W w2 : World} {y : Ty} {e : Ending} (h : FreshT W y e w2) (h1 : W.os = w.os) (h2 : W.tape = w.tape) (h3 : W.output = w.output) (h4 : W.heap = w.heap) : FreshT w y e w2 := by
  obtain ⟨u', rfl, hv, hb⟩ := h
  rw [h4] at hv hb
  exact ⟨u', rfl, hv, below_via hb h1 h2 h3 h4⟩

set_option maxRecDepth 100000 in
set_option maxHeartbeats 1000000 in
theorem kind7 : ∀ (x : Ty) (w : World) (u : Array Value), TLies w u x → Calls Try.prog 18 #[.agg u] w (FreshT w x) := by
  intro x
  refine Ty.ind (P := fun x => ∀ (w : World) (u : Array Value), TLies w u x → Calls Try.prog 18 #[.agg u] w (FreshT w x)) ?_ x
  intro k xs ih w u hx
  obtain ⟨p, c, rfl, hl, hc, hxi⟩ := hx.open
  unfold cells2
  have HIH := Lib.hid ih
  have HX : Hid (∀ j (hj : j < xs.length), ∃ u', TLies w u' xs[j] ∧ ItemT w p j u') := hxi
  clear ih hxi hx
  go_enter Try.func18, Try.ntmps18
  go_wp2_with fail
  go_loopw [4] (fun v4 wr => ∃ (j : Nat) (q : Option Addr) (d : Nat), j ≤ xs.length ∧ v4 = .int .i64 j ∧ Hid (MakingT w #[.int .i64 k, .slice p xs.length c] k xs j (.slice q j d) wr)) (fun v4 _ => xs.length - (intOf v4).toNat)
  case atStart => exact ⟨0, none, 0, by omega, rfl, makingT_start w _ k _⟩
  case round =>
    obtain ⟨j, q, d, hj, rfl, HM⟩ := hrel
    have c0 : wr.cell? ⟨w.heap.size, 1, none⟩ = some (.slice p xs.length c) := blk_cell HM.out.b0 1
    have c2 : wr.cell? ⟨w.heap.size + 1 + 1, 1, none⟩ = some (.slice q j d) := blk_cell HM.out.b2 1
    by_cases hlt : j < xs.length
    · obtain ⟨ux, hvx, hix⟩ := HX.out j hlt
      obtain ⟨bx, ox, kx, qx, nx, cx, rfl, hbx, rfl, y0, y1⟩ := hix.lies
      have HY := Lib.hid (And.intro y0 y1)
      have a0 := cell_on HM.out.below y0
      have a1 := cell_on HM.out.below y1
      have hn1 : ¬ bx = w.heap.size + 1 + 1 := by omega
      have hn2 : ¬ w.heap.size = w.heap.size + 1 + 1 := by omega
      clear y0 y1
      have HC : Hid (∀ w', Below w.heap.size w w' → Calls Try.prog 18 #[.agg #[.int .i64 kx, .slice qx nx cx]] w' (FreshT w' xs[j])) := fun w' hb => HIH.out _ (List.getElem_mem hlt) w' _ (hvx.on hb)
      have HBw := Lib.hid HM.out.below
      have hj1 : (j : Int) < (xs.length : Int) := by omega
      obtain ⟨us, Fs, hbt⟩ := HM.out.built
      have HBt := Lib.hid hbt
      clear hvx hix hbt
      go_wp2_with fail
      go_region_law (first
        | (refine step_call1 (.tmp 21) 42 (by rfl) (by rfl) (by rfl) Try.func18 (by kernel_rfl) (by rfl) (HC.out _ HBw.out.drew) ?_
           intro e w2 hf
           obtain ⟨u', rfl, hv, hb2⟩ := freshT_from (w := wr) hf (by rfl) (by rfl) (by rfl) (by rfl)
           obtain ⟨k', p', n', c', rfl⟩ := hv.shape
           refine ⟨_, rfl, ?_⟩
           unfold cells2 at hv ⊢
           have z2 := cell_on hb2 c2
           have z3 : ∀ o, (w2.alloc o).cell? ⟨w.heap.size + 1 + 1, 1, none⟩ = some (.slice q j d) := fun o => cell_on (hb2.alloc hb2.size o) c2
           have HV := Lib.hid hv
           have HB2 := Lib.hid hb2
           have HB3 : Hid (Below w2.heap.size w2 (w2.alloc (.cells #[.int .i64 k', .slice p' n' c'] 42))) := (Below.refl _ _).alloc (Nat.le_refl _) _
           have hsz : w.heap.size + 3 ≤ w2.heap.size := Nat.le_trans HM.out.size HB2.out.size
           clear hv hb2 hf)
        | (refine step_moreT (B := w.heap.size + 3) (us := us) (v := .slice q j d) (n := j) (by exact ((HBt.out.on HB2.out).on HB3.out).row) (u := #[.int .i64 k', .slice p' n' c']) rfl (one2 HV.out) (ad := w2.heap.size) (by exact blk_new w2 _) (by omega) (by simp; omega) (H := w2.heap.size + 1) (by simp) (.tmp 16) (.tmp 23) (by rfl) (by rfl) (by rfl) (by rfl) ?_
           intro g2 cap2 w4 hr4 hg4 hn4
           obtain ⟨hb4, hold, hmk⟩ := HM.out.next (w3 := w2.alloc (.cells #[.int .i64 k', .slice p' n' c'] 42)) HBt.out hlt HB2.out HV.out (fun _ h => h) HB3.out hr4 (by exact ⟨hg4.os, hg4.tape, hg4.output, hg4.size, hg4.block⟩) (by simpa using hn4)
           have f4 : w4.frozen? ⟨w.heap.size + 1 + 1, 1, none⟩ = false := blk_free ((hold 2 (by omega)).trans HM.out.b2) 1
           have g4 : w4.cell? ⟨w.heap.size + 1 + 1, 1, none⟩ = some (.slice q j d) := blk_cell ((hold 2 (by omega)).trans HM.out.b2) 1
           have HMK := Lib.hid hmk
           clear hb4 hold hmk hr4 hg4 hn4))
      all_goals
        go_wp2
        go_roundw
        case rel => exact ⟨j + 1, _, _, by omega, by go_num, HMK⟩
        case measure => simp [intOf]; omega
    · have hjn : ¬ (j : Int) < (xs.length : Int) := by omega
      have hjj : j = xs.length := by omega
      have e0 : wr.cell? ⟨w.heap.size + 1 + 1, 0, none⟩ = some (.int .i64 k) := blk_cell HM.out.b2 0
      have r0 : wr.cell? ⟨w.heap.size + 1, 0, none⟩ = some (.int .i64 0) := blk_cell HM.out.b1 0
      have r1 : wr.cell? ⟨w.heap.size + 1, 1, none⟩ = some (.slice none 0 0) := blk_cell HM.out.b1 1
      have s0 := blk_free HM.out.b1 0
      have s1 := blk_free HM.out.b1 1
      have HF := Lib.hid (HM.out.finish (by omega) (by omega))
      subst hjj
      go_wp2
      refine bodyPost_ret (v := .agg (cells2 k q xs.length d)) (results_cell_row rfl _ _ (w.heap.size + 1) _ _ _ _ rfl HF.out.1 Try.underlying42 rfl (by kernel_rfl)) rfl ?_
      exact HF.out.2
end Go.Proofs.Ytnjggejallnkoab

/- The law's own small(), live(). -/
namespace Go.Proofs.Ytnjggejallnkoab
open Go.RowKit

attribute [local go_sem] run_store_float

/-- the chapter's example -/
def smallA : Col := ⟨⟨#[97]⟩, .mk 2 [], false, V0⟩
def smallB : Col := ⟨⟨#[98]⟩, .mk 6 [.mk 4 []], true, .mk 6 0 0 ⟨#[]⟩ []⟩
def smallS : List Col := [smallA, smallB]

theorem tl_leaf (w : World) (k : Int) (p : Option Addr) (c : Nat) : TLies w (cells2 k p 0 c) (.mk k []) := .mk (xs := []) (fun _ => #[]) (by simp) (by simp) (fun hc => absurd rfl hc) (fun j hj => by simp at hj)
theorem vl_leaf (w : World) (k i : Int) (b : Nat) (t : ByteArray) (p : Option Addr) (c : Nat) : VLies w (cells5 k i b t p 0 c) (.mk k i b t []) := .mk (xs := []) (fun _ => #[]) (by simp) (by simp) (fun hc => absurd rfl hc) (fun j hj => by simp at hj)
theorem tl_one {w : World} {g : Nat} {u : Array Value} {T : TypeId} {x : Ty} (hg : w.heap[g]? = some (.cells u T (0, 0))) (hx : TLies w u x) (k : Int) : TLies w (cells2 k (some ⟨g, 0, none⟩) 1 1) (.mk k [x]) := by
  refine .mk (xs := [x]) (fun _ => u) (by simp) (by simp) (fun _ => ⟨g, 0, rfl, (Array.getElem?_eq_some_iff.1 hg).1, fun j hj m hm => ?_⟩) (fun j hj => ?_)
  · have hj0 : j = 0 := by simp at hj; omega
    subst hj0
    simp [World.cell?, hg]
  · have hj0 : j = 0 := by simp at hj; omega
    subst hj0
    exact hx

theorem smallA_err : Sch.colErr [] smallA = 0 := by
  refine Sch.col_make (by kernel_rfl) rfl (Sch.ty_leaf (by omega) (by omega) (by omega)) (fun _ => Sch.v0_fix) (fun h => by cases h)
theorem smallB_err : Sch.colErr [smallA] smallB = 0 := by
  refine Sch.col_make (by kernel_rfl) (by kernel_rfl) (Sch.ty_one (by omega) (by omega) (Sch.ty_leaf (by omega) (by omega) (by omega))) (fun h => by cases h) (fun _ => ⟨?_, ?_⟩)
  · exact Sch.chk_make (by omega) (by kernel_rfl) (Nat.zero_le _) (by simp) (fun h => by cases h) (fun x hx => by cases hx)
  · show Sch.of (.mk 6 0 0 ⟨#[]⟩ []) _ = true
    rw [Sch.of_mk]
    rfl
theorem small_bytes : Sch.bytes smallS = [2, 1, 97, 2, 0, 1, 98, 6, 4, 1, 0] := by
  unfold Sch.bytes smallS smallA smallB Sch.cB
  simp only [List.map_cons, List.map_nil, Sch.tyB_mk, Sch.vB_mk]
  kernel_rfl
theorem small_err : Sch.err smallS = 0 := Sch.err_make (by decide) (by decide) (by
  unfold smallS
  rw [Sch.colsErr, if_pos smallA_err, Sch.colsErr, List.nil_append, if_pos smallB_err, Sch.colsErr]) (by rw [small_bytes]; decide)
theorem small_wf : ∀ c ∈ smallS, c.wf := by
  intro c hc
  unfold smallS at hc
  rcases List.mem_cons.1 hc with rfl | hc
  · exact ⟨by decide, Ty.wf_mk.2 ⟨by omega, fun x hx => by cases hx⟩, Sch.v0_wf⟩
  · rcases List.mem_cons.1 hc with rfl | hc
    · exact ⟨by decide, Ty.wf_mk.2 ⟨by omega, fun x hx => by
        rcases List.mem_cons.1 hx with rfl | hx
        · exact Ty.wf_mk.2 ⟨by omega, fun x hx => by cases hx⟩
        · cases hx⟩, V.wf_mk.2 ⟨by omega, by omega, by omega, Nat.zero_le _, fun x hx => by cases hx⟩⟩
    · cases hc
theorem small_fix : smallS.map Col.fix = smallS := by
  unfold smallS smallA smallB
  simp only [List.map_cons, List.map_nil, Col.fix, Sch.v0_fix, V.fix_mk, Sch.fixB_zero]
  rfl
theorem small_read : Sch.read [2, 1, 97, 2, 0, 1, 98, 6, 4, 1, 0] = .ok smallS := by
  rw [← small_bytes, Sch.read_put small_err small_wf, small_fix]
theorem none_read : Sch.read [] = .error 30 := by kernel_rfl
theorem small_find : Sch.find ⟨#[98]⟩ smallS 0 = some 1 := by
  unfold smallS
  rw [Sch.find, if_neg (by decide), Sch.find]
  exact if_pos rfl
theorem small_same : Sch.same smallS smallS = true := (Sch.same_fix _ _).2 rfl
theorem small_whole : wholeL smallS smallS = true := (wholeL_iff _ _).2 rfl
theorem none_err : Sch.err [] = 4 := by kernel_rfl

set_option maxRecDepth 100000 in
set_option maxHeartbeats 1000000 in
theorem small7 (w : World) : Calls Try.prog 25 #[] w fun e w' => ∃ p c, e = .returned (.agg #[.slice p 2 c]) ∧ Cols w' p smallS ∧ 2 ≤ c ∧ Below w.heap.size w w' := by
  obtain ⟨W, hW⟩ : ∃ W, W = (((w.alloc (.cells #[.slice (some ⟨w.heap.size + 1 + 1 + 1, 0, none⟩) 2 2] 24)).alloc (.cells #[.int .i64 4, .slice none 0 0] 42)).alloc (.cells #[.int .i64 6, .slice (some ⟨w.heap.size + 1, 0, none⟩) 1 1] 42)).alloc (.cells #[.string ⟨#[97]⟩, .int .i64 2, .slice none 0 0, .bool false, .int .i64 0, .int .i64 0, .float .f64 0, .string ⟨#[]⟩, .slice none 0 0, .string ⟨#[98]⟩, .int .i64 6, .slice (some ⟨w.heap.size + 1, 0, none⟩) 1 1, .bool true, .int .i64 6, .int .i64 0, .float .f64 0, .string ⟨#[]⟩, .slice none 0 0] 48) := ⟨_, rfl⟩
  have hs : W.heap.size = w.heap.size + 4 := by rw [hW]; simp
  have HB : Hid (Below w.heap.size w W) := by rw [hW]; exact ((((Below.refl _ _).alloc (Nat.le_refl _) _).alloc (by simp) _).alloc (by simp; omega) _).alloc (by simp; omega) _
  have h0 : W.heap[w.heap.size]? = some (.cells #[.slice (some ⟨w.heap.size + 1 + 1 + 1, 0, none⟩) 2 2] 24 (0, 0)) := by
    rw [hW, blk_old _ _ (by simp; omega), blk_old _ _ (by simp; omega), blk_old _ _ (by simp)]
    exact blk_new w _
  have h1 : W.heap[w.heap.size + 1]? = some (.cells #[.int .i64 4, .slice none 0 0] 42 (0, 0)) := by
    rw [hW, blk_old _ _ (by simp), blk_old _ _ (by simp)]
    exact blk_second w _ _
  have h3 : ∀ m, W.cell? ⟨w.heap.size + 1 + 1 + 1, m, none⟩ = (#[.string ⟨#[97]⟩, .int .i64 2, .slice none 0 0, .bool false, .int .i64 0, .int .i64 0, .float .f64 0, .string ⟨#[]⟩, .slice none 0 0, .string ⟨#[98]⟩, .int .i64 6, .slice (some ⟨w.heap.size + 1, 0, none⟩) 1 1, .bool true, .int .i64 6, .int .i64 0, .float .f64 0, .string ⟨#[]⟩, .slice none 0 0] : Array Value)[m]? := fun m => by
    refine blk_cell (T := 48) (fr := (0, 0)) ?_ m
    rw [hW]
    have := blk_new (((w.alloc (.cells #[.slice (some ⟨w.heap.size + 1 + 1 + 1, 0, none⟩) 2 2] 24)).alloc (.cells #[.int .i64 4, .slice none 0 0] 42)).alloc (.cells #[.int .i64 6, .slice (some ⟨w.heap.size + 1, 0, none⟩) 1 1] 42)) (.cells #[.string ⟨#[97]⟩, .int .i64 2, .slice none 0 0, .bool false, .int .i64 0, .int .i64 0, .float .f64 0, .string ⟨#[]⟩, .slice none 0 0, .string ⟨#[98]⟩, .int .i64 6, .slice (some ⟨w.heap.size + 1, 0, none⟩) 1 1, .bool true, .int .i64 6, .int .i64 0, .float .f64 0, .string ⟨#[]⟩, .slice none 0 0] 48)
    simpa using this
  have hcols : Cols W (some ⟨w.heap.size + 1 + 1 + 1, 0, none⟩) smallS := by
    intro j hj
    have hj2 : j < 2 := hj
    rcases (show j = 0 ∨ j = 1 by omega) with rfl | rfl
    · refine ⟨cells9 ⟨#[97]⟩ 2 none 0 0 false 0 0 0 ⟨#[]⟩ none 0 0, ⟨2, none, 0, 0, 0, 0, 0, ⟨#[]⟩, none, 0, 0, rfl, tl_leaf W 2 none 0, v0_lies W none 0⟩, ⟨w.heap.size + 1 + 1 + 1, 0, ⟨#[97]⟩, 2, none, 0, 0, false, 0, 0, 0, ⟨#[]⟩, none, 0, 0, rfl, by omega, rfl, ?_⟩⟩
      exact ⟨h3 0, h3 1, h3 2, h3 3, h3 4, h3 5, h3 6, h3 7, h3 8⟩
    · refine ⟨cells9 ⟨#[98]⟩ 6 (some ⟨w.heap.size + 1, 0, none⟩) 1 1 true 6 0 0 ⟨#[]⟩ none 0 0, ⟨6, some ⟨w.heap.size + 1, 0, none⟩, 1, 1, 6, 0, 0, ⟨#[]⟩, none, 0, 0, rfl, tl_one h1 (tl_leaf W 4 none 0) 6, vl_leaf W 6 0 0 ⟨#[]⟩ none 0⟩, ⟨w.heap.size + 1 + 1 + 1, 0, ⟨#[98]⟩, 6, some ⟨w.heap.size + 1, 0, none⟩, 1, 1, true, 6, 0, 0, ⟨#[]⟩, none, 0, 0, rfl, by omega, rfl, ?_⟩⟩
      exact ⟨h3 9, h3 10, h3 11, h3 12, h3 13, h3 14, h3 15, h3 16, h3 17⟩
  have HC := Lib.hid hcols
  have H0 := Lib.hid h0
  have HW := Lib.hid hW
  clear hcols h0 h1 h3 hs hW
  go_enter Try.func25, Try.ntmps25
  go_wp2
  rw [← HW.out]
  refine bodyPost_ret (results_cell_row rfl _ _ w.heap.size _ _ _ _ rfl H0.out Try.underlying24 rfl (by kernel_rfl)) rfl ?_
  exact ⟨_, _, rfl, HC.out, Nat.le_refl _, HB.out⟩

set_option maxRecDepth 100000 in
set_option maxHeartbeats 2000000 in
theorem schemaLive_ok {I : World → Prop} (K : SchemaOk I) (w : World) (hI : I w) : Calls Try.prog 10 #[] w fun e w' => e = .returned (.bool true) ∧ Below w.heap.size w w' := by
  have HK := Lib.hid K
  have HI := Lib.hid hI
  clear hI K
  go_enter Try.func10, Try.ntmps10
  go_wp2_with fail
  refine (small7 _).mono ?_
  rintro e w1 ⟨p1, c1, rfl, hc1, hn1, hb1⟩
  have HB1 := Lib.hid hb1
  have hE := HK.out.encode smallS p1 c1 w1 (by decide) hn1 hc1 small_wf (HK.out.on HI.out hb1)
  simp only [small_err, if_true, small_bytes] at hE
  have HEn := Lib.hid hE
  clear hE hc1 hb1
  go_wp2_with fail
  refine HEn.out.mono ?_
  rintro e w2 ⟨q2, cap2, rfl, hat2, hn2, hb2⟩
  have HB2 := Lib.hid (HB1.out.trans (hb2.mono HB1.out.size))
  have hD := HK.out.decode q2 [2, 1, 97, 2, 0, 1, 98, 6, 4, 1, 0] cap2 w2 (by decide) hn2 hat2 (HK.out.on HI.out HB2.out)
  rw [small_read] at hD
  have HD := Lib.hid hD
  have HAt2 := Lib.hid hat2
  clear hD hb2 hat2 HEn
  go_wp2_with fail
  refine HD.out.mono ?_
  rintro e w3 ⟨u3, rfl, hso, hb3⟩
  obtain ⟨p3, c3, rfl, hl3, hc3, hcols3⟩ := hso.lies.out
  have HB3 := Lib.hid (HB2.out.trans (hb3.mono HB2.out.size))
  have HAt3 := Lib.hid (HAt2.out.on hb3)
  have HC3 := Lib.hid hcols3
  have hc3' : 2 ≤ c3 := hc3
  obtain ⟨wa, hwa⟩ : ∃ wa, wa = w3.alloc (.cells #[.slice p3 2 c3] 24) := ⟨_, rfl⟩
  have hba : Below w3.heap.size w3 wa := by rw [hwa]; exact (Below.refl _ _).alloc (Nat.le_refl _) _
  have hca : wa.cell? ⟨w3.heap.size, 0, none⟩ = some (.slice p3 2 c3) := by rw [hwa]; simp
  have HBa := Lib.hid (HB3.out.trans (hba.mono HB3.out.size))
  have HB3a := Lib.hid hba
  have HCa := Lib.hid hca
  have hD := HK.out.decode none [] 0 wa (by decide) (Nat.le_refl _) (.inl rfl) (HK.out.on HI.out HBa.out)
  rw [none_read] at hD
  have HD2 := Lib.hid hD
  have HWa := Lib.hid hwa
  have hsl : smallS.length = 2 := rfl
  rw [hsl]
  clear hD hso hb3 hwa hba hca hl3 hc3 hcols3 HD HAt2 hn2 hsl
  go_wp2_with fail
  rw [← HWa.out]
  clear HWa
  refine HD2.out.mono ?_
  rintro e w4 ⟨rfl, hb4⟩
  have HB4 := Lib.hid (HBa.out.trans (hb4.mono HBa.out.size))
  have HBa4 := Lib.hid hb4
  clear hb4 HD2
  go_wp2_with fail
  have hb4a : Below w4.heap.size w4 (w4.alloc (.cells #[.slice none 0 0] 24)) := (Below.refl _ _).alloc (Nat.le_refl _) _
  refine (small7 _).mono ?_
  rintro e w5 ⟨p5, c5, rfl, hc5, hn5, hb5⟩
  have hb45 : Below w4.heap.size w4 w5 := hb4a.trans (hb5.mono hb4a.size)
  have HB5 := Lib.hid (HB4.out.trans (hb45.mono HB4.out.size))
  have HBa5 := Lib.hid (HBa4.out.trans (hb45.mono HBa4.out.size))
  have hF := HK.out.find smallS ⟨#[98]⟩ p5 c5 w5 (by decide) hn5 (by decide) hc5 small_wf (HK.out.on HI.out HB5.out)
  rw [small_find] at hF
  have HFn := Lib.hid hF
  clear hF hc5 hn5 hb4a hb5 hb45
  go_wp2_with fail
  refine HFn.out.mono ?_
  rintro e w6 ⟨rfl, hb6⟩
  have HB6 := Lib.hid (HB5.out.trans (hb6.mono HB5.out.size))
  have HBa6 := Lib.hid (HBa5.out.trans (hb6.mono HBa5.out.size))
  clear hb6 HFn
  simp only [foundV]
  obtain ⟨W, hW⟩ : ∃ W, W = w6.alloc (.cells #[.int .u8 2, .int .u8 1, .int .u8 97, .int .u8 2, .int .u8 0, .int .u8 1, .int .u8 98, .int .u8 6, .int .u8 4, .int .u8 1, .int .u8 0] 5) := ⟨_, rfl⟩
  have hbW : Below w6.heap.size w6 W := by rw [hW]; exact (Below.refl _ _).alloc (Nat.le_refl _) _
  have hlit : At W (some ⟨w6.heap.size, 0, none⟩) [2, 1, 97, 2, 0, 1, 98, 6, 4, 1, 0] := by rw [hW]; exact (has_lit (B := 0) (w := w6) [2, 1, 97, 2, 0, 1, 98, 6, 4, 1, 0] rfl (Nat.zero_le _) (by decide)).here
  have HW := Lib.hid hW
  obtain ⟨G, hG⟩ : ∃ G : World → Prop, G = fun w' => Below W.heap.size W w' := ⟨_, rfl⟩
  have hGs : ∀ w' w'', G w' → Below w'.heap.size w' w'' → G w'' := fun w' w'' h1 h2 => by rw [hG] at h1 ⊢; exact h1.trans (h2.mono h1.size)
  have hGd : ∀ w', G w' → G w'.drew := fun w' h1 => by rw [hG] at h1 ⊢; exact h1.drew
  have hGn : ∀ w' n, G w' → G (w'.drewN n) := fun w' n h1 => by rw [hG] at h1 ⊢; exact below_drewN h1 n
  have hG0 : G W := by rw [hG]; exact Below.refl _ _
  have HGw : Hid (∀ w', G w' → I w' ∧ At w' q2 [2, 1, 97, 2, 0, 1, 98, 6, 4, 1, 0] ∧ At w' (some ⟨w6.heap.size, 0, none⟩) [2, 1, 97, 2, 0, 1, 98, 6, 4, 1, 0] ∧ Cols w' p3 smallS ∧ Below w.heap.size w w') := fun w' h => by
    rw [hG] at h
    have h6 : Below w6.heap.size w6 w' := hbW.trans (h.mono hbW.size)
    have ha : Below wa.heap.size wa w' := HBa6.out.trans (h6.mono HBa6.out.size)
    have h3 : Below w3.heap.size w3 w' := HB3a.out.trans (ha.mono HB3a.out.size)
    have hw : Below w.heap.size w w' := HB6.out.trans (h6.mono HB6.out.size)
    exact ⟨HK.out.on HI.out hw, HAt3.out.on h3, hlit.on h, HC3.out.on h3, hw⟩
  have HCell : Hid (∀ w', G w' → w'.cell? ⟨w3.heap.size, 0, none⟩ = some (.slice p3 2 c3)) := fun w' h => by
    rw [hG] at h
    have h6 : Below w6.heap.size w6 w' := hbW.trans (h.mono hbW.size)
    exact cell_on (HBa6.out.trans (h6.mono HBa6.out.size)) HCa.out
  have HSame : Hid (∀ w', G w' → Calls Try.prog 11 #[.slice q2 11 cap2, .slice (some ⟨w6.heap.size, 0, none⟩) 11 11] w' fun e w'' => e = .returned (.bool true) ∧ G w'') := fun w' h => by
    obtain ⟨-, h1, h2, -⟩ := HGw.out w' h
    refine (same_any q2 (some ⟨w6.heap.size, 0, none⟩) cap2 11 [2, 1, 97, 2, 0, 1, 98, 6, 4, 1, 0] [2, 1, 97, 2, 0, 1, 98, 6, 4, 1, 0] (by decide) w' h1 h2).mono ?_
    rintro e w'' ⟨rfl, n, rfl⟩
    exact ⟨by simp, hGn _ n h⟩
  have HSmall : Hid (∀ w', G w' → Calls Try.prog 25 #[] w' fun e w'' => ∃ p c, e = .returned (.agg #[.slice p 2 c]) ∧ Cols w'' p smallS ∧ 2 ≤ c ∧ G w'') := fun w' h => by
    refine (small7 w').mono ?_
    rintro e w'' ⟨p, c, rfl, h1, h2, h3⟩
    exact ⟨p, c, rfl, h1, h2, hGs _ _ h h3⟩
  have HWh : Hid (∀ w' p c, G w' → Cols w' p smallS → Calls Try.prog 12 #[.agg #[.slice p3 2 c3], .agg #[.slice p 2 c]] w' fun e w'' => e = .returned (.bool true) ∧ G w'') := fun w' p c h hc => by
    obtain ⟨-, -, -, h1, -⟩ := HGw.out w' h
    refine (whole7 smallS smallS p3 p c3 c w' (by decide) h1 hc).mono ?_
    rintro e w'' ⟨rfl, h3⟩
    exact ⟨by rw [small_whole], hGs _ _ h h3⟩
  have HSm : Hid (∀ w' p c, G w' → Cols w' p smallS → 2 ≤ c → Calls Try.prog 17 #[.agg #[.slice p3 2 c3], .agg #[.slice p 2 c]] w' fun e w'' => e = .returned (.bool true) ∧ G w'') := fun w' p c h hc h2 => by
    obtain ⟨hi, -, -, h1, -⟩ := HGw.out w' h
    refine (HK.out.same smallS smallS p3 p c3 c w' (by decide) (by decide) hc3' h2 h1 hc small_wf small_wf hi).mono ?_
    rintro e w'' ⟨rfl, h3⟩
    exact ⟨by rw [small_same], hGs _ _ h h3⟩
  have HCh : Hid (∀ w', G w' → Calls Try.prog 16 #[.agg #[.slice none 0 0]] w' fun e w'' => e = .returned (.int .i64 4) ∧ G w'') := fun w' h => by
    obtain ⟨hi, -⟩ := HGw.out w' h
    refine (HK.out.check [] none 0 w' (by decide) (Nat.le_refl _) (fun j hj => by simp at hj) (fun x hx => by cases hx) hi).mono ?_
    rintro e w'' ⟨rfl, h3⟩
    exact ⟨by rw [none_err]; rfl, hGs _ _ h h3⟩
  have HFin : Hid (∀ w', G w' → Below w.heap.size w w') := fun w' h => (HGw.out w' h).2.2.2.2
  have hcW := HCell.out W hG0
  clear hW hbW hlit hG hGs HGw hGn
  go_wp2_with fail
  rw [← HW.out]
  clear HW
  go_region_held3 (fun w' => w'.cell? ⟨w3.heap.size, 0, none⟩ = some (.slice p3 2 c3) ∧ G w') (first | go_keep | exact ⟨by assumption, by assumption⟩ | (refine ⟨?_, ?_⟩ <;> first | assumption | (simp; assumption) | exact hGd _ (by assumption))) (first
    | (go_at_call 11; refine (HSame.out _ (by first | assumption | exact hGd _ (by assumption))).mono ?_; rintro e wq ⟨rfl, hGq⟩; have hcq := HCell.out _ hGq)
    | (go_at_call 25; refine (HSmall.out _ (by first | assumption | exact hGd _ (by assumption))).mono ?_; rintro e wq ⟨pq, cq, rfl, hcols, hcq2, hGq⟩; have hcq := HCell.out _ hGq; have HCq := Lib.hid hcols; clear hcols)
    | (go_at_call 12; refine (HWh.out _ _ _ (by assumption) HCq.out).mono ?_; rintro e wq ⟨rfl, hGq⟩; have hcq := HCell.out _ hGq)
    | (go_at_call 17; refine (HSm.out _ _ _ (by assumption) HCq.out (by assumption)).mono ?_; rintro e wq ⟨rfl, hGq⟩; have hcq := HCell.out _ hGq)
    | (go_at_call 16; refine (HCh.out _ (by assumption)).mono ?_; rintro e wq ⟨rfl, hGq⟩; have hcq := HCell.out _ hGq)
    | fail)
  go_wp2
  go_ret
  exact ⟨rfl, HFin.out _ hGq⟩
end Go.Proofs.Ytnjggejallnkoab
