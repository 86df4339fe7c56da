/- WCopied, WRowL, WPair: put together. -/
import Derived.Test.YtphmmmgdpbokkaaM05
import Derived.Deep.RegionLaw
import Derived.Test.YtphmmmgdpbokkaaM24
import Derived.Test.YtphmmmgdpbokkaaM04

/- The law's own copied(v). -/
namespace Go.Proofs.Ytphmmmgdpbokkaa
open Go.RowKit

attribute [local go_sem] run_store_float

theorem fresh_from {w W w2 : World} {y : V} {e : Ending} (h : Fresh W y e w2) (h1 : W.os = w.os) (h2 : W.tape = w.tape) (h3 : W.output = w.output) (h4 : W.heap = w.heap) : Fresh w y e w2 := by
  obtain ⟨u', rfl, hv, hb⟩ := h
  rw [h4] at hv hb
  exact ⟨u', rfl, hv, below_via hb h1 h2 h3 h4⟩

set_option maxRecDepth 100000 in
set_option maxHeartbeats 1000000 in
theorem copied6 : ∀ (x : V) (w : World) (u : Array Value), VLies w u x → Calls Try.prog 11 #[.agg u] w (Fresh w x) := by
  intro x
  refine V.ind (P := fun x => ∀ (w : World) (u : Array Value), VLies w u x → Calls Try.prog 11 #[.agg u] w (Fresh w x)) ?_ x
  intro k i b t xs ih w u hx
  obtain ⟨p, c, rfl, hl, hc, hxi⟩ := hx.open
  unfold cells5
  have HIH := Lib.hid ih
  have HX : Hid (∀ j (hj : j < xs.length), ∃ u', VLies w u' xs[j] ∧ Item w p j u') := hxi
  clear ih hxi hx
  go_enter Try.func11, Try.ntmps11
  go_wp2_with fail
  go_loopw [4] (fun v4 wr => ∃ (j : Nat) (q : Option Addr) (d : Nat), j ≤ xs.length ∧ v4 = .int .i64 j ∧ Hid (Making w #[.int .i64 k, .int .i64 i, .float .f64 b, .string t, .slice p xs.length c] k i b t xs j (.slice q j d) wr)) (fun v4 _ => xs.length - (intOf v4).toNat)
  case atStart => exact ⟨0, none, 0, by omega, rfl, making_start w _ k i b t _⟩
  case round =>
    obtain ⟨j, q, d, hj, rfl, HM⟩ := hrel
    have c0 : wr.cell? ⟨w.heap.size, 4, none⟩ = some (.slice p xs.length c) := blk_cell HM.out.b0 4
    have c2 : wr.cell? ⟨w.heap.size + 1 + 1, 4, none⟩ = some (.slice q j d) := blk_cell HM.out.b2 4
    by_cases hlt : j < xs.length
    · obtain ⟨ux, hvx, hix⟩ := HX.out j hlt
      obtain ⟨bx, ox, kx, ix, fx, tx, qx, nx, cx, rfl, hbx, rfl, y0, y1, y2, y3, y4⟩ := hix.lies
      have HY := Lib.hid (And.intro y0 (And.intro y1 (And.intro y2 (And.intro y3 y4))))
      have a0 := cell_on HM.out.below y0
      have a1 := cell_on HM.out.below y1
      have a2 := cell_on HM.out.below y2
      have a3 := cell_on HM.out.below y3
      have a4 := cell_on HM.out.below y4
      have hn1 : ¬ bx = w.heap.size + 1 + 1 := by omega
      have hn2 : ¬ w.heap.size = w.heap.size + 1 + 1 := by omega
      clear y0 y1 y2 y3 y4
      have HC : Hid (∀ w', Below w.heap.size w w' → Calls Try.prog 11 #[.agg #[.int .i64 kx, .int .i64 ix, .float .f64 fx, .string tx, .slice qx nx cx]] w' (Fresh w' xs[j])) := fun w' hb => HIH.out _ (List.getElem_mem hlt) w' _ (hvx.on hb)
      have HBw := Lib.hid HM.out.below
      have hj1 : (j : Int) < (xs.length : Int) := by omega
      obtain ⟨us, Fs, hbt⟩ := HM.out.built
      have HBt := Lib.hid hbt
      clear hvx hix hbt
      go_wp2_with fail
      go_region_law (first
        | (refine step_call1 (.tmp 20) 33 (by rfl) (by rfl) (by rfl) Try.func11 (by kernel_rfl) (by rfl) (HC.out _ HBw.out.drew) ?_
           intro e w2 hf
           obtain ⟨u', rfl, hv, hb2⟩ := fresh_from (w := wr) hf (by rfl) (by rfl) (by rfl) (by rfl)
           obtain ⟨k', i', b', t', p', n', c', rfl⟩ := hv.shape
           refine ⟨_, rfl, ?_⟩
           unfold cells5 at hv ⊢
           have z2 := cell_on hb2 c2
           have z3 : ∀ o, (w2.alloc o).cell? ⟨w.heap.size + 1 + 1, 4, none⟩ = some (.slice q j d) := fun o => cell_on (hb2.alloc hb2.size o) c2
           have HV := Lib.hid hv
           have HB2 := Lib.hid hb2
           have HB3 : Hid (Below w2.heap.size w2 (w2.alloc (.cells #[.int .i64 k', .int .i64 i', .float .f64 b', .string t', .slice p' n' c'] 33))) := (Below.refl _ _).alloc (Nat.le_refl _) _
           have hsz : w.heap.size + 3 ≤ w2.heap.size := Nat.le_trans HM.out.size HB2.out.size
           clear hv hb2 hf)
        | (refine step_more (B := w.heap.size + 3) (us := us) (v := .slice q j d) (n := j) (by exact ((HBt.out.on HB2.out).on HB3.out).row) (u := #[.int .i64 k', .int .i64 i', .float .f64 b', .string t', .slice p' n' c']) rfl (one5 HV.out) (ad := w2.heap.size) (by exact blk_new w2 _) (by omega) (by simp; omega) (H := w2.heap.size + 1) (by simp) (.tmp 15) (.tmp 22) (by rfl) (by rfl) (by rfl) (by rfl) ?_
           intro g2 cap2 w4 hr4 hg4 hn4
           obtain ⟨hb4, hold, hmk⟩ := HM.out.next (w3 := w2.alloc (.cells #[.int .i64 k', .int .i64 i', .float .f64 b', .string t', .slice p' n' c'] 33)) HBt.out hlt HB2.out HV.out (fun _ h => h) HB3.out hr4 (by exact ⟨hg4.os, hg4.tape, hg4.output, hg4.size, hg4.block⟩) (by simpa using hn4)
           have f4 : w4.frozen? ⟨w.heap.size + 1 + 1, 4, none⟩ = false := blk_free ((hold 2 (by omega)).trans HM.out.b2) 4
           have g4 : w4.cell? ⟨w.heap.size + 1 + 1, 4, none⟩ = some (.slice q j d) := blk_cell ((hold 2 (by omega)).trans HM.out.b2) 4
           have HMK := Lib.hid hmk
           clear hb4 hold hmk hr4 hg4 hn4))
      all_goals
        go_wp2
        go_roundw
        case rel => exact ⟨j + 1, _, _, by omega, by go_num, HMK⟩
        case measure => simp [intOf]; omega
    · have hjn : ¬ (j : Int) < (xs.length : Int) := by omega
      have hjj : j = xs.length := by omega
      have e0 : wr.cell? ⟨w.heap.size + 1 + 1, 0, none⟩ = some (.int .i64 k) := blk_cell HM.out.b2 0
      have e1 : wr.cell? ⟨w.heap.size + 1 + 1, 1, none⟩ = some (.int .i64 i) := blk_cell HM.out.b2 1
      have e2 : wr.cell? ⟨w.heap.size + 1 + 1, 2, none⟩ = some (.float .f64 b) := blk_cell HM.out.b2 2
      have e3 : wr.cell? ⟨w.heap.size + 1 + 1, 3, none⟩ = some (.string t) := blk_cell HM.out.b2 3
      have r0 : wr.cell? ⟨w.heap.size + 1, 0, none⟩ = some (.int .i64 0) := blk_cell HM.out.b1 0
      have r1 : wr.cell? ⟨w.heap.size + 1, 1, none⟩ = some (.int .i64 0) := blk_cell HM.out.b1 1
      have r2 : wr.cell? ⟨w.heap.size + 1, 2, none⟩ = some (.float .f64 0) := blk_cell HM.out.b1 2
      have r3 : wr.cell? ⟨w.heap.size + 1, 3, none⟩ = some (.string ⟨#[]⟩) := blk_cell HM.out.b1 3
      have r4 : wr.cell? ⟨w.heap.size + 1, 4, none⟩ = some (.slice none 0 0) := blk_cell HM.out.b1 4
      have s0 := blk_free HM.out.b1 0
      have s1 := blk_free HM.out.b1 1
      have s2 := blk_free HM.out.b1 2
      have s3 := blk_free HM.out.b1 3
      have s4 := blk_free HM.out.b1 4
      have HF := Lib.hid (HM.out.finish (by omega) (by omega))
      subst hjj
      go_wp2
      refine bodyPost_ret (v := .agg (cells5 k i b t q xs.length d)) (results_cell_row rfl _ _ (w.heap.size + 1) _ _ _ _ rfl HF.out.1 Try.underlying33 rfl (by kernel_rfl)) rfl ?_
      exact HF.out.2
end Go.Proofs.Ytphmmmgdpbokkaa

/- The law's own rows(a, b). -/
namespace Go.Proofs.Ytphmmmgdpbokkaa
open Go.RowKit

attribute [local go_sem] run_store_float

/-- two rows, floats bit by bit -/
def Rw.exact (xs ys : List V) : Bool := V.exact (.mk 0 0 0 ⟨#[]⟩ xs) (.mk 0 0 0 ⟨#[]⟩ ys)

set_option maxRecDepth 100000 in
set_option maxHeartbeats 1000000 in
theorem rows8 (xs ys : List V) (p q : Option Addr) (c d : Nat) (w : World) (hx : VLies w (cells5 0 0 0 ⟨#[]⟩ p xs.length c) (.mk 0 0 0 ⟨#[]⟩ xs)) (hy : VLies w (cells5 0 0 0 ⟨#[]⟩ q ys.length d) (.mk 0 0 0 ⟨#[]⟩ ys)) :
    Calls Try.prog 31 #[.agg #[.slice p xs.length c], .agg #[.slice q ys.length d]] w fun e w' => e = .returned (.bool (Rw.exact xs ys)) ∧ Below w.heap.size w w' := by
  obtain ⟨W0, hW0⟩ : ∃ W0, W0 = (w.alloc (.cells #[.slice p xs.length c] 41)).alloc (.cells #[.slice q ys.length d] 41) := ⟨_, rfl⟩
  have HB0 : Hid (Below w.heap.size w W0) := by rw [hW0]; exact ((Below.refl _ _).alloc (Nat.le_refl _) _).alloc (by simp) _
  have HW0 := Lib.hid hW0
  have HC := Lib.hid (exact6 _ _ W0 _ _ (hx.on HB0.out) (hy.on HB0.out))
  have HE : Hid (V.exact (.mk 0 0 0 ⟨#[]⟩ xs) (.mk 0 0 0 ⟨#[]⟩ ys) = Rw.exact xs ys) := rfl
  rw [HE.out] at HC
  obtain ⟨R, hR⟩ : ∃ R, R = Rw.exact xs ys := ⟨_, rfl⟩
  rw [← hR] at HC ⊢
  clear hW0 hx hy HE hR
  unfold cells5 at HC
  go_enter Try.func31, Try.ntmps31
  go_wp2_with fail
  rw [← HW0.out]
  refine HC.out.mono ?_
  rintro e w1 ⟨rfl, hb1⟩
  have HB1 := Lib.hid (HB0.out.trans (hb1.mono HB0.out.size))
  clear hb1 HC HW0
  go_wp2
  go_ret
  exact ⟨rfl, HB1.out⟩
end Go.Proofs.Ytphmmmgdpbokkaa

/- The law's own pair(), and plain facts on the chapter's examples. -/
namespace Go.Proofs.Ytphmmmgdpbokkaa
open Go.RowKit

attribute [local go_sem] run_store_float

theorem tl_leaf (w : World) (k : Int) (p : Option Addr) (c : Nat) : TLies w (cells2 k p 0 c) (.mk k []) := .mk (xs := []) (fun _ => #[]) (by simp) (by simp) (fun hc => absurd rfl hc) (fun j hj => by simp at hj)
theorem vl_leaf (w : World) (k i : Int) (b : Nat) (t : ByteArray) (p : Option Addr) (c : Nat) : VLies w (cells5 k i b t p 0 c) (.mk k i b t []) := .mk (xs := []) (fun _ => #[]) (by simp) (by simp) (fun hc => absurd rfl hc) (fun j hj => by simp at hj)
theorem tl_one {w : World} {g : Nat} {u : Array Value} {T : TypeId} {x : Ty} (hg : w.heap[g]? = some (.cells u T (0, 0))) (hx : TLies w u x) (k : Int) : TLies w (cells2 k (some ⟨g, 0, none⟩) 1 1) (.mk k [x]) := by
  refine .mk (xs := [x]) (fun _ => u) (by simp) (by simp) (fun _ => ⟨g, 0, rfl, (Array.getElem?_eq_some_iff.1 hg).1, fun j hj m hm => ?_⟩) (fun j hj => ?_)
  · have hj0 : j = 0 := by simp at hj; omega
    subst hj0
    simp [World.cell?, hg]
  · have hj0 : j = 0 := by simp at hj; omega
    subst hj0
    exact hx

/-- the schema of the chapter's examples -/
def pairA : Col := ⟨⟨#[97]⟩, .mk 2 [], false, V0⟩
def pairB : Col := ⟨⟨#[98]⟩, .mk 6 [.mk 4 []], false, V0⟩
def pairS : List Col := [pairA, pairB]
theorem pairA_err : Sch.colErr [] pairA = 0 := Sch.col_make (by kernel_rfl) rfl (Sch.ty_leaf (by omega) (by omega) (by omega)) (fun _ => Sch.v0_fix) (fun h => by cases h)
theorem pairB_err : Sch.colErr [pairA] pairB = 0 := Sch.col_make (by kernel_rfl) (by kernel_rfl) (Sch.ty_one (by omega) (by omega) (Sch.ty_leaf (by omega) (by omega) (by omega))) (fun _ => Sch.v0_fix) (fun h => by cases h)
theorem pair_bytes : Sch.bytes pairS = [2, 1, 97, 2, 0, 1, 98, 6, 4, 0] := by
  unfold Sch.bytes pairS pairA pairB Sch.cB
  simp only [List.map_cons, List.map_nil, Sch.tyB_mk]
  kernel_rfl
theorem pair_err : Sch.err pairS = 0 := Sch.err_make (by decide) (by decide) (by
  unfold pairS
  rw [Sch.colsErr, if_pos pairA_err, Sch.colsErr, List.nil_append, if_pos pairB_err, Sch.colsErr]) (by rw [pair_bytes]; decide)
theorem pair_wf : ∀ c ∈ pairS, c.wf := by
  intro c hc
  unfold pairS at hc
  rcases List.mem_cons.1 hc with rfl | hc
  · exact ⟨by decide, Ty.wf_mk.2 ⟨by omega, fun x hx => by cases hx⟩, Sch.v0_wf⟩
  · rcases List.mem_cons.1 hc with rfl | hc
    · exact ⟨by decide, Ty.wf_mk.2 ⟨by omega, fun x hx => by
        rcases List.mem_cons.1 hx with rfl | hx
        · exact Ty.wf_mk.2 ⟨by omega, fun x hx => by cases hx⟩
        · cases hx⟩, Sch.v0_wf⟩
    · cases hc
/-- the row of the chapter's examples -/
def hiT : V := .mk 4 0 0 ⟨#[104, 105]⟩ []
def hiR : List V := [.mk 2 64 0 ⟨#[]⟩ [], .mk 6 0 0 ⟨#[]⟩ [hiT]]
theorem hi_bytes : Rw.bytes hiR = [128, 1, 1, 2, 104, 105] := by
  unfold Rw.bytes hiR hiT
  simp only [List.map_cons, List.map_nil, Sch.vB_mk]
  kernel_rfl
theorem hi_wf : ∀ v ∈ hiR, v.wf := by
  intro v hv
  unfold hiR at hv
  rcases List.mem_cons.1 hv with rfl | hv
  · exact V.wf_mk.2 ⟨by omega, by omega, by omega, Nat.zero_le _, fun x hx => by cases hx⟩
  · rcases List.mem_cons.1 hv with rfl | hv
    · refine V.wf_mk.2 ⟨by omega, by omega, by omega, Nat.zero_le _, fun x hx => ?_⟩
      rcases List.mem_cons.1 hx with rfl | hx
      · exact V.wf_mk.2 ⟨by omega, by omega, by omega, by decide, fun x hx => by cases hx⟩
      · cases hx
    · cases hv
theorem hi_fix : hiR.map V.fix = hiR := by
  unfold hiR hiT
  simp only [List.map_cons, List.map_nil, V.fix_mk, Sch.fixB_zero, V.fixL]
theorem five_read : Rw.read pairS [5] 0 = .error 30 := by
  unfold Rw.read
  rw [if_neg (by rw [pair_err]; simp)]
  simp only [pairS, pairA, pairB, Rw.rd, Sch.rdV_mk]
  kernel_rfl
theorem hi_err : Rw.err pairS hiR = 0 := Rw.err_make pair_err rfl (by
  have h1 : Rw.vErr (.mk 2 []) (.mk 2 64 0 ⟨#[]⟩ []) = 0 := Rw.vErr_make (Sch.ty_leaf (by omega) (by omega) (by omega)) (Sch.chk_make (by omega) (by kernel_rfl) (Nat.zero_le _) (by simp) (fun h => by cases h) (fun x hx => by cases hx)) (by rw [Sch.of_mk]; rfl)
  have h2 : Rw.vErr (.mk 6 [.mk 4 []]) (.mk 6 0 0 ⟨#[]⟩ [hiT]) = 0 := Rw.vErr_make (Sch.ty_one (by omega) (by omega) (Sch.ty_leaf (by omega) (by omega) (by omega))) (Sch.chk_make (by omega) (by kernel_rfl) (Nat.zero_le _) (by simp) (fun h => by cases h) (fun x hx => by
    rcases List.mem_cons.1 hx with rfl | hx
    · exact Sch.chk_make (by omega) (by kernel_rfl) (by decide) (by simp) (fun _ => by kernel_rfl) (fun x hx => by cases hx)
    · cases hx)) (by rw [Sch.of_mk]; unfold hiT; simp only [List.all_cons, List.all_nil, Sch.of_mk]; rfl)
  unfold pairS hiR pairA pairB
  rw [Rw.colsErr, if_pos h1, Rw.colsErr, if_pos h2, Rw.colsErr]
  · intro c s v r h; cases h) (by rw [hi_bytes]; decide)
theorem hi_read : Rw.read pairS [128, 1, 1, 2, 104, 105, 7] 0 = .ok (hiR, 6) := by
  have h := Rw.read_put hi_err hi_wf [] [7]
  rw [hi_bytes, hi_fix] at h
  exact h
theorem none_err : Rw.err pairS [] = 80 := by
  unfold Rw.err
  rw [if_neg (by rw [pair_err]; simp), if_pos (by decide)]

set_option maxRecDepth 100000 in
set_option maxHeartbeats 1000000 in
theorem pair8 (w : World) : Calls Try.prog 29 #[] w fun e w' => ∃ p c, e = .returned (.agg #[.slice p 2 c]) ∧ Cols w' p pairS ∧ 2 ≤ c ∧ Below w.heap.size w w' := by
  obtain ⟨W, hW⟩ : ∃ W, W = ((w.alloc (.cells #[.slice (some ⟨w.heap.size + 1 + 1, 0, none⟩) 2 2] 39)).alloc (.cells #[.int .i64 4, .slice none 0 0] 24)).alloc (.cells #[.string ⟨#[97]⟩, .int .i64 2, .slice none 0 0, .bool false, .int .i64 0, .int .i64 0, .float .f64 0, .string ⟨#[]⟩, .slice none 0 0, .string ⟨#[98]⟩, .int .i64 6, .slice (some ⟨w.heap.size + 1, 0, none⟩) 1 1, .bool false, .int .i64 0, .int .i64 0, .float .f64 0, .string ⟨#[]⟩, .slice none 0 0] 63) := ⟨_, rfl⟩
  have hs : W.heap.size = w.heap.size + 3 := by rw [hW]; simp
  have HB : Hid (Below w.heap.size w W) := by rw [hW]; exact (((Below.refl _ _).alloc (Nat.le_refl _) _).alloc (by simp) _).alloc (by simp; omega) _
  have h0 : W.heap[w.heap.size]? = some (.cells #[.slice (some ⟨w.heap.size + 1 + 1, 0, none⟩) 2 2] 39 (0, 0)) := by
    rw [hW, blk_old _ _ (by simp; omega), blk_old _ _ (by simp)]
    exact blk_new w _
  have h1 : W.heap[w.heap.size + 1]? = some (.cells #[.int .i64 4, .slice none 0 0] 24 (0, 0)) := by
    rw [hW, blk_old _ _ (by simp)]
    exact blk_second w _ _
  have h3 : ∀ m, W.cell? ⟨w.heap.size + 1 + 1, m, none⟩ = (#[.string ⟨#[97]⟩, .int .i64 2, .slice none 0 0, .bool false, .int .i64 0, .int .i64 0, .float .f64 0, .string ⟨#[]⟩, .slice none 0 0, .string ⟨#[98]⟩, .int .i64 6, .slice (some ⟨w.heap.size + 1, 0, none⟩) 1 1, .bool false, .int .i64 0, .int .i64 0, .float .f64 0, .string ⟨#[]⟩, .slice none 0 0] : Array Value)[m]? := fun m => by
    refine blk_cell (T := 63) (fr := (0, 0)) ?_ m
    rw [hW]
    have := blk_new ((w.alloc (.cells #[.slice (some ⟨w.heap.size + 1 + 1, 0, none⟩) 2 2] 39)).alloc (.cells #[.int .i64 4, .slice none 0 0] 24)) (.cells #[.string ⟨#[97]⟩, .int .i64 2, .slice none 0 0, .bool false, .int .i64 0, .int .i64 0, .float .f64 0, .string ⟨#[]⟩, .slice none 0 0, .string ⟨#[98]⟩, .int .i64 6, .slice (some ⟨w.heap.size + 1, 0, none⟩) 1 1, .bool false, .int .i64 0, .int .i64 0, .float .f64 0, .string ⟨#[]⟩, .slice none 0 0] 63)
    simpa using this
  have hcols : Cols W (some ⟨w.heap.size + 1 + 1, 0, none⟩) pairS := by
    intro j hj
    have hj2 : j < 2 := hj
    rcases (show j = 0 ∨ j = 1 by omega) with rfl | rfl
    · refine ⟨cells9 ⟨#[97]⟩ 2 none 0 0 false 0 0 0 ⟨#[]⟩ none 0 0, ⟨2, none, 0, 0, 0, 0, 0, ⟨#[]⟩, none, 0, 0, rfl, tl_leaf W 2 none 0, v0_lies W none 0⟩, ⟨w.heap.size + 1 + 1, 0, ⟨#[97]⟩, 2, none, 0, 0, false, 0, 0, 0, ⟨#[]⟩, none, 0, 0, rfl, by omega, rfl, ?_⟩⟩
      exact ⟨h3 0, h3 1, h3 2, h3 3, h3 4, h3 5, h3 6, h3 7, h3 8⟩
    · refine ⟨cells9 ⟨#[98]⟩ 6 (some ⟨w.heap.size + 1, 0, none⟩) 1 1 false 0 0 0 ⟨#[]⟩ none 0 0, ⟨6, some ⟨w.heap.size + 1, 0, none⟩, 1, 1, 0, 0, 0, ⟨#[]⟩, none, 0, 0, rfl, tl_one h1 (tl_leaf W 4 none 0) 6, v0_lies W none 0⟩, ⟨w.heap.size + 1 + 1, 0, ⟨#[98]⟩, 6, some ⟨w.heap.size + 1, 0, none⟩, 1, 1, false, 0, 0, 0, ⟨#[]⟩, none, 0, 0, rfl, by omega, rfl, ?_⟩⟩
      exact ⟨h3 9, h3 10, h3 11, h3 12, h3 13, h3 14, h3 15, h3 16, h3 17⟩
  have HC := Lib.hid hcols
  have H0 := Lib.hid h0
  have HW := Lib.hid hW
  clear hcols h0 h1 h3 hs hW
  go_enter Try.func29, Try.ntmps29
  go_wp2
  rw [← HW.out]
  refine bodyPost_ret (results_cell_row rfl _ _ w.heap.size _ _ _ _ rfl H0.out Try.underlying39 rfl (by kernel_rfl)) rfl ?_
  exact ⟨_, _, rfl, HC.out, Nat.le_refl _, HB.out⟩
end Go.Proofs.Ytphmmmgdpbokkaa
