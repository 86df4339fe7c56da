/- WRowL, WPair, WLive8: put together. -/
import Derived.Test.YtphmmmgdpbokkaaGreatM25
import Derived.Test.YtphmmmgdpbokkaaGreatM04

/- The law's own rows(a, b). -/
namespace Go.Proofs.YtphmmmgdpbokkaaGreat
open Go.RowKit

attribute [local go_sem] run_store_float

/-- two rows, floats bit by bit -/
def Rw.exact (xs ys : List V) : Bool := V.exact (.mk 0 0 0 ⟨#[]⟩ xs) (.mk 0 0 0 ⟨#[]⟩ ys)

set_option maxRecDepth 100000 in
set_option maxHeartbeats 1000000 in
theorem rows8 (xs ys : List V) (p q : Option Addr) (c d : Nat) (w : World) (hx : VLies w (cells5 0 0 0 ⟨#[]⟩ p xs.length c) (.mk 0 0 0 ⟨#[]⟩ xs)) (hy : VLies w (cells5 0 0 0 ⟨#[]⟩ q ys.length d) (.mk 0 0 0 ⟨#[]⟩ ys)) :
    Calls Tryz.prog 13 #[.agg #[.slice p xs.length c], .agg #[.slice q ys.length d]] w fun e w' => e = .returned (.bool (Rw.exact xs ys)) ∧ Below w.heap.size w w' := by
  obtain ⟨W0, hW0⟩ : ∃ W0, W0 = (w.alloc (.cells #[.slice p xs.length c] 27)).alloc (.cells #[.slice q ys.length d] 27) := ⟨_, rfl⟩
  have HB0 : Hid (Below w.heap.size w W0) := by rw [hW0]; exact ((Below.refl _ _).alloc (Nat.le_refl _) _).alloc (by simp) _
  have HW0 := Lib.hid hW0
  have HC := Lib.hid (exact6 _ _ W0 _ _ (hx.on HB0.out) (hy.on HB0.out))
  have HE : Hid (V.exact (.mk 0 0 0 ⟨#[]⟩ xs) (.mk 0 0 0 ⟨#[]⟩ ys) = Rw.exact xs ys) := rfl
  rw [HE.out] at HC
  obtain ⟨R, hR⟩ : ∃ R, R = Rw.exact xs ys := ⟨_, rfl⟩
  rw [← hR] at HC ⊢
  clear hW0 hx hy HE hR
  unfold cells5 at HC
  go_enter Tryz.func13, Tryz.ntmps13
  go_wp2_with fail
  rw [← HW0.out]
  refine HC.out.mono ?_
  rintro e w1 ⟨rfl, hb1⟩
  have HB1 := Lib.hid (HB0.out.trans (hb1.mono HB0.out.size))
  clear hb1 HC HW0
  go_wp2
  go_ret
  exact ⟨rfl, HB1.out⟩
end Go.Proofs.YtphmmmgdpbokkaaGreat

/- The law's own pair(), and plain facts on the chapter's examples. -/
namespace Go.Proofs.YtphmmmgdpbokkaaGreat
open Go.RowKit

attribute [local go_sem] run_store_float

theorem tl_leaf (w : World) (k : Int) (p : Option Addr) (c : Nat) : TLies w (cells2 k p 0 c) (.mk k []) := .mk (xs := []) (fun _ => #[]) (by simp) (by simp) (fun hc => absurd rfl hc) (fun j hj => by simp at hj)
theorem vl_leaf (w : World) (k i : Int) (b : Nat) (t : ByteArray) (p : Option Addr) (c : Nat) : VLies w (cells5 k i b t p 0 c) (.mk k i b t []) := .mk (xs := []) (fun _ => #[]) (by simp) (by simp) (fun hc => absurd rfl hc) (fun j hj => by simp at hj)
theorem tl_one {w : World} {g : Nat} {u : Array Value} {T : TypeId} {x : Ty} (hg : w.heap[g]? = some (.cells u T (0, 0))) (hx : TLies w u x) (k : Int) : TLies w (cells2 k (some ⟨g, 0, none⟩) 1 1) (.mk k [x]) := by
  refine .mk (xs := [x]) (fun _ => u) (by simp) (by simp) (fun _ => ⟨g, 0, rfl, (Array.getElem?_eq_some_iff.1 hg).1, fun j hj m hm => ?_⟩) (fun j hj => ?_)
  · have hj0 : j = 0 := by simp at hj; omega
    subst hj0
    simp [World.cell?, hg]
  · have hj0 : j = 0 := by simp at hj; omega
    subst hj0
    exact hx

/-- the schema of the chapter's examples -/
def pairA : Col := ⟨⟨#[97]⟩, .mk 2 [], false, V0⟩
def pairB : Col := ⟨⟨#[98]⟩, .mk 6 [.mk 4 []], false, V0⟩
def pairS : List Col := [pairA, pairB]
theorem pairA_err : Sch.colErr [] pairA = 0 := Sch.col_make (by kernel_rfl) rfl (Sch.ty_leaf (by omega) (by omega) (by omega)) (fun _ => Sch.v0_fix) (fun h => by cases h)
theorem pairB_err : Sch.colErr [pairA] pairB = 0 := Sch.col_make (by kernel_rfl) (by kernel_rfl) (Sch.ty_one (by omega) (by omega) (Sch.ty_leaf (by omega) (by omega) (by omega))) (fun _ => Sch.v0_fix) (fun h => by cases h)
theorem pair_bytes : Sch.bytes pairS = [2, 1, 97, 2, 0, 1, 98, 6, 4, 0] := by
  unfold Sch.bytes pairS pairA pairB Sch.cB
  simp only [List.map_cons, List.map_nil, Sch.tyB_mk]
  kernel_rfl
theorem pair_err : Sch.err pairS = 0 := Sch.err_make (by decide) (by decide) (by
  unfold pairS
  rw [Sch.colsErr, if_pos pairA_err, Sch.colsErr, List.nil_append, if_pos pairB_err, Sch.colsErr]) (by rw [pair_bytes]; decide)
theorem pair_wf : ∀ c ∈ pairS, c.wf := by
  intro c hc
  unfold pairS at hc
  rcases List.mem_cons.1 hc with rfl | hc
  · exact ⟨by decide, Ty.wf_mk.2 ⟨by omega, fun x hx => by cases hx⟩, Sch.v0_wf⟩
  · rcases List.mem_cons.1 hc with rfl | hc
    · exact ⟨by decide, Ty.wf_mk.2 ⟨by omega, fun x hx => by
        rcases List.mem_cons.1 hx with rfl | hx
        · exact Ty.wf_mk.2 ⟨by omega, fun x hx => by cases hx⟩
        · cases hx⟩, Sch.v0_wf⟩
    · cases hc
/-- the row of the chapter's examples -/
def hiT : V := .mk 4 0 0 ⟨#[104, 105]⟩ []
def hiR : List V := [.mk 2 64 0 ⟨#[]⟩ [], .mk 6 0 0 ⟨#[]⟩ [hiT]]
theorem hi_bytes : Rw.bytes hiR = [128, 1, 1, 2, 104, 105] := by
  unfold Rw.bytes hiR hiT
  simp only [List.map_cons, List.map_nil, Sch.vB_mk]
  kernel_rfl
theorem hi_wf : ∀ v ∈ hiR, v.wf := by
  intro v hv
  unfold hiR at hv
  rcases List.mem_cons.1 hv with rfl | hv
  · exact V.wf_mk.2 ⟨by omega, by omega, by omega, Nat.zero_le _, fun x hx => by cases hx⟩
  · rcases List.mem_cons.1 hv with rfl | hv
    · refine V.wf_mk.2 ⟨by omega, by omega, by omega, Nat.zero_le _, fun x hx => ?_⟩
      rcases List.mem_cons.1 hx with rfl | hx
      · exact V.wf_mk.2 ⟨by omega, by omega, by omega, by decide, fun x hx => by cases hx⟩
      · cases hx
    · cases hv
theorem hi_fix : hiR.map V.fix = hiR := by
  unfold hiR hiT
  simp only [List.map_cons, List.map_nil, V.fix_mk, Sch.fixB_zero, V.fixL]
theorem five_read : Rw.read pairS [5] 0 = .error 30 := by
  unfold Rw.read
  rw [if_neg (by rw [pair_err]; simp)]
  simp only [pairS, pairA, pairB, Rw.rd, Sch.rdV_mk]
  kernel_rfl
theorem hi_err : Rw.err pairS hiR = 0 := Rw.err_make pair_err rfl (by
  have h1 : Rw.vErr (.mk 2 []) (.mk 2 64 0 ⟨#[]⟩ []) = 0 := Rw.vErr_make (Sch.ty_leaf (by omega) (by omega) (by omega)) (Sch.chk_make (by omega) (by kernel_rfl) (Nat.zero_le _) (by simp) (fun h => by cases h) (fun x hx => by cases hx)) (by rw [Sch.of_mk]; rfl)
  have h2 : Rw.vErr (.mk 6 [.mk 4 []]) (.mk 6 0 0 ⟨#[]⟩ [hiT]) = 0 := Rw.vErr_make (Sch.ty_one (by omega) (by omega) (Sch.ty_leaf (by omega) (by omega) (by omega))) (Sch.chk_make (by omega) (by kernel_rfl) (Nat.zero_le _) (by simp) (fun h => by cases h) (fun x hx => by
    rcases List.mem_cons.1 hx with rfl | hx
    · exact Sch.chk_make (by omega) (by kernel_rfl) (by decide) (by simp) (fun _ => by kernel_rfl) (fun x hx => by cases hx)
    · cases hx)) (by rw [Sch.of_mk]; unfold hiT; simp only [List.all_cons, List.all_nil, Sch.of_mk]; rfl)
  unfold pairS hiR pairA pairB
  rw [Rw.colsErr, if_pos h1, Rw.colsErr, if_pos h2, Rw.colsErr]
  · intro c s v r h; cases h) (by rw [hi_bytes]; decide)
theorem hi_read : Rw.read pairS [128, 1, 1, 2, 104, 105, 7] 0 = .ok (hiR, 6) := by
  have h := Rw.read_put hi_err hi_wf [] [7]
  rw [hi_bytes, hi_fix] at h
  exact h
theorem none_err : Rw.err pairS [] = 80 := by
  unfold Rw.err
  rw [if_neg (by rw [pair_err]; simp), if_pos (by decide)]

set_option maxRecDepth 100000 in
set_option maxHeartbeats 1000000 in
theorem pair8 (w : World) : Calls Tryz.prog 20 #[] w fun e w' => ∃ p c, e = .returned (.agg #[.slice p 2 c]) ∧ Cols w' p pairS ∧ 2 ≤ c ∧ Below w.heap.size w w' := by
  obtain ⟨W, hW⟩ : ∃ W, W = ((w.alloc (.cells #[.slice (some ⟨w.heap.size + 1 + 1, 0, none⟩) 2 2] 24)).alloc (.cells #[.int .i64 4, .slice none 0 0] 51)).alloc (.cells #[.string ⟨#[97]⟩, .int .i64 2, .slice none 0 0, .bool false, .int .i64 0, .int .i64 0, .float .f64 0, .string ⟨#[]⟩, .slice none 0 0, .string ⟨#[98]⟩, .int .i64 6, .slice (some ⟨w.heap.size + 1, 0, none⟩) 1 1, .bool false, .int .i64 0, .int .i64 0, .float .f64 0, .string ⟨#[]⟩, .slice none 0 0] 53) := ⟨_, rfl⟩
  have hs : W.heap.size = w.heap.size + 3 := by rw [hW]; simp
  have HB : Hid (Below w.heap.size w W) := by rw [hW]; exact (((Below.refl _ _).alloc (Nat.le_refl _) _).alloc (by simp) _).alloc (by simp; omega) _
  have h0 : W.heap[w.heap.size]? = some (.cells #[.slice (some ⟨w.heap.size + 1 + 1, 0, none⟩) 2 2] 24 (0, 0)) := by
    rw [hW, blk_old _ _ (by simp; omega), blk_old _ _ (by simp)]
    exact blk_new w _
  have h1 : W.heap[w.heap.size + 1]? = some (.cells #[.int .i64 4, .slice none 0 0] 51 (0, 0)) := by
    rw [hW, blk_old _ _ (by simp)]
    exact blk_second w _ _
  have h3 : ∀ m, W.cell? ⟨w.heap.size + 1 + 1, m, none⟩ = (#[.string ⟨#[97]⟩, .int .i64 2, .slice none 0 0, .bool false, .int .i64 0, .int .i64 0, .float .f64 0, .string ⟨#[]⟩, .slice none 0 0, .string ⟨#[98]⟩, .int .i64 6, .slice (some ⟨w.heap.size + 1, 0, none⟩) 1 1, .bool false, .int .i64 0, .int .i64 0, .float .f64 0, .string ⟨#[]⟩, .slice none 0 0] : Array Value)[m]? := fun m => by
    refine blk_cell (T := 53) (fr := (0, 0)) ?_ m
    rw [hW]
    have := blk_new ((w.alloc (.cells #[.slice (some ⟨w.heap.size + 1 + 1, 0, none⟩) 2 2] 24)).alloc (.cells #[.int .i64 4, .slice none 0 0] 51)) (.cells #[.string ⟨#[97]⟩, .int .i64 2, .slice none 0 0, .bool false, .int .i64 0, .int .i64 0, .float .f64 0, .string ⟨#[]⟩, .slice none 0 0, .string ⟨#[98]⟩, .int .i64 6, .slice (some ⟨w.heap.size + 1, 0, none⟩) 1 1, .bool false, .int .i64 0, .int .i64 0, .float .f64 0, .string ⟨#[]⟩, .slice none 0 0] 53)
    simpa using this
  have hcols : Cols W (some ⟨w.heap.size + 1 + 1, 0, none⟩) pairS := by
    intro j hj
    have hj2 : j < 2 := hj
    rcases (show j = 0 ∨ j = 1 by omega) with rfl | rfl
    · refine ⟨cells9 ⟨#[97]⟩ 2 none 0 0 false 0 0 0 ⟨#[]⟩ none 0 0, ⟨2, none, 0, 0, 0, 0, 0, ⟨#[]⟩, none, 0, 0, rfl, tl_leaf W 2 none 0, v0_lies W none 0⟩, ⟨w.heap.size + 1 + 1, 0, ⟨#[97]⟩, 2, none, 0, 0, false, 0, 0, 0, ⟨#[]⟩, none, 0, 0, rfl, by omega, rfl, ?_⟩⟩
      exact ⟨h3 0, h3 1, h3 2, h3 3, h3 4, h3 5, h3 6, h3 7, h3 8⟩
    · refine ⟨cells9 ⟨#[98]⟩ 6 (some ⟨w.heap.size + 1, 0, none⟩) 1 1 false 0 0 0 ⟨#[]⟩ none 0 0, ⟨6, some ⟨w.heap.size + 1, 0, none⟩, 1, 1, 0, 0, 0, ⟨#[]⟩, none, 0, 0, rfl, tl_one h1 (tl_leaf W 4 none 0) 6, v0_lies W none 0⟩, ⟨w.heap.size + 1 + 1, 0, ⟨#[98]⟩, 6, some ⟨w.heap.size + 1, 0, none⟩, 1, 1, false, 0, 0, 0, ⟨#[]⟩, none, 0, 0, rfl, by omega, rfl, ?_⟩⟩
      exact ⟨h3 9, h3 10, h3 11, h3 12, h3 13, h3 14, h3 15, h3 16, h3 17⟩
  have HC := Lib.hid hcols
  have H0 := Lib.hid h0
  have HW := Lib.hid hW
  clear hcols h0 h1 h3 hs hW
  go_enter Tryz.func20, Tryz.ntmps20
  go_wp2
  rw [← HW.out]
  refine bodyPost_ret (results_cell_row rfl _ _ w.heap.size _ _ _ _ rfl H0.out Tryz.underlying24 rfl (by kernel_rfl)) rfl ?_
  exact ⟨_, _, rfl, HC.out, Nat.le_refl _, HB.out⟩
end Go.Proofs.YtphmmmgdpbokkaaGreat

/- The law's own live(). -/
namespace Go.Proofs.YtphmmmgdpbokkaaGreat
open Go.RowKit

attribute [local go_sem] run_store_float

theorem bool_enc : Rw.encErr (.mk 1 []) (.mk 1 1 0 ⟨#[]⟩ []) = 0 := by
  have h := Rw.vErr_make (t := .mk 1 []) (v := .mk 1 1 0 ⟨#[]⟩ []) (Sch.ty_leaf (by omega) (by omega) (by omega)) (Sch.chk_make (by omega) (by kernel_rfl) (Nat.zero_le _) (by simp) (fun h => by cases h) (fun x hx => by cases hx)) (by rw [Sch.of_mk]; rfl)
  unfold Rw.encErr
  rw [if_neg (by rw [(Rw.vErr_zero h).1]; simp), h]
theorem bool_bytes : Rw.encB (.mk 1 []) (.mk 1 1 0 ⟨#[]⟩ []) = [1] := by
  unfold Rw.encB
  rw [if_pos bool_enc]
  simp only [Sch.vB_mk]
  kernel_rfl
theorem hi_out : Rw.out pairS hiR = [128, 1, 1, 2, 104, 105] := by
  unfold Rw.out
  rw [if_pos hi_err, hi_bytes]
theorem hi_exact : Rw.exact hiR hiR = true := (V.exact_iff _ _).2 rfl
/-- the example's row lies, two values in one block, the text in another -/
theorem hi_lies {w : World} {g h : Nat} (hg : w.heap[g]? = some (.cells #[.int .i64 2, .int .i64 64, .float .f64 0, .string ⟨#[]⟩, .slice none 0 0, .int .i64 6, .int .i64 0, .float .f64 0, .string ⟨#[]⟩, .slice (some ⟨h, 0, none⟩) 1 1] 30 (0, 0))) (hh : w.heap[h]? = some (.cells #[.int .i64 4, .int .i64 0, .float .f64 0, .string ⟨#[104, 105]⟩, .slice none 0 0] 30 (0, 0))) : RLies w (some ⟨g, 0, none⟩) 2 hiR := by
  refine ⟨?_, hi_wf⟩
  have h1 : VLies w (cells5 6 0 0 ⟨#[]⟩ (some ⟨h, 0, none⟩) 1 1) (.mk 6 0 0 ⟨#[]⟩ [hiT]) := by
    refine .mk (xs := [hiT]) (fun _ => cells5 4 0 0 ⟨#[104, 105]⟩ none 0 0) (by simp) (by simp) (fun _ => ⟨h, 0, rfl, (Array.getElem?_eq_some_iff.1 hh).1, fun j hj m hm => ?_⟩) (fun j hj => ?_)
    · have hj0 : j = 0 := by simp at hj; omega
      subst hj0
      simp [World.cell?, hh, cells5]
    · have hj0 : j = 0 := by simp at hj; omega
      subst hj0
      exact vl_leaf w 4 0 0 ⟨#[104, 105]⟩ none 0
  refine .mk (xs := hiR) (fun j => if j = 0 then cells5 2 64 0 ⟨#[]⟩ none 0 0 else cells5 6 0 0 ⟨#[]⟩ (some ⟨h, 0, none⟩) 1 1) (by decide) (by decide) (fun _ => ⟨g, 0, rfl, (Array.getElem?_eq_some_iff.1 hg).1, fun j hj m hm => ?_⟩) (fun j hj => ?_)
  · have hj2 : j < 2 := hj
    rcases (show j = 0 ∨ j = 1 by omega) with rfl | rfl
    all_goals
      rcases (show m = 0 ∨ m = 1 ∨ m = 2 ∨ m = 3 ∨ m = 4 by omega) with rfl | rfl | rfl | rfl | rfl <;> simp [World.cell?, hg, cells5]
  · have hj2 : j < 2 := hj
    rcases (show j = 0 ∨ j = 1 by omega) with rfl | rfl
    · exact vl_leaf w 2 64 0 ⟨#[]⟩ none 0
    · exact h1

set_option maxRecDepth 100000 in
set_option maxHeartbeats 2000000 in
theorem rowLive_ok {I : World → Prop} (K : RowsOk I) (w : World) (hI : I w) : Calls Tryz.prog 8 #[] w fun e w' => e = .returned (.bool true) ∧ Below w.heap.size w w' := by
  have HK := Lib.hid K
  have HI := Lib.hid hI
  clear hI K
  obtain ⟨W, hW⟩ : ∃ W, W = ((w.alloc (.cells #[.int .i64 4, .int .i64 0, .float .f64 0, .string ⟨#[104, 105]⟩, .slice none 0 0] 30)).alloc (.cells #[.int .i64 2, .int .i64 64, .float .f64 0, .string ⟨#[]⟩, .slice none 0 0, .int .i64 6, .int .i64 0, .float .f64 0, .string ⟨#[]⟩, .slice (some ⟨w.heap.size, 0, none⟩) 1 1] 30)).alloc (.cells #[.slice (some ⟨w.heap.size + 1, 0, none⟩) 2 2] 27) := ⟨_, rfl⟩
  have HB0 : Hid (Below w.heap.size w W) := by rw [hW]; exact (((Below.refl _ _).alloc (Nat.le_refl _) _).alloc (by simp) _).alloc (by simp; omega) _
  have HL0 : Hid (RLies W (some ⟨w.heap.size + 1, 0, none⟩) 2 hiR) := by
    refine hi_lies (h := w.heap.size) ?_ ?_
    · rw [hW, blk_old _ _ (by simp)]
      exact blk_second w _ _
    · rw [hW, blk_old _ _ (by simp; omega)]
      exact blk_first w _ _
  have HC0 : Hid (W.cell? ⟨w.heap.size + 1 + 1, 0, none⟩ = some (.slice (some ⟨w.heap.size + 1, 0, none⟩) 2 2)) := by
    show _ = _
    refine blk_cell (C := #[.slice (some ⟨w.heap.size + 1, 0, none⟩) 2 2]) (T := 27) (fr := (0, 0)) ?_ 0
    rw [hW]
    have h := blk_new ((w.alloc (.cells #[.int .i64 4, .int .i64 0, .float .f64 0, .string ⟨#[104, 105]⟩, .slice none 0 0] 30)).alloc (.cells #[.int .i64 2, .int .i64 64, .float .f64 0, .string ⟨#[]⟩, .slice none 0 0, .int .i64 6, .int .i64 0, .float .f64 0, .string ⟨#[]⟩, .slice (some ⟨w.heap.size, 0, none⟩) 1 1] 30)) (.cells #[.slice (some ⟨w.heap.size + 1, 0, none⟩) 2 2] 27)
    simpa using h
  have HW := Lib.hid hW
  have HPairI : Hid (∀ w', Calls Tryz.prog 20 #[] w' fun e w'' => ∃ p c, e = .returned (.agg #[.slice p 2 c]) ∧ SchL w'' p c pairS ∧ Below w'.heap.size w' w'') := fun w' => by
    refine (pair8 w').mono ?_
    rintro e w'' ⟨p, c, rfl, h1, h2, h3⟩
    exact ⟨p, c, rfl, ⟨by decide, h2, h1, pair_wf⟩, h3⟩
  clear hW
  go_enter Tryz.func8, Tryz.ntmps8
  go_wp2_with fail
  rw [← HW.out]
  clear HW
  obtain ⟨G, hG⟩ : ∃ G : World → Prop, G = fun w' => Below W.heap.size W w' := ⟨_, rfl⟩
  have hGs : ∀ w' w'', G w' → Below w'.heap.size w' w'' → G w'' := fun w' w'' h1 h2 => by rw [hG] at h1 ⊢; exact h1.trans (h2.mono h1.size)
  have hGd : ∀ w', G w' → G w'.drew := fun w' h1 => by rw [hG] at h1 ⊢; exact h1.drew
  have hG0 : G W := by rw [hG]; exact Below.refl _ _
  have HGw : Hid (∀ w', G w' → I w' ∧ RLies w' (some ⟨w.heap.size + 1, 0, none⟩) 2 hiR ∧ w'.cell? ⟨w.heap.size + 1 + 1, 0, none⟩ = some (.slice (some ⟨w.heap.size + 1, 0, none⟩) 2 2) ∧ Below w.heap.size w w' ∧ Below W.heap.size W w') := fun w' h => by
    rw [hG] at h
    have hw : Below w.heap.size w w' := HB0.out.trans (h.mono HB0.out.size)
    exact ⟨HK.out.on HI.out hw, HL0.out.on h, cell_on h HC0.out, hw, h⟩
  have HCell : Hid (∀ w', G w' → w'.cell? ⟨w.heap.size + 1 + 1, 0, none⟩ = some (.slice (some ⟨w.heap.size + 1, 0, none⟩) 2 2)) := fun w' h => (HGw.out w' h).2.2.1
  have HPair : Hid (∀ w', G w' → Calls Tryz.prog 20 #[] w' fun e w'' => ∃ p c, e = .returned (.agg #[.slice p 2 c]) ∧ SchL w'' p c pairS ∧ G w'') := fun w' h => by
    refine (HPairI.out w').mono ?_
    rintro e w'' ⟨p, c, rfl, h1, h2⟩
    exact ⟨p, c, rfl, h1, hGs _ _ h h2⟩
  have HEnc : Hid (∀ w' p c, G w' → SchL w' p c pairS → Calls Tryz.prog 6 #[.agg #[.slice p 2 c], .agg #[.slice (some ⟨w.heap.size + 1, 0, none⟩) 2 2]] w' fun e w'' => ∃ q cap, e = .returned (.tuple #[.slice q 6 cap, .int .i64 0]) ∧ At w'' q [128, 1, 1, 2, 104, 105] ∧ G w'') := fun w' p c h hs => by
    have hh := HK.out.encode pairS p c hiR (some ⟨w.heap.size + 1, 0, none⟩) 2 w' hs (HGw.out w' h).2.1 (HGw.out w' h).1
    rw [hi_out, hi_err] at hh
    refine hh.mono ?_
    rintro e w'' ⟨q, cap, rfl, h1, -, h2⟩
    exact ⟨q, cap, rfl, h1, hGs _ _ h h2⟩
  have hc := HCell.out W hG0
  clear hG
  go_region_held3 (fun w' => w'.cell? ⟨w.heap.size + 1 + 1, 0, none⟩ = some (.slice (some ⟨w.heap.size + 1, 0, none⟩) 2 2) ∧ G w') (first | go_keep | exact ⟨by assumption, by assumption⟩ | (refine ⟨?_, ?_⟩ <;> first | assumption | (simp; assumption) | exact hGd _ (by assumption))) (first
    | (go_at_call 20; refine (HPair.out _ (by first | assumption | exact hGd _ (by assumption))).mono ?_; rintro e wq ⟨pq, cq, rfl, hsl, hGq⟩; have hcq := HCell.out _ hGq; have HSq := Lib.hid hsl; clear hsl)
    | (go_at_call 6; refine (HEnc.out _ _ _ (by assumption) HSq.out).mono ?_; rintro e w1 ⟨q1, cap1, rfl, hat1, hG1⟩; have hc1 := HCell.out _ hG1; have HAt1 := Lib.hid hat1; clear hat1)
    | fail)
  have HB1 := Lib.hid (HGw.out _ hG1).2.2.2.1
  have HBW1 := Lib.hid (HGw.out _ hG1).2.2.2.2
  clear hc hc1 hcq hGq hG1 hG0 hGs hGd HGw HCell HPair HEnc HSq
  go_wp2_with fail
  refine (HPairI.out w1).mono ?_
  rintro e w2 ⟨p2, c2, rfl, hs2, hb2⟩
  have HB12 := Lib.hid hb2
  have HS2 := Lib.hid hs2
  clear hb2 hs2
  obtain ⟨wa, hwa⟩ : ∃ wa, wa = w2.alloc (.cells #[.int .u8 128, .int .u8 1, .int .u8 1, .int .u8 2, .int .u8 104, .int .u8 105, .int .u8 7] 5) := ⟨_, rfl⟩
  have hba : Below w2.heap.size w2 wa := by rw [hwa]; exact (Below.refl _ _).alloc (Nat.le_refl _) _
  have hata : At wa (some ⟨w2.heap.size, 0, none⟩) [128, 1, 1, 2, 104, 105, 7] := by rw [hwa]; exact (has_lit (B := 0) (w := w2) [128, 1, 1, 2, 104, 105, 7] rfl (Nat.zero_le _) (by decide)).here
  have HB1a := Lib.hid (HB12.out.trans (hba.mono HB12.out.size))
  have hD := HK.out.decode pairS p2 c2 [128, 1, 1, 2, 104, 105, 7] (some ⟨w2.heap.size, 0, none⟩) 7 0 wa (HS2.out.on hba) (by decide) (by decide) hata (by decide) (by decide) (HK.out.on HI.out (HB1.out.trans (HB1a.out.mono HB1.out.size)))
  rw [hi_read] at hD
  have HD := Lib.hid hD
  have HWa := Lib.hid hwa
  clear hD hba hata hwa HB12
  go_wp2_with fail
  rw [← HWa.out]
  clear HWa
  refine HD.out.mono ?_
  rintro e w3 ⟨q3, c3, rfl, hv3, hb3⟩
  have HV3 := Lib.hid hv3.lies
  have HB13 := Lib.hid (HB1a.out.trans (hb3.mono HB1a.out.size))
  have hl2 : hiR.length = 2 := rfl
  rw [hl2] at HV3 ⊢
  clear hv3 hb3 HD HB1a hl2
  obtain ⟨wb, hwb⟩ : ∃ wb, wb = w3.alloc (.cells #[.slice q3 2 c3] 27) := ⟨_, rfl⟩
  have HB3b : Hid (Below w3.heap.size w3 wb) := by rw [hwb]; exact (Below.refl _ _).alloc (Nat.le_refl _) _
  have HCb : Hid (wb.cell? ⟨w3.heap.size, 0, none⟩ = some (.slice q3 2 c3)) := by show _ = _; rw [hwb]; simp
  have HWb := Lib.hid hwb
  clear hwb
  go_wp2_with fail
  rw [← HWb.out]
  clear HWb
  refine (HPairI.out wb).mono ?_
  rintro e w4 ⟨p4, c4, rfl, hs4, hb4⟩
  have HBb4 := Lib.hid hb4
  have HS4 := Lib.hid hs4
  clear hb4 hs4
  obtain ⟨wc, hwc⟩ : ∃ wc, wc = w4.alloc (.cells #[.int .u8 5] 5) := ⟨_, rfl⟩
  have hbc : Below w4.heap.size w4 wc := by rw [hwc]; exact (Below.refl _ _).alloc (Nat.le_refl _) _
  have hatc : At wc (some ⟨w4.heap.size, 0, none⟩) [5] := by rw [hwc]; exact (has_lit (B := 0) (w := w4) [5] rfl (Nat.zero_le _) (by decide)).here
  have HBbc := Lib.hid (HBb4.out.trans (hbc.mono HBb4.out.size))
  have HB1b := Lib.hid (HB13.out.trans (HB3b.out.mono HB13.out.size))
  have HB1c := Lib.hid (HB1b.out.trans (HBbc.out.mono HB1b.out.size))
  have hD := HK.out.decode pairS p4 c4 [5] (some ⟨w4.heap.size, 0, none⟩) 1 0 wc (HS4.out.on hbc) (by decide) (by decide) hatc (by decide) (by decide) (HK.out.on HI.out (HB1.out.trans (HB1c.out.mono HB1.out.size)))
  rw [five_read] at hD
  have HD := Lib.hid hD
  have HWc := Lib.hid hwc
  clear hD hbc hatc hwc HBb4
  go_wp2_with fail
  rw [← HWc.out]
  clear HWc
  refine HD.out.mono ?_
  rintro e w5 ⟨rfl, hb5⟩
  have HBb5 := Lib.hid (HBbc.out.trans (hb5.mono HBbc.out.size))
  clear hb5 HD HBbc HB1c
  obtain ⟨wd, hwd⟩ : ∃ wd, wd = w5.alloc (.cells #[.slice none 0 0] 27) := ⟨_, rfl⟩
  have hbd : Below w5.heap.size w5 wd := by rw [hwd]; exact (Below.refl _ _).alloc (Nat.le_refl _) _
  have HBbd := Lib.hid (HBb5.out.trans (hbd.mono HBb5.out.size))
  have HB1d := Lib.hid (HB1b.out.trans (HBbd.out.mono HB1b.out.size))
  have hE := HK.out.encodeValue (.mk 1 []) (.mk 1 1 0 ⟨#[]⟩ []) (cells2 1 none 0 0) (cells5 1 1 0 ⟨#[]⟩ none 0 0) wd (tl_leaf wd 1 none 0) (Ty.wf_mk.2 ⟨by omega, fun x hx => by cases hx⟩) (vl_leaf wd 1 1 0 ⟨#[]⟩ none 0) (V.wf_mk.2 ⟨by omega, by omega, by omega, Nat.zero_le _, fun x hx => by cases hx⟩) (HK.out.on HI.out (HB1.out.trans (HB1d.out.mono HB1.out.size)))
  rw [bool_enc, bool_bytes] at hE
  unfold cells2 cells5 at hE
  have HE := Lib.hid hE
  have HWd := Lib.hid hwd
  clear hE hbd hwd HBb5
  go_wp2_with fail
  rw [← HWd.out]
  clear HWd
  refine HE.out.mono ?_
  rintro e w6 ⟨q6, cap6, rfl, hat6, -, hb6⟩
  have HAt6 := Lib.hid hat6
  have HBb6 := Lib.hid (HBbd.out.trans (hb6.mono HBbd.out.size))
  have HB16 := Lib.hid (HB1d.out.trans (hb6.mono HB1d.out.size))
  clear hat6 hb6 HE HBbd HB1d
  obtain ⟨we, hwe⟩ : ∃ we, we = w6.alloc (.cells #[.int .u8 128, .int .u8 1, .int .u8 1, .int .u8 2, .int .u8 104, .int .u8 105] 5) := ⟨_, rfl⟩
  have hbe : Below w6.heap.size w6 we := by rw [hwe]; exact (Below.refl _ _).alloc (Nat.le_refl _) _
  have hate : At we (some ⟨w6.heap.size, 0, none⟩) [128, 1, 1, 2, 104, 105] := by rw [hwe]; exact (has_lit (B := 0) (w := w6) [128, 1, 1, 2, 104, 105] rfl (Nat.zero_le _) (by decide)).here
  have HB1e := Lib.hid (HB16.out.trans (hbe.mono HB16.out.size))
  have HBbe := Lib.hid (HBb6.out.trans (hbe.mono HBb6.out.size))
  have HSe := Lib.hid (same_any q1 (some ⟨w6.heap.size, 0, none⟩) cap1 6 [128, 1, 1, 2, 104, 105] [128, 1, 1, 2, 104, 105] (by decide) we (HAt1.out.on HB1e.out) hate)
  have HWe := Lib.hid hwe
  have HB6e := Lib.hid hbe
  clear hwe hbe hate
  go_wp2_with fail
  rw [← HWe.out]
  clear HWe
  refine HSe.out.mono ?_
  rintro e w7 ⟨rfl, n7, hw7⟩
  have hb7 : Below we.heap.size we w7 := by rw [hw7]; exact below_drewN (Below.refl _ _) n7
  have HB67 := Lib.hid (HB6e.out.trans (hb7.mono HB6e.out.size))
  have HBb7 := Lib.hid (HBbe.out.trans (hb7.mono HBbe.out.size))
  have HB17 := Lib.hid (HB1e.out.trans (hb7.mono HB1e.out.size))
  have HBW7 := Lib.hid (HBW1.out.trans (HB17.out.mono HBW1.out.size))
  have HB37 := Lib.hid (HB3b.out.trans (HBb7.out.mono HB3b.out.size))
  have m1 := cell_on HBb7.out HCb.out
  have m2 := cell_on HBW7.out HC0.out
  have HRo := Lib.hid (rows8 hiR hiR q3 (some ⟨w.heap.size + 1, 0, none⟩) c3 2 w7 (HV3.out.on HB37.out) (HL0.out.on HBW7.out).1)
  rw [hi_exact] at HRo
  clear hw7 hb7 HSe HB1e HBbe HB6e
  simp only [beq_self_eq_true]
  go_wp2_with fail
  refine HRo.out.mono ?_
  rintro e w8 ⟨rfl, hb8⟩
  have HB68 := Lib.hid (HB67.out.trans (hb8.mono HB67.out.size))
  clear hb8 HRo m1 m2 HB67 HBb7 HBW7 HB37
  obtain ⟨wf, hwf⟩ : ∃ wf, wf = w8.alloc (.cells #[.int .u8 1] 5) := ⟨_, rfl⟩
  have hbf : Below w8.heap.size w8 wf := by rw [hwf]; exact (Below.refl _ _).alloc (Nat.le_refl _) _
  have hatf : At wf (some ⟨w8.heap.size, 0, none⟩) [1] := by rw [hwf]; exact (has_lit (B := 0) (w := w8) [1] rfl (Nat.zero_le _) (by decide)).here
  have HB6f := Lib.hid (HB68.out.trans (hbf.mono HB68.out.size))
  have HSf := Lib.hid (same_any q6 (some ⟨w8.heap.size, 0, none⟩) cap6 1 [1] [1] (by decide) wf (HAt6.out.on HB6f.out) hatf)
  have HWf := Lib.hid hwf
  clear hwf hbf hatf HB68
  go_wp2_with fail
  rw [← HWf.out]
  clear HWf
  refine HSf.out.mono ?_
  rintro e w9 ⟨rfl, n9, hw9⟩
  have hb9 : Below wf.heap.size wf w9 := by rw [hw9]; exact below_drewN (Below.refl _ _) n9
  have HB69 := Lib.hid (HB6f.out.trans (hb9.mono HB6f.out.size))
  have HB19 := Lib.hid (HB16.out.trans (HB69.out.mono HB16.out.size))
  have HBw9 := Lib.hid (HB1.out.trans (HB19.out.mono HB1.out.size))
  clear hw9 hb9 HSf HB6f
  simp only [beq_self_eq_true]
  go_wp2_with fail
  refine (HPairI.out _).mono ?_
  rintro e w10 ⟨p10, c10, rfl, hs10, hb10⟩
  have HBw10 := Lib.hid (HBw9.out.trans (hb10.mono HBw9.out.size))
  have hC := HK.out.check pairS p10 c10 [] none 0 w10 hs10 ⟨vl_leaf w10 0 0 0 ⟨#[]⟩ none 0, fun v hv => by cases hv⟩ (HK.out.on HI.out HBw10.out)
  rw [none_err] at hC
  have HC := Lib.hid hC
  clear hs10 hb10 hC
  go_wp2_with fail
  refine HC.out.mono ?_
  rintro e w11 ⟨rfl, hb11⟩
  have HBw11 := Lib.hid (HBw10.out.trans (hb11.mono HBw10.out.size))
  clear hb11 HC
  go_wp2
  go_ret
  exact ⟨rfl, HBw11.out⟩
end Go.Proofs.YtphmmmgdpbokkaaGreat
