/- RzL, Leaf9, WLive9: put together. -/
import Derived.Test.YtdahackmmhcjoaaGreatM09
import Derived.Test.YtdahackmmhcjoaaGreatM02
import Derived.Test.YtdahackmmhcjoaaGreatM16

/- Plain: what a few calls answer that the document fixes. -/
namespace Go.Proofs.YtdahackmmhcjoaaGreat
namespace Rz

def xA : Col := ⟨⟨#[97]⟩, .mk 2 [], false, V0⟩
def xB : Col := ⟨⟨#[98]⟩, .mk 1 [], false, V0⟩
def yB : Col := ⟨⟨#[98]⟩, .mk 2 [], false, V0⟩
def tX : V := .mk 4 0 0 ⟨#[120]⟩ []
def yC : Col := ⟨⟨#[99]⟩, .mk 4 [], true, tX⟩
def sX : List Col := [xA, xB]
def sY : List Col := [yB, yC]
def v5 : V := .mk 2 5 0 ⟨#[]⟩ []
def v1 : V := .mk 1 1 0 ⟨#[]⟩ []
def rX : List V := [v5, v1]

theorem tX_chk : chk 1 tX = 0 := Sch.chk_make (by omega) (by kernel_rfl) (by decide) (by simp) (fun _ => by kernel_rfl) (fun x hx => by cases hx)
theorem tX_fix : V.fix tX = tX := by
  unfold tX
  rw [V.fix_mk, Sch.fixB_zero]
  rfl
theorem xA_err : Sch.colErr [] xA = 0 := Sch.col_make (by kernel_rfl) rfl (leaf_ok (by omega)) (fun _ => Sch.v0_fix) (fun h => by cases h)
theorem xB_err : Sch.colErr [xA] xB = 0 := Sch.col_make (by kernel_rfl) (by kernel_rfl) (leaf_ok (by omega)) (fun _ => Sch.v0_fix) (fun h => by cases h)
theorem yB_err : Sch.colErr [] yB = 0 := Sch.col_make (by kernel_rfl) rfl (leaf_ok (by omega)) (fun _ => Sch.v0_fix) (fun h => by cases h)
theorem yC_err : Sch.colErr [yB] yC = 0 := Sch.col_make (by kernel_rfl) (by kernel_rfl) (leaf_ok (by omega)) (fun h => by cases h) (fun _ => ⟨tX_chk, of_make rfl (fun x hx => by cases hx)⟩)
theorem sX_bytes : (Sch.bytes sX).length ≤ 1024 := by
  have : Sch.bytes sX = [2, 1, 97, 2, 0, 1, 98, 1, 0] := by
    unfold Sch.bytes sX xA xB Sch.cB
    simp only [List.map_cons, List.map_nil, Sch.tyB_mk]
    kernel_rfl
  rw [this]; decide
theorem sY_bytes : (Sch.bytes sY).length ≤ 1024 := by
  have : Sch.bytes sY = [2, 1, 98, 2, 0, 1, 99, 4, 1, 1, 120] := by
    unfold Sch.bytes sY yB yC Sch.cB tX
    simp only [List.map_cons, List.map_nil, Sch.tyB_mk, Sch.vB_mk]
    kernel_rfl
  rw [this]; decide
theorem sX_err : Sch.err sX = 0 := Sch.err_make (by decide) (by decide) (by
  unfold sX
  rw [Sch.colsErr, if_pos xA_err, Sch.colsErr, List.nil_append, if_pos xB_err, Sch.colsErr]) sX_bytes
theorem sY_err : Sch.err sY = 0 := Sch.err_make (by decide) (by decide) (by
  unfold sY
  rw [Sch.colsErr, if_pos yB_err, Sch.colsErr, List.nil_append, if_pos yC_err, Sch.colsErr]) sY_bytes
theorem leaf_wf {k : Int} (h : 1 ≤ k ∧ k ≤ 7) : Ty.wf (.mk k []) := Ty.wf_mk.2 ⟨by omega, fun x hx => by cases hx⟩
theorem tX_wf : tX.wf := V.wf_mk.2 ⟨by omega, by omega, by omega, by decide, fun x hx => by cases hx⟩
theorem sX_wf : ∀ c ∈ sX, c.wf := by
  intro c hc
  unfold sX at hc
  rcases List.mem_cons.1 hc with rfl | hc
  · exact ⟨by decide, leaf_wf (by omega), Sch.v0_wf⟩
  · rcases List.mem_cons.1 hc with rfl | hc
    · exact ⟨by decide, leaf_wf (by omega), Sch.v0_wf⟩
    · cases hc
theorem sY_wf : ∀ c ∈ sY, c.wf := by
  intro c hc
  unfold sY at hc
  rcases List.mem_cons.1 hc with rfl | hc
  · exact ⟨by decide, leaf_wf (by omega), Sch.v0_wf⟩
  · rcases List.mem_cons.1 hc with rfl | hc
    · exact ⟨by decide, leaf_wf (by omega), tX_wf⟩
    · cases hc
theorem rX_wf : ∀ v ∈ rX, v.wf := by
  intro v hv
  unfold rX at hv
  rcases List.mem_cons.1 hv with rfl | hv
  · exact V.wf_mk.2 ⟨by omega, by omega, by omega, Nat.zero_le _, fun x hx => by cases hx⟩
  · rcases List.mem_cons.1 hv with rfl | hv
    · exact V.wf_mk.2 ⟨by omega, by omega, by omega, Nat.zero_le _, fun x hx => by cases hx⟩
    · cases hv
theorem v1_chk : chk 1 v1 = 0 := Sch.chk_make (by omega) (by kernel_rfl) (Nat.zero_le _) (by simp) (by omega) (fun x hx => by cases hx)
theorem rX_given : given sX rX = 0 := by
  unfold given
  rw [if_neg (by decide)]
  unfold sX rX
  have h1 : Rw.vErr xA.ty v5 = 0 := Rw.vErr_make (leaf_ok (by omega)) (int_chk 5) (of_make rfl (fun x hx => by cases hx))
  have h2 : Rw.vErr xB.ty v1 = 0 := Rw.vErr_make (leaf_ok (by omega)) v1_chk (of_make rfl (fun x hx => by cases hx))
  rw [Rw.colsErr, if_pos h1, Rw.colsErr, if_pos h2, Rw.colsErr]
  simp
theorem sXY_check : check sX sY = 0 := by
  refine check_make sX_err sY_err fun c hc => ?_
  unfold sY at hc
  rcases List.mem_cons.1 hc with rfl | hc
  · kernel_rfl
  · rcases List.mem_cons.1 hc with rfl | hc
    · kernel_rfl
    · cases hc
theorem live_row : row sX sY rX = .ok [.mk 2 1 0 ⟨#[]⟩ [], tX] := by
  rw [row_make sXY_check rX_given]
  have h1 : one sX rX yB = .ok (.mk 2 1 0 ⟨#[]⟩ []) := by kernel_rfl
  have h2 : one sX rX yC = .ok tX := by
    have : one sX rX yC = .ok (V.fix tX) := by
      have hf : Sch.find yC.name sX 0 = none := by kernel_rfl
      unfold one
      rw [hf]
      rfl
    rw [this, tX_fix]
  unfold sY
  rw [allR_cons, h1, allR_cons, h2, allR_nil]
theorem live_check : check sY sX = 90 := by
  unfold check
  rw [if_neg (by rw [sY_err]; omega), if_neg (by rw [sX_err]; omega)]
  kernel_rfl
theorem live_project : ∃ c, project sX [⟨#[98]⟩] = .ok [c] := by
  refine ⟨xB.fix, ?_⟩
  unfold project
  rw [if_neg (by rw [sX_err]; omega), if_neg (by decide)]
  have hf : Sch.find ⟨#[98]⟩ sX 0 = some 1 := by kernel_rfl
  have hh : hasN [] ⟨#[98]⟩ = false := rfl
  rw [proj, if_neg (by rw [hh]; decide), hf]
  rfl
theorem live_seven : value (.mk 2 []) (.mk 3 []) (.mk 2 7 0 ⟨#[]⟩ []) = .ok (.mk 3 0 4619567317775286272 ⟨#[]⟩ []) := by
  rw [value_int_float]
  have h1 : fromE 7 = 0 := by kernel_rfl
  have h2 : fromB 7 = 4619567317775286272 := by kernel_rfl
  rw [if_pos h1, h2]
theorem live_great : value (.mk 2 []) (.mk 3 []) (.mk 2 9007199254740993 0 ⟨#[]⟩ []) = .error 10 := by
  rw [value_int_float]
  have h1 : fromE 9007199254740993 = 10 := by kernel_rfl
  rw [if_neg (by rw [h1]; omega)]
end Rz
end Go.Proofs.YtdahackmmhcjoaaGreat

/- Types and values without items, as they lie. -/
namespace Go.Proofs.YtdahackmmhcjoaaGreat
open Go.RowKit

theorem tl_leaf9 (w : World) (k : Int) (p : Option Addr) (c : Nat) : TLies w (cells2 k p 0 c) (.mk k []) := .mk (xs := []) (fun _ => #[]) (by simp) (by simp) (fun hc => absurd rfl hc) (fun j hj => by simp at hj)
theorem vl_leaf9 (w : World) (k i : Int) (b : Nat) (t : ByteArray) (p : Option Addr) (c : Nat) : VLies w (cells5 k i b t p 0 c) (.mk k i b t []) := .mk (xs := []) (fun _ => #[]) (by simp) (by simp) (fun hc => absurd rfl hc) (fun j hj => by simp at hj)
end Go.Proofs.YtdahackmmhcjoaaGreat

/- The law's own integer, float, live. -/
namespace Go.Proofs.YtdahackmmhcjoaaGreat
open Go.RowKit

attribute [local go_sem] run_store_float

set_option maxRecDepth 100000 in
set_option maxHeartbeats 400000 in
theorem integer9 (w : World) : Calls Tryz.prog 19 #[] w fun e w' => e = .returned (.agg #[.int .i64 2, .slice none 0 0]) ∧ Below w.heap.size w w' := by
  have HB : Hid (Below w.heap.size w (w.alloc (.cells #[.int .i64 2, .slice none 0 0] 42))) := (Below.refl _ _).alloc (Nat.le_refl _) _
  go_enter Tryz.func19, Tryz.ntmps19
  go_wp2
  refine bodyPost_ret (results_cell_row rfl _ _ w.heap.size _ _ _ _ rfl (blk_new w _) Tryz.underlying42 rfl (by kernel_rfl)) rfl ?_
  exact ⟨rfl, HB.out⟩
set_option maxRecDepth 100000 in
set_option maxHeartbeats 400000 in
theorem float9 (w : World) : Calls Tryz.prog 20 #[] w fun e w' => e = .returned (.agg #[.int .i64 3, .slice none 0 0]) ∧ Below w.heap.size w w' := by
  have HB : Hid (Below w.heap.size w (w.alloc (.cells #[.int .i64 3, .slice none 0 0] 42))) := (Below.refl _ _).alloc (Nat.le_refl _) _
  go_enter Tryz.func20, Tryz.ntmps20
  go_wp2
  refine bodyPost_ret (results_cell_row rfl _ _ w.heap.size _ _ _ _ rfl (blk_new w _) Tryz.underlying42 rfl (by kernel_rfl)) rfl ?_
  exact ⟨rfl, HB.out⟩

section
variable {w : World} {g : Nat} {T : TypeId}
theorem cols2 {n1 n2 : ByteArray} {k1 k2 : Int} {h1 h2 : Bool} {a1 b1 a2 b2 : Int} {f1 f2 : Nat} {t1 t2 : ByteArray} (hg : w.heap[g]? = some (.cells #[.string n1, .int .i64 k1, .slice none 0 0, .bool h1, .int .i64 a1, .int .i64 b1, .float .f64 f1, .string t1, .slice none 0 0, .string n2, .int .i64 k2, .slice none 0 0, .bool h2, .int .i64 a2, .int .i64 b2, .float .f64 f2, .string t2, .slice none 0 0] T (0, 0))) :
    Cols w (some ⟨g, 0, none⟩) [⟨n1, .mk k1 [], h1, .mk a1 b1 f1 t1 []⟩, ⟨n2, .mk k2 [], h2, .mk a2 b2 f2 t2 []⟩] := by
  intro j hj
  have hl := blk_lt hg
  have hj2 : j = 0 ∨ j = 1 := by
    simp only [List.length_cons, List.length_nil] at hj
    omega
  rcases hj2 with rfl | rfl
  · exact ⟨_, ⟨k1, none, 0, 0, a1, b1, f1, t1, none, 0, 0, rfl, tl_leaf9 w k1 none 0, vl_leaf9 w a1 b1 f1 t1 none 0⟩, ⟨g, 0, n1, k1, none, 0, 0, h1, a1, b1, f1, t1, none, 0, 0, rfl, hl, rfl, blk_cell hg 0, blk_cell hg 1, blk_cell hg 2, blk_cell hg 3, blk_cell hg 4, blk_cell hg 5, blk_cell hg 6, blk_cell hg 7, blk_cell hg 8⟩⟩
  · exact ⟨_, ⟨k2, none, 0, 0, a2, b2, f2, t2, none, 0, 0, rfl, tl_leaf9 w k2 none 0, vl_leaf9 w a2 b2 f2 t2 none 0⟩, ⟨g, 0, n2, k2, none, 0, 0, h2, a2, b2, f2, t2, none, 0, 0, rfl, hl, rfl, blk_cell hg 9, blk_cell hg 10, blk_cell hg 11, blk_cell hg 12, blk_cell hg 13, blk_cell hg 14, blk_cell hg 15, blk_cell hg 16, blk_cell hg 17⟩⟩
theorem items2 {a1 b1 a2 b2 : Int} {f1 f2 : Nat} {t1 t2 : ByteArray} (hg : w.heap[g]? = some (.cells #[.int .i64 a1, .int .i64 b1, .float .f64 f1, .string t1, .slice none 0 0, .int .i64 a2, .int .i64 b2, .float .f64 f2, .string t2, .slice none 0 0] T (0, 0))) :
    Items w (some ⟨g, 0, none⟩) [.mk a1 b1 f1 t1 [], .mk a2 b2 f2 t2 []] := by
  intro j hj
  have hl := blk_lt hg
  have hj2 : j = 0 ∨ j = 1 := by
    simp only [List.length_cons, List.length_nil] at hj
    omega
  rcases hj2 with rfl | rfl
  · exact ⟨_, vl_leaf9 w a1 b1 f1 t1 none 0, ⟨g, 0, a1, b1, f1, t1, none, 0, 0, rfl, hl, rfl, blk_cell hg 0, blk_cell hg 1, blk_cell hg 2, blk_cell hg 3, blk_cell hg 4⟩⟩
  · exact ⟨_, vl_leaf9 w a2 b2 f2 t2 none 0, ⟨g, 0, a2, b2, f2, t2, none, 0, 0, rfl, hl, rfl, blk_cell hg 5, blk_cell hg 6, blk_cell hg 7, blk_cell hg 8, blk_cell hg 9⟩⟩
theorem names1 {n : ByteArray} (hg : w.heap[g]? = some (.cells #[.string n] T (0, 0))) : Names w (some ⟨g, 0, none⟩) [n] := by
  refine .inr ⟨g, 0, rfl, blk_lt hg, fun j hj => ?_⟩
  have hj0 : j = 0 := by simpa using hj
  subst hj0
  exact blk_cell hg 0
/-- blocks that stand, wherever one goes on -/
theorem blk_go {w' : World} {o : Obj} (h : w.heap[g]? = some o) (hb : Below w.heap.size w w') : w'.heap[g]? = some o := (hb.block _ (blk_lt h)).trans h
end

set_option maxRecDepth 100000 in
set_option maxHeartbeats 4000000 in
theorem live9 (w : World) : Calls Tryz.prog 8 #[] w fun e w' => e = .returned (.bool true) ∧ Below w.heap.size w w' := by
  go_enter Tryz.func8, Tryz.ntmps8
  go_wp2_with fail
  refine (integer9 w).mono ?_
  rintro e w1 ⟨rfl, hb1⟩
  have HB1 := Lib.hid hb1
  clear hb1
  go_wp2_with fail
  refine (float9 w1).mono ?_
  rintro e w2 ⟨rfl, hb2⟩
  have HB2 := Lib.hid (HB1.out.trans (hb2.mono HB1.out.size))
  clear hb2
  have HV := Lib.hid (valueK9 (.mk 2 []) (.mk 3 []) (.mk 2 7 0 ⟨#[]⟩ []) w2 _ _ _ (tl_leaf9 w2 2 none 0) (tl_leaf9 w2 3 none 0) (vl_leaf9 w2 2 7 0 ⟨#[]⟩ none 0) (V.wf_mk.2 ⟨by omega, by omega, by omega, Nat.zero_le _, fun x hx => by cases hx⟩))
  rw [Rz.live_seven] at HV
  unfold cells2 cells5 at HV
  go_wp2_with fail
  refine HV.out.mono ?_
  rintro e w3 ⟨u3, rfl, hv3, hb3⟩
  obtain ⟨p3, c3, rfl, -⟩ := hv3.lies.open
  unfold cells5
  obtain ⟨W3, hW3⟩ : ∃ W, W = w3.alloc (.cells #[.int .i64 3, .int .i64 0, .float .f64 4619567317775286272, .string ⟨#[]⟩, .slice p3 0 c3] 35) := ⟨_, rfl⟩
  have HBk1 : Hid (W3.heap[w3.heap.size]? = some (.cells #[.int .i64 3, .int .i64 0, .float .f64 4619567317775286272, .string ⟨#[]⟩, .slice p3 0 c3] 35 (0, 0))) := by rw [hW3]; exact blk_new w3 _
  have HB3 : Hid (Below w.heap.size w W3) := by
    have h := HB2.out.trans (hb3.mono HB2.out.size)
    rw [hW3]; exact h.alloc h.size _
  have HW3 := Lib.hid hW3
  have hl0 : ([] : List V).length = 0 := rfl
  rw [hl0]
  clear hW3 hv3 hb3 HV HB1 HB2 hl0
  go_wp2_with fail
  rw [← HW3.out]
  clear HW3
  refine (integer9 W3).mono ?_
  rintro e w4 ⟨rfl, hb4⟩
  have HB4 := Lib.hid hb4
  clear hb4
  go_wp2_with fail
  refine (float9 w4).mono ?_
  rintro e w5 ⟨rfl, hb5⟩
  have HB5 := Lib.hid (HB4.out.trans (hb5.mono HB4.out.size))
  clear hb5 HB4
  have HV := Lib.hid (valueK9 (.mk 2 []) (.mk 3 []) (.mk 2 9007199254740993 0 ⟨#[]⟩ []) w5 _ _ _ (tl_leaf9 w5 2 none 0) (tl_leaf9 w5 3 none 0) (vl_leaf9 w5 2 9007199254740993 0 ⟨#[]⟩ none 0) (V.wf_mk.2 ⟨by omega, by omega, by omega, Nat.zero_le _, fun x hx => by cases hx⟩))
  rw [Rz.live_great] at HV
  unfold cells2 cells5 at HV
  go_wp2_with fail
  refine HV.out.mono ?_
  rintro e w6 ⟨rfl, hb6⟩
  unfold zero5 cells5
  obtain ⟨W6, hW6⟩ : ∃ W, W = w6.alloc (.cells #[.int .i64 0, .int .i64 0, .float .f64 0, .string ⟨#[]⟩, .slice none 0 0] 35) := ⟨_, rfl⟩
  have HB6 : Hid (Below W3.heap.size W3 W6) := by
    have h := HB5.out.trans (hb6.mono HB5.out.size)
    rw [hW6]; exact h.alloc h.size _
  have HW6 := Lib.hid hW6
  clear hW6 hb6 HV HB5
  go_wp2_with fail
  rw [← HW6.out]
  clear HW6
  refine (integer9 W6).mono ?_
  rintro e w7 ⟨rfl, hb7⟩
  have HB7 := Lib.hid (HB6.out.trans (hb7.mono HB6.out.size))
  clear hb7 HB6
  obtain ⟨W7, hW7⟩ : ∃ W, W = (w7.alloc (.cells #[.string ⟨#[97]⟩, .int .i64 2, .slice none 0 0, .bool false, .int .i64 0, .int .i64 0, .float .f64 0, .string ⟨#[]⟩, .slice none 0 0, .string ⟨#[98]⟩, .int .i64 1, .slice none 0 0, .bool false, .int .i64 0, .int .i64 0, .float .f64 0, .string ⟨#[]⟩, .slice none 0 0] 44)).alloc (.cells #[.slice (some ⟨w7.heap.size, 0, none⟩) 2 2] 24) := ⟨_, rfl⟩
  obtain ⟨l70, l71, l7b, l7s⟩ := al2 w7 (.cells #[.string ⟨#[97]⟩, .int .i64 2, .slice none 0 0, .bool false, .int .i64 0, .int .i64 0, .float .f64 0, .string ⟨#[]⟩, .slice none 0 0, .string ⟨#[98]⟩, .int .i64 1, .slice none 0 0, .bool false, .int .i64 0, .int .i64 0, .float .f64 0, .string ⟨#[]⟩, .slice none 0 0] 44) (.cells #[.slice (some ⟨w7.heap.size, 0, none⟩) 2 2] 24)
  rw [← hW7] at l70 l71 l7b l7s
  have HX7 : Hid (Cols W7 (some ⟨w7.heap.size, 0, none⟩) Rz.sX) := cols2 l70
  have HK7 := Lib.hid l71
  have HB7b := Lib.hid (HB7.out.trans (l7b.mono HB7.out.size))
  have HW7 := Lib.hid hW7
  clear hW7 l70 l71 l7b l7s HB7
  go_wp2_with fail
  rw [← HW7.out]
  clear HW7
  refine (integer9 W7).mono ?_
  rintro e w8 ⟨rfl, hb8⟩
  have HB8 := Lib.hid hb8
  clear hb8
  obtain ⟨W8, hW8⟩ : ∃ W, W = (w8.alloc (.cells #[.string ⟨#[98]⟩, .int .i64 2, .slice none 0 0, .bool false, .int .i64 0, .int .i64 0, .float .f64 0, .string ⟨#[]⟩, .slice none 0 0, .string ⟨#[99]⟩, .int .i64 4, .slice none 0 0, .bool true, .int .i64 4, .int .i64 0, .float .f64 0, .string ⟨#[120]⟩, .slice none 0 0] 44)).alloc (.cells #[.slice (some ⟨w8.heap.size, 0, none⟩) 2 2] 24) := ⟨_, rfl⟩
  obtain ⟨l80, l81, l8b, l8s⟩ := al2 w8 (.cells #[.string ⟨#[98]⟩, .int .i64 2, .slice none 0 0, .bool false, .int .i64 0, .int .i64 0, .float .f64 0, .string ⟨#[]⟩, .slice none 0 0, .string ⟨#[99]⟩, .int .i64 4, .slice none 0 0, .bool true, .int .i64 4, .int .i64 0, .float .f64 0, .string ⟨#[120]⟩, .slice none 0 0] 44) (.cells #[.slice (some ⟨w8.heap.size, 0, none⟩) 2 2] 24)
  rw [← hW8] at l80 l81 l8b l8s
  have HB78 : Hid (Below W7.heap.size W7 W8) := HB8.out.trans (l8b.mono HB8.out.size)
  have HY8 : Hid (Cols W8 (some ⟨w8.heap.size, 0, none⟩) Rz.sY) := cols2 l80
  have HK8 := Lib.hid (And.intro (blk_go HK7.out HB78.out) l81)
  have HX8 := Lib.hid (HX7.out.on HB78.out)
  have HB8b := Lib.hid (HB7b.out.trans (HB78.out.mono HB7b.out.size))
  have HW8 := Lib.hid hW8
  have HS8 : Hid (W8.heap.size = w8.heap.size + 1 + 1) := l8s
  clear hW8 l80 l81 l8b l8s HB8 HX7 HK7 HB7b HB78
  have k5a := fun o => blk_cell (blk_go HK8.out.1 ((Below.refl W8.heap.size W8).alloc (Nat.le_refl _) o)) 0
  have k6a := fun o => blk_cell (blk_go HK8.out.2 ((Below.refl W8.heap.size W8).alloc (Nat.le_refl _) o)) 0
  have k5 := blk_cell HK8.out.1 0
  have k6 := blk_cell HK8.out.2 0
  obtain ⟨W9, hW9⟩ : ∃ W, W = W8.alloc (.cells #[.int .i64 2, .int .i64 5, .float .f64 0, .string ⟨#[]⟩, .slice none 0 0, .int .i64 1, .int .i64 1, .float .f64 0, .string ⟨#[]⟩, .slice none 0 0] 35) := ⟨_, rfl⟩
  have hb89 : Below W8.heap.size W8 W9 := by rw [hW9]; exact (Below.refl _ _).alloc (Nat.le_refl _) _
  have hi9 : Items W9 (some ⟨W8.heap.size, 0, none⟩) Rz.rX := by rw [hW9]; exact items2 (blk_new W8 _)
  have HR := Lib.hid (rowK9 Rz.sX Rz.sY Rz.rX (some ⟨w7.heap.size, 0, none⟩) (some ⟨w8.heap.size, 0, none⟩) (some ⟨W8.heap.size, 0, none⟩) 2 2 2 W9 (by decide) (by decide) (HX8.out.on hb89) (HY8.out.on hb89) hi9 Rz.sX_wf Rz.sY_wf Rz.rX_wf)
  rw [Rz.live_row] at HR
  have hlx : Rz.sX.length = 2 := rfl
  have hly : Rz.sY.length = 2 := rfl
  have hlr : Rz.rX.length = 2 := rfl
  rw [hlx, hly, hlr] at HR
  have HB9 := Lib.hid hb89
  have HW9 := Lib.hid hW9
  clear hW9 hb89 hi9 hlx hly hlr
  rw [HS8.out] at HR
  rw [HW8.out] at k5 k6 k5a k6a
  go_wp2_with fail
  rw [← HW8.out, ← HW9.out]
  clear HW8 HW9 k5 k6 k5a k6a
  refine HR.out.mono ?_
  rintro e w10 ⟨q10, c10, rfl, hv10, hb10⟩
  have hl2 : ([.mk 2 1 0 ⟨#[]⟩ [], Rz.tX] : List V).length = 2 := rfl
  obtain ⟨p', c', he', -, -, hit⟩ := hv10.lies.open
  unfold cells5 at he'
  simp only [Array.mk.injEq, List.cons.injEq, Value.slice.injEq, and_true, true_and] at he'
  obtain ⟨rfl, rfl⟩ := he'
  obtain ⟨u0, hu0, hi0⟩ := hit 0 (by decide)
  obtain ⟨u1, hu1, hi1⟩ := hit 1 (by decide)
  obtain ⟨p0', c0', rfl, -⟩ := VLies.open (k := 2) (i := 1) (b := 0) (t := ⟨#[]⟩) (xs := []) hu0
  obtain ⟨p1', c1', rfl, -⟩ := VLies.open (k := 4) (i := 0) (b := 0) (t := ⟨#[120]⟩) (xs := []) hu1
  obtain ⟨b10, o10, ky0, iy0, fy0, ty0, qy0, ny0, cy0, rfl, -, he0, -, x0, -⟩ := hi0.lies
  obtain ⟨b10', o10', ky1, iy1, fy1, ty1, qy1, ny1, cy1, hpe, -, he1, -, -, -, x1, -⟩ := hi1.lies
  injection hpe with hpe
  injection hpe with hp1 hp2
  subst hp1 hp2
  have e0 : iy0 = 1 := by
    unfold cells5 at he0
    injection he0 with he0
    injection he0 with _ he0
    injection he0 with he0 _
    injection he0 with _ he0
    exact he0.symm
  have e1 : ty1 = ⟨#[120]⟩ := by
    unfold cells5 at he1
    injection he1 with he1
    injection he1 with _ he1
    injection he1 with _ he1
    injection he1 with _ he1
    injection he1 with he1 _
    injection he1 with he1
    exact he1.symm
  subst e0 e1
  rw [hl2]
  rw [Nat.zero_mul, Nat.add_zero] at x0
  rw [Nat.one_mul] at x1
  have HB10 := Lib.hid (HB9.out.trans (hb10.mono HB9.out.size))
  obtain ⟨W10, hW10⟩ : ∃ W, W = w10.alloc (.cells #[.slice (some ⟨b10, o10, none⟩) 2 c10] 27) := ⟨_, rfl⟩
  have hb1010 : Below w10.heap.size w10 W10 := by rw [hW10]; exact (Below.refl _ _).alloc (Nat.le_refl _) _
  have HK10 : Hid (W10.heap[w10.heap.size]? = some (.cells #[.slice (some ⟨b10, o10, none⟩) 2 c10] 27 (0, 0))) := by rw [hW10]; exact blk_new w10 _
  have HX10 : Hid (W10.cell? ⟨b10, o10 + 1, none⟩ = some (.int .i64 1) ∧ W10.cell? ⟨b10, o10 + 5 + 3, none⟩ = some (.string ⟨#[120]⟩)) := ⟨cell_on hb1010 x0, cell_on hb1010 x1⟩
  have HB10b := Lib.hid (HB10.out.trans (hb1010.mono HB10.out.size))
  have HS10 : Hid (W10.heap.size = w10.heap.size + 1) := by show _ = _; rw [hW10]; simp
  have HW10 := Lib.hid hW10
  clear hW10 hb1010 x0 x1 hv10 hb10 hit hu0 hu1 hi0 hi1 HR HB9 hl2 HB10
  have k5a := fun o => blk_cell (blk_go (blk_go HK8.out.1 HB10b.out) ((Below.refl W10.heap.size W10).alloc (Nat.le_refl _) o)) 0
  have k5 := blk_cell (blk_go HK8.out.1 HB10b.out) 0
  obtain ⟨W11, hW11⟩ : ∃ W, W = W10.alloc (.cells #[.string ⟨#[98]⟩] 9) := ⟨_, rfl⟩
  have hb11 : Below W10.heap.size W10 W11 := by rw [hW11]; exact (Below.refl _ _).alloc (Nat.le_refl _) _
  have hn11 : Names W11 (some ⟨W10.heap.size, 0, none⟩) [⟨#[98]⟩] := by rw [hW11]; exact names1 (blk_new W10 _)
  have hb811 := HB10b.out.trans (hb11.mono HB10b.out.size)
  obtain ⟨cc, hcc⟩ := Rz.live_project
  have HP := Lib.hid (projectK9 Rz.sX [⟨#[98]⟩] (some ⟨w7.heap.size, 0, none⟩) (some ⟨W10.heap.size, 0, none⟩) 2 1 W11 (by decide) (by decide) (by decide) (HX8.out.on hb811) hn11 Rz.sX_wf)
  have hlx : Rz.sX.length = 2 := rfl
  have hln : ([⟨#[98]⟩] : List ByteArray).length = 1 := rfl
  rw [hcc, hlx, hln, HS10.out] at HP
  have HB11 := Lib.hid hb11
  have HW11 := Lib.hid hW11
  clear hW11 hb11 hn11 hb811 hcc hlx hln
  rw [HW10.out] at k5 k5a
  go_wp2_with fail
  rw [← HW10.out, ← HW11.out]
  clear HW10 HW11 k5 k5a
  refine HP.out.mono ?_
  rintro e w12 ⟨q12, c12, rfl, -, -, hb12⟩
  have hl1 : ([cc] : List Col).length = 1 := rfl
  rw [hl1]
  have HB12 := Lib.hid (HB11.out.trans (hb12.mono HB11.out.size))
  obtain ⟨W12, hW12⟩ : ∃ W, W = w12.alloc (.cells #[.slice q12 1 c12] 24) := ⟨_, rfl⟩
  have HK12 : Hid (W12.heap[w12.heap.size]? = some (.cells #[.slice q12 1 c12] 24 (0, 0))) := by rw [hW12]; exact blk_new w12 _
  have HB12b : Hid (Below W10.heap.size W10 W12) := by rw [hW12]; exact HB12.out.alloc HB12.out.size _
  have HB812 := Lib.hid (HB10b.out.trans (HB12b.out.mono HB10b.out.size))
  have HC := Lib.hid (checkK9 Rz.sY Rz.sX (some ⟨w8.heap.size, 0, none⟩) (some ⟨w7.heap.size, 0, none⟩) 2 2 W12 (by decide) (by decide) (HY8.out.on HB812.out) (HX8.out.on HB812.out) Rz.sY_wf Rz.sX_wf)
  have hlx : Rz.sX.length = 2 := rfl
  have hly : Rz.sY.length = 2 := rfl
  rw [Rz.live_check, hlx, hly] at HC
  have k5 := blk_cell (blk_go HK8.out.1 HB812.out) 0
  have k6 := blk_cell (blk_go HK8.out.2 HB812.out) 0
  have HW12 := Lib.hid hW12
  clear hW12 hb12 hl1 hlx hly HP HB11 HB12
  rw [HW12.out] at k5 k6
  go_wp2_with fail
  rw [← HW12.out]
  clear HW12 k5 k6
  refine HC.out.mono ?_
  rintro e w13 ⟨rfl, hb13⟩
  have HB1013 := Lib.hid (HB12b.out.trans (hb13.mono HB12b.out.size))
  have HB813 := Lib.hid (HB10b.out.trans (HB1013.out.mono HB10b.out.size))
  have HB313 := Lib.hid (HB8b.out.trans (HB813.out.mono HB8b.out.size))
  have HBf := Lib.hid (HB3.out.trans (HB313.out.mono HB3.out.size))
  have m1 : w13.cell? ⟨w3.heap.size, 2, none⟩ = some (.float .f64 4619567317775286272) := blk_cell (blk_go HBk1.out HB313.out) 2
  have m2 : w13.cell? ⟨w10.heap.size, 0, none⟩ = some (.slice (some ⟨b10, o10, none⟩) 2 c10) := blk_cell (blk_go HK10.out HB1013.out) 0
  have m3 := cell_on HB1013.out HX10.out.1
  have m4 : w13.cell? ⟨b10, o10 + 5 + 3, none⟩ = some (.string ⟨#[120]⟩) := cell_on HB1013.out HX10.out.2
  have m5 : w13.cell? ⟨w12.heap.size, 0, none⟩ = some (.slice q12 1 c12) := blk_cell (blk_go HK12.out hb13) 0
  have fe : (FloatKind.f64.format.order 4619567317775286272 4619567317775286272 == some .eq) = true := by kernel_rfl
  clear hb13 HC HBk1 HK10 HX10 HK12 HB1013 HB813 HB313
  go_wp2
  go_ret
  exact ⟨rfl, HBf.out⟩
end Go.Proofs.YtdahackmmhcjoaaGreat
