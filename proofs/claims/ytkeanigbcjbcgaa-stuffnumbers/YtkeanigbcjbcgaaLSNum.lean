/- filled, StuffNumbers, over what the laws ask of package stuff. -/
import Derived.Test.YtkeanigbcjbcgaaStuffC
import Derived.Deep.OwnRows
namespace Go.Proofs.Ytkeanigbcjbcgaa
open Go.RowKit

theorem made_own (w : World) (n : Nat) : Own (w.alloc (.cells (madeCells #[.int .u8 0] n) 5)) w.heap.size (List.replicate n 0) := by
  refine ⟨#[], ?_⟩
  rw [heap_new, Array.append_empty]
  congr 2
  apply Array.ext
  · simp [madeCells, cellsOf]
  · intro i h1 h2
    simp [madeCells, cellsOf, Nat.mod_one]

/-- what the loop keeps -/
def Filling (B n : Nat) (c : UInt8) (w : World) (i : Nat) (wr : World) : Prop := ∃ xs : List UInt8, Own wr B xs ∧ xs.length = n ∧ Below B w wr ∧ xs.take i = List.replicate i c
theorem filling_step {B n i : Nat} {c : UInt8} {w wr : World} (h : Filling B n c w i wr) (hi : i < n) :
    (∃ v, wr.cell? ⟨B, i, none⟩ = some v) ∧ wr.frozen? ⟨B, i, none⟩ = false ∧ Filling B n c w (i + 1) (wr.setCell ⟨B, i, none⟩ (.int .u8 (c.toNat : Int))) := by
  obtain ⟨xs, hO, hl, hB, ht⟩ := h
  have hc := hO.cells i (by omega)
  rw [Nat.zero_add] at hc
  refine ⟨⟨_, hc⟩, hO.thawed i, _, hO.set i c (by omega), by rw [List.length_set]; exact hl, hB.setCell (Nat.le_refl _) _, ?_⟩
  rw [List.take_succ_eq_append_getElem (by rw [List.length_set]; omega), List.take_set_of_le (Nat.le_refl i), ht, List.getElem_set_self, List.replicate_succ']

set_option maxHeartbeats 1000000 in
theorem filled_any (n : Nat) (hn : n ≤ 1000000) (c : UInt8) (w : World) :
    Calls Try.prog 10 #[.int .i64 n, .int .u8 (c.toNat : Int)] w fun e w' => e = .returned (.slice (some ⟨w.heap.size, 0, none⟩) n n) ∧ At w' (some ⟨w.heap.size, 0, none⟩) (List.replicate n c) ∧ Below w.heap.size w w' := by
  have hmk : ∀ w : World, (Instr.makeSlice 22 (.int .i64 n) (.int .i64 n)).run Try.prog w = .ok (.slice (some ⟨w.heap.size, 0, none⟩) n n) (w.alloc (.cells (madeCells #[.int .u8 0] n) 5)) := run_make_row' (P := Try.prog) 22 5 (.int .u8 0) 1 Try.underlying22 info8 rfl .i64 .i64 n (by omega) (by omega)
  have HI : Hid (Filling w.heap.size n c w 0 (w.alloc (.cells (madeCells #[.int .u8 0] n) 5))) := ⟨List.replicate n 0, made_own w n, by rw [List.length_replicate], (Below.refl _ _).alloc (Nat.le_refl _) _, rfl⟩
  have hcl := c.toNat_lt
  obtain ⟨cv, hcv⟩ : ∃ cv, cv = c.toNat := ⟨_, rfl⟩
  have HCV := Lib.hid hcv
  rw [← hcv]
  clear hcv
  go_enter Try.func10, Try.ntmps10
  go_wp2
  generalize w.alloc (.cells (madeCells #[.int .u8 0] n) 5) = w0 at HI ⊢
  go_loopw [6] (fun v6 wr => ∃ i : Nat, i ≤ n ∧ v6 = .int .i64 i ∧ Hid (Filling w.heap.size n c w i wr)) (fun v6 _ => n - (intOf v6).toNat)
  case atStart => exact ⟨0, by omega, rfl, HI⟩
  case round =>
    obtain ⟨i, hi, rfl, HK⟩ := hrel
    by_cases hlt : i < n
    · obtain ⟨⟨v, hv⟩, hfz, hn⟩ := filling_step HK.out hlt
      rw [← HCV.out] at hn
      have HN := Lib.hid hn
      have hlt1 : (i : Int) < (n : Int) := by omega
      clear hn HK
      go_wp2
      go_roundw
      case rel => exact ⟨i + 1, by omega, by go_num, HN⟩
      case measure => simp [intOf]; omega
    · have hii : i = n := by omega
      subst hii
      obtain ⟨xs, hO, hxl, hB, ht⟩ := HK.out
      rw [← hxl, List.take_length, hxl] at ht
      have HO := Lib.hid hO.at
      have HB := Lib.hid hB
      rw [ht] at HO
      clear HK hO hB hxl ht hlt hi HCV hcl
      go_wp2
      go_ret
      exact ⟨rfl, HO.out, HB.out⟩

theorem Mine.on {w w' : World} {B B' g cap : Nat} {l : List UInt8} (h : Mine w B g cap l) (hg : g < B') (hb : Below B' w w') : Mine w' B g cap l := by
  refine ⟨h.1, ?_⟩
  rcases h.2 with h1 | ⟨g', cap', cur, h1, h2, h3, h4⟩
  · exact .inl h1
  · refine .inr ⟨g', cap', cur, h1, h2, ?_, h4⟩
    cases h1
    rw [hb.block g hg]
    exact h3
theorem mine_lit (w : World) : Mine (w.alloc (.cells #[.int .u8 255] 5)) w.heap.size w.heap.size 1 [255] := by
  refine ⟨rfl, .inr ⟨w.heap.size, 1, #[.int .u8 255], rfl, Nat.le_refl _, heap_new w _, Nat.le_refl _, by simp [maxLen], rfl, rfl⟩⟩

theorem un_z : Cob.un [3, 17, 0] = (40, []) := by kernel_rfl
set_option maxRecDepth 100000 in
theorem un_f : Cob.un ([255] ++ List.replicate 254 1 ++ [1]) = (5, []) := by kernel_rfl
set_option maxRecDepth 100000 in
theorem stuff_254 : (Cob.stuff (List.replicate 254 1)).length = 255 := by kernel_rfl
set_option maxRecDepth 100000 in
theorem stuff_255 : (Cob.stuff (List.replicate 255 1)).length = 257 := by kernel_rfl

set_option maxRecDepth 100000 in
set_option maxHeartbeats 1000000 in
theorem stuffNumbers_any {I : World → Prop} (K : StuffOk I) (w : World) (hI : I w) :
    Calls Try.prog 3 #[] w fun e w' => e = .returned (.bool true) ∧ Below w.heap.size w w' := by
  have HK := Lib.hid K
  have HI := Lib.hid hI
  clear hI
  go_enter Try.func3, Try.ntmps3
  go_wp2_with fail
  have B0 : Hid (Below w.heap.size w (w.alloc (.cells #[.int .u8 3, .int .u8 17, .int .u8 0] 5))) := (Below.refl _ _).alloc (Nat.le_refl _) _
  refine (HK.out.unstuff _ 3 [3, 17, 0] _ (by decide) (by decide) (at_lit w _ [3, 17, 0] rfl) (HK.out.on HI.out B0.out)).mono ?_
  rintro e w1 ⟨q1, cap1, rfl, -, -, -, hb⟩
  have B1 := Lib.hid (B0.out.trans (hb.mono B0.out.size))
  clear hb B0
  rw [un_z]
  have M1 := Lib.hid (mine_lit w1)
  have C1 : Hid (Below w1.heap.size w1 (w1.alloc (.cells #[.int .u8 255] 5))) := (Below.refl _ _).alloc (Nat.le_refl _) _
  have hsz : (w1.alloc (.cells #[.int .u8 255] 5)).heap.size = w1.heap.size + 1 := by simp
  have HFill := Lib.hid (filled_any 254 (by decide) 1 (w1.alloc (.cells #[.int .u8 255] 5)))
  go_wp2_with fail
  refine HFill.out.mono ?_
  rintro e w2 ⟨rfl, hA2, hb⟩
  have M2 := Lib.hid (M1.out.on (by rw [hsz]; omega) hb)
  have C2 := Lib.hid (C1.out.trans (hb.mono C1.out.size))
  obtain ⟨g3, c3, W3, hr3, hm3, hb3⟩ := onto_run w1.heap.size w1.heap.size 1 [255] (List.replicate 254 1) _ 254 w2 M2.out hA2 (by simp) C2.out.size
  rw [hsz] at hr3 ⊢
  have HR3 : Hid (AppRun Try.prog 22 22 22 (.slice (some ⟨w1.heap.size, 0, none⟩) 1 1) (.slice (some ⟨w1.heap.size + 1, 0, none⟩) 254 254) w2 (.slice (some ⟨g3, 0, none⟩) 255 c3) W3) := ⟨hr3⟩
  have C3 := Lib.hid (C2.out.trans hb3)
  have hB3 := C3.out.size
  have M3 := Lib.hid hm3.has
  clear hr3 hm3 hb3 hb hA2 M1 M2 C1 HFill
  go_wp2_with (first
    | (at_builtin; refine wpList_append_ran HR3.out rfl rfl rfl rfl ?_)
    | (at_builtin; refine wp_push M3.out 1 (by simp) hB3 (by decide) rfl rfl rfl rfl rfl ?_; intro g4 c4 W4 hm4 hb4))
  have C4 := Lib.hid (C3.out.trans hb4)
  have B4 := Lib.hid (B1.out.trans (C4.out.mono B1.out.size))
  have hun := HK.out.unstuff (some ⟨g4, 0, none⟩) c4 ([255] ++ List.replicate 254 1 ++ [1]) W4 (by simp) hm4.base.2.2 hm4.at (HK.out.on HI.out B4.out)
  rw [un_f] at hun
  have HUn : Hid (Calls Try.prog 9 #[.slice (some ⟨g4, 0, none⟩) 256 c4] W4 _) := hun
  clear hun hm4 hb4 M3 HR3 C3 C4 hB3 C2
  refine HUn.out.mono ?_
  rintro e w5 ⟨q5, cap5, rfl, -, -, -, hb⟩
  have B5 := Lib.hid (B4.out.trans (hb.mono B4.out.size))
  clear hb HUn
  have HFill := Lib.hid (filled_any 254 (by decide) 1 w5)
  go_wp2_with fail
  refine HFill.out.mono ?_
  rintro e w6 ⟨rfl, hA6, hb⟩
  have B6 := Lib.hid (B5.out.trans (hb.mono B5.out.size))
  have hst := HK.out.stuff (some ⟨w5.heap.size, 0, none⟩) 254 (List.replicate 254 1) w6 (by simp) (by simp) hA6 (HK.out.on HI.out B6.out)
  rw [stuff_254] at hst
  have HSt : Hid (Calls Try.prog 11 #[.slice (some ⟨w5.heap.size, 0, none⟩) 254 254] w6 _) := hst
  clear hst hA6 hb HFill
  go_wp2_with fail
  refine HSt.out.mono ?_
  rintro e w7 ⟨g7, o7, cap7, rfl, -, -, -, hb⟩
  have B7 := Lib.hid (B6.out.trans (hb.mono B6.out.size))
  clear hb HSt
  go_wp2_with fail
  refine (stuffLive_ok HK.out w7 (HK.out.on HI.out B7.out)).mono ?_
  rintro e w8 ⟨rfl, hb⟩
  have B8 := Lib.hid (B7.out.trans (hb.mono B7.out.size))
  clear hb
  have HFill := Lib.hid (filled_any 255 (by decide) 1 w8)
  go_wp2_with fail
  refine HFill.out.mono ?_
  rintro e w9 ⟨rfl, hA9, hb⟩
  have B9 := Lib.hid (B8.out.trans (hb.mono B8.out.size))
  have hln := HK.out.len (some ⟨w8.heap.size, 0, none⟩) 255 (List.replicate 255 1) w9 (by simp) (by simp) hA9 (HK.out.on HI.out B9.out)
  rw [stuff_255] at hln
  have HLn : Hid (Calls Try.prog 13 #[.slice (some ⟨w8.heap.size, 0, none⟩) 255 255] w9 _) := hln
  clear hln hA9 hb HFill
  go_wp2_with fail
  refine HLn.out.mono ?_
  rintro e w10 ⟨rfl, hb⟩
  have B10 := Lib.hid (B9.out.trans (hb.mono B9.out.size))
  clear hb HLn
  go_wp2
  go_ret
  exact ⟨rfl, B10.out⟩
end Go.Proofs.Ytkeanigbcjbcgaa
