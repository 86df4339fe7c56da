/- K9F: put together. -/
import Derived.Test.YtbedlaaedefclaaM36

/- The landed resolve: checkColumn, Check, checkRow. -/
namespace Go.Proofs.Ytbedlaaedefclaa
open Go.RowKit

attribute [local go_sem] run_store_float

set_option maxRecDepth 100000 in
set_option maxHeartbeats 2000000 in
theorem checkColumnK9 (s : List Col) (p : Option Addr) (cp : Nat) (y : Col) (u : Array Value) (w : World) (hs : s.length * 120 ≤ 140737488351232) (hx : Cols w p s) (hu : CLies w u y) (hts : ∀ c ∈ s, Ty.check 1 c.ty = 0) (hty : Ty.check 1 y.ty = 0) :
    Calls Try.prog 56 #[.agg #[.slice p s.length cp], .agg u] w fun e w' => e = .returned (.int .i64 (Rz.colErr s y : Nat)) ∧ Below w.heap.size w w' := by
  obtain ⟨k, tp, tn, tc, vk, vi, vb, vt, vp, vn, vc, rfl, hT, -⟩ := hu.out
  unfold cells9
  obtain ⟨W0, hW0⟩ : ∃ W0, W0 = (w.alloc (.cells #[.slice p s.length cp] 37)).alloc (.cells #[.string y.name, .int .i64 k, .slice tp tn tc, .bool y.has, .int .i64 vk, .int .i64 vi, .float .f64 vb, .string vt, .slice vp vn vc] 58) := ⟨_, rfl⟩
  obtain ⟨l0, l1, lb, ls⟩ := al2 w (.cells #[.slice p s.length cp] 37) (.cells #[.string y.name, .int .i64 k, .slice tp tn tc, .bool y.has, .int .i64 vk, .int .i64 vi, .float .f64 vb, .string vt, .slice vp vn vc] 58)
  rw [← hW0] at l0 l1 lb ls
  have HW0 := Lib.hid hW0
  have HB0 := Lib.hid lb
  have HCl : Hid (∀ w', Below W0.heap.size W0 w' → w'.cell? ⟨w.heap.size, 0, none⟩ = some (.slice p s.length cp) ∧ w'.cell? ⟨w.heap.size + 1, 0, none⟩ = some (.string y.name) ∧ w'.cell? ⟨w.heap.size + 1, 1, none⟩ = some (.int .i64 k) ∧ w'.cell? ⟨w.heap.size + 1, 2, none⟩ = some (.slice tp tn tc) ∧ w'.cell? ⟨w.heap.size + 1, 3, none⟩ = some (.bool y.has)) := fun w' h => ⟨blk_at l0 h 0, blk_at l1 h 0, blk_at l1 h 1, blk_at l1 h 2, blk_at l1 h 3⟩
  have HF := Lib.hid (findK s y.name p cp W0 hs (hx.on lb))
  have HE : Hid (Rz.colErr s y = match Sch.find y.name s 0 with
    | none => if y.has then 0 else 90
    | some k => if Rz.can 7 (Rz.colAt s k).ty y.ty then 0 else 60) := rfl
  have HX := Lib.hid hx
  have HT := Lib.hid hT
  have HTs := Lib.hid hts
  obtain ⟨R, hR⟩ : ∃ R, R = Rz.colErr s y := ⟨_, rfl⟩
  rw [← hR] at HE ⊢
  have HFo := Lib.hid (fun j h => Rz.find_here (n := y.name) (s := s) (k := j) h)
  obtain ⟨fo, hfo⟩ : ∃ fo, fo = Sch.find y.name s 0 := ⟨_, rfl⟩
  rw [← hfo] at HF HE
  have HFo2 := Lib.hid hfo
  generalize hhs : y.has = hs' at *
  generalize hnm : y.name = nm at *
  clear hR hfo hW0 l0 l1 lb ls hx hu hT hts hhs hnm
  go_enter Try.func56, Try.ntmps56
  go_wp2_with fail
  rw [← HW0.out]
  clear HW0
  refine HF.out.mono ?_
  rintro e w1 ⟨he, hb1⟩
  have HB1 := Lib.hid (HB0.out.trans (hb1.mono HB0.out.size))
  obtain ⟨c0, c1, c2, c3, c4⟩ := HCl.out w1 hb1
  clear hb1 HF HCl
  cases fo with
  | none =>
    have he' : e = .returned (.tuple #[.int .i64 0, .bool false]) := he
    subst he'
    cases hs' with
    | true =>
      have HE2 : Hid (R = 0) := HE.out
      clear HE he
      go_wp2_with fail
      go_quiet (fail)
      go_wp2
      go_ret
      exact ⟨by rw [HE2.out]; rfl, below_drewN HB1.out _⟩
    | false =>
      have HE2 : Hid (R = 90) := HE.out
      clear HE he
      go_wp2_with fail
      go_quiet (fail)
      go_wp2
      go_ret
      exact ⟨by rw [HE2.out]; rfl, below_drewN HB1.out _⟩
  | some j =>
    have he' : e = .returned (.tuple #[.int .i64 j, .bool true]) := he
    subst he'
    obtain ⟨hj, -⟩ := HFo.out j HFo2.out.symm
    obtain ⟨bx, ox, k', tp', tn', tc', vk', vi', vb', vt', vp', vn', vc', rfl, _, h9, hT', -⟩ := (HX.out.on HB1.out).at j hj
    obtain ⟨-, a1, a2, -⟩ := h9
    have HC : Hid (∀ w', Below w1.heap.size w1 w' → Calls Try.prog 25 #[.agg #[.int .i64 k', .slice tp' tn' tc'], .agg #[.int .i64 k, .slice tp tn tc]] w' fun e w'' => e = .returned (.bool (Rz.can 7 (Rz.colAt s j).ty y.ty)) ∧ Below w'.heap.size w' w'') := fun w' hb => by
      rw [Rz.colAt_get hj]
      exact canReadK 7 s[j].ty y.ty 1 1 w' _ _ (HTs.out _ (List.getElem_mem hj)) hty (by omega) (hT'.on hb) ((HT.out.on HB1.out).on hb)
    have HE2 : Hid (R = if Rz.can 7 (Rz.colAt s j).ty y.ty then 0 else 60) := HE.out
    obtain ⟨cn, hcn⟩ : ∃ cn, cn = Rz.can 7 (Rz.colAt s j).ty y.ty := ⟨_, rfl⟩
    rw [← hcn] at HC HE2
    have hj1 : (j : Int) < (s.length : Int) := by omega
    clear HE he hcn hT' HX HT HTs HFo HFo2 hty
    go_wp2_with fail
    go_region_held3 (fun w' => w'.cell? ⟨w.heap.size, 0, none⟩ = some (.slice (some ⟨bx, ox, none⟩) s.length cp) ∧ w'.cell? ⟨w.heap.size + 1, 1, none⟩ = some (.int .i64 k) ∧ w'.cell? ⟨w.heap.size + 1, 2, none⟩ = some (.slice tp tn tc) ∧ w'.cell? ⟨bx, ox + j * 9 + 1, none⟩ = some (.int .i64 k') ∧ w'.cell? ⟨bx, ox + j * 9 + 2, none⟩ = some (.slice tp' tn' tc')) (go_keep) (first
      | (go_at_call 25; refine (HC.out _ (below_drewN (Below.refl _ _) _)).mono ?_; rintro e w4 ⟨rfl, hb4⟩; have hb5 := below_via (w := w1) hb4 (by rfl) (by rfl) (by rfl) (by rfl); have z0 := cell_on hb5 c0; have z1 := cell_on hb5 c2; have z2 := cell_on hb5 c3; have z3 := cell_on hb5 a1; have z4 := cell_on hb5 a2; have HB4 := Lib.hid (HB1.out.trans (hb5.mono HB1.out.size)); clear hb4 hb5))
    cases cn with
    | true =>
      go_wp2
      go_ret
      exact ⟨by rw [HE2.out]; rfl, HB4.out⟩
    | false =>
      go_wp2
      go_ret
      exact ⟨by rw [HE2.out]; rfl, HB4.out⟩

set_option maxRecDepth 100000 in
set_option maxHeartbeats 2000000 in
theorem checkK9 (s t : List Col) (p q : Option Addr) (cp cq : Nat) (w : World) (hs : s.length * 120 ≤ 140737488351232) (ht : t.length * 120 ≤ 140737488351232) (hx : Cols w p s) (hy : Cols w q t) (hws : ∀ x ∈ s, x.wf) (hwt : ∀ x ∈ t, x.wf) :
    Calls Try.prog 31 #[.agg #[.slice p s.length cp], .agg #[.slice q t.length cq]] w fun e w' => e = .returned (.int .i64 (Rz.check s t : Nat)) ∧ Below w.heap.size w w' := by
  obtain ⟨W0, hW0⟩ : ∃ W0, W0 = (w.alloc (.cells #[.slice p s.length cp] 37)).alloc (.cells #[.slice q t.length cq] 37) := ⟨_, rfl⟩
  obtain ⟨l0, l1, lb, ls⟩ := al2 w (.cells #[.slice p s.length cp] 37) (.cells #[.slice q t.length cq] 37)
  rw [← hW0] at l0 l1 lb ls
  have HW0 := Lib.hid hW0
  have HB0 := Lib.hid lb
  have HCl : Hid (∀ w', Below W0.heap.size W0 w' → w'.cell? ⟨w.heap.size, 0, none⟩ = some (.slice p s.length cp) ∧ w'.cell? ⟨w.heap.size + 1, 0, none⟩ = some (.slice q t.length cq)) := fun w' h => ⟨blk_at l0 h 0, blk_at l1 h 0⟩
  have HCs := Lib.hid (fun w' (h : Below w.heap.size w w') => checkSK s p cp w' hs (hx.on h) hws)
  have HCt := Lib.hid (fun w' (h : Below w.heap.size w w') => checkSK t q cq w' ht (hy.on h) hwt)
  have HE : Hid (Rz.check s t = if Sch.err s ≠ 0 then Sch.err s else if Sch.err t ≠ 0 then Sch.err t else V.first (t.map (Rz.colErr s))) := rfl
  have HTs := Lib.hid (fun h c hc => Rz.ty_ok (s := s) h (c := c) hc)
  have HTt := Lib.hid (fun h c hc => Rz.ty_ok (s := t) h (c := c) hc)
  obtain ⟨R, hR⟩ : ∃ R, R = Rz.check s t := ⟨_, rfl⟩
  rw [← hR] at HE ⊢
  obtain ⟨es, hes⟩ : ∃ n, n = Sch.err s := ⟨_, rfl⟩
  obtain ⟨et, het⟩ : ∃ n, n = Sch.err t := ⟨_, rfl⟩
  rw [← hes] at HCs HE HTs
  rw [← het] at HCt HE HTt
  have HX := Lib.hid hx
  have HY := Lib.hid hy
  clear hR hes het hW0 l0 l1 lb ls hx hy hws hwt
  go_enter Try.func31, Try.ntmps31
  go_wp2_with fail
  rw [← HW0.out]
  clear HW0
  refine (HCs.out W0 HB0.out).mono ?_
  rintro e w1 ⟨rfl, hb1⟩
  have HB1 := Lib.hid hb1
  have HB1w := Lib.hid (HB0.out.trans (hb1.mono HB0.out.size))
  obtain ⟨c0, c1⟩ := HCl.out w1 hb1
  clear hb1 HCs
  by_cases h0 : ¬ es = 0
  · have g0 : ((es : Int) != 0) = true := bne_t (by omega)
    have HE2 : Hid (R = es) := by show _ = _; rw [HE.out, if_pos h0]
    clear h0 HE
    go_wp2
    go_ret
    exact ⟨by rw [HE2.out]; rfl, HB1w.out⟩
  replace h0 : es = 0 := Classical.not_not.1 h0
  have g0 : ((es : Int) != 0) = false := bne_f (by omega)
  have HTs2 := Lib.hid (HTs.out h0)
  clear HTs
  go_wp2_with fail
  refine (HCt.out w1 HB1w.out).mono ?_
  rintro e w2 ⟨rfl, hb2⟩
  have HB2 := Lib.hid (HB1.out.trans (hb2.mono HB1.out.size))
  have HB2w := Lib.hid (HB1w.out.trans (hb2.mono HB1w.out.size))
  clear hb2 HCt c0 c1
  obtain ⟨c0, c1⟩ := HCl.out w2 HB2.out
  by_cases h1 : ¬ et = 0
  · have g1 : ((et : Int) != 0) = true := bne_t (by omega)
    have HE2 : Hid (R = et) := by show _ = _; rw [HE.out, if_neg (by omega), if_pos h1]
    clear h0 h1 HE
    go_wp2
    go_ret
    exact ⟨by rw [HE2.out]; rfl, HB2w.out⟩
  replace h1 : et = 0 := Classical.not_not.1 h1
  have g1 : ((et : Int) != 0) = false := bne_f (by omega)
  have HTt2 := Lib.hid (HTt.out h1)
  have HE2 : Hid (R = V.first (t.map (Rz.colErr s))) := by show _ = _; rw [HE.out, if_neg (by omega), if_neg (by omega)]
  clear HTt HE h0 h1
  go_wp2_with fail
  go_loopw [23] (fun v23 wr => ∃ j : Nat, j ≤ t.length ∧ v23 = .int .i64 j ∧ Hid (Below w2.heap.size w2 wr ∧ ∀ m (h : m < t.length), m < j → Rz.colErr s t[m] = 0)) (fun v23 _ => t.length - (intOf v23).toNat)
  case atStart => exact ⟨0, by omega, rfl, Below.refl _ _, fun m _ h => by omega⟩
  case round =>
    obtain ⟨j, hj, rfl, HL⟩ := hrel
    have HBr : Hid (Below w.heap.size w wr) := HB2w.out.trans (HL.out.1.mono HB2w.out.size)
    have HBr0 : Hid (Below W0.heap.size W0 wr) := HB2.out.trans (HL.out.1.mono HB2.out.size)
    by_cases hlt : j < t.length
    · obtain ⟨bx, ox, k, tp, tn, tc, vk, vi, vb, vt, vp, vn, vc, rfl, _, h9, hT, hV⟩ := (HY.out.on HBr.out).at j hlt
      obtain ⟨a0, a1, a2, a3, a4, a5, a6, a7, a8⟩ := h9
      have hj1 : (j : Int) < (t.length : Int) := by omega
      obtain ⟨wa, hwa⟩ : ∃ W, W = wr.alloc (.cells #[.string t[j].name, .int .i64 k, .slice tp tn tc, .bool t[j].has, .int .i64 vk, .int .i64 vi, .float .f64 vb, .string vt, .slice vp vn vc] 58) := ⟨_, rfl⟩
      have hba : Below wr.heap.size wr wa := by rw [hwa]; exact (Below.refl _ _).alloc (Nat.le_refl _) _
      have HBa := Lib.hid (HBr.out.trans (hba.mono HBr.out.size))
      have HBa2 := Lib.hid (HL.out.1.trans (hba.mono HL.out.1.size))
      have HC : Hid (Calls Try.prog 56 #[.agg #[.slice p s.length cp], .agg #[.string t[j].name, .int .i64 k, .slice tp tn tc, .bool t[j].has, .int .i64 vk, .int .i64 vi, .float .f64 vb, .string vt, .slice vp vn vc]] wa fun e w' => e = .returned (.int .i64 (Rz.colErr s t[j] : Nat)) ∧ Below wa.heap.size wa w') :=
        checkColumnK9 s p cp t[j] _ wa hs (HX.out.on HBa.out) ⟨k, tp, tn, tc, vk, vi, vb, vt, vp, vn, vc, rfl, hT.on hba, hV.on hba⟩ HTs2.out (HTt2.out _ (List.getElem_mem hlt))
      have HC0 : Hid (∀ w', Below wr.heap.size wr w' → w'.cell? ⟨w.heap.size, 0, none⟩ = some (.slice p s.length cp)) := fun w' hb => (HCl.out w' (HBr0.out.trans (hb.mono HBr0.out.size))).1
      have cc := HC0.out wr (Below.refl _ _)
      have cca := fun o => HC0.out (wr.alloc o) ((Below.refl _ _).alloc (Nat.le_refl _) o)
      have HWa := Lib.hid hwa
      obtain ⟨er, her⟩ : ∃ er, er = Rz.colErr s t[j] := ⟨_, rfl⟩
      rw [← her] at HC
      have HEr := Lib.hid her
      generalize t[j].name = nm at *
      generalize t[j].has = hh at *
      clear hwa hba hT hV her HC0
      go_wp2_with fail
      rw [← HWa.out]
      clear HWa cc cca a0 a1 a2 a3 a4 a5 a6 a7 a8
      refine HC.out.mono ?_
      rintro e w4 ⟨rfl, hb4⟩
      have HB4 := Lib.hid (HBa.out.trans (hb4.mono HBa.out.size))
      have HB42 := Lib.hid (HBa2.out.trans (hb4.mono HBa2.out.size))
      clear hb4 HC
      by_cases hz : er = 0
      · have gz : ((er : Int) != 0) = false := bne_f (by omega)
        have HN : Hid (Below w2.heap.size w2 w4 ∧ ∀ m (h : m < t.length), m < j + 1 → Rz.colErr s t[m] = 0) := by
          refine ⟨HB42.out, fun m h1 h2 => ?_⟩
          by_cases hmj : m = j
          · subst hmj
            rw [← HEr.out]
            exact hz
          · exact HL.out.2 m h1 (by omega)
        clear hz
        go_wp2
        go_roundw
        case rel => exact ⟨j + 1, by omega, by go_num, HN⟩
        case measure => simp [intOf]; omega
      · have gz : ((er : Int) != 0) = true := bne_t (by omega)
        have HF : Hid (R = er) := by
          show _ = _
          rw [HE2.out, Rz.first_at (Rz.colErr s) t j hlt (fun m h1 h2 => HL.out.2 m h1 h2) (by rw [← HEr.out]; exact hz), HEr.out]
        clear hz
        go_wp2
        go_ret
        exact ⟨by rw [HF.out]; rfl, HB4.out⟩
    · have hjn : ¬ (j : Int) < (t.length : Int) := by omega
      have HF : Hid (R = 0) := by
        show _ = _
        rw [HE2.out]
        refine Rz.first_all _ _ fun c hc => ?_
        obtain ⟨m, hm, rfl⟩ := List.mem_iff_getElem.1 hc
        exact HL.out.2 m hm (by omega)
      clear hlt
      go_wp2
      go_ret
      exact ⟨by rw [HF.out]; rfl, HBr.out⟩

theorem colsErr_drop9 (s : List Col) (vs : List V) (j : Nat) (h1 : j < s.length) (h2 : j < vs.length) : Rw.colsErr (s.drop j) (vs.drop j) = if Rw.vErr s[j].ty vs[j] = 0 then Rw.colsErr (s.drop (j + 1)) (vs.drop (j + 1)) else Rw.vErr s[j].ty vs[j] := by
  rw [List.drop_eq_getElem_cons h1, List.drop_eq_getElem_cons h2, Rw.colsErr]

set_option maxRecDepth 100000 in
set_option maxHeartbeats 2000000 in
theorem checkRowK9 (s : List Col) (vs : List V) (p q : Option Addr) (cp cq : Nat) (w : World) (hs : s.length * 120 ≤ 140737488351232) (hx : Cols w p s) (hy : Items w q vs) :
    Calls Try.prog 40 #[.agg #[.slice p s.length cp], .agg #[.slice q vs.length cq]] w fun e w' => e = .returned (.int .i64 (Rz.given s vs : Nat)) ∧ Below w.heap.size w w' := by
  obtain ⟨W0, hW0⟩ : ∃ W0, W0 = (w.alloc (.cells #[.slice p s.length cp] 37)).alloc (.cells #[.slice q vs.length cq] 44) := ⟨_, rfl⟩
  obtain ⟨l0, l1, lb, ls⟩ := al2 w (.cells #[.slice p s.length cp] 37) (.cells #[.slice q vs.length cq] 44)
  rw [← hW0] at l0 l1 lb ls
  have HW0 := Lib.hid hW0
  have HB0 := Lib.hid lb
  have HCl : Hid (∀ w', Below W0.heap.size W0 w' → w'.cell? ⟨w.heap.size, 0, none⟩ = some (.slice p s.length cp) ∧ w'.cell? ⟨w.heap.size + 1, 0, none⟩ = some (.slice q vs.length cq)) := fun w' h => ⟨blk_at l0 h 0, blk_at l1 h 0⟩
  have HE : Hid (Rz.given s vs = if vs.length ≠ s.length then 80 else Rw.colsErr s vs) := rfl
  obtain ⟨R, hR⟩ : ∃ R, R = Rz.given s vs := ⟨_, rfl⟩
  rw [← hR] at HE ⊢
  have HX := Lib.hid hx
  have HY := Lib.hid hy
  obtain ⟨c0, c1⟩ := HCl.out W0 (Below.refl _ _)
  clear hR hW0 l0 l1 lb ls hx hy
  by_cases hl : ¬ vs.length = s.length
  · have gl : ((vs.length : Int) != (s.length : Int)) = true := bne_t (by omega)
    have HE2 : Hid (R = 80) := by show _ = _; rw [HE.out, if_pos hl]
    clear hl HE
    go_enter Try.func40, Try.ntmps40
    go_wp2
    rw [← HW0.out]
    go_ret
    exact ⟨by rw [HE2.out]; rfl, HB0.out⟩
  replace hl : vs.length = s.length := Classical.not_not.1 hl
  have gl : ((vs.length : Int) != (s.length : Int)) = false := bne_f (by omega)
  have HE2 : Hid (R = Rw.colsErr (s.drop 0) (vs.drop 0)) := by show _ = _; rw [HE.out, if_neg (by simpa using hl)]; rfl
  have HLn := Lib.hid hl
  clear hl HE
  go_enter Try.func40, Try.ntmps40
  go_wp2_with fail
  rw [← HW0.out]
  clear HW0 c0 c1
  go_loopw [18] (fun v18 wr => ∃ j : Nat, j ≤ s.length ∧ v18 = .int .i64 j ∧ Hid (Below W0.heap.size W0 wr ∧ R = Rw.colsErr (s.drop j) (vs.drop j))) (fun v18 _ => s.length - (intOf v18).toNat)
  case atStart => exact ⟨0, by omega, rfl, Below.refl _ _, HE2.out⟩
  case round =>
    obtain ⟨j, hj, rfl, HL⟩ := hrel
    have HBr : Hid (Below w.heap.size w wr) := HB0.out.trans (HL.out.1.mono HB0.out.size)
    by_cases hlt : j < s.length
    · obtain ⟨bx, ox, k, tp, tn, tc, vk, vi, vb, vt, vp, vn, vc, rfl, _, h9, hT, -⟩ := (HX.out.on HBr.out).at j hlt
      obtain ⟨a0, a1, a2, a3, a4, a5, a6, a7, a8⟩ := h9
      have hlv : j < vs.length := by have := HLn.out; omega
      obtain ⟨uv, hv1, hv2⟩ := HY.out j hlv
      obtain ⟨by', oy, ky, iy, fy, ty, qy, ny, cy, rfl, _, rfl, b0, b1, b2, b3, b4⟩ := (hv2.on HBr.out).lies
      have hj1 : (j : Int) < (s.length : Int) := by omega
      have hj2 : (j : Int) < (vs.length : Int) := by omega
      obtain ⟨wa, hwa⟩ : ∃ W, W = wr.alloc (.cells #[.string s[j].name, .int .i64 k, .slice tp tn tc, .bool s[j].has, .int .i64 vk, .int .i64 vi, .float .f64 vb, .string vt, .slice vp vn vc] 58) := ⟨_, rfl⟩
      have hba : Below wr.heap.size wr wa := by rw [hwa]; exact (Below.refl _ _).alloc (Nat.le_refl _) _
      have hblk : wa.heap[wr.heap.size]? = some (.cells #[.string s[j].name, .int .i64 k, .slice tp tn tc, .bool s[j].has, .int .i64 vk, .int .i64 vi, .float .f64 vb, .string vt, .slice vp vn vc] 58 (0, 0)) := by rw [hwa]; exact blk_new wr _
      have HBa := Lib.hid (HBr.out.trans (hba.mono HBr.out.size))
      have HBa2 := Lib.hid (HL.out.1.trans (hba.mono HL.out.1.size))
      have HC : Hid (∀ w', Below wa.heap.size wa w' → Calls Try.prog 24 #[.agg #[.int .i64 k, .slice tp tn tc], .agg #[.int .i64 ky, .int .i64 iy, .float .f64 fy, .string ty, .slice qy ny cy]] w' fun e w'' => e = .returned (.int .i64 (Rw.vErr s[j].ty vs[j] : Nat)) ∧ Below w'.heap.size w' w'') := fun w' hb =>
        checkValueK s[j].ty vs[j] w' _ _ ((hT.on hba).on hb) ((hv1.on HBa.out).on hb)
      have d0 : wa.cell? ⟨w.heap.size + 1, 0, none⟩ = some (.slice (some ⟨by', oy, none⟩) vs.length cq) := (HCl.out wa HBa2.out).2
      have d1 : wa.cell? ⟨wr.heap.size, 1, none⟩ = some (.int .i64 k) := blk_cell hblk 1
      have d2 : wa.cell? ⟨wr.heap.size, 2, none⟩ = some (.slice tp tn tc) := blk_cell hblk 2
      have d3 := cell_on hba b0
      have d4 := cell_on hba b1
      have d5 := cell_on hba b2
      have d6 := cell_on hba b3
      have d7 := cell_on hba b4
      have HWa := Lib.hid hwa
      have HDr := Lib.hid (colsErr_drop9 s vs j hlt hlv)
      obtain ⟨er, her⟩ : ∃ er, er = Rw.vErr s[j].ty vs[j] := ⟨_, rfl⟩
      rw [← her] at HC HDr
      generalize s[j].name = nm at *
      generalize s[j].has = hh at *
      clear hwa hba hblk hT her hv1 hv2 b0 b1 b2 b3 b4
      go_wp2_with fail
      rw [← HWa.out]
      clear HWa a0 a1 a2 a3 a4 a5 a6 a7 a8
      go_region_held3 (fun w' => w'.cell? ⟨w.heap.size + 1, 0, none⟩ = some (.slice (some ⟨by', oy, none⟩) vs.length cq) ∧ w'.cell? ⟨wr.heap.size, 1, none⟩ = some (.int .i64 k) ∧ w'.cell? ⟨wr.heap.size, 2, none⟩ = some (.slice tp tn tc) ∧ w'.cell? ⟨by', oy + j * 5, none⟩ = some (.int .i64 ky) ∧ w'.cell? ⟨by', oy + j * 5 + 1, none⟩ = some (.int .i64 iy) ∧ w'.cell? ⟨by', oy + j * 5 + 2, none⟩ = some (.float .f64 fy) ∧ w'.cell? ⟨by', oy + j * 5 + 3, none⟩ = some (.string ty) ∧ w'.cell? ⟨by', oy + j * 5 + 4, none⟩ = some (.slice qy ny cy)) (go_keep) (first
        | (go_at_call 24; refine (HC.out _ (below_drewN (Below.refl _ _) _)).mono ?_; rintro e w4 ⟨rfl, hb4⟩; have hb5 := below_via (w := wa) hb4 (by rfl) (by rfl) (by rfl) (by rfl); have z0 := cell_on hb5 d0; have z1 := cell_on hb5 d1; have z2 := cell_on hb5 d2; have z3 := cell_on hb5 d3; have z4 := cell_on hb5 d4; have z5 := cell_on hb5 d5; have z6 := cell_on hb5 d6; have z7 := cell_on hb5 d7; have HB4 := Lib.hid (HBa.out.trans (hb5.mono HBa.out.size)); have HB42 := Lib.hid (HBa2.out.trans (hb5.mono HBa2.out.size)); clear hb4 hb5))
      clear z0 z1 z2 z3 z4 z5 z6 z7 d0 d1 d2 d3 d4 d5 d6 d7 HC
      by_cases hz : er = 0
      · have gz : ((er : Int) != 0) = false := bne_f (by omega)
        have HN : Hid (Below W0.heap.size W0 w4 ∧ R = Rw.colsErr (s.drop (j + 1)) (vs.drop (j + 1))) := ⟨HB42.out, by rw [HL.out.2, HDr.out, if_pos hz]⟩
        clear hz
        go_wp2
        go_roundw
        case rel => exact ⟨j + 1, by omega, by go_num, HN⟩
        case measure => simp [intOf]; omega
      · have gz : ((er : Int) != 0) = true := bne_t (by omega)
        have HF : Hid (R = er) := by show _ = _; rw [HL.out.2, HDr.out, if_neg hz]
        clear hz
        go_wp2
        go_ret
        exact ⟨by rw [HF.out]; rfl, HB4.out⟩
    · have hjn : ¬ (j : Int) < (s.length : Int) := by omega
      have HF : Hid (R = 0) := by
        show _ = _
        rw [HL.out.2, List.drop_eq_nil_of_le (by omega)]
        rfl
      clear hlt
      go_wp2
      go_ret
      exact ⟨by rw [HF.out]; rfl, HBr.out⟩
end Go.Proofs.Ytbedlaaedefclaa
