/- K7E: put together. -/
import Derived.Test.YticmkgbjannkkaaM22

/- The landed schema: checkDefault, checkColumns. -/
namespace Go.Proofs.Yticmkgbjannkkaa
open Go.RowKit Go.Maps

attribute [local go_sem] run_store_float

/-- why a column's default may not be, where its type may -/
def dflErr (c : Col) : Nat := if c.has = false then (if V.same c.dflt V0 then 0 else 80) else if chk 1 c.dflt ≠ 0 then chk 1 c.dflt else if Sch.is c.dflt c.ty then 0 else 80
theorem colErr_eq (l : List Col) (c : Col) : Sch.colErr l c = if Sch.name c.name = false then 70 else if l.any (fun x => decide (x.name = c.name)) then 71 else if Ty.check 1 c.ty ≠ 0 then Ty.check 1 c.ty else dflErr c := rfl
theorem vlies_zero (w : World) : VLies w (cells5 0 0 0 ⟨#[]⟩ none 0 0) V0 := VLies.mk (xs := []) (fun _ => #[]) (by simp) (by simp) (fun hc => absurd rfl hc) (fun j hj => by simp at hj)

set_option maxRecDepth 100000 in
set_option maxHeartbeats 2000000 in
theorem checkDefaultK (x : Col) (w : World) (u : Array Value) (hu : CLies w u x) (hty : Ty.check 1 x.ty = 0) : Calls Try.prog 54 #[.agg u] w fun e w' => e = .returned (.int .i64 (dflErr x : Nat)) ∧ Below w.heap.size w w' := by
  obtain ⟨k, tp, tn, tc, vk, vi, vb, vt, vp, vn, vc, rfl, ht, hv⟩ := hu.out
  obtain ⟨nm, ty, has, df⟩ := x
  dsimp only at ht hv hty
  unfold cells9
  obtain ⟨W0, hW0⟩ : ∃ W0, W0 = w.alloc (.cells #[.string nm, .int .i64 k, .slice tp tn tc, .bool has, .int .i64 vk, .int .i64 vi, .float .f64 vb, .string vt, .slice vp vn vc] 55) := ⟨_, rfl⟩
  have HB0 : Hid (Below w.heap.size w W0) := by rw [hW0]; exact (Below.refl _ _).alloc (Nat.le_refl _) _
  have HY : Hid (W0.cell? ⟨w.heap.size, 1, none⟩ = some (.int .i64 k) ∧ W0.cell? ⟨w.heap.size, 2, none⟩ = some (.slice tp tn tc) ∧ W0.cell? ⟨w.heap.size, 4, none⟩ = some (.int .i64 vk) ∧ W0.cell? ⟨w.heap.size, 5, none⟩ = some (.int .i64 vi) ∧ W0.cell? ⟨w.heap.size, 6, none⟩ = some (.float .f64 vb) ∧ W0.cell? ⟨w.heap.size, 7, none⟩ = some (.string vt) ∧ W0.cell? ⟨w.heap.size, 8, none⟩ = some (.slice vp vn vc)) := by rw [hW0]; refine ⟨?_, ?_, ?_, ?_, ?_, ?_, ?_⟩ <;> simp
  have HS := Lib.hid (sameK df V0 W0 _ _ (hv.on HB0.out) (vlies_zero W0))
  have HC := Lib.hid (checkK df W0 _ (hv.on HB0.out))
  have HO := Lib.hid (fun w' (hb : Below W0.heap.size W0 w') h1 => isOfK df ty 1 w' _ _ h1 hty ((hv.on HB0.out).on hb) ((ht.on HB0.out).on hb))
  have HI : Hid (chk 1 df = 0 → Sch.is df ty = Sch.of df ty) := fun h => by
    unfold Sch.is
    rw [decide_eq_true hty, decide_eq_true h]
    rfl
  have HE : Hid (dflErr ⟨nm, ty, has, df⟩ = if has = false then (if V.same df V0 then 0 else 80) else if chk 1 df ≠ 0 then chk 1 df else if Sch.is df ty then 0 else 80) := rfl
  obtain ⟨R, hR⟩ : ∃ R, R = dflErr ⟨nm, ty, has, df⟩ := ⟨_, rfl⟩
  rw [← hR] at HE ⊢
  obtain ⟨r1, hr1⟩ : ∃ r, r = V.same df V0 := ⟨_, rfl⟩
  rw [← hr1] at HS HE
  obtain ⟨r2, hr2⟩ : ∃ r, r = chk 1 df := ⟨_, rfl⟩
  rw [← hr2] at HC HE HO HI
  obtain ⟨r3, hr3⟩ : ∃ r, r = Sch.is df ty := ⟨_, rfl⟩
  rw [← hr3] at HE HI
  have HW0 := Lib.hid hW0
  unfold cells5 at HS HC HO
  unfold cells2 at HO
  clear hW0 ht hv hu hty hR hr1 hr2 hr3
  cases has with
  | false =>
    have HE2 : Hid (R = if r1 then 0 else 80) := by show _ = _; rw [HE.out, if_pos rfl]
    clear HE HC HO HI HY
    go_enter Try.func54, Try.ntmps54
    go_wp2_with fail
    rw [← HW0.out]
    clear HW0
    refine HS.out.mono ?_
    rintro e w1 ⟨rfl, hb1⟩
    have HBw := Lib.hid (HB0.out.trans (hb1.mono HB0.out.size))
    clear hb1 HS
    cases r1 with
    | true =>
      go_wp2
      go_ret
      exact ⟨by rw [HE2.out]; rfl, HBw.out⟩
    | false =>
      go_wp2
      go_ret
      exact ⟨by rw [HE2.out]; rfl, HBw.out⟩
  | true =>
    have HE2 : Hid (R = if r2 ≠ 0 then r2 else if r3 then 0 else 80) := by show _ = _; rw [HE.out, if_neg (by decide)]
    clear HE HS
    go_enter Try.func54, Try.ntmps54
    go_wp2_with fail
    rw [← HW0.out]
    clear HW0
    refine HC.out.mono ?_
    rintro e w1 ⟨rfl, hb1⟩
    have HB1 := Lib.hid hb1
    have HBw := Lib.hid (HB0.out.trans (hb1.mono HB0.out.size))
    clear hb1 HC
    by_cases h2 : r2 = 0
    · have g2 : ((r2 : Int) != 0) = false := bne_f (by omega)
      obtain ⟨y0, y1, y2, y3, y4, y5, y6⟩ := HY.out
      have c0 := cell_on HB1.out y0
      have c1 := cell_on HB1.out y1
      have c2 := cell_on HB1.out y2
      have c3 := cell_on HB1.out y3
      have c4 := cell_on HB1.out y4
      have c5 := cell_on HB1.out y5
      have c6 := cell_on HB1.out y6
      have HO1 := Lib.hid (HO.out w1 HB1.out h2)
      have HE3 : Hid (R = if Sch.of df ty then 0 else 80) := by
        show _ = _
        rw [HE2.out, if_neg (by omega), HI.out h2]
      obtain ⟨r4, hr4⟩ : ∃ r, r = Sch.of df ty := ⟨_, rfl⟩
      rw [← hr4] at HO1 HE3
      clear y0 y1 y2 y3 y4 y5 y6 HY HO HI HE2 hr4 h2
      go_wp2_with fail
      refine HO1.out.mono ?_
      rintro e w2 ⟨rfl, hb2⟩
      have HB2 := Lib.hid (HBw.out.trans (hb2.mono HBw.out.size))
      clear hb2 c0 c1 c2 c3 c4 c5 c6 HO1
      cases r4 with
      | true =>
        go_wp2
        go_ret
        exact ⟨by rw [HE3.out]; rfl, HB2.out⟩
      | false =>
        go_wp2
        go_ret
        exact ⟨by rw [HE3.out]; rfl, HB2.out⟩
    · have g2 : ((r2 : Int) != 0) = true := bne_t (by omega)
      have HE3 : Hid (R = r2) := by show _ = _; rw [HE2.out, if_pos h2]
      clear HO HI HE2 h2 HY
      go_wp2
      go_ret
      exact ⟨by rw [HE3.out]; rfl, HBw.out⟩

/-- what checkColumns tells -/
def colsK (s : List Col) : Nat := if s.length = 0 then 4 else if 16 < s.length then 3 else Sch.colsErr [] s
theorem colsErr_step (s : List Col) (j : Nat) (hj : j < s.length) : Sch.colsErr (s.take j) (s.drop j) = if Sch.colErr (s.take j) s[j] = 0 then Sch.colsErr (s.take (j + 1)) (s.drop (j + 1)) else Sch.colErr (s.take j) s[j] := by
  rw [List.drop_eq_getElem_cons hj, Sch.colsErr, List.take_succ_eq_append_getElem hj]

set_option maxRecDepth 100000 in
set_option maxHeartbeats 4000000 in
theorem checkColumnsK (s : List Col) (p : Option Addr) (c : Nat) (w : World) (hx : Cols w p s) (hwf : ∀ x ∈ s, x.wf) :
    Calls Try.prog 35 #[.slice p s.length c] w fun e w' => e = .returned (.int .i64 (colsK s : Nat)) ∧ Below w.heap.size w w' := by
  have hmm := @run_makeMap Try.prog
  obtain ⟨R, hR⟩ : ∃ R, R = colsK s := ⟨_, rfl⟩
  have HR : Hid (R = if s.length = 0 then 4 else if 16 < s.length then 3 else Sch.colsErr [] s) := hR
  rw [← hR]
  clear hR
  have HX := Lib.hid hx
  have HWf := Lib.hid hwf
  clear hx hwf
  by_cases h0 : s.length = 0
  · have g0 : ((s.length : Int) == 0) = true := beq_t (by omega)
    have HE : Hid (R = 4) := by show _ = _; rw [HR.out, if_pos h0]
    clear HR h0
    go_enter Try.func35, Try.ntmps35
    go_wp2
    go_ret
    exact ⟨by rw [HE.out]; rfl, Below.refl _ _⟩
  have g0 : ((s.length : Int) == 0) = false := beq_f (by omega)
  by_cases h1 : 16 < s.length
  · have g1 : (16 : Int) < (s.length : Int) := by omega
    have HE : Hid (R = 3) := by show _ = _; rw [HR.out, if_neg h0, if_pos h1]
    clear HR h0 h1
    go_enter Try.func35, Try.ntmps35
    go_wp2
    go_ret
    exact ⟨by rw [HE.out]; rfl, Below.refl _ _⟩
  have g1 : ¬ (16 : Int) < (s.length : Int) := by omega
  have HE : Hid (R = Sch.colsErr (s.take 0) (s.drop 0)) := by show _ = _; rw [HR.out, if_neg h0, if_neg h1]; simp
  have hs16 : s.length ≤ 16 := by omega
  clear HR h0 h1
  obtain ⟨W0, hW0⟩ : ∃ W0, W0 = w.alloc (.map #[] 0) := ⟨_, rfl⟩
  have HB0 : Hid (Below w.heap.size w W0) := by rw [hW0]; exact (Below.refl _ _).alloc (Nat.le_refl _) _
  have HN0 : Hid (Named W0 w.heap.size 0 (s.take 0)) := by rw [hW0]; exact named_made w
  have HW0 := Lib.hid hW0
  clear hW0
  go_enter Try.func35, Try.ntmps35
  go_wp2_with fail
  rw [← HW0.out]
  clear HW0
  go_loopw [19] (fun v19 wr => ∃ j : Nat, j ≤ s.length ∧ v19 = .int .i64 j ∧ Hid (Below w.heap.size w wr ∧ Named wr w.heap.size j (s.take j) ∧ R = Sch.colsErr (s.take j) (s.drop j))) (fun v19 _ => s.length - (intOf v19).toNat)
  case atStart => exact ⟨0, by omega, rfl, HB0.out, HN0.out, HE.out⟩
  case round =>
    obtain ⟨j, hj, rfl, HL⟩ := hrel
    by_cases hlt : j < s.length
    · obtain ⟨bx, ox, k, tp, tn, tc, vk, vi, vb, vt, vp, vn, vc, rfl, _, h9, htx, hvx⟩ := HX.out.at j hlt
      obtain ⟨a0, a1, a2, a3, a4, a5, a6, a7, a8⟩ := h9.on HL.out.1
      clear h9
      have hj1 : (j : Int) < (s.length : Int) := by omega
      have HCe := Lib.hid ((colErr_eq (s.take j) s[j]))
      have HRj := Lib.hid (HL.out.2.2.trans (colsErr_step s j hlt))
      have hnm : s[j].name.size ≤ 140737488351232 := (HWf.out _ (List.getElem_mem hlt)).1
      have HKey := Lib.hid (keyL_of hnm)
      have HNm := Lib.hid (nameK s[j].name)
      have HTk := Lib.hid (s.take_succ_eq_append_getElem hlt)
      obtain ⟨D, hown, hhas⟩ := HL.out.2.1.out
      have HOwn := Lib.hid hown
      have HHas := Lib.hid (hhas s[j].name)
      have HPut := Lib.hid (fun d t => has_put hown hhas s[j] d t)
      have HMlt := Lib.hid hown.lt
      have HBr := Lib.hid HL.out.1
      -- the copy of the column
      have HCT := Lib.hid (fun w' (hb : Below w.heap.size w w') => checkTypeK s[j].ty w' _ (htx.on hb))
      have HCD := Lib.hid (fun w' (hb : Below w.heap.size w w') (h : Ty.check 1 s[j].ty = 0) => checkDefaultK s[j] w' _ ⟨k, tp, tn, tc, vk, vi, vb, vt, vp, vn, vc, rfl, htx.on hb, hvx.on hb⟩ h)
      unfold cells9 at HCD
      unfold cells2 at HCT
      obtain ⟨nm, hn⟩ : ∃ n, n = s[j].name := ⟨_, rfl⟩
      obtain ⟨hs, hhs⟩ : ∃ n, n = s[j].has := ⟨_, rfl⟩
      rw [← hn] at a0 HCe HKey HNm HHas HPut HCD
      rw [← hhs] at a3 HCD
      obtain ⟨rn, hrn⟩ : ∃ r, r = Sch.name nm := ⟨_, rfl⟩
      rw [← hrn] at HNm HCe
      obtain ⟨rt, hrt⟩ : ∃ r, r = Ty.check 1 s[j].ty := ⟨_, rfl⟩
      rw [← hrt] at HCT HCe HCD
      obtain ⟨rd, hrd⟩ : ∃ r, r = dflErr s[j] := ⟨_, rfl⟩
      rw [← hrd] at HCD HCe
      obtain ⟨ra, hra⟩ : ∃ r, r = (s.take j).any (fun x => decide (x.name = nm)) := ⟨_, rfl⟩
      rw [← hra] at HHas HCe
      obtain ⟨wa, hwa⟩ : ∃ wa, wa = wr.alloc (.cells #[.string nm, .int .i64 k, .slice tp tn tc, .bool hs, .int .i64 vk, .int .i64 vi, .float .f64 vb, .string vt, .slice vp vn vc] 55) := ⟨_, rfl⟩
      have HBa : Hid (Below wr.heap.size wr wa) := by rw [hwa]; exact (Below.refl _ _).alloc (Nat.le_refl _) _
      have HAs : Hid (wa.cell? ⟨wr.heap.size, 0, none⟩ = some (.string nm) ∧ wa.cell? ⟨wr.heap.size, 1, none⟩ = some (.int .i64 k) ∧ wa.cell? ⟨wr.heap.size, 2, none⟩ = some (.slice tp tn tc) ∧ wa.cell? ⟨wr.heap.size, 3, none⟩ = some (.bool hs) ∧ wa.cell? ⟨wr.heap.size, 4, none⟩ = some (.int .i64 vk) ∧ wa.cell? ⟨wr.heap.size, 5, none⟩ = some (.int .i64 vi) ∧ wa.cell? ⟨wr.heap.size, 6, none⟩ = some (.float .f64 vb) ∧ wa.cell? ⟨wr.heap.size, 7, none⟩ = some (.string vt) ∧ wa.cell? ⟨wr.heap.size, 8, none⟩ = some (.slice vp vn vc)) := by rw [hwa]; refine ⟨?_, ?_, ?_, ?_, ?_, ?_, ?_, ?_, ?_⟩ <;> simp
      have HBw : Hid (Below w.heap.size w wa) := HBr.out.trans (HBa.out.mono HBr.out.size)
      have HOa : Hid (wa.ownsMap Try.prog 9 (plainElem Try.prog 3) w.heap.size j D) := by rw [hwa]; exact HOwn.out.alloc _
      have hsz : wr.heap.size < wa.heap.size := by rw [hwa]; simp
      have HWa := Lib.hid hwa
      clear hn hhs hrn hrt hrd hra htx hvx hown hhas hwa HL HOwn
      go_wp2_with fail
      rw [← HWa.out]
      clear HWa a0 a1 a2 a3 a4 a5 a6 a7 a8
      refine (HNm.out _).mono ?_
      rintro e w2 ⟨rfl, hw2⟩
      rw [hw2]
      clear hw2 w2 HNm
      cases rn with
      | false =>
        have HE2 : Hid (R = 70) := by show _ = _; rw [HRj.out, HCe.out]; rfl
        go_wp2
        go_ret
        exact ⟨by rw [HE2.out]; rfl, HBw.out⟩
      | true =>
        obtain ⟨c0, c1, c2, c3, c4, c5, c6, c7, c8⟩ := HAs.out
        cases ra with
        | true =>
          have HE2 : Hid (R = 71) := by show _ = _; rw [HRj.out, HCe.out]; rfl
          go_wp2_with (first | (at_lookup; refine wpList_lookup_own_ok_int _ rfl _ _ 88 rfl 9 3 .i64 lawS Try.underlying88 Try.underlying3 (zeroI _) w.heap.size j D rfl HOa.out _ _ rfl HKey.out ?_; intro cc hat hwc; rw [HHas.out]; clear hat hwc))
          go_ret
          exact ⟨by rw [HE2.out]; rfl, HBw.out⟩
        | false =>
          go_wp2_with (first
            | (at_lookup; refine wpList_lookup_own_ok_int _ rfl _ _ 88 rfl 9 3 .i64 lawS Try.underlying88 Try.underlying3 (zeroI _) w.heap.size j D rfl HOa.out _ _ rfl HKey.out ?_; intro cc hat hwc; rw [HHas.out]; clear hat hwc)
            | (at_mapUpdate; refine wpList_mapUpdate_own _ rfl _ _ _ 88 rfl 9 3 lawS Try.underlying88 _ w.heap.size j D rfl HOa.out (by unfold maxLen; omega) _ _ _ rfl rfl HKey.out _ [] (plainElem_int Try.underlying3 (WalkArith.wf_i64 (by omega))) ?_; intro w1 hown1 hgr1
               have HO1 := Lib.hid hown1
               have HG1 := Lib.hid hgr1
               have hne : ¬ wr.heap.size = w.heap.size := by have := HMlt.out; omega
               have hblk : w1.heap[wr.heap.size]? = wa.heap[wr.heap.size]? := hgr1.block _ hsz (fun hc => hne (by injection hc))
               have q0 : w1.cell? ⟨wr.heap.size, 0, none⟩ = some (.string nm) := (World.cell?_of_block (w := wa) hblk).trans c0
               have q1 : w1.cell? ⟨wr.heap.size, 1, none⟩ = some (.int .i64 k) := (World.cell?_of_block (w := wa) hblk).trans c1
               have q2 : w1.cell? ⟨wr.heap.size, 2, none⟩ = some (.slice tp tn tc) := (World.cell?_of_block (w := wa) hblk).trans c2
               have q3 : w1.cell? ⟨wr.heap.size, 3, none⟩ = some (.bool hs) := (World.cell?_of_block (w := wa) hblk).trans c3
               have q4 : w1.cell? ⟨wr.heap.size, 4, none⟩ = some (.int .i64 vk) := (World.cell?_of_block (w := wa) hblk).trans c4
               have q5 : w1.cell? ⟨wr.heap.size, 5, none⟩ = some (.int .i64 vi) := (World.cell?_of_block (w := wa) hblk).trans c5
               have q6 : w1.cell? ⟨wr.heap.size, 6, none⟩ = some (.float .f64 vb) := (World.cell?_of_block (w := wa) hblk).trans c6
               have q7 : w1.cell? ⟨wr.heap.size, 7, none⟩ = some (.string vt) := (World.cell?_of_block (w := wa) hblk).trans c7
               have q8 : w1.cell? ⟨wr.heap.size, 8, none⟩ = some (.slice vp vn vc) := (World.cell?_of_block (w := wa) hblk).trans c8
               clear c0 c1 c2 c3 c4 c5 c6 c7 c8 hown1 hgr1 hblk hne))
          have HB1 : Hid (Below w.heap.size w w1) := HBw.out.grown HG1.out HBw.out.size (fun k hk => by injection hk with hk; omega)
          have HN1 : Hid (Named w1 w.heap.size (j + 1) (s.take (j + 1))) := by
            rw [HTk.out]
            exact ⟨_, HO1.out, HPut.out _⟩
          have HC1 := Lib.hid (HCT.out w1 HB1.out)
          clear HCT HO1 HPut HOa HHas HKey HTk HG1
          go_wp2_with fail
          refine HC1.out.mono ?_
          rintro e w2 ⟨rfl, hb2⟩
          have HB2 : Hid (Below w.heap.size w w2) := HB1.out.trans (hb2.mono HB1.out.size)
          have HN2 : Hid (Named w2 w.heap.size (j + 1) (s.take (j + 1))) := HN1.out.keep (hb2.block _ HN1.out.lt)
          by_cases ht0 : rt = 0
          · have gt : ((rt : Int) != 0) = false := bne_f (by omega)
            have z0 := cell_on hb2 q0
            have z1 := cell_on hb2 q1
            have z2 := cell_on hb2 q2
            have z3 := cell_on hb2 q3
            have z4 := cell_on hb2 q4
            have z5 := cell_on hb2 q5
            have z6 := cell_on hb2 q6
            have z7 := cell_on hb2 q7
            have z8 := cell_on hb2 q8
            have HD1 := Lib.hid (HCD.out w2 HB2.out ht0)
            clear q0 q1 q2 q3 q4 q5 q6 q7 q8 hb2 HC1 HCD HN1
            have HCe2 : Hid (Sch.colErr (s.take j) s[j] = rd) := by
              show _ = _
              rw [HCe.out, ht0]
              rfl
            clear HCe ht0
            go_wp2_with fail
            refine HD1.out.mono ?_
            rintro e w3 ⟨rfl, hb3⟩
            have HB3 : Hid (Below w.heap.size w w3) := HB2.out.trans (hb3.mono HB2.out.size)
            have HN3 : Hid (Named w3 w.heap.size (j + 1) (s.take (j + 1))) := HN2.out.keep (hb3.block _ HN2.out.lt)
            clear hb3 z0 z1 z2 z3 z4 z5 z6 z7 z8 HD1 HN2
            by_cases hd0 : rd = 0
            · have gd : ((rd : Int) != 0) = false := bne_f (by omega)
              have HR2 : Hid (R = Sch.colsErr (s.take (j + 1)) (s.drop (j + 1))) := by show _ = _; rw [HRj.out, HCe2.out, if_pos hd0]
              clear hd0 HRj HCe2
              go_wp2
              go_roundw
              case rel => exact ⟨j + 1, by omega, by go_num, HB3.out, HN3.out, HR2.out⟩
              case measure => simp [intOf]; omega
            · have gd : ((rd : Int) != 0) = true := bne_t (by omega)
              have HR2 : Hid (R = rd) := by show _ = _; rw [HRj.out, HCe2.out, if_neg hd0]
              clear hd0 HRj HCe2
              go_wp2
              go_ret
              exact ⟨by rw [HR2.out]; rfl, HB3.out⟩
          · have gt : ((rt : Int) != 0) = true := bne_t (by omega)
            have HR2 : Hid (R = rt) := by
              show _ = _
              have e1 : Sch.colErr (s.take j) s[j] = rt := by rw [HCe.out, if_neg (by decide), if_neg (by decide), if_pos ht0]
              rw [HRj.out, e1, if_neg ht0]
            clear ht0 hb2 HC1 HCD HN1 HCe HRj
            go_wp2
            go_ret
            exact ⟨by rw [HR2.out]; rfl, HB2.out⟩
    · have HF := Lib.hid HL.out.1
      have HF0 : Hid (R = 0) := by show _ = _; rw [HL.out.2.2, List.drop_eq_nil_of_le (by omega)]; rfl
      have hjn : ¬ (j : Int) < (s.length : Int) := by omega
      clear HL hlt
      go_wp2
      go_ret
      exact ⟨by rw [HF0.out]; rfl, HF.out⟩
end Go.Proofs.Yticmkgbjannkkaa
