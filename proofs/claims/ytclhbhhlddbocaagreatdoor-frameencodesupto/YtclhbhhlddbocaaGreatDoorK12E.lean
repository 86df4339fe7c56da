/- The landed frame: an index frame's fields as bytes. -/
import Derived.Test.YtclhbhhlddbocaaGreatDoorK12C
namespace Go.Proofs.YtclhbhhlddbocaaGreatDoor
open Go.RowKit

theorem all_take_succ {α : Type} (p : α → Bool) (l : List α) (k : Nat) (h : k < l.length) : (l.take (k + 1)).all p = ((l.take k).all p && p l[k]) := by
  rw [List.take_succ_eq_append_getElem h, List.all_append]
  simp
theorem entB_take_succ (es : List Ent) (k : Nat) (h : k < es.length) : ((es.take (k + 1)).map Fr.entB).flatten = ((es.take k).map Fr.entB).flatten ++ Fr.entB es[k] := Sch.flatten_take Fr.entB es k h

set_option maxRecDepth 100000 in
set_option maxHeartbeats 4000000 in
theorem indexEncK (x : Idx) (hx : Fr.i64 x.at_ ∧ Fr.i64 x.frames ∧ Fr.i64 x.rows) (hE : ∀ e ∈ x.entries, Fr.i64 e.at_ ∧ Fr.i64 e.row ∧ Fr.i64 e.sch) (ep : Option Addr) (ec : Nat) (w : World) (hl : x.entries.length * 24 ≤ 140737488351232) (hes : Ents w ep x.entries) :
    Calls Tryz.prog 249 #[.agg #[.int .i64 x.at_, .int .i64 x.frames, .int .i64 x.rows, .slice ep x.entries.length ec]] w (EncF w (Fr.idxErr x) (Fr.nums [x.at_, x.frames, x.rows, (x.entries.length : Int)] ++ (x.entries.map Fr.entB).flatten)) := by
  obtain ⟨a, b, c, es⟩ := x
  dsimp only at *
  obtain ⟨w0, hw0⟩ : ∃ w0, w0 = (w.alloc (.cells #[.int .i64 a, .int .i64 b, .int .i64 c, .slice ep es.length ec] 146)).alloc (.cells #[.int .i64 a, .int .i64 b, .int .i64 c, .slice ep es.length ec] 28) := ⟨_, rfl⟩
  have hz0 : w0.heap.size = w.heap.size + 1 + 1 := by rw [hw0]; simp
  have HB0 : Hid (Below w.heap.size w w0) := by rw [hw0]; exact ((Below.refl _ _).alloc (Nat.le_refl _) _).alloc (by simp) _
  have c0 : w0.cell? ⟨w.heap.size + 1, 0, none⟩ = some (.int .i64 a) := by rw [hw0]; simp
  have c1 : w0.cell? ⟨w.heap.size + 1, 1, none⟩ = some (.int .i64 b) := by rw [hw0]; simp
  have c2 : w0.cell? ⟨w.heap.size + 1, 2, none⟩ = some (.int .i64 c) := by rw [hw0]; simp
  have c3 : w0.cell? ⟨w.heap.size + 1, 3, none⟩ = some (.slice ep es.length ec) := by rw [hw0]; simp
  obtain ⟨w1, hw1⟩ : ∃ w1, w1 = w0.alloc (.cells #[.int .i64 a, .int .i64 b, .int .i64 c] 2) := ⟨_, rfl⟩
  have HB01 : Hid (Below w0.heap.size w0 w1) := by rw [hw1]; exact (Below.refl _ _).alloc (Nat.le_refl _) _
  have HB1 : Hid (Below w.heap.size w w1) := HB0.out.trans (HB01.out.mono (by omega))
  have hz1 : w1.heap.size = w.heap.size + 1 + 1 + 1 := by rw [hw1]; simp [hz0]
  have d0 := cell_on HB01.out c0
  have d1 := cell_on HB01.out c1
  have d2 := cell_on HB01.out c2
  have d3 := cell_on HB01.out c3
  have HBl := Lib.hid (belowK 1099511627776 (w.heap.size + 1 + 1) [a, b, c] (by simp) w1 (by rw [hw1]; exact ints_at hz0 [a, b, c] rfl))
  have e1 : [a, b, c].all (Fr.within 1099511627776) = (Fr.within Fr.S a && Fr.within Fr.S b && Fr.within Fr.S c) := by simp [Fr.S, Bool.and_assoc]
  rw [e1] at HBl
  have HW : Hid (((w.alloc (.cells #[.int .i64 a, .int .i64 b, .int .i64 c, .slice ep es.length ec] 146)).alloc (.cells #[.int .i64 a, .int .i64 b, .int .i64 c, .slice ep es.length ec] 28)).alloc (.cells #[.int .i64 a, .int .i64 b, .int .i64 c] 2) = w1) := by rw [hw1, hw0]; exact rfl
  obtain ⟨er, her⟩ : ∃ er, er = Fr.idxErr ⟨a, b, c, es⟩ := ⟨_, rfl⟩
  rw [← her]
  obtain ⟨bn, hbn⟩ : ∃ bn, bn = (Fr.within Fr.S a && Fr.within Fr.S b && Fr.within Fr.S c) := ⟨_, rfl⟩
  rw [← hbn] at HBl
  have HEr1 : Hid (er = if bn = false then 7 else if 64 < es.length then 3 else if es.all Fr.entOk = false then 7 else 0) := by
    show _ = _
    rw [her, hbn]
    rfl
  have HIn : Hid (bn = true → (0 ≤ a ∧ 0 ≤ b ∧ 0 ≤ c)) := by
    intro h1
    rw [hbn, Bool.and_eq_true, Bool.and_eq_true] at h1
    exact ⟨(Fr.within_iff.1 h1.1.1).1, (Fr.within_iff.1 h1.1.2).1, (Fr.within_iff.1 h1.2).1⟩
  have HX := Lib.hid hx
  have HEs := Lib.hid hes
  have HEw := Lib.hid hE
  clear e1 hw0 hw1 her hx hes hE c0 c1 c2 c3 HB01 hbn
  go_enter Tryz.func249, Tryz.ntmps249
  go_wp2_with fail
  rw [HW.out]
  refine HBl.out.mono ?_
  rintro e v ⟨rfl, hw⟩
  rw [hw]
  clear hw v HBl HW
  cases bn with
  | false =>
    have HEr2 : Hid (er = 7) := HEr1.out
    go_wp2
    go_ret2
    rw [HEr2.out]
    exact encF_bad (by omega) HB1.out
  | true =>
    have HIn2 := Lib.hid (HIn.out (by simp))
    have HEr2 : Hid (er = if 64 < es.length then 3 else if es.all Fr.entOk = false then 7 else 0) := HEr1.out
    clear HIn HEr1
    by_cases h64 : 64 < es.length
    · have g1 : (64 : Int) < (es.length : Int) := by omega
      have HEr3 : Hid (er = 3) := HEr2.out.trans (if_pos h64)
      clear HEr2 h64
      go_wp2
      go_ret2
      rw [HEr3.out]
      exact encF_bad (by omega) HB1.out
    have g1 : ¬ (64 : Int) < (es.length : Int) := by omega
    have hes64 : es.length ≤ 64 := by omega
    have HEr3 : Hid (er = if es.all Fr.entOk = false then 7 else 0) := HEr2.out.trans (if_neg h64)
    clear HEr2 h64
    obtain ⟨L, hL⟩ : ∃ L : Int, L = (es.length : Int) := ⟨_, rfl⟩
    have HP := Lib.hid (putsK w1.heap.size [a, b, c, (es.length : Int)] (by simp) (fun m hm => by
      have h1 := HX.out
      have h2 := HIn2.out
      unfold Fr.i64 at h1
      simp only [List.mem_cons, List.not_mem_nil, or_false] at hm
      omega) (w1.alloc (.cells #[.int .i64 a, .int .i64 b, .int .i64 c, .int .i64 (es.length : Int)] 2)) (ints_new w1 [a, b, c, (es.length : Int)] rfl))
    have hnl : (Fr.nums [a, b, c, (es.length : Int)]).length ≤ 40 := by
      have h1 := Leb.put_length_le a.toNat
      have h2 := Leb.put_length_le b.toNat
      have h3 := Leb.put_length_le c.toNat
      have h4 := Leb.put_length_le (es.length : Int).toNat
      simp only [Fr.nums_cons, Fr.nums_nil, List.append_nil, List.length_append]
      omega
    obtain ⟨ns, hns⟩ : ∃ ns, ns = Fr.nums [a, b, c, (es.length : Int)] := ⟨_, rfl⟩
    rw [← hns] at HP hnl ⊢
    rw [hz1] at HP
    have HNs := Lib.hid hns
    clear hns hL L
    have HB12 : Hid (Below w1.heap.size w1 (w1.alloc (.cells #[.int .i64 a, .int .i64 b, .int .i64 c, .int .i64 (es.length : Int)] 2))) := (Below.refl _ _).alloc (Nat.le_refl _) _
    go_wp2_with fail
    refine HP.out.mono ?_
    rintro e w2 ⟨p2, cap2, rfl, hh, hb⟩
    have HB2 := Lib.hid (HB12.out.trans (hb.mono HB12.out.size))
    have x3 := cell_on HB2.out d3
    have HH2 := Lib.hid (hh.lower (B' := w1.heap.size) HB12.out.size)
    have HBw2 := Lib.hid (HB1.out.trans (HB2.out.mono (by omega)))
    have hs2 := HB2.out.size
    clear hh hb HP HB12 d0 d1 d2 d3
    go_wp2_with fail
    go_loopw [5, 37] (fun v5 v37 wr => ∃ (k : Nat) (xs : List UInt8), k ≤ es.length ∧ v37 = .int .i64 k ∧ xs.length ≤ 40 + 30 * k ∧ Hid (xs = ns ++ ((es.take k).map Fr.entB).flatten ∧ (es.take k).all Fr.entOk = true ∧ Has wr w1.heap.size v5 xs ∧ Below w1.heap.size w1 wr)) (fun _ v37 _ => es.length - (intOf v37).toNat)
    case atStart => exact ⟨0, ns, by omega, rfl, by omega, by simp, rfl, HH2.out, HB2.out⟩
    case round =>
      obtain ⟨k, xs, hk, rfl, hxl, HK⟩ := hrel
      have HO := Lib.hid HK.out.2.2.1
      have HBr := Lib.hid HK.out.2.2.2
      have HXs := Lib.hid HK.out.1
      have HAl := Lib.hid HK.out.2.1
      have hsr := HBr.out.size
      by_cases hlt : k < es.length
      · have hlt' : (k : Int) < (es.length : Int) := by omega
        obtain ⟨bb, ob, hep, hbb, a0, a1, a2⟩ := (HEs.out.on (HB1.out.trans (HBr.out.mono (by omega)))) k hlt
        obtain ⟨u0, u1, u2⟩ := HEw.out es[k] (List.getElem_mem hlt)
        subst hep
        obtain ⟨ea, hea⟩ : ∃ ea, ea = es[k].at_ := ⟨_, rfl⟩
        obtain ⟨eb, heb⟩ : ∃ eb, eb = es[k].row := ⟨_, rfl⟩
        obtain ⟨eC, hec⟩ : ∃ eC, eC = es[k].sch := ⟨_, rfl⟩
        rw [← hea] at a0 u0
        rw [← heb] at a1 u1
        rw [← hec] at a2 u2
        unfold Fr.i64 at u0 u1 u2
        have HA1 := Lib.hid (all_take_succ Fr.entOk es k hlt)
        have HE1 := Lib.hid (entB_take_succ es k hlt)
        have HOk : Hid (Fr.entOk es[k] = [ea, eb, eC].all (Fr.within 1099511627776)) := by
          show _ = _
          unfold Fr.entOk
          rw [hea, heb, hec]
          simp [Fr.S, Bool.and_assoc]
        have HEb : Hid (Fr.entB es[k] = Fr.nums [ea, eb, eC]) := by
          show _ = _
          rw [hea, heb, hec]
          rfl
        obtain ⟨wa, hwa⟩ : ∃ wa, wa = wr.alloc (.cells #[.int .i64 ea, .int .i64 eb, .int .i64 eC] 102) := ⟨_, rfl⟩
        have hza : wa.heap.size = wr.heap.size + 1 := by rw [hwa]; simp
        have HBa : Hid (Below wr.heap.size wr wa) := by rw [hwa]; exact (Below.refl _ _).alloc (Nat.le_refl _) _
        have y0 : wa.cell? ⟨wr.heap.size, 0, none⟩ = some (.int .i64 ea) := by rw [hwa]; simp
        have y1 : wa.cell? ⟨wr.heap.size, 1, none⟩ = some (.int .i64 eb) := by rw [hwa]; simp
        have y2 : wa.cell? ⟨wr.heap.size, 2, none⟩ = some (.int .i64 eC) := by rw [hwa]; simp
        obtain ⟨wb, hwb⟩ : ∃ wb, wb = wa.alloc (.cells #[.int .i64 ea, .int .i64 eb, .int .i64 eC] 2) := ⟨_, rfl⟩
        have HBb : Hid (Below wa.heap.size wa wb) := by rw [hwb]; exact (Below.refl _ _).alloc (Nat.le_refl _) _
        have HBrb : Hid (Below wr.heap.size wr wb) := HBa.out.trans (HBb.out.mono (by omega))
        have z0 := cell_on HBb.out y0
        have z1 := cell_on HBb.out y1
        have z2 := cell_on HBb.out y2
        have HBl := Lib.hid (belowK 1099511627776 (wr.heap.size + 1) [ea, eb, eC] (by simp) wb (by rw [hwb]; exact ints_at hza [ea, eb, eC] rfl))
        have HW : Hid ((wr.alloc (.cells #[.int .i64 ea, .int .i64 eb, .int .i64 eC] 102)).alloc (.cells #[.int .i64 ea, .int .i64 eb, .int .i64 eC] 2) = wb) := by rw [hwb, hwa]; exact rfl
        obtain ⟨ok, hok⟩ : ∃ ok, ok = [ea, eb, eC].all (Fr.within 1099511627776) := ⟨_, rfl⟩
        have HIe : Hid (ok = true → 0 ≤ ea ∧ 0 ≤ eb ∧ 0 ≤ eC) := by
          intro h
          rw [hok] at h
          simp only [List.all_cons, List.all_nil, Bool.and_eq_true, Fr.within_iff] at h
          omega
        rw [← hok] at HBl HOk
        clear hwa hwb y0 y1 y2 hea heb hec hok HK
        go_wp2_with fail
        rw [HW.out]
        refine HBl.out.mono ?_
        rintro e v ⟨rfl, hw⟩
        rw [hw]
        clear hw v HBl HW
        cases ok with
        | false =>
          have HEr4 : Hid (er = 7) := by
            show _ = _
            rw [HEr3.out, if_pos]
            rw [List.all_eq_false]
            exact ⟨es[k], List.getElem_mem hlt, by rw [HOk.out]; decide⟩
          go_wp2
          go_ret2
          rw [HEr4.out]
          exact encF_bad (by omega) (HB1.out.trans ((HBr.out.trans (HBrb.out.mono hsr)).mono (by omega)))
        | true =>
          have HIe2 := Lib.hid (HIe.out (by simp))
          clear HIe
          have hsb := HBrb.out.size
          have HP := Lib.hid (putsK wb.heap.size [ea, eb, eC] (by simp) (fun m hm => by
            have h2 := HIe2.out
            simp only [List.mem_cons, List.not_mem_nil, or_false] at hm
            omega) (wb.alloc (.cells #[.int .i64 ea, .int .i64 eb, .int .i64 eC] 2)) (ints_new wb [ea, eb, eC] rfl))
          have HBc : Hid (Below wb.heap.size wb (wb.alloc (.cells #[.int .i64 ea, .int .i64 eb, .int .i64 eC] 2))) := (Below.refl _ _).alloc (Nat.le_refl _) _
          have hul : (Fr.nums [ea, eb, eC]).length ≤ 30 := by
            have h1 := Leb.put_length_le ea.toNat
            have h2 := Leb.put_length_le eb.toNat
            have h3 := Leb.put_length_le eC.toNat
            simp only [Fr.nums_cons, Fr.nums_nil, List.append_nil, List.length_append]
            omega
          obtain ⟨u, hu⟩ : ∃ u, u = Fr.nums [ea, eb, eC] := ⟨_, rfl⟩
          rw [← hu] at HP hul HEb
          clear hu
          go_wp2_with fail
          refine HP.out.mono ?_
          rintro e w4 ⟨p4, cap4, rfl, hh, hb⟩
          have HB4 := Lib.hid (HBc.out.trans (hb.mono HBc.out.size))
          have HBr4 := Lib.hid (HBrb.out.trans (HB4.out.mono (by omega)))
          have HA4 : Hid (At w4 p4 u) := by
            obtain ⟨p', c', he, ha, -⟩ := hh.at
            injection he with e1
            subst e1
            exact ha
          have hs4 := HBr4.out.size
          clear hh hb HP HBc
          go_wp2_with (first
            | (at_builtin
               refine wp_ontoL (HO.out.on HBr4.out) HA4.out (by omega) (by omega) rfl rfl rfl rfl rfl ?_
               intro ys q5 cap5 W HY hh ha hk2
               have HB5 := Lib.hid (aside_low ha (HO.out.on HBr4.out) (by omega))
               have HYs := Lib.hid hh
               have hyl : ys.length ≤ 40 + 30 * (k + 1) := by rw [HY.out, List.length_append]; omega
               clear ha hk2 hh)
            | fail)
          go_roundw
          case rel =>
            refine ⟨k + 1, ys, by omega, by go_num, hyl, ?_, ?_, HYs.out, (HBr.out.trans (HBr4.out.mono hsr)).trans HB5.out⟩
            · rw [HY.out, HXs.out, HE1.out, HEb.out, List.append_assoc]
            · rw [HA1.out, HAl.out, HOk.out]; rfl
          case measure => simp [intOf]; omega
      · have hkk : k = es.length := by omega
        subst hkk
        have HEr4 : Hid (er = 0) := by
          show _ = _
          have hall := HAl.out
          rw [List.take_length] at hall
          rw [HEr3.out, hall]
          rfl
        have HXs2 : Hid (ns ++ (es.map Fr.entB).flatten = xs) := by
          show _ = _
          rw [HXs.out, List.take_length]
        obtain ⟨p5, c5, rfl, -, -⟩ := HO.out.at
        clear HK
        go_wp2
        go_ret2
        have e : Fr.nums [a, b, c, (es.length : Int)] ++ (es.map Fr.entB).flatten = xs := by rw [← HNs.out, HXs2.out]
        rw [e]
        exact .inl ⟨HEr4.out, p5, c5, rfl, HO.out.lower (by omega), HB1.out.trans (HBr.out.mono (by omega))⟩
end Go.Proofs.YtclhbhhlddbocaaGreatDoor
