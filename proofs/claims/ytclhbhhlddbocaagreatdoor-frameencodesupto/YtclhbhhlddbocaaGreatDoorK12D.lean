/- The landed frame: a data frame's fields as bytes. -/
import Derived.Test.YtclhbhhlddbocaaGreatDoorK12C
import Derived.Test.YtclhbhhlddbocaaGreatDoorB15
import Derived.Deep.RegionLaw
namespace Go.Proofs.YtclhbhhlddbocaaGreatDoor
open Go.RowKit

/-- bytes more, at a step of a region that draws -/
theorem step_ontoF {B : Nat} {v : Value} {xs l : List UInt8} {p : Option Addr} {c : Nat} {w : World} (hown : Has w B v xs) (h : At w p l) (hlen : xs.length + l.length ≤ 140737488355328) (hB : B ≤ w.heap.size)
    {ops : Array Oper} {o : Oper} {a : Act} {K : Act → World → Prop} {Q : Exit → Act → World → Prop} {E : Prop} (s x : Operand)
    (ht : o.type = 25) (hg : o.guard = none) (hop : o.op = Op.call { callee := Callee.builtin Builtin.append, args := #[s, x], argTypes := #[25, 25] })
    (hs : a.eval s = v) (hx : a.eval x = .slice p l.length c)
    (hK : ∀ q cap W ys, Hid (ys = xs ++ l) → Grew w B v W (.slice q ys.length cap) ys → K (a.put o.dst (.slice q ys.length cap)) W) :
    if Region.wanted o (yielded ops a.tmps) = true then Oper.wp Tryz.prog o a w K Q else E := by
  have hw : Region.wanted o (yielded ops a.tmps) = true := by simp [Region.wanted, hg]
  rw [if_pos hw]
  obtain ⟨q, cap, W, ⟨hr⟩, hm, ha, -, hb3⟩ := onto_all B v xs l p c w hown h hlen hB
  unfold Oper.wp
  have he : (execOp a.eval o).run Tryz.prog w = .ok (.value (.slice q (xs ++ l).length cap)) W := by
    simp only [execOp, hop, resolve, invoke, builtin]
    simp [hs, hx, ht, hr, Result.andThen]
  rw [he]
  exact hK q cap W (xs ++ l) (Lib.hid rfl) ⟨hm, ha, hb3⟩

theorem Ints.drew {w : World} {b : Nat} {l : List Int} (h : Ints w b l) : Ints w.drew b l := ⟨h.1, fun j hj => h.2 j hj⟩
theorem grew_cell {w W : World} {B : Nat} {v q : Value} {xs ys : List UInt8} (hg : Grew w B v W q ys) (hown : Has w B v xs) {b o : Nat} {u : Value} (hb : b < B) (hB : B ≤ w.heap.size) (h : w.cell? ⟨b, o, none⟩ = some u) : W.cell? ⟨b, o, none⟩ = some u :=
  ((aside_low hg.aside hown hB).cell (p := ⟨b, o, none⟩) hb).trans h

def datErr (n q f r : Int) (b : List UInt8) : Nat := if (Fr.within Fr.N n && Fr.within Fr.S q && Fr.within Fr.S f && decide (1 ≤ r ∧ r ≤ 64)) = false then 7 else if 2200 < b.length then 2 else 0

set_option maxRecDepth 100000 in
set_option maxHeartbeats 4000000 in
theorem dataEncK (n q f r : Int) (hn : Fr.i64 n) (hq : Fr.i64 q) (hf : Fr.i64 f) (hr : Fr.i64 r) (b : List UInt8) (bp : Option Addr) (bc : Nat) (w : World) (hbl : b.length ≤ 140737488351232) (hat : At w bp b) :
    Calls Tryz.prog 247 #[.agg #[.int .i64 n, .int .i64 q, .int .i64 f, .int .i64 r, .slice bp b.length bc]] w (EncF w (datErr n q f r b) (Fr.nums [n, q, f, r] ++ b)) := by
  obtain ⟨w0, hw0⟩ : ∃ w0, w0 = w.alloc (.cells #[.int .i64 n, .int .i64 q, .int .i64 f, .int .i64 r, .slice bp b.length bc] 144) := ⟨_, rfl⟩
  have hz0 : w0.heap.size = w.heap.size + 1 := by rw [hw0]; simp
  have HB0 : Hid (Below w.heap.size w w0) := by rw [hw0]; exact (Below.refl _ _).alloc (Nat.le_refl _) _
  have c0 : w0.cell? ⟨w.heap.size, 0, none⟩ = some (.int .i64 n) := by rw [hw0]; simp
  have c1 : w0.cell? ⟨w.heap.size, 1, none⟩ = some (.int .i64 q) := by rw [hw0]; simp
  have c2 : w0.cell? ⟨w.heap.size, 2, none⟩ = some (.int .i64 f) := by rw [hw0]; simp
  have c3 : w0.cell? ⟨w.heap.size, 3, none⟩ = some (.int .i64 r) := by rw [hw0]; simp
  have c4 : w0.cell? ⟨w.heap.size, 4, none⟩ = some (.slice bp b.length bc) := by rw [hw0]; simp
  obtain ⟨w1, hw1⟩ : ∃ w1, w1 = w0.alloc (.cells #[.int .i64 n] 2) := ⟨_, rfl⟩
  have HI : Hid (Ints w1 (w.heap.size + 1) [n]) := by rw [hw1]; exact ints_at hz0 [n] rfl
  have HB01 : Hid (Below w0.heap.size w0 w1) := by rw [hw1]; exact (Below.refl _ _).alloc (Nat.le_refl _) _
  have HB1 : Hid (Below w.heap.size w w1) := HB0.out.trans (HB01.out.mono (by omega))
  have hz1 : w1.heap.size = w.heap.size + 1 + 1 := by rw [hw1]; simp [hz0]
  have d0 := cell_on HB01.out c0
  have d1 := cell_on HB01.out c1
  have d2 := cell_on HB01.out c2
  have d3 := cell_on HB01.out c3
  have d4 := cell_on HB01.out c4
  have HBl := Lib.hid (belowK 2147483648 (w.heap.size + 1) [n] (by simp) w1 HI.out)
  have e1 : [n].all (Fr.within 2147483648) = Fr.within Fr.N n := by simp [Fr.N]
  rw [e1] at HBl
  have HW : Hid ((w.alloc (.cells #[.int .i64 n, .int .i64 q, .int .i64 f, .int .i64 r, .slice bp b.length bc] 144)).alloc (.cells #[.int .i64 n] 2) = w1) := by rw [hw1, hw0]; exact rfl
  obtain ⟨w2, hw2⟩ : ∃ w2, w2 = w1.alloc (.cells #[.int .i64 q, .int .i64 f] 2) := ⟨_, rfl⟩
  have HB12 : Hid (Below w1.heap.size w1 w2) := by rw [hw2]; exact (Below.refl _ _).alloc (Nat.le_refl _) _
  have HB2 : Hid (Below w.heap.size w w2) := HB1.out.trans (HB12.out.mono (by omega))
  have HBl2 := Lib.hid (belowK 1099511627776 w1.heap.size [q, f] (by simp) w2 (by rw [hw2]; exact ints_new w1 [q, f] rfl))
  have e2 : [q, f].all (Fr.within 1099511627776) = (Fr.within Fr.S q && Fr.within Fr.S f) := by simp [Fr.S]
  rw [e2] at HBl2
  have hz2 : w2.heap.size = w.heap.size + 1 + 1 + 1 := by rw [hw2]; simp [hz1]
  have x0 := cell_on HB12.out d0
  have x1 := cell_on HB12.out d1
  have x2 := cell_on HB12.out d2
  have x3 := cell_on HB12.out d3
  have x4 := cell_on HB12.out d4
  have HW2 : Hid (w1.alloc (.cells #[.int .i64 q, .int .i64 f] 2) = w2) := by rw [hw2]; exact rfl
  obtain ⟨er, her⟩ : ∃ er, er = datErr n q f r b := ⟨_, rfl⟩
  have HEr := Lib.hid her
  rw [← her]
  have HAt := Lib.hid hat
  have HNb := Lib.hid (And.intro hn (And.intro hq (And.intro hf hr)))
  obtain ⟨bn, hbn⟩ : ∃ bn, bn = Fr.within Fr.N n := ⟨_, rfl⟩
  obtain ⟨bq, hbq⟩ : ∃ bq, bq = (Fr.within Fr.S q && Fr.within Fr.S f) := ⟨_, rfl⟩
  rw [← hbn] at HBl
  rw [← hbq] at HBl2
  have HEr1 : Hid (er = if (bn && bq && decide (1 ≤ r ∧ r ≤ 64)) = false then 7 else if 2200 < b.length then 2 else 0) := by
    show _ = _
    rw [HEr.out, hbn, hbq, datErr, ← Bool.and_assoc]
  have HIn : Hid (bn = true → bq = true → (0 ≤ n ∧ 0 ≤ q ∧ 0 ≤ f)) := by
    intro h1 h2
    rw [hbn] at h1
    rw [hbq, Bool.and_eq_true] at h2
    exact ⟨(Fr.within_iff.1 h1).1, (Fr.within_iff.1 h2.1).1, (Fr.within_iff.1 h2.2).1⟩
  have hri := hr
  unfold Fr.i64 at hri
  clear e1 e2 hw0 hw1 hw2 hn hq hf hr her hat c0 c1 c2 c3 c4 HI HB01 HEr hbn hbq
  go_enter Tryz.func247, Tryz.ntmps247
  go_wp2_with fail
  rw [HW.out]
  refine HBl.out.mono ?_
  rintro e v ⟨rfl, hw⟩
  rw [hw]
  clear hw v HBl HW
  cases bn with
  | false =>
    have HEr2 : Hid (er = 7) := HEr1.out
    go_wp2
    go_ret2
    rw [HEr2.out]
    exact encF_bad (by omega) HB1.out
  | true =>
    go_wp2_with fail
    rw [← hz1]
    rw [HW2.out]
    refine HBl2.out.mono ?_
    rintro e v ⟨rfl, hw⟩
    rw [hw]
    clear hw v HBl2 HW2
    cases bq with
    | false =>
      have HEr2 : Hid (er = 7) := HEr1.out
      go_wp2
      go_ret2
      rw [HEr2.out]
      exact encF_bad (by omega) HB2.out
    | true =>
      have HIn2 := Lib.hid (HIn.out (by simp) (by simp))
      clear HIn
      by_cases h1 : r < 1
      · have HEr2 : Hid (er = 7) := by
          show _ = _
          rw [HEr1.out, decide_eq_false (show ¬ (1 ≤ r ∧ r ≤ 64) by omega)]
          rfl
        clear HEr1
        go_wp2
        go_ret2
        rw [HEr2.out]
        exact encF_bad (by omega) HB2.out
      by_cases h2 : 64 < r
      · have HEr2 : Hid (er = 7) := by
          show _ = _
          rw [HEr1.out, decide_eq_false (show ¬ (1 ≤ r ∧ r ≤ 64) by omega)]
          rfl
        clear HEr1
        go_wp2
        go_ret2
        rw [HEr2.out]
        exact encF_bad (by omega) HB2.out
      have HEr2 : Hid (er = if 2200 < b.length then 2 else 0) := by
        show _ = _
        rw [HEr1.out, decide_eq_true (show (1 ≤ r ∧ r ≤ 64) by omega)]
        rfl
      clear HEr1
      by_cases h3 : 2200 < b.length
      · have g3 : (2200 : Int) < (b.length : Int) := by omega
        have HEr3 : Hid (er = 2) := HEr2.out.trans (if_pos h3)
        clear HEr2 h3
        go_wp2
        go_ret2
        rw [HEr3.out]
        exact encF_bad (by omega) HB2.out
      · have g3 : ¬ (2200 : Int) < (b.length : Int) := by omega
        have HEr3 : Hid (er = 0) := HEr2.out.trans (if_neg h3)
        clear HEr2 h3
        have hnl : (Fr.nums [n, q, f, r]).length ≤ 40 := by
          have h1 := Leb.put_length_le n.toNat
          have h2 := Leb.put_length_le q.toNat
          have h3 := Leb.put_length_le f.toNat
          have h4 := Leb.put_length_le r.toNat
          simp only [Fr.nums_cons, Fr.nums_nil, List.append_nil, List.length_append]
          omega
        have HP : Hid (Calls Tryz.prog 246 #[.slice (some ⟨w.heap.size + 1 + 1 + 1, 0, none⟩) 4 4] (w2.alloc (.cells #[.int .i64 n, .int .i64 q, .int .i64 f, .int .i64 r] 2)).drew fun e w'' => ∃ p cap, e = .returned (.slice p (Fr.nums [n, q, f, r]).length cap) ∧ Has w'' w2.heap.size (.slice p (Fr.nums [n, q, f, r]).length cap) (Fr.nums [n, q, f, r]) ∧ Below w2.heap.size w2 w'') := by
          refine (putsK (w.heap.size + 1 + 1 + 1) [n, q, f, r] (by simp) (fun m hm => ?_) _ (ints_at hz2 [n, q, f, r] rfl).drew).mono ?_
          · have h1 := HNb.out
            have h2 := HIn2.out
            unfold Fr.i64 at h1
            simp only [List.mem_cons, List.not_mem_nil, or_false] at hm
            omega
          · rintro e w'' ⟨p, cap, rfl, hh, hb⟩
            have hb0 : Below w2.heap.size w2 (w2.alloc (.cells #[.int .i64 n, .int .i64 q, .int .i64 f, .int .i64 r] 2)).drew := ((Below.refl _ _).alloc (Nat.le_refl _) _).drew
            exact ⟨p, cap, rfl, hh.lower hb0.size, hb0.trans (hb.mono hb0.size)⟩
        obtain ⟨ns, hns⟩ : ∃ ns, ns = Fr.nums [n, q, f, r] := ⟨_, rfl⟩
        rw [← hns] at HP hnl
        have HNs := Lib.hid hns
        clear hns
        have hlen : ns.length + b.length ≤ 140737488355328 := by omega
        go_wp2_with fail
        go_region_held3 (fun w' => w'.cell? ⟨w.heap.size, 0, none⟩ = some (.int .i64 n) ∧ w'.cell? ⟨w.heap.size, 1, none⟩ = some (.int .i64 q) ∧ w'.cell? ⟨w.heap.size, 2, none⟩ = some (.int .i64 f) ∧ w'.cell? ⟨w.heap.size, 3, none⟩ = some (.int .i64 r) ∧ w'.cell? ⟨w.heap.size, 4, none⟩ = some (.slice bp b.length bc)) (go_keep) (first
          | (go_at_call 246; refine HP.out.mono ?_; rintro e w3 ⟨p3, cap3, rfl, hh, hb'⟩; have y0 := cell_on hb' x0; have y1 := cell_on hb' x1; have y2 := cell_on hb' x2; have y3 := cell_on hb' x3; have y4 := cell_on hb' x4; have HH := Lib.hid hh; have HB3 := Lib.hid hb'; have HA3 := Lib.hid ((HAt.out.on HB2.out).on hb'); have hs3 := hb'.size; clear hh hb')
          | (refine step_ontoF (B := w2.heap.size) (xs := ns) (l := b) HH.out HA3.out hlen hs3 (.tmp 41) (.tmp 43) (by rfl) (by rfl) (by rfl) (by rfl) (by rfl) ?_
             intro q5 cap5 W ys HY hg5
             have z0 := grew_cell hg5 HH.out (by omega) hs3 y0
             have z1 := grew_cell hg5 HH.out (by omega) hs3 y1
             have z2 := grew_cell hg5 HH.out (by omega) hs3 y2
             have z3 := grew_cell hg5 HH.out (by omega) hs3 y3
             have z4 := grew_cell hg5 HH.out (by omega) hs3 y4
             have HYs := Lib.hid hg5.has
             have HB5 := Lib.hid (aside_low hg5.aside HH.out hs3)
             clear hg5))
        go_wp2
        go_ret2
        have e : Fr.nums [n, q, f, r] ++ b = ys := by rw [HY.out, HNs.out]
        rw [e]
        exact .inl ⟨HEr3.out, q5, cap5, rfl, HYs.out.lower (by omega), (HB2.out.trans (HB3.out.mono (by omega))).trans (HB5.out.mono (by omega))⟩
end Go.Proofs.YtclhbhhlddbocaaGreatDoor
