/- SplitJoins. -/
import Derived.Test.YtpgilfglfcnihaaL13C
import Derived.Test.YtpgilfglfcnihaaSp3
namespace Go.Proofs.Ytpgilfglfcnihaa
open Go.RowKit

theorem RunsR.on {w w' : World} {p : Option Addr} {rs : List Run} (h : RunsR w p rs) (hb : Below w.heap.size w w') : RunsR w' p rs := by
  rcases h with h | ⟨g, o, hp, h⟩
  · exact .inl h
  · refine .inr ⟨g, o, hp, fun j hj => ?_⟩
    obtain ⟨h1, q, c, h2, h3⟩ := h j hj
    refine ⟨?_, q, c, ?_, h3.on hb⟩
    · rw [hb.cell (p := ⟨g, o + j * 2, none⟩) (World.block_lt_of_cell? _ _ h1)]; exact h1
    · rw [hb.cell (p := ⟨g, o + j * 2 + 1, none⟩) (World.block_lt_of_cell? _ _ h2)]; exact h2
theorem RunsR.get {w : World} {p : Option Addr} {rs : List Run} (h : RunsR w p rs) {j : Nat} (hj : j < rs.length) : ∃ g o q c, p = some ⟨g, o, none⟩ ∧ w.cell? ⟨g, o + j * 2, none⟩ = some (.int .i64 rs[j].1) ∧ w.cell? ⟨g, o + j * 2 + 1, none⟩ = some (.slice q rs[j].2.length c) ∧ At w q rs[j].2 := by
  rcases h with h | ⟨g, o, hp, h⟩
  · rw [h] at hj
    simp at hj
  · obtain ⟨h1, q, c, h2, h3⟩ := h j hj
    exact ⟨g, o, q, c, hp, h1, h2, h3⟩
/-- what lies in one of the two lists -/
theorem joined {L M N : List Run} {s : Nat} (h : L = M ++ Sp.shift s N) {i : Nat} (hi : i < L.length) : (∀ hm : i < M.length, L[i] = M[i]) ∧ (¬ i < M.length → ∃ hn : i - M.length < N.length, L[i].1 = N[i - M.length].1 + s ∧ L[i].2 = N[i - M.length].2) := by
  subst h
  constructor
  · intro hm
    rw [List.getElem_append_left hm]
  · intro hm
    have hi2 : i < M.length + N.length := by simpa [Sp.shift] using hi
    refine ⟨by omega, ?_⟩
    rw [List.getElem_append_right (by omega)]
    simp [Sp.shift]

set_option maxRecDepth 100000 in
set_option maxHeartbeats 8000000 in
theorem splitJoins (pa pb : Option Addr) (ca cb : Nat) (a b : List UInt8) (w : World) (ha : At w pa a) (hb : At w pb b) (hl : a.length + b.length ≤ 1048576) : Calls Try.prog 7 #[.slice pa a.length ca, .slice pb b.length cb] w fun e w' => e = .returned (.bool true) ∧ Below w.heap.size w w' := by
  have HA := Lib.hid ha
  have HB := Lib.hid hb
  have HL := Lib.hid (live13 w)
  clear ha hb
  go_enter Try.func7, Try.ntmps7
  go_wp2_with fail
  refine HL.out.mono ?_
  rintro e w1 ⟨rfl, hb1⟩
  have HB1 := Lib.hid hb1
  have hs1 := hb1.size
  clear hb1 HL
  go_wp2_with (first
    | (at_builtin
       refine wp_ontoL (B := w1.heap.size) (xs := []) (v := .slice none 0 0) (l := a) (has_nil _ _) (HA.out.on HB1.out) (by simp; omega) (Nat.le_refl _) rfl rfl rfl rfl rfl ?_
       intro y1 q1 k1 W1 HY1 hh1 ha1 _
       have HB2 := Lib.hid (ha1.below (B := w1.heap.size) (Nat.le_refl _) (fun k _ hk => by cases hk))
       have HH1 := Lib.hid hh1
       have hz2 := HB2.out.size
       have hy1 : y1.length ≤ a.length := by rw [HY1.out]; simp
       clear hh1 ha1)
    | (at_builtin
       refine wp_ontoL (l := [0]) (HH1.out.on ((Below.refl _ _).alloc (Nat.le_refl _) _)) (lit_at W1 [0] _ rfl) (by simp; omega) (by simp; omega) rfl rfl rfl rfl rfl ?_
       intro y2 q2 k2 W2 HY2 hh2 ha2 _
       have HB3 := Lib.hid (HB2.out.trans (((Below.refl w1.heap.size W1).alloc (by omega) _).trans (aside_low ha2 (HH1.out.on ((Below.refl _ _).alloc (Nat.le_refl _) _)) (by simp; omega))))
       have HH2 := Lib.hid hh2
       have hz3 := HB3.out.size
       have hy2 : y2.length ≤ a.length + 1 := by rw [HY2.out]; simp; omega
       clear hh2 ha2)
    | (at_builtin
       refine wp_ontoL (B := W2.heap.size) (xs := [0]) (v := .slice (some ⟨W2.heap.size, 0, none⟩) 1 1) (l := b) (has_lit [0] rfl (Nat.le_refl _) (by decide)) (HB.out.on (HB1.out.trans ((HB3.out.mono hs1).trans ((Below.refl w.heap.size W2).alloc (by omega) _)))) (by simp; omega) (by simp) rfl rfl rfl rfl rfl ?_
       intro y3 q3 k3 W3 HY3 hh3 ha3 _
       have HB4 := Lib.hid (((Below.refl W2.heap.size W2).alloc (Nat.le_refl _) _).trans (aside_low ha3 (has_lit [0] rfl (Nat.le_refl _) (by decide)) (by simp)))
       have HH3 := Lib.hid hh3
       have hz4 := HB4.out.size
       have hy3 : y3.length ≤ b.length + 1 := by rw [HY3.out]; simp
       clear hh3 ha3)
    | (at_builtin
       refine wp_ontoL (B := W3.heap.size) (xs := []) (v := .slice none 0 0) (l := y2) (has_nil _ _) (by
         obtain ⟨p', c', he, hA, -⟩ := (HH2.out.on HB4.out).at
         injection he with e1
         subst e1
         exact hA) (by simp; omega) (Nat.le_refl _) rfl rfl rfl rfl rfl ?_
       intro y4 q4 k4 W4 HY4 hh4 ha4 _
       have HB5 := Lib.hid (ha4.below (B := W3.heap.size) (Nat.le_refl _) (fun k _ hk => by cases hk))
       have HH4 := Lib.hid hh4
       have hz5 := HB5.out.size
       have hy4 : y4.length ≤ y2.length := by rw [HY4.out]; simp
       clear hh4 ha4)
    | (at_builtin
       refine wp_ontoL HH4.out (HB.out.on (HB1.out.trans ((HB3.out.mono hs1).trans ((HB4.out.mono (by omega)).trans (HB5.out.mono (by omega)))))) (by omega) (by omega) rfl rfl rfl rfl rfl ?_
       intro y5 q5 k5 W5 HY5 hh5 ha5 _
       have HB6 := Lib.hid (HB5.out.trans (aside_low ha5 HH4.out (by omega)))
       have HH5 := Lib.hid hh5
       have hz6 := HB6.out.size
       have hy5 : y5.length ≤ y4.length + b.length := by rw [HY5.out]; simp
       clear hh5 ha5)
    | fail)
  have HE2 : Hid (y2 = a ++ [0]) := by show _ = _; rw [HY2.out, HY1.out]; rfl
  have HE3 : Hid (y3 = 0 :: b) := by show _ = _; rw [HY3.out]; rfl
  have HE5 : Hid (y5 = a ++ [0] ++ b) := by show _ = _; rw [HY5.out, HY4.out, HE2.out]; rfl
  have HO2 := Lib.hid (HH2.out.on (HB4.out.trans (HB6.out.mono hz4)))
  have HO3 := Lib.hid (HH3.out.on HB6.out)
  have HBW := Lib.hid (HB1.out.trans ((HB3.out.mono hs1).trans ((HB4.out.mono (by omega)).trans (HB6.out.mono (by omega)))))
  clear HY1 HY2 HY3 HY4 HY5 HH1 HH2 HH3 HH4 HB1 HB2 HB3 HB4 HB5 HB6 HA HB
  have HRun : Hid (∀ (y : List UInt8) (q : Option Addr) (k : Nat) (BB : Nat) (W : World), Has W BB (.slice q y.length k) y → y.length ≤ 2000000 → Calls Try.prog 10 #[.slice q y.length k] W fun e w' => ∃ q cap bs, e = .returned (.slice q (Sp.of y).out.length cap) ∧ RunsO w' W.heap.size (.slice q (Sp.of y).out.length cap) bs (Sp.of y).out ∧ Below W.heap.size W w') := by
    intro y q k BB W hh hl
    obtain ⟨p', c', he, hA, -⟩ := hh.at
    injection he with e1 _ _
    subst e1
    exact runsK W q k y hA (by omega)
  go_wp2_with fail
  refine (HRun.out y5 q5 k5 _ _ HH5.out (by omega)).mono ?_
  rintro e V1 ⟨ql, cl, bl, rfl, hr1, hv1⟩
  have HR1 := Lib.hid hr1
  have HV1 := Lib.hid hv1
  have hzv1 := hv1.size
  clear hr1 hv1
  go_wp2_with fail
  refine (HRun.out y2 q2 k2 _ _ (HO2.out.on HV1.out) (by omega)).mono ?_
  rintro e V2 ⟨qm, cm, bm, rfl, hr2, hv2⟩
  have HR2 := Lib.hid hr2
  have HV2 := Lib.hid hv2
  have hzv2 := hv2.size
  clear hr2 hv2
  go_wp2_with fail
  refine (HRun.out y3 q3 k3 _ _ (HO3.out.on (HV1.out.trans (HV2.out.mono hzv1))) (by omega)).mono ?_
  rintro e V3 ⟨qn, cn, bn, rfl, hr3, hv3⟩
  have HR3 := Lib.hid hr3.read
  have HR23 := Lib.hid (HR2.out.on hv3).read
  have HR13 := Lib.hid ((HR1.out.on HV2.out).on hv3).read
  have HBV := Lib.hid (HBW.out.trans ((HV1.out.mono (by omega)).trans ((HV2.out.mono (by omega)).trans (hv3.mono (by omega)))))
  have hzv3 := hv3.size
  clear hr3 hv3 HR1 HR2 HV1 HV2 HO2 HO3 HRun HH5 HBW
  obtain ⟨M, hM⟩ : ∃ M, M = (Sp.of y2).out := ⟨_, rfl⟩
  obtain ⟨N, hN⟩ : ∃ N, N = (Sp.of y3).out := ⟨_, rfl⟩
  obtain ⟨L, hL⟩ : ∃ L, L = (Sp.of y5).out := ⟨_, rfl⟩
  have HJ : Hid (L = M ++ Sp.shift a.length N) := by
    show _ = _
    rw [hM, hN, hL, HE5.out, HE2.out, HE3.out]
    exact Sp.joins a b
  rw [← hM] at HR23 ⊢
  rw [← hN] at HR3 ⊢
  rw [← hL] at HR13 ⊢
  have hMl : M.length ≤ 3000000 := by rw [hM]; have := Sp.out_len y2; omega
  have hNl : N.length ≤ 3000000 := by rw [hN]; have := Sp.out_len y3; omega
  have hLl : (L.length : Int) = (M.length : Int) + (N.length : Int) := by rw [HJ.out]; simp [Sp.shift]
  have HNb : Hid (∀ r ∈ N, r.1 ≤ 3000000) := by
    intro r hr
    rw [hN] at hr
    have := ((Sp.row_all y3).stand r hr).fit
    omega
  have HLL := Lib.hid hLl
  have hb0 : ((L.length : Int) != (M.length : Int) + (N.length : Int)) = false := by rw [hLl]; simp
  clear hM hN hL HE2 HE3 HE5 hLl
  go_wp2
  go_loopw [41] (fun v41 wr => ∃ i : Nat, i ≤ L.length ∧ v41 = .int .i64 i ∧ Hid (Below V3.heap.size V3 wr)) (fun v41 _ => L.length - (intOf v41).toNat)
  case atStart => exact ⟨0, by omega, rfl, Below.refl _ _⟩
  case round =>
    obtain ⟨i, hi, rfl, HW⟩ := hrel
    by_cases hlt : i < L.length
    · have hlt' : (i : Int) < (L.length : Int) := by omega
      obtain ⟨gl, ol, qx, cx, hpl, l0, l1, hAx⟩ := (HR13.out.on HW.out).get hlt
      subst hpl
      have HJi := Lib.hid (joined HJ.out hlt)
      obtain ⟨x1, hx1⟩ : ∃ x, x = L[i].1 := ⟨_, rfl⟩
      obtain ⟨x2, hx2⟩ : ∃ x, x = L[i].2 := ⟨_, rfl⟩
      rw [← hx1] at l0
      rw [← hx2] at l1 hAx
      have hb1 : Below wr.heap.size wr (wr.alloc (.cells #[.int .i64 (x1 : Int), .slice qx x2.length cx] 39)) := (Below.refl _ _).alloc (Nat.le_refl _) _
      have hzw := HW.out.size
      have hb2 : ∀ o, Below wr.heap.size wr ((wr.alloc (.cells #[.int .i64 (x1 : Int), .slice qx x2.length cx] 39)).alloc o) := fun o => hb1.alloc (by simp) o
      have HB2 := Lib.hid hb2
      by_cases him : i < M.length
      · have him' : (i : Int) < (M.length : Int) := by omega
        have he := HJi.out.1 him
        obtain ⟨gm, om, qy, cy, hpm, n0, n1, hAy⟩ := (HR23.out.on HW.out).get him
        subst hpm
        rw [← he, ← hx1] at n0
        rw [← he, ← hx2] at n1 hAy
        have m0 := ((hb2 (.cells #[.int .i64 0, .slice none 0 0] 39)).cell (p := ⟨gm, om + i * 2, none⟩) (World.block_lt_of_cell? _ _ n0)).trans n0
        have m1 := ((hb2 (.cells #[.int .i64 0, .slice none 0 0] 39)).cell (p := ⟨gm, om + i * 2 + 1, none⟩) (World.block_lt_of_cell? _ _ n1)).trans n1
        have k1 := conv_str (hAx.on (hb2 (.cells #[.int .i64 (x1 : Int), .slice qy x2.length cy] 39))) cx
        have k2 := conv_str (hAy.on (hb2 (.cells #[.int .i64 (x1 : Int), .slice qy x2.length cy] 39))) cy
        clear hAx hAy hb1 hb2 hx1 hx2 he HJi n0 n1
        go_wp2
        go_roundw
        case rel => exact ⟨i + 1, by omega, by go_num, HW.out.trans ((HB2.out _).mono hzw)⟩
        case measure => simp [intOf]; omega
      · have him' : ¬ (i : Int) < (M.length : Int) := by omega
        have hbi : decide ((i : Int) < (M.length : Int)) = false := decide_eq_false him'
        obtain ⟨hn, he1, he2⟩ := HJi.out.2 him
        obtain ⟨j, hj⟩ : ∃ j, j = i - M.length := ⟨_, rfl⟩
        obtain ⟨gn, on, qy, cy, hpn, n0, n1, hAy⟩ := (HR3.out.on HW.out).get hn
        subst hpn
        obtain ⟨y1', hy1'⟩ : ∃ y, y = N[i - M.length].1 := ⟨_, rfl⟩
        rw [← he2, ← hx2] at n1 hAy
        rw [← hy1'] at n0 he1
        rw [← hx1] at he1
        rw [← hj] at n0 n1
        have hij : (i : Int) - (M.length : Int) = (j : Int) := by omega
        have hjn : (j : Int) < (N.length : Int) := by omega
        have m0 := ((hb2 (.cells #[.int .i64 0, .slice none 0 0] 39)).cell (p := ⟨gn, on + j * 2, none⟩) (World.block_lt_of_cell? _ _ n0)).trans n0
        have m1 := ((hb2 (.cells #[.int .i64 0, .slice none 0 0] 39)).cell (p := ⟨gn, on + j * 2 + 1, none⟩) (World.block_lt_of_cell? _ _ n1)).trans n1
        have k1 := conv_str (hAx.on (hb2 (.cells #[.int .i64 (x1 : Int), .slice qy x2.length cy] 39))) cx
        have k2 := conv_str (hAy.on (hb2 (.cells #[.int .i64 (x1 : Int), .slice qy x2.length cy] 39))) cy
        have hxy : (y1' : Int) + (a.length : Int) = (x1 : Int) := by omega
        have hxb : y1' ≤ 3000000 := by rw [hy1']; exact HNb.out _ (List.getElem_mem hn)
        clear hAx hAy hb1 hb2 hx1 hx2 HJi n0 n1 he1 he2 hn hj hy1'
        go_wp2
        go_roundw
        case rel => exact ⟨i + 1, by omega, by go_num, HW.out.trans ((HB2.out _).mono hzw)⟩
        case measure => simp [intOf]; omega
    · have hii : i = L.length := by omega
      subst hii
      go_wp2
      go_ret
      exact ⟨rfl, HBV.out.trans (HW.out.mono (by omega))⟩
end Go.Proofs.Ytpgilfglfcnihaa
