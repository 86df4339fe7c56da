/- SplitClones. -/
import Derived.Test.YtpgilfglfcnihaaL13A
namespace Go.Proofs.Ytpgilfglfcnihaa
open Go.RowKit

/-- bytes that came in lie apart from a splitter -/
theorem off_old {w w0 : World} {B g : Nat} {v : Value} {d : Sp} (h : Spl w B g v d) {p : Option Addr} {l : List UInt8} (hA : At w0 p l) (hB : w0.heap.size ≤ B) : l ≠ [] → ∀ b o, p = some ⟨b, o, none⟩ → b ≠ g ∧ v.ownBlock ≠ some b := by
  intro hne b o hp
  rcases hA with h0 | ⟨b', o', h1, h2, h3⟩
  · exact absurd h0 hne
  · rw [h1] at hp
    injection hp with hp
    injection hp with e1 _
    subst e1
    exact ⟨by have := h.base; omega, fun hc => by have := (h.held.lt _ hc).1; omega⟩
/-- a splitter that another's feed leaves alone -/
theorem FI.leaves {w w' : World} {B B' g g' : Nat} {v v' rv v2 : Value} {bs : List Nat} {d e : Sp} {l : List UInt8} (h : FI w w' B g v rv v2 bs d l) (hs : Spl w B' g' v' e) (h1 : g' ≠ g) (h2 : v.ownBlock ≠ some g') (h3 : v'.ownBlock ≠ some g) (h4 : ∀ k, v'.ownBlock = some k → v.ownBlock ≠ some k) : Spl w' B' g' v' e :=
  hs.aside h.aside (fun hc => by rcases hc with hc | hc; exact h1 hc; exact h2 hc) (fun k hk hc => by rcases hc with hc | hc; exact h3 (by rw [hk, hc]); exact h4 k hk hc)

/-- the rest of a list of runs -/
theorem runs_cut {w : World} {B n c : Nat} {q pv : Option Addr} {bs : List Nat} {rs : List Run} (h : RunsO w B (.slice q rs.length c) bs rs) (hpv : (if c = n then q else Option.map (fun x => x.add (n * 2)) q) = pv) : RunsR w pv (rs.drop n) := by
  obtain ⟨q', c', he, hle⟩ := h.form
  injection he with _ _ e3
  subst e3
  by_cases hc : c = n
  · exact .inl (List.drop_eq_nil_of_le (by omega))
  · rw [if_neg hc] at hpv
    subst hpv
    cases q with
    | none =>
      obtain ⟨us, h1, -⟩ := h.out
      rcases h1.2 with ⟨_, h3⟩ | ⟨g, cap, cur, he2, _⟩
      · exact .inl (List.drop_eq_nil_of_le (by omega))
      · cases he2
    | some a =>
      have hr := h.read
      obtain ⟨us, h1, -⟩ := h.out
      rcases h1.2 with ⟨he2, h3⟩ | ⟨g, cap, cur, he2, _⟩
      · cases he2
      · injection he2 with e1 _ _
        injection e1 with e1
        subst e1
        have := hr.drop n
        simp only [Option.map_some, Lib.add_plain]
        exact this

set_option maxRecDepth 100000 in
set_option maxHeartbeats 8000000 in
theorem splitClones (pa pb pc : Option Addr) (ca cb cc : Nat) (a b c : List UInt8) (w : World) (ha : At w pa a) (hb : At w pb b) (hc : At w pc c) (hca : a.length ≤ ca) (hl : a.length + b.length + c.length ≤ 1048576) : Calls Try.prog 5 #[.slice pa a.length ca, .slice pb b.length cb, .slice pc c.length cc] w fun e w' => e = .returned (.bool true) ∧ Below w.heap.size w w' := by
  have HA := Lib.hid ha
  have HB := Lib.hid hb
  have HC := Lib.hid hc
  have HL := Lib.hid (live13 w)
  clear ha hb hc
  go_enter Try.func5, Try.ntmps5
  go_wp2_with fail
  refine HL.out.mono ?_
  rintro e w1 ⟨rfl, hb1⟩
  have HB1 := Lib.hid hb1
  have hs1 := hb1.size
  have HN := Lib.hid (newK w1)
  clear hb1 HL
  go_wp2_with fail
  refine HN.out.mono ?_
  rintro e w2 ⟨g, v, rfl, hs2, hb2⟩
  have HS2 := Lib.hid hs2
  have HB2 := Lib.hid (HB1.out.trans (hb2.mono hs1))
  have hz2 := hb2.size
  clear hs2 hb2 HN HB1
  have HF3 := Lib.hid (feedK w2 w1.heap.size g v Sp.start pa ca a HS2.out (HA.out.on HB2.out) (off_old HS2.out HA.out hs1) (by simp [Sp.start]; omega))
  go_wp2_with fail
  refine HF3.out.mono ?_
  rintro e w3 ⟨q3, c3, v3, bs3, rfl, hf3⟩
  have HS3 : Hid (Spl w3 w1.heap.size g v3 (Sp.of a)) := hf3.spl
  have HB3 := Lib.hid (HB2.out.trans (hf3.below HS2.out hs1 (by omega)))
  have hz3 := hf3.aside.size
  clear hf3 HF3 HB2 HS2
  have HK4 := Lib.hid (cloneS w3 w1.heap.size g v3 (Sp.of a) HS3.out)
  go_wp2_with fail
  refine HK4.out.mono ?_
  rintro e w4 ⟨g', v', rfl, ht4, hb4⟩
  have HT4 := Lib.hid ht4
  have HS4 := Lib.hid (HS3.out.on hb4)
  have hz4 := hb4.size
  have HB4 := Lib.hid (HB3.out.trans (hb4.mono (by omega)))
  have HV3 := Lib.hid (fun k (hk : v3.ownBlock = some k) => (HS3.out.held.lt k hk).2)
  have hg3 := HS3.out.lt
  have hg4 := ht4.lt
  have hgb := ht4.base
  have HV4 := Lib.hid (fun k (hk : v'.ownBlock = some k) => ht4.held.lt k hk)
  clear ht4 hb4 HK4 HB3 HS3
  have HF5 := Lib.hid (feedK w4 w1.heap.size g v3 (Sp.of a) pb cb b HS4.out (HB.out.on HB4.out) (off_old HS4.out HB.out hs1) (by rw [Sp.of_n]; omega))
  go_wp2_with fail
  refine HF5.out.mono ?_
  rintro e w5 ⟨q5, c5, v5, bs5, rfl, hf5⟩
  have HFI5 := Lib.hid hf5
  have HB5 := Lib.hid (HB4.out.trans (hf5.below HS4.out hs1 (by omega)))
  have hz5 := hf5.aside.size
  have HT5 := Lib.hid (hf5.leaves HT4.out (by omega) (fun hc => by have := HV3.out _ hc; omega) (fun hc => by have := (HV4.out _ hc).1; omega) (fun k hk hc => by have := HV3.out _ hc; have := (HV4.out _ hk).1; omega))
  clear hf5 HF5 HB4 HS4 HT4
  have HF6 := Lib.hid (feedK w5 w3.heap.size g' v' (Sp.of a) pc cc c HT5.out (HC.out.on HB5.out) (off_old HT5.out HC.out (by omega)) (by rw [Sp.of_n]; omega))
  go_wp2_with fail
  refine HF6.out.mono ?_
  rintro e w6 ⟨q6, c6, v6, bs6, rfl, hf6⟩
  have HFI6 := Lib.hid hf6
  have HB6 := Lib.hid (HB5.out.trans (hf6.below HT5.out (by omega) (by omega)))
  have hz6 := hf6.aside.size
  have HV5 : Hid (∀ k, v5.ownBlock = some k → k < w3.heap.size ∨ w4.heap.size ≤ k) := fun k hk => by
    rcases HFI5.out.own k hk with h1 | h1
    · exact .inl (HV3.out k h1)
    · exact .inr h1
  have HS6 := Lib.hid (hf6.leaves HFI5.out.spl (by omega) (fun hc => by have := (HV4.out _ hc).1; omega) (fun hc => by have := HV5.out _ hc; omega) (fun k hk hc => by have := HV5.out _ hk; have := HV4.out _ hc; omega))
  have HX6 := Lib.hid (HFI5.out.runs.aside hf6.aside (fun k hk hc => by
      have h1 := (HFI5.out.runs.lt k hk).1
      rcases hc with hc | hc
      · omega
      · have := (HV4.out _ hc).2; omega) (fun k hk hc => by
      have h1 := (HFI5.out.runs.mem k hk).1
      rcases hc with hc | hc
      · omega
      · have := (HV4.out _ hc).2; omega))
  clear hf6 HF6 HB5 HT5
  have HR7 := Lib.hid (refRuns13 w6 pa ca a (HA.out.on HB6.out) hca (by omega))
  go_wp2_with fail
  refine HR7.out.mono ?_
  rintro e w7 ⟨q7, c7, bs7, rfl, -, hb7⟩
  have HB7 := Lib.hid (HB6.out.trans (hb7.mono (by omega)))
  have hz7 := hb7.size
  have HX7 := Lib.hid (HX6.out.on hb7)
  have HY7 := Lib.hid (HFI6.out.runs.on hb7)
  have HS7 := Lib.hid (HS6.out.on hb7)
  have HT7 := Lib.hid (HFI6.out.spl.on hb7)
  clear hb7 HR7 HB6 HX6 HS6 HFI5 HFI6 HV3 HV4 HV5
  rw [← Sp.of_append] at HS7 HT7
  go_wp2_with (first
    | (at_builtin
       refine wp_ontoL (B := w7.heap.size) (xs := []) (v := .slice none 0 0) (l := a) (has_nil _ _) (HA.out.on HB7.out) (by simp; omega) (Nat.le_refl _) rfl rfl rfl rfl rfl ?_
       intro y1 q1 k1 W1 HY1 hh1 ha1 _
       have HB8 := Lib.hid (ha1.below (B := w7.heap.size) (Nat.le_refl _) (fun k _ hk => by cases hk))
       have HH1 := Lib.hid hh1
       have hz8 := HB8.out.size
       have hy1 : y1.length ≤ a.length := by rw [HY1.out]; simp
       clear hh1 ha1)
    | (at_builtin
       refine wp_ontoL HH1.out (HB.out.on (HB7.out.trans (HB8.out.mono (by omega)))) (by omega) (by omega) rfl rfl rfl rfl rfl ?_
       intro y2 q2 k2 W2 HY2 hh2 ha2 _
       have HB9 := Lib.hid (HB8.out.trans (aside_low ha2 HH1.out (by omega)))
       have HH2 := Lib.hid hh2
       have hz9 := HB9.out.size
       clear hh2 ha2)
    | (at_builtin
       refine wp_ontoL (B := W2.heap.size) (xs := []) (v := .slice none 0 0) (l := a) (has_nil _ _) (HA.out.on (HB7.out.trans (HB9.out.mono (by omega)))) (by simp; omega) (Nat.le_refl _) rfl rfl rfl rfl rfl ?_
       intro y3 q3 k3 W3 HY3 hh3 ha3 _
       have HB10 := Lib.hid (ha3.below (B := W2.heap.size) (Nat.le_refl _) (fun k _ hk => by cases hk))
       have HH3 := Lib.hid hh3
       have hz10 := HB10.out.size
       have hy3 : y3.length ≤ a.length := by rw [HY3.out]; simp
       clear hh3 ha3)
    | (at_builtin
       refine wp_ontoL HH3.out (HC.out.on (HB7.out.trans ((HB9.out.mono (by omega)).trans (HB10.out.mono (by omega))))) (by omega) (by omega) rfl rfl rfl rfl rfl ?_
       intro y4 q4 k4 W4 HY4 hh4 ha4 _
       have HB11 := Lib.hid (HB10.out.trans (aside_low ha4 HH3.out (by omega)))
       have HH4 := Lib.hid hh4
       have hz11 := HB11.out.size
       clear hh4 ha4)
    | fail)
  have hone : y2 = a ++ b := by rw [HY2.out, HY1.out]; rfl
  have htwo : y4 = a ++ c := by rw [HY4.out, HY3.out]; rfl
  subst hone htwo
  have hbW : Below w7.heap.size w7 W4 := HB9.out.trans (HB11.out.mono (by omega))
  have HX := Lib.hid (HX7.out.on hbW)
  have HY := Lib.hid (HY7.out.on hbW)
  have HS := Lib.hid (HS7.out.on hbW)
  have HT := Lib.hid (HT7.out.on hbW)
  have HOne := Lib.hid (HH2.out.on HB11.out)
  have HTwo := Lib.hid HH4.out
  have HBW := Lib.hid (HB7.out.trans (hbW.mono (by omega)))
  clear HY1 HY2 HY3 HY4 HB7 HB8 HB9 HB10 HB11 HH1 HH2 HH3 HH4 HX7 HY7 HS7 HT7 hbW hy1 hy3
  have hl1 : (a ++ b).length ≤ 1048576 := by simp; omega
  have hl2 : (a ++ c).length ≤ 1048576 := by simp; omega
  have HRo : Hid (∀ W, Below W4.heap.size W4 W → Calls Try.prog 12 #[.slice q2 (a ++ b).length k2] W fun e w' => ∃ q cap bs, e = .returned (.slice q (Sp.of (a ++ b)).out.length cap) ∧ RunsO w' W.heap.size (.slice q (Sp.of (a ++ b)).out.length cap) bs (Sp.of (a ++ b)).out ∧ Below W.heap.size W w') := by
    intro W hW
    obtain ⟨p', c', he, hA, hcap⟩ := (HOne.out.on hW).at
    injection he with e1 _ e3
    subst e1 e3
    exact refRuns13 W q2 k2 (a ++ b) hA hcap (by omega)
  have HRt : Hid (∀ W, Below W4.heap.size W4 W → Calls Try.prog 12 #[.slice q4 (a ++ c).length k4] W fun e w' => ∃ q cap bs, e = .returned (.slice q (Sp.of (a ++ c)).out.length cap) ∧ RunsO w' W.heap.size (.slice q (Sp.of (a ++ c)).out.length cap) bs (Sp.of (a ++ c)).out ∧ Below W.heap.size W w') := by
    intro W hW
    obtain ⟨p', c', he, hA, hcap⟩ := (HTwo.out.on hW).at
    injection he with e1 _ e3
    subst e1 e3
    exact refRuns13 W q4 k4 (a ++ c) hA hcap (by omega)
  go_wp2_with fail
  refine (HRo.out _ (Below.refl _ _)).mono ?_
  rintro e V1 ⟨qv, cv, bsv, rfl, hrv, hbv⟩
  have HRv := Lib.hid hrv
  have HBv := Lib.hid hbv
  have hzv := hbv.size
  clear hrv hbv
  have hn : (Sp.of a).out.length ≤ (Sp.of (a ++ b)).out.length := by rw [Sp.of_append, Sp.tolds_out]; simp
  obtain ⟨pv, hpv⟩ : ∃ pv, (if cv = (Sp.of a).out.length then qv else Option.map (fun x => x.add ((Sp.of a).out.length * 2)) qv) = pv := ⟨_, rfl⟩
  have HE1 : Hid ((Sp.of (a ++ b)).out.drop (Sp.of a).out.length = (Sp.of a).tolds b) := by show _ = _; rw [Sp.of_append]; rfl
  have hE1 : ((Sp.of a).tolds b).length = (Sp.of (a ++ b)).out.length - (Sp.of a).out.length := by rw [← HE1.out, List.length_drop]
  have HSm := Lib.hid (same13 q5 pv c5 (cv - (Sp.of a).out.length) ((Sp.of a).tolds b) ((Sp.of a).tolds b) V1 ((HX.out.on HBv.out).read) (by rw [← HE1.out]; exact runs_cut HRv.out hpv) (by have := Sp.tolds_len (Sp.of a) b; omega))
  rw [show ((Sp.of a).tolds b == (Sp.of a).tolds b) = true from beq_self_eq_true _] at HSm
  have HSm2 : Hid (Calls Try.prog 11 #[.slice q5 ((Sp.of a).tolds b).length c5, .slice pv ((Sp.of (a ++ b)).out.length - (Sp.of a).out.length) (cv - (Sp.of a).out.length)] V1 fun e w' => e = .returned (.bool true) ∧ ∃ n, w' = V1.drewN n) := by
    have := HSm.out
    show Calls _ _ _ _ _
    rw [← hE1]
    exact this
  clear hE1 HSm
  go_wp2_with fail
  refine HSm2.out.mono ?_
  rintro e V2 ⟨rfl, n2, hw2⟩
  rw [hw2]
  clear hw2 V2 HSm2 hpv
  simp only [List.length_append] at HRt
  go_wp2_with fail
  refine (HRt.out _ (below_drewN HBv.out n2)).mono ?_
  rintro e V3 ⟨qt, ct, bst, rfl, hrt, hbt⟩
  have HRt3 := Lib.hid hrt
  have HB3 := Lib.hid (below_drewN HBv.out n2 |>.trans (hbt.mono (show W4.heap.size ≤ V1.heap.size from hzv)))
  clear hrt hbt
  have hn2 : (Sp.of a).out.length ≤ (Sp.of (a ++ c)).out.length := by rw [Sp.of_append, Sp.tolds_out]; simp
  obtain ⟨pt, hpt⟩ : ∃ pt, (if ct = (Sp.of a).out.length then qt else Option.map (fun x => x.add ((Sp.of a).out.length * 2)) qt) = pt := ⟨_, rfl⟩
  have HE2 : Hid ((Sp.of (a ++ c)).out.drop (Sp.of a).out.length = (Sp.of a).tolds c) := by show _ = _; rw [Sp.of_append]; rfl
  have hE2 : ((Sp.of a).tolds c).length = (Sp.of (a ++ c)).out.length - (Sp.of a).out.length := by rw [← HE2.out, List.length_drop]
  have HSn := Lib.hid (same13 q6 pt c6 (ct - (Sp.of a).out.length) ((Sp.of a).tolds c) ((Sp.of a).tolds c) V3 ((HY.out.on HB3.out).read) (by rw [← HE2.out]; exact runs_cut HRt3.out hpt) (by have := Sp.tolds_len (Sp.of a) c; omega))
  rw [show ((Sp.of a).tolds c == (Sp.of a).tolds c) = true from beq_self_eq_true _] at HSn
  have HSn2 : Hid (Calls Try.prog 11 #[.slice q6 ((Sp.of a).tolds c).length c6, .slice pt ((Sp.of (a ++ c)).out.length - (Sp.of a).out.length) (ct - (Sp.of a).out.length)] V3 fun e w' => e = .returned (.bool true) ∧ ∃ n, w' = V3.drewN n) := by
    have := HSn.out
    show Calls _ _ _ _ _
    rw [← hE2]
    exact this
  clear hE2 HSn
  go_wp2_with fail
  refine HSn2.out.mono ?_
  rintro e V4 ⟨rfl, n4, hw4⟩
  have HB4 : Hid (Below W4.heap.size W4 V4) := by rw [hw4]; exact below_drewN HB3.out n4
  clear hw4 HSn2 hpt HB3
  have HS5 := Lib.hid (heldK V4 _ g v5 _ (HS.out.on HB4.out))
  have HT5 := Lib.hid (heldK V4 _ g' v6 _ (HT.out.on HB4.out))
  have HS6 := Lib.hid (atK V4 _ g v5 _ (HS.out.on HB4.out))
  have HT6 := Lib.hid (atK V4 _ g' v6 _ (HT.out.on HB4.out))
  rw [Sp.of_n] at HS6 HT6
  have HO5 : Hid (Calls Try.prog 18 #[.slice q2 (a ++ b).length k2] V4 fun e w' => e = .returned (.int .i64 (Sp.of (a ++ b)).held.length) ∧ w' = V4) := by
    obtain ⟨p', c', he, hA, hcap⟩ := (HOne.out.on HB4.out).at
    injection he with e1 _ e3
    subst e1 e3
    exact refHeld13 V4 q2 k2 (a ++ b) hA (by omega)
  have HO6 : Hid (Calls Try.prog 18 #[.slice q4 (a ++ c).length k4] V4 fun e w' => e = .returned (.int .i64 (Sp.of (a ++ c)).held.length) ∧ w' = V4) := by
    obtain ⟨p', c', he, hA, hcap⟩ := (HTwo.out.on HB4.out).at
    injection he with e1 _ e3
    subst e1 e3
    exact refHeld13 V4 q4 k4 (a ++ c) hA (by omega)
  rw [List.length_append] at HS6 HT6
  simp only [List.length_append] at HO5 HO6
  go_wp2_with fail
  refine HS5.out.mono ?_
  rintro e V5 ⟨rfl, hw⟩
  rw [hw]
  clear hw V5
  go_wp2_with fail
  refine HO5.out.mono ?_
  rintro e V5 ⟨rfl, hw⟩
  rw [hw]
  clear hw V5
  go_wp2_with fail
  refine HT5.out.mono ?_
  rintro e V5 ⟨rfl, hw⟩
  rw [hw]
  clear hw V5
  go_wp2_with fail
  refine HO6.out.mono ?_
  rintro e V5 ⟨rfl, hw⟩
  rw [hw]
  clear hw V5
  go_wp2_with fail
  refine HS6.out.mono ?_
  rintro e V5 ⟨rfl, hw⟩
  rw [hw]
  clear hw V5
  go_wp2_with fail
  refine HT6.out.mono ?_
  rintro e V5 ⟨rfl, hw⟩
  rw [hw]
  clear hw V5
  go_wp2
  go_ret
  exact ⟨rfl, HBW.out.trans (HB4.out.mono (by omega))⟩
end Go.Proofs.Ytpgilfglfcnihaa
