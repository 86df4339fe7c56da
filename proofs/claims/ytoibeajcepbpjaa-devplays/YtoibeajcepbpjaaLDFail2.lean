/- DevFails, walked (written by wip/mk-devfail.py). -/
import Derived.Test.YtoibeajcepbpjaaLDFail
namespace Go.Proofs.Ytoibeajcepbpjaa
open Go.RowKit

section
variable {I : Nat → World → Prop} {Rep : DRep}

theorem fit_of {b : List UInt8} {most safe after keep told done : Nat} {down bound : Bool} (h1 : b.length ≤ 2097152) (h2 : safe ≤ b.length) (h3 : most ≤ 1048576) (h4 : after < 9223372036854775808) (h5 : keep < 9223372036854775808) (h6 : done < 4611686018425290752) (h7 : told ≤ 9223372036852678655) : Dv.Fit ⟨b, most, safe, down, bound, after, keep, told, done⟩ := ⟨h1, h2, h3, h4, h5, h6, h7⟩

set_option maxRecDepth 100000 in
set_option maxHeartbeats 400000 in
theorem fails_neg1 (K : DevOk I Rep) (p q : Option Addr) (c d : Nat) (F T : List UInt8) (hF : F.length ≤ 1000) (hT : T.length ≤ 1000) (hFc : F.length ≤ c) (hTd : T.length ≤ d) (x y : Int) (hxy : x < 0) (hx1 : -9223372036854775808 ≤ x) (hx2 : x ≤ 9223372036854775807) (hy1 : -9223372036854775808 ≤ y) (hy2 : y ≤ 9223372036854775807) (w : World) (hA : At w p F) (hB : At w q T) (hp : F ≠ [] → ∀ b o, p = some ⟨b, o, none⟩ → b < w.heap.size) (hq : T ≠ [] → ∀ b o, q = some ⟨b, o, none⟩ → b < w.heap.size) (hI : I w.heap.size w) :
    Calls Try.prog 6 #[.agg #[.slice p F.length c, .slice q T.length d, .int .i64 x, .int .i64 y]] w fun e w' => e = .returned (.bool true) ∧ Below w.heap.size w w' := by
  have B0 : Below w.heap.size w (w.alloc (.cells #[.slice p F.length c, .slice q T.length d, .int .i64 x, .int .i64 y] 49)) := (Below.refl _ _).alloc (Nat.le_refl _) _
  have HL := Lib.hid (devLive_ok K (w.alloc (.cells #[.slice p F.length c, .slice q T.length d, .int .i64 x, .int .i64 y] 49)) (K.more (K.on hI B0) B0.size))
  have HB0 := Lib.hid B0
  have HK := Lib.hid K
  have HI := Lib.hid hI
  have HA := Lib.hid hA
  have HB := Lib.hid hB
  have HP := Lib.hid hp
  have HQ := Lib.hid hq
  have HFc := Lib.hid hFc
  have HTd := Lib.hid hTd
  have hb1 : decide ((1000 : Int) < (F.length : Int)) = false := decide_eq_false (by omega)
  have hb2 : decide ((1000 : Int) < (T.length : Int)) = false := decide_eq_false (by omega)
  have hbT : ¬ (1000 : Int) < (T.length : Int) := by omega
  have E1 := Lib.hid (fails_1 F hF)
  have E2 := Lib.hid (fails_2 F)
  have E3 := Lib.hid (fails_3n F x y (.inl hxy))
  have E4 := Lib.hid (fails_4n F T hF hT)
  obtain ⟨V, hV⟩ : ∃ V, V = T.take (T.length) := ⟨_, rfl⟩
  have hVl : V.length = T.length := by rw [hV, List.length_take]; omega
  have g1 : decide (0 ≤ x) = false := decide_eq_false (by omega)
  have HV := Lib.hid hV
  have HVl := Lib.hid hVl
  have HEq : Hid (((F ++ T : List UInt8) == F ++ V) = true) := by show _ = _; rw [beq_iff_eq, hV, List.take_length]
  clear hV hVl
  clear B0 K hI hA hB hp hq hFc hTd
  go_enter Try.func6, Try.ntmps6
  go_wp2_with fail
  refine HL.out.mono ?_
  rintro e w1 ⟨rfl, hb⟩
  have B1 := Lib.hid (HB0.out.trans (hb.mono HB0.out.size))
  clear hb HL HB0
  go_wp2_with fail
  refine (HK.out.newOk 2000 w.heap.size w1 (by decide) (HK.out.on HI.out B1.out) B1.out.size).mono ?_
  rintro e w2 ⟨a, F1, rfl, hR, _, hb⟩
  have O1 : Hid (One Rep w.heap.size a w w2 (Dv.new 2000) F1) := ⟨hR, B1.out.trans (hb.mono B1.out.size), Nat.le_trans B1.out.size hb.size⟩
  clear hR hb B1
  go_wp2_with fail
  have H1 := Lib.hid (HK.out.write p c F (by omega) HFc.out (HA.out.on O1.out.world) (fun hne b o he hf => by have := HP.out hne b o he; have := (HK.out.lies O1.out.rep b hf).1; omega) O1.out.rep ⟨by decide, by decide, by decide, by decide, by decide, by decide, by decide⟩ (HK.out.on HI.out O1.out.world) O1.out.room)
  rw [E1.out] at H1
  refine H1.out.mono ?_
  rintro e w3 ⟨rfl, F3, hR, hA, _⟩
  have O3 := Lib.hid (O1.out.step HK.out hR hA)
  clear hR hA H1 O1
  go_wp2_with fail
  have H2 := Lib.hid (HK.out.sync O3.out.rep (fit_of (by omega) (by omega) (by omega) (by omega) (by omega) (by omega) (by omega)) (HK.out.on HI.out O3.out.world) O3.out.room)
  rw [E2.out] at H2
  refine H2.out.mono ?_
  rintro e w4 ⟨rfl, F4, hR, hA, _⟩
  have O4 := Lib.hid (O3.out.step HK.out hR hA)
  clear hR hA H2 O3
  go_wp2_with fail
  have H3 := Lib.hid (HK.out.fail x y (by omega) (by omega) (by omega) (by omega) O4.out.rep (fit_of (by omega) (by omega) (by omega) (by omega) (by omega) (by omega) (by omega)) (HK.out.on HI.out O4.out.world) O4.out.room)
  rw [E3.out] at H3
  refine H3.out.mono ?_
  rintro e w5 ⟨rfl, F5, hR, hA, _⟩
  have O5 := Lib.hid (O4.out.step HK.out hR hA)
  clear hR hA H3 O4
  go_wp2_with fail
  have H4 := Lib.hid (HK.out.write q d T (by omega) HTd.out (HB.out.on O5.out.world) (fun hne b o he hf => by have := HQ.out hne b o he; have := (HK.out.lies O5.out.rep b hf).1; omega) O5.out.rep (fit_of (by omega) (by omega) (by omega) (by omega) (by omega) (by omega) (by omega)) (HK.out.on HI.out O5.out.world) O5.out.room)
  rw [E4.out] at H4
  refine H4.out.mono ?_
  rintro e w6 ⟨rfl, F6, hR, hA, _⟩
  have O6 := Lib.hid (O5.out.step HK.out hR hA)
  clear hR hA H4 O5
  have hfit : Dv.Fit ⟨F ++ T, 2000, F.length, false, false, 0, 0, 0, F.length + T.length⟩ := fit_of (by rw [List.length_append]; have := (Nat.le_refl T.length); omega) (by simp) (by omega) (by omega) (by omega) (by omega) (by omega)
  have HFit := Lib.hid hfit
  clear hfit E1 E2 E3 E4
  go_wp2_with fail
  have H5 := Lib.hid (HK.out.up O6.out.rep HFit.out (HK.out.on HI.out O6.out.world) O6.out.room)
  refine H5.out.mono ?_
  rintro e w7 ⟨rfl, hb⟩
  have O7 := Lib.hid (O6.out.on HK.out hb)
  clear hb H5 O6
  go_wp2_with fail
  have H6 := Lib.hid (HK.out.written O7.out.rep HFit.out (HK.out.on HI.out O7.out.world) O7.out.room)
  refine H6.out.mono ?_
  rintro e w8 ⟨rfl, hb⟩
  have O8 := Lib.hid (O7.out.on HK.out hb)
  clear hb H6 O7
  go_wp2_with fail
  have AF := Lib.hid (HA.out.on O8.out.world)
  have AV : Hid (At w8 q V) := by rw [HV.out]; exact (HB.out.on O8.out.world).take _
  have hlt : T.length ≤ d := by have := HTd.out; omega
  have hsumV : 0 + F.length + V.length ≤ 200000000000000 := by have := HVl.out; omega
  have B8n : Hid (Below w8.heap.size w8 (w8.alloc (.cells #[] 5))) := (Below.refl _ _).alloc (Nat.le_refl _) _
  have M8n := Lib.hid (mine_new w8)
  have A8n := Lib.hid (AF.out.on B8n.out)
  have z8n : w8.heap.size ≤ (w8.alloc (.cells #[] 5)).heap.size := B8n.out.size
  have L8n : F.length ≤ 200000000000000 := by omega
  go_region_law (first
    | (refine step_onto0 (B := w8.heap.size) (g := w8.heap.size) (l := F) (p := p) (c := c) (by exact M8n.out) (by exact A8n.out) L8n (by exact z8n) (.tmp 116) (.tmp 117) (by rfl) (by rfl) (by rfl) (by rfl) (by rfl) ?_; intro g9 c9 W9 hm9 hb9; have HM9 := Lib.hid hm9; have HB9 := Lib.hid (B8n.out.trans (below_via hb9 (by rfl) (by rfl) (by rfl) (by rfl))); clear hm9 hb9)
    | (refine step_onto (B := w8.heap.size) (g := g9) (cap := c9) (xs := F) (l := V) (p := q) (c := d) (by exact HM9.out) (by exact AV.out.on HB9.out) (by have := hsumV; omega) (by exact HB9.out.size) (.tmp 118) (.tmp 121) (by rfl) (by rfl) (by rfl) (by rfl) (by rw [HVl.out]; rfl) ?_; intro g10 c10 W10 hm10 hb10; have HM10 := Lib.hid hm10; have HB10 := Lib.hid (HB9.out.trans (below_via hb10 (by rfl) (by rfl) (by rfl) (by rfl))); clear hm10 hb10))
  all_goals
    have O10 := Lib.hid (O8.out.on HK.out HB10.out)
    go_wp2_with fail
    have H7 := Lib.hid (HK.out.all O10.out.rep HFit.out (HK.out.on HI.out O10.out.world) O10.out.room)
    refine H7.out.mono ?_
    rintro e w11 ⟨qA, cA, rfl, _, hTo, hb⟩
    have O11 := Lib.hid (O10.out.on HK.out hb)
    have hS := same_any qA (some ⟨g10, 0, none⟩) cA c10 (F ++ T) (F ++ V) (by rw [List.length_append]; have := (Nat.le_refl T.length); omega) w11 hTo.1 (HM10.out.at.on hb)
    rw [HEq.out] at hS
    simp only [List.length_append] at hS
    have HS := Lib.hid hS
    clear hS hTo hb H7 O10
    go_wp2_with fail
    refine HS.out.mono ?_
    rintro e w' ⟨rfl, n, hw⟩
    rw [hw]
    clear hw w' HS
    have O12 := Lib.hid (O11.out.on HK.out (below_drewN (Below.refl _ w11) n))
    generalize w11.drewN n = w12 at O12 ⊢
    go_wp2_with fail
    have H8 := Lib.hid (HK.out.synced O12.out.rep HFit.out (HK.out.on HI.out O12.out.world) O12.out.room)
    refine H8.out.mono ?_
    rintro e w13 ⟨rfl, hb⟩
    have O13 := Lib.hid (O12.out.on HK.out hb)
    clear hb H8 O12 O11
    go_wp2
    go_ret
    exact ⟨rfl, O13.out.world⟩

set_option maxRecDepth 100000 in
set_option maxHeartbeats 400000 in
theorem fails_neg2 (K : DevOk I Rep) (p q : Option Addr) (c d : Nat) (F T : List UInt8) (hF : F.length ≤ 1000) (hT : T.length ≤ 1000) (hFc : F.length ≤ c) (hTd : T.length ≤ d) (x y : Int) (hx0 : 0 ≤ x) (hxy : y < 0) (hx1 : -9223372036854775808 ≤ x) (hx2 : x ≤ 9223372036854775807) (hy1 : -9223372036854775808 ≤ y) (hy2 : y ≤ 9223372036854775807) (w : World) (hA : At w p F) (hB : At w q T) (hp : F ≠ [] → ∀ b o, p = some ⟨b, o, none⟩ → b < w.heap.size) (hq : T ≠ [] → ∀ b o, q = some ⟨b, o, none⟩ → b < w.heap.size) (hI : I w.heap.size w) :
    Calls Try.prog 6 #[.agg #[.slice p F.length c, .slice q T.length d, .int .i64 x, .int .i64 y]] w fun e w' => e = .returned (.bool true) ∧ Below w.heap.size w w' := by
  have B0 : Below w.heap.size w (w.alloc (.cells #[.slice p F.length c, .slice q T.length d, .int .i64 x, .int .i64 y] 49)) := (Below.refl _ _).alloc (Nat.le_refl _) _
  have HL := Lib.hid (devLive_ok K (w.alloc (.cells #[.slice p F.length c, .slice q T.length d, .int .i64 x, .int .i64 y] 49)) (K.more (K.on hI B0) B0.size))
  have HB0 := Lib.hid B0
  have HK := Lib.hid K
  have HI := Lib.hid hI
  have HA := Lib.hid hA
  have HB := Lib.hid hB
  have HP := Lib.hid hp
  have HQ := Lib.hid hq
  have HFc := Lib.hid hFc
  have HTd := Lib.hid hTd
  have hb1 : decide ((1000 : Int) < (F.length : Int)) = false := decide_eq_false (by omega)
  have hb2 : decide ((1000 : Int) < (T.length : Int)) = false := decide_eq_false (by omega)
  have hbT : ¬ (1000 : Int) < (T.length : Int) := by omega
  have E1 := Lib.hid (fails_1 F hF)
  have E2 := Lib.hid (fails_2 F)
  have E3 := Lib.hid (fails_3n F x y (.inr hxy))
  have E4 := Lib.hid (fails_4n F T hF hT)
  obtain ⟨V, hV⟩ : ∃ V, V = T.take (T.length) := ⟨_, rfl⟩
  have hVl : V.length = T.length := by rw [hV, List.length_take]; omega
  have g1 : decide (0 ≤ x) = true := decide_eq_true hx0
  have g2 : decide (0 ≤ y) = false := decide_eq_false (by omega)
  have HV := Lib.hid hV
  have HVl := Lib.hid hVl
  have HEq : Hid (((F ++ T : List UInt8) == F ++ V) = true) := by show _ = _; rw [beq_iff_eq, hV, List.take_length]
  clear hV hVl
  clear B0 K hI hA hB hp hq hFc hTd
  go_enter Try.func6, Try.ntmps6
  go_wp2_with fail
  refine HL.out.mono ?_
  rintro e w1 ⟨rfl, hb⟩
  have B1 := Lib.hid (HB0.out.trans (hb.mono HB0.out.size))
  clear hb HL HB0
  go_wp2_with fail
  refine (HK.out.newOk 2000 w.heap.size w1 (by decide) (HK.out.on HI.out B1.out) B1.out.size).mono ?_
  rintro e w2 ⟨a, F1, rfl, hR, _, hb⟩
  have O1 : Hid (One Rep w.heap.size a w w2 (Dv.new 2000) F1) := ⟨hR, B1.out.trans (hb.mono B1.out.size), Nat.le_trans B1.out.size hb.size⟩
  clear hR hb B1
  go_wp2_with fail
  have H1 := Lib.hid (HK.out.write p c F (by omega) HFc.out (HA.out.on O1.out.world) (fun hne b o he hf => by have := HP.out hne b o he; have := (HK.out.lies O1.out.rep b hf).1; omega) O1.out.rep ⟨by decide, by decide, by decide, by decide, by decide, by decide, by decide⟩ (HK.out.on HI.out O1.out.world) O1.out.room)
  rw [E1.out] at H1
  refine H1.out.mono ?_
  rintro e w3 ⟨rfl, F3, hR, hA, _⟩
  have O3 := Lib.hid (O1.out.step HK.out hR hA)
  clear hR hA H1 O1
  go_wp2_with fail
  have H2 := Lib.hid (HK.out.sync O3.out.rep (fit_of (by omega) (by omega) (by omega) (by omega) (by omega) (by omega) (by omega)) (HK.out.on HI.out O3.out.world) O3.out.room)
  rw [E2.out] at H2
  refine H2.out.mono ?_
  rintro e w4 ⟨rfl, F4, hR, hA, _⟩
  have O4 := Lib.hid (O3.out.step HK.out hR hA)
  clear hR hA H2 O3
  go_wp2_with fail
  have H3 := Lib.hid (HK.out.fail x y (by omega) (by omega) (by omega) (by omega) O4.out.rep (fit_of (by omega) (by omega) (by omega) (by omega) (by omega) (by omega) (by omega)) (HK.out.on HI.out O4.out.world) O4.out.room)
  rw [E3.out] at H3
  refine H3.out.mono ?_
  rintro e w5 ⟨rfl, F5, hR, hA, _⟩
  have O5 := Lib.hid (O4.out.step HK.out hR hA)
  clear hR hA H3 O4
  go_wp2_with fail
  have H4 := Lib.hid (HK.out.write q d T (by omega) HTd.out (HB.out.on O5.out.world) (fun hne b o he hf => by have := HQ.out hne b o he; have := (HK.out.lies O5.out.rep b hf).1; omega) O5.out.rep (fit_of (by omega) (by omega) (by omega) (by omega) (by omega) (by omega) (by omega)) (HK.out.on HI.out O5.out.world) O5.out.room)
  rw [E4.out] at H4
  refine H4.out.mono ?_
  rintro e w6 ⟨rfl, F6, hR, hA, _⟩
  have O6 := Lib.hid (O5.out.step HK.out hR hA)
  clear hR hA H4 O5
  have hfit : Dv.Fit ⟨F ++ T, 2000, F.length, false, false, 0, 0, 0, F.length + T.length⟩ := fit_of (by rw [List.length_append]; have := (Nat.le_refl T.length); omega) (by simp) (by omega) (by omega) (by omega) (by omega) (by omega)
  have HFit := Lib.hid hfit
  clear hfit E1 E2 E3 E4
  go_wp2_with fail
  have H5 := Lib.hid (HK.out.up O6.out.rep HFit.out (HK.out.on HI.out O6.out.world) O6.out.room)
  refine H5.out.mono ?_
  rintro e w7 ⟨rfl, hb⟩
  have O7 := Lib.hid (O6.out.on HK.out hb)
  clear hb H5 O6
  go_wp2_with fail
  have H6 := Lib.hid (HK.out.written O7.out.rep HFit.out (HK.out.on HI.out O7.out.world) O7.out.room)
  refine H6.out.mono ?_
  rintro e w8 ⟨rfl, hb⟩
  have O8 := Lib.hid (O7.out.on HK.out hb)
  clear hb H6 O7
  go_wp2_with fail
  have AF := Lib.hid (HA.out.on O8.out.world)
  have AV : Hid (At w8 q V) := by rw [HV.out]; exact (HB.out.on O8.out.world).take _
  have hlt : T.length ≤ d := by have := HTd.out; omega
  have hsumV : 0 + F.length + V.length ≤ 200000000000000 := by have := HVl.out; omega
  have B8n : Hid (Below w8.heap.size w8 (w8.alloc (.cells #[] 5))) := (Below.refl _ _).alloc (Nat.le_refl _) _
  have M8n := Lib.hid (mine_new w8)
  have A8n := Lib.hid (AF.out.on B8n.out)
  have z8n : w8.heap.size ≤ (w8.alloc (.cells #[] 5)).heap.size := B8n.out.size
  have L8n : F.length ≤ 200000000000000 := by omega
  go_region_law (first
    | (refine step_onto0 (B := w8.heap.size) (g := w8.heap.size) (l := F) (p := p) (c := c) (by exact M8n.out) (by exact A8n.out) L8n (by exact z8n) (.tmp 116) (.tmp 117) (by rfl) (by rfl) (by rfl) (by rfl) (by rfl) ?_; intro g9 c9 W9 hm9 hb9; have HM9 := Lib.hid hm9; have HB9 := Lib.hid (B8n.out.trans (below_via hb9 (by rfl) (by rfl) (by rfl) (by rfl))); clear hm9 hb9)
    | (refine step_onto (B := w8.heap.size) (g := g9) (cap := c9) (xs := F) (l := V) (p := q) (c := d) (by exact HM9.out) (by exact AV.out.on HB9.out) (by have := hsumV; omega) (by exact HB9.out.size) (.tmp 118) (.tmp 121) (by rfl) (by rfl) (by rfl) (by rfl) (by rw [HVl.out]; rfl) ?_; intro g10 c10 W10 hm10 hb10; have HM10 := Lib.hid hm10; have HB10 := Lib.hid (HB9.out.trans (below_via hb10 (by rfl) (by rfl) (by rfl) (by rfl))); clear hm10 hb10))
  all_goals
    have O10 := Lib.hid (O8.out.on HK.out HB10.out)
    go_wp2_with fail
    have H7 := Lib.hid (HK.out.all O10.out.rep HFit.out (HK.out.on HI.out O10.out.world) O10.out.room)
    refine H7.out.mono ?_
    rintro e w11 ⟨qA, cA, rfl, _, hTo, hb⟩
    have O11 := Lib.hid (O10.out.on HK.out hb)
    have hS := same_any qA (some ⟨g10, 0, none⟩) cA c10 (F ++ T) (F ++ V) (by rw [List.length_append]; have := (Nat.le_refl T.length); omega) w11 hTo.1 (HM10.out.at.on hb)
    rw [HEq.out] at hS
    simp only [List.length_append] at hS
    have HS := Lib.hid hS
    clear hS hTo hb H7 O10
    go_wp2_with fail
    refine HS.out.mono ?_
    rintro e w' ⟨rfl, n, hw⟩
    rw [hw]
    clear hw w' HS
    have O12 := Lib.hid (O11.out.on HK.out (below_drewN (Below.refl _ w11) n))
    generalize w11.drewN n = w12 at O12 ⊢
    go_wp2_with fail
    have H8 := Lib.hid (HK.out.synced O12.out.rep HFit.out (HK.out.on HI.out O12.out.world) O12.out.room)
    refine H8.out.mono ?_
    rintro e w13 ⟨rfl, hb⟩
    have O13 := Lib.hid (O12.out.on HK.out hb)
    clear hb H8 O12 O11
    go_wp2
    go_ret
    exact ⟨rfl, O13.out.world⟩

set_option maxRecDepth 100000 in
set_option maxHeartbeats 400000 in
theorem fails_up (K : DevOk I Rep) (p q : Option Addr) (c d : Nat) (F T : List UInt8) (hF : F.length ≤ 1000) (hT : T.length ≤ 1000) (hFc : F.length ≤ c) (hTd : T.length ≤ d) (x y : Nat) (hx2 : x < 9223372036854775808) (hy2 : y < 9223372036854775808) (hxT : ¬ x < T.length) (w : World) (hA : At w p F) (hB : At w q T) (hp : F ≠ [] → ∀ b o, p = some ⟨b, o, none⟩ → b < w.heap.size) (hq : T ≠ [] → ∀ b o, q = some ⟨b, o, none⟩ → b < w.heap.size) (hI : I w.heap.size w) :
    Calls Try.prog 6 #[.agg #[.slice p F.length c, .slice q T.length d, .int .i64 (x : Int), .int .i64 (y : Int)]] w fun e w' => e = .returned (.bool true) ∧ Below w.heap.size w w' := by
  have B0 : Below w.heap.size w (w.alloc (.cells #[.slice p F.length c, .slice q T.length d, .int .i64 (x : Int), .int .i64 (y : Int)] 49)) := (Below.refl _ _).alloc (Nat.le_refl _) _
  have HL := Lib.hid (devLive_ok K (w.alloc (.cells #[.slice p F.length c, .slice q T.length d, .int .i64 (x : Int), .int .i64 (y : Int)] 49)) (K.more (K.on hI B0) B0.size))
  have HB0 := Lib.hid B0
  have HK := Lib.hid K
  have HI := Lib.hid hI
  have HA := Lib.hid hA
  have HB := Lib.hid hB
  have HP := Lib.hid hp
  have HQ := Lib.hid hq
  have HFc := Lib.hid hFc
  have HTd := Lib.hid hTd
  have hb1 : decide ((1000 : Int) < (F.length : Int)) = false := decide_eq_false (by omega)
  have hb2 : decide ((1000 : Int) < (T.length : Int)) = false := decide_eq_false (by omega)
  have hbT : ¬ (1000 : Int) < (T.length : Int) := by omega
  have E1 := Lib.hid (fails_1 F hF)
  have E2 := Lib.hid (fails_2 F)
  have E3 := Lib.hid (fails_3 F x y)
  have E4 := Lib.hid (fails_4 F T hF hT x y hxT)
  obtain ⟨V, hV⟩ : ∃ V, V = T.take (T.length) := ⟨_, rfl⟩
  have hVl : V.length = T.length := by rw [hV, List.length_take]; omega
  have g1 : decide (0 ≤ (x : Int)) = true := decide_eq_true (by omega)
  have g2 : decide (0 ≤ (y : Int)) = true := decide_eq_true (by omega)
  have g3 : decide (x < T.length) = false := decide_eq_false hxT
  have HV := Lib.hid hV
  have HVl := Lib.hid hVl
  have HEq : Hid (((F ++ T : List UInt8) == F ++ V) = true) := by show _ = _; rw [beq_iff_eq, hV, List.take_length]
  clear hV hVl
  clear B0 K hI hA hB hp hq hFc hTd
  go_enter Try.func6, Try.ntmps6
  go_wp2_with fail
  refine HL.out.mono ?_
  rintro e w1 ⟨rfl, hb⟩
  have B1 := Lib.hid (HB0.out.trans (hb.mono HB0.out.size))
  clear hb HL HB0
  go_wp2_with fail
  refine (HK.out.newOk 2000 w.heap.size w1 (by decide) (HK.out.on HI.out B1.out) B1.out.size).mono ?_
  rintro e w2 ⟨a, F1, rfl, hR, _, hb⟩
  have O1 : Hid (One Rep w.heap.size a w w2 (Dv.new 2000) F1) := ⟨hR, B1.out.trans (hb.mono B1.out.size), Nat.le_trans B1.out.size hb.size⟩
  clear hR hb B1
  go_wp2_with fail
  have H1 := Lib.hid (HK.out.write p c F (by omega) HFc.out (HA.out.on O1.out.world) (fun hne b o he hf => by have := HP.out hne b o he; have := (HK.out.lies O1.out.rep b hf).1; omega) O1.out.rep ⟨by decide, by decide, by decide, by decide, by decide, by decide, by decide⟩ (HK.out.on HI.out O1.out.world) O1.out.room)
  rw [E1.out] at H1
  refine H1.out.mono ?_
  rintro e w3 ⟨rfl, F3, hR, hA, _⟩
  have O3 := Lib.hid (O1.out.step HK.out hR hA)
  clear hR hA H1 O1
  go_wp2_with fail
  have H2 := Lib.hid (HK.out.sync O3.out.rep (fit_of (by omega) (by omega) (by omega) (by omega) (by omega) (by omega) (by omega)) (HK.out.on HI.out O3.out.world) O3.out.room)
  rw [E2.out] at H2
  refine H2.out.mono ?_
  rintro e w4 ⟨rfl, F4, hR, hA, _⟩
  have O4 := Lib.hid (O3.out.step HK.out hR hA)
  clear hR hA H2 O3
  go_wp2_with fail
  have H3 := Lib.hid (HK.out.fail (x : Int) (y : Int) (by omega) (by omega) (by omega) (by omega) O4.out.rep (fit_of (by omega) (by omega) (by omega) (by omega) (by omega) (by omega) (by omega)) (HK.out.on HI.out O4.out.world) O4.out.room)
  rw [E3.out] at H3
  refine H3.out.mono ?_
  rintro e w5 ⟨rfl, F5, hR, hA, _⟩
  have O5 := Lib.hid (O4.out.step HK.out hR hA)
  clear hR hA H3 O4
  go_wp2_with fail
  have H4 := Lib.hid (HK.out.write q d T (by omega) HTd.out (HB.out.on O5.out.world) (fun hne b o he hf => by have := HQ.out hne b o he; have := (HK.out.lies O5.out.rep b hf).1; omega) O5.out.rep (fit_of (by omega) (by omega) (by omega) (by omega) (by omega) (by omega) (by omega)) (HK.out.on HI.out O5.out.world) O5.out.room)
  rw [E4.out] at H4
  refine H4.out.mono ?_
  rintro e w6 ⟨rfl, F6, hR, hA, _⟩
  have O6 := Lib.hid (O5.out.step HK.out hR hA)
  clear hR hA H4 O5
  have hfit : Dv.Fit ⟨F ++ T, 2000, F.length, false, true, x - T.length, y, 0, F.length + T.length⟩ := fit_of (by rw [List.length_append]; have := (Nat.le_refl T.length); omega) (by simp) (by omega) (by omega) (by omega) (by omega) (by omega)
  have HFit := Lib.hid hfit
  clear hfit E1 E2 E3 E4
  go_wp2_with fail
  have H5 := Lib.hid (HK.out.up O6.out.rep HFit.out (HK.out.on HI.out O6.out.world) O6.out.room)
  refine H5.out.mono ?_
  rintro e w7 ⟨rfl, hb⟩
  have O7 := Lib.hid (O6.out.on HK.out hb)
  clear hb H5 O6
  go_wp2_with fail
  have H6 := Lib.hid (HK.out.written O7.out.rep HFit.out (HK.out.on HI.out O7.out.world) O7.out.room)
  refine H6.out.mono ?_
  rintro e w8 ⟨rfl, hb⟩
  have O8 := Lib.hid (O7.out.on HK.out hb)
  clear hb H6 O7
  go_wp2_with fail
  have AF := Lib.hid (HA.out.on O8.out.world)
  have AV : Hid (At w8 q V) := by rw [HV.out]; exact (HB.out.on O8.out.world).take _
  have hlt : T.length ≤ d := by have := HTd.out; omega
  have hsumV : 0 + F.length + V.length ≤ 200000000000000 := by have := HVl.out; omega
  have B8n : Hid (Below w8.heap.size w8 (w8.alloc (.cells #[] 5))) := (Below.refl _ _).alloc (Nat.le_refl _) _
  have M8n := Lib.hid (mine_new w8)
  have A8n := Lib.hid (AF.out.on B8n.out)
  have z8n : w8.heap.size ≤ (w8.alloc (.cells #[] 5)).heap.size := B8n.out.size
  have L8n : F.length ≤ 200000000000000 := by omega
  go_region_law (first
    | (refine step_onto0 (B := w8.heap.size) (g := w8.heap.size) (l := F) (p := p) (c := c) (by exact M8n.out) (by exact A8n.out) L8n (by exact z8n) (.tmp 116) (.tmp 117) (by rfl) (by rfl) (by rfl) (by rfl) (by rfl) ?_; intro g9 c9 W9 hm9 hb9; have HM9 := Lib.hid hm9; have HB9 := Lib.hid (B8n.out.trans (below_via hb9 (by rfl) (by rfl) (by rfl) (by rfl))); clear hm9 hb9)
    | (refine step_onto (B := w8.heap.size) (g := g9) (cap := c9) (xs := F) (l := V) (p := q) (c := d) (by exact HM9.out) (by exact AV.out.on HB9.out) (by have := hsumV; omega) (by exact HB9.out.size) (.tmp 118) (.tmp 121) (by rfl) (by rfl) (by rfl) (by rfl) (by rw [HVl.out]; rfl) ?_; intro g10 c10 W10 hm10 hb10; have HM10 := Lib.hid hm10; have HB10 := Lib.hid (HB9.out.trans (below_via hb10 (by rfl) (by rfl) (by rfl) (by rfl))); clear hm10 hb10))
  all_goals
    have O10 := Lib.hid (O8.out.on HK.out HB10.out)
    go_wp2_with fail
    have H7 := Lib.hid (HK.out.all O10.out.rep HFit.out (HK.out.on HI.out O10.out.world) O10.out.room)
    refine H7.out.mono ?_
    rintro e w11 ⟨qA, cA, rfl, _, hTo, hb⟩
    have O11 := Lib.hid (O10.out.on HK.out hb)
    have hS := same_any qA (some ⟨g10, 0, none⟩) cA c10 (F ++ T) (F ++ V) (by rw [List.length_append]; have := (Nat.le_refl T.length); omega) w11 hTo.1 (HM10.out.at.on hb)
    rw [HEq.out] at hS
    simp only [List.length_append] at hS
    have HS := Lib.hid hS
    clear hS hTo hb H7 O10
    go_wp2_with fail
    refine HS.out.mono ?_
    rintro e w' ⟨rfl, n, hw⟩
    rw [hw]
    clear hw w' HS
    have O12 := Lib.hid (O11.out.on HK.out (below_drewN (Below.refl _ w11) n))
    generalize w11.drewN n = w12 at O12 ⊢
    go_wp2_with fail
    have H8 := Lib.hid (HK.out.synced O12.out.rep HFit.out (HK.out.on HI.out O12.out.world) O12.out.room)
    refine H8.out.mono ?_
    rintro e w13 ⟨rfl, hb⟩
    have O13 := Lib.hid (O12.out.on HK.out hb)
    clear hb H8 O12 O11
    go_wp2
    go_ret
    exact ⟨rfl, O13.out.world⟩

set_option maxRecDepth 100000 in
set_option maxHeartbeats 400000 in
theorem fails_dn1 (K : DevOk I Rep) (p q : Option Addr) (c d : Nat) (F T : List UInt8) (hF : F.length ≤ 1000) (hT : T.length ≤ 1000) (hFc : F.length ≤ c) (hTd : T.length ≤ d) (x y : Nat) (hx2 : x < 9223372036854775808) (hy2 : y < 9223372036854775808) (hxT : x < T.length) (hyx : y < x) (w : World) (hA : At w p F) (hB : At w q T) (hp : F ≠ [] → ∀ b o, p = some ⟨b, o, none⟩ → b < w.heap.size) (hq : T ≠ [] → ∀ b o, q = some ⟨b, o, none⟩ → b < w.heap.size) (hI : I w.heap.size w) :
    Calls Try.prog 6 #[.agg #[.slice p F.length c, .slice q T.length d, .int .i64 (x : Int), .int .i64 (y : Int)]] w fun e w' => e = .returned (.bool true) ∧ Below w.heap.size w w' := by
  have B0 : Below w.heap.size w (w.alloc (.cells #[.slice p F.length c, .slice q T.length d, .int .i64 (x : Int), .int .i64 (y : Int)] 49)) := (Below.refl _ _).alloc (Nat.le_refl _) _
  have HL := Lib.hid (devLive_ok K (w.alloc (.cells #[.slice p F.length c, .slice q T.length d, .int .i64 (x : Int), .int .i64 (y : Int)] 49)) (K.more (K.on hI B0) B0.size))
  have HB0 := Lib.hid B0
  have HK := Lib.hid K
  have HI := Lib.hid hI
  have HA := Lib.hid hA
  have HB := Lib.hid hB
  have HP := Lib.hid hp
  have HQ := Lib.hid hq
  have HFc := Lib.hid hFc
  have HTd := Lib.hid hTd
  have hb1 : decide ((1000 : Int) < (F.length : Int)) = false := decide_eq_false (by omega)
  have hb2 : decide ((1000 : Int) < (T.length : Int)) = false := decide_eq_false (by omega)
  have hbT : ¬ (1000 : Int) < (T.length : Int) := by omega
  have E1 := Lib.hid (fails_1 F hF)
  have E2 := Lib.hid (fails_2 F)
  have E3 := Lib.hid (fails_3 F x y)
  have E4 := Lib.hid (fails_5 F T hF hT x y hxT)
  obtain ⟨V, hV⟩ : ∃ V, V = T.take (y) := ⟨_, rfl⟩
  have hVl : V.length = y := by rw [hV, List.length_take]; omega
  have g1 : decide (0 ≤ (x : Int)) = true := decide_eq_true (by omega)
  have g2 : decide (0 ≤ (y : Int)) = true := decide_eq_true (by omega)
  have g3 : decide (x < T.length) = true := decide_eq_true hxT
  have g4 : (y : Int) < (x : Int) := by omega
  have hmin : min y x = y := by omega
  rw [hmin, ← hV] at E4
  have HV := Lib.hid hV
  have HVl := Lib.hid hVl
  have HEq : Hid (((F ++ V : List UInt8) == F ++ V) = true) := by show _ = _; rw [beq_iff_eq]
  clear hV hVl
  clear B0 K hI hA hB hp hq hFc hTd
  go_enter Try.func6, Try.ntmps6
  go_wp2_with fail
  refine HL.out.mono ?_
  rintro e w1 ⟨rfl, hb⟩
  have B1 := Lib.hid (HB0.out.trans (hb.mono HB0.out.size))
  clear hb HL HB0
  go_wp2_with fail
  refine (HK.out.newOk 2000 w.heap.size w1 (by decide) (HK.out.on HI.out B1.out) B1.out.size).mono ?_
  rintro e w2 ⟨a, F1, rfl, hR, _, hb⟩
  have O1 : Hid (One Rep w.heap.size a w w2 (Dv.new 2000) F1) := ⟨hR, B1.out.trans (hb.mono B1.out.size), Nat.le_trans B1.out.size hb.size⟩
  clear hR hb B1
  go_wp2_with fail
  have H1 := Lib.hid (HK.out.write p c F (by omega) HFc.out (HA.out.on O1.out.world) (fun hne b o he hf => by have := HP.out hne b o he; have := (HK.out.lies O1.out.rep b hf).1; omega) O1.out.rep ⟨by decide, by decide, by decide, by decide, by decide, by decide, by decide⟩ (HK.out.on HI.out O1.out.world) O1.out.room)
  rw [E1.out] at H1
  refine H1.out.mono ?_
  rintro e w3 ⟨rfl, F3, hR, hA, _⟩
  have O3 := Lib.hid (O1.out.step HK.out hR hA)
  clear hR hA H1 O1
  go_wp2_with fail
  have H2 := Lib.hid (HK.out.sync O3.out.rep (fit_of (by omega) (by omega) (by omega) (by omega) (by omega) (by omega) (by omega)) (HK.out.on HI.out O3.out.world) O3.out.room)
  rw [E2.out] at H2
  refine H2.out.mono ?_
  rintro e w4 ⟨rfl, F4, hR, hA, _⟩
  have O4 := Lib.hid (O3.out.step HK.out hR hA)
  clear hR hA H2 O3
  go_wp2_with fail
  have H3 := Lib.hid (HK.out.fail (x : Int) (y : Int) (by omega) (by omega) (by omega) (by omega) O4.out.rep (fit_of (by omega) (by omega) (by omega) (by omega) (by omega) (by omega) (by omega)) (HK.out.on HI.out O4.out.world) O4.out.room)
  rw [E3.out] at H3
  refine H3.out.mono ?_
  rintro e w5 ⟨rfl, F5, hR, hA, _⟩
  have O5 := Lib.hid (O4.out.step HK.out hR hA)
  clear hR hA H3 O4
  go_wp2_with fail
  have H4 := Lib.hid (HK.out.write q d T (by omega) HTd.out (HB.out.on O5.out.world) (fun hne b o he hf => by have := HQ.out hne b o he; have := (HK.out.lies O5.out.rep b hf).1; omega) O5.out.rep (fit_of (by omega) (by omega) (by omega) (by omega) (by omega) (by omega) (by omega)) (HK.out.on HI.out O5.out.world) O5.out.room)
  rw [E4.out] at H4
  refine H4.out.mono ?_
  rintro e w6 ⟨rfl, F6, hR, hA, _⟩
  have O6 := Lib.hid (O5.out.step HK.out hR hA)
  clear hR hA H4 O5
  have hfit : Dv.Fit ⟨F ++ V, 2000, F.length, true, false, 0, y, 0, F.length + x⟩ := fit_of (by rw [List.length_append]; have := (HVl.out); omega) (by simp) (by omega) (by omega) (by omega) (by omega) (by omega)
  have HFit := Lib.hid hfit
  clear hfit E1 E2 E3 E4
  go_wp2_with fail
  have H5 := Lib.hid (HK.out.up O6.out.rep HFit.out (HK.out.on HI.out O6.out.world) O6.out.room)
  refine H5.out.mono ?_
  rintro e w7 ⟨rfl, hb⟩
  have O7 := Lib.hid (O6.out.on HK.out hb)
  clear hb H5 O6
  go_wp2_with fail
  have H6 := Lib.hid (HK.out.written O7.out.rep HFit.out (HK.out.on HI.out O7.out.world) O7.out.room)
  refine H6.out.mono ?_
  rintro e w8 ⟨rfl, hb⟩
  have O8 := Lib.hid (O7.out.on HK.out hb)
  clear hb H6 O7
  go_wp2_with fail
  have AF := Lib.hid (HA.out.on O8.out.world)
  have AV : Hid (At w8 q V) := by rw [HV.out]; exact (HB.out.on O8.out.world).take _
  have hlt : y ≤ d := by have := HTd.out; omega
  have hsumV : 0 + F.length + V.length ≤ 200000000000000 := by have := HVl.out; omega
  have B8n : Hid (Below w8.heap.size w8 (w8.alloc (.cells #[] 5))) := (Below.refl _ _).alloc (Nat.le_refl _) _
  have M8n := Lib.hid (mine_new w8)
  have A8n := Lib.hid (AF.out.on B8n.out)
  have z8n : w8.heap.size ≤ (w8.alloc (.cells #[] 5)).heap.size := B8n.out.size
  have L8n : F.length ≤ 200000000000000 := by omega
  go_region_law (first
    | (refine step_onto0 (B := w8.heap.size) (g := w8.heap.size) (l := F) (p := p) (c := c) (by exact M8n.out) (by exact A8n.out) L8n (by exact z8n) (.tmp 116) (.tmp 117) (by rfl) (by rfl) (by rfl) (by rfl) (by rfl) ?_; intro g9 c9 W9 hm9 hb9; have HM9 := Lib.hid hm9; have HB9 := Lib.hid (B8n.out.trans (below_via hb9 (by rfl) (by rfl) (by rfl) (by rfl))); clear hm9 hb9)
    | (refine step_onto (B := w8.heap.size) (g := g9) (cap := c9) (xs := F) (l := V) (p := q) (c := d) (by exact HM9.out) (by exact AV.out.on HB9.out) (by have := hsumV; omega) (by exact HB9.out.size) (.tmp 118) (.tmp 121) (by rfl) (by rfl) (by rfl) (by rfl) (by rw [HVl.out]; rfl) ?_; intro g10 c10 W10 hm10 hb10; have HM10 := Lib.hid hm10; have HB10 := Lib.hid (HB9.out.trans (below_via hb10 (by rfl) (by rfl) (by rfl) (by rfl))); clear hm10 hb10))
  all_goals
    have O10 := Lib.hid (O8.out.on HK.out HB10.out)
    go_wp2_with fail
    have H7 := Lib.hid (HK.out.all O10.out.rep HFit.out (HK.out.on HI.out O10.out.world) O10.out.room)
    refine H7.out.mono ?_
    rintro e w11 ⟨qA, cA, rfl, _, hTo, hb⟩
    have O11 := Lib.hid (O10.out.on HK.out hb)
    have hS := same_any qA (some ⟨g10, 0, none⟩) cA c10 (F ++ V) (F ++ V) (by rw [List.length_append]; have := (HVl.out); omega) w11 hTo.1 (HM10.out.at.on hb)
    rw [HEq.out] at hS
    simp only [List.length_append] at hS
    have HS := Lib.hid hS
    clear hS hTo hb H7 O10
    go_wp2_with fail
    refine HS.out.mono ?_
    rintro e w' ⟨rfl, n, hw⟩
    rw [hw]
    clear hw w' HS
    have O12 := Lib.hid (O11.out.on HK.out (below_drewN (Below.refl _ w11) n))
    generalize w11.drewN n = w12 at O12 ⊢
    go_wp2_with fail
    have H8 := Lib.hid (HK.out.synced O12.out.rep HFit.out (HK.out.on HI.out O12.out.world) O12.out.room)
    refine H8.out.mono ?_
    rintro e w13 ⟨rfl, hb⟩
    have O13 := Lib.hid (O12.out.on HK.out hb)
    clear hb H8 O12 O11
    go_wp2
    go_ret
    exact ⟨rfl, O13.out.world⟩

set_option maxRecDepth 100000 in
set_option maxHeartbeats 400000 in
theorem fails_dn2 (K : DevOk I Rep) (p q : Option Addr) (c d : Nat) (F T : List UInt8) (hF : F.length ≤ 1000) (hT : T.length ≤ 1000) (hFc : F.length ≤ c) (hTd : T.length ≤ d) (x y : Nat) (hx2 : x < 9223372036854775808) (hy2 : y < 9223372036854775808) (hxT : x < T.length) (hyx : ¬ y < x) (w : World) (hA : At w p F) (hB : At w q T) (hp : F ≠ [] → ∀ b o, p = some ⟨b, o, none⟩ → b < w.heap.size) (hq : T ≠ [] → ∀ b o, q = some ⟨b, o, none⟩ → b < w.heap.size) (hI : I w.heap.size w) :
    Calls Try.prog 6 #[.agg #[.slice p F.length c, .slice q T.length d, .int .i64 (x : Int), .int .i64 (y : Int)]] w fun e w' => e = .returned (.bool true) ∧ Below w.heap.size w w' := by
  have B0 : Below w.heap.size w (w.alloc (.cells #[.slice p F.length c, .slice q T.length d, .int .i64 (x : Int), .int .i64 (y : Int)] 49)) := (Below.refl _ _).alloc (Nat.le_refl _) _
  have HL := Lib.hid (devLive_ok K (w.alloc (.cells #[.slice p F.length c, .slice q T.length d, .int .i64 (x : Int), .int .i64 (y : Int)] 49)) (K.more (K.on hI B0) B0.size))
  have HB0 := Lib.hid B0
  have HK := Lib.hid K
  have HI := Lib.hid hI
  have HA := Lib.hid hA
  have HB := Lib.hid hB
  have HP := Lib.hid hp
  have HQ := Lib.hid hq
  have HFc := Lib.hid hFc
  have HTd := Lib.hid hTd
  have hb1 : decide ((1000 : Int) < (F.length : Int)) = false := decide_eq_false (by omega)
  have hb2 : decide ((1000 : Int) < (T.length : Int)) = false := decide_eq_false (by omega)
  have hbT : ¬ (1000 : Int) < (T.length : Int) := by omega
  have E1 := Lib.hid (fails_1 F hF)
  have E2 := Lib.hid (fails_2 F)
  have E3 := Lib.hid (fails_3 F x y)
  have E4 := Lib.hid (fails_5 F T hF hT x y hxT)
  obtain ⟨V, hV⟩ : ∃ V, V = T.take (x) := ⟨_, rfl⟩
  have hVl : V.length = x := by rw [hV, List.length_take]; omega
  have g1 : decide (0 ≤ (x : Int)) = true := decide_eq_true (by omega)
  have g2 : decide (0 ≤ (y : Int)) = true := decide_eq_true (by omega)
  have g3 : decide (x < T.length) = true := decide_eq_true hxT
  have g4 : ¬ (y : Int) < (x : Int) := by omega
  have hmin : min y x = x := by omega
  rw [hmin, ← hV] at E4
  have HV := Lib.hid hV
  have HVl := Lib.hid hVl
  have HEq : Hid (((F ++ V : List UInt8) == F ++ V) = true) := by show _ = _; rw [beq_iff_eq]
  clear hV hVl
  clear B0 K hI hA hB hp hq hFc hTd
  go_enter Try.func6, Try.ntmps6
  go_wp2_with fail
  refine HL.out.mono ?_
  rintro e w1 ⟨rfl, hb⟩
  have B1 := Lib.hid (HB0.out.trans (hb.mono HB0.out.size))
  clear hb HL HB0
  go_wp2_with fail
  refine (HK.out.newOk 2000 w.heap.size w1 (by decide) (HK.out.on HI.out B1.out) B1.out.size).mono ?_
  rintro e w2 ⟨a, F1, rfl, hR, _, hb⟩
  have O1 : Hid (One Rep w.heap.size a w w2 (Dv.new 2000) F1) := ⟨hR, B1.out.trans (hb.mono B1.out.size), Nat.le_trans B1.out.size hb.size⟩
  clear hR hb B1
  go_wp2_with fail
  have H1 := Lib.hid (HK.out.write p c F (by omega) HFc.out (HA.out.on O1.out.world) (fun hne b o he hf => by have := HP.out hne b o he; have := (HK.out.lies O1.out.rep b hf).1; omega) O1.out.rep ⟨by decide, by decide, by decide, by decide, by decide, by decide, by decide⟩ (HK.out.on HI.out O1.out.world) O1.out.room)
  rw [E1.out] at H1
  refine H1.out.mono ?_
  rintro e w3 ⟨rfl, F3, hR, hA, _⟩
  have O3 := Lib.hid (O1.out.step HK.out hR hA)
  clear hR hA H1 O1
  go_wp2_with fail
  have H2 := Lib.hid (HK.out.sync O3.out.rep (fit_of (by omega) (by omega) (by omega) (by omega) (by omega) (by omega) (by omega)) (HK.out.on HI.out O3.out.world) O3.out.room)
  rw [E2.out] at H2
  refine H2.out.mono ?_
  rintro e w4 ⟨rfl, F4, hR, hA, _⟩
  have O4 := Lib.hid (O3.out.step HK.out hR hA)
  clear hR hA H2 O3
  go_wp2_with fail
  have H3 := Lib.hid (HK.out.fail (x : Int) (y : Int) (by omega) (by omega) (by omega) (by omega) O4.out.rep (fit_of (by omega) (by omega) (by omega) (by omega) (by omega) (by omega) (by omega)) (HK.out.on HI.out O4.out.world) O4.out.room)
  rw [E3.out] at H3
  refine H3.out.mono ?_
  rintro e w5 ⟨rfl, F5, hR, hA, _⟩
  have O5 := Lib.hid (O4.out.step HK.out hR hA)
  clear hR hA H3 O4
  go_wp2_with fail
  have H4 := Lib.hid (HK.out.write q d T (by omega) HTd.out (HB.out.on O5.out.world) (fun hne b o he hf => by have := HQ.out hne b o he; have := (HK.out.lies O5.out.rep b hf).1; omega) O5.out.rep (fit_of (by omega) (by omega) (by omega) (by omega) (by omega) (by omega) (by omega)) (HK.out.on HI.out O5.out.world) O5.out.room)
  rw [E4.out] at H4
  refine H4.out.mono ?_
  rintro e w6 ⟨rfl, F6, hR, hA, _⟩
  have O6 := Lib.hid (O5.out.step HK.out hR hA)
  clear hR hA H4 O5
  have hfit : Dv.Fit ⟨F ++ V, 2000, F.length, true, false, 0, y, 0, F.length + x⟩ := fit_of (by rw [List.length_append]; have := (HVl.out); omega) (by simp) (by omega) (by omega) (by omega) (by omega) (by omega)
  have HFit := Lib.hid hfit
  clear hfit E1 E2 E3 E4
  go_wp2_with fail
  have H5 := Lib.hid (HK.out.up O6.out.rep HFit.out (HK.out.on HI.out O6.out.world) O6.out.room)
  refine H5.out.mono ?_
  rintro e w7 ⟨rfl, hb⟩
  have O7 := Lib.hid (O6.out.on HK.out hb)
  clear hb H5 O6
  go_wp2_with fail
  have H6 := Lib.hid (HK.out.written O7.out.rep HFit.out (HK.out.on HI.out O7.out.world) O7.out.room)
  refine H6.out.mono ?_
  rintro e w8 ⟨rfl, hb⟩
  have O8 := Lib.hid (O7.out.on HK.out hb)
  clear hb H6 O7
  go_wp2_with fail
  have AF := Lib.hid (HA.out.on O8.out.world)
  have AV : Hid (At w8 q V) := by rw [HV.out]; exact (HB.out.on O8.out.world).take _
  have hlt : x ≤ d := by have := HTd.out; omega
  have hsumV : 0 + F.length + V.length ≤ 200000000000000 := by have := HVl.out; omega
  have B8n : Hid (Below w8.heap.size w8 (w8.alloc (.cells #[] 5))) := (Below.refl _ _).alloc (Nat.le_refl _) _
  have M8n := Lib.hid (mine_new w8)
  have A8n := Lib.hid (AF.out.on B8n.out)
  have z8n : w8.heap.size ≤ (w8.alloc (.cells #[] 5)).heap.size := B8n.out.size
  have L8n : F.length ≤ 200000000000000 := by omega
  go_region_law (first
    | (refine step_onto0 (B := w8.heap.size) (g := w8.heap.size) (l := F) (p := p) (c := c) (by exact M8n.out) (by exact A8n.out) L8n (by exact z8n) (.tmp 116) (.tmp 117) (by rfl) (by rfl) (by rfl) (by rfl) (by rfl) ?_; intro g9 c9 W9 hm9 hb9; have HM9 := Lib.hid hm9; have HB9 := Lib.hid (B8n.out.trans (below_via hb9 (by rfl) (by rfl) (by rfl) (by rfl))); clear hm9 hb9)
    | (refine step_onto (B := w8.heap.size) (g := g9) (cap := c9) (xs := F) (l := V) (p := q) (c := d) (by exact HM9.out) (by exact AV.out.on HB9.out) (by have := hsumV; omega) (by exact HB9.out.size) (.tmp 118) (.tmp 121) (by rfl) (by rfl) (by rfl) (by rfl) (by rw [HVl.out]; rfl) ?_; intro g10 c10 W10 hm10 hb10; have HM10 := Lib.hid hm10; have HB10 := Lib.hid (HB9.out.trans (below_via hb10 (by rfl) (by rfl) (by rfl) (by rfl))); clear hm10 hb10))
  all_goals
    have O10 := Lib.hid (O8.out.on HK.out HB10.out)
    go_wp2_with fail
    have H7 := Lib.hid (HK.out.all O10.out.rep HFit.out (HK.out.on HI.out O10.out.world) O10.out.room)
    refine H7.out.mono ?_
    rintro e w11 ⟨qA, cA, rfl, _, hTo, hb⟩
    have O11 := Lib.hid (O10.out.on HK.out hb)
    have hS := same_any qA (some ⟨g10, 0, none⟩) cA c10 (F ++ V) (F ++ V) (by rw [List.length_append]; have := (HVl.out); omega) w11 hTo.1 (HM10.out.at.on hb)
    rw [HEq.out] at hS
    simp only [List.length_append] at hS
    have HS := Lib.hid hS
    clear hS hTo hb H7 O10
    go_wp2_with fail
    refine HS.out.mono ?_
    rintro e w' ⟨rfl, n, hw⟩
    rw [hw]
    clear hw w' HS
    have O12 := Lib.hid (O11.out.on HK.out (below_drewN (Below.refl _ w11) n))
    generalize w11.drewN n = w12 at O12 ⊢
    go_wp2_with fail
    have H8 := Lib.hid (HK.out.synced O12.out.rep HFit.out (HK.out.on HI.out O12.out.world) O12.out.room)
    refine H8.out.mono ?_
    rintro e w13 ⟨rfl, hb⟩
    have O13 := Lib.hid (O12.out.on HK.out hb)
    clear hb H8 O12 O11
    go_wp2
    go_ret
    exact ⟨rfl, O13.out.world⟩
end
end Go.Proofs.Ytoibeajcepbpjaa
