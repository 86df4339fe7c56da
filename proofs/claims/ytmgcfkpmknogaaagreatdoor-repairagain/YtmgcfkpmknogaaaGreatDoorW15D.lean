/- The law's own of stage 15: live, walked. -/
import Derived.Test.YtmgcfkpmknogaaaGreatDoorA12
namespace Go.Proofs.YtmgcfkpmknogaaaGreatDoor
open Go.RowKit Go.Maps

theorem flS15 {W : World} {C : Nat} (h : W.heap[C]? = some (.cells oneCells 134 (0, 0))) : FLies W #[.int .i64 1, .int .i64 0, .slice (some ⟨C, 0, none⟩) 1 1, .int .i64 0, .int .i64 0, .int .i64 0, .slice none 0 0, .int .i64 0, .int .i64 0, .int .i64 0, .slice none 0 0] smallF :=
  ⟨some ⟨C, 0, none⟩, 1, none, 0, none, 0, rfl, by decide, by decide, one_cols h, by decide, by decide, .inl rfl, by decide, by decide, ents_nil _ _⟩
theorem flD15 {W : World} {Y : Nat} (h : W.heap[Y]? = some (.cells #[.int .u8 0, .int .u8 2, .int .u8 4] 5 (0, 0))) : FLies W #[.int .i64 2, .int .i64 0, .slice none 0 0, .int .i64 0, .int .i64 0, .int .i64 2, .slice (some ⟨Y, 0, none⟩) 3 3, .int .i64 0, .int .i64 0, .int .i64 0, .slice none 0 0] dataF := by
  refine ⟨none, 0, some ⟨Y, 0, none⟩, 3, none, 0, rfl, by decide, by decide, fun j hj => by simp [dataF, Fr0] at hj, by decide, by decide, .inr ⟨Y, 0, rfl, blk_lt h, fun j hj => ?_⟩, by decide, by decide, ents_nil _ _⟩
  have hj3 : j < 3 := hj
  have h3 := blk_cell h
  rw [Nat.zero_add, h3 j]
  have : j = 0 ∨ j = 1 ∨ j = 2 := by omega
  rcases this with rfl | rfl | rfl <;> rfl
theorem At.take15 {w : World} {p : Option Addr} {l : List UInt8} (h : At w p l) (n : Nat) : At w p (l.take n) := by
  rcases h with h | ⟨b, o, rfl, hb, hc⟩
  · exact .inl (by simp [h])
  · exact .inr ⟨b, o, rfl, hb, cells_take hc n⟩

set_option maxRecDepth 100000 in
set_option maxHeartbeats 8000000 in
theorem live15 (w : World) (hv : Hv w) (he : He w) : Calls Tryz.prog 12 #[] w fun e w' => e = .returned (.bool true) ∧ Below w.heap.size w w' := by
  have HN := Lib.hid (kNew_ok 200 (by omega) w)
  have HHv := Lib.hid hv
  have HHe := Lib.hid he
  have HG := Lib.hid hv.lt
  clear hv he
  go_enter Tryz.func12, Tryz.ntmps12
  go_wp2_with fail
  refine HN.out.mono ?_
  rintro e w1 ⟨rfl, hk1, hb1⟩
  have HO := Lib.hid (one15 w1)
  have HK1 := Lib.hid hk1
  have HB1 := Lib.hid hb1
  clear hk1 hb1 HN
  go_wp2_with fail
  refine HO.out.mono ?_
  rintro e w2 ⟨rfl, hc2, hb2, hs2⟩
  have hB2 := HB1.out.trans (hb2.mono HB1.out.size)
  have hE := encodeF smallF small_wf _ w2 (HHv.out.next hB2) (flS15 hc2)
  rw [small_err] at hE
  obtain ⟨S, hS⟩ : ∃ S, S = frS := ⟨_, rfl⟩
  have hE' : Calls Tryz.prog 45 #[.agg #[.int .i64 1, .int .i64 0, .slice (some ⟨w1.heap.size + 1, 0, none⟩) 1 1, .int .i64 0, .int .i64 0, .int .i64 0, .slice none 0 0, .int .i64 0, .int .i64 0, .int .i64 0, .slice none 0 0]] w2 (EncF w2 0 S) := by rw [hS]; exact hE
  have HE := Lib.hid hE'
  have HS := Lib.hid hS
  have HB2 := Lib.hid hB2
  have HK2 := Lib.hid (HK1.out.below hb2)
  have hz1 : w.heap.size < w2.heap.size := HK2.out.lt
  clear hE hE' hS hc2 hb2 hB2 hs2 HO HK1 HB1
  go_wp2_with fail
  refine HE.out.mono ?_
  rintro e w3 (⟨-, q1, c1, rfl, hh1, hb3⟩ | ⟨hc, -⟩)
  case inr => exact absurd rfl hc
  have HH1 := Lib.hid hh1
  have HB3 := Lib.hid (HB2.out.trans (hb3.mono HB2.out.size))
  have HK3 := Lib.hid (HK2.out.below hb3)
  have hz3 := hb3.size
  clear hh1 hb3 HE HK2 HB2
  obtain ⟨W4, hW4⟩ : ∃ W4, W4 = w3.alloc (.cells #[.int .u8 0, .int .u8 2, .int .u8 4] 5) := ⟨_, rfl⟩
  have hb4 : Below w3.heap.size w3 W4 := by rw [hW4]; exact (Below.refl _ _).alloc (Nat.le_refl _) _
  have hY : W4.heap[w3.heap.size]? = some (.cells #[.int .u8 0, .int .u8 2, .int .u8 4] 5 (0, 0)) := by rw [hW4]; exact blk_new w3 _
  have hB4 := HB3.out.trans (hb4.mono HB3.out.size)
  have hE := encodeF dataF data_wf _ W4 (HHv.out.next hB4) (flD15 hY)
  rw [data_err] at hE
  obtain ⟨D, hD⟩ : ∃ D, D = frD := ⟨_, rfl⟩
  have hE' : Calls Tryz.prog 45 #[.agg #[.int .i64 2, .int .i64 0, .slice none 0 0, .int .i64 0, .int .i64 0, .int .i64 2, .slice (some ⟨w3.heap.size, 0, none⟩) 3 3, .int .i64 0, .int .i64 0, .int .i64 0, .slice none 0 0]] W4 (EncF W4 0 D) := by rw [hD]; exact hE
  have HE := Lib.hid hE'
  have HD := Lib.hid hD
  have HW4 := Lib.hid hW4.symm
  have HB4 := Lib.hid hB4
  have HK4 := Lib.hid (HK3.out.below hb4)
  have HH4 : Hid (Has W4 w2.heap.size (.slice q1 S.length c1) S) := HH1.out.aside (aside_new hb4 (fun _ => False)) (fun _ _ h => h)
  have hz4 := hb4.size
  clear hE hE' hD hY hb4 hB4 hW4 HH1 HK3 HB3
  go_wp2_with fail
  rw [HW4.out]
  refine HE.out.mono ?_
  rintro e w5 (⟨-, q2, c2, rfl, hh2, hb5⟩ | ⟨hc, -⟩)
  case inr => exact absurd rfl hc
  have hh1 : Has w5 w2.heap.size (.slice q1 S.length c1) S := HH4.out.aside (aside_new hb5 (fun _ => False)) (fun _ _ h => h)
  obtain ⟨qa, ca, hea, hA1, hca⟩ := hh1.at
  injection hea with e1 _ e2
  subst e1
  subst e2
  obtain ⟨qb, cb, heb, hA2, hcb⟩ := hh2.at
  injection heb with e1 _ e2
  subst e1
  subst e2
  have hSl : S.length = 14 := by rw [HS.out]; exact frS_len
  have hDl : D.length = (Fr.run dataF).length + 2 := by rw [HD.out]; exact frD_len
  have hd1 := data_len
  have hd2 := Fr.run_ge (f := dataF)
  have hz5 := hb5.size
  have HP1 : Hid (∀ i o, q1 = some ⟨i, o, none⟩ → i ≠ w.heap.size ∧ i < w5.heap.size) := fun i o hi => by
    rcases hh1.form with ⟨h1, h2⟩ | ⟨gg, cap, h1, h2⟩
    · rw [h2] at hSl; cases hSl
    · injection h1 with h3
      rw [hi] at h3
      injection h3 with h3
      injection h3 with h3
      have := h2.base
      omega
  have HP2 : Hid (∀ i o, q2 = some ⟨i, o, none⟩ → i ≠ w.heap.size ∧ i < w5.heap.size) := fun i o hi => by
    rcases hh2.form with ⟨h1, h2⟩ | ⟨gg, cap, h1, h2⟩
    · rw [h2] at hDl; simp at hDl
    · injection h1 with h3
      rw [hi] at h3
      injection h3 with h3
      injection h3 with h3
      have := h2.base
      omega
  have HA1 := Lib.hid hA1
  have HA2 := Lib.hid hA2
  have hwz : w.heap.size < w5.heap.size := by omega
  have hI5 : LvW w w5 w5 [] 0 := ⟨.slice none 0 0, ⟨Dv.new 200, 0, 0, HK4.out.below hb5, rfl, rfl, rfl, Nat.le_refl _, Nat.le_refl _, Nat.le_refl _, rfl⟩, fun i hi => by simp [Value.ownBlock] at hi, Aside.refl _ _⟩
  have HB5 := Lib.hid (HB4.out.trans (hb5.mono HB4.out.size))
  have HWz := Lib.hid hwz
  have HC1 := Lib.hid (hI5.write (by omega) hwz q1 c1 S hA1 HP1.out (by rw [hSl]; decide))
  obtain ⟨m1, hm1⟩ : ∃ m1, m1 = S.length := ⟨_, rfl⟩
  obtain ⟨m2, hm2⟩ : ∃ m2, m2 = D.length := ⟨_, rfl⟩
  have HM : Hid (m1 = S.length ∧ m2 = D.length ∧ m1 = 14 ∧ 8 ≤ m2 ∧ m2 ≤ 102) := ⟨hm1, hm2, by omega, by omega, by omega⟩
  rw [← hm1, ← hm2]
  rw [← hm1] at HC1
  have hcb2 : m2 ≤ c2 := by omega
  have hm28 : 8 ≤ m2 := by omega
  have hm2b : m2 ≤ 102 := by omega
  have hm14 : m1 = 14 := by omega
  clear hh1 hh2 hA1 hA2 hca hcb hSl hDl hd1 hd2 hI5 hb5 hwz hm1 hm2 HE HH4 HK4 HB4 HW4 hz1 hz3 hz4 hz5
  have h5c : (5 : Int) ≤ (c2 : Int) := by omega
  have hm14' : (m1 : Int) ≤ 14 := by omega
  have hm2' : (m2 : Int) ≤ 102 := by omega
  have HM14 := Lib.hid hm14
  clear hm14
  go_wp2_with fail
  refine HC1.out.mono ?_
  rintro e w6 ⟨rfl, hI6⟩
  have HC2 := Lib.hid (hI6.write (by have := HM.out; omega) HWz.out q2 c2 D HA2.out HP2.out (by have := HM.out; simp only [List.nil_append]; omega))
  rw [← HM.out.2.1] at HC2
  clear hI6 HC1
  go_wp2_with fail
  refine HC2.out.mono ?_
  rintro e w7 ⟨rfl, hI7⟩
  have HC3 := Lib.hid (hI7.write (by have := HM.out; omega) HWz.out q1 c1 S HA1.out HP1.out (by have := HM.out; simp only [List.nil_append, List.length_append]; omega))
  rw [← HM.out.1] at HC3
  clear hI7 HC2
  go_wp2_with fail
  refine HC3.out.mono ?_
  rintro e w8 ⟨rfl, hI8⟩
  have hT5 : (D.take 5).length = 5 := by have := HM.out; rw [List.length_take]; omega
  have hC4 := hI8.write (by have := HM.out; omega) HWz.out q2 c2 (D.take 5) (HA2.out.take15 5) HP2.out (by have := HM.out; simp only [List.nil_append, List.length_append, hT5]; omega)
  rw [hT5] at hC4
  have HC4 := Lib.hid hC4
  clear hI8 HC3 hC4 hT5
  go_wp2_with fail
  refine HC4.out.mono ?_
  rintro e w9 ⟨rfl, hI9⟩
  obtain ⟨v9, hU9, ho9, ha9⟩ := hI9.out
  obtain ⟨L, hL⟩ : ∃ L, L = liveL := ⟨_, rfl⟩
  have hb9 : [] ++ S ++ D ++ S ++ D.take 5 = L := by rw [HS.out, HD.out, hL]; simp [liveL]
  have hU := hU9.up
  rw [hb9] at hU
  obtain ⟨X, er, y, hg3, hst, hlk, hg2, hy, hyf, hyr⟩ := live_goes
  have hLl : L.length = 33 + m2 := by rw [hL, live_len, HM.out.2.1, HD.out]
  have hKm : 14 + frD.length = 14 + m2 := by rw [HM.out.2.1, HD.out]
  rw [← hL] at hg3 hst hlk hg2
  rw [hKm] at hlk hy
  obtain ⟨K, hK⟩ : ∃ K, K = 14 + m2 := ⟨_, rfl⟩
  rw [← hK] at hlk hy
  have hwz := HWz.out
  have hsz9 := ha9.size
  have hB9 : Below w.heap.size w w9 := HB5.out.trans (ha9.below (by omega) (fun i hi hc => by omega))
  have hkk := look_kept hlk
  obtain ⟨mm, xx, hg4, hst4, hlk4, hx4, hl4, hle4, -⟩ := look_done hg3
  rw [← hkk] at hg4 hst4 hlk4 hx4 hl4 hle4
  have HLo := Lib.hid (hU.look (by omega) (by omega) (HHv.out.next hB9) (HHe.out.on hB9) HG.out hg3 hst)
  rw [hlk] at HLo
  have HB9 := Lib.hid hB9
  have HU := Lib.hid hU
  have HO9 : Hid (∀ i, v9.ownBlock = some i → w.heap.size ≤ i) := fun i hi => by have := ho9 i hi; omega
  have HP : Hid (Sc.goes L 3 = some X ∧ Sc.step L X = .error er ∧ Rp.look L 3 X.at_ er = .ok K ∧ Sc.goes L 2 = some y ∧ y.at_ = K ∧ y.wk.frames = 1 ∧ y.wk.rows = 2) := ⟨hg3, hst, hlk, hg2, hy, hyf, hyr⟩
  have HQ : Hid (Sc.goes (L.take K) mm = some xx ∧ Sc.step (L.take K) xx = .error 140 ∧ Rp.look (L.take K) mm xx.at_ 140 = .ok K ∧ (L.take K).length = K ∧ K ≤ L.length) := ⟨hg4, hst4, hlk4, hl4, hle4⟩
  obtain ⟨N0, hN0⟩ : ∃ N0, N0 = 0 + m1 + m2 + m1 + 5 := ⟨_, rfl⟩
  have hN : N0 ≤ 1000 := by omega
  rw [← hN0] at HU HLo
  obtain ⟨Ln, hLn⟩ : ∃ Ln, Ln = L.length := ⟨_, rfl⟩
  have hLnI : (Ln : Int) ≤ 200 := by omega
  have hKI : (K : Int) ≤ 200 := by omega
  have HNs : Hid (Ln = L.length ∧ Ln = 33 + m2 ∧ K = 14 + m2 ∧ N0 ≤ 1000) := ⟨hLn, by omega, hK, hN⟩
  have gK : ((K : Int) != (m1 : Int) + (m2 : Int)) = false := by rw [bne_eq_false_iff_eq]; have := HM14.out; omega
  have gL : ((Ln : Int) != 2 * (m1 : Int) + (m2 : Int) + 5) = false := by rw [bne_eq_false_iff_eq]; have := HM14.out; omega
  clear hI9 hU9 ho9 ha9 hL hb9 hU hg3 hst hlk hg2 hy hyf hyr hLl hKm hK hwz hsz9 hB9 hkk hg4 hst4 hlk4 hx4 hl4 hle4 hN0 hN hLn HC4 HA1 HA2 HP1 HP2 HS HD HB5 HWz
  go_wp2_with fail
  refine HLo.out.mono ?_
  rintro e w10 ⟨hans, hU10, ha10⟩
  obtain ⟨a, M, B', n, v', g', m, yy, rfl, hw10, hB', hgm, hym⟩ := hans
  obtain ⟨-, rfl⟩ := goes_at HP.out.2.2.2.1 hgm (HP.out.2.2.2.2.1.trans hym.symm)
  have hF := kFrames hw10
  have hR := kRows hw10
  rw [HP.out.2.2.2.2.2.1] at hF
  rw [HP.out.2.2.2.2.2.2] at hR
  have HF := Lib.hid hF
  have HR := Lib.hid hR
  have hLe := hU10.len
  rw [← HNs.out.1] at hLe
  have HLe := Lib.hid hLe
  have HB10 := Lib.hid (HB9.out.trans (ha10.below (B := w.heap.size) (by have := HB9.out.size; omega) (fun i hi hc => by omega)))
  have HD1 := Lib.hid (hU10.doOk (by have := HNs.out; omega) (by have := HNs.out; omega) (HHv.out.next HB10.out) (HHe.out.on HB10.out) HG.out HP.out.1 HP.out.2.1 HP.out.2.2.1 HQ.out.2.2.2.2)
  clear hU10 ha10 hw10 hB' hgm hym hF hR hLe HLo HU HB9
  go_wp2_with fail
  refine HF.out.mono ?_
  rintro e w' ⟨rfl, hw'⟩
  rw [hw']
  clear hw' w' HF
  go_wp2_with fail
  refine HR.out.mono ?_
  rintro e w' ⟨rfl, hw'⟩
  rw [hw']
  clear hw' w' HR
  go_wp2_with fail
  refine HLe.out.mono ?_
  rintro e w' ⟨rfl, hw'⟩
  rw [hw']
  clear hw' w' HLe
  obtain ⟨n1, hn1⟩ : ∃ n1, n1 = L.length - K := ⟨_, rfl⟩
  rw [← hn1] at HD1
  have hn1I : (n1 : Int) ≤ 200 := by have := HNs.out; omega
  have gn : ((n1 : Int) == (m1 : Int) + 5) = true := by rw [beq_iff_eq]; have := HM14.out; have := HNs.out; omega
  clear hn1
  go_wp2_with fail
  refine HD1.out.mono ?_
  rintro e w11 ⟨rfl, v11, hU11, ha11, hv11⟩
  have hB11 := HB10.out.trans (ha11.below (B := w.heap.size) (by have := HB10.out.size; omega) (fun i hi hc => by
    rcases hc with hc | hc
    · omega
    · have := HO9.out i hc; omega))
  have HD2 := Lib.hid (hU11.doOk (by have := HNs.out; omega) (by have := HNs.out; have := HQ.out.2.2.2.1; omega) (HHv.out.next hB11) (HHe.out.on hB11) HG.out HQ.out.1 HQ.out.2.1 HQ.out.2.2.1 (by have := HQ.out.2.2.2.1; omega))
  have HB11 := Lib.hid hB11
  have HO11 : Hid (∀ i, v11.ownBlock = some i → w.heap.size ≤ i) := fun i hi => (hU11.own i hi).1
  obtain ⟨n2, hn2⟩ : ∃ n2, n2 = (L.take K).length - K := ⟨_, rfl⟩
  rw [← hn2] at HD2
  have gm : ((n2 : Int) == 0) = true := by rw [beq_iff_eq]; have := HQ.out.2.2.2.1; omega
  clear hU11 ha11 hv11 hB11 hn2 HD1
  go_wp2_with fail
  refine HD2.out.mono ?_
  rintro e w12 ⟨rfl, v12, hU12, ha12, hv12⟩
  have hLe := hU12.len
  have hKe : ((L.take K).take K).length = K := by have := HQ.out.2.2.2.1; rw [List.length_take]; omega
  rw [hKe] at hLe
  have HLe := Lib.hid hLe
  have HB12 := Lib.hid (HB11.out.trans (ha12.below (B := w.heap.size) (by have := HB11.out.size; omega) (fun i hi hc => by
    rcases hc with hc | hc
    · omega
    · have := HO11.out i hc; omega)))
  clear hU12 ha12 hv12 hLe hKe HD2
  go_wp2_with fail
  refine HLe.out.mono ?_
  rintro e w' ⟨rfl, hw'⟩
  rw [hw']
  clear hw' w' HLe
  go_wp2
  go_ret
  exact ⟨rfl, HB12.out⟩
end Go.Proofs.YtmgcfkpmknogaaaGreatDoor
