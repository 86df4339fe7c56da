/- RowStream over what the laws ask of package row. -/
import Derived.Test.YticmkgbjannkkaaM17
import Derived.Test.YticmkgbjannkkaaM18
import Derived.Test.YticmkgbjannkkaaM07
import Derived.Test.YticmkgbjannkkaaM16
import Derived.Deep.RegionHeld3
namespace Go.Proofs.Yticmkgbjannkkaa
open Go.RowKit

attribute [local go_sem] run_store_float

theorem sameL_fix8 : ∀ xs : List V, V.sameL (xs.map V.fix) xs = true
  | [] => rfl
  | x :: r => by rw [List.map_cons, V.sameL_cons, same_fixed, sameL_fix8 r]; rfl
theorem apart8 {w : World} {k : Nat} {cur cur' : Array Value} (h1 : w.heap[k]? = some (.cells cur 27 (0, 0))) (h2 : w.heap[k]? = some (.cells cur' 5 (0, 0))) : False := by
  rw [h1] at h2
  injection h2 with h2
  injection h2 with _ h2 _
  exact absurd h2 (by decide)
theorem GoodG.block8 {w0 w : World} {B : Nat} {v : Value} {gs : List (List V)} (h : GoodG w0 w B v gs) {k : Nat} (hk : v.ownBlock = some k) : ∃ cur, w.heap[k]? = some (.cells cur 27 (0, 0)) := by
  obtain ⟨us, h1, _⟩ := h.out
  rcases h1.2 with ⟨rfl, _⟩ | ⟨g, cap, cur, rfl, _, h5, _⟩
  · simp [Value.ownBlock] at hk
  · simp only [Value.ownBlock, Option.some.injEq] at hk
    subst hk
    exact ⟨cur, h5⟩

set_option maxRecDepth 100000 in
set_option maxHeartbeats 4000000 in
theorem rowStream_any {I : World → Prop} (K : RowsOk I) (s : List Col) (p : Option Addr) (cp : Nat) (l : List (List V)) (q : Option Addr) (cq : Nat) (w : World) (hS : SchL w p cp s) (hL : RowsL w q cq l) (hn : l.length ≤ 1048576) (hI : I w) :
    Calls Try.prog 4 #[.agg #[.slice p s.length cp], .slice q l.length cq] w fun e w' => e = .returned (.bool true) ∧ Below w.heap.size w w' := by
  obtain ⟨W0, hW0⟩ : ∃ W0, W0 = w.alloc (.cells #[.slice p s.length cp] 24) := ⟨_, rfl⟩
  have hb0 : Below w.heap.size w W0 := by rw [hW0]; exact (Below.refl _ _).alloc (Nat.le_refl _) _
  have hk0 : W0.heap[w.heap.size]? = some (.cells #[.slice p s.length cp] 24 (0, 0)) := by rw [hW0]; exact blk_new w _
  have hwf := hL.wf
  have HLive := Lib.hid (fun w' (hb : Below w.heap.size w w') => rowLive_ok K w' (K.on hI hb))
  have HEn := Lib.hid (fun w' (hb : Below w.heap.size w w') vs qv dv (hr : RLies w qv dv vs) => K.encode s p cp vs qv dv w' (hS.on hb) (hr.on hb) (K.on hI hb))
  have HDe := Lib.hid (fun w' (hb : Below w.heap.size w w') bs qb db (a : Int) h1 h2 h3 h4 h5 => K.decode s p cp bs qb db a w' (hS.on hb) h1 h2 h3 h4 h5 (K.on hI hb))
  have HL := Lib.hid hL
  have HB0 := Lib.hid hb0
  have HK0 := Lib.hid hk0
  have HW := Lib.hid hW0
  have HWf := Lib.hid hwf
  clear hS hL hI K hb0 hk0 hW0 hwf
  go_enter Try.func4, Try.ntmps4
  go_wp2
  rw [← HW.out]
  go_loopw [5, 6, 7] (fun v5 v6 v7 wr => ∃ (i : Nat) (q5 : Option Addr) (n5 c5 : Nat) (q6 : Option Addr) (n6 c6 : Nat), i ≤ l.length ∧ v7 = .int .i64 i ∧ v5 = .slice q5 n5 c5 ∧ v6 = .slice q6 n6 c6 ∧ n5 ≤ 1073741824 ∧ n6 ≤ 1048576 ∧ Hid (n5 = (Rw.bytesL (Rw.goods s (l.take i))).length ∧ n6 = (Rw.goods s (l.take i)).length ∧ Has wr W0.heap.size (.slice q5 n5 c5) (Rw.bytesL (Rw.goods s (l.take i))) ∧ GoodG w wr W0.heap.size (.slice q6 n6 c6) (Rw.goods s (l.take i)) ∧ Below W0.heap.size W0 wr)) (fun _ _ v7 _ => l.length - (intOf v7).toNat)
  case atStart => exact ⟨0, none, 0, 0, none, 0, 0, by omega, rfl, rfl, rfl, by omega, by omega, rfl, rfl, has_nil _ _, goodG_nil _ _ _, Below.refl _ _⟩
  case round =>
    obtain ⟨i, q5, n5, c5, q6, n6, c6, hi, rfl, rfl, rfl, hn5, hn6, HQ⟩ := hrel
    have hbw := HB0.out.trans (HQ.out.2.2.2.2.mono HB0.out.size)
    have n0 : wr.cell? ⟨w.heap.size, 0, none⟩ = some (.slice p s.length cp) := blk_cell (blk_on HK0.out HQ.out.2.2.2.2 (blk_lt HK0.out)) 0
    by_cases hlt : i < l.length
    · have hlt' : (i : Int) < (l.length : Int) := by omega
      obtain ⟨b, o, qr, dr, rfl, hbl, hc, hRw⟩ := HL.out.rows i hlt
      have a1 := cell_on hbw hc
      obtain ⟨ei, hei⟩ : ∃ ei, ei = Rw.err s l[i] := ⟨_, rfl⟩
      obtain ⟨oi, hoi⟩ : ∃ oi, oi = Rw.out s l[i] := ⟨_, rfl⟩
      have HE : Hid (∀ w', Below w.heap.size w w' → Calls Try.prog 5 #[.agg #[.slice p s.length cp], .agg #[.slice qr l[i].length dr]] w' (Told w' ei oi)) := fun w' hb => by
        have h := HEn.out w' hb l[i] qr dr hRw
        rw [← hei, ← hoi] at h
        exact h
      have HEi := Lib.hid hei
      have HOi := Lib.hid hoi
      have HBw := Lib.hid hbw
      have HRw := Lib.hid hRw
      have HBc := Lib.hid hc
      clear hei hoi hc hRw hbw
      go_wp2_with fail
      go_region_held3 (fun w' => w'.cell? ⟨w.heap.size, 0, none⟩ = some (.slice p s.length cp) ∧ w'.cell? ⟨b, o + i, none⟩ = some (.slice qr l[i].length dr)) (go_keep) (first
        | (go_at_call 5; refine (HE.out _ (below_drewN HBw.out _)).mono ?_; rintro e w4 ⟨q4, cap4, rfl, hat4, hc4, hb4⟩; have hb5 := below_via (w := wr) hb4 (by rfl) (by rfl) (by rfl) (by rfl); have z1 := cell_on hb5 n0; have z2 := cell_on hb5 a1; have HB4 := Lib.hid hb5; have HA4 := Lib.hid hat4; clear hb4 hb5 hat4)
        | fail)
      have HH4 := Lib.hid (HQ.out.2.2.1.on HB4.out)
      have HG4 := Lib.hid (HQ.out.2.2.2.1.on HB4.out)
      have HB04 := Lib.hid (HQ.out.2.2.2.2.trans (HB4.out.mono HQ.out.2.2.2.2.size))
      have hs4 := HB04.out.size
      have hq1 := HQ.out.1
      have hq2 := HQ.out.2.1
      have HGt := Lib.hid (Rw.goods_take (s := s) i hlt)
      by_cases hez : ei = 0
      · have ge : ((ei : Int) == 0) = true := by rw [hez]; rfl
        have hob : oi = Rw.bytes l[i] := by rw [HOi.out]; unfold Rw.out; rw [if_pos (HEi.out.symm.trans hez)]
        have hbl2 : oi.length ≤ 1024 := by rw [hob]; exact (Rw.err_open (HEi.out.symm.trans hez)).2.2.2
        have HOb := Lib.hid hob
        obtain ⟨gs, hgs⟩ : ∃ gs, gs = Rw.goods s (l.take i) := ⟨_, rfl⟩
        have HGt0 := Lib.hid HGt.out
        rw [if_pos (HEi.out.symm.trans hez), ← hgs] at HGt0
        rw [← hgs] at HH4 HG4 hq1 hq2 HGt
        rw [if_pos (HEi.out.symm.trans hez)] at HGt
        have HAll := Lib.hid (fun r hr => (Rw.goods_good (s := s) (l := l.take (i + 1)) r hr).1)
        have hgl := Rw.goods_len s (l.take (i + 1))
        rw [HGt.out] at HAll hgl
        have hgl2 : (gs ++ [l[i]]).length ≤ 1048576 := by
          have : (l.take (i + 1)).length ≤ l.length := by rw [List.length_take]; omega
          omega
        have hbb := Rw.bytesL_bound (s := s) HAll.out
        rw [Rw.bytesL_append] at hbb
        have hbb2 : (Rw.bytesL gs ++ oi).length ≤ 1073741824 := by
          have e1 : Rw.bytesL [l[i]] = oi := by rw [hob]; simp [Rw.bytesL]
          rw [e1] at hbb
          omega
        obtain ⟨xs, hxs⟩ : ∃ xs, xs = Rw.bytesL gs := ⟨_, rfl⟩
        rw [← hxs] at HH4 hq1 hbb2
        have HXs := Lib.hid hxs
        have hgn : gs.length ≤ 2000000 := by rw [List.length_append] at hgl2; omega
        have hcb := fun (W : World) (hb : Below w.heap.size w W) => cell_on hb HBc.out
        have HW4 := Lib.hid (HBw.out.trans (HB4.out.mono HBw.out.size))
        subst hq1 hq2
        clear z1 z2 a1 n0 HQ HE hgs hxs hez hob hbb hgl HGt
        go_wp2_with (first
          | (at_builtin
             refine wp_ontoL HH4.out HA4.out (by omega) hs4 rfl rfl rfl rfl rfl ?_
             intro ys qa capa Wa HYa hha haa _
             have HHa := Lib.hid hha
             have hba := aside_low haa HH4.out hs4
             have HBa := Lib.hid hba
             have HGa := Lib.hid (HG4.out.aside haa (fun k cur h1 h2 h3 => by obtain ⟨c2, h4⟩ := HH4.out.block8 h3; exact apart8 h2 h4))
             have hsa := Nat.le_trans hs4 hba.size
             have a3 := hcb Wa (HW4.out.trans (hba.mono (Nat.le_trans HB0.out.size (Nat.le_refl _))))
             obtain ⟨Wb, hWb⟩ : ∃ Wb, Wb = Wa.alloc (.cells #[.slice qr l[i].length dr] 27) := ⟨_, rfl⟩
             have hbb2 : Below Wa.heap.size Wa Wb := by rw [hWb]; exact (Below.refl _ _).alloc (Nat.le_refl _) _
             have hbk : Wb.heap[Wa.heap.size]? = some (.cells #[.slice qr l[i].length dr] 27 (0, 0)) := by rw [hWb]; exact blk_new Wa _
             have HBk := Lib.hid hbk
             have HGb := Lib.hid (HGa.out.on hbb2)
             have HHb := Lib.hid (HHa.out.on hbb2)
             have HBab := Lib.hid (hba.trans (hbb2.mono hsa))
             have HWb := Lib.hid hWb
             have hsb := Nat.le_trans hsa hbb2.size
             clear hha haa hba hbb2 hbk hWb)
          | (at_builtin
             rw [← HWb.out]
             refine wp_good HGb.out hsb l[i] qr dr _ HBk.out hgn HRw.out rfl rfl rfl rfl rfl ?_
             intro zs gz capz Wz HYz hgz haz
             have HGz := Lib.hid hgz
             have HHz := Lib.hid (HHb.out.aside haz (fun k h1 h3 => by obtain ⟨c2, h4⟩ := HGb.out.block8 h3; obtain ⟨c3, h5⟩ := HHb.out.block8 h1; exact apart8 h4 h5))
             have HBz := Lib.hid (HBab.out.trans (haz.below hsb (fun k hk hc => by have := (HGb.out.lt k hc).1; omega)))
             clear hgz haz)
          | fail)
        go_roundw
        case rel =>
          have hz : zs = Rw.goods s (l.take (i + 1)) := by rw [HYz.out, HGt0.out]
          have hy : ys = Rw.bytesL (Rw.goods s (l.take (i + 1))) := by
            rw [HYa.out, HGt0.out, Rw.bytesL_append, HXs.out, HOb.out]
            simp [Rw.bytesL]
          refine ⟨i + 1, qa, ys.length, capa, some ⟨gz, 0, none⟩, zs.length, capz, by omega, by go_num, rfl, rfl, ?_, ?_, ?_⟩
          · rw [HYa.out]; exact hbb2
          · rw [HYz.out]; exact hgl2
          · show _ ∧ _
            rw [← hz]
            rw [← hz] at hy
            rw [← hy]
            exact ⟨rfl, rfl, HHz.out, HGz.out, HB04.out.trans HBz.out⟩
        case measure => simp [intOf]; omega
      · have ge : ((ei : Int) == 0) = false := by rw [beq_eq_false_iff_ne]; omega
        rw [if_neg (fun h => hez (HEi.out.trans h)), List.append_nil] at HGt
        clear z1 z2 a1 n0 HE
        go_wp2
        go_roundw
        case rel =>
          refine ⟨i + 1, q5, n5, c5, q6, n6, c6, by omega, by go_num, rfl, rfl, hn5, hn6, ?_⟩
          show _ ∧ _
          rw [HGt.out]
          exact ⟨hq1, hq2, HH4.out, HG4.out, HB04.out⟩
        case measure => simp [intOf]; omega
    · have hie : i = l.length := by omega
      subst hie
      have hq1 := HQ.out.1
      have hq2 := HQ.out.2.1
      have HH := Lib.hid HQ.out.2.2.1
      have HG := Lib.hid HQ.out.2.2.2.1
      have HB1 := Lib.hid HQ.out.2.2.2.2
      rw [List.take_length] at hq1 hq2 HH HG
      have hgd := fun r hr => (Rw.goods_good (s := s) (l := l) r hr)
      obtain ⟨gs, hgs⟩ : ∃ gs, gs = Rw.goods s l := ⟨_, rfl⟩
      rw [← hgs] at hq1 hq2 HH HG hgd
      have HSt := Lib.hid (fun j (hj : j < gs.length) => Rw.stream_at (s := s) (l := gs) (fun r hr => ⟨(hgd r hr).1, HWf.out r (hgd r hr).2⟩) j hj)
      obtain ⟨bs, hbs⟩ : ∃ bs, bs = Rw.bytesL gs := ⟨_, rfl⟩
      rw [← hbs] at hq1 HH HSt
      have HBs := Lib.hid hbs
      obtain ⟨qx, cx, hex, hatx, hcx⟩ := HH.out.at
      injection hex with e1 _ e3
      subst e1 e3
      have HAt := Lib.hid hatx
      have HBw := Lib.hid hbw
      obtain ⟨w1, hw1⟩ : ∃ w1, w1 = wr := ⟨_, rfl⟩
      subst hw1
      subst hq1 hq2
      clear HQ hbw n0 hgd hgs hbs hatx
      go_wp2
      go_loopw [10, 11] (fun v10 v11 wr => ∃ (j a : Nat), j ≤ gs.length ∧ v11 = .int .i64 j ∧ v10 = .int .i64 a ∧ Hid (a = (Rw.bytesL (gs.take j)).length ∧ Below w1.heap.size w1 wr)) (fun _ v11 _ => gs.length - (intOf v11).toNat)
      case atStart => exact ⟨0, 0, by omega, rfl, rfl, rfl, Below.refl _ _⟩
      case round =>
        obtain ⟨j, a, hj, rfl, rfl, HQ⟩ := hrel
        have hbw := HBw.out.trans (HQ.out.2.mono HBw.out.size)
        have hb01 := HB1.out.trans (HQ.out.2.mono HB1.out.size)
        have n0 : wr.cell? ⟨w.heap.size, 0, none⟩ = some (.slice p s.length cp) := blk_cell (blk_on HK0.out hb01 (blk_lt HK0.out)) 0
        by_cases hlt2 : j < gs.length
        · have hlt' : (j : Int) < (gs.length : Int) := by omega
          obtain ⟨g, qg, dg, rfl, hgl, hcg, hrg⟩ := (HG.out.on HQ.out.2).at j hlt2
          have hla : a ≤ bs.length := by
            rw [HQ.out.1, HBs.out]
            have e : gs = gs.take j ++ gs.drop j := (List.take_append_drop _ _).symm
            conv => rhs; rw [e]
            rw [Rw.bytesL_append, List.length_append]
            omega
          have hD := HDe.out wr hbw bs q5 c5 a (by omega) hcx (HAt.out.on HQ.out.2) (by omega) (by omega)
          have hst := HSt.out j hlt2
          rw [← HQ.out.1] at hst
          obtain ⟨fx, hfx⟩ : ∃ fx, fx = gs[j].map V.fix := ⟨_, rfl⟩
          have hwfx : ∀ v ∈ fx, v.wf := fun v hv => ((Rw.read_ok (HSt.out j hlt2)).2.2.2.2.2.2 v (by rw [← hfx]; exact hv)).2
          have hsmx : V.sameL fx gs[j] = true := by rw [hfx]; exact sameL_fix8 _
          rw [← hfx] at hst
          rw [hst] at hD
          have HWfx := Lib.hid hwfx
          have HSmx := Lib.hid hsmx
          have HD := Lib.hid hD
          have HBr := Lib.hid hbw
          have HCg := Lib.hid hcg
          have HRg := Lib.hid hrg
          clear hD hst hbw hb01 hcg hrg hfx hwfx hsmx
          go_wp2_with fail
          refine HD.out.mono ?_
          rintro e w5 ⟨q5', c5', rfl, hown, hb5⟩
          obtain ⟨w6, hw6⟩ : ∃ w6, w6 = w5.alloc (.cells #[.slice q5' fx.length c5'] 27) := ⟨_, rfl⟩
          have hb56 : Below w5.heap.size w5 w6 := by rw [hw6]; exact (Below.refl _ _).alloc (Nat.le_refl _) _
          have m0 : w6.cell? ⟨w5.heap.size, 0, none⟩ = some (.slice q5' fx.length c5') := by rw [hw6]; exact blk_cell (blk_new w5 _) 0
          have hb6 := hb5.trans (hb56.mono hb5.size)
          have m1 := cell_on hb6 HCg.out
          have m1' : w6.cell? ⟨g, 0 + j, none⟩ = some (.slice qg gs[j].length dg) := by rw [Nat.zero_add]; exact m1
          have HB6 := Lib.hid (HBr.out.trans (hb6.mono HBr.out.size))
          have HB16 := Lib.hid (HQ.out.2.trans (hb6.mono HQ.out.2.size))
          have hli := (VOwn.lies hown)
          have HSm : Hid (∀ w', Below w6.heap.size w6 w' → Calls Try.prog 8 #[.agg #[.slice q5' fx.length c5'], .agg #[.slice qg gs[j].length dg]] w' fun e w'' => e = .returned (.bool true) ∧ Below w'.heap.size w' w'') := fun w' hb => by
            have hx : RLies w5 q5' c5' fx := ⟨hli, HWfx.out⟩
            have h1 := (hx.on (hb56.trans (hb.mono hb56.size))).items
            have h2 := (HRg.out.on (HB6.out.trans (hb.mono HB6.out.size))).items
            have h := refSameRow6 fx gs[j] w' q5' qg c5' dg h1.2.2 h2.2.2 h1.1
            rw [HSmx.out] at h
            exact h
          have HW6 := Lib.hid hw6
          clear hown hb5 hb56 hw6 hb6 hli n0 HD
          go_wp2_with fail
          rw [← HW6.out]
          go_region_held3 (fun w' => w'.cell? ⟨w5.heap.size, 0, none⟩ = some (.slice q5' fx.length c5') ∧ w'.cell? ⟨g, j, none⟩ = some (.slice qg gs[j].length dg)) (go_keep) (first
            | (go_at_call 8; refine (HSm.out _ (below_drewN (Below.refl _ _) _)).mono ?_; rintro e w7 ⟨rfl, hb7⟩; have hb8 := below_via (w := w6) hb7 (by rfl) (by rfl) (by rfl) (by rfl); have z1 := cell_on hb8 m0; have z2 := cell_on hb8 m1; have HB7 := Lib.hid hb8; clear hb7 hb8)
            | fail)
          have HN := Lib.hid (HB16.out.trans (HB7.out.mono HB16.out.size))
          clear z1 z2 m0 m1 m1' HB7 HSm
          go_wp2
          go_roundw
          case rel => exact ⟨j + 1, (Rw.bytesL (gs.take (j + 1))).length, by omega, by go_num, by go_num, rfl, HN.out⟩
          case measure => simp [intOf]; omega
        · have hje : j = gs.length := by omega
          subst hje
          have ha := HQ.out.1
          rw [List.take_length, ← HBs.out] at ha
          subst ha
          have hjn : ¬ ((gs.length : Nat) : Int) < (gs.length : Int) := by omega
          have HBr := Lib.hid hbw
          clear hbw hb01 n0
          go_wp2_with fail
          refine (HLive.out wr HBr.out).mono ?_
          rintro e w9 ⟨rfl, hb9⟩
          have HBF := Lib.hid (HBr.out.trans (hb9.mono HBr.out.size))
          clear hb9
          go_wp2
          go_ret
          exact ⟨by simp, HBF.out⟩
end Go.Proofs.Yticmkgbjannkkaa
