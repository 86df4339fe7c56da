/- WVal9: put together. -/
import Derived.Test.YtbedlaaedefclaaM43
import Derived.Test.YtbedlaaedefclaaM40
import Derived.Test.YtbedlaaedefclaaM13
import Derived.Test.YtbedlaaedefclaaM14
import Derived.Test.YtbedlaaedefclaaM24

/- The document's Value. -/
namespace Go.Proofs.Ytbedlaaedefclaa
open Go.RowKit

attribute [local go_sem] run_store_float

set_option maxRecDepth 100000 in
set_option maxHeartbeats 4000000 in
theorem refValue9 (a b : Ty) (x : V) (w : World) (ua ub uv : Array Value) (ha : TLies w ua a) (hb : TLies w ub b) (hx : VLies w uv x) (hw : x.wf) : Calls Try.prog 9 #[.agg ua, .agg ub, .agg uv] w (ValR w (Rz.value a b x)) := by
  obtain ⟨r, hr⟩ : ∃ r, r = Rz.value a b x := ⟨_, rfl⟩
  have HR : Hid (r = if Ty.check 1 a ≠ 0 then .error (Ty.check 1 a) else if Ty.check 1 b ≠ 0 then .error (Ty.check 1 b) else if Rw.vErr a x ≠ 0 then .error (Rw.vErr a x) else if Rz.can 7 a b = false then .error 60 else Rz.read 7 x a b) := hr
  rw [← hr]
  have HVe : Hid (Rw.vErr a x = if chk 1 x ≠ 0 then chk 1 x else if Sch.is x a then 0 else 80) := rfl
  have HCa := Lib.hid (fun w' (h : Below w.heap.size w w') => refCheckType7 a w' ua (ha.on h))
  have HCb := Lib.hid (fun w' (h : Below w.heap.size w w') => refCheckType7 b w' ub (hb.on h))
  have HCv := Lib.hid (fun w' (h : Below w.heap.size w w') => refCheck6 x w' uv (hx.on h))
  have HIs := Lib.hid (fun w' (h : Below w.heap.size w w') => refIs7 x a w' uv ua (hx.on h) (ha.on h))
  have HCn := Lib.hid (fun w' (h : Below w.heap.size w w') h1 h2 => refCan9 7 a b 1 1 w' ua ub h1 h2 (by omega) (ha.on h) (hb.on h))
  have HRd := Lib.hid (fun w' (h : Below w.heap.size w w') h1 h2 h3 h4 h5 => refRead9 7 x a b 1 1 1 w' ua ub uv h1 h2 h3 h4 hw (by omega) h5 (ha.on h) (hb.on h) (hx.on h))
  have HVz := Lib.hid (fun h => Rw.vErr_zero (t := a) (v := x) h)
  obtain ⟨ea, hea⟩ : ∃ n, n = Ty.check 1 a := ⟨_, rfl⟩
  obtain ⟨eb, heb⟩ : ∃ n, n = Ty.check 1 b := ⟨_, rfl⟩
  obtain ⟨ev, hev⟩ : ∃ n, n = Rw.vErr a x := ⟨_, rfl⟩
  obtain ⟨ex, hex⟩ : ∃ n, n = chk 1 x := ⟨_, rfl⟩
  obtain ⟨si, hsi⟩ : ∃ n, n = Sch.is x a := ⟨_, rfl⟩
  obtain ⟨cn, hcn⟩ : ∃ n, n = Rz.can 7 a b := ⟨_, rfl⟩
  rw [← hea] at HR HCa HCn HRd HVz
  rw [← heb] at HR HCb HCn HRd
  rw [← hev] at HR HVz HVe
  rw [← hex] at HVe HCv HRd HVz
  rw [← hsi] at HVe HIs
  rw [← hcn] at HR HCn HRd
  obtain ⟨ka, xa⟩ := a
  obtain ⟨kb, xb⟩ := b
  obtain ⟨k, i, f, t, xs⟩ := x
  obtain ⟨pa, ca, rfl, -⟩ := ha.open
  obtain ⟨pb, cb, rfl, -⟩ := hb.open
  obtain ⟨pv, cv, rfl, -⟩ := hx.open
  unfold cells2 at HCa HCb HIs HCn HRd ⊢
  unfold cells5 at HCv HIs HRd ⊢
  generalize xs.length = nv at *
  generalize xa.length = na at *
  generalize xb.length = nb at *
  obtain ⟨W0, hW0⟩ : ∃ W0, W0 = ((((w.alloc (.cells #[.int .i64 ka, .slice pa na ca] 24)).alloc (.cells #[.int .i64 kb, .slice pb nb cb] 24)).alloc (.cells #[.int .i64 k, .int .i64 i, .float .f64 f, .string t, .slice pv nv cv] 28)).alloc (.cells #[.int .i64 0, .int .i64 0, .float .f64 0, .string ⟨#[]⟩, .slice none 0 0] 28)).alloc (.cells #[.int .i64 ka, .slice pa na ca, .int .i64 kb, .slice pb nb cb] 24) := ⟨_, rfl⟩
  obtain ⟨l0, l1, l2, l3, l4, lb, ls⟩ := al5 w (.cells #[.int .i64 ka, .slice pa na ca] 24) (.cells #[.int .i64 kb, .slice pb nb cb] 24) (.cells #[.int .i64 k, .int .i64 i, .float .f64 f, .string t, .slice pv nv cv] 28) (.cells #[.int .i64 0, .int .i64 0, .float .f64 0, .string ⟨#[]⟩, .slice none 0 0] 28) (.cells #[.int .i64 ka, .slice pa na ca, .int .i64 kb, .slice pb nb cb] 24)
  rw [← hW0] at l0 l1 l2 l3 l4 lb ls
  have HW0 := Lib.hid hW0
  have HB0 := Lib.hid lb
  have HS0 := Lib.hid ls
  have HCl : Hid (∀ w', Below W0.heap.size W0 w' → (w'.cell? ⟨w.heap.size, 0, none⟩ = some (.int .i64 ka) ∧ w'.cell? ⟨w.heap.size, 1, none⟩ = some (.slice pa na ca)) ∧ (w'.cell? ⟨w.heap.size + 1, 0, none⟩ = some (.int .i64 kb) ∧ w'.cell? ⟨w.heap.size + 1, 1, none⟩ = some (.slice pb nb cb)) ∧ (w'.cell? ⟨w.heap.size + 1 + 1, 0, none⟩ = some (.int .i64 k) ∧ w'.cell? ⟨w.heap.size + 1 + 1, 1, none⟩ = some (.int .i64 i) ∧ w'.cell? ⟨w.heap.size + 1 + 1, 2, none⟩ = some (.float .f64 f) ∧ w'.cell? ⟨w.heap.size + 1 + 1, 3, none⟩ = some (.string t) ∧ w'.cell? ⟨w.heap.size + 1 + 1, 4, none⟩ = some (.slice pv nv cv)) ∧ (w'.cell? ⟨w.heap.size + 1 + 1 + 1, 0, none⟩ = some (.int .i64 0) ∧ w'.cell? ⟨w.heap.size + 1 + 1 + 1, 1, none⟩ = some (.int .i64 0) ∧ w'.cell? ⟨w.heap.size + 1 + 1 + 1, 2, none⟩ = some (.float .f64 0) ∧ w'.cell? ⟨w.heap.size + 1 + 1 + 1, 3, none⟩ = some (.string ⟨#[]⟩) ∧ w'.cell? ⟨w.heap.size + 1 + 1 + 1, 4, none⟩ = some (.slice none 0 0)) ∧ (∀ m, w'.frozen? ⟨w.heap.size + 1 + 1 + 1, m, none⟩ = false) ∧ (w'.cell? ⟨w.heap.size + 1 + 1 + 1 + 1, 0, none⟩ = some (.int .i64 ka) ∧ w'.cell? ⟨w.heap.size + 1 + 1 + 1 + 1, 1, none⟩ = some (.slice pa na ca) ∧ w'.cell? ⟨w.heap.size + 1 + 1 + 1 + 1, 2, none⟩ = some (.int .i64 kb) ∧ w'.cell? ⟨w.heap.size + 1 + 1 + 1 + 1, 3, none⟩ = some (.slice pb nb cb))) := fun w' h => ⟨⟨blk_at l0 h 0, blk_at l0 h 1⟩, ⟨blk_at l1 h 0, blk_at l1 h 1⟩, ⟨blk_at l2 h 0, blk_at l2 h 1, blk_at l2 h 2, blk_at l2 h 3, blk_at l2 h 4⟩, ⟨blk_at l3 h 0, blk_at l3 h 1, blk_at l3 h 2, blk_at l3 h 3, blk_at l3 h 4⟩, fun m => blk_free ((h.block _ (blk_lt l3)).trans l3) m, ⟨blk_at l4 h 0, blk_at l4 h 1, blk_at l4 h 2, blk_at l4 h 3⟩⟩
  have HT6 : Hid (∀ w', Below W0.heap.size W0 w' → w'.heap[w.heap.size + 1 + 1 + 1]? = some (.cells #[.int .i64 0, .int .i64 0, .float .f64 0, .string ⟨#[]⟩, .slice none 0 0] 28 (0, 0))) := fun w' h => (h.block _ (blk_lt l3)).trans l3
  have HEx := Lib.hid hex
  clear hr hea heb hev hex hsi hcn ha hb hx hw l0 l1 l2 l3 l4 lb ls hW0
  go_enter Try.func9, Try.ntmps9
  go_wp2_with fail
  rw [← HW0.out]
  clear HW0
  go_loopw [18] (fun v18 wr => ∃ j : Nat, j ≤ 2 ∧ v18 = .int .i64 j ∧ Hid (Below W0.heap.size W0 wr ∧ (0 < j → ea = 0) ∧ (1 < j → eb = 0))) (fun v18 _ => 2 - (intOf v18).toNat)
  case atStart => exact ⟨0, by omega, rfl, Below.refl _ _, fun h => by omega, fun h => by omega⟩
  case round =>
    obtain ⟨j, hj, rfl, HL⟩ := hrel
    have HBr : Hid (Below w.heap.size w wr) := HB0.out.trans (HL.out.1.mono HB0.out.size)
    obtain ⟨-, -, -, -, -, ⟨m0, m1, m2, m3⟩⟩ := HCl.out wr HL.out.1
    have hj3 : j = 0 ∨ j = 1 ∨ j = 2 := by omega
    have HBa : Hid (∀ o, Below wr.heap.size wr (wr.alloc o)) := fun o => (Below.refl _ _).alloc (Nat.le_refl _) o
    rcases hj3 with rfl | rfl | rfl
    · go_wp2_with fail
      refine (HCa.out _ (HBr.out.trans ((HBa.out _).mono HBr.out.size))).mono ?_
      rintro e w2 ⟨rfl, hb2⟩
      have hb2' : Below wr.heap.size wr w2 := (HBa.out _).trans (hb2.mono (by simp))
      have HB2 := Lib.hid (HL.out.1.trans (hb2'.mono HL.out.1.size))
      have HB2w := Lib.hid (HBr.out.trans (hb2'.mono HBr.out.size))
      clear hb2 hb2' m0 m1 m2 m3
      obtain ⟨-, -, -, ⟨e0, e1, e2, e3, e4⟩, hf, -⟩ := HCl.out w2 HB2.out
      by_cases h0 : ea = 0
      · have g0 : ((ea : Int) != 0) = false := bne_f (by omega)
        have HN : Hid (Below W0.heap.size W0 w2 ∧ (0 < 1 → ea = 0) ∧ (1 < 1 → eb = 0)) := ⟨HB2.out, fun _ => h0, fun h => by omega⟩
        clear h0
        go_wp2
        go_roundw
        case rel => exact ⟨1, by omega, by go_num, HN⟩
        case measure => simp [intOf]
      · have g0 : ((ea : Int) != 0) = true := bne_t (by omega)
        have HE2 : Hid (r = .error ea) := by show _ = _; rw [HR.out, if_pos h0]
        clear h0
        go_wp2
        refine end5 rfl rfl rfl rfl (put5_block (HT6.out w2 HB2.out)) rfl ?_
        rw [HE2.out]
        exact valR_err HB2w.out (by omega)
    · have hs0 : ea = 0 := HL.out.2.1 (by omega)
      have HE0 := Lib.hid hs0
      clear hs0
      go_wp2_with fail
      refine (HCb.out _ (HBr.out.trans ((HBa.out _).mono HBr.out.size))).mono ?_
      rintro e w2 ⟨rfl, hb2⟩
      have hb2' : Below wr.heap.size wr w2 := (HBa.out _).trans (hb2.mono (by simp))
      have HB2 := Lib.hid (HL.out.1.trans (hb2'.mono HL.out.1.size))
      have HB2w := Lib.hid (HBr.out.trans (hb2'.mono HBr.out.size))
      clear hb2 hb2' m0 m1 m2 m3
      obtain ⟨-, -, -, ⟨e0, e1, e2, e3, e4⟩, hf, -⟩ := HCl.out w2 HB2.out
      by_cases h0 : eb = 0
      · have g0 : ((eb : Int) != 0) = false := bne_f (by omega)
        have HN : Hid (Below W0.heap.size W0 w2 ∧ (0 < 2 → ea = 0) ∧ (1 < 2 → eb = 0)) := ⟨HB2.out, fun _ => HE0.out, fun _ => h0⟩
        clear h0
        go_wp2
        go_roundw
        case rel => exact ⟨2, by omega, by go_num, HN⟩
        case measure => simp [intOf]
      · have g0 : ((eb : Int) != 0) = true := bne_t (by omega)
        have HE2 : Hid (r = .error eb) := by show _ = _; rw [HR.out, if_neg (by have := HE0.out; omega), if_pos h0]
        clear h0
        go_wp2
        refine end5 rfl rfl rfl rfl (put5_block (HT6.out w2 HB2.out)) rfl ?_
        rw [HE2.out]
        exact valR_err HB2w.out (by omega)
    · have ha0 : ea = 0 := HL.out.2.1 (by omega)
      have hb0 : eb = 0 := HL.out.2.2 (by omega)
      have HA0 := Lib.hid (And.intro ha0 hb0)
      obtain ⟨w2, hw2⟩ : ∃ w2, w2 = wr := ⟨_, rfl⟩
      have HB2 : Hid (Below W0.heap.size W0 w2) := by rw [hw2]; exact HL.out.1
      have HB2w : Hid (Below w.heap.size w w2) := by rw [hw2]; exact HBr.out
      rw [← hw2]
      rw [show ((2 : Nat) : Int) = 2 from rfl]
      clear ha0 hb0 HL HBr HBa hw2 HCa HCb m0 m1 m2 m3
      obtain ⟨⟨c0, c1⟩, ⟨c2, c3⟩, ⟨c4, c5, c6, c7, c8⟩, ⟨e0, e1, e2, e3, e4⟩, hf, -⟩ := HCl.out w2 HB2.out
      go_wp2_with fail
      refine (HCv.out w2 HB2w.out).mono ?_
      rintro e w3 ⟨rfl, hb3⟩
      have HB3 := Lib.hid (HB2.out.trans (hb3.mono HB2.out.size))
      have HB3w := Lib.hid (HB2w.out.trans (hb3.mono HB2w.out.size))
      clear hb3 HCv c0 c1 c2 c3 c4 c5 c6 c7 c8 e0 e1 e2 e3 e4 hf
      obtain ⟨⟨c0, c1⟩, ⟨c2, c3⟩, ⟨c4, c5, c6, c7, c8⟩, ⟨e0, e1, e2, e3, e4⟩, hf, -⟩ := HCl.out w3 HB3.out
      by_cases h2 : ¬ ex = 0
      · have g2 : ((ex : Int) != 0) = true := bne_t (by omega)
        have HE2 : Hid (r = .error ex) := by
          show _ = _
          have hve : ev = ex := by rw [HVe.out, if_pos h2]
          rw [HR.out, if_neg (by have := HA0.out.1; omega), if_neg (by have := HA0.out.2; omega), if_pos (by omega), hve]
        clear h2 HR
        go_wp2
        refine end5 rfl rfl rfl rfl (put5_block (HT6.out w3 HB3.out)) rfl ?_
        rw [HE2.out]
        exact valR_err HB3w.out (by omega)
      replace h2 : ex = 0 := Classical.not_not.1 h2
      have g2 : ((ex : Int) != 0) = false := bne_f (by omega)
      have HX0 := Lib.hid h2
      clear h2
      go_wp2_with fail
      refine (HIs.out w3 HB3w.out).mono ?_
      rintro e w4 ⟨rfl, hb4⟩
      have HB4 := Lib.hid (HB3.out.trans (hb4.mono HB3.out.size))
      have HB4w := Lib.hid (HB3w.out.trans (hb4.mono HB3w.out.size))
      clear hb4 HIs c0 c1 c2 c3 c4 c5 c6 c7 c8 e0 e1 e2 e3 e4 hf
      obtain ⟨⟨c0, c1⟩, ⟨c2, c3⟩, ⟨c4, c5, c6, c7, c8⟩, ⟨e0, e1, e2, e3, e4⟩, hf, -⟩ := HCl.out w4 HB4.out
      cases si with
      | false =>
        have HE2 : Hid (r = .error 80) := by
          show _ = _
          have hve : ev = 80 := by rw [HVe.out, if_neg (by have := HX0.out; omega)]; rfl
          rw [HR.out, if_neg (by have := HA0.out.1; omega), if_neg (by have := HA0.out.2; omega), if_pos (by omega), hve]
        clear HR
        go_wp2
        refine end5 rfl rfl rfl rfl (put5_block (HT6.out w4 HB4.out)) rfl ?_
        rw [HE2.out]
        exact valR_err HB4w.out (by omega)
      | true =>
        have hve : ev = 0 := by rw [HVe.out, if_neg (by have := HX0.out; omega)]; rfl
        have HE0 := Lib.hid hve
        clear hve
        go_wp2_with fail
        refine (HCn.out w4 HB4w.out HA0.out.1 HA0.out.2).mono ?_
        rintro e w5 ⟨rfl, hb5⟩
        have HB5 := Lib.hid (HB4.out.trans (hb5.mono HB4.out.size))
        have HB5w := Lib.hid (HB4w.out.trans (hb5.mono HB4w.out.size))
        clear hb5 HCn c0 c1 c2 c3 c4 c5 c6 c7 c8 e0 e1 e2 e3 e4 hf
        obtain ⟨⟨c0, c1⟩, ⟨c2, c3⟩, ⟨c4, c5, c6, c7, c8⟩, ⟨e0, e1, e2, e3, e4⟩, hf, -⟩ := HCl.out w5 HB5.out
        have HS5 : Hid (w.heap.size + 5 ≤ w5.heap.size) := by have := HB5.out.size; have := HS0.out; show _ ≤ _; omega
        cases cn with
        | false =>
          have HE2 : Hid (r = .error 60) := by show _ = _; rw [HR.out, if_neg (by have := HA0.out.1; omega), if_neg (by have := HA0.out.2; omega), if_neg (by have := HE0.out; omega), if_pos rfl]
          clear HR
          go_wp2
          refine end5 rfl rfl rfl rfl (put5_block (HT6.out w5 HB5.out)) rfl ?_
          rw [HE2.out]
          exact valR_err HB5w.out (by omega)
        | true =>
          have hz := HVz.out HE0.out
          have HE2 : Hid (r = Rz.read 7 (.mk k i f t xs) (.mk ka xa) (.mk kb xb)) := by show _ = _; rw [HR.out, if_neg (by have := HA0.out.1; omega), if_neg (by have := HA0.out.2; omega), if_neg (by have := HE0.out; omega), if_neg (by simp)]
          have HD := Lib.hid (HRd.out w5 HB5w.out HA0.out.1 HA0.out.2 HX0.out hz.2.2 rfl)
          rw [← HE2.out] at HD
          clear HR hz
          go_wp2_with fail
          refine HD.out.mono ?_
          intro e w6 hh
          obtain ⟨k5, i5, b5, t5, p5, n5, c5', er, he, hb6, hv6⟩ := hh.pass (w0 := w) (g := w.heap.size + 1 + 1 + 1) HB5w.out (by omega) (by have := HS5.out; omega)
          unfold cells5 at he
          subst he
          have hb7 : Below W0.heap.size W0 w6 := HB5.out.trans (hb6.mono HB5.out.size)
          clear c0 c1 c2 c3 c4 c5 c6 c7 c8 e0 e1 e2 e3 e4 hf
          obtain ⟨-, -, -, ⟨e0, e1, e2, e3, e4⟩, hf, -⟩ := HCl.out w6 hb7
          have HD6 := Lib.hid (HT6.out w6 hb7)
          have HV2 := Lib.hid hv6
          unfold put5 at HV2
          clear hh hb6 hb7 hv6
          go_wp2
          refine end5 rfl rfl rfl rfl (put5_block HD6.out) rfl ?_
          exact HV2.out
end Go.Proofs.Ytbedlaaedefclaa
