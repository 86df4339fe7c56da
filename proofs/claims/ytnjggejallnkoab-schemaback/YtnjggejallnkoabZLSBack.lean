/- SchemaBack over what the laws ask of package schema. -/
import Derived.Test.YtnjggejallnkoabM25
import Derived.Test.YtnjggejallnkoabM12
namespace Go.Proofs.Ytnjggejallnkoab
open Go.RowKit

theorem fix_same (s : List Col) : Sch.same s (s.map Col.fix) = true := by
  rw [Sch.same_fix]
  rw [List.map_map]
  apply List.map_congr_left
  intro c _
  show c.fix = c.fix.fix
  unfold Col.fix
  simp only [fix_idem]

set_option maxRecDepth 100000 in
set_option maxHeartbeats 2000000 in
theorem schemaBack_any {I : World → Prop} (K : SchemaOk I) (s : List Col) (p : Option Addr) (c : Nat) (l : List UInt8) (q : Option Addr) (d : Nat) (w : World) (hs : s.length * 120 ≤ 140737488351232) (hsc : s.length ≤ c) (hx : Cols w p s) (ws : ∀ x ∈ s, x.wf)
    (hl : l.length ≤ 140737488351232) (hld : l.length ≤ d) (hat : At w q l) (hI : I w) :
    Calls Try.prog 5 #[.agg #[.slice p s.length c], .slice q l.length d] w fun e w' => e = .returned (.bool true) ∧ Below w.heap.size w w' := by
  obtain ⟨W0, hW0⟩ : ∃ W0, W0 = w.alloc (.cells #[.slice p s.length c] 24) := ⟨_, rfl⟩
  have HB0 : Hid (Below w.heap.size w W0) := by rw [hW0]; exact (Below.refl _ _).alloc (Nat.le_refl _) _
  have HY0 : Hid (W0.cell? ⟨w.heap.size, 0, none⟩ = some (.slice p s.length c)) := by rw [hW0]; show _ = _; simp
  have HW0 := Lib.hid hW0
  have HK := Lib.hid K
  have HI := Lib.hid hI
  have HX := Lib.hid hx
  have HA := Lib.hid hat
  have HE0 := Lib.hid (K.encode s p c W0 hs hsc (hx.on HB0.out) ws (K.on hI HB0.out))
  have HC0 := Lib.hid (fun w' (hb : Below w.heap.size w w') => K.check s p c w' hs hsc (hx.on hb) ws (K.on hI hb))
  have HDl := Lib.hid (fun w' (hb : Below w.heap.size w w') => K.decode q l d w' hl hld (hat.on hb) (K.on hI hb))
  have HSm := Lib.hid (fun t p' c' w' (hb : Below w.heap.size w w') h1 h2 h3 h4 => K.same s t p p' c c' w' hs h1 hsc h2 (hx.on hb) h3 ws h4 (K.on hI hb))
  have HLv := Lib.hid (fun w' (hb : Below w.heap.size w w') => schemaLive_ok K w' (K.on hI hb))
  have HPut := Lib.hid (fun h => Sch.read_put (s := s) h ws)
  have HWs := Lib.hid ws
  have HLs := Lib.hid (fun h => (Sch.err_open (s := s) h).2.2.2)
  obtain ⟨es, hes⟩ : ∃ es, es = Sch.err s := ⟨_, rfl⟩
  rw [← hes] at HE0 HC0 HPut HLs
  clear hW0 hx hat ws hI K hes hs hsc
  go_enter Try.func5, Try.ntmps5
  go_wp2_with fail
  rw [← HW0.out]
  clear HW0
  refine HE0.out.mono ?_
  clear HE0
  by_cases h1 : es = 0
  case' neg =>
    rw [if_neg h1]
    have g1 : ((es : Int) == 0) = false := by rw [beq_eq_false_iff_ne]; omega
    have g1' : ((es : Int) != 0) = true := by rw [bne_iff_ne]; omega
    rintro e w1 ⟨q1, cap1, rfl, hat1, hn1, hb1⟩
    have HB1 := Lib.hid (HB0.out.trans (hb1.mono HB0.out.size))
    have HAt1 := Lib.hid hat1
    have hca := cell_on hb1 HY0.out
    have HY1 := Lib.hid hca
    clear hb1 hat1 hn1 HY0 HPut HLs h1
    simp only [List.length_nil] at HAt1 ⊢
    go_wp2_with fail
    refine (HC0.out _ HB1.out).mono ?_
    rintro e w2 ⟨rfl, hb2⟩
    have HB2 := Lib.hid (HB1.out.trans (hb2.mono HB1.out.size))
    have HD1 := Lib.hid (HK.out.decode q1 [] cap1 w2 (by decide) (Nat.zero_le _) (HAt1.out.on hb2) (HK.out.on HI.out HB2.out))
    rw [none_read] at HD1
    clear hb2 HC0 hca
    go_wp2_with fail
    simp only [List.length_nil] at HD1
    refine HD1.out.mono ?_
    rintro e w3 ⟨rfl, hb3⟩
    have HB3 := Lib.hid (HB2.out.trans (hb3.mono HB2.out.size))
    clear hb3 HD1
    go_wp2_with fail
    obtain ⟨w4, hw4⟩ : ∃ w4, w4 = w3.alloc (.cells #[.slice none 0 0] 24) := ⟨_, rfl⟩
    have HB4 : Hid (Below w.heap.size w w4) := by rw [hw4]; exact HB3.out.alloc HB3.out.size _
    rw [← hw4]
    clear hw4 HB3 HB2 HB1 HAt1 HY1 HSm
  case' pos =>
    rw [if_pos h1]
    have g1 : ((es : Int) == 0) = true := by rw [h1]; rfl
    have g1' : ((es : Int) != 0) = false := by rw [h1]; rfl
    obtain ⟨bs, hbs⟩ : ∃ bs, bs = Sch.bytes s := ⟨_, rfl⟩
    have hln : bs.length ≤ 1024 := by rw [hbs]; exact HLs.out h1
    have hrd : Sch.read bs = .ok (s.map Col.fix) := by rw [hbs]; exact HPut.out h1
    rw [← hbs]
    clear hbs
    have g2 : (bs.length : Int) ≤ 1024 := by omega
    rintro e w1 ⟨q1, cap1, rfl, hat1, hn1, hb1⟩
    have HB1 := Lib.hid (HB0.out.trans (hb1.mono HB0.out.size))
    have HAt1 := Lib.hid hat1
    have hca := cell_on hb1 HY0.out
    have HY1 := Lib.hid hca
    have HRd := Lib.hid hrd
    have HFw := Lib.hid (fun x hx => ((Sch.read_ok hrd).2.2 x hx).2)
    have HLn := Lib.hid (And.intro hln hn1)
    clear hb1 hat1 hn1 HY0 HPut HLs h1 hrd hln
    go_wp2_with fail
    refine (HC0.out _ HB1.out).mono ?_
    rintro e w2 ⟨rfl, hb2⟩
    have HB2 := Lib.hid (HB1.out.trans (hb2.mono HB1.out.size))
    have HY2 := Lib.hid (cell_on hb2 HY1.out)
    have HD1 := Lib.hid (HK.out.decode q1 bs cap1 w2 (Nat.le_trans HLn.out.1 (by decide)) HLn.out.2 (HAt1.out.on hb2) (HK.out.on HI.out HB2.out))
    rw [HRd.out] at HD1
    clear hb2 HC0 hca HY1 HB1 HAt1 HRd
    go_wp2_with fail
    refine HD1.out.mono ?_
    rintro e w3 ⟨u3, rfl, hso, hb3⟩
    obtain ⟨p3, c3, rfl, hl3, hc3, hcols3⟩ := hso.lies.out
    have HB3 := Lib.hid (HB2.out.trans (hb3.mono HB2.out.size))
    have HY3 := Lib.hid (cell_on hb3 HY2.out)
    have HC3 := Lib.hid hcols3
    have HS3 := Lib.hid (And.intro hl3 hc3)
    have HFs := Lib.hid (fix_same s)
    generalize s.map Col.fix = fs at *
    clear hb3 hso HD1 hl3 hc3 hcols3 HLn HY2 HB2
    obtain ⟨w3a, hw3a⟩ : ∃ w3a, w3a = w3.alloc (.cells #[.slice p3 fs.length c3] 24) := ⟨_, rfl⟩
    have hb3a : Below w3.heap.size w3 w3a := by rw [hw3a]; exact (Below.refl _ _).alloc (Nat.le_refl _) _
    have hcb : w3a.cell? ⟨w3.heap.size, 0, none⟩ = some (.slice p3 fs.length c3) := by rw [hw3a]; simp
    have hca := cell_on hb3a HY3.out
    have HB3a := Lib.hid (HB3.out.trans (hb3a.mono HB3.out.size))
    have HSs := Lib.hid (HSm.out fs p3 c3 w3a HB3a.out HS3.out.1 HS3.out.2 (HC3.out.on hb3a) HFw.out)
    rw [HFs.out] at HSs
    have HW3a := Lib.hid hw3a
    rw [hw3a] at hca hcb
    clear hb3a hw3a HS3 HC3 HFw HFs HSm
    go_wp2_with fail
    try rw [← HW3a.out]
    refine HSs.out.mono ?_
    rintro e w4 ⟨rfl, hb4⟩
    have HB4 := Lib.hid (HB3a.out.trans (hb4.mono HB3a.out.size))
    clear hb4 HSs HB3a HB3 HW3a hca hcb HY3
    go_wp2_with fail
  all_goals
    refine (HDl.out _ HB4.out).mono ?_
    clear HDl
    have HRo := Lib.hid (fun us (h : Sch.read l = .ok us) => Sch.read_ok h)
    have HRe := Lib.hid (fun er (h : Sch.read l = .error er) => Sch.read_ne h)
    cases hR : Sch.read l with
    | error er =>
      rintro e w5 ⟨rfl, hb5⟩
      have HB5 := Lib.hid (HB4.out.trans (hb5.mono HB4.out.size))
      have hne := HRe.out er hR
      have g3 : ((er : Int) != 0) = true := by rw [bne_iff_ne]; omega
      clear hb5 hR HRo HRe hne
      go_wp2_with fail
      obtain ⟨w6, hw6⟩ : ∃ w6, w6 = w5.alloc (.cells #[.slice none 0 0] 24) := ⟨_, rfl⟩
      have hb6 : Below w5.heap.size w5 w6 := by rw [hw6]; exact (Below.refl _ _).alloc (Nat.le_refl _) _
      have hcu : w6.cell? ⟨w5.heap.size, 0, none⟩ = some (.slice none 0 0) := by rw [hw6]; simp
      have HB6 := Lib.hid (HB5.out.trans (hb6.mono HB5.out.size))
      rw [← hw6]
      clear hw6 hb6
      refine (HLv.out _ HB6.out).mono ?_
      rintro e w7 ⟨rfl, hb7⟩
      have hcu7 := cell_on hb7 hcu
      have HB7 := Lib.hid (HB6.out.trans (hb7.mono HB6.out.size))
      clear hcu hb7
      go_wp2
      go_ret
      exact ⟨rfl, HB7.out⟩
    | ok us =>
      rintro e w5 ⟨u5, rfl, hso, hb5⟩
      obtain ⟨p5, c5, rfl, hl5, hc5, hcols5⟩ := hso.lies.out
      have HB5 := Lib.hid (HB4.out.trans (hb5.mono HB4.out.size))
      obtain ⟨ho1, ho2, ho3⟩ := HRo.out us hR
      have HC5 := Lib.hid hcols5
      have HEn := Lib.hid (fun w' (hb : Below w5.heap.size w5 w') => HK.out.encode us p5 c5 w' hl5 hc5 (HC5.out.on hb) (fun x hx => (ho3 x hx).2) (HK.out.on HI.out (HB5.out.trans (hb.mono HB5.out.size))))
      have HCh := Lib.hid (fun w' (hb : Below w5.heap.size w5 w') => HK.out.check us p5 c5 w' hl5 hc5 (HC5.out.on hb) (fun x hx => (ho3 x hx).2) (HK.out.on HI.out (HB5.out.trans (hb.mono HB5.out.size))))
      simp only [ho1, if_true, ho2] at HEn HCh
      clear hb5 hR HRo HRe ho1 ho2 ho3 hso hl5 hc5 hcols5 HC5
      obtain ⟨w6, hw6⟩ : ∃ w6, w6 = w5.alloc (.cells #[.slice p5 us.length c5] 24) := ⟨_, rfl⟩
      have hb6 : Below w5.heap.size w5 w6 := by rw [hw6]; exact (Below.refl _ _).alloc (Nat.le_refl _) _
      have HCu : Hid (w6.cell? ⟨w5.heap.size, 0, none⟩ = some (.slice p5 us.length c5)) := by rw [hw6]; show _ = _; simp
      have HB56 := Lib.hid hb6
      have HB6 := Lib.hid (HB5.out.trans (hb6.mono HB5.out.size))
      have HW6 := Lib.hid hw6
      clear hw6 hb6
      go_wp2_with fail
      rw [← HW6.out]
      clear HW6
      refine (HEn.out w6 HB56.out).mono ?_
      rintro e w7 ⟨q7, cap7, rfl, hat7, hn7, hb7⟩
      have HB7 := Lib.hid (HB6.out.trans (hb7.mono HB6.out.size))
      have HB57 := Lib.hid (HB56.out.trans (hb7.mono HB56.out.size))
      have HCu7 := Lib.hid (cell_on hb7 HCu.out)
      have HAt7 := Lib.hid (And.intro hat7 (HA.out.on HB7.out))
      clear hb7 hat7 hn7 HEn HCu
      obtain ⟨G, hG⟩ : ∃ G : World → Prop, G = fun w' => Below w7.heap.size w7 w' := ⟨_, rfl⟩
      have hG0 := keepG_here hG
      have hGd := keepG_drew hG
      have HFin := Lib.hid (keepG_fin hG HB7.out)
      have HCell := Lib.hid (keepG_cell hG HCu7.out)
      have HLive := Lib.hid (keepG hG HB7.out HLv.out)
      have HS1 : Hid (∀ w', G w' → Calls Try.prog 16 #[.agg #[.slice p5 us.length c5]] w' fun e w'' => e = .returned (.int .i64 0) ∧ G w'') := fun w' h => by
        have h' := h
        rw [hG] at h'
        refine (HCh.out w' (HB57.out.trans (h'.mono HB57.out.size))).mono ?_
        rintro e w'' ⟨rfl, h3⟩
        refine ⟨rfl, ?_⟩
        rw [hG]
        exact h'.trans (h3.mono h'.size)
      have HSame : Hid (∀ w', G w' → Calls Try.prog 11 #[.slice q7 l.length cap7, .slice q l.length d] w' fun e w'' => e = .returned (.bool true) ∧ G w'') := fun w' h => by
        have h' := h
        rw [hG] at h'
        refine (same_any q7 q cap7 d l l hl w' (HAt7.out.1.on h') (HAt7.out.2.on h')).mono ?_
        rintro e w'' ⟨rfl, n, rfl⟩
        refine ⟨by simp, ?_⟩
        rw [hG]
        exact below_drewN h' n
      have hcu := HCell.out w7 hG0
      clear hG HLv HCh HAt7 HCu7 HB57 HB7 HB56 HB6 HB5 HB4
      go_wp2_with fail
      refine (HLive.out _ hG0).mono ?_
      rintro e w8 ⟨rfl, hG8⟩
      go_wp2_with fail
      refine (HSame.out _ hG8).mono ?_
      rintro e w9 ⟨rfl, hG9⟩
      have hcu9 := HCell.out _ hG9
      go_wp2_with fail
      refine (HS1.out _ hG9).mono ?_
      rintro e w10 ⟨rfl, hG10⟩
      go_wp2
      go_ret
      exact ⟨rfl, HFin.out _ hG10⟩
end Go.Proofs.Ytnjggejallnkoab
