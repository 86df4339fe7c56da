/- RowBegins over what the laws ask of package row. -/
import Derived.Test.YtphmmmgdpbokkabM17
import Derived.Test.YtphmmmgdpbokkabM07
namespace Go.Proofs.Ytphmmmgdpbokkab
open Go.RowKit

theorem sameL_iff : ∀ (xs ys : List V), V.sameL xs ys = true ↔ xs.map V.fix = ys.map V.fix
  | [], [] => by simp [V.sameL_nil]
  | [], _ :: _ => by simp [V.sameL_nc]
  | _ :: _, [] => by simp [V.sameL_cn]
  | x :: xs, y :: ys => by
    have ih := sameL_iff xs ys
    have h1 := same_iff x y
    simp only [List.map_cons, List.cons.injEq]
    rw [← h1, ← ih, V.sameL_cons, Bool.and_eq_true]

/-- c[:n] -/
def headP (p : Option Addr) (c : Nat) : Option Addr := if c = 0 then p else p.map (·.add 0)
theorem run_head (p : Option Addr) (len c n : Nat) (h : n ≤ c) (w : World) : (Instr.slice 28 (.slice p len c) none (some (.int .i64 n)) none).run Try.prog w = .ok (.slice (headP p c) n c) w := by
  have hs : (sizeOf (Try.prog.elem 28)).run Try.prog w = .ok 1 w := by kernel_rfl
  rw [run_slice_h w 28 p len c (by kernel_rfl) .i64 (n : Int) (by omega) (by omega), hs]
  simp [sliced, headP, Result.andThen]
theorem at_head {w : World} {p : Option Addr} {l : List UInt8} (h : At w p l) (n c : Nat) : At w (headP p c) (l.take n) := by
  rcases h with rfl | ⟨b, o, rfl, hb, hcs⟩
  · exact .inl (by simp)
  · refine .inr ⟨b, o, ?_, hb, cells_take hcs n⟩
    unfold headP
    split
    · rfl
    · rw [Option.map_some, Lib.add_plain]; rfl

set_option maxRecDepth 100000 in
set_option maxHeartbeats 2000000 in
theorem rowBegins_any {I : World → Prop} (K : RowsOk I) (s : List Col) (p : Option Addr) (cp : Nat) (qs : List V) (q : Option Addr) (cq : Nat) (rs : List V) (r : Option Addr) (cr : Nat) (w : World) (hs : SchL w p cp s) (hq : RLies w q cq qs) (hr : RLies w r cr rs) (hI : I w) :
    Calls Try.prog 5 #[.agg #[.slice p s.length cp], .agg #[.slice q qs.length cq], .agg #[.slice r rs.length cr]] w fun e w' => e = .returned (.bool true) ∧ Below w.heap.size w w' := by
  obtain ⟨W0, hW0⟩ : ∃ W0, W0 = ((w.alloc (.cells #[.slice p s.length cp] 24)).alloc (.cells #[.slice q qs.length cq] 27)).alloc (.cells #[.slice r rs.length cr] 27) := ⟨_, rfl⟩
  have HB0 : Hid (Below w.heap.size w W0) := by rw [hW0]; exact (((Below.refl _ _).alloc (Nat.le_refl _) _).alloc (by simp) _).alloc (by simp <;> omega) _
  have HY0 : Hid (W0.cell? ⟨w.heap.size, 0, none⟩ = some (.slice p s.length cp) ∧ W0.cell? ⟨w.heap.size + 1, 0, none⟩ = some (.slice q qs.length cq) ∧ W0.cell? ⟨w.heap.size + 2, 0, none⟩ = some (.slice r rs.length cr)) := by
    have h0 : ((w.alloc (.cells #[.slice p s.length cp] 24)).alloc (.cells #[.slice q qs.length cq] 27)).cell? ⟨w.heap.size, 0, none⟩ = some (.slice p s.length cp) := by simp
    have h1 : ((w.alloc (.cells #[.slice p s.length cp] 24)).alloc (.cells #[.slice q qs.length cq] 27)).cell? ⟨w.heap.size + 1, 0, none⟩ = some (.slice q qs.length cq) := by simp
    have h2 := blk_new ((w.alloc (.cells #[.slice p s.length cp] 24)).alloc (.cells #[.slice q qs.length cq] 27)) (.cells #[.slice r rs.length cr] 27)
    have e2 : ((w.alloc (.cells #[.slice p s.length cp] 24)).alloc (.cells #[.slice q qs.length cq] 27)).heap.size = w.heap.size + 2 := by simp
    rw [e2] at h2
    have hbb := (Below.refl ((w.alloc (.cells #[.slice p s.length cp] 24)).alloc (.cells #[.slice q qs.length cq] 27)).heap.size ((w.alloc (.cells #[.slice p s.length cp] 24)).alloc (.cells #[.slice q qs.length cq] 27))).alloc (Nat.le_refl _) (.cells #[.slice r rs.length cr] 27)
    rw [hW0]
    exact ⟨cell_on hbb h0, cell_on hbb h1, blk_cell h2 0⟩
  have HW0 := Lib.hid hW0
  have HE := Lib.hid (fun w' (hb : Below w.heap.size w w') => K.encode s p cp qs q cq w' (hs.on hb) (hq.on hb) (K.on hI hb))
  have HF := Lib.hid (fun w' (hb : Below w.heap.size w w') => K.encode s p cp rs r cr w' (hs.on hb) (hr.on hb) (K.on hI hb))
  have HSm := Lib.hid (fun w' (hb : Below w.heap.size w w') => refSameRow6 qs rs w' q r cq cr ((hq.on hb).items.2.2) ((hr.on hb).items.2.2) hq.items.1)
  have HLv := Lib.hid (fun w' (hb : Below w.heap.size w w') => rowLive_ok K w' (K.on hI hb))
  have HBg := Lib.hid (fun h1 h2 => Rw.begins (s := s) (q := qs) (r := rs) h1 h2 hq.2 hr.2)
  have HLs := Lib.hid (fun h => (Rw.err_open (s := s) (vs := qs) h).2.2.2)
  have HLt := Lib.hid (fun h => (Rw.err_open (s := s) (vs := rs) h).2.2.2)
  obtain ⟨es, hes⟩ : ∃ es, es = Rw.err s qs := ⟨_, rfl⟩
  obtain ⟨et, het⟩ : ∃ et, et = Rw.err s rs := ⟨_, rfl⟩
  obtain ⟨ls, hls⟩ : ∃ ls, ls = Rw.out s qs := ⟨_, rfl⟩
  obtain ⟨lt, hlt⟩ : ∃ lt, lt = Rw.out s rs := ⟨_, rfl⟩
  have HLS : Hid (ls = if es = 0 then Rw.bytes qs else []) := by show _ = _; rw [hls, Rw.out, hes]
  have HLT : Hid (lt = if et = 0 then Rw.bytes rs else []) := by show _ = _; rw [hlt, Rw.out, het]
  rw [← hes] at HE HBg HLs
  rw [← het] at HF HBg HLt
  rw [← hls] at HE
  rw [← hlt] at HF
  obtain ⟨sm, hsm⟩ : ∃ b, b = V.sameL qs rs := ⟨_, rfl⟩
  have HSmI : Hid (sm = true ↔ qs.map V.fix = rs.map V.fix) := by show _ ↔ _; rw [hsm]; exact sameL_iff qs rs
  rw [← hsm] at HSm
  unfold Told at HE HF
  clear hes het hls hlt hsm hW0 hs hq hr hI K
  go_enter Try.func5, Try.ntmps5
  go_wp2_with fail
  rw [← HW0.out]
  clear HW0
  refine (HE.out W0 HB0.out).mono ?_
  rintro e w1 ⟨q1, cap1, rfl, hat1, hn1, hb1⟩
  have HB1 := Lib.hid (HB0.out.trans (hb1.mono HB0.out.size))
  have y1 := cell_on hb1 HY0.out.1
  have y2 := cell_on hb1 HY0.out.2.1
  have y3 := cell_on hb1 HY0.out.2.2
  have HAt1 := Lib.hid hat1
  clear hb1 hat1 HE HY0
  go_wp2_with fail
  refine (HF.out w1 HB1.out).mono ?_
  rintro e w2 ⟨q2, cap2, rfl, hat2, hn2, hb2⟩
  have HB2 := Lib.hid (HB1.out.trans (hb2.mono HB1.out.size))
  have HAt2 := Lib.hid (And.intro (HAt1.out.on hb2) hat2)
  have z2 := cell_on hb2 y2
  have z3 := cell_on hb2 y3
  clear hb2 hat2 HF y1 y2 y3 HAt1
  by_cases h1 : ¬ es = 0
  · have g1 : ((es : Int) != 0) = true := by rw [bne_iff_ne]; omega
    clear h1
    go_wp2_with fail
    refine (HLv.out w2 HB2.out).mono ?_
    rintro e w3 ⟨rfl, hb3⟩
    have HB3 := Lib.hid (HB2.out.trans (hb3.mono HB2.out.size))
    clear hb3
    go_wp2
    go_ret
    exact ⟨rfl, HB3.out⟩
  replace h1 : es = 0 := Classical.not_not.1 h1
  have g1 : ((es : Int) != 0) = false := by rw [h1]; rfl
  by_cases h2 : ¬ et = 0
  · have g2 : ((et : Int) != 0) = true := by rw [bne_iff_ne]; omega
    clear h1 h2
    go_wp2_with fail
    refine (HLv.out w2 HB2.out).mono ?_
    rintro e w3 ⟨rfl, hb3⟩
    have HB3 := Lib.hid (HB2.out.trans (hb3.mono HB2.out.size))
    clear hb3
    go_wp2
    go_ret
    exact ⟨rfl, HB3.out⟩
  replace h2 : et = 0 := Classical.not_not.1 h2
  have g2 : ((et : Int) != 0) = false := by rw [h2]; rfl
  have hlen : ls.length ≤ 1024 := by rw [HLS.out, if_pos h1]; exact HLs.out h1
  have hlen2 : lt.length ≤ 1024 := by rw [HLT.out, if_pos h2]; exact HLt.out h2
  have HEq : Hid ((∃ t, lt = ls ++ t) ↔ sm = true) := by
    show _ ↔ _
    rw [HSmI.out, HLS.out, HLT.out, if_pos h1, if_pos h2]
    exact HBg.out h1 h2
  clear h1 h2 HBg HLs HLt HSmI HLS HLT
  by_cases hle : ls.length ≤ lt.length
  · have i1 : (ls.length : Int) ≤ (lt.length : Int) := by omega
    have s1 := fun w => run_head q2 lt.length cap2 ls.length (by omega) w
    have HSame := Lib.hid (same_any q1 (headP q2 cap2) cap1 cap2 ls (lt.take ls.length) (by omega) w2 HAt2.out.1 (at_head HAt2.out.2 ls.length cap2))
    have htl : (lt.take ls.length).length = ls.length := by rw [List.length_take]; omega
    rw [htl] at HSame
    have HEq2 : Hid ((ls == lt.take ls.length) = sm) := by
      show _ = _
      rw [Bool.eq_iff_iff, beq_iff_eq, ← HEq.out]
      constructor
      · intro h
        refine ⟨lt.drop ls.length, ?_⟩
        have := List.take_append_drop ls.length lt
        rw [← h] at this
        exact this.symm
      · rintro ⟨t, ht⟩
        rw [ht, List.take_left]
    rw [HEq2.out] at HSame
    clear htl HEq HEq2
    go_wp2_with fail
    refine HSame.out.mono ?_
    rintro e w3 ⟨rfl, n3, rfl⟩
    have HB3 : Hid (Below w.heap.size w (w2.drewN n3)) := below_drewN HB2.out n3
    have x2 : (w2.drewN n3).cell? ⟨w.heap.size + 1, 0, none⟩ = some (.slice q qs.length cq) := z2
    have x3 : (w2.drewN n3).cell? ⟨w.heap.size + 2, 0, none⟩ = some (.slice r rs.length cr) := z3
    clear HSame
    go_wp2_with fail
    refine (HSm.out _ HB3.out).mono ?_
    rintro e w4 ⟨rfl, hb4⟩
    have HB4 := Lib.hid (HB3.out.trans (hb4.mono HB3.out.size))
    clear hb4 x2 x3 z2 z3
    go_wp2_with fail
    refine (HLv.out w4 HB4.out).mono ?_
    rintro e w5 ⟨rfl, hb5⟩
    have HB5 := Lib.hid (HB4.out.trans (hb5.mono HB4.out.size))
    clear hb5
    go_wp2
    go_ret
    exact ⟨by simp, HB5.out⟩
  · have i1 : ¬ (ls.length : Int) ≤ (lt.length : Int) := by omega
    have hsm : sm = false := by
      cases hb : sm with
      | false => rfl
      | true =>
        obtain ⟨t, ht⟩ := HEq.out.2 hb
        rw [ht, List.length_append] at hle
        omega
    subst hsm
    clear HEq
    go_wp2_with fail
    refine (HSm.out _ HB2.out).mono ?_
    rintro e w4 ⟨rfl, hb4⟩
    have HB4 := Lib.hid (HB2.out.trans (hb4.mono HB2.out.size))
    clear hb4 z2 z3
    go_wp2_with fail
    refine (HLv.out w4 HB4.out).mono ?_
    rintro e w5 ⟨rfl, hb5⟩
    have HB5 := Lib.hid (HB4.out.trans (hb5.mono HB4.out.size))
    clear hb5
    go_wp2
    go_ret
    exact ⟨rfl, HB5.out⟩
end Go.Proofs.Ytphmmmgdpbokkab
