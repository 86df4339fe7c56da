/- step: Read; any step. -/
import Derived.Test.YtoibeajcepbpjaaLDStep4
namespace Go.Proofs.Ytoibeajcepbpjaa
open Go.RowKit

section
variable {I : Nat → World → Prop} {Rep : DRep} {a : Addr} {g n : Nat} {w0 w : World} {s : Dv.St}

/-- Read of package dev's file, then of the document's -/
theorem two_reads (K : DevOk I Rep) (hI : I w0.heap.size w0) {w1 : World} (h : Alike Rep a g w0 n w s) (hb : Below w.heap.size w w1) (hn : n ≤ 2999999999999) (N M : Int) (hN1 : -9223372036854775808 ≤ N) (hN2 : N ≤ 9223372036854775807) (hM1 : -9223372036854775808 ≤ M) (hM2 : M ≤ 9223372036854775807) :
    Calls Try.prog 31 #[.pointer (some a), .int .i64 N, .int .i64 M] w1 fun e w2 => ∃ q cap, e = .returned (.tuple #[.slice q (Dv.read s N M).1.length cap, .int .i64 ((Dv.read s N M).2.1 : Nat)]) ∧ (∀ x, w.heap.size ≤ x → x < w1.heap.size → w2.heap[x]? = w1.heap[x]?) ∧
      Calls Try.prog 35 #[.pointer (some ⟨g, 0, none⟩), .int .i64 N, .int .i64 M] w2 fun e' w3 => ∃ q' cap', e' = .returned (.tuple #[.slice q' (Dv.read s N M).1.length cap', .int .i64 ((Dv.read s N M).2.1 : Nat)]) ∧ At w3 q (Dv.read s N M).1 ∧ At w3 q' (Dv.read s N M).1 ∧
        ∃ F v, Both Rep w0.heap.size a g w0 w3 (Dv.read s N M).2.2 (Dv.read s N M).2.2 F v ∧ Dv.Near (n + 1) (Dv.read s N M).2.2 ∧
          ((Dv.read s N M).1 ≠ [] → ∃ g1 o, q = some ⟨g1, o, none⟩ ∧ Free w3 g1 o (Dv.read s N M).1 ∧ w0.heap.size ≤ g1 ∧ ¬ F g1 ∧ g1 ≠ g ∧ v.ownBlock ≠ some g1) := by
  obtain ⟨⟨F, v, hB0⟩, hN⟩ := h
  have hB := hB0.below K hb
  have hf := hN.fit (by omega)
  have hg := hB0.ref.lt
  have hv : ∀ k, v.ownBlock = some k → k < w.heap.size := fun k hk => (hB0.ref.has.lt k hk).2
  have hr0 := hB0.one.room
  have hbs := hb.size
  refine (K.read N M hN1 hN2 hM1 hM2 hB.one.rep hf (K.on hI hB.one.world) hB.one.room).mono ?_
  rintro e w2 ⟨q, cap, F2, rfl, hcap, hT, hr, ha, hF2⟩
  have hB2 := hB.dev K hr ha hF2
  have hs2 := ha.size
  refine ⟨q, cap, rfl, fun x hx hx1 => ha.block x hx1 (fun hfx => by have := (K.lies hB0.one.rep x hfx).2; omega), ?_⟩
  refine (refRead hB2.ref N M hN1 hN2 hM2 (by have := hf.len; omega) (by have := hf.len; have := hf.told; omega)).mono ?_
  rintro e' w3 ⟨q', cap', rfl, hH, hr3, ha3⟩
  obtain ⟨q9, c9, he9, hA9, -⟩ := hH.at
  injection he9 with e1 _ _
  subst e1
  have hfree : (Dv.read s N M).1 ≠ [] → ∃ g1 o, q = some ⟨g1, o, none⟩ ∧ Free w3 g1 o (Dv.read s N M).1 ∧ w1.heap.size ≤ g1 ∧ ¬ F2 g1 := by
    intro hne
    obtain ⟨g1, o, hq, hg1, hFr, hnf⟩ := hT.2 hne
    exact ⟨g1, o, hq, hFr.block (ha3.block g1 hFr.1 (by omega)), hg1, hnf⟩
  refine ⟨q', cap', rfl, ?_, hA9, F2, v, hB2.doc K hr3 (ha3.mono (fun _ _ h => .inl h)) (.inl rfl), Dv.near_read hN N M, fun hne => ?_⟩
  · by_cases hne : (Dv.read s N M).1 = []
    · rw [hne]; exact .inl rfl
    · obtain ⟨g1, o, hq, hFr, _⟩ := hfree hne
      rw [hq]; exact hFr.at
  · obtain ⟨g1, o, hq, hFr, hg1, hnf⟩ := hfree hne
    exact ⟨g1, o, hq, hFr, by omega, hnf, by omega, fun hc => by have := hv g1 hc; omega⟩

set_option maxRecDepth 100000 in
set_option maxHeartbeats 1000000 in
theorem step_read (h : Alike Rep a g w0 n w s) (K : DevOk I Rep) (hI : I w0.heap.size w0) (hn : n ≤ 2999999999999) (N M : Int) (hN1 : -9223372036854775808 ≤ N) (hN2 : N ≤ 9223372036854775807) (hM1 : -9223372036854775808 ≤ M) (hM2 : M ≤ 9223372036854775807) (p : Option Addr) (c len : Nat) :
    Calls Try.prog 13 #[.pointer (some a), .pointer (some ⟨g, 0, none⟩), .agg #[.int .i64 4, .int .i64 N, .int .i64 M, .slice p len c]] w (Stepped Rep a g w0 (n + 1)) := by
  have hlen := h.2.len
  have HC := Lib.hid (two_reads K hI h ((Below.refl _ _).alloc (Nat.le_refl _) (.cells #[.int .i64 4, .int .i64 N, .int .i64 M, .slice p len c] 34)) hn N M hN1 hN2 hM1 hM2)
  have HK := Lib.hid K
  have hLl : (Dv.read s N M).1.length ≤ 2097152 := by
    unfold Dv.read
    split
    · simp
    · simp only [List.length_take, List.length_drop]; omega
  obtain ⟨L, hL⟩ : ∃ L, L = (Dv.read s N M).1 := ⟨_, rfl⟩
  obtain ⟨er, her⟩ : ∃ er, er = (Dv.read s N M).2.1 := ⟨_, rfl⟩
  obtain ⟨s3, hs3⟩ : ∃ s3, s3 = (Dv.read s N M).2.2 := ⟨_, rfl⟩
  rw [← hL, ← her, ← hs3] at HC
  rw [← hL] at hLl
  clear h hI hL her hs3 K
  go_enter Try.func13, Try.ntmps13
  go_wp2_with fail
  refine HC.out.mono ?_
  rintro e w2 ⟨q, cap, rfl, hk, hC⟩
  have HC2 := Lib.hid hC
  obtain ⟨d0, d1, d2, d3⟩ := box_on (hk w.heap.size (Nat.le_refl _) (by simp))
  clear hC HC hk
  go_wp2_with fail
  refine HC2.out.mono ?_
  rintro e w3 ⟨q', cap', rfl, hA1, hA2, F3, v3, hB3, hN3, hfr⟩
  have HS := Lib.hid (same_any q q' cap cap' L L (by omega) w3 hA1 hA2)
  have el : (L == L) = true := by simp
  rw [el] at HS
  have HB3 := Lib.hid hB3
  have HN3 := Lib.hid hN3
  have HFr := Lib.hid hfr
  clear hA1 hA2 hB3 hN3 hfr HC2 el d0 d1 d2 d3
  go_wp2_with fail
  refine HS.out.mono ?_
  rintro e w' ⟨rfl, k, hw⟩
  rw [hw]
  clear hw w' HS
  have HB4 := Lib.hid (HB3.out.below HK.out (below_drewN (Below.refl _ w3) k))
  by_cases hL0 : L = []
  · subst hL0
    clear HFr HB3
    generalize w3.drewN k = w4 at HB4 ⊢
    go_wp2
    go_loopw [16] (fun v16 wr => v16 = .int .i64 0 ∧ Hid (wr = w4)) (fun _ _ => 0)
    case atStart => exact ⟨rfl, rfl⟩
    case round =>
      obtain ⟨rfl, HW⟩ := hrel
      go_wp2
      go_ret
      rw [HW.out]
      exact ⟨rfl, s3, F3, v3, HB4.out, HN3.out⟩
  · obtain ⟨g1, o, rfl, hF3, hw01, hap⟩ := HFr.out hL0
    have HF4 := Lib.hid (hF3.like (w' := w3.drewN k) rfl)
    have HAp := Lib.hid hap
    clear HFr HB3 hF3 hap
    generalize w3.drewN k = w4 at HB4 HF4 ⊢
    go_wp2
    go_loopw [16] (fun v16 wr => ∃ (i : Nat) (L2 : List UInt8), i ≤ L.length ∧ v16 = .int .i64 i ∧ Hid (L2.length = L.length ∧ Free wr g1 o L2 ∧ Aside (· = g1) w4 wr)) (fun v16 _ => L.length - (intOf v16).toNat)
    case atStart => exact ⟨0, L, by omega, rfl, rfl, HF4.out, Aside.refl _ _⟩
    case round =>
      obtain ⟨i, L2, hi, rfl, HL⟩ := hrel
      by_cases hlt : i < L.length
      · have hiL : i < L2.length := by rw [HL.out.1]; exact hlt
        obtain ⟨z, hcell⟩ : ∃ z : Nat, wr.cell? ⟨g1, o + i, none⟩ = some (.int .u8 (z : Int)) := ⟨_, HL.out.2.1.2.1 i hiL⟩
        have hfz := HL.out.2.1.2.2 i hiL
        have HN : Hid ((L2.set i 98).length = L.length ∧ Free (wr.setCell ⟨g1, o + i, none⟩ (.int .u8 98)) g1 o (L2.set i 98) ∧ Aside (· = g1) w4 (wr.setCell ⟨g1, o + i, none⟩ (.int .u8 98))) :=
          ⟨by rw [List.length_set]; exact HL.out.1, HL.out.2.1.set i 98 hiL, HL.out.2.2.setCell (.inl rfl) _⟩
        have hi1 : (i : Int) < (L.length : Int) := by omega
        clear HL hiL
        generalize L2.set i 98 = L3 at HN
        go_wp2
        go_roundw
        case rel => exact ⟨i + 1, L3, by omega, by go_num, HN⟩
        case measure => simp [intOf]; omega
      · have hil : ¬ (i : Int) < (L.length : Int) := by omega
        have HB5 := Lib.hid (HB4.out.apart HK.out HL.out.2.2 (fun x hx => by subst hx; exact ⟨hw01, HAp.out.1, HAp.out.2.1, HAp.out.2.2⟩))
        clear HL hlt
        go_wp2
        go_ret
        exact ⟨rfl, s3, F3, v3, HB5.out, HN3.out⟩

/-- any step -/
theorem step_any (h : Alike Rep a g w0 n w s) (K : DevOk I Rep) (hI : I w0.heap.size w0) (hn : n ≤ 2999999999999) (kd N M : Int) (hN1 : -9223372036854775808 ≤ N) (hN2 : N ≤ 9223372036854775807) (hM1 : -9223372036854775808 ≤ M) (hM2 : M ≤ 9223372036854775807) (p : Option Addr) (c : Nat) (l : List UInt8) (hl : l.length ≤ 140737488351232) (hlc : l.length ≤ c) (hA : At w0 p l) (hp : l ≠ [] → ∀ b o, p = some ⟨b, o, none⟩ → b < w0.heap.size) :
    Calls Try.prog 13 #[.pointer (some a), .pointer (some ⟨g, 0, none⟩), .agg #[.int .i64 kd, .int .i64 N, .int .i64 M, .slice p l.length c]] w (Stepped Rep a g w0 (n + 1)) := by
  by_cases h1 : kd = 1
  · subst h1; exact step_write h K hI hn N M p c l hl hA hp
  by_cases h2 : kd = 2
  · subst h2; exact step_sync h K hI hn N M p c l.length
  by_cases h3 : kd = 3
  · subst h3; exact step_cut h K hI hn N M hN1 hN2 p c l.length
  by_cases h4 : kd = 4
  · subst h4; exact step_read h K hI hn N M hN1 hN2 hM1 hM2 p c l.length
  by_cases h5 : kd = 5
  · subst h5; exact step_fail h K hI hn N M hN1 hN2 hM1 hM2 p c l.length
  by_cases h6 : kd = 6
  · subst h6; exact step_start h K hI hn N M p c l.length
  by_cases h7 : kd = 7
  · subst h7; exact step_damage h K hI hn N M hN1 hN2 p c l.length
  by_cases h8 : kd = 8
  · subst h8; exact step_tail h K hI hn N M p c l hl hlc hA hp
  by_cases h9 : kd = 9
  · subst h9; exact step_look h K hI hn N M p c l.length
  exact step_none h K kd N M (fun i hi1 hi2 hc => by omega) p c l.length
end
end Go.Proofs.Ytoibeajcepbpjaa
