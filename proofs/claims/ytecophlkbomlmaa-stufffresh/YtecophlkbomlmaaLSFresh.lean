/- StuffFresh, over what the laws ask of package stuff. -/
import Derived.Test.YtecophlkbomlmaaStuffC
namespace Go.Proofs.Ytecophlkbomlmaa
open Go.RowKit

theorem At.setCell_ne {w : World} {q : Addr} {l : List UInt8} (h : At w (some q) l) {a : Addr} {v : Value} (hne : q.block ≠ a.block) : At (w.setCell a v) (some q) l := by
  rcases h with rfl | ⟨b, o, he, hlt, hc⟩
  · exact .inl rfl
  · cases he
    refine .inr ⟨b, o, rfl, by simpa [World.setCell] using hlt, fun j hj => ?_⟩
    rw [World.cell?_setCell_other (h := by intro hx; exact hne (by rw [hx]))]
    exact hc j hj

/-- what the first loop keeps: what stood ahead, the copy, and the bytes that are struck -/
def Keeps (wa wr : World) (q : Addr) (S : List UInt8) (g o n : Nat) : Prop := Below wa.heap.size wa wr ∧ At wr (some q) S ∧ ∃ ys : List UInt8, ys.length = n ∧ (n = 0 ∨ Free wr g o ys)

theorem keeps_step {wa wr : World} {q : Addr} {S : List UInt8} {g o n i : Nat} (h : Keeps wa wr q S g o n) (hg : wa.heap.size ≤ g) (hne : q.block ≠ g) (hi : i < n) (v : UInt8) :
    (∃ u, wr.cell? ⟨g, o + i, none⟩ = some u) ∧ wr.frozen? ⟨g, o + i, none⟩ = false ∧ Keeps wa (wr.setCell ⟨g, o + i, none⟩ (.int .u8 (v.toNat : Int))) q S g o n := by
  obtain ⟨h1, h2, ys, h3, h4⟩ := h
  have hF : Free wr g o ys := by
    rcases h4 with h4 | h4
    · omega
    · exact h4
  exact ⟨⟨_, hF.2.1 i (by omega)⟩, hF.2.2 i (by omega), h1.setCell hg _, h2.setCell_ne hne, _, by rw [List.length_set]; exact h3, .inr (hF.set i v (by omega))⟩

set_option maxRecDepth 100000 in
set_option maxHeartbeats 1000000 in
theorem stuffFresh_any {I : World → Prop} (K : StuffOk I) (p : Option Addr) (c : Nat) (l : List UInt8) (hl : l.length ≤ 140737488351232) (hc : l.length ≤ c) (w : World) (hI : I w) (h : At w p l) :
    Calls Try.prog 6 #[.slice p l.length c] w fun e w' => e = .returned (.bool true) ∧ Below w.heap.size w w' := by
  obtain ⟨q, d, W, hrun, hW, hqb, hd, hB⟩ := copy_run p c l w (by omega) h
  have hsl := Cob.stuff_length l
  have HK := Lib.hid K
  have HI := Lib.hid hI
  have A0 := Lib.hid (h.on hB)
  have Q0 := Lib.hid hW
  have B0 := Lib.hid hB
  have hB0 := hB.size
  have HR := Lib.hid (AppRun.mk hrun)
  clear hI h hW hB hrun hd hqb
  go_enter Try.func6, Try.ntmps6
  go_wp2_with (first | (at_builtin; refine wpList_append_ran HR.out rfl rfl rfl rfl ?_))
  refine (HK.out.stuff p c l W (by omega) hc A0.out (HK.out.on HI.out B0.out)).mono ?_
  rintro e w1 ⟨g1, o1, cap1, rfl, hF, hg1, hcap1, hb⟩
  have C1 := Lib.hid hb
  have B1 := Lib.hid (B0.out.trans (hb.mono hB0))
  have hB1 := hb.size
  have S1 := Lib.hid hF
  have hg1' := hF.1
  clear hb hF
  have hun := HK.out.unstuff (some ⟨g1, o1, none⟩) cap1 (Cob.stuff l) w1 (by omega) hcap1 S1.out.at (HK.out.on HI.out B1.out)
  rw [Cob.un_stuff] at hun
  have HUn := Lib.hid hun
  clear hun
  go_wp2_with fail
  refine HUn.out.mono ?_
  rintro e w2 ⟨q2, cap2, rfl, hA2, hcap2, hfree, hb⟩
  have C2 := Lib.hid hb
  have B2 := Lib.hid (B1.out.trans (hb.mono (by omega)))
  have hB2 := hb.size
  have S2 := Lib.hid (S1.out.on hg1' hb)
  obtain ⟨T, hT⟩ : ∃ T, T = Cob.stuff l := ⟨_, rfl⟩
  obtain ⟨q3, d3, W3, hrun3, hW3, hq3, hd3, hB3⟩ := copy_run (some ⟨g1, o1, none⟩) cap1 (Cob.stuff l) w2 (by omega) S2.out.at
  have C3 := Lib.hid hB3
  have hB3s := hB3.size
  have HR3 := Lib.hid (AppRun.mk hrun3)
  have HTl : Hid (T = Cob.stuff l) := hT
  obtain ⟨g2, o2, hg2, hK0, hq2⟩ : ∃ g2 o2, (w1.heap.size ≤ g2 ∧ g2 < w2.heap.size ∨ l.length = 0) ∧ (Hid (Keeps w1 W3 q3 T g2 o2 l.length)) ∧ (l.length = 0 ∨ q2 = some ⟨g2, o2, none⟩) := by
    by_cases h0 : l = []
    · subst h0
      exact ⟨0, 0, .inr rfl, ⟨(C2.out.trans (hB3.mono hB2)), by rw [hT]; exact hW3, [], rfl, .inl rfl⟩, .inl rfl⟩
    · obtain ⟨g2, o2, rfl, hx, hF⟩ := hfree h0
      exact ⟨g2, o2, .inl ⟨hx, hF.1⟩, ⟨(C2.out.trans (hB3.mono hB2)), by rw [hT]; exact hW3, l, rfl, .inr (hF.on hF.1 hB3)⟩, .inr rfl⟩
  have hTl : T.length = (Cob.stuff l).length := by rw [hT]
  rw [← hTl] at hsl hcap1 hd3 HR3 ⊢
  clear hb hA2 hfree hW3 hB3 hrun3 hT hTl HUn
  go_wp2_with (first | (at_builtin; refine wpList_append_ran HR3.out rfl rfl rfl rfl ?_))
  go_loopw [8] (fun v8 wr => ∃ i : Nat, i ≤ l.length ∧ v8 = .int .i64 i ∧ Hid (Keeps w1 wr q3 T g2 o2 l.length)) (fun v8 _ => l.length - (intOf v8).toNat)
  case atStart => exact ⟨0, by omega, rfl, hK0⟩
  case round =>
    obtain ⟨i, hi, rfl, HKp⟩ := hrel
    by_cases hlt : i < l.length
    · have hx : w1.heap.size ≤ g2 ∧ g2 < w2.heap.size := by omega
      have hq2' : q2 = some ⟨g2, o2, none⟩ := by
        rcases hq2 with h | h
        · omega
        · exact h
      subst hq2'
      obtain ⟨⟨u, hu⟩, hfz, hn⟩ := keeps_step HKp.out hx.1 (by omega) hlt 77
      have HN := Lib.hid hn
      have hlt1 : (i : Int) < (l.length : Int) := by omega
      clear hn HKp
      go_wp2
      go_roundw
      case rel => exact ⟨i + 1, by omega, by go_num, HN⟩
      case measure => simp [intOf]; omega
    · have hii : i = l.length := by omega
      subst hii
      have hbw : Below w1.heap.size w1 wr := HKp.out.1
      have S3 : Free wr g1 o1 T := by rw [HTl.out]; exact S1.out.on hg1' hbw
      have T3 := Lib.hid HKp.out.2.1
      have B4 := Lib.hid (B1.out.trans (hbw.mono (by omega)))
      have D4 := Lib.hid (C1.out.trans (hbw.mono hB1))
      have hb4s := hbw.size
      have HS := Lib.hid (same_any (some ⟨g1, o1, none⟩) (some q3) cap1 d3 T T (by omega) wr S3.at T3.out)
      have F4 := Lib.hid S3
      clear HKp hbw S3 hlt hi hK0
      go_wp2_with fail
      refine HS.out.mono ?_
      rintro e w5 ⟨rfl, k5, hw5⟩
      rw [beq_self_eq_true]
      have E5 : Hid (Below wr.heap.size wr w5) := by rw [hw5]; exact below_drewN (Below.refl _ _) k5
      have hK5 : Hid (Keeps W w5 q3 T g1 o1 T.length) := ⟨D4.out.trans (E5.out.mono (by omega)), T3.out.on E5.out, T, rfl, .inr (F4.out.on F4.out.1 E5.out)⟩
      clear hw5 HS T3 F4 E5 D4
      go_wp2
      go_loopw [10] (fun v10 wr => ∃ i : Nat, i ≤ T.length ∧ v10 = .int .i64 i ∧ Hid (Keeps W wr q3 T g1 o1 T.length)) (fun v10 _ => T.length - (intOf v10).toNat)
      case atStart => exact ⟨0, by omega, rfl, hK5⟩
      case round =>
        obtain ⟨i, hi, rfl, HKp⟩ := hrel
        by_cases hlt : i < T.length
        · obtain ⟨⟨u, hu⟩, hfz, hn⟩ := keeps_step HKp.out hg1 (by omega) hlt 78
          have HN := Lib.hid hn
          have hlt1 : (i : Int) < (T.length : Int) := by omega
          clear hn HKp
          go_wp2
          go_roundw
          case rel => exact ⟨i + 1, by omega, by go_num, HN⟩
          case measure => simp [intOf]; omega
        · have hii : i = T.length := by omega
          subst hii
          have hbw : Below W.heap.size W wr := HKp.out.1
          have T6 := HKp.out.2.1
          have B6 := Lib.hid (B0.out.trans (hbw.mono hB0))
          have A6 := Lib.hid (A0.out.on hbw)
          have Q6 := Lib.hid (Q0.out.on hbw)
          have hun := HK.out.unstuff (some q3) d3 T wr (by omega) hd3 T6 (HK.out.on HI.out B6.out)
          rw [HTl.out, Cob.un_stuff, ← HTl.out] at hun
          have HUn := Lib.hid hun
          clear hun HKp hbw T6 hlt hi hK5 B4
          go_wp2_with fail
          refine HUn.out.mono ?_
          rintro e w7 ⟨q7, cap7, rfl, hA7, -, -, h⟩
          have B7 := Lib.hid (B6.out.trans (h.mono B6.out.size))
          have A7 := Lib.hid (A6.out.on h)
          have Q7 := Lib.hid (Q6.out.on h)
          have D7 := Lib.hid hA7
          clear h hA7 A6 Q6 HUn
          go_wp2_with fail
          refine (stuffLive_ok HK.out w7 (HK.out.on HI.out B7.out)).mono ?_
          rintro e w8 ⟨rfl, h⟩
          have B8 := Lib.hid (B7.out.trans (h.mono B7.out.size))
          have Q8 := Lib.hid (Q7.out.on h)
          have D8 := Lib.hid (D7.out.on h)
          have HS := Lib.hid (same_any p (some q) c d l l (by omega) w8 (A7.out.on h) (Q7.out.on h))
          clear h A7 Q7 D7
          go_wp2_with fail
          refine HS.out.mono ?_
          rintro e w9 ⟨rfl, k9, hw9⟩
          rw [beq_self_eq_true]
          have E9 : Hid (Below w8.heap.size w8 w9) := by rw [hw9]; exact below_drewN (Below.refl _ _) k9
          have B9 := Lib.hid (B8.out.trans (E9.out.mono B8.out.size))
          have HS2 := Lib.hid (same_any q7 (some q) cap7 d l l (by omega) w9 (D8.out.on E9.out) (Q8.out.on E9.out))
          clear hw9 HS E9 Q8 D8
          go_wp2_with fail
          refine HS2.out.mono ?_
          rintro e w10 ⟨rfl, k10, hw10⟩
          rw [beq_self_eq_true]
          have B10 : Hid (Below w.heap.size w w10) := by rw [hw10]; exact below_drewN B9.out k10
          clear hw10 HS2
          go_wp2
          go_ret
          exact ⟨rfl, B10.out⟩
end Go.Proofs.Ytecophlkbomlmaa
