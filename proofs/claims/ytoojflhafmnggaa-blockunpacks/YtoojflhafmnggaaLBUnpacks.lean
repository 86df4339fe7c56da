/- BlockUnpacks. -/
import Derived.Test.YtoojflhafmnggaaWLive10
import Derived.Test.YtoojflhafmnggaaWRef10U
namespace Go.Proofs.Ytoojflhafmnggaa
open Go.RowKit

/-- while bytes of the call's own are struck: what stood ahead, the document's answer, and as many of them as there were -/
def Kept (wa wr : World) (q : Option Addr) (S : List UInt8) (g n : Nat) : Prop := Below wa.heap.size wa wr ∧ At wr q S ∧ ∃ ys : List UInt8, ys.length = n ∧ (n = 0 ∨ Free wr g 0 ys)
theorem kept_step {wa wr : World} {q : Option Addr} {S : List UInt8} {g n i : Nat} (h : Kept wa wr q S g n) (hg : wa.heap.size ≤ g) (hne : ∀ b o, q = some ⟨b, o, none⟩ → b ≠ g) (hi : i < n) (v : UInt8) :
    (∃ u, wr.cell? ⟨g, i, none⟩ = some u) ∧ wr.frozen? ⟨g, i, none⟩ = false ∧ Kept wa (wr.setCell ⟨g, i, none⟩ (.int .u8 (v.toNat : Int))) q S g n := by
  obtain ⟨h1, h2, ys, h3, h4⟩ := h
  have hF : Free wr g 0 ys := by
    rcases h4 with h4 | h4
    · omega
    · exact h4
  have hc := hF.2.1 i (by omega)
  have hz := hF.2.2 i (by omega)
  have hs := hF.set i v (by omega)
  rw [Nat.zero_add] at hc hz hs
  exact ⟨⟨_, hc⟩, hz, h1.setCell (p := ⟨g, i, none⟩) hg _, h2.aside ((Aside.refl (fun k => k = g) wr).setCell (p := ⟨g, i, none⟩) (.inl rfl) _) hne, _, by rw [List.length_set]; exact h3, .inr hs⟩

set_option maxRecDepth 100000 in
set_option maxHeartbeats 1000000 in
theorem blockUnpacks_any (p : Option Addr) (c : Nat) (l : List UInt8) (hl : l.length ≤ 140737488351232) (hc : l.length ≤ c) (w : World) (h : At w p l) :
    Calls Try.prog 6 #[.slice p l.length c] w fun e w' => e = .returned (.bool true) ∧ Below w.heap.size w w' := by
  obtain ⟨q, d, W, hrun, hW, hqb, hd, hB⟩ := copy_run p c l w hl h
  have A0 := Lib.hid (h.on hB)
  have Q0 := Lib.hid hW
  have B0 := Lib.hid hB
  have hB0 := hB.size
  have HR := Lib.hid (AppRun.mk hrun)
  have hul := (Blk.unpack_len l).1
  obtain ⟨U, hU⟩ : ∃ U, U = Blk.unpack l := ⟨_, rfl⟩
  have HU : Hid (∀ w', At w' p l → Calls Try.prog 14 #[.slice p l.length c] w' (ResV w' U)) := fun w' h => by rw [hU]; exact unpackK l p c w' hl hc h
  have HV : Hid (∀ w', At w' (some q) l → Calls Try.prog 11 #[.slice (some q) l.length d] w' (ResV w' U)) := fun w' h => by rw [hU]; exact refUnpackK l (some q) d w' hl hd h
  rw [← hU] at hul
  clear h hW hB hrun hqb hU
  obtain ⟨ue, uo⟩ := U
  dsimp only at hul
  go_enter Try.func6, Try.ntmps6
  go_wp2_with (first | (at_builtin; refine wpList_append_ran HR.out rfl rfl rfl rfl ?_))
  refine (HU.out W A0.out).mono ?_
  rintro e w1 ⟨q1, m1, cap1, rfl, hm1, hh1, hb1⟩
  dsimp only at hm1 hh1
  subst hm1
  have B1 := Lib.hid (B0.out.trans (hb1.mono hB0))
  have C1 := Lib.hid hb1
  have A1 := Lib.hid (A0.out.on hb1)
  have Q1 := Lib.hid (Q0.out.on hb1)
  have S1 := Lib.hid hh1
  have H1 : Hid (∀ k, (Value.slice q1 uo.length cap1).ownBlock = some k → k < w1.heap.size) := fun k hk => (hh1.lt k hk).2
  have hs1 := hb1.size
  clear hh1 hb1
  go_wp2_with fail
  refine (HV.out w1 Q1.out).mono ?_
  rintro e w2 ⟨q2, m2, cap2, rfl, hm2, hh2, hb2⟩
  dsimp only at hm2 hh2
  subst hm2
  have B2 := Lib.hid (B1.out.trans (hb2.mono B1.out.size))
  have C2 := Lib.hid (C1.out.trans (hb2.mono hs1))
  have A2 := Lib.hid (A1.out.on hb2)
  have Q2 := Lib.hid (Q1.out.on hb2)
  have S2 := Lib.hid (S1.out.on hb2)
  have R2 := Lib.hid hh2
  have hs2 := hb2.size
  have HS := Lib.hid (same_any q1 q2 cap1 cap2 uo uo (by omega) w2 S2.out.at'.1 R2.out.at'.1)
  clear hh2 hb2 A1 Q1 S1 C1 B1
  go_wp2_with fail
  refine HS.out.mono ?_
  rintro e w3 ⟨rfl, k3, hw3⟩
  have D3 : Hid (Below w2.heap.size w2 w3) := by rw [hw3]; exact below_drewN (Below.refl _ _) k3
  have B3 := Lib.hid (B2.out.trans (D3.out.mono B2.out.size))
  have C3 := Lib.hid (C2.out.trans (D3.out.mono (by omega)))
  have A3 := Lib.hid (A2.out.on D3.out)
  have Q3 := Lib.hid (Q2.out.on D3.out)
  have S3 := Lib.hid (S2.out.on D3.out)
  have R3 := Lib.hid (R2.out.on D3.out)
  have hs3 := D3.out.size
  have HS2 := Lib.hid (same_any p (some q) c d l l hl w3 A3.out Q3.out)
  rw [beq_self_eq_true]
  clear hw3 D3 HS A2 Q2 S2 R2 C2 B2
  go_wp2_with fail
  refine HS2.out.mono ?_
  rintro e w4 ⟨rfl, k4, hw4⟩
  have D4 : Hid (Below w3.heap.size w3 w4) := by rw [hw4]; exact below_drewN (Below.refl _ _) k4
  have B4 := Lib.hid (B3.out.trans (D4.out.mono B3.out.size))
  have C4 := Lib.hid (C3.out.trans (D4.out.mono (by omega)))
  have A4 := Lib.hid (A3.out.on D4.out)
  have Q4 := Lib.hid (Q3.out.on D4.out)
  have S4 := Lib.hid (S3.out.on D4.out)
  have R4 := Lib.hid (R3.out.on D4.out)
  have hs4 := D4.out.size
  rw [beq_self_eq_true]
  clear hw4 D4 HS2 A3 Q3 S3 R3 C3 B3
  obtain ⟨g1, hq1, HK0, hne⟩ : ∃ g1, (uo.length = 0 ∨ (q1 = some ⟨g1, 0, none⟩ ∧ W.heap.size ≤ g1)) ∧ Hid (Kept W w4 q2 uo g1 uo.length) ∧ (uo.length = 0 ∨ ∀ b o, q2 = some ⟨b, o, none⟩ → b ≠ g1) := by
    rcases S4.out.form with ⟨e1, e2⟩ | ⟨g, cap', e1, hm⟩
    · subst e2
      exact ⟨0, .inl rfl, ⟨C4.out, R4.out.at'.1, [], rfl, .inl rfl⟩, .inl rfl⟩
    · injection e1 with e1 e2 e3
      subst e1
      have hlt := H1.out g rfl
      refine ⟨g, .inr ⟨rfl, (S4.out.lt g rfl).1⟩, ⟨C4.out, R4.out.at'.1, uo, rfl, .inr hm.free⟩, .inr (fun b o hb => ?_)⟩
      have h2 := (R4.out.lt b (by rw [hb]; rfl)).1
      omega
  clear S4 R4
  go_wp2_with fail
  go_loopw [9] (fun v9 wr => ∃ i : Nat, i ≤ uo.length ∧ v9 = .int .i64 i ∧ Hid (Kept W wr q2 uo g1 uo.length)) (fun v9 _ => uo.length - (intOf v9).toNat)
  case atStart => exact ⟨0, by omega, rfl, HK0⟩
  case round =>
    obtain ⟨i, hi, rfl, HK⟩ := hrel
    by_cases hlt : i < uo.length
    · obtain ⟨rfl, hg⟩ := hq1.resolve_left (by omega)
      obtain ⟨⟨u, hu⟩, hfz, hn⟩ := kept_step HK.out hg (hne.resolve_left (by omega)) hlt 77
      have HN := Lib.hid hn
      have hlt1 : (i : Int) < (uo.length : Int) := by omega
      clear hn HK
      go_wp2
      go_roundw
      case rel => exact ⟨i + 1, by omega, by go_num, HN⟩
      case measure => simp [intOf]; omega
    · have hii : i = uo.length := by omega
      have C5 := Lib.hid HK.out.1
      have B5 := Lib.hid (B0.out.trans (C5.out.mono hB0))
      have A5 := Lib.hid (A0.out.on C5.out)
      have Q5 := Lib.hid (Q0.out.on C5.out)
      have R5 := Lib.hid HK.out.2.1
      have U5 := Lib.hid (HU.out wr A5.out)
      subst hii
      clear HK hlt hi HK0 A4 Q4 B4 C4
      go_wp2_with fail
      refine U5.out.mono ?_
      rintro e w6 ⟨q6, m6, cap6, rfl, hm6, hh6, hb6⟩
      dsimp only at hm6 hh6
      subst hm6
      have B6 := Lib.hid (B5.out.trans (hb6.mono B5.out.size))
      have A6 := Lib.hid (A5.out.on hb6)
      have Q6 := Lib.hid (Q5.out.on hb6)
      have R6 := Lib.hid (R5.out.on hb6)
      have S6 := Lib.hid hh6.at'.1
      clear hh6 hb6 U5 A5 Q5 R5
      go_wp2_with fail
      refine (live10 w6).mono ?_
      rintro e w7 ⟨rfl, hb7⟩
      have B7 := Lib.hid (B6.out.trans (hb7.mono B6.out.size))
      have R7 := Lib.hid (R6.out.on hb7)
      have S7 := Lib.hid (S6.out.on hb7)
      have HS3 := Lib.hid (same_any p (some q) c d l l hl w7 (A6.out.on hb7) (Q6.out.on hb7))
      clear hb7 A6 Q6 R6 S6
      go_wp2_with fail
      refine HS3.out.mono ?_
      rintro e w8 ⟨rfl, k8, hw8⟩
      have D8 : Hid (Below w7.heap.size w7 w8) := by rw [hw8]; exact below_drewN (Below.refl _ _) k8
      have B8 := Lib.hid (B7.out.trans (D8.out.mono B7.out.size))
      have HS4 := Lib.hid (same_any q6 q2 cap6 cap2 uo uo (by omega) w8 (S7.out.on D8.out) (R7.out.on D8.out))
      rw [beq_self_eq_true]
      clear hw8 D8 HS3 R7 S7
      go_wp2_with fail
      refine HS4.out.mono ?_
      rintro e w9 ⟨rfl, k9, hw9⟩
      have B9 : Hid (Below w.heap.size w w9) := by rw [hw9]; exact below_drewN B8.out k9
      rw [beq_self_eq_true]
      clear hw9 HS4
      go_wp2
      go_ret
      exact ⟨rfl, B9.out⟩
end Go.Proofs.Ytoojflhafmnggaa
