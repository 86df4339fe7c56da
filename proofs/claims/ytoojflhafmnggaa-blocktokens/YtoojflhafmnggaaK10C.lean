/- The landed block's unpacker: tokens, packed bytes. -/
import Derived.Test.YtoojflhafmnggaaK10B
namespace Go.Proofs.Ytoojflhafmnggaa
open Go.RowKit

def lenV : Value → Nat
  | .slice _ n _ => n
  | _ => 0

/-- what is unpacked, of the call's own -/
def ResV (w : World) (r : Blk.Res) (e : Ending) (w' : World) : Prop :=
  ∃ q m cap, e = .returned (.tuple #[.slice q m cap, .int .i64 (r.err : Nat)]) ∧ m = r.out.length ∧ Has w' w.heap.size (.slice q m cap) r.out ∧ Below w.heap.size w w'

set_option maxRecDepth 100000 in
set_option maxHeartbeats 4000000 in
theorem unpackTokensK (t : List UInt8) (q : Option Addr) (c : Nat) (w : World) (ht : t.length ≤ 140737488351232) (htc : t.length ≤ c) (hq : At w q t) :
    Calls Try.prog 20 #[.slice q t.length c] w (ResV w (Blk.toks [] t)) := by
  have HQ := Lib.hid (hq.atB (Nat.le_refl w.heap.size))
  clear hq
  go_enter Try.func20, Try.ntmps20
  go_wp2_with fail
  go_step3
  go_wp2_with fail
  go_step3
  go_wp2_with fail
  go_loopw [0, 4, 5] (fun v0 v4 v5 wr => ∃ (out t' : List UInt8) (q' : Option Addr) (c' : Nat), v0 = .slice q' t'.length c' ∧ v5 = .int .i64 0 ∧ out.length ≤ 2048 ∧ t'.length ≤ 140737488351232 ∧ t'.length ≤ c' ∧ Hid (AtB wr w.heap.size q' t' ∧ Has wr w.heap.size v4 out ∧ Below w.heap.size w wr ∧ Blk.toks [] t = Blk.toks out t')) (fun v0 _ _ _ => lenV v0)
  case atStart => exact ⟨[], t, q, c, rfl, rfl, by simp, ht, htc, HQ.out, has_nil _ _, Below.refl _ _, rfl⟩
  case round =>
    obtain ⟨out, t', q', c', rfl, rfl, ho2, ht2, htc2, HK⟩ := hrel
    obtain ⟨p, cap, rfl, -, hcap⟩ := HK.out.2.1.at
    have HAt := Lib.hid HK.out.1
    have HHas := Lib.hid HK.out.2.1
    have HBl := Lib.hid HK.out.2.2.1
    have HEq := Lib.hid HK.out.2.2.2
    have hB2 := HBl.out.size
    clear HK
    by_cases hend : t'.length = 0
    · have he : t' = [] := List.eq_nil_of_length_eq_zero hend
      subst he
      clear hend
      go_wp2
      try rw [Exit.noGoto_ret]
      go_ret2
      refine ⟨p, out.length, cap, ?_, ?_, ?_, HBl.out⟩
      · rw [HEq.out, Blk.toks_nil]; rfl
      · rw [HEq.out, Blk.toks_nil]
      · rw [HEq.out, Blk.toks_nil]; exact HHas.out
    · have hpos : 0 < t'.length := by omega
      have HG := Lib.hid (get_any q' c' t' 0 ht2 htc2 wr HAt.out.at_)
      by_cases hge : (Leb.get t').err ≠ 0
      · have HV := Lib.hid (gotV_bad0 t' hge)
        rw [HV.out] at HG
        have hse : Blk.step out t' = ⟨(Leb.get t').err, [], []⟩ := by unfold Blk.step; rw [if_pos hge]
        have HTK := Lib.hid (Blk.toks_err (out := out) (List.ne_nil_of_length_pos hpos) (by rw [hse]; exact hge))
        rw [hse] at HTK
        obtain ⟨er, her⟩ : ∃ er, er = (Leb.get t').err := ⟨_, rfl⟩
        rw [← her] at HTK HG hge
        have ge : ((er : Int) == 0) = false := by rw [beq_eq_false_iff_ne]; omega
        have s2 := fun w => run_cut_l .i64 q' t'.length c' 0 (by omega) w
        clear her HV hse
        go_wp2_with fail
        refine HG.out.mono ?_
        rintro e w' ⟨rfl, hw⟩
        rw [hw]
        clear hw w'
        go_wp2
        try rw [Exit.noGoto_ret]
        go_ret2
        refine ⟨none, 0, 0, ?_, ?_, ?_, HBl.out⟩
        · rw [HEq.out, HTK.out]; rfl
        · rw [HEq.out, HTK.out]; rfl
        · rw [HEq.out, HTK.out]; exact has_nil _ _
      · have hok := Leb.get_ok t' (by omega)
        have HV := Lib.hid (gotV_ok0 t' (by omega))
        rw [HV.out] at HG
        have hkl := hok.2.2.1
        have s2 := fun w => run_cut_l .i64 q' t'.length c' (Leb.get t').k hkl w
        have HC := Lib.hid (HAt.out.cut (Leb.get t').k c' htc2)
        have hn64 := hok.1
        have hsl : Blk.step out t' = if (Leb.get t').n % 2 = 0 then Blk.takeL out (t'.drop (Leb.get t').k) ((Leb.get t').n / 2) else Blk.takeM out (t'.drop (Leb.get t').k) ((Leb.get t').n / 2) := by
          conv => lhs; unfold Blk.step
          rw [if_neg hge]
        have hdl : (t'.drop (Leb.get t').k).length = t'.length - (Leb.get t').k := List.length_drop
        obtain ⟨n, hn⟩ : ∃ n, n = (Leb.get t').n := ⟨_, rfl⟩
        obtain ⟨kk, hkk⟩ : ∃ kk, kk = (Leb.get t').k := ⟨_, rfl⟩
        rw [← hn, ← hkk] at HG hsl
        rw [← hkk] at s2 HC hkl hdl
        rw [← hn] at hn64
        obtain ⟨q1, hq1⟩ : ∃ q1, q1 = cutP q' kk c' := ⟨_, rfl⟩
        obtain ⟨c1, hc1⟩ : ∃ c1, c1 = c' - kk := ⟨_, rfl⟩
        obtain ⟨t1, ht1⟩ : ∃ t1, t1 = t'.drop kk := ⟨_, rfl⟩
        rw [← ht1] at HC hsl hdl
        rw [← hq1] at HC
        rw [← hq1, ← hc1, ← hdl] at s2
        have HST0 := Lib.hid hsl
        have hd2 : t1.length ≤ t'.length := by omega
        have hd3 : t1.length ≤ c1 := by omega
        have HL : Hid (∀ z : Int, z = ((n / 2 : Nat) : Int) → Calls Try.prog 26 #[.slice p out.length cap, .slice q1 t1.length c1, .int .u64 z] wr (TokV wr w.heap.size (Blk.takeL out t1 (n / 2)))) := fun z hz => by
          subst hz
          exact takeLitK out t1 (n / 2) (by omega) w.heap.size _ q1 c1 wr hB2 ho2 (by omega) hd3 HHas.out HC.out
        have HM : Hid (∀ z : Int, z = ((n / 2 : Nat) : Int) → Calls Try.prog 27 #[.slice p out.length cap, .slice q1 t1.length c1, .int .u64 z] wr (TokV wr w.heap.size (Blk.takeM out t1 (n / 2)))) := fun z hz => by
          subst hz
          exact takeMatK out t1 (n / 2) (by omega) w.heap.size _ q1 c1 wr hB2 ho2 (by omega) hd3 HHas.out HC.out
        clear hok HV hge hsl hn hkk hq1 hc1 ht1 hdl
        by_cases hpar : n % 2 = 0
        · have gp : ((n : Int) % 2 == 0) = true := by rw [beq_iff_eq]; omega
          have hst : Blk.step out t' = Blk.takeL out t1 (n / 2) := by rw [HST0.out, if_pos hpar]
          rw [← hst] at HL
          clear hst HST0 HM hpar
          go_wp2_with fail
          refine HG.out.mono ?_
          rintro e w' ⟨rfl, hw⟩
          rw [hw]
          clear hw w'
          go_wp2_with fail
          refine (HL.out _ (by omega)).mono ?_
          rintro e w2 ⟨qq, mm, cc, q2, m2, c2, rfl, H4, H5⟩
          by_cases hk : (Blk.step out t').err = 0
          · have HOK := Lib.hid (H4 hk)
            have HST := Lib.hid (Blk.step_ok hk ho2)
            have HTK := Lib.hid (Blk.toks_step (List.ne_nil_of_length_pos (by omega)) ho2 hk)
            have hl1 := HST.out.1
            have hl2 := HST.out.2
            obtain ⟨e1, -, e3, e4, -⟩ := H4 hk
            obtain ⟨k, hkk⟩ : ∃ k, k = Blk.step out t' := ⟨_, rfl⟩
            rw [← hkk] at HOK HTK hl1 hl2 e1 e3 e4 hk ⊢
            rw [hk]
            subst e1
            subst e3
            clear H4 hkk HST
            go_wp2_with fail
            go_roundw
            case rel => exact ⟨k.out, k.rest, q2, c2, rfl, rfl, hl1, by omega, e4, HOK.out.2.2.2.2, HOK.out.2.1, HBl.out.trans H5, HEq.out.trans HTK.out⟩
            case measure => simp [lenV]; exact hl2
          · have HTK := Lib.hid (Blk.toks_err (List.ne_nil_of_length_pos (by omega)) hk)
            obtain ⟨er, her⟩ : ∃ er, er = (Blk.step out t').err := ⟨_, rfl⟩
            rw [← her] at HTK hk ⊢
            have ge : ((er : Int) == 0) = false := by rw [beq_eq_false_iff_ne]; omega
            clear H4 her
            go_wp2
            try rw [Exit.noGoto_ret]
            go_ret2
            refine ⟨none, 0, 0, ?_, ?_, ?_, HBl.out.trans H5⟩
            · rw [HEq.out, HTK.out]; rfl
            · rw [HEq.out, HTK.out]; rfl
            · rw [HEq.out, HTK.out]; exact has_nil _ _
        · have gp : ((n : Int) % 2 == 0) = false := by rw [beq_eq_false_iff_ne]; omega
          have hst : Blk.step out t' = Blk.takeM out t1 (n / 2) := by rw [HST0.out, if_neg hpar]
          rw [← hst] at HM
          clear hst HST0 HL hpar
          go_wp2_with fail
          refine HG.out.mono ?_
          rintro e w' ⟨rfl, hw⟩
          rw [hw]
          clear hw w'
          go_wp2_with fail
          refine (HM.out _ (by omega)).mono ?_
          rintro e w2 ⟨qq, mm, cc, q2, m2, c2, rfl, H4, H5⟩
          by_cases hk : (Blk.step out t').err = 0
          · have HOK := Lib.hid (H4 hk)
            have HST := Lib.hid (Blk.step_ok hk ho2)
            have HTK := Lib.hid (Blk.toks_step (List.ne_nil_of_length_pos (by omega)) ho2 hk)
            have hl1 := HST.out.1
            have hl2 := HST.out.2
            obtain ⟨e1, -, e3, e4, -⟩ := H4 hk
            obtain ⟨k, hkk⟩ : ∃ k, k = Blk.step out t' := ⟨_, rfl⟩
            rw [← hkk] at HOK HTK hl1 hl2 e1 e3 e4 hk ⊢
            rw [hk]
            subst e1
            subst e3
            clear H4 hkk HST
            go_wp2_with fail
            go_roundw
            case rel => exact ⟨k.out, k.rest, q2, c2, rfl, rfl, hl1, by omega, e4, HOK.out.2.2.2.2, HOK.out.2.1, HBl.out.trans H5, HEq.out.trans HTK.out⟩
            case measure => simp [lenV]; exact hl2
          · have HTK := Lib.hid (Blk.toks_err (List.ne_nil_of_length_pos (by omega)) hk)
            obtain ⟨er, her⟩ : ∃ er, er = (Blk.step out t').err := ⟨_, rfl⟩
            rw [← her] at HTK hk ⊢
            have ge : ((er : Int) == 0) = false := by rw [beq_eq_false_iff_ne]; omega
            clear H4 her
            go_wp2
            try rw [Exit.noGoto_ret]
            go_ret2
            refine ⟨none, 0, 0, ?_, ?_, ?_, HBl.out.trans H5⟩
            · rw [HEq.out, HTK.out]; rfl
            · rw [HEq.out, HTK.out]; rfl
            · rw [HEq.out, HTK.out]; exact has_nil _ _
end Go.Proofs.Ytoojflhafmnggaa
