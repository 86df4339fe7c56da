/- WRef10U, Al: put together. -/
import Derived.Test.YtpkbdnilakaakaaGreatM45
import Derived.Test.YtpkbdnilakaakaaGreatM05

/- The document's own Unpack. -/
namespace Go.Proofs.YtpkbdnilakaakaaGreat
open Go.RowKit

set_option maxRecDepth 100000 in
set_option maxHeartbeats 4000000 in
theorem refUnpackK (l : List UInt8) (q : Option Addr) (c : Nat) (w : World) (hl : l.length ≤ 140737488351232) (hlc : l.length ≤ c) (hq : At w q l) :
    Calls Tryz.prog 23 #[.slice q l.length c] w (ResV w (Blk.unpack l)) := by
  by_cases hl0 : l = []
  · subst hl0
    go_enter Tryz.func23, Tryz.ntmps23
    go_wp2
    go_ret2
    exact ⟨none, 0, 0, rfl, rfl, has_nil _ _, Below.refl _ _⟩
  · obtain ⟨ch, r, hlr⟩ := List.exists_cons_of_ne_nil hl0
    have hpos : 0 < l.length := List.length_pos_iff.2 hl0
    obtain ⟨b, o, rfl, hb, hcs⟩ := at_some hq hpos
    have c0 : w.cell? ⟨b, o, none⟩ = some (.int .u8 (ch.toNat : Int)) := by
      have := hcs 0 hpos
      simp only [hlr] at this
      exact this
    have HC : Hid (At w (cutP10 (some ⟨b, o, none⟩) 1 c) r) := by
      have := hq.cut10 1 c hlc
      rw [hlr] at this
      exact this
    have hlen : l.length = r.length + 1 := by rw [hlr]; rfl
    obtain ⟨q1, hq1⟩ : ∃ q1, q1 = cutP10 (some ⟨b, o, none⟩) 1 c := ⟨_, rfl⟩
    obtain ⟨c1, hc1⟩ : ∃ c1, c1 = c - 1 := ⟨_, rfl⟩
    have hc256 : ch.toNat < 256 := ch.toNat_lt
    have hu : Blk.unpack l = if ch.toNat = 1 then Blk.toks [] r else if ch.toNat ≠ 0 then ⟨5, []⟩ else if 2048 < r.length then ⟨2, []⟩ else ⟨0, r⟩ := by rw [hlr]; rfl
    obtain ⟨res, hres⟩ : ∃ res, res = Blk.unpack l := ⟨_, rfl⟩
    rw [← hres] at hu ⊢
    rw [← hq1] at HC
    have s3 : ∀ w, (Instr.slice 29 (.slice (some ⟨b, o, none⟩) l.length c) (some (.int .i64 1)) none none).run Tryz.prog w = .ok (.slice q1 r.length c1) w := fun w => by
      have := run_cut_l .i64 (some ⟨b, o, none⟩) l.length c 1 (by omega) w
      rw [← hq1, ← hc1, show l.length - 1 = r.length by omega] at this
      exact this
    have hdr : l.drop 1 = r := by rw [hlr]; rfl
    have HDr := Lib.hid hdr
    have HQ := Lib.hid (hq.atB (Nat.le_refl w.heap.size))
    have HLn := Lib.hid hlen
    have g00 : ((l.length : Int) == 0) = false := by rw [beq_eq_false_iff_ne]; omega
    clear hq1 hc1 hcs hq hres hdr hlr hl0
    obtain ⟨cv, hcv⟩ : ∃ cv, cv = ch.toNat := ⟨_, rfl⟩
    rw [← hcv] at c0 hc256 hu
    clear hcv
    by_cases h1 : 1 < cv
    · rw [if_neg (by omega), if_pos (by omega)] at hu
      have HU := Lib.hid hu
      clear hu hlen
      go_enter Tryz.func23, Tryz.ntmps23
      go_wp2
      go_ret2
      rw [HU.out]
      exact ⟨none, 0, 0, rfl, rfl, has_nil _ _, Below.refl _ _⟩
    by_cases h2 : cv = 0
    · subst h2
      rw [if_neg (by omega), if_neg (by omega)] at hu
      by_cases h3 : 2048 < r.length
      · rw [if_pos h3] at hu
        have HU := Lib.hid hu
        have g2 : 2049 < l.length := by omega
        clear hu hlen
        go_enter Tryz.func23, Tryz.ntmps23
        go_wp2
        go_ret2
        rw [HU.out]
        exact ⟨none, 0, 0, rfl, rfl, has_nil _ _, Below.refl _ _⟩
      · rw [if_neg h3] at hu
        have HU := Lib.hid hu
        have g2 : ¬ 2049 < l.length := by omega
        have hr2 : r.length ≤ 2048 := by omega
        clear hu hlen
        go_enter Tryz.func23, Tryz.ntmps23
        go_wp2_with (first
          | (at_builtin
             refine wp_ontoL (has_nil w w.heap.size) HC.out (by simp; omega) (Nat.le_refl _) rfl rfl rfl rfl rfl ?_
             intro ys q3 cap3 W HY hh ha hk
             have HB := Lib.hid (aside_low ha (has_nil w w.heap.size) (Nat.le_refl _))
             have HH := Lib.hid hh
             clear ha hk hh)
          | fail)
        go_ret2
        rw [HU.out]
        have e : ys = r := HY.out
        rw [e] at HH
        rw [e]
        exact ⟨q3, _, cap3, rfl, rfl, HH.out, HB.out⟩
    · have h11 : cv = 1 := by omega
      subst h11
      rw [if_pos rfl] at hu
      have HU := Lib.hid hu
      clear hu h1 h2 hlen
      go_enter Tryz.func23, Tryz.ntmps23
      go_wp2_with fail
      go_loopw [4, 5] (fun v4 v5 wr => ∃ (out : List UInt8) (a : Nat), v5 = .int .i64 a ∧ out.length ≤ 2048 ∧ a ≤ l.length ∧ Hid (AtB wr w.heap.size (some ⟨b, o, none⟩) l ∧ Has wr w.heap.size v4 out ∧ Below w.heap.size w wr ∧ Blk.toks [] r = Blk.toks out (l.drop a))) (fun _ v5 _ => l.length - (intOf v5).toNat)
      case atStart => exact ⟨[], 1, rfl, by simp, by omega, HQ.out, has_nil _ _, Below.refl _ _, by rw [HDr.out]⟩
      case round =>
        obtain ⟨out, a, rfl, ho2, hal, HK⟩ := hrel
        obtain ⟨p, cap, hv4, -, hcap⟩ := HK.out.2.1.at
        have HAt := Lib.hid HK.out.1
        have HHas := Lib.hid HK.out.2.1
        have HBl := Lib.hid HK.out.2.2.1
        have HEq := Lib.hid HK.out.2.2.2
        have hB2 := HBl.out.size
        rw [hv4] at HHas
        rw [hv4]
        clear HK hv4
        by_cases hend : a = l.length
        · subst hend
          have hd : l.drop l.length = [] := by simp
          rw [hd] at HEq
          clear hd
          go_wp2
          go_ret2
          refine ⟨p, out.length, cap, ?_, ?_, ?_, HBl.out⟩
          · rw [HU.out, HEq.out, Blk.toks_nil]; rfl
          · rw [HU.out, HEq.out, Blk.toks_nil]
          · rw [HU.out, HEq.out, Blk.toks_nil]; exact HHas.out
        · have halt : a < l.length := by omega
          have HG := Lib.hid (refGet_any (some ⟨b, o, none⟩) c l a hl wr HAt.out.at_)
          have hne : l.drop a ≠ [] := fun h => by
            have := congrArg List.length h
            rw [List.length_drop] at this
            simp at this
            omega
          by_cases hge : (Leb.get (l.drop a)).err ≠ 0
          · have HV := Lib.hid (gotV_badN l a hge)
            rw [HV.out] at HG
            have hse : Blk.step out (l.drop a) = ⟨(Leb.get (l.drop a)).err, [], []⟩ := by unfold Blk.step; rw [if_pos hge]
            have HTK := Lib.hid (Blk.toks_err (out := out) hne (by rw [hse]; exact hge))
            rw [hse] at HTK
            obtain ⟨er, her⟩ : ∃ er, er = (Leb.get (l.drop a)).err := ⟨_, rfl⟩
            rw [← her] at HTK HG hge
            have ge : ((er : Int) == 0) = false := by rw [beq_eq_false_iff_ne]; omega
            clear her HV hse
            go_wp2_with fail
            refine HG.out.mono ?_
            rintro e w' ⟨rfl, hw⟩
            rw [hw]
            clear hw w'
            go_wp2
            go_ret2
            refine ⟨none, 0, 0, ?_, ?_, ?_, HBl.out⟩
            · rw [HU.out, HEq.out, HTK.out]; rfl
            · rw [HU.out, HEq.out, HTK.out]; rfl
            · rw [HU.out, HEq.out, HTK.out]; exact has_nil _ _
          have hok := Leb.get_ok (l.drop a) (by omega)
          have HV := Lib.hid (gotV_okN l a (by omega))
          rw [HV.out] at HG
          have hkl := hok.2.2.1
          rw [List.length_drop] at hkl
          have hn64 := hok.1
          have hsl : Blk.step out (l.drop a) = if (Leb.get (l.drop a)).n % 2 = 0 then Blk.takeL out ((l.drop a).drop (Leb.get (l.drop a)).k) ((Leb.get (l.drop a)).n / 2) else Blk.takeM out ((l.drop a).drop (Leb.get (l.drop a)).k) ((Leb.get (l.drop a)).n / 2) := by
            conv => lhs; unfold Blk.step
            rw [if_neg hge]
          rw [List.drop_drop] at hsl
          obtain ⟨n, hn⟩ : ∃ n, n = (Leb.get (l.drop a)).n := ⟨_, rfl⟩
          obtain ⟨kk, hkk⟩ : ∃ kk, kk = a + (Leb.get (l.drop a)).k := ⟨_, rfl⟩
          rw [← hn, ← hkk] at HG hsl
          rw [← hn] at hn64
          have HST0 := Lib.hid hsl
          have hkl2 : kk ≤ l.length := by omega
          have HL : Hid (∀ z : Int, z = ((n / 2 : Nat) : Int) → Calls Tryz.prog 36 #[.slice p out.length cap, .slice (some ⟨b, o, none⟩) l.length c, .int .i64 kk, .int .u64 z] wr (TokR wr w.heap.size l kk (Blk.takeL out (l.drop kk) (n / 2)))) := fun z hz => by
            subst hz
            exact refLitK out l kk (n / 2) (by omega) w.heap.size _ _ c wr hB2 ho2 hl hkl2 HHas.out HAt.out
          have HM : Hid (∀ z : Int, z = ((n / 2 : Nat) : Int) → Calls Tryz.prog 37 #[.slice p out.length cap, .slice (some ⟨b, o, none⟩) l.length c, .int .i64 kk, .int .u64 z] wr (TokR wr w.heap.size l kk (Blk.takeM out (l.drop kk) (n / 2)))) := fun z hz => by
            subst hz
            exact refMatK out l kk (n / 2) (by omega) w.heap.size _ _ c wr hB2 ho2 hl hkl2 HHas.out HAt.out
          have hka : a ≤ kk := by omega
          clear hok HV hge hsl hn hkk hkl
          by_cases hpar : n % 2 = 0
          · have gp : ((n : Int) % 2 == 0) = true := by rw [beq_iff_eq]; omega
            have hst : Blk.step out (l.drop a) = Blk.takeL out (l.drop kk) (n / 2) := by rw [HST0.out, if_pos hpar]
            rw [← hst] at HL
            clear hst HST0 HM hpar
            go_wp2_with fail
            refine HG.out.mono ?_
            rintro e w' ⟨rfl, hw⟩
            rw [hw]
            clear hw w'
            go_wp2_with fail
            refine (HL.out _ (by omega)).mono ?_
            rintro e w2 ⟨qq, mm, cc, nx, rfl, H4, H5⟩
            by_cases hk : (Blk.step out (l.drop a)).err = 0
            · have HOK := Lib.hid (H4 hk)
              have HST := Lib.hid (Blk.step_ok hk ho2)
              have HTK := Lib.hid (Blk.toks_step hne ho2 hk)
              have hl1 := HST.out.1
              have hl2 := HST.out.2
              obtain ⟨e1, -, e3, e4, e5⟩ := H4 hk
              obtain ⟨k, hkk⟩ : ∃ k, k = Blk.step out (l.drop a) := ⟨_, rfl⟩
              rw [← hkk] at HOK HTK hl1 hl2 e1 e3 hk ⊢
              rw [hk]
              subst e1
              rw [e3, List.length_drop, List.length_drop] at hl2
              have HE3 := Lib.hid e3
              clear H4 hkk HST e3
              go_wp2_with fail
              go_roundw
              case rel => exact ⟨k.out, nx, rfl, hl1, e4, HQ.out.keep (HBl.out.trans H5), HOK.out.2.1, HBl.out.trans H5, by rw [HEq.out, HTK.out, HE3.out]⟩
              case measure => simp [intOf]; omega
            · have HTK := Lib.hid (Blk.toks_err hne hk)
              obtain ⟨er, her⟩ : ∃ er, er = (Blk.step out (l.drop a)).err := ⟨_, rfl⟩
              rw [← her] at HTK hk ⊢
              have ge : ((er : Int) == 0) = false := by rw [beq_eq_false_iff_ne]; omega
              clear H4 her
              go_wp2
              go_ret2
              refine ⟨none, 0, 0, ?_, ?_, ?_, HBl.out.trans H5⟩
              · rw [HU.out, HEq.out, HTK.out]; rfl
              · rw [HU.out, HEq.out, HTK.out]; rfl
              · rw [HU.out, HEq.out, HTK.out]; exact has_nil _ _
          · have gp : ((n : Int) % 2 == 0) = false := by rw [beq_eq_false_iff_ne]; omega
            have hst : Blk.step out (l.drop a) = Blk.takeM out (l.drop kk) (n / 2) := by rw [HST0.out, if_neg hpar]
            rw [← hst] at HM
            clear hst HST0 HL hpar
            go_wp2_with fail
            refine HG.out.mono ?_
            rintro e w' ⟨rfl, hw⟩
            rw [hw]
            clear hw w'
            go_wp2_with fail
            refine (HM.out _ (by omega)).mono ?_
            rintro e w2 ⟨qq, mm, cc, nx, rfl, H4, H5⟩
            by_cases hk : (Blk.step out (l.drop a)).err = 0
            · have HOK := Lib.hid (H4 hk)
              have HST := Lib.hid (Blk.step_ok hk ho2)
              have HTK := Lib.hid (Blk.toks_step hne ho2 hk)
              have hl1 := HST.out.1
              have hl2 := HST.out.2
              obtain ⟨e1, -, e3, e4, e5⟩ := H4 hk
              obtain ⟨k, hkk⟩ : ∃ k, k = Blk.step out (l.drop a) := ⟨_, rfl⟩
              rw [← hkk] at HOK HTK hl1 hl2 e1 e3 hk ⊢
              rw [hk]
              subst e1
              rw [e3, List.length_drop, List.length_drop] at hl2
              have HE3 := Lib.hid e3
              clear H4 hkk HST e3
              go_wp2_with fail
              go_roundw
              case rel => exact ⟨k.out, nx, rfl, hl1, e4, HQ.out.keep (HBl.out.trans H5), HOK.out.2.1, HBl.out.trans H5, by rw [HEq.out, HTK.out, HE3.out]⟩
              case measure => simp [intOf]; omega
            · have HTK := Lib.hid (Blk.toks_err hne hk)
              obtain ⟨er, her⟩ : ∃ er, er = (Blk.step out (l.drop a)).err := ⟨_, rfl⟩
              rw [← her] at HTK hk ⊢
              have ge : ((er : Int) == 0) = false := by rw [beq_eq_false_iff_ne]; omega
              clear H4 her
              go_wp2
              go_ret2
              refine ⟨none, 0, 0, ?_, ?_, ?_, HBl.out.trans H5⟩
              · rw [HU.out, HEq.out, HTK.out]; rfl
              · rw [HU.out, HEq.out, HTK.out]; rfl
              · rw [HU.out, HEq.out, HTK.out]; exact has_nil _ _

end Go.Proofs.YtpkbdnilakaakaaGreat

/- Blocks that are made one behind the other; what a row of calls keeps. -/
namespace Go.Proofs.YtpkbdnilakaakaaGreat
open Go.RowKit

/-- two blocks more -/
theorem al2 (w : World) (o0 o1 : Obj) : ((w.alloc o0).alloc o1).heap[w.heap.size]? = some o0 ∧ ((w.alloc o0).alloc o1).heap[w.heap.size + 1]? = some o1 ∧ Below w.heap.size w ((w.alloc o0).alloc o1) ∧ ((w.alloc o0).alloc o1).heap.size = w.heap.size + 2 := by
  refine ⟨?_, ?_, ((Below.refl _ _).alloc (Nat.le_refl _) _).alloc (by simp) _, by simp⟩
  · rw [blk_old _ _ (by simp)]; exact blk_new w _
  · have := blk_new (w.alloc o0) o1
    simpa using this
theorem al3 (w : World) (o0 o1 o2 : Obj) : (((w.alloc o0).alloc o1).alloc o2).heap[w.heap.size]? = some o0 ∧ (((w.alloc o0).alloc o1).alloc o2).heap[w.heap.size + 1]? = some o1 ∧ (((w.alloc o0).alloc o1).alloc o2).heap[w.heap.size + 1 + 1]? = some o2 ∧ Below w.heap.size w (((w.alloc o0).alloc o1).alloc o2) ∧ (((w.alloc o0).alloc o1).alloc o2).heap.size = w.heap.size + 3 := by
  obtain ⟨h0, h1, hb, hs⟩ := al2 w o0 o1
  refine ⟨?_, ?_, ?_, hb.alloc (by rw [hs]; omega) _, ?_⟩
  · rw [blk_old _ _ (by rw [hs]; omega)]; exact h0
  · rw [blk_old _ _ (by rw [hs]; omega)]; exact h1
  · have := blk_new ((w.alloc o0).alloc o1) o2
    rw [hs] at this
    exact this
  · simp
theorem al4 (w : World) (o0 o1 o2 o3 : Obj) : ((((w.alloc o0).alloc o1).alloc o2).alloc o3).heap[w.heap.size]? = some o0 ∧ ((((w.alloc o0).alloc o1).alloc o2).alloc o3).heap[w.heap.size + 1]? = some o1 ∧ ((((w.alloc o0).alloc o1).alloc o2).alloc o3).heap[w.heap.size + 1 + 1]? = some o2 ∧ ((((w.alloc o0).alloc o1).alloc o2).alloc o3).heap[w.heap.size + 1 + 1 + 1]? = some o3 ∧ Below w.heap.size w ((((w.alloc o0).alloc o1).alloc o2).alloc o3) ∧ ((((w.alloc o0).alloc o1).alloc o2).alloc o3).heap.size = w.heap.size + 4 := by
  obtain ⟨h0, h1, h2, hb, hs⟩ := al3 w o0 o1 o2
  refine ⟨?_, ?_, ?_, ?_, hb.alloc (by rw [hs]; omega) _, ?_⟩
  · rw [blk_old _ _ (by rw [hs]; omega)]; exact h0
  · rw [blk_old _ _ (by rw [hs]; omega)]; exact h1
  · rw [blk_old _ _ (by rw [hs]; omega)]; exact h2
  · have := blk_new (((w.alloc o0).alloc o1).alloc o2) o3
    rw [hs] at this
    exact this
  · simp
theorem al5 (w : World) (o0 o1 o2 o3 o4 : Obj) : (((((w.alloc o0).alloc o1).alloc o2).alloc o3).alloc o4).heap[w.heap.size]? = some o0 ∧ (((((w.alloc o0).alloc o1).alloc o2).alloc o3).alloc o4).heap[w.heap.size + 1]? = some o1 ∧ (((((w.alloc o0).alloc o1).alloc o2).alloc o3).alloc o4).heap[w.heap.size + 1 + 1]? = some o2 ∧ (((((w.alloc o0).alloc o1).alloc o2).alloc o3).alloc o4).heap[w.heap.size + 1 + 1 + 1]? = some o3 ∧ (((((w.alloc o0).alloc o1).alloc o2).alloc o3).alloc o4).heap[w.heap.size + 1 + 1 + 1 + 1]? = some o4 ∧ Below w.heap.size w (((((w.alloc o0).alloc o1).alloc o2).alloc o3).alloc o4) ∧ (((((w.alloc o0).alloc o1).alloc o2).alloc o3).alloc o4).heap.size = w.heap.size + 5 := by
  obtain ⟨h0, h1, h2, h3, hb, hs⟩ := al4 w o0 o1 o2 o3
  refine ⟨?_, ?_, ?_, ?_, ?_, hb.alloc (by rw [hs]; omega) _, ?_⟩
  · rw [blk_old _ _ (by rw [hs]; omega)]; exact h0
  · rw [blk_old _ _ (by rw [hs]; omega)]; exact h1
  · rw [blk_old _ _ (by rw [hs]; omega)]; exact h2
  · rw [blk_old _ _ (by rw [hs]; omega)]; exact h3
  · have := blk_new ((((w.alloc o0).alloc o1).alloc o2).alloc o3) o4
    rw [hs] at this
    exact this
  · simp
theorem blk_at {w w' : World} {g : Nat} {C : Array Value} {T : TypeId} {fr : Nat × Nat} (h : w.heap[g]? = some (.cells C T fr)) (hb : Below w.heap.size w w') (m : Nat) : w'.cell? ⟨g, m, none⟩ = C[m]? :=
  blk_cell ((hb.block _ (blk_lt h)).trans h) m
end Go.Proofs.YtpkbdnilakaakaaGreat
