/- The landed block's unpacker: a token's match. -/
import Derived.Test.YtoojflhafmnggaaK10A
namespace Go.Proofs.Ytoojflhafmnggaa
open Go.RowKit

theorem gotV_bad0 (t : List UInt8) (h : (Leb.get t).err ≠ 0) : gotV t 0 = .tuple #[.int .u64 0, .int .i64 0, .int .i64 ((Leb.get t).err : Nat)] := by
  have hb := Leb.getF_bad 10 true t h
  refine gotV_bad t 0 _ h ?_
  rw [List.drop_zero]
  show Leb.get t = _
  obtain ⟨h1, h2⟩ := hb
  have e1 : (Leb.get t).n = 0 := h1
  have e2 : (Leb.get t).k = 0 := h2
  generalize Leb.get t = g at e1 e2
  cases g
  simp_all
theorem gotV_ok0 (t : List UInt8) (h : (Leb.get t).err = 0) : gotV t 0 = .tuple #[.int .u64 ((Leb.get t).n : Nat), .int .i64 ((Leb.get t).k : Nat), .int .i64 0] := by
  have := gotV_ok t 0 (Leb.get t).n (Leb.get t).k (by
    rw [List.drop_zero]
    generalize Leb.get t = g at h
    cases g
    simp_all)
  rw [show ((0 : Nat) : Int) = 0 from rfl, Int.zero_add] at this
  exact this

/-- where there is an error nothing else is told -/
theorem tokV_bad (w : World) (B k : Nat) (hk : k ≠ 0) : TokV w B ⟨k, [], []⟩ (.returned (.tuple #[.slice none 0 0, .slice none 0 0, .int .i64 (k : Nat)])) w :=
  ⟨none, 0, 0, none, 0, 0, rfl, fun h => absurd h hk, Below.refl _ _⟩

theorem getD_cell {w : World} {g cap B : Nat} {l : List UInt8} (h : Mine w B g cap l) (i : Nat) (hi : i < l.length) : w.cell? ⟨g, i, none⟩ = some (.int .u8 ((l.getD i 0).toNat : Int)) := by
  have := h.free.2.1 i hi
  rw [Nat.zero_add] at this
  rw [this, List.getD_eq_getElem?_getD, List.getElem?_eq_getElem hi]
  rfl

set_option maxRecDepth 100000 in
set_option maxHeartbeats 2000000 in
theorem takeMatK (out t : List UInt8) (n : Nat) (hn : n < 18446744073709551616) (B : Nat) (vb : Value) (q : Option Addr) (c : Nat) (w : World) (hB : B ≤ w.heap.size) (ho : out.length ≤ 2048) (ht : t.length ≤ 140737488351232) (htc : t.length ≤ c) (hb : Has w B vb out) (hq : AtB w B q t) :
    Calls Try.prog 27 #[vb, .slice q t.length c, .int .u64 n] w (TokV w B (Blk.takeM out t n)) := by
  obtain ⟨r, hr⟩ : ∃ r, r = Blk.takeM out t n := ⟨_, rfl⟩
  rw [← hr]
  unfold Blk.takeM at hr
  have HG := Lib.hid (get_any q c t 0 ht htc w hq.at_)
  obtain ⟨p, cap, rfl, hp, hcap⟩ := hb.at
  have HHas := Lib.hid hb
  have HQ := Lib.hid hq
  clear hb hq hp
  by_cases h0 : n < 4 ∨ 255 < n
  · rw [if_pos h0] at hr
    have HR := Lib.hid hr
    clear hr
    by_cases h4 : n < 4
    all_goals
      have h255 : n < 4 ∨ 255 < n := h0
      clear h0
      try have h255' : 255 < n := by omega
      go_enter Try.func27, Try.ntmps27
      go_wp2
      try rw [Exit.noGoto_ret]
      go_ret3
      rw [HR.out]
      exact tokV_bad w B 5 (by decide)
  · rw [if_neg h0] at hr
    have g4 : ¬ n < 4 := by omega
    have g255 : ¬ 255 < n := by omega
    clear h0
    by_cases h1 : (Leb.get t).err ≠ 0
    · rw [if_pos h1] at hr
      have HV : Hid (gotV t 0 = .tuple #[.int .u64 0, .int .i64 0, .int .i64 ((Leb.get t).err : Nat)]) := gotV_bad0 t h1
      rw [HV.out] at HG
      have g1 : (((Leb.get t).err : Int) == 0) = false := by rw [beq_eq_false_iff_ne]; omega
      obtain ⟨er, her⟩ : ∃ er, er = (Leb.get t).err := ⟨_, rfl⟩
      rw [← her] at HG g1 hr h1
      have HR := Lib.hid hr
      clear hr HV her
      go_enter Try.func27, Try.ntmps27
      go_wp2_with fail
      refine HG.out.mono ?_
      rintro e w' ⟨rfl, hw⟩
      rw [hw]
      clear hw w'
      go_wp2
      try rw [Exit.noGoto_ret]
      go_ret3
      rw [HR.out]
      exact tokV_bad w B er h1
    · rw [if_neg h1] at hr
      have hok := Leb.get_ok t (by omega)
      have HV : Hid (gotV t 0 = .tuple #[.int .u64 ((Leb.get t).n : Nat), .int .i64 ((Leb.get t).k : Nat), .int .i64 0]) := gotV_ok0 t (by omega)
      rw [HV.out] at HG
      obtain ⟨d, hd⟩ : ∃ d, d = (Leb.get t).n := ⟨_, rfl⟩
      obtain ⟨k, hk⟩ : ∃ k, k = (Leb.get t).k := ⟨_, rfl⟩
      rw [← hd, ← hk] at HG hr hok
      have hd64 := hok.1
      have hkl := hok.2.2.1
      clear HV hd hk h1 hok
      by_cases h2 : d = 0 ∨ 1024 < d ∨ out.length < d
      · rw [if_pos h2] at hr
        have HR := Lib.hid hr
        clear hr
        by_cases a0 : d = 0
        · subst a0
          clear h2
          go_enter Try.func27, Try.ntmps27
          go_wp2_with fail
          refine HG.out.mono ?_
          rintro e w' ⟨rfl, hw⟩
          rw [hw]
          clear hw w'
          go_wp2
          try rw [Exit.noGoto_ret]
          go_ret3
          rw [HR.out]
          exact tokV_bad w B 5 (by decide)
        · have g0 : ((d : Int) == 0) = false := by rw [beq_eq_false_iff_ne]; omega
          by_cases a1 : 1024 < d
          · clear h2
            go_enter Try.func27, Try.ntmps27
            go_wp2_with fail
            refine HG.out.mono ?_
            rintro e w' ⟨rfl, hw⟩
            rw [hw]
            clear hw w'
            go_wp2
            try rw [Exit.noGoto_ret]
            go_ret3
            rw [HR.out]
            exact tokV_bad w B 5 (by decide)
          · have a2 : out.length < d := by omega
            clear h2
            go_enter Try.func27, Try.ntmps27
            go_wp2_with fail
            refine HG.out.mono ?_
            rintro e w' ⟨rfl, hw⟩
            rw [hw]
            clear hw w'
            go_wp2
            try rw [Exit.noGoto_ret]
            go_ret3
            rw [HR.out]
            exact tokV_bad w B 5 (by decide)
      · rw [if_neg h2] at hr
        have g0 : ((d : Int) == 0) = false := by rw [beq_eq_false_iff_ne]; omega
        have a0 : 1 ≤ d := by omega
        have a1 : ¬ 1024 < d := by omega
        have a2 : ¬ out.length < d := by omega
        clear h2
        by_cases h3 : 2048 - out.length < n
        · rw [if_pos h3] at hr
          have HR := Lib.hid hr
          clear hr
          go_enter Try.func27, Try.ntmps27
          go_wp2_with fail
          refine HG.out.mono ?_
          rintro e w' ⟨rfl, hw⟩
          rw [hw]
          clear hw w'
          go_wp2
          try rw [Exit.noGoto_ret]
          go_ret3
          rw [HR.out]
          exact tokV_bad w B 2 (by decide)
        · rw [if_neg h3] at hr
          have HR := Lib.hid hr
          have g3 : ¬ (2048 - (out.length : Int)) % 18446744073709551616 < (n : Int) := by omega
          have s2 := fun w => run_cut_l .i64 q t.length c k (by omega) w
          have HD := Lib.hid (HQ.out.cut k c htc)
          obtain ⟨q2, hq2⟩ : ∃ q2, q2 = cutP q k c := ⟨_, rfl⟩
          obtain ⟨m2, hm2⟩ : ∃ m2, m2 = t.length - k := ⟨_, rfl⟩
          obtain ⟨c2, hc2⟩ : ∃ c2, c2 = c - k := ⟨_, rfl⟩
          rw [← hq2] at HD s2
          rw [← hm2, ← hc2] at s2
          have HM2 : Hid (m2 = t.length - k ∧ m2 ≤ c2) := ⟨hm2, by omega⟩
          clear hr hq2 hm2 hc2
          go_enter Try.func27, Try.ntmps27
          go_wp2_with fail
          refine HG.out.mono ?_
          rintro e w' ⟨rfl, hw⟩
          rw [hw]
          clear hw w'
          go_wp2_with fail
          go_loopw [0, 50] (fun v0 v50 wr => ∃ (i m cap' : Nat) (g : Nat), i ≤ n ∧ m = out.length + i ∧ v0 = .slice (some ⟨g, 0, none⟩) m cap' ∧ v50 = .int .u64 i ∧ Hid (Mine wr B g cap' (Blk.copyB i d out) ∧ Below B w wr)) (fun _ v50 _ => n - (intOf v50).toNat)
          case atStart =>
            rcases HHas.out.form with ⟨h5, h6⟩ | ⟨g, cap', h5, h6⟩
            · rw [h6] at a2; simp at a2; omega
            · exact ⟨0, out.length, cap', g, Nat.zero_le _, rfl, h5, rfl, h6, Below.refl _ _⟩
          case round =>
            obtain ⟨i, m, cap', g, hi, hm, rfl, rfl, HK⟩ := hrel
            have hlen := Blk.copyB_length i d out
            by_cases hin : i < n
            · have hcell := getD_cell HK.out.1 (m - d) (by omega)
              have hsn := Blk.copyB_snoc i d out
              rw [hlen, ← hm] at hsn
              obtain ⟨ch, hch⟩ : ∃ ch, ch = (Blk.copyB i d out).getD (m - d) 0 := ⟨_, rfl⟩
              rw [← hch] at hcell hsn
              have HS := Lib.hid hsn
              have hc256 : ch.toNat < 256 := ch.toNat_lt
              have hB2 := HK.out.2.size
              have HO : Hid (Has wr B (.slice (some ⟨g, 0, none⟩) m cap') (Blk.copyB i d out)) := by
                have := HK.out.1.has
                rw [hlen, ← hm] at this
                exact this
              have hdm : d ≤ m := by omega
              have hm2 : m ≤ 4096 := by omega
              have HM := Lib.hid hm
              have HL := Lib.hid hlen
              clear hsn hch hm hlen
              go_wp2_with (at_builtin; refine wp_push HO.out ch (by rw [HL.out]; omega) (by omega) (by rfl) rfl rfl rfl rfl rfl ?_; intro g2 cap2 W hmine hb)
              go_roundw
              case rel =>
                refine ⟨i + 1, m + 1, cap2, g2, by omega, by rw [HM.out]; omega, by rw [HL.out, ← HM.out], by go_num, ?_, HK.out.2.trans hb⟩
                rw [HS.out]; exact hmine
              case measure => simp [intOf]; omega
            · have hin2 : i = n := by omega
              subst hin2
              have HM := Lib.hid hm
              have HL := Lib.hid hlen
              clear hm hlen hin
              go_wp2_with fail
              go_region_law fail
              go_wp2
              try rw [Exit.noGoto_ret]
              go_ret3
              rw [HR.out]
              have HBd : Below B w wr.drew := ⟨HK.out.2.os, HK.out.2.tape, HK.out.2.output, HK.out.2.size, HK.out.2.block⟩
              refine ⟨some ⟨g, 0, none⟩, m, cap', q2, m2, c2, by simp [Act.put], fun _ => ⟨?_, ?_, ?_, ?_, HD.out.keep HBd⟩, HBd⟩
              · rw [HM.out]; exact HL.out.symm
              · have := HK.out.1.has
                rw [HL.out, ← HM.out] at this
                exact this
              · rw [HM2.out.1]; simp
              · have := HM2.out; simp; omega
end Go.Proofs.Ytoojflhafmnggaa
