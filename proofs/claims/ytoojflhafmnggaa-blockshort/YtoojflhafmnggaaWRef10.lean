/- The document's own Unpack. -/
import Derived.Test.YtoojflhafmnggaaK10C
namespace Go.Proofs.Ytoojflhafmnggaa
open Go.RowKit

theorem gotV_badN (l : List UInt8) (a : Nat) (h : (Leb.get (l.drop a)).err ≠ 0) : gotV l a = .tuple #[.int .u64 0, .int .i64 0, .int .i64 ((Leb.get (l.drop a)).err : Nat)] := by
  have hb := Leb.getF_bad 10 true (l.drop a) h
  refine gotV_bad l a _ h ?_
  obtain ⟨h1, h2⟩ := hb
  have e1 : (Leb.get (l.drop a)).n = 0 := h1
  have e2 : (Leb.get (l.drop a)).k = 0 := h2
  generalize Leb.get (l.drop a) = g at e1 e2
  cases g
  simp_all
theorem gotV_okN (l : List UInt8) (a : Nat) (h : (Leb.get (l.drop a)).err = 0) : gotV l a = .tuple #[.int .u64 ((Leb.get (l.drop a)).n : Nat), .int .i64 ((a + (Leb.get (l.drop a)).k : Nat) : Int), .int .i64 0] := by
  have := gotV_ok l a (Leb.get (l.drop a)).n (Leb.get (l.drop a)).k (by
    generalize Leb.get (l.drop a) = g at h
    cases g
    simp_all)
  rw [this, Int.natCast_add]

/-- what the taking of a token tells: the bytes, the place behind it, the error -/
def TokR (w : World) (B : Nat) (l : List UInt8) (a : Nat) (k : Blk.Tk) (e : Ending) (w' : World) : Prop :=
  ∃ q m cap nx, e = .returned (.tuple #[.slice q m cap, .int .i64 (nx : Nat), .int .i64 (k.err : Nat)]) ∧ (k.err = 0 → m = k.out.length ∧ Has w' B (.slice q m cap) k.out ∧ k.rest = l.drop nx ∧ nx ≤ l.length ∧ a ≤ nx) ∧ Below B w w'
theorem tokR_bad (w : World) (B : Nat) (l : List UInt8) (a k : Nat) (hk : k ≠ 0) : TokR w B l a ⟨k, [], []⟩ (.returned (.tuple #[.slice none 0 0, .int .i64 0, .int .i64 (k : Nat)])) w :=
  ⟨none, 0, 0, 0, rfl, fun h => absurd h hk, Below.refl _ _⟩

set_option maxRecDepth 100000 in
set_option maxHeartbeats 1000000 in
theorem refLitK (out l : List UInt8) (a n : Nat) (hn : n < 18446744073709551616) (B : Nat) (vb : Value) (q : Option Addr) (c : Nat) (w : World) (hB : B ≤ w.heap.size) (ho : out.length ≤ 2048) (hl : l.length ≤ 140737488351232) (ha : a ≤ l.length) (hb : Has w B vb out) (hq : AtB w B q l) :
    Calls Try.prog 18 #[vb, .slice q l.length c, .int .i64 a, .int .u64 n] w (TokR w B l a (Blk.takeL out (l.drop a) n)) := by
  obtain ⟨r, hr⟩ : ∃ r, r = Blk.takeL out (l.drop a) n := ⟨_, rfl⟩
  rw [← hr]
  unfold Blk.takeL at hr
  have hdl : (l.drop a).length = l.length - a := List.length_drop
  obtain ⟨p, cap, rfl, hp, hcap⟩ := hb.at
  have HHas := Lib.hid hb
  have HQ := Lib.hid hq
  clear hb hq hp
  by_cases h0 : n = 0
  · subst h0
    rw [if_pos rfl] at hr
    have HR := Lib.hid hr
    clear hr
    go_enter Try.func18, Try.ntmps18
    go_wp2
    try rw [Exit.noGoto_ret]
    go_ret3
    rw [HR.out]
    exact tokR_bad w B l a 5 (by decide)
  · rw [if_neg h0] at hr
    have g0 : ((n : Int) == 0) = false := by rw [beq_eq_false_iff_ne]; omega
    by_cases h1 : 2048 - out.length < n
    · rw [if_pos h1] at hr
      have g1 : (2048 - (out.length : Int)) % 18446744073709551616 < (n : Int) := by omega
      have HR := Lib.hid hr
      clear hr
      go_enter Try.func18, Try.ntmps18
      go_wp2
      try rw [Exit.noGoto_ret]
      go_ret3
      rw [HR.out]
      exact tokR_bad w B l a 2 (by decide)
    · rw [if_neg h1] at hr
      have g1 : ¬ (2048 - (out.length : Int)) % 18446744073709551616 < (n : Int) := by omega
      have hn2 : n ≤ 2048 := by omega
      by_cases h2 : (l.drop a).length < n
      · rw [if_pos h2] at hr
        have HR := Lib.hid hr
        have g2 : (l.length : Int) - (a : Int) < (n : Int) := by omega
        clear hr h2 hdl
        go_enter Try.func18, Try.ntmps18
        go_wp2
        try rw [Exit.noGoto_ret]
        go_ret3
        rw [HR.out]
        exact tokR_bad w B l a 30 (by decide)
      · rw [if_neg h2] at hr
        have HR := Lib.hid hr
        have g2 : ¬ (l.length : Int) - (a : Int) < (n : Int) := by omega
        have h3 : a + n ≤ l.length := by omega
        clear hr h2 hdl
        obtain ⟨bb, o, rfl, hbl, hcs⟩ := at_some HQ.out.at_ (by omega)
        have hlow : bb < B := HQ.out.low (List.ne_nil_of_length_pos (by omega)) _ rfl
        have HC := Lib.hid hcs
        clear hcs
        go_enter Try.func18, Try.ntmps18
        go_wp2_with fail
        go_loopw [0, 11] (fun v0 v11 wr => ∃ (i : Nat), i ≤ n ∧ v11 = .int .i64 i ∧ Hid (Has wr B v0 (out ++ (l.drop a).take i) ∧ Below B w wr)) (fun _ v11 _ => n - (intOf v11).toNat)
        case atStart => exact ⟨0, Nat.zero_le _, rfl, by simpa using HHas.out, Below.refl _ _⟩
        case round =>
          obtain ⟨i, hi, rfl, HK⟩ := hrel
          obtain ⟨pp, cap2, hv, -, -⟩ := HK.out.1.at
          have hlen : (out ++ (l.drop a).take i).length = out.length + i := by simp only [List.length_append, List.length_take, List.length_drop]; omega
          by_cases hin : i < n
          · have hcell : wr.cell? ⟨bb, o + (a + i), none⟩ = some (.int .u8 (l[a + i].toNat : Int)) := by
              rw [HK.out.2.cell (p := ⟨bb, o + (a + i), none⟩) hlow]
              exact HC.out (a + i) (by omega)
            have HS : Hid (out ++ (l.drop a).take (i + 1) = (out ++ (l.drop a).take i) ++ [l[a + i]]) := by
              show _ = _
              rw [List.append_assoc, List.take_add_one, List.getElem?_drop, List.getElem?_eq_getElem (by omega)]
              rfl
            have hc256 : l[a + i].toNat < 256 := l[a + i].toNat_lt
            obtain ⟨ch, hch⟩ : ∃ ch, ch = l[a + i] := ⟨_, rfl⟩
            rw [← hch] at hcell HS hc256
            have hB2 := HK.out.2.size
            have HO := Lib.hid HK.out.1
            have HL := Lib.hid hlen
            have HB2 := Lib.hid HK.out.2
            rw [hv] at HO
            rw [hv]
            clear hch hlen hv HK
            have w1 : IntKind.i64.wrap ((a : Int) + (i : Int)) = (a : Int) + (i : Int) := by rw [IntKind.wrap_i64]; omega
            have w2 : ((a : Int) + (i : Int)).toNat = a + i := by omega
            have w3 : (0 : Int) ≤ (a : Int) + (i : Int) := by omega
            have w4 : (a : Int) + (i : Int) < (l.length : Int) := by omega
            go_wp2_with (at_builtin; refine wp_push HO.out ch (by rw [HL.out]; omega) (by omega) (by rfl) rfl rfl rfl rfl rfl ?_; intro g2 cap3 W hmine hb)
            go_roundw
            case rel =>
              refine ⟨i + 1, by omega, by go_num, ?_, HB2.out.trans hb⟩
              rw [HS.out]
              have := hmine.has
              rw [show ((out ++ (l.drop a).take i) ++ [ch]).length = out.length + min i (l.length - a) + 1 by simp only [List.length_append, List.length_take, List.length_drop, List.length_cons, List.length_nil]] at this
              exact this
            case measure => simp [intOf]; omega
          · have hin2 : i = n := by omega
            subst hin2
            have HL := Lib.hid hlen
            have HO := Lib.hid HK.out.1
            have HB2 := Lib.hid HK.out.2
            rw [hv] at HO
            rw [hv]
            clear hlen hin hv HK
            go_wp2
            try rw [Exit.noGoto_ret]
            go_ret3
            rw [HR.out]
            refine ⟨pp, _, cap2, a + i, ?_, fun _ => ⟨rfl, HO.out, ?_, by omega, by omega⟩, HB2.out⟩
            · go_num
            · rw [List.drop_drop]

set_option maxRecDepth 100000 in
set_option maxHeartbeats 2000000 in
theorem refMatK (out l : List UInt8) (a n : Nat) (hn : n < 18446744073709551616) (B : Nat) (vb : Value) (q : Option Addr) (c : Nat) (w : World) (hB : B ≤ w.heap.size) (ho : out.length ≤ 2048) (hl : l.length ≤ 140737488351232) (ha : a ≤ l.length) (hb : Has w B vb out) (hq : AtB w B q l) :
    Calls Try.prog 19 #[vb, .slice q l.length c, .int .i64 a, .int .u64 n] w (TokR w B l a (Blk.takeM out (l.drop a) n)) := by
  obtain ⟨r, hr⟩ : ∃ r, r = Blk.takeM out (l.drop a) n := ⟨_, rfl⟩
  rw [← hr]
  unfold Blk.takeM at hr
  have HG := Lib.hid (refGet_any q c l a hl w hq.at_)
  obtain ⟨p, cap, rfl, hp, hcap⟩ := hb.at
  have HHas := Lib.hid hb
  clear hb hq hp
  by_cases h0 : n < 4 ∨ 255 < n
  · rw [if_pos h0] at hr
    have HR := Lib.hid hr
    clear hr
    by_cases h4 : n < 4
    all_goals
      have h255 : n < 4 ∨ 255 < n := h0
      clear h0
      try have h255' : 255 < n := by omega
      go_enter Try.func19, Try.ntmps19
      go_wp2
      try rw [Exit.noGoto_ret]
      go_ret3
      rw [HR.out]
      exact tokR_bad w B l a 5 (by decide)
  · rw [if_neg h0] at hr
    have g4 : ¬ n < 4 := by omega
    have g255 : ¬ 255 < n := by omega
    clear h0
    by_cases h1 : (Leb.get (l.drop a)).err ≠ 0
    · rw [if_pos h1] at hr
      have HV := Lib.hid (gotV_badN l a h1)
      rw [HV.out] at HG
      have g1 : (((Leb.get (l.drop a)).err : Int) == 0) = false := by rw [beq_eq_false_iff_ne]; omega
      obtain ⟨er, her⟩ : ∃ er, er = (Leb.get (l.drop a)).err := ⟨_, rfl⟩
      rw [← her] at HG g1 hr h1
      have HR := Lib.hid hr
      clear hr HV her
      go_enter Try.func19, Try.ntmps19
      go_wp2_with fail
      refine HG.out.mono ?_
      rintro e w' ⟨rfl, hw⟩
      rw [hw]
      clear hw w'
      go_wp2
      try rw [Exit.noGoto_ret]
      go_ret3
      rw [HR.out]
      exact tokR_bad w B l a er h1
    · rw [if_neg h1] at hr
      have hok := Leb.get_ok (l.drop a) (by omega)
      have HV := Lib.hid (gotV_okN l a (by omega))
      rw [HV.out] at HG
      obtain ⟨d, hd⟩ : ∃ d, d = (Leb.get (l.drop a)).n := ⟨_, rfl⟩
      obtain ⟨k, hk⟩ : ∃ k, k = (Leb.get (l.drop a)).k := ⟨_, rfl⟩
      rw [← hd, ← hk] at HG hr hok
      have hd64 := hok.1
      have hkl := hok.2.2.1
      rw [List.length_drop] at hkl
      clear HV hd hk h1 hok
      by_cases h2 : d = 0 ∨ 1024 < d ∨ out.length < d
      · rw [if_pos h2] at hr
        have HR := Lib.hid hr
        clear hr
        by_cases a0 : d = 0
        · subst a0
          clear h2
          go_enter Try.func19, Try.ntmps19
          go_wp2_with fail
          refine HG.out.mono ?_
          rintro e w' ⟨rfl, hw⟩
          rw [hw]
          clear hw w'
          go_wp2
          try rw [Exit.noGoto_ret]
          go_ret3
          rw [HR.out]
          exact tokR_bad w B l a 5 (by decide)
        · have g0 : ¬ (d : Int) < 1 := by omega
          by_cases a1 : 1024 < d
          · clear h2
            go_enter Try.func19, Try.ntmps19
            go_wp2_with fail
            refine HG.out.mono ?_
            rintro e w' ⟨rfl, hw⟩
            rw [hw]
            clear hw w'
            go_wp2
            try rw [Exit.noGoto_ret]
            go_ret3
            rw [HR.out]
            exact tokR_bad w B l a 5 (by decide)
          · have a2 : out.length < d := by omega
            clear h2
            go_enter Try.func19, Try.ntmps19
            go_wp2_with fail
            refine HG.out.mono ?_
            rintro e w' ⟨rfl, hw⟩
            rw [hw]
            clear hw w'
            go_wp2
            try rw [Exit.noGoto_ret]
            go_ret3
            rw [HR.out]
            exact tokR_bad w B l a 5 (by decide)
      · rw [if_neg h2] at hr
        have g0 : ¬ (d : Int) < 1 := by omega
        have a0 : 1 ≤ d := by omega
        have a1 : ¬ 1024 < d := by omega
        have a2 : ¬ out.length < d := by omega
        clear h2
        by_cases h3 : 2048 - out.length < n
        · rw [if_pos h3] at hr
          have HR := Lib.hid hr
          clear hr
          go_enter Try.func19, Try.ntmps19
          go_wp2_with fail
          refine HG.out.mono ?_
          rintro e w' ⟨rfl, hw⟩
          rw [hw]
          clear hw w'
          go_wp2
          try rw [Exit.noGoto_ret]
          go_ret3
          rw [HR.out]
          exact tokR_bad w B l a 2 (by decide)
        · rw [if_neg h3] at hr
          have HR := Lib.hid hr
          have g3 : ¬ (2048 - (out.length : Int)) % 18446744073709551616 < (n : Int) := by omega
          clear hr
          go_enter Try.func19, Try.ntmps19
          go_wp2_with fail
          refine HG.out.mono ?_
          rintro e w' ⟨rfl, hw⟩
          rw [hw]
          clear hw w'
          go_wp2_with fail
          go_loopw [0, 14] (fun v0 v14 wr => ∃ (i m cap' : Nat) (g : Nat), i ≤ n ∧ m = out.length + i ∧ v0 = .slice (some ⟨g, 0, none⟩) m cap' ∧ v14 = .int .i64 i ∧ Hid (Mine wr B g cap' (Blk.copyB i d out) ∧ Below B w wr)) (fun _ v14 _ => n - (intOf v14).toNat)
          case atStart =>
            rcases HHas.out.form with ⟨h5, h6⟩ | ⟨g, cap', h5, h6⟩
            · rw [h6] at a2; simp at a2; omega
            · exact ⟨0, out.length, cap', g, Nat.zero_le _, rfl, h5, rfl, h6, Below.refl _ _⟩
          case round =>
            obtain ⟨i, m, cap', g, hi, hm, rfl, rfl, HK⟩ := hrel
            have hlen := Blk.copyB_length i d out
            by_cases hin : i < n
            · have hcell := getD_cell HK.out.1 (m - d) (by omega)
              have hsn := Blk.copyB_snoc i d out
              rw [hlen, ← hm] at hsn
              obtain ⟨ch, hch⟩ : ∃ ch, ch = (Blk.copyB i d out).getD (m - d) 0 := ⟨_, rfl⟩
              rw [← hch] at hcell hsn
              have HS := Lib.hid hsn
              have hc256 : ch.toNat < 256 := ch.toNat_lt
              have hB2 := HK.out.2.size
              have HO : Hid (Has wr B (.slice (some ⟨g, 0, none⟩) m cap') (Blk.copyB i d out)) := by
                have := HK.out.1.has
                rw [hlen, ← hm] at this
                exact this
              have hdm : d ≤ m := by omega
              have hm2 : m ≤ 4096 := by omega
              have HM := Lib.hid hm
              have HL := Lib.hid hlen
              clear hsn hch hm hlen
              go_wp2_with (at_builtin; refine wp_push HO.out ch (by rw [HL.out]; omega) (by omega) (by rfl) rfl rfl rfl rfl rfl ?_; intro g2 cap2 W hmine hb)
              go_roundw
              case rel =>
                refine ⟨i + 1, m + 1, cap2, g2, by omega, by rw [HM.out]; omega, by rw [HL.out, ← HM.out], by go_num, ?_, HK.out.2.trans hb⟩
                rw [HS.out]; exact hmine
              case measure => simp [intOf]; omega
            · have hin2 : i = n := by omega
              subst hin2
              have HM := Lib.hid hm
              have HL := Lib.hid hlen
              clear hm hlen hin
              go_wp2
              try rw [Exit.noGoto_ret]
              go_ret3
              rw [HR.out]
              refine ⟨some ⟨g, 0, none⟩, m, cap', a + k, ?_, fun _ => ⟨?_, ?_, ?_, by omega, by omega⟩, HK.out.2⟩
              · go_num
              · rw [HM.out]; exact HL.out.symm
              · have := HK.out.1.has
                rw [HL.out, ← HM.out] at this
                exact this
              · rw [List.drop_drop]
end Go.Proofs.Ytoojflhafmnggaa
