/- K10D, K10E, K10F: put together. -/
import Derived.Test.YtpkbdnilakaakaaGreatM41
import Derived.Test.YtpkbdnilakaakaaGreatM13
import Derived.Maps.OwnOps
import Derived.Maps.OwnSet
import Derived.DeepKeys4

/- The landed block's Unpack. -/
namespace Go.Proofs.YtpkbdnilakaakaaGreat
open Go.RowKit

set_option maxRecDepth 100000 in
set_option maxHeartbeats 1000000 in
theorem unpackK (l : List UInt8) (q : Option Addr) (c : Nat) (w : World) (hl : l.length ≤ 140737488351232) (hlc : l.length ≤ c) (hq : At w q l) :
    Calls Tryz.prog 13 #[.slice q l.length c] w (ResV w (Blk.unpack l)) := by
  cases l with
  | nil =>
    go_enter Tryz.func13, Tryz.ntmps13
    go_wp2
    go_ret2
    exact ⟨none, 0, 0, rfl, rfl, has_nil _ _, Below.refl _ _⟩
  | cons ch r =>
    obtain ⟨b, o, rfl, hb, hcs⟩ := at_some hq (by simp)
    have c0 : w.cell? ⟨b, o, none⟩ = some (.int .u8 (ch.toNat : Int)) := hcs 0 (by simp)
    have HC : Hid (At w (cutP10 (some ⟨b, o, none⟩) 1 c) r) := hq.cut10 1 c hlc
    have hlen : (ch :: r).length = r.length + 1 := rfl
    obtain ⟨q1, hq1⟩ : ∃ q1, q1 = cutP10 (some ⟨b, o, none⟩) 1 c := ⟨_, rfl⟩
    obtain ⟨c1, hc1⟩ : ∃ c1, c1 = c - 1 := ⟨_, rfl⟩
    have hc256 : ch.toNat < 256 := ch.toNat_lt
    have hu : Blk.unpack (ch :: r) = if ch.toNat = 1 then Blk.toks [] r else if ch.toNat ≠ 0 then ⟨5, []⟩ else if 2048 < r.length then ⟨2, []⟩ else ⟨0, r⟩ := rfl
    obtain ⟨res, hres⟩ : ∃ res, res = Blk.unpack (ch :: r) := ⟨_, rfl⟩
    rw [← hres] at hu ⊢
    rw [← hq1] at HC
    have s2 : ∀ n, n = r.length + 1 → ∀ w, (Instr.slice 29 (.slice (some ⟨b, o, none⟩) n c) (some (.int .i64 1)) none none).run Tryz.prog w = .ok (.slice q1 r.length c1) w := fun n hn w => by
      have := run_cut_l .i64 (some ⟨b, o, none⟩) n c 1 (by omega) w
      rw [← hq1, ← hc1, show n - 1 = r.length by omega] at this
      exact this
    rw [hlen]
    rw [hlen] at hl hlc
    have hc1r : r.length ≤ c1 := by omega
    obtain ⟨n, hn⟩ : ∃ n, n = r.length + 1 := ⟨_, rfl⟩
    have s3 := s2 n hn
    rw [← hn]
    have hnr : r.length = n - 1 := by omega
    have hn1 : 1 ≤ n := by omega
    have hn2 : n ≤ 140737488351232 := by omega
    clear hlen hq1 hc1 hcs hq s2 hres
    have HN := Lib.hid hn
    obtain ⟨cv, hcv⟩ : ∃ cv, cv = ch.toNat := ⟨_, rfl⟩
    rw [← hcv] at c0 hc256 hu
    by_cases h1 : cv = 1
    · rw [if_pos h1] at hu
      have HT := Lib.hid (unpackTokensK r q1 c1 w (by omega) hc1r HC.out)
      rw [← hu] at HT
      subst h1
      clear hcv hu hn hnr
      go_enter Tryz.func13, Tryz.ntmps13
      go_wp2_with fail
      refine HT.out.mono ?_
      rintro e w' ⟨q3, m3, cap3, rfl, hm3, hh, hb3⟩
      subst hm3
      have HH := Lib.hid hh
      have HB := Lib.hid hb3
      clear hh hb3
      go_wp2
      go_ret2
      exact ⟨q3, _, cap3, rfl, rfl, HH.out, HB.out⟩
    · rw [if_neg h1] at hu
      have g1 : ((cv : Int) == 1) = false := by rw [beq_eq_false_iff_ne]; omega
      by_cases h0 : cv ≠ 0
      · rw [if_pos h0] at hu
        have g0 : ((cv : Int) != 0) = true := by rw [bne_iff_ne]; omega
        have HU := Lib.hid hu
        clear hcv hu hn hnr h1 h0
        go_enter Tryz.func13, Tryz.ntmps13
        go_wp2
        go_ret2
        rw [HU.out]
        exact ⟨none, 0, 0, rfl, rfl, has_nil _ _, Below.refl _ _⟩
      · rw [if_neg h0] at hu
        have h00 : cv = 0 := by omega
        subst h00
        clear h1 h0 g1
        by_cases h2 : 2048 < r.length
        · rw [if_pos h2] at hu
          have HU := Lib.hid hu
          have g2 : 2048 < n - 1 := by omega
          clear hcv hu hn hnr h2
          go_enter Tryz.func13, Tryz.ntmps13
          go_wp2
          go_ret2
          rw [HU.out]
          exact ⟨none, 0, 0, rfl, rfl, has_nil _ _, Below.refl _ _⟩
        · rw [if_neg h2] at hu
          have HU := Lib.hid hu
          have g2 : ¬ 2048 < n - 1 := by omega
          have hr2 : r.length ≤ 2048 := by omega
          clear hcv hu hn hnr h2
          go_enter Tryz.func13, Tryz.ntmps13
          go_wp2_with (at_builtin; refine wp_ontoL (has_nil w w.heap.size) HC.out (by simp; omega) (Nat.le_refl _) rfl rfl rfl rfl rfl ?_; intro ys q3 cap3 W HY hh ha hk)
          have HB := Lib.hid (aside_low ha (has_nil w w.heap.size) (Nat.le_refl _))
          have HH := Lib.hid hh
          clear ha hk hh
          go_wp2
          go_ret2
          rw [HU.out]
          have e : ys = r := HY.out
          rw [e] at HH
          rw [e]
          exact ⟨q3, _, cap3, rfl, rfl, HH.out, HB.out⟩
end Go.Proofs.YtpkbdnilakaakaaGreat

/- The landed block's packer: how many bytes are alike; tokens put behind others. -/
namespace Go.Proofs.YtpkbdnilakaakaaGreat
open Go.RowKit

theorem alike_stop {l s : List UInt8} {i : Nat} (hl : s.length ≤ l.length) (h : ∀ j, j < i → l[j]? = s[j]?) (hi : i ≤ s.length) (hne : i = s.length ∨ l[i]? ≠ s[i]?) : Blk.alike l s = i := by
  have h1 := Blk.alike_ge l s i (by omega) hi h
  have h2 := (Blk.alike_le l s).2
  rcases hne with hne | hne
  · omega
  · rcases Nat.lt_or_ge i (Blk.alike l s) with h3 | h3
    · exact absurd (Blk.alike_eq l s i h3) hne
    · omega

set_option maxRecDepth 100000 in
set_option maxHeartbeats 1000000 in
theorem alikeK (l s : List UInt8) (p q : Option Addr) (c d : Nat) (w : World) (hl : s.length ≤ l.length) (hs : s.length ≤ 255) (hlb : l.length ≤ 2048) (hp : At w p l) (hq : At w q s) :
    Calls Tryz.prog 77 #[.slice p l.length c, .slice q s.length d] w fun e w' => e = .returned (.int .i64 (Blk.alike l s : Nat)) ∧ w' = w := by
  by_cases h0 : s.length = 0
  · have e0 : Blk.alike l s = 0 := by have := (Blk.alike_le l s).2; omega
    rw [h0, e0]
    clear e0 hs
    go_enter Tryz.func77, Tryz.ntmps77
    go_wp2_with fail
    go_loop [9] (fun v => v = .int .i64 0) (fun _ => 0)
    case atStart => exact rfl
    case round =>
      subst hrel
      go_wp2
      go_ret
      exact ⟨rfl, rfl⟩
  · obtain ⟨b1, o1, rfl, -, hc1⟩ := at_some hp (by omega)
    obtain ⟨b2, o2, rfl, -, hc2⟩ := at_some hq (by omega)
    have H1 := Lib.hid hc1
    have H2 := Lib.hid hc2
    clear hc1 hc2 hp hq
    go_enter Tryz.func77, Tryz.ntmps77
    go_wp2_with fail
    go_loop [5, 6, 9] (fun _ _ v => ∃ i : Nat, v = .int .i64 i ∧ i ≤ s.length ∧ Hid (∀ j, j < i → l[j]? = s[j]?)) (fun _ _ v => s.length - (intOf v).toNat)
    case atStart => exact ⟨0, rfl, Nat.zero_le _, fun j hj => by omega⟩
    case round =>
      obtain ⟨i, rfl, hi, HK⟩ := hrel
      by_cases hend : i = s.length
      · have HA := Lib.hid (alike_stop hl HK.out hi (.inl hend))
        clear HK
        subst hend
        go_wp2
        go_ret
        exact ⟨by rw [HA.out]; rfl, rfl⟩
      · have hlt : i < s.length := by omega
        have d1 := H1.out i (by omega)
        have d2 := H2.out i hlt
        have e1 : l[i]? = some l[i] := List.getElem?_eq_getElem (by omega)
        have e2 : s[i]? = some s[i] := List.getElem?_eq_getElem hlt
        by_cases hne : l[i] = s[i]
        · rw [hne] at d1
          have HN : Hid (∀ j, j < i + 1 → l[j]? = s[j]?) := by
            intro j hj
            by_cases e : j = i
            · subst e; rw [e1, e2, hne]
            · exact HK.out j (by omega)
          have hc : s[i].toNat < 256 := s[i].toNat_lt
          generalize s[i].toNat = v at d1 d2 hc
          clear e1 e2 hne HK
          go_wp2
          go_round
          case rel => exact ⟨i + 1, by go_num, by omega, HN.out⟩
          case measure => simp [intOf]; omega
        · have HA := Lib.hid (alike_stop hl HK.out hi (.inr (by rw [e1, e2]; intro hc; exact hne (Option.some.inj hc))))
          have hb : (((l[i].toNat : Nat) : Int) != ((s[i].toNat : Nat) : Int)) = true := by
            rw [bne_iff_ne]
            intro hc
            exact hne (UInt8.toNat_inj.1 (by omega))
          generalize l[i].toNat = u at d1 hb
          generalize s[i].toNat = v at d2 hb
          clear e1 e2 hne HK
          go_wp2
          go_ret
          exact ⟨by rw [HA.out]; rfl, rfl⟩

/-- bytes put behind those that there are, of the call's own from B on -/
def PutV10 (w : World) (B : Nat) (v : Value) (ys : List UInt8) (e : Ending) (w' : World) : Prop :=
  ∃ q cap, e = .returned (.slice q ys.length cap) ∧ Has w' B (.slice q ys.length cap) ys ∧ Aside (fun k => v.ownBlock = some k) w w' ∧ ∀ k, (Value.slice q ys.length cap).ownBlock = some k → v.ownBlock = some k ∨ w.heap.size ≤ k
/-- two appends one behind the other, with new blocks between -/
theorem aside_two {w w1 w2 w3 w4 : World} {v v2 : Value} (h1 : Below w.heap.size w w1) (h2 : Aside (fun k => v.ownBlock = some k) w1 w2) (hv : ∀ k, v2.ownBlock = some k → v.ownBlock = some k ∨ w1.heap.size ≤ k) (h3 : Below w2.heap.size w2 w3) (h4 : Aside (fun k => v2.ownBlock = some k) w3 w4) : Aside (fun k => v.ownBlock = some k) w w4 := by
  have a1 := aside_new h1 (fun k => v.ownBlock = some k)
  have a2 := a1.trans h2 (fun _ _ h => h)
  have a3 := a2.trans (aside_new h3 (fun k => v.ownBlock = some k)) (fun _ _ h => h)
  exact a3.trans h4 (fun i hi hc => by
    rcases hv i hc with h | h
    · exact h
    · have := h1.size; omega)

set_option maxRecDepth 100000 in
set_option maxHeartbeats 1000000 in
theorem putLitK (p l : List UInt8) (B : Nat) (vp : Value) (q : Option Addr) (c : Nat) (w : World) (hB : B ≤ w.heap.size) (hp : p.length ≤ 1000000) (hl : l.length ≤ 2048) (hb : Has w B vp p) (hq : AtB w B q l) :
    Calls Tryz.prog 54 #[vp, .slice q l.length c] w (PutV10 w B vp (Blk.putL p l)) := by
  obtain ⟨p0, cap, rfl, -, hcap⟩ := hb.at
  have HHas := Lib.hid hb
  have HQ := Lib.hid hq
  clear hb hq
  unfold Blk.putL
  by_cases h0 : l = []
  · rw [if_pos h0]
    subst h0
    go_enter Tryz.func54, Tryz.ntmps54
    go_wp2
    go_ret
    exact ⟨p0, cap, rfl, HHas.out, Aside.refl _ _, fun k hk => .inl hk⟩
  · rw [if_neg h0]
    have g0 : ((l.length : Int) == 0) = false := by
      rw [beq_eq_false_iff_ne]
      have := List.length_pos_iff.2 h0
      omega
    have HP : Hid (∀ z : Int, z = ((2 * l.length : Nat) : Int) → Calls Tryz.prog 78 #[.int .u64 z] w fun e w' => ∃ g cap, e = .returned (.slice (some ⟨g, 0, none⟩) (Leb.put (2 * l.length)).length cap) ∧ Mine w' w.heap.size g cap (Leb.put (2 * l.length)) ∧ Below w.heap.size w w') := fun z hz => by
      subst hz; exact put_any _ (by omega) w
    have hpl := Leb.put_length_le (2 * l.length)
    obtain ⟨u, hu⟩ : ∃ u, u = Leb.put (2 * l.length) := ⟨_, rfl⟩
    rw [← hu] at HP hpl ⊢
    clear hu h0
    go_enter Tryz.func54, Tryz.ntmps54
    go_wp2_with fail
    refine (HP.out _ (by omega)).mono ?_
    rintro e w1 ⟨g, cap1, rfl, hm, hb1⟩
    have HM := Lib.hid hm
    have HB1 := Lib.hid hb1
    have hB1 := hb1.size
    clear hm hb1
    go_wp2_with (first
      | (at_builtin
         refine wp_ontoL (HHas.out.on HB1.out) HM.out.at (by omega) (by omega) rfl rfl rfl rfl rfl ?_
         intro ys q3 cap3 W HY hh ha hk
         have HB2 := Lib.hid (aside_low ha (HHas.out.on HB1.out) (by omega))
         have HH := Lib.hid hh
         have hyl : ys.length ≤ 1100000 := by rw [HY.out, List.length_append]; omega
         have HQ2 := Lib.hid ((HQ.out.keep (HB1.out.mono hB)).keep HB2.out)
         have hB2 := HB2.out.size
         have HA1 := Lib.hid ha
         have HK1 := Lib.hid hk
         clear ha hk hh)
      | (at_builtin
         refine wp_ontoL HH.out HQ2.out.at_ (by omega) (by omega) rfl rfl rfl rfl rfl ?_
         intro zs q4 cap4 W2 HZ hh ha hk
         have HA2 := Lib.hid ha
         have HK2 := Lib.hid hk
         have HH2 := Lib.hid hh
         clear ha hk hh))
    go_ret
    have e : zs = p ++ (u ++ l) := by rw [HZ.out, HY.out, List.append_assoc]
    rw [← e]
    refine ⟨q4, cap4, rfl, HH2.out, aside_two HB1.out HA1.out HK1.out (Below.refl _ _) HA2.out, fun k hk => ?_⟩
    rcases HK2.out k hk with h | h
    · rcases HK1.out k h with h | h
      · exact .inl h
      · exact .inr (by omega)
    · exact .inr (by omega)

set_option maxRecDepth 100000 in
set_option maxHeartbeats 1000000 in
theorem putMatK (p : List UInt8) (m : Blk.Mt) (B : Nat) (vp : Value) (w : World) (hB : B ≤ w.heap.size) (hp : p.length ≤ 1000000) (hm1 : m.size ≤ 255) (hm2 : m.back ≤ 1024) (hb : Has w B vp p) :
    Calls Tryz.prog 53 #[vp, .agg #[.int .i64 (m.size : Nat), .int .i64 (m.back : Nat)]] w (PutV10 w B vp (Blk.putM p m)) := by
  obtain ⟨p0, cap, rfl, -, hcap⟩ := hb.at
  unfold Blk.putM
  obtain ⟨ms, hms⟩ : ∃ ms, ms = m.size := ⟨_, rfl⟩
  obtain ⟨mb, hmb⟩ : ∃ mb, mb = m.back := ⟨_, rfl⟩
  rw [← hms, ← hmb]
  rw [← hms] at hm1
  rw [← hmb] at hm2
  clear hms hmb m
  obtain ⟨W0, hW0⟩ : ∃ W0, W0 = w.alloc (.cells #[.int .i64 (ms : Nat), .int .i64 (mb : Nat)] 90) := ⟨_, rfl⟩
  have HB0 : Hid (Below w.heap.size w W0) := by rw [hW0]; exact (Below.refl _ _).alloc (Nat.le_refl _) _
  have d0 : W0.cell? ⟨w.heap.size, 0, none⟩ = some (.int .i64 ms) := by rw [hW0]; simp
  have d1 : W0.cell? ⟨w.heap.size, 1, none⟩ = some (.int .i64 mb) := by rw [hW0]; simp
  have hs0 : W0.heap.size = w.heap.size + 1 := by rw [hW0]; simp
  have HHas := Lib.hid (hb.on HB0.out)
  have HL : Hid (∀ k, (Value.slice p0 p.length cap).ownBlock = some k → k < w.heap.size) := fun k hk => (hb.lt k hk).2
  have HP : Hid (∀ (W : World) (z : Int), z = ((2 * ms + 1 : Nat) : Int) → Calls Tryz.prog 78 #[.int .u64 z] W fun e w' => ∃ g cap, e = .returned (.slice (some ⟨g, 0, none⟩) (Leb.put (2 * ms + 1)).length cap) ∧ Mine w' W.heap.size g cap (Leb.put (2 * ms + 1)) ∧ Below W.heap.size W w') := fun W z hz => by
    subst hz; exact put_any _ (by omega) W
  have HP2 : Hid (∀ (W : World) (z : Int), z = ((mb : Nat) : Int) → Calls Tryz.prog 78 #[.int .u64 z] W fun e w' => ∃ g cap, e = .returned (.slice (some ⟨g, 0, none⟩) (Leb.put mb).length cap) ∧ Mine w' W.heap.size g cap (Leb.put mb) ∧ Below W.heap.size W w') := fun W z hz => by
    subst hz; exact put_any _ (by omega) W
  have hpl := Leb.put_length_le (2 * ms + 1)
  have hpl2 := Leb.put_length_le mb
  obtain ⟨u, hu⟩ : ∃ u, u = Leb.put (2 * ms + 1) := ⟨_, rfl⟩
  obtain ⟨v, hv⟩ : ∃ v, v = Leb.put mb := ⟨_, rfl⟩
  rw [← hu] at HP hpl ⊢
  rw [← hv] at HP2 hpl2 ⊢
  have HW0 := Lib.hid hW0
  clear hu hv hW0 hb
  go_enter Tryz.func53, Tryz.ntmps53
  go_wp2_with fail
  rw [← HW0.out]
  refine (HP.out _ _ (by omega)).mono ?_
  rintro e w1 ⟨g, cap1, rfl, hm, hb1⟩
  have HM := Lib.hid hm
  have HB1 := Lib.hid hb1
  have hB1 := hb1.size
  have e1 : w1.cell? ⟨w.heap.size, 1, none⟩ = some (.int .i64 mb) := by rw [HB1.out.cell (p := ⟨w.heap.size, 1, none⟩) (by show w.heap.size < _; omega)]; exact d1
  clear hm hb1
  go_wp2_with (first
    | (at_builtin
       refine wp_ontoL (HHas.out.on HB1.out) HM.out.at (by omega) (by omega) rfl rfl rfl rfl rfl ?_
       intro ys q3 cap3 W HY hh ha hk
       have HB2 := Lib.hid (aside_low ha (HHas.out.on HB1.out) (by omega))
       have f1 : W.cell? ⟨w.heap.size, 1, none⟩ = some (.int .i64 mb) := by
         rw [ha.cell (p := ⟨w.heap.size, 1, none⟩) (by show w.heap.size < _; omega) (fun hc => by have := HL.out _ hc; exact absurd this (Nat.lt_irrefl _))]
         exact e1
       have HH := Lib.hid hh
       have hyl : ys.length ≤ 1100000 := by rw [HY.out, List.length_append]; omega
       have hB2 := HB2.out.size
       have HA1 := Lib.hid ha
       have HK1 := Lib.hid hk
       clear ha hk hh)
    | fail)
  refine (HP2.out _ _ (by omega)).mono ?_
  rintro e w2 ⟨g2, cap2, rfl, hm, hb1⟩
  have HM2 := Lib.hid hm
  have HB3 := Lib.hid hb1
  have hB3 := hb1.size
  clear hm hb1
  go_wp2_with (first
    | (at_builtin
       refine wp_ontoL (HH.out.on HB3.out) HM2.out.at (by omega) (by omega) rfl rfl rfl rfl rfl ?_
       intro zs q4 cap4 W2 HZ hh ha hk
       have HA2 := Lib.hid ha
       have HK2 := Lib.hid hk
       have HH2 := Lib.hid hh
       clear ha hk hh)
    | fail)
  go_ret
  have e : zs = p ++ (u ++ v) := by rw [HZ.out, HY.out, List.append_assoc]
  rw [← e]
  refine ⟨q4, cap4, rfl, HH2.out, aside_two (HB0.out.trans (HB1.out.mono (by omega))) HA1.out HK1.out HB3.out HA2.out, fun k hk => ?_⟩
  rcases HK2.out k hk with h | h
  · rcases HK1.out k h with h | h
    · exact .inl h
    · exact .inr (by omega)
  · exact .inr (by omega)
end Go.Proofs.YtpkbdnilakaakaaGreat

/- Four bytes as a map's key. -/
namespace Go.Proofs.YtpkbdnilakaakaaGreat
open Go.RowKit Go.Maps

theorem laid10 : laidOutB Tryz.prog = true := by kernel_rfl
theorem key4_row : (121 : TypeId) < Tryz.prog.types.size := of_decide_eq_true (by kernel_rfl)
theorem key4_wide : (match Tryz.prog.underlying 121 with | some (.array _ _) | some (.struct _) => true | _ => false) = true := by kernel_rfl
set_option maxRecDepth 100000 in
theorem law4 : Keyed Tryz.prog 121 := Keyed.of_law (deep_law_laid laid10 (m := 3) (by omega) key4_row (by kernel_rfl) key4_wide)
theorem zeroI10 (w : World) : (zeroValue 3).run Tryz.prog w = .ok (.int .i64 0) w := by kernel_rfl
theorem key4_type : Tryz.prog.keyType 121 = true := by kernel_rfl
theorem key4_cells : Tryz.prog.cellsOf 121 = 4 := by kernel_rfl
theorem key1_cells : Tryz.prog.cellsOf 5 = 1 := by kernel_rfl
theorem key4_size : ∃ n, Tryz.prog.types.size + 1 = n + 2 := ⟨Tryz.prog.types.size - 1, by kernel_rfl⟩

theorem key_wf8 (a : Nat) (h : a < 256) : (Lit.int .u8 (a : Int)).wf = true := by
  have : ∀ i : Fin 256, (Lit.int .u8 ((i.val : Nat) : Int)).wf = true := by decide +kernel
  exact this ⟨a, h⟩
theorem key_bytes8 (a : Nat) (h : a < 256) : Lit.keyBytes (.int .u8 (a : Int)) = [UInt8.ofNat a] := by
  show bytesBE 1 ((a : Int) % 2 ^ 8).toNat = _
  have e : ((a : Int) % 2 ^ 8).toNat = a := by omega
  rw [e]
  show [UInt8.ofNat (a % 256)] = _
  rw [Nat.mod_eq_of_lt h]
theorem lits1 (n a : Nat) (h : a < 256) : Tryz.prog.keyLits (n + 1) 5 [.int .u8 (a : Int)] = some [.int .u8 (a : Int)] := by
  unfold Program.keyLits
  simp only [Tryz.underlying5]
  rw [if_pos ⟨trivial, key_wf8 a h⟩]
theorem key4_of (a b c d : Nat) (ha : a < 256) (hb : b < 256) (hc : c < 256) (hd : d < 256) : keyOf Tryz.prog 121 (.agg #[.int .u8 a, .int .u8 b, .int .u8 c, .int .u8 d]) = some (.string [UInt8.ofNat a, UInt8.ofNat b, UInt8.ofNat c, UInt8.ofNat d]) := by
  obtain ⟨n, hn⟩ := key4_size
  have hl : Tryz.prog.keyLits (n + 2) 121 [.int .u8 a, .int .u8 b, .int .u8 c, .int .u8 d] = some [.int .u8 a, .int .u8 b, .int .u8 c, .int .u8 d] := by
    unfold Program.keyLits
    simp only [Tryz.underlying121]
    rw [if_pos (by rw [key4_cells]; rfl), key1_cells, show List.range 4 = [0, 1, 2, 3] from rfl]
    simp [lits1, ha, hb, hc, hd]
  unfold keyOf
  rw [hn]
  simp only [Tryz.underlying121]
  rw [if_pos (by rw [key4_type]; simp [Value.formed, Tryz.underlying121, key4_cells])]
  show (Tryz.prog.keyLits (n + 2) 121 [.int .u8 a, .int .u8 b, .int .u8 c, .int .u8 d]).map _ = _
  rw [hl]
  simp [keyBytes, key_bytes8, ha, hb, hc, hd]
end Go.Proofs.YtpkbdnilakaakaaGreat
