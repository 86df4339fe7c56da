/- The landed block's Unpack. -/
import Derived.Test.YtoojflhafmnggaaK10C
namespace Go.Proofs.Ytoojflhafmnggaa
open Go.RowKit

set_option maxRecDepth 100000 in
set_option maxHeartbeats 1000000 in
theorem unpackK (l : List UInt8) (q : Option Addr) (c : Nat) (w : World) (hl : l.length ≤ 140737488351232) (hlc : l.length ≤ c) (hq : At w q l) :
    Calls Try.prog 14 #[.slice q l.length c] w (ResV w (Blk.unpack l)) := by
  cases l with
  | nil =>
    go_enter Try.func14, Try.ntmps14
    go_wp2
    go_ret2
    exact ⟨none, 0, 0, rfl, rfl, has_nil _ _, Below.refl _ _⟩
  | cons ch r =>
    obtain ⟨b, o, rfl, hb, hcs⟩ := at_some hq (by simp)
    have c0 : w.cell? ⟨b, o, none⟩ = some (.int .u8 (ch.toNat : Int)) := hcs 0 (by simp)
    have HC : Hid (At w (cutP (some ⟨b, o, none⟩) 1 c) r) := hq.cut 1 c hlc
    have hlen : (ch :: r).length = r.length + 1 := rfl
    obtain ⟨q1, hq1⟩ : ∃ q1, q1 = cutP (some ⟨b, o, none⟩) 1 c := ⟨_, rfl⟩
    obtain ⟨c1, hc1⟩ : ∃ c1, c1 = c - 1 := ⟨_, rfl⟩
    have hc256 : ch.toNat < 256 := ch.toNat_lt
    have hu : Blk.unpack (ch :: r) = if ch.toNat = 1 then Blk.toks [] r else if ch.toNat ≠ 0 then ⟨5, []⟩ else if 2048 < r.length then ⟨2, []⟩ else ⟨0, r⟩ := rfl
    obtain ⟨res, hres⟩ : ∃ res, res = Blk.unpack (ch :: r) := ⟨_, rfl⟩
    rw [← hres] at hu ⊢
    rw [← hq1] at HC
    have s2 : ∀ n, n = r.length + 1 → ∀ w, (Instr.slice 22 (.slice (some ⟨b, o, none⟩) n c) (some (.int .i64 1)) none none).run Try.prog w = .ok (.slice q1 r.length c1) w := fun n hn w => by
      have := run_cut_l .i64 (some ⟨b, o, none⟩) n c 1 (by omega) w
      rw [← hq1, ← hc1, show n - 1 = r.length by omega] at this
      exact this
    rw [hlen]
    rw [hlen] at hl hlc
    have hc1r : r.length ≤ c1 := by omega
    obtain ⟨n, hn⟩ : ∃ n, n = r.length + 1 := ⟨_, rfl⟩
    have s3 := s2 n hn
    rw [← hn]
    have hnr : r.length = n - 1 := by omega
    have hn1 : 1 ≤ n := by omega
    have hn2 : n ≤ 140737488351232 := by omega
    clear hlen hq1 hc1 hcs hq s2 hres
    have HN := Lib.hid hn
    obtain ⟨cv, hcv⟩ : ∃ cv, cv = ch.toNat := ⟨_, rfl⟩
    rw [← hcv] at c0 hc256 hu
    by_cases h1 : cv = 1
    · rw [if_pos h1] at hu
      have HT := Lib.hid (unpackTokensK r q1 c1 w (by omega) hc1r HC.out)
      rw [← hu] at HT
      subst h1
      clear hcv hu hn hnr
      go_enter Try.func14, Try.ntmps14
      go_wp2_with fail
      refine HT.out.mono ?_
      rintro e w' ⟨q3, m3, cap3, rfl, hm3, hh, hb3⟩
      subst hm3
      have HH := Lib.hid hh
      have HB := Lib.hid hb3
      clear hh hb3
      go_wp2
      go_ret2
      exact ⟨q3, _, cap3, rfl, rfl, HH.out, HB.out⟩
    · rw [if_neg h1] at hu
      have g1 : ((cv : Int) == 1) = false := by rw [beq_eq_false_iff_ne]; omega
      by_cases h0 : cv ≠ 0
      · rw [if_pos h0] at hu
        have g0 : ((cv : Int) != 0) = true := by rw [bne_iff_ne]; omega
        have HU := Lib.hid hu
        clear hcv hu hn hnr h1 h0
        go_enter Try.func14, Try.ntmps14
        go_wp2
        go_ret2
        rw [HU.out]
        exact ⟨none, 0, 0, rfl, rfl, has_nil _ _, Below.refl _ _⟩
      · rw [if_neg h0] at hu
        have h00 : cv = 0 := by omega
        subst h00
        clear h1 h0 g1
        by_cases h2 : 2048 < r.length
        · rw [if_pos h2] at hu
          have HU := Lib.hid hu
          have g2 : 2048 < n - 1 := by omega
          clear hcv hu hn hnr h2
          go_enter Try.func14, Try.ntmps14
          go_wp2
          go_ret2
          rw [HU.out]
          exact ⟨none, 0, 0, rfl, rfl, has_nil _ _, Below.refl _ _⟩
        · rw [if_neg h2] at hu
          have HU := Lib.hid hu
          have g2 : ¬ 2048 < n - 1 := by omega
          have hr2 : r.length ≤ 2048 := by omega
          clear hcv hu hn hnr h2
          go_enter Try.func14, Try.ntmps14
          go_wp2_with (at_builtin; refine wp_ontoL (has_nil w w.heap.size) HC.out (by simp; omega) (Nat.le_refl _) rfl rfl rfl rfl rfl ?_; intro ys q3 cap3 W HY hh ha hk)
          have HB := Lib.hid (aside_low ha (has_nil w w.heap.size) (Nat.le_refl _))
          have HH := Lib.hid hh
          clear ha hk hh
          go_wp2
          go_ret2
          rw [HU.out]
          have e : ys = r := HY.out
          rw [e] at HH
          rw [e]
          exact ⟨q3, _, cap3, rfl, rfl, HH.out, HB.out⟩
end Go.Proofs.Ytoojflhafmnggaa
