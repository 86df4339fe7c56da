/- BlockTokens. -/
import Derived.Test.YtoojflhafmnggaaWLive10
import Derived.Test.YtoojflhafmnggaaWRefL
namespace Go.Proofs.Ytoojflhafmnggaa
open Go.RowKit

/-- a token that is handed in -/
structure TokA where
  p : Option Addr
  c : Nat
  l : List UInt8
  n : Int
  back : Int
/-- it lies in w -/
structure TokA.Ok (w : World) (o : TokA) : Prop where
  n1 : -9223372036854775808 ≤ o.n
  n2 : o.n ≤ 9223372036854775807
  b1 : -9223372036854775808 ≤ o.back
  b2 : o.back ≤ 9223372036854775807
  len : o.l.length ≤ 140737488351232
  lies : At w o.p o.l
/-- tokens one behind the other -/
def TokRow (w : World) (p : Option Addr) (ts : List TokA) : Prop :=
  ts = [] ∨ ∃ b off, p = some ⟨b, off, none⟩ ∧ b < w.heap.size ∧ ∀ i (h : i < ts.length), (ts[i]).Ok w ∧ w.cell? ⟨b, off + i * 3, none⟩ = some (.slice ts[i].p ts[i].l.length ts[i].c) ∧ w.cell? ⟨b, off + i * 3 + 1, none⟩ = some (.int .i64 ts[i].n) ∧ w.cell? ⟨b, off + i * 3 + 2, none⟩ = some (.int .i64 ts[i].back)

/-- while tokens are laid down -/
structure Lay (w wr : World) (v3 v4 : Value) (P out : List UInt8) : Prop where
  low : Below w.heap.size w wr
  hp : Has wr w.heap.size v3 (1 :: P)
  ho : Has wr w.heap.size v4 out
  apart : ∀ k, v3.ownBlock = some k → v4.ownBlock ≠ some k
  makes : Blk.Makes P out
theorem Lay.on {w wr w' : World} {v3 v4 : Value} {P out : List UInt8} (h : Lay w wr v3 v4 P out) (hb : Below wr.heap.size wr w') : Lay w w' v3 v4 P out :=
  ⟨h.low.trans (hb.mono h.low.size), h.hp.on hb, h.ho.on hb, h.apart, h.makes⟩
/-- more tokens behind: the other bytes stay -/
theorem Has.more {w W : World} {B : Nat} {v v4 : Value} {out : List UInt8} (h4 : Has w B v4 out) (ha : Aside (fun k => v.ownBlock = some k) w W) (hap : ∀ k, v.ownBlock = some k → v4.ownBlock ≠ some k) : Has W B v4 out :=
  h4.aside ha (fun k hk hc => hap k hc hk)

/-- while a match's bytes are taken: F is the token's own place, B2 the size ahead of what was put -/
structure Inner (w w2 W7 wx : World) (F d : Nat) (v3 : Value) (zs : List UInt8) (v4 : Value) (os : List UInt8) : Prop where
  low : Below w.heap.size w wx
  back : wx.cell? ⟨F, 2, none⟩ = some (.int .i64 (d : Nat))
  hp : Has wx w.heap.size v3 zs
  ho : Has wx w.heap.size v4 os
  apart : ∀ k, v3.ownBlock = some k → v4.ownBlock ≠ some k
  far : ∀ k, v4.ownBlock = some k → k < F ∨ W7.heap.size ≤ k
  size : W7.heap.size ≤ wx.heap.size
theorem Inner.push {w w2 W7 wx W : World} {F d : Nat} {v3 v4 : Value} {zs os ys : List UInt8} {o : Obj} {q : Option Addr} {cap n : Nat} (h : Inner w w2 W7 wx F d v3 zs v4 os) (ha : Aside (fun k => v4.ownBlock = some k) (wx.alloc o) W) (hk : ∀ k, (Value.slice q n cap).ownBlock = some k → v4.ownBlock = some k ∨ (wx.alloc o).heap.size ≤ k) (hh : Has W w.heap.size (.slice q n cap) ys) (hF : F < W7.heap.size := by assumption) : Inner w w2 W7 W F d v3 zs (.slice q n cap) ys := by
  have hs := h.size
  have h0 := h.low.size
  have hal : Below wx.heap.size wx (wx.alloc o) := (Below.refl _ _).alloc (Nat.le_refl _) _
  have hsz : (wx.alloc o).heap.size = wx.heap.size + 1 := by simp
  have ho' := h.ho.alloc o
  refine ⟨(h.low.trans (hal.mono h0)).trans (aside_low ha ho' (by omega)), ?_, ?_, hh, fun k h3 h4 => ?_, fun k h4 => ?_, by have := ha.size; omega⟩
  · rw [ha.cell (p := ⟨F, 2, none⟩) (by show F < _; omega) (fun hc => by
      rcases h.far F hc with h' | h'
      · exact absurd h' (Nat.lt_irrefl _)
      · omega), hal.cell (p := ⟨F, 2, none⟩) (by show F < _; omega)]
    exact h.back
  · exact (h.hp.alloc o).more ha (fun k hk4 h3 => h.apart k h3 hk4)
  · rcases hk k h4 with h' | h'
    · exact h.apart k h3 h'
    · have := (h.hp.lt k h3).2; omega
  · rcases hk k h4 with h' | h'
    · exact h.far k h'
    · exact .inr (by omega)

set_option maxRecDepth 100000 in
set_option maxHeartbeats 4000000 in
theorem blockTokens_any (p : Option Addr) (c : Nat) (ts : List TokA) (hts : ts.length ≤ 3600000000000) (w : World) (h : TokRow w p ts) :
    Calls Try.prog 8 #[.slice p ts.length c] w fun e w' => e = .returned (.bool true) ∧ Below w.heap.size w w' := by
  have HRow := Lib.hid h
  have HS : Hid (Lay w (w.alloc (.cells #[.int .u8 1] 5)) (.slice (some ⟨w.heap.size, 0, none⟩) 1 1) (.slice none 0 0) [] []) :=
    ⟨(Below.refl _ _).alloc (Nat.le_refl _) _, has_lit (B := w.heap.size) [1] rfl (Nat.le_refl _) (by decide), has_nil _ _, fun k _ h => by simp [Value.ownBlock] at h, Blk.makes_nil⟩
  clear h
  go_enter Try.func8, Try.ntmps8
  go_wp2_with fail
  generalize w.alloc (.cells #[.int .u8 1] 5) = W0 at HS ⊢
  go_loopw [3, 4, 5] (fun v3 v4 v5 wr => ∃ (i : Nat) (P out : List UInt8), i ≤ ts.length ∧ v5 = .int .i64 i ∧ out.length ≤ 2048 ∧ P.length ≤ 40 * out.length ∧ Hid (Lay w wr v3 v4 P out)) (fun _ _ v5 _ => ts.length - (intOf v5).toNat)
  case atStart => exact ⟨0, [], [], Nat.zero_le _, rfl, by simp, by simp, HS⟩
  case round =>
    obtain ⟨i, P, out, hi, rfl, ho, hP, HLay⟩ := hrel
    obtain ⟨p3, c3, rfl, -, hc3⟩ := HLay.out.hp.at
    obtain ⟨p4, c4, rfl, -, hc4⟩ := HLay.out.ho.at
    have hlow := HLay.out.low.size
    obtain ⟨L3, hL3⟩ : ∃ L3, L3 = (1 :: P).length := ⟨_, rfl⟩
    have hL3' : L3 = P.length + 1 := hL3
    by_cases hlt : i < ts.length
    · obtain ⟨b, off, rfl, hbl, hcs⟩ : ∃ b off, p = some ⟨b, off, none⟩ ∧ b < w.heap.size ∧ ∀ i (h : i < ts.length), (ts[i]).Ok w ∧ w.cell? ⟨b, off + i * 3, none⟩ = some (.slice ts[i].p ts[i].l.length ts[i].c) ∧ w.cell? ⟨b, off + i * 3 + 1, none⟩ = some (.int .i64 ts[i].n) ∧ w.cell? ⟨b, off + i * 3 + 2, none⟩ = some (.int .i64 ts[i].back) := by
        rcases HRow.out with h | h
        · rw [h] at hlt; simp at hlt
        · exact h
      obtain ⟨⟨n1, n2, b1, b2, hlen, hlies⟩, e0, e1, e2⟩ := hcs i hlt
      generalize ts[i] = t at n1 n2 b1 b2 hlen hlies e0 e1 e2
      obtain ⟨op, oc, ol, n, bk⟩ := t
      dsimp only at n1 n2 b1 b2 hlen hlies e0 e1 e2
      have d0 : wr.cell? ⟨b, off + i * 3, none⟩ = some (.slice op ol.length oc) := by rw [HLay.out.low.cell (p := ⟨b, off + i * 3, none⟩) hbl]; exact e0
      have d1 : wr.cell? ⟨b, off + i * 3 + 1, none⟩ = some (.int .i64 n) := by rw [HLay.out.low.cell (p := ⟨b, off + i * 3 + 1, none⟩) hbl]; exact e1
      have d2 : wr.cell? ⟨b, off + i * 3 + 2, none⟩ = some (.int .i64 bk) := by rw [HLay.out.low.cell (p := ⟨b, off + i * 3 + 2, none⟩) hbl]; exact e2
      have HB := Lib.hid (hlies.atB (Nat.le_refl w.heap.size))
      obtain ⟨W1, hW1⟩ : ∃ W1, W1 = wr.alloc (.cells #[.slice op ol.length oc, .int .i64 n, .int .i64 bk] 33) := ⟨_, rfl⟩
      have hb1 : Below wr.heap.size wr W1 := by rw [hW1]; exact (Below.refl _ _).alloc (Nat.le_refl _) _
      have hF : W1.heap[wr.heap.size]? = some (.cells #[.slice op ol.length oc, .int .i64 n, .int .i64 bk] 33 (0, 0)) := by rw [hW1]; exact blk_new wr _
      have HLay1 := Lib.hid (HLay.out.on hb1)
      have HW1 := Lib.hid hW1
      have HF := Lib.hid hF
      have hs1 : W1.heap.size = wr.heap.size + 1 := by rw [hW1]; simp
      have H3 : Hid (∀ k, (Value.slice p3 (1 :: P).length c3).ownBlock = some k → k < wr.heap.size) := fun k hk => (HLay.out.hp.lt k hk).2
      have H4 : Hid (∀ k, (Value.slice p4 out.length c4).ownBlock = some k → k < wr.heap.size) := fun k hk => (HLay.out.ho.lt k hk).2
      clear e0 e1 e2 hcs hlies hb1 hF hW1 hL3 hL3' L3
      by_cases hn0 : n = 0
      · subst hn0
        by_cases hl0 : ol.length = 0
        · have HW2 : Hid (W1 = wr.alloc (.cells #[.slice op 0 oc, .int .i64 0, .int .i64 bk] 33)) := by
            have h := HW1.out
            rw [hl0] at h
            exact h
          clear HW1
          go_wp2_with fail
          rw [← HW2.out]
          go_roundw
          case rel => exact ⟨i + 1, P, out, by omega, by go_num, ho, hP, HLay1.out⟩
          case measure => simp [intOf]; omega
        have g0 : ((ol.length : Int) == 0) = false := by rw [beq_eq_false_iff_ne]; omega
        by_cases hbig : 2048 - out.length < ol.length
        · have g1 : 2048 - (out.length : Int) < (ol.length : Int) := by omega
          go_wp2_with fail
          rw [← HW1.out]
          go_roundw
          case rel => exact ⟨i + 1, P, out, by omega, by go_num, ho, hP, HLay1.out⟩
          case measure => simp [intOf]; omega
        have g1 : ¬ 2048 - (out.length : Int) < (ol.length : Int) := by omega
        obtain ⟨k, hk⟩ : ∃ k, k = ol.length := ⟨_, rfl⟩
        have HPut : Hid (∀ (W : World) (z : Int), z = ((2 * ol.length : Nat) : Int) → Calls Try.prog 15 #[.int .u64 z] W fun e w' => ∃ g cap, e = .returned (.slice (some ⟨g, 0, none⟩) (Leb.put (2 * ol.length)).length cap) ∧ Mine w' W.heap.size g cap (Leb.put (2 * ol.length)) ∧ Below W.heap.size W w') := fun W z hz => by
          subst hz; exact refPut_any _ (by omega) W
        have hpl := Leb.put_length_le (2 * ol.length)
        have HMk := Lib.hid (HLay1.out.makes.lit (l := ol) (fun h => hl0 (by rw [h]; rfl)) (by omega))
        obtain ⟨u, hu⟩ : ∃ u, u = Leb.put (2 * ol.length) := ⟨_, rfl⟩
        rw [← hu] at HPut hpl HMk
        have hP1 : (1 :: P).length = P.length + 1 := rfl
        have f0 : W1.cell? ⟨wr.heap.size, 0, none⟩ = some (.slice op ol.length oc) := blk_cell HF.out 0
        clear hu
        go_wp2_with fail
        rw [← HW1.out]
        refine (HPut.out W1 _ (by omega)).mono ?_
        rintro e w2 ⟨g2, cap2, rfl, hm2, hb2⟩
        have HM := Lib.hid hm2
        have HB2 := Lib.hid hb2
        have hs2 := hb2.size
        have HLay2 := Lib.hid (HLay1.out.on hb2)
        clear hm2 hb2
        go_wp2_with (first
          | (at_builtin
             refine wp_ontoL HLay2.out.hp HM.out.at (by omega) (by omega) rfl rfl rfl rfl rfl ?_
             intro ys q5 cap5 W5 HY hh ha hk5
             have x0 : W5.cell? ⟨wr.heap.size, 0, none⟩ = some (.slice op ol.length oc) := by
               rw [ha.cell (p := ⟨wr.heap.size, 0, none⟩) (by show wr.heap.size < w2.heap.size; omega) (fun hc => absurd (H3.out _ hc) (Nat.lt_irrefl _)), HB2.out.cell (p := ⟨wr.heap.size, 0, none⟩) (by show wr.heap.size < W1.heap.size; omega)]
               exact f0
             have HH5 := Lib.hid hh
             have HA5 := Lib.hid ha
             have HK5 := Lib.hid hk5
             have hs5 := ha.size
             have hy5 : ys.length ≤ 90000 := by rw [HY.out, List.length_append]; omega
             have HB5 := Lib.hid (HLay2.out.low.trans (aside_low ha HLay2.out.hp (by omega)))
             have HO5 := Lib.hid (HLay2.out.ho.more ha HLay2.out.apart)
             clear hh ha hk5)
          | (at_builtin
             refine wp_ontoL HH5.out (HB.out.keep HB5.out).at_ (by omega) (by omega) rfl rfl rfl rfl rfl ?_
             intro zs q6 cap6 W6 HZ hh ha hk6
             have y0 : W6.cell? ⟨wr.heap.size, 0, none⟩ = some (.slice op ol.length oc) := by
               rw [ha.cell (p := ⟨wr.heap.size, 0, none⟩) (by show wr.heap.size < W5.heap.size; omega) (fun hc => by
                 rcases HK5.out _ hc with h | h
                 · exact absurd (H3.out _ h) (Nat.lt_irrefl _)
                 · exact absurd h (by show ¬ w2.heap.size ≤ wr.heap.size; omega))]
               exact x0
             have HH6 := Lib.hid hh
             have HA6 := Lib.hid ha
             have HK6 : Hid (∀ k, (Value.slice q6 zs.length cap6).ownBlock = some k → (Value.slice p3 (1 :: P).length c3).ownBlock = some k ∨ w2.heap.size ≤ k) := fun k hk => by
               rcases hk6 k hk with h | h
               · exact HK5.out k h
               · exact .inr (by omega)
             have hs6 := ha.size
             have hz6 : zs.length ≤ 100000 := by rw [HZ.out, List.length_append]; omega
             have HB6 := Lib.hid (HB5.out.trans (aside_low ha HH5.out (by omega)))
             have HO6 := Lib.hid (HO5.out.more ha (fun k hk h4 => by
               rcases HK5.out k hk with h | h
               · exact HLay2.out.apart k h h4
               · have := H4.out k h4; omega))
             clear hh ha hk6)
          | (at_builtin
             refine wp_ontoL HO6.out (HB.out.keep HB6.out).at_ (by omega) (by omega) rfl rfl rfl rfl rfl ?_
             intro os q7 cap7 W7 HOs hh ha hk7
             have HH7 := Lib.hid hh
             have HK7 := Lib.hid hk7
             have HB7 := Lib.hid (HB6.out.trans (aside_low ha HO6.out (by omega)))
             have HP7 := Lib.hid (HH6.out.more ha (fun k h4 hk => by
               rcases HK6.out k hk with h | h
               · exact HLay2.out.apart k h h4
               · have := H4.out k h4; omega))
             have HL6 : Hid (∀ k, (Value.slice q6 zs.length cap6).ownBlock = some k → k < W6.heap.size) := fun k hk => (HH6.out.lt k hk).2
             clear hh ha hk7)
          | fail)
        go_roundw
        case rel =>
          have e1 : zs = 1 :: (P ++ (u ++ ol)) := by rw [HZ.out, HY.out, List.append_assoc]; rfl
          have e2 : os = out ++ ol := HOs.out
          refine ⟨i + 1, P ++ (u ++ ol), out ++ ol, by omega, by go_num, ?_, ?_, ⟨HB7.out, ?_, ?_, ?_, HMk.out⟩⟩
          · rw [List.length_append]; omega
          · simp only [List.length_append]; omega
          · rw [← e1]; exact HP7.out
          · rw [← e2]; exact HH7.out
          · intro k hk h7
            rcases HK7.out k h7 with h | h
            · rcases HK6.out k hk with h' | h'
              · exact HLay2.out.apart k h' h
              · have := H4.out k h; omega
            · have := HL6.out k hk; omega
        case measure => simp [intOf]; omega
      · have gn : ((n : Int) == 0) = false := by rw [beq_eq_false_iff_ne]; omega
        have gn2 : ((n : Int) != 0) = true := by rw [bne_iff_ne]; omega
        by_cases m1 : ¬ 4 ≤ n
        · have m1' : n < 4 := by omega
          go_wp2_with fail
          rw [← HW1.out]
          go_roundw
          case rel => exact ⟨i + 1, P, out, by omega, by go_num, ho, hP, HLay1.out⟩
          case measure => simp [intOf]; omega
        have m1' : 4 ≤ n := by omega
        clear m1
        by_cases m2 : ¬ n ≤ 255
        · have m2' : 255 < n := by omega
          go_wp2_with fail
          rw [← HW1.out]
          go_roundw
          case rel => exact ⟨i + 1, P, out, by omega, by go_num, ho, hP, HLay1.out⟩
          case measure => simp [intOf]; omega
        have m2' : n ≤ 255 := by omega
        clear m2
        by_cases m3 : ¬ 1 ≤ bk
        · have m3' : bk < 1 := by omega
          go_wp2_with fail
          rw [← HW1.out]
          go_roundw
          case rel => exact ⟨i + 1, P, out, by omega, by go_num, ho, hP, HLay1.out⟩
          case measure => simp [intOf]; omega
        have m3' : 1 ≤ bk := by omega
        clear m3
        by_cases m4 : ¬ bk ≤ 1024
        · have m4' : 1024 < bk := by omega
          go_wp2_with fail
          rw [← HW1.out]
          go_roundw
          case rel => exact ⟨i + 1, P, out, by omega, by go_num, ho, hP, HLay1.out⟩
          case measure => simp [intOf]; omega
        have m4' : bk ≤ 1024 := by omega
        clear m4
        by_cases m5 : ¬ bk ≤ (out.length : Int)
        · have m5' : (out.length : Int) < bk := by omega
          go_wp2_with fail
          rw [← HW1.out]
          go_roundw
          case rel => exact ⟨i + 1, P, out, by omega, by go_num, ho, hP, HLay1.out⟩
          case measure => simp [intOf]; omega
        have m5' : bk ≤ (out.length : Int) := by omega
        clear m5
        by_cases hbig : 2048 - (out.length : Int) < n
        · go_wp2_with fail
          rw [← HW1.out]
          go_roundw
          case rel => exact ⟨i + 1, P, out, by omega, by go_num, ho, hP, HLay1.out⟩
          case measure => simp [intOf]; omega
        have g1 : ¬ 2048 - (out.length : Int) < n := hbig
        obtain ⟨m, rfl⟩ : ∃ m : Nat, n = (m : Int) := ⟨n.toNat, by omega⟩
        obtain ⟨d, rfl⟩ : ∃ d : Nat, bk = (d : Int) := ⟨bk.toNat, by omega⟩
        have k1 : 4 ≤ m := by omega
        have k2 : m ≤ 255 := by omega
        have k3 : 1 ≤ d := by omega
        have k4 : d ≤ 1024 := by omega
        have k5 : d ≤ out.length := by omega
        have k6 : out.length + m ≤ 2048 := by omega
        have HPut : Hid (∀ (W : World) (z : Int), z = ((2 * m + 1 : Nat) : Int) → Calls Try.prog 15 #[.int .u64 z] W fun e w' => ∃ g cap, e = .returned (.slice (some ⟨g, 0, none⟩) (Leb.put (2 * m + 1)).length cap) ∧ Mine w' W.heap.size g cap (Leb.put (2 * m + 1)) ∧ Below W.heap.size W w') := fun W z hz => by
          subst hz; exact refPut_any _ (by omega) W
        have HPut2 : Hid (∀ (W : World) (z : Int), z = ((d : Nat) : Int) → Calls Try.prog 15 #[.int .u64 z] W fun e w' => ∃ g cap, e = .returned (.slice (some ⟨g, 0, none⟩) (Leb.put d).length cap) ∧ Mine w' W.heap.size g cap (Leb.put d) ∧ Below W.heap.size W w') := fun W z hz => by
          subst hz; exact refPut_any _ (by omega) W
        have hpl := Leb.put_length_le (2 * m + 1)
        have hpl2 := Leb.put_length_le d
        have HMk := Lib.hid (HLay1.out.makes.mat m d k1 k2 k3 k4 k5 k6)
        obtain ⟨u, hu⟩ : ∃ u, u = Leb.put (2 * m + 1) := ⟨_, rfl⟩
        obtain ⟨v, hv⟩ : ∃ v, v = Leb.put d := ⟨_, rfl⟩
        rw [← hu] at HPut hpl HMk
        rw [← hv] at HPut2 hpl2 HMk
        have hP1 : (1 :: P).length = P.length + 1 := rfl
        have f2 : W1.cell? ⟨wr.heap.size, 2, none⟩ = some (.int .i64 (d : Nat)) := blk_cell HF.out 2
        clear hu hv
        go_wp2_with fail
        rw [← HW1.out]
        refine (HPut.out W1 _ (by omega)).mono ?_
        rintro e w2 ⟨g2, cap2, rfl, hm2, hb2⟩
        have HM := Lib.hid hm2
        have HB2 := Lib.hid hb2
        have hs2 := hb2.size
        have HLay2 := Lib.hid (HLay1.out.on hb2)
        clear hm2 hb2
        go_wp2_with (first
          | (at_builtin
             refine wp_ontoL HLay2.out.hp HM.out.at (by omega) (by omega) rfl rfl rfl rfl rfl ?_
             intro ys q5 cap5 W5 HY hh ha hk5
             have x2 : W5.cell? ⟨wr.heap.size, 2, none⟩ = some (.int .i64 (d : Nat)) := by
               rw [ha.cell (p := ⟨wr.heap.size, 2, none⟩) (by show wr.heap.size < w2.heap.size; omega) (fun hc => absurd (H3.out _ hc) (Nat.lt_irrefl _)), HB2.out.cell (p := ⟨wr.heap.size, 2, none⟩) (by show wr.heap.size < W1.heap.size; omega)]
               exact f2
             have HH5 := Lib.hid hh
             have HK5 := Lib.hid hk5
             have hs5 := ha.size
             have hy5 : ys.length ≤ 90000 := by rw [HY.out, List.length_append]; omega
             have HB5 := Lib.hid (HLay2.out.low.trans (aside_low ha HLay2.out.hp (by omega)))
             have HO5 := Lib.hid (HLay2.out.ho.more ha HLay2.out.apart)
             clear hh ha hk5)
          | fail)
        refine (HPut2.out W5 _ (by omega)).mono ?_
        rintro e w6 ⟨g6, cap6, rfl, hm6, hb6⟩
        have HM6 := Lib.hid hm6
        have hs6 := hb6.size
        have x6 : w6.cell? ⟨wr.heap.size, 2, none⟩ = some (.int .i64 (d : Nat)) := by
          rw [hb6.cell (p := ⟨wr.heap.size, 2, none⟩) (by show wr.heap.size < W5.heap.size; omega)]
          exact x2
        have HH6 := Lib.hid (HH5.out.on hb6)
        have HO6 := Lib.hid (HO5.out.on hb6)
        have HB6 := Lib.hid (HB5.out.trans (hb6.mono (by omega)))
        clear hm6 hb6
        go_wp2_with (first
          | (at_builtin
             refine wp_ontoL HH6.out HM6.out.at (by omega) (by omega) rfl rfl rfl rfl rfl ?_
             intro zs q7 cap7 W7 HZ hh ha hk7
             have x7 : W7.cell? ⟨wr.heap.size, 2, none⟩ = some (.int .i64 (d : Nat)) := by
               rw [ha.cell (p := ⟨wr.heap.size, 2, none⟩) (by show wr.heap.size < w6.heap.size; omega) (fun hc => by
                 rcases HK5.out _ hc with h | h
                 · exact absurd (H3.out _ h) (Nat.lt_irrefl _)
                 · exact absurd h (by show ¬ w2.heap.size ≤ wr.heap.size; omega))]
               exact x6
             have HH7 := Lib.hid hh
             have HK7 : Hid (∀ k, (Value.slice q7 zs.length cap7).ownBlock = some k → (Value.slice p3 (1 :: P).length c3).ownBlock = some k ∨ w2.heap.size ≤ k) := fun k hk => by
               rcases hk7 k hk with h | h
               · exact HK5.out k h
               · exact .inr (by omega)
             have hs7 := ha.size
             have HB7 := Lib.hid (HB6.out.trans (aside_low ha HH6.out (by omega)))
             have HO7 := Lib.hid (HO6.out.more ha (fun k hk h4 => by
               rcases HK5.out k hk with h | h
               · exact HLay2.out.apart k h h4
               · have := H4.out k h4; omega))
             clear hh ha hk7)
          | fail)
        have e1 : Hid (zs = 1 :: (P ++ (u ++ v))) := by show _ = _; rw [HZ.out, HY.out, List.append_assoc]; rfl
        obtain ⟨F, hFe⟩ : ∃ F, F = wr.heap.size := ⟨_, rfl⟩
        have hF7 : F < W7.heap.size := by omega
        have HIn : Hid (Inner w w2 W7 W7 F d (.slice q7 zs.length cap7) zs (.slice p4 out.length c4) out) := ⟨HB7.out, by rw [hFe]; exact x7, HH7.out, HO7.out, fun k hk h4 => by
          rcases HK7.out k hk with h | h
          · exact HLay2.out.apart k h h4
          · have := H4.out k h4; omega, fun k h4 => .inl (by rw [hFe]; exact H4.out k h4), Nat.le_refl _⟩
        rw [← hFe]
        clear hFe HO7 HH7 HB7 HK7 x7 x6 x2 f2 HB6 HO6 HH6 HM6 HB5 HO5 HH5 HM HLay2
        go_loopw [4, 9] (fun v4 v9 wr => ∃ (j : Nat), j ≤ m ∧ v9 = .int .i64 j ∧ Hid (Inner w w2 W7 wr F d (.slice q7 zs.length cap7) zs v4 (Blk.copyB j d out))) (fun _ v9 _ => m - (intOf v9).toNat)
        case atStart => exact ⟨0, Nat.zero_le _, rfl, HIn⟩
        case round =>
          obtain ⟨j, hj, rfl, HI⟩ := hrel
          obtain ⟨p9, c9, rfl, -, hc9⟩ := HI.out.ho.at
          have hlen := Blk.copyB_length j d out
          by_cases hjm : j < m
          · have hx := HI.out.back
            obtain ⟨g9, hg9, hm9⟩ : ∃ g9, p9 = some ⟨g9, 0, none⟩ ∧ Mine wr w.heap.size g9 c9 (Blk.copyB j d out) := by
              rcases HI.out.ho.form with ⟨h5, h6⟩ | ⟨g, cap', h5, h6⟩
              · have := congrArg List.length h6
                rw [hlen, List.length_nil] at this
                omega
              · injection h5 with h5 h7 h8
                subst h8
                exact ⟨g, h5, h6⟩
            subst hg9
            obtain ⟨L, hL⟩ : ∃ L, L = (Blk.copyB j d out).length := ⟨_, rfl⟩
            have hcell := getD_cell hm9 (L - d) (by omega)
            have hsn := Blk.copyB_snoc j d out
            rw [← hL] at hsn
            obtain ⟨ch, hch⟩ : ∃ ch, ch = (Blk.copyB j d out).getD (L - d) 0 := ⟨_, rfl⟩
            rw [← hch] at hcell hsn
            have HSn := Lib.hid hsn
            have hc256 : ch.toNat < 256 := ch.toNat_lt
            have HO9 := Lib.hid (HI.out.ho)
            rw [← hL] at HO9
            rw [← hL]
            have hdL : d ≤ L := by omega
            have hL2 : L ≤ 4096 := by omega
            have HL := Lib.hid hL
            have hsx := HI.out.low.size
            clear hsn hch hL hlen hm9
            go_wp2_with (first
              | (at_builtin
                 refine wp_ontoL (l := [ch]) (HO9.out.alloc _) (at_lit wr #[.int .u8 (ch.toNat : Int)] [ch] rfl) (by rw [← HL.out]; simp; omega) (by simp; omega) rfl rfl rfl rfl rfl ?_
                 intro os q10 cap10 W10 HOs hh ha hk10
                 have HNx := Lib.hid (HI.out.push ha hk10 hh)
                 clear hh ha hk10)
              | fail)
            go_roundw
            case rel =>
              refine ⟨j + 1, by omega, by go_num, ?_⟩
              rw [HSn.out, ← HOs.out]
              exact HNx.out
            case measure => simp [intOf]; omega
          · have hjj : j = m := by omega
            subst hjj
            go_wp2_with fail
            go_roundw
            case rel =>
              refine ⟨i + 1, P ++ (u ++ v), Blk.copyB j d out, by omega, by go_num, ?_, ?_, ⟨HI.out.low, ?_, HI.out.ho, HI.out.apart, HMk.out⟩⟩
              · rw [hlen]; omega
              · rw [hlen]; simp only [List.length_append]; omega
              · rw [← e1.out]; exact HI.out.hp
            case measure => simp [intOf]; omega
    · have hii : i = ts.length := by omega
      have hu := unpackK (1 :: P) p3 c3 wr (by show P.length + 1 ≤ _; omega) hc3 HLay.out.hp.at'.1
      rw [HLay.out.makes.done] at hu
      have HU := Lib.hid hu
      have B1 := Lib.hid HLay.out.low
      have O1 := Lib.hid HLay.out.ho.at'.1
      subst hii
      clear hu HLay hL3 hL3' L3
      go_wp2_with fail
      refine HU.out.mono ?_
      rintro e w2 ⟨q2, m2, cap2, rfl, hm2, hh2, hb2⟩
      dsimp only at hm2 hh2
      subst hm2
      have B2 := Lib.hid (B1.out.trans (hb2.mono B1.out.size))
      have O2 := Lib.hid (O1.out.on hb2)
      have Q2 := Lib.hid hh2.at'.1
      clear hh2 hb2 HU O1
      go_wp2_with fail
      refine (live10 w2).mono ?_
      rintro e w3 ⟨rfl, hb3⟩
      have B3 := Lib.hid (B2.out.trans (hb3.mono B2.out.size))
      have HSm := Lib.hid (same_any q2 p4 cap2 c4 out out (by omega) w3 (Q2.out.on hb3) (O2.out.on hb3))
      clear hb3 O2 Q2
      go_wp2_with fail
      refine HSm.out.mono ?_
      rintro e w4 ⟨rfl, k4, hw4⟩
      have B4 : Hid (Below w.heap.size w w4) := by rw [hw4]; exact below_drewN B3.out k4
      rw [beq_self_eq_true]
      clear hw4 HSm
      go_wp2
      go_ret
      exact ⟨rfl, B4.out⟩
end Go.Proofs.Ytoojflhafmnggaa
