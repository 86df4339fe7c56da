/- DevPlays, walked. -/
import Derived.Test.YtoibeajcepbpjaaLDStep5
namespace Go.Proofs.Ytoibeajcepbpjaa
open Go.RowKit

/-- a step of a script, as it lies -/
structure DOp where
  kd : Int
  n : Int
  m : Int
  p : Option Addr
  c : Nat
  l : List UInt8

/-- it is a step, of things that lie in w -/
structure DOp.Ok (w : World) (o : DOp) : Prop where
  n1 : -9223372036854775808 ≤ o.n
  n2 : o.n ≤ 9223372036854775807
  m1 : -9223372036854775808 ≤ o.m
  m2 : o.m ≤ 9223372036854775807
  len : o.l.length ≤ 140737488351232
  cap : o.l.length ≤ o.c
  lies : At w o.p o.l

theorem at_low {w : World} {p : Option Addr} {l : List UInt8} (h : At w p l) (hne : l ≠ []) (b o : Nat) (hp : p = some ⟨b, o, none⟩) : b < w.heap.size := by
  rcases h with h | ⟨b', o', hp', hlt, _⟩
  · exact absurd h hne
  · rw [hp] at hp'
    injection hp' with hp'
    injection hp' with h1 _ _
    rw [h1]; exact hlt
theorem DOp.Ok.low {w : World} {o : DOp} (h : o.Ok w) : o.l ≠ [] → ∀ b p, o.p = some ⟨b, p, none⟩ → b < w.heap.size := fun hne b p hp => at_low h.lies hne b p hp

/-- a script lies there -/
def Script (w : World) (p : Option Addr) (ops : List DOp) : Prop :=
  ops = [] ∨ ∃ b off, p = some ⟨b, off, none⟩ ∧ b < w.heap.size ∧ ∀ i (h : i < ops.length), (ops[i]).Ok w ∧ w.cell? ⟨b, off + i * 4, none⟩ = some (.int .i64 ops[i].kd) ∧ w.cell? ⟨b, off + i * 4 + 1, none⟩ = some (.int .i64 ops[i].n) ∧ w.cell? ⟨b, off + i * 4 + 2, none⟩ = some (.int .i64 ops[i].m) ∧ w.cell? ⟨b, off + i * 4 + 3, none⟩ = some (.slice ops[i].p ops[i].l.length ops[i].c)
theorem script_some {w : World} {p : Option Addr} {ops : List DOp} (h : Script w p ops) (h0 : 0 < ops.length) : ∃ b off, p = some ⟨b, off, none⟩ ∧ b < w.heap.size ∧ ∀ i (h : i < ops.length), (ops[i]).Ok w ∧ w.cell? ⟨b, off + i * 4, none⟩ = some (.int .i64 ops[i].kd) ∧ w.cell? ⟨b, off + i * 4 + 1, none⟩ = some (.int .i64 ops[i].n) ∧ w.cell? ⟨b, off + i * 4 + 2, none⟩ = some (.int .i64 ops[i].m) ∧ w.cell? ⟨b, off + i * 4 + 3, none⟩ = some (.slice ops[i].p ops[i].l.length ops[i].c) := by
  rcases h with rfl | h
  · simp at h0
  · exact h

section
variable {I : Nat → World → Prop} {Rep : DRep} {a : Addr} {g n : Nat} {w0 w : World} {s : Dv.St}

/-- Clone, and then stir of the one or the other -/
theorem clone_go (K : DevOk I Rep) (hI : I w0.heap.size w0) {w1 : World} (h : Alike Rep a g w0 n w s) (hb : Below w.heap.size w w1) (hn : n ≤ 2999999999000) :
    Calls Try.prog 11 #[.pointer (some a)] w1 fun e w2 => ∃ a', e = .returned (.pointer (some a')) ∧
      (Calls Try.prog 12 #[.pointer (some a)] w2 fun e w3 => e = .returned (.tuple #[]) ∧ Alike Rep a' g w0 n w3 s ∧ ∀ x, w.heap.size ≤ x → x < w1.heap.size → w3.heap[x]? = w1.heap[x]?) ∧
      (Calls Try.prog 12 #[.pointer (some a')] w2 fun e w3 => e = .returned (.tuple #[]) ∧ Alike Rep a g w0 n w3 s ∧ ∀ x, w.heap.size ≤ x → x < w1.heap.size → w3.heap[x]? = w1.heap[x]?) := by
  obtain ⟨⟨F, v, hB0⟩, hN⟩ := h
  have hB := hB0.below K hb
  have hf := hN.fit (by omega)
  have hbs := hb.size
  refine (K.clone hB.one.rep hf (K.on hI hB.one.world) hB.one.room).mono ?_
  rintro e w2 ⟨a', F2, rfl, hr, hF2, hb2⟩
  have hB2 := hB.below K hb2
  have hs2 := hb2.size
  have hO2 : One Rep w0.heap.size a' w0 w2 s F2 := ⟨hr, hB2.one.world, hB2.one.room⟩
  have hlt : ∀ k, F k → k < w.heap.size := fun k hk => (K.lies hB0.one.rep k hk).2
  have hg := hB0.ref.lt
  have hv : ∀ k, v.ownBlock = some k → k < w.heap.size := fun k hk => (hB0.ref.has.lt k hk).2
  refine ⟨a', rfl, ?_, ?_⟩
  · refine (stir_ok K hB2.one hN hn hI).mono ?_
    rintro e w3 ⟨rfl, ha⟩
    refine ⟨rfl, ⟨⟨F2, v, ⟨⟨K.aside hr ha (fun k h2 h1 => ?_), hB2.one.world.trans (ha.below hB2.one.room (fun k hk hfk => ?_)), Nat.le_trans hB2.one.room ha.size⟩, hB2.ref.aside ha hB2.gout hB2.vout, fun h2 => ?_, fun k hk h2 => ?_⟩⟩, hN⟩, fun x hx hx1 => ?_⟩
    · have := hlt k h1; have := hF2 k h2; omega
    · have := (K.lies hB2.one.rep k hfk).1; omega
    · have := hF2 g h2; omega
    · have := hF2 k h2; have := hv k hk; omega
    · rw [ha.block x (by omega) (fun hfx => by have := hlt x hfx; omega)]
      exact hb2.block x hx1
  · refine (stir_ok K hO2 hN hn hI).mono ?_
    rintro e w3 ⟨rfl, ha⟩
    refine ⟨rfl, ⟨⟨F, v, hB2.apart K ha (fun k hk => ⟨by have := (K.lies hr k hk).1; exact this, fun h1 => ?_, ?_, fun h1 => ?_⟩)⟩, hN⟩, fun x hx hx1 => ?_⟩
    · have := hlt k h1; have := hF2 k hk; omega
    · have := hF2 k hk; omega
    · have := hF2 k hk; have := hv k h1; omega
    · rw [ha.block x (by omega) (fun hfx => by have := hF2 x hfx; omega)]
      exact hb2.block x hx1

set_option maxHeartbeats 400000 in
theorem plays_ok (K : DevOk I Rep) (q : Nat) (hq : q ≤ 1048576) (p : Option Addr) (c : Nat) (ops : List DOp) (hl : ops.length ≤ 2932031007403) (w : World) (hS : Script w p ops) (hI : I w.heap.size w) :
    Calls Try.prog 4 #[.int .i64 q, .slice p ops.length c] w fun e w' => e = .returned (.bool true) ∧ Below w.heap.size w w' := by
  have HK := Lib.hid K
  have HI := Lib.hid hI
  have HS := Lib.hid hS
  clear hI hS K
  go_enter Try.func4, Try.ntmps4
  go_wp2_with fail
  refine (devLive_ok HK.out w HI.out).mono ?_
  rintro e w1 ⟨rfl, hb⟩
  have B1 := Lib.hid hb
  clear hb
  go_wp2_with fail
  refine (HK.out.newOk q w.heap.size w1 hq (HK.out.on HI.out B1.out) B1.out.size).mono ?_
  rintro e w2 ⟨a, F, rfl, hR, hF, hb⟩
  have O2 : Hid (One Rep w.heap.size a w w2 (Dv.new q) F) := ⟨hR, B1.out.trans (hb.mono B1.out.size), Nat.le_trans B1.out.size hb.size⟩
  clear hR hb hF B1
  go_wp2_with fail
  refine (refNew_ok q hq w2).mono ?_
  rintro e w3 ⟨rfl, hR, hb⟩
  have HA3 : Hid (Alike Rep a w2.heap.size w 0 w3 (Dv.new q)) := by
    refine ⟨⟨F, _, O2.out.on HK.out hb, ⟨hR.lies, hR.has.low O2.out.room, O2.out.room, hR.apart⟩, fun hf => ?_, fun k hk => by simp [Value.ownBlock] at hk⟩, Dv.near_new q hq⟩
    have := (HK.out.lies O2.out.rep _ hf).2
    omega
  obtain ⟨g, hg⟩ : ∃ g, g = w2.heap.size := ⟨_, rfl⟩
  rw [← hg] at HA3 ⊢
  clear hR hb O2 hg
  go_wp2
  go_loopw [6, 41] (fun v6 v41 wr => ∃ (i : Nat) (a : Addr) (s : Dv.St), i ≤ ops.length ∧ v6 = .pointer (some a) ∧ v41 = .int .i64 i ∧ Hid (Alike Rep a g w i wr s)) (fun _ v41 _ => ops.length - (intOf v41).toNat)
  case atStart => exact ⟨0, a, _, by omega, rfl, rfl, HA3.out⟩
  case round =>
    obtain ⟨i, a, s, hi, rfl, rfl, HL⟩ := hrel
    by_cases hlt : i < ops.length
    · have hbw : Below w.heap.size w wr := by obtain ⟨⟨F, v, hB⟩, _⟩ := HL.out; exact hB.one.world
      obtain ⟨bS, oS, rfl, hbl, hcs⟩ := script_some HS.out (by omega)
      obtain ⟨hOk, k0, k1, k2, k3⟩ := hcs i hlt
      obtain ⟨o, ho⟩ : ∃ o, o = ops[i] := ⟨_, rfl⟩
      rw [← ho] at hOk k0 k1 k2 k3
      have c0 : wr.cell? ⟨bS, oS + i * 4, none⟩ = some (.int .i64 o.kd) := by rw [hbw.cell (p := ⟨bS, oS + i * 4, none⟩) hbl]; exact k0
      have c1 : wr.cell? ⟨bS, oS + i * 4 + 1, none⟩ = some (.int .i64 o.n) := by rw [hbw.cell (p := ⟨bS, oS + i * 4 + 1, none⟩) hbl]; exact k1
      have c2 : wr.cell? ⟨bS, oS + i * 4 + 2, none⟩ = some (.int .i64 o.m) := by rw [hbw.cell (p := ⟨bS, oS + i * 4 + 2, none⟩) hbl]; exact k2
      have c3 : wr.cell? ⟨bS, oS + i * 4 + 3, none⟩ = some (.slice o.p o.l.length o.c) := by rw [hbw.cell (p := ⟨bS, oS + i * 4 + 3, none⟩) hbl]; exact k3
      have HOk := Lib.hid hOk
      have hi1 : (i : Int) < (ops.length : Int) := by omega
      clear k0 k1 k2 k3 hOk ho hbw hbl hcs
      by_cases h10 : o.kd = 10
      · have HCl := Lib.hid (clone_go HK.out HI.out HL.out ((Below.refl _ _).alloc (Nat.le_refl _) (.cells #[.int .i64 10, .int .i64 o.n, .int .i64 o.m, .slice o.p o.l.length o.c] 34)) (by omega))
        rw [h10] at c0
        clear HL
        go_wp2_with fail
        refine HCl.out.mono ?_
        rintro e w4 ⟨a', rfl, hC1, -⟩
        have HC1 := Lib.hid hC1
        clear hC1 HCl
        go_wp2_with fail
        refine HC1.out.mono ?_
        rintro e w5 ⟨rfl, hAl, hk⟩
        obtain ⟨f0, f1, f2, f3⟩ := box_on (hk wr.heap.size (Nat.le_refl _) (by simp))
        have HST := Lib.hid (step_any hAl HK.out HI.out (by omega) 10 o.n o.m HOk.out.n1 HOk.out.n2 HOk.out.m1 HOk.out.m2 o.p o.c o.l HOk.out.len HOk.out.cap HOk.out.lies HOk.out.low)
        clear hAl hk HC1 c0 c1 c2 c3
        go_wp2_with fail
        refine HST.out.mono ?_
        rintro e w6 ⟨rfl, s', F', v', hB, hN⟩
        have HA6 : Hid (Alike Rep a' g w (i + 1) w6 s') := ⟨⟨F', v', hB⟩, hN⟩
        clear hB hN HST f0 f1 f2 f3
        go_wp2
        go_roundw
        case rel => exact ⟨i + 1, a', s', by omega, rfl, by go_num, HA6⟩
        case measure => simp [intOf]; omega
      · by_cases h11 : o.kd = 11
        · have HCl := Lib.hid (clone_go HK.out HI.out HL.out ((Below.refl _ _).alloc (Nat.le_refl _) (.cells #[.int .i64 11, .int .i64 o.n, .int .i64 o.m, .slice o.p o.l.length o.c] 34)) (by omega))
          rw [h11] at c0
          clear HL h10
          go_wp2_with fail
          refine HCl.out.mono ?_
          rintro e w4 ⟨a', rfl, -, hC1⟩
          have HC1 := Lib.hid hC1
          clear hC1 HCl
          go_wp2_with fail
          refine HC1.out.mono ?_
          rintro e w5 ⟨rfl, hAl, hk⟩
          obtain ⟨f0, f1, f2, f3⟩ := box_on (hk wr.heap.size (Nat.le_refl _) (by simp))
          have HST := Lib.hid (step_any hAl HK.out HI.out (by omega) 11 o.n o.m HOk.out.n1 HOk.out.n2 HOk.out.m1 HOk.out.m2 o.p o.c o.l HOk.out.len HOk.out.cap HOk.out.lies HOk.out.low)
          clear hAl hk HC1 c0 c1 c2 c3
          go_wp2_with fail
          refine HST.out.mono ?_
          rintro e w6 ⟨rfl, s', F', v', hB, hN⟩
          have HA6 : Hid (Alike Rep a g w (i + 1) w6 s') := ⟨⟨F', v', hB⟩, hN⟩
          clear hB hN HST f0 f1 f2 f3
          go_wp2
          go_roundw
          case rel => exact ⟨i + 1, a, s', by omega, rfl, by go_num, HA6⟩
          case measure => simp [intOf]; omega
        · have e10 : (o.kd == 10) = false := by rw [beq_eq_false_iff_ne]; exact h10
          have e11 : (o.kd == 11) = false := by rw [beq_eq_false_iff_ne]; exact h11
          have HST := Lib.hid (step_any (HL.out.below HK.out ((Below.refl _ _).alloc (Nat.le_refl _) (.cells #[.int .i64 o.kd, .int .i64 o.n, .int .i64 o.m, .slice o.p o.l.length o.c] 34))) HK.out HI.out (by omega) o.kd o.n o.m HOk.out.n1 HOk.out.n2 HOk.out.m1 HOk.out.m2 o.p o.c o.l HOk.out.len HOk.out.cap HOk.out.lies HOk.out.low)
          clear h10 h11 HL
          go_wp2_with fail
          refine HST.out.mono ?_
          rintro e w6 ⟨rfl, s', F', v', hB, hN⟩
          have HA6 : Hid (Alike Rep a g w (i + 1) w6 s') := ⟨⟨F', v', hB⟩, hN⟩
          clear hB hN HST
          go_wp2
          go_roundw
          case rel => exact ⟨i + 1, a, s', by omega, rfl, by go_num, HA6⟩
          case measure => simp [intOf]; omega
    · have hil : ¬ (i : Int) < (ops.length : Int) := by omega
      obtain ⟨⟨F, v, hB⟩, hN⟩ := HL.out
      have HLk := Lib.hid (looks_ok HK.out hB (hN.fit (by omega)) HI.out)
      have HBw := Lib.hid hB.one.world
      clear hB hN HL hlt
      go_wp2_with fail
      refine HLk.out.mono ?_
      rintro e w6 ⟨rfl, hb⟩
      have HE := Lib.hid (HBw.out.trans (hb.mono HBw.out.size))
      clear hb HLk HBw
      go_wp2
      go_ret
      exact ⟨rfl, HE.out⟩

set_option maxHeartbeats 400000 in
theorem plays_bad (K : DevOk I Rep) (q : Int) (hq : q < 0 ∨ 1048576 < q) (p : Option Addr) (c len : Nat) (w : World) (hI : I w.heap.size w) :
    Calls Try.prog 4 #[.int .i64 q, .slice p len c] w fun e w' => e = .returned (.bool true) ∧ Below w.heap.size w w' := by
  have HK := Lib.hid K
  have HI := Lib.hid hI
  have HQ := Lib.hid hq
  clear hI K hq
  go_enter Try.func4, Try.ntmps4
  go_wp2_with fail
  refine (devLive_ok HK.out w HI.out).mono ?_
  rintro e w1 ⟨rfl, hb⟩
  have B1 := Lib.hid hb
  clear hb
  go_wp2_with fail
  refine (HK.out.newBad q w.heap.size w1 HQ.out (HK.out.on HI.out B1.out) B1.out.size).mono ?_
  rintro e w2 ⟨rfl, hb⟩
  have B2 := Lib.hid (B1.out.trans (hb.mono B1.out.size))
  clear hb B1
  go_wp2_with fail
  refine (refNew_bad q HQ.out w2).mono ?_
  rintro e w3 ⟨rfl, hw⟩
  rw [hw]
  clear hw w3
  go_wp2
  go_ret
  exact ⟨rfl, B2.out⟩

theorem devPlays_any (K : DevOk I Rep) (q : Int) (p : Option Addr) (c : Nat) (ops : List DOp) (hl : ops.length ≤ 2932031007403) (w : World) (hS : Script w p ops) (hI : I w.heap.size w) :
    Calls Try.prog 4 #[.int .i64 q, .slice p ops.length c] w fun e w' => e = .returned (.bool true) ∧ Below w.heap.size w w' := by
  by_cases hq : q < 0 ∨ 1048576 < q
  · exact plays_bad K q hq p c ops.length w hI
  · obtain ⟨m, rfl⟩ : ∃ m : Nat, q = (m : Int) := ⟨q.toNat, by omega⟩
    exact plays_ok K m (by omega) p c ops hl w hS hI
end
end Go.Proofs.Ytoibeajcepbpjaa
