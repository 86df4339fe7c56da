/- step: Cut, Fail, Damage, Tail, looking. -/
import Derived.Test.YtoibeajcepbpjaaLDStep
import Derived.Deep.RegionWith
namespace Go.Proofs.Ytoibeajcepbpjaa
open Go.RowKit

section
variable {I : Nat → World → Prop} {Rep : DRep} {a : Addr} {g n : Nat} {w0 w : World} {s : Dv.St}

/-- a call on package dev's file, then the same on the document's; what the law has laid since w stays -/
theorem two_calls2 (K : DevOk I Rep) (hI : I w0.heap.size w0) {w1 : World} (h : Alike Rep a g w0 n w s) (hb : Below w.heap.size w w1) (hn : n ≤ 2999999999999) {f1 f2 : FuncId} {x1 x2 : Array Value} (r : Nat × Dv.St) (hnr : Dv.Near (n + 1) r.2)
    (h1 : ∀ F, (∀ k, F k → k < w.heap.size ∧ w0.heap.size ≤ k) → Rep w1 w0.heap.size a s F → Dv.Fit s → I w0.heap.size w1 → w0.heap.size ≤ w1.heap.size → Calls Try.prog f1 x1 w1 (DevPost Rep w1 w0.heap.size a F r))
    (h2 : ∀ (w2 : World) v, RDev w2 w0.heap.size g v s → w0.heap.size ≤ w2.heap.size → Below w0.heap.size w0 w2 → Dv.Fit s → Calls Try.prog f2 x2 w2 (RPost w2 w0.heap.size g v r)) :
    Calls Try.prog f1 x1 w1 fun e w2 => e = .returned (.int .i64 (r.1 : Nat)) ∧ (∀ x, w.heap.size ≤ x → x < w1.heap.size → w2.heap[x]? = w1.heap[x]?) ∧
      Calls Try.prog f2 x2 w2 fun e' w3 => e' = .returned (.int .i64 (r.1 : Nat)) ∧ Alike Rep a g w0 (n + 1) w3 r.2 ∧ (∀ x, w.heap.size ≤ x → x < w1.heap.size → w3.heap[x]? = w1.heap[x]?) ∧
        ∃ F v, Both Rep w0.heap.size a g w0 w3 r.2 r.2 F v ∧ ∀ x, w.heap.size ≤ x → x < w1.heap.size → ¬ F x ∧ x ≠ g ∧ v.ownBlock ≠ some x := by
  obtain ⟨⟨F, v, hB0⟩, hN⟩ := h
  have hB := hB0.below K hb
  have hf := hN.fit (by omega)
  have hlt : ∀ k, F k → k < w.heap.size ∧ w0.heap.size ≤ k := fun k hk => ⟨(K.lies hB0.one.rep k hk).2, (K.lies hB0.one.rep k hk).1⟩
  have hg := hB0.ref.lt
  have hv : ∀ k, v.ownBlock = some k → k < w.heap.size := fun k hk => (hB0.ref.has.lt k hk).2
  refine (h1 F hlt hB.one.rep hf (K.on hI hB.one.world) hB.one.room).mono ?_
  rintro e w2 ⟨rfl, F2, hr, ha, hF2⟩
  have hB2 := hB.dev K hr ha hF2
  have k2 : ∀ x, w.heap.size ≤ x → x < w1.heap.size → w2.heap[x]? = w1.heap[x]? := fun x hx hx1 => ha.block x hx1 (fun hf => by have := (hlt x hf).1; omega)
  refine ⟨rfl, k2, (h2 w2 v hB2.ref hB2.one.room hB2.one.world hf).mono ?_⟩
  rintro e' w3 ⟨rfl, v3, hr3, ha3, hv3⟩
  have hs2 := ha.size
  have hB3 := hB2.doc K hr3 ha3 hv3
  refine ⟨rfl, ⟨⟨F2, v3, hB3⟩, hnr⟩, fun x hx hx1 => ?_, F2, v3, hB3, fun x hx hx1 => ⟨fun hfx => ?_, by omega, fun hvx => ?_⟩⟩
  · rw [ha3.block x (by omega) (by
      rintro (h | h)
      · omega
      · have := hv x h; omega)]
    exact k2 x hx hx1
  · rcases hF2 x hfx with h | h
    · have := (hlt x h).1; omega
    · omega
  · rcases hv3 with h | h
    · rw [h] at hvx; have := hv x hvx; omega
    · rcases h x hvx with h | h
      · have := hv x h; omega
      · omega

theorem box_on {w w2 : World} {k n m : Int} {u : Value} (h : w2.heap[w.heap.size]? = (w.alloc (.cells #[.int .i64 k, .int .i64 n, .int .i64 m, u] 34)).heap[w.heap.size]?) :
    w2.cell? ⟨w.heap.size, 0, none⟩ = some (.int .i64 k) ∧ w2.cell? ⟨w.heap.size, 1, none⟩ = some (.int .i64 n) ∧ w2.cell? ⟨w.heap.size, 2, none⟩ = some (.int .i64 m) ∧ w2.cell? ⟨w.heap.size, 3, none⟩ = some u := by
  obtain ⟨b0, b1, b2, b3⟩ := box_cells w k n m u
  exact ⟨by rw [World.cell?_of_block (a := ⟨w.heap.size, 0, none⟩) h]; exact b0, by rw [World.cell?_of_block (a := ⟨w.heap.size, 1, none⟩) h]; exact b1,
    by rw [World.cell?_of_block (a := ⟨w.heap.size, 2, none⟩) h]; exact b2, by rw [World.cell?_of_block (a := ⟨w.heap.size, 3, none⟩) h]; exact b3⟩

set_option maxHeartbeats 1000000 in
theorem step_cut (h : Alike Rep a g w0 n w s) (K : DevOk I Rep) (hI : I w0.heap.size w0) (hn : n ≤ 2999999999999) (N M : Int) (hN1 : -9223372036854775808 ≤ N) (hN2 : N ≤ 9223372036854775807) (p : Option Addr) (c len : Nat) :
    Calls Try.prog 13 #[.pointer (some a), .pointer (some ⟨g, 0, none⟩), .agg #[.int .i64 3, .int .i64 N, .int .i64 M, .slice p len c]] w (Stepped Rep a g w0 (n + 1)) := by
  have HC := Lib.hid (two_calls2 K hI h ((Below.refl _ _).alloc (Nat.le_refl _) (.cells #[.int .i64 3, .int .i64 N, .int .i64 M, .slice p len c] 34)) hn (f1 := 20) (f2 := 34) (x1 := #[.pointer (some a), .int .i64 N]) (x2 := #[.pointer (some ⟨g, 0, none⟩), .int .i64 N]) (Dv.cut s N) (Dv.near_cut h.2 N) (fun F _ hr hf hi hb => K.cut N hN1 hN2 hr hf hi hb) (fun w2 v hr hb _ hf => refCut hr N hf.fits hb))
  clear h hI
  go_enter Try.func13, Try.ntmps13
  go_wp2_with fail
  refine HC.out.mono ?_
  rintro e w2 ⟨rfl, hk, hC⟩
  have HC2 := Lib.hid hC
  obtain ⟨b0, b1, b2, b3⟩ := box_on (hk w.heap.size (Nat.le_refl _) (by simp))
  clear hC HC hk
  go_wp2_with fail
  refine HC2.out.mono ?_
  rintro e w3 ⟨rfl, hA3, _⟩
  have HA := Lib.hid hA3
  clear hA3 HC2
  go_wp2
  go_ret
  exact HA.out.stepped

set_option maxHeartbeats 1000000 in
theorem step_fail (h : Alike Rep a g w0 n w s) (K : DevOk I Rep) (hI : I w0.heap.size w0) (hn : n ≤ 2999999999999) (N M : Int) (hN1 : -9223372036854775808 ≤ N) (hN2 : N ≤ 9223372036854775807) (hM1 : -9223372036854775808 ≤ M) (hM2 : M ≤ 9223372036854775807) (p : Option Addr) (c len : Nat) :
    Calls Try.prog 13 #[.pointer (some a), .pointer (some ⟨g, 0, none⟩), .agg #[.int .i64 5, .int .i64 N, .int .i64 M, .slice p len c]] w (Stepped Rep a g w0 (n + 1)) := by
  have HC := Lib.hid (two_calls2 K hI h ((Below.refl _ _).alloc (Nat.le_refl _) (.cells #[.int .i64 5, .int .i64 N, .int .i64 M, .slice p len c] 34)) hn (f1 := 21) (f2 := 36) (x1 := #[.pointer (some a), .int .i64 N, .int .i64 M]) (x2 := #[.pointer (some ⟨g, 0, none⟩), .int .i64 N, .int .i64 M]) (Dv.fail s N M) (Dv.near_fail h.2 N M hN2 hM2) (fun F _ hr hf hi hb => K.fail N M hN1 hN2 hM1 hM2 hr hf hi hb) (fun w2 v hr _ _ _ => refFail hr N M))
  clear h hI
  go_enter Try.func13, Try.ntmps13
  go_wp2_with fail
  refine HC.out.mono ?_
  rintro e w2 ⟨rfl, hk, hC⟩
  have HC2 := Lib.hid hC
  obtain ⟨b0, b1, b2, b3⟩ := box_on (hk w.heap.size (Nat.le_refl _) (by simp))
  clear hC HC hk
  go_wp2_with fail
  refine HC2.out.mono ?_
  rintro e w3 ⟨rfl, hA3, _⟩
  have HA := Lib.hid hA3
  clear hA3 HC2
  go_wp2
  go_ret
  exact HA.out.stepped

set_option maxHeartbeats 1000000 in
theorem step_tail (h : Alike Rep a g w0 n w s) (K : DevOk I Rep) (hI : I w0.heap.size w0) (hn : n ≤ 2999999999999) (N M : Int) (p : Option Addr) (c : Nat) (l : List UInt8) (hl : l.length ≤ 140737488351232) (hlc : l.length ≤ c) (hA : At w0 p l) (hp : l ≠ [] → ∀ b o, p = some ⟨b, o, none⟩ → b < w0.heap.size) :
    Calls Try.prog 13 #[.pointer (some a), .pointer (some ⟨g, 0, none⟩), .agg #[.int .i64 8, .int .i64 N, .int .i64 M, .slice p l.length c]] w (Stepped Rep a g w0 (n + 1)) := by
  have hAl : ∀ w1 : World, Below w0.heap.size w0 w1 → At w1 p l := fun w1 hb => hA.on hb
  have hw : Below w0.heap.size w0 w := by obtain ⟨⟨F, v, hB⟩, _⟩ := h; exact hB.one.world
  have hw1 : Below w0.heap.size w0 (w.alloc (.cells #[.int .i64 8, .int .i64 N, .int .i64 M, .slice p l.length c] 34)) := hw.alloc hw.size _
  have hlen := h.2.len
  have HC := Lib.hid (two_calls2 K hI h ((Below.refl _ _).alloc (Nat.le_refl _) (.cells #[.int .i64 8, .int .i64 N, .int .i64 M, .slice p l.length c] 34)) hn (f1 := 25) (f2 := 39) (x1 := #[.pointer (some a), .slice p l.length c]) (x2 := #[.pointer (some ⟨g, 0, none⟩), .slice p l.length c]) (Dv.tail s l) (Dv.near_tail h.2 l)
    (fun F hF hr hf hi hb => K.tail p c l hl hlc (hAl _ hw1) (fun hne b o hpb hfb => by have := hp hne b o hpb; have := (hF b hfb).2; omega) hr hf hi hb) (fun w2 v hr hb hb2 _ => refTail hr p c l hl (hAl _ hb2) (fun hne b o he => ⟨by have := hp hne b o he; have := hr.base; omega, fun hc => by have := hp hne b o he; have := (hr.has.lt _ hc).1; omega⟩) (by omega) hb))
  clear h hI hA hAl hw hw1 hp
  go_enter Try.func13, Try.ntmps13
  go_wp2_with fail
  refine HC.out.mono ?_
  rintro e w2 ⟨rfl, hk, hC⟩
  have HC2 := Lib.hid hC
  obtain ⟨b0, b1, b2, b3⟩ := box_on (hk w.heap.size (Nat.le_refl _) (by simp))
  clear hC HC hk
  go_wp2_with fail
  refine HC2.out.mono ?_
  rintro e w3 ⟨rfl, hA3, _⟩
  have HA := Lib.hid hA3
  clear hA3 HC2
  go_wp2
  go_ret
  exact HA.out.stepped

set_option maxHeartbeats 1000000 in
theorem step_look (h : Alike Rep a g w0 n w s) (K : DevOk I Rep) (hI : I w0.heap.size w0) (hn : n ≤ 2999999999999) (N M : Int) (p : Option Addr) (c len : Nat) :
    Calls Try.prog 13 #[.pointer (some a), .pointer (some ⟨g, 0, none⟩), .agg #[.int .i64 9, .int .i64 N, .int .i64 M, .slice p len c]] w (Stepped Rep a g w0 (n + 1)) := by
  obtain ⟨⟨F, v, hB⟩, hN⟩ := h
  have hB1 := hB.below K ((Below.refl _ _).alloc (Nat.le_refl _) (.cells #[.int .i64 9, .int .i64 N, .int .i64 M, .slice p len c] 34))
  have HC := Lib.hid (looks_ok K hB1 (hN.fit (by omega)) hI)
  have HB1 := Lib.hid hB1
  have HN := Lib.hid hN
  have HK := Lib.hid K
  clear hB hI hB1 hN
  go_enter Try.func13, Try.ntmps13
  go_wp2_with fail
  refine HC.out.mono ?_
  rintro e w2 ⟨rfl, hb⟩
  have HB2 := Lib.hid (HB1.out.below HK.out hb)
  clear HC HB1 hb
  go_wp2
  go_ret
  exact ⟨rfl, s, F, v, HB2.out, HN.out.more (by omega)⟩
end
end Go.Proofs.Ytoibeajcepbpjaa
