/- step: Write. -/
import Derived.Test.YtoibeajcepbpjaaLDStep3
namespace Go.Proofs.Ytoibeajcepbpjaa
open Go.RowKit

theorem Free.block {w w' : World} {g o : Nat} {l : List UInt8} (h : Free w g o l) (hb : w'.heap[g]? = w.heap[g]?) : Free w' g o l := by
  obtain ⟨h1, h2, h3⟩ := h
  refine ⟨?_, fun j hj => ?_, fun j hj => ?_⟩
  · have e : w.heap[g]? = some w.heap[g] := Array.getElem?_eq_getElem h1
    rw [e] at hb
    exact (Array.getElem?_eq_some_iff.1 hb).1
  · rw [World.cell?_of_block (w := w) (a := ⟨g, o + j, none⟩) hb]; exact h2 j hj
  · rw [World.frozen?_of_block (w := w) (a := ⟨g, o + j, none⟩) hb]; exact h3 j hj
theorem Free.like {w w' : World} {g o : Nat} {l : List UInt8} (h : Free w g o l) (hb : w'.heap = w.heap) : Free w' g o l := h.block (by rw [hb])

section
variable {I : Nat → World → Prop} {Rep : DRep} {a : Addr} {g n : Nat} {w0 w : World} {s : Dv.St}

set_option maxRecDepth 100000 in
set_option maxHeartbeats 1000000 in
theorem step_write (h : Alike Rep a g w0 n w s) (K : DevOk I Rep) (hI : I w0.heap.size w0) (hn : n ≤ 2999999999999) (N M : Int) (p : Option Addr) (c : Nat) (l : List UInt8) (hl : l.length ≤ 140737488351232) (hA : At w0 p l) (hp : l ≠ [] → ∀ b o, p = some ⟨b, o, none⟩ → b < w0.heap.size) :
    Calls Try.prog 13 #[.pointer (some a), .pointer (some ⟨g, 0, none⟩), .agg #[.int .i64 1, .int .i64 N, .int .i64 M, .slice p l.length c]] w (Stepped Rep a g w0 (n + 1)) := by
  have hw : Below w0.heap.size w0 w := by obtain ⟨⟨F, v, hB⟩, _⟩ := h; exact hB.one.world
  obtain ⟨w1, hw1⟩ : ∃ w1, w1 = w.alloc (.cells #[.int .i64 1, .int .i64 N, .int .i64 M, .slice p l.length c] 34) := ⟨_, rfl⟩
  have hs1 : w1.heap.size = w.heap.size + 1 := by rw [hw1]; simp
  have b1 : Below w.heap.size w w1 := by rw [hw1]; exact (Below.refl _ _).alloc (Nat.le_refl _) _
  have D0 : Below w1.heap.size w1 (w1.alloc (.cells #[] 5)) := (Below.refl _ _).alloc (Nat.le_refl _) _
  have a1 : At (w1.alloc (.cells #[] 5)) p l := hA.on ((hw.trans (b1.mono hw.size)).trans (D0.mono (by have := hw.size; omega)))
  obtain ⟨g1, c1, W, hr1, hm1, hB1⟩ := onto_run w1.heap.size w1.heap.size 0 [] l p c _ (mine_new w1) a1 (by simp; omega) D0.size
  rw [List.nil_append] at hr1 hm1
  have DW : Below w1.heap.size w1 W := D0.trans hB1
  have bW : Below w.heap.size w W := b1.trans (DW.mono (by omega))
  have hg1 := hm1.base
  have wW : Below w0.heap.size w0 W := hw.trans (bW.mono hw.size)
  have hlen := h.2.fit (by omega)
  have HC := Lib.hid (two_calls2 K hI h bW hn (f1 := 18) (f2 := 32) (x1 := #[.pointer (some a), .slice (some ⟨g1, 0, none⟩) l.length c1]) (x2 := #[.pointer (some ⟨g, 0, none⟩), .slice p l.length c]) (Dv.write s l) (Dv.near_write h.2 l)
    (fun F hF hr hf hi hb => K.write (some ⟨g1, 0, none⟩) c1 l hl hg1.2.2 hm1.at (fun _ b o hpb hfb => by injection hpb with hpb; injection hpb with e1 _ _; subst e1; have := (hF _ hfb).1; omega) hr hf hi hb) (fun w2 v hr hb hb2 hf => refWrite hr p c l hl (hA.on hb2) (fun hne b o he => ⟨by have := hp hne b o he; have := hr.base; omega, fun hc => by have := hp hne b o he; have := (hr.has.lt _ hc).1; omega⟩) hf.fits hf.most hf.done hb))
  have HFr := Lib.hid hm1.free
  have HNr := Lib.hid (Dv.near_write h.2 l)
  rw [hs1] at hr1
  have HR1 := Lib.hid (AppRun.mk hr1)
  have HA0 := Lib.hid hA
  have HK := Lib.hid K
  have boxW : W.heap[w.heap.size]? = w1.heap[w.heap.size]? := DW.block _ (by omega)
  rw [hw1] at boxW
  have HBX := Lib.hid boxW
  have hgw : w.heap.size ≤ g1 ∧ g1 < W.heap.size := by omega
  have hwg0 : w0.heap.size ≤ g1 := by have := hw.size; omega
  have hszW : w.heap.size < W.heap.size := by have := DW.size; omega
  obtain ⟨q0, q1, q2, q3⟩ := box_on boxW
  subst hw1
  clear h hI hA hp hw hs1 b1 D0 a1 hr1 hm1 hB1 DW bW wW hlen hg1 boxW K
  go_enter Try.func13, Try.ntmps13
  go_wp2_with (at_builtin; refine wpList_append_ran HR1.out rfl rfl rfl rfl ?_)
  refine HC.out.mono ?_
  rintro e w2 ⟨rfl, hk, hC⟩
  have HC2 := Lib.hid hC
  obtain ⟨d0, d1, d2, d3⟩ := box_on ((hk w.heap.size (Nat.le_refl _) hszW).trans HBX.out)
  clear hC HC hk q0 q1 q2 q3 HR1
  go_wp2_with fail
  refine HC2.out.mono ?_
  rintro e w3 ⟨rfl, _, hk3, F3, v3, hB3, hap⟩
  obtain ⟨f0, f1, f2, f3⟩ := box_on ((hk3 w.heap.size (Nat.le_refl _) hszW).trans HBX.out)
  have hF3 := HFr.out.block (hk3 g1 hgw.1 hgw.2)
  have HF3 := Lib.hid hF3
  have HB3 := Lib.hid hB3
  have HAp := Lib.hid (hap g1 hgw.1 hgw.2)
  have HS := Lib.hid (same_any (some ⟨g1, 0, none⟩) p c1 c l l hl w3 hF3.at (HA0.out.on hB3.one.world))
  have el : (l == l) = true := by simp
  rw [el] at HS
  clear hk3 hB3 hap hF3 HC2 HFr HA0 d0 d1 d2 d3 el
  generalize (Dv.write s l).1 = er at *
  generalize (Dv.write s l).2 = s3 at *
  go_wp2_with fail
  refine HS.out.mono ?_
  rintro e w' ⟨rfl, k, hw⟩
  rw [hw]
  clear hw w' HS
  have HF4 := Lib.hid (HF3.out.like (w' := w3.drewN k) rfl)
  have HB4 := Lib.hid (HB3.out.below HK.out (below_drewN (Below.refl _ w3) k))
  clear HF3 HB3 f0 f1 f2 f3
  generalize w3.drewN k = w4 at HF4 HB4 ⊢
  go_wp2
  go_loopw [10] (fun v10 wr => ∃ (i : Nat) (L : List UInt8), i ≤ l.length ∧ v10 = .int .i64 i ∧ Hid (L.length = l.length ∧ Free wr g1 0 L ∧ Aside (· = g1) w4 wr)) (fun v10 _ => l.length - (intOf v10).toNat)
  case atStart => exact ⟨0, l, by omega, rfl, rfl, HF4.out, Aside.refl _ _⟩
  case round =>
    obtain ⟨i, L, hi, rfl, HL⟩ := hrel
    by_cases hlt : i < l.length
    · have hiL : i < L.length := by rw [HL.out.1]; exact hlt
      obtain ⟨z, hcell⟩ : ∃ z : Nat, wr.cell? ⟨g1, i, none⟩ = some (.int .u8 (z : Int)) := ⟨_, by have := HL.out.2.1.2.1 i hiL; rw [Nat.zero_add] at this; exact this⟩
      have hfz := HL.out.2.1.2.2 i hiL
      have HN : Hid ((L.set i 99).length = l.length ∧ Free (wr.setCell ⟨g1, i, none⟩ (.int .u8 99)) g1 0 (L.set i 99) ∧ Aside (· = g1) w4 (wr.setCell ⟨g1, i, none⟩ (.int .u8 99))) := by
        refine ⟨by rw [List.length_set]; exact HL.out.1, ?_, HL.out.2.2.setCell (.inl rfl) _⟩
        have := HL.out.2.1.set i 99 (by rw [HL.out.1]; exact hlt)
        rw [Nat.zero_add] at this
        exact this
      rw [Nat.zero_add] at hfz
      have hi1 : (i : Int) < (l.length : Int) := by omega
      clear HL hiL
      generalize L.set i 99 = L2 at HN
      go_wp2
      go_roundw
      case rel => exact ⟨i + 1, L2, by omega, by go_num, HN⟩
      case measure => simp [intOf]; omega
    · have hil : ¬ (i : Int) < (l.length : Int) := by omega
      have HB5 := Lib.hid (HB4.out.apart HK.out HL.out.2.2 (fun x hx => by subst hx; exact ⟨hwg0, HAp.out.1, HAp.out.2.1, HAp.out.2.2⟩))
      clear HL hlt
      go_wp2
      go_ret
      exact ⟨rfl, s3, F3, v3, HB5.out, HNr.out⟩
end
end Go.Proofs.Ytoibeajcepbpjaa
