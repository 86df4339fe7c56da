/- step: one step of both files; the kinds that hand no list back. -/
import Derived.Test.YtoibeajcepbpjaaLDStir
namespace Go.Proofs.Ytoibeajcepbpjaa
open Go.RowKit

section
variable {I : Nat → World → Prop} {Rep : DRep}

/-- what a step leaves: both files stand alike again -/
def Stepped (Rep : DRep) (a : Addr) (g : Nat) (w0 : World) (n : Nat) (e : Ending) (w' : World) : Prop :=
  e = .returned (.bool true) ∧ ∃ s' F' v', Both Rep w0.heap.size a g w0 w' s' s' F' v' ∧ Dv.Near n s'

/-- both stand alike -/
def Alike (Rep : DRep) (a : Addr) (g : Nat) (w0 : World) (n : Nat) (w' : World) (s : Dv.St) : Prop :=
  (∃ F v, Both Rep w0.heap.size a g w0 w' s s F v) ∧ Dv.Near n s

theorem Both.apart (K : DevOk I Rep) {B g : Nat} {a : Addr} {w0 w w' : World} {s t : Dv.St} {F G : Nat → Prop} {v : Value} (h : Both Rep B a g w0 w s t F v) (ha : Aside G w w') (hG : ∀ k, G k → B ≤ k ∧ ¬ F k ∧ k ≠ g ∧ v.ownBlock ≠ some k) : Both Rep B a g w0 w' s t F v :=
  ⟨⟨K.aside h.one.rep ha (fun k hf hg => (hG k hg).2.1 hf), h.one.world.trans (ha.below h.one.room (fun k hk hg => by have := (hG k hg).1; omega)), Nat.le_trans h.one.room ha.size⟩,
    h.ref.aside ha (fun hg => (hG g hg).2.2.1 rfl) (fun k hk hg => (hG k hg).2.2.2 hk), h.gout, h.vout⟩

/-- how an op lies once it is boxed -/
theorem box_cells (w : World) (k n m : Int) (u : Value) :
    (w.alloc (.cells #[.int .i64 k, .int .i64 n, .int .i64 m, u] 34)).cell? ⟨w.heap.size, 0, none⟩ = some (.int .i64 k) ∧ (w.alloc (.cells #[.int .i64 k, .int .i64 n, .int .i64 m, u] 34)).cell? ⟨w.heap.size, 1, none⟩ = some (.int .i64 n) ∧
      (w.alloc (.cells #[.int .i64 k, .int .i64 n, .int .i64 m, u] 34)).cell? ⟨w.heap.size, 2, none⟩ = some (.int .i64 m) ∧ (w.alloc (.cells #[.int .i64 k, .int .i64 n, .int .i64 m, u] 34)).cell? ⟨w.heap.size, 3, none⟩ = some u := by
  refine ⟨?_, ?_, ?_, ?_⟩ <;> rw [World.cell?_alloc_new] <;> rfl

variable {a : Addr} {g n : Nat} {w0 w : World} {s : Dv.St}

set_option maxHeartbeats 1000000 in
theorem step_none (h : Alike Rep a g w0 n w s) (K : DevOk I Rep) (kd N M : Int) (hk : ∀ i : Int, 1 ≤ i → i ≤ 9 → kd ≠ i) (p : Option Addr) (c len : Nat) :
    Calls Try.prog 13 #[.pointer (some a), .pointer (some ⟨g, 0, none⟩), .agg #[.int .i64 kd, .int .i64 N, .int .i64 M, .slice p len c]] w (Stepped Rep a g w0 (n + 1)) := by
  have h1 : (kd == 1) = false := by rw [beq_eq_false_iff_ne]; exact hk 1 (by decide) (by decide)
  have h2 : (kd == 2) = false := by rw [beq_eq_false_iff_ne]; exact hk 2 (by decide) (by decide)
  have h3 : (kd == 3) = false := by rw [beq_eq_false_iff_ne]; exact hk 3 (by decide) (by decide)
  have h4 : (kd == 4) = false := by rw [beq_eq_false_iff_ne]; exact hk 4 (by decide) (by decide)
  have h5 : (kd == 5) = false := by rw [beq_eq_false_iff_ne]; exact hk 5 (by decide) (by decide)
  have h6 : (kd == 6) = false := by rw [beq_eq_false_iff_ne]; exact hk 6 (by decide) (by decide)
  have h7 : (kd == 7) = false := by rw [beq_eq_false_iff_ne]; exact hk 7 (by decide) (by decide)
  have h8 : (kd == 8) = false := by rw [beq_eq_false_iff_ne]; exact hk 8 (by decide) (by decide)
  have h9 : (kd == 9) = false := by rw [beq_eq_false_iff_ne]; exact hk 9 (by decide) (by decide)
  have HE : Hid (Stepped Rep a g w0 (n + 1) (.returned (.bool true)) (w.alloc (.cells #[.int .i64 kd, .int .i64 N, .int .i64 M, .slice p len c] 34))) := by
    obtain ⟨⟨F, v, hB⟩, hN⟩ := h
    exact ⟨rfl, s, F, v, hB.below K ((Below.refl _ _).alloc (Nat.le_refl _) _), hN.more (by omega)⟩
  clear hk h
  go_enter Try.func13, Try.ntmps13
  go_wp2
  go_ret
  exact HE.out

/-- a call on package dev's file, then the same on the document's -/
theorem two_calls (K : DevOk I Rep) (hI : I w0.heap.size w0) {w1 : World} (h : Alike Rep a g w0 n w1 s) (hn : n ≤ 2999999999999) {f1 f2 : FuncId} {x1 x2 : Array Value} (r : Nat × Dv.St) (hnr : Dv.Near (n + 1) r.2)
    (h1 : ∀ F, Rep w1 w0.heap.size a s F → Dv.Fit s → I w0.heap.size w1 → w0.heap.size ≤ w1.heap.size → Calls Try.prog f1 x1 w1 (DevPost Rep w1 w0.heap.size a F r))
    (h2 : ∀ (w2 : World) v, RDev w2 w0.heap.size g v s → w0.heap.size ≤ w2.heap.size → Below w0.heap.size w0 w2 → Dv.Fit s → Calls Try.prog f2 x2 w2 (RPost w2 w0.heap.size g v r)) :
    Calls Try.prog f1 x1 w1 fun e w2 => e = .returned (.int .i64 (r.1 : Nat)) ∧ Calls Try.prog f2 x2 w2 fun e' w3 => e' = .returned (.int .i64 (r.1 : Nat)) ∧ Alike Rep a g w0 (n + 1) w3 r.2 := by
  obtain ⟨⟨F, v, hB⟩, hN⟩ := h
  have hf := hN.fit (by omega)
  refine (h1 F hB.one.rep hf (K.on hI hB.one.world) hB.one.room).mono ?_
  rintro e w2 ⟨rfl, F2, hr, ha, hF2⟩
  have hB2 := hB.dev K hr ha hF2
  refine ⟨rfl, (h2 w2 v hB2.ref hB2.one.room hB2.one.world hf).mono ?_⟩
  rintro e' w3 ⟨rfl, v3, hr3, ha3, hv3⟩
  exact ⟨rfl, ⟨F2, v3, hB2.doc K hr3 ha3 hv3⟩, hnr⟩

theorem Alike.below (K : DevOk I Rep) {w1 : World} (h : Alike Rep a g w0 n w s) (hb : Below w.heap.size w w1) : Alike Rep a g w0 n w1 s := by
  obtain ⟨⟨F, v, hB⟩, hN⟩ := h
  exact ⟨⟨F, v, hB.below K hb⟩, hN⟩
theorem Alike.stepped {w1 : World} (h : Alike Rep a g w0 n w1 s) : Stepped Rep a g w0 n (.returned (.bool true)) w1 := by
  obtain ⟨⟨F, v, hB⟩, hN⟩ := h
  exact ⟨rfl, s, F, v, hB, hN⟩

set_option maxHeartbeats 1000000 in
theorem step_sync (h : Alike Rep a g w0 n w s) (K : DevOk I Rep) (hI : I w0.heap.size w0) (hn : n ≤ 2999999999999) (N M : Int) (p : Option Addr) (c len : Nat) :
    Calls Try.prog 13 #[.pointer (some a), .pointer (some ⟨g, 0, none⟩), .agg #[.int .i64 2, .int .i64 N, .int .i64 M, .slice p len c]] w (Stepped Rep a g w0 (n + 1)) := by
  have hA := h.below K ((Below.refl _ _).alloc (Nat.le_refl _) (.cells #[.int .i64 2, .int .i64 N, .int .i64 M, .slice p len c] 34))
  have HC := Lib.hid (two_calls K hI hA hn (f1 := 19) (f2 := 33) (x1 := #[.pointer (some a)]) (x2 := #[.pointer (some ⟨g, 0, none⟩)]) (Dv.sync s) (Dv.near_sync h.2) (fun F hr hf hi hb => K.sync hr hf hi hb) (fun w2 v hr _ _ _ => refSync hr))
  clear h hA hI
  go_enter Try.func13, Try.ntmps13
  go_wp2_with fail
  refine HC.out.mono ?_
  rintro e w2 ⟨rfl, hC⟩
  have HC2 := Lib.hid hC
  clear hC HC
  go_wp2_with fail
  refine HC2.out.mono ?_
  rintro e w3 ⟨rfl, hA3⟩
  have HA := Lib.hid hA3
  clear hA3 HC2
  go_wp2
  go_ret
  exact HA.out.stepped

set_option maxHeartbeats 1000000 in
theorem step_start (h : Alike Rep a g w0 n w s) (K : DevOk I Rep) (hI : I w0.heap.size w0) (hn : n ≤ 2999999999999) (N M : Int) (p : Option Addr) (c len : Nat) :
    Calls Try.prog 13 #[.pointer (some a), .pointer (some ⟨g, 0, none⟩), .agg #[.int .i64 6, .int .i64 N, .int .i64 M, .slice p len c]] w (Stepped Rep a g w0 (n + 1)) := by
  have hA := h.below K ((Below.refl _ _).alloc (Nat.le_refl _) (.cells #[.int .i64 6, .int .i64 N, .int .i64 M, .slice p len c] 34))
  have HC := Lib.hid (two_calls K hI hA hn (f1 := 22) (f2 := 37) (x1 := #[.pointer (some a)]) (x2 := #[.pointer (some ⟨g, 0, none⟩)]) (Dv.start s) (Dv.near_start h.2) (fun F hr hf hi hb => K.start hr hf hi hb) (fun w2 v hr _ _ _ => refStart hr))
  clear h hA hI
  go_enter Try.func13, Try.ntmps13
  go_wp2_with fail
  refine HC.out.mono ?_
  rintro e w2 ⟨rfl, hC⟩
  have HC2 := Lib.hid hC
  clear hC HC
  go_wp2_with fail
  refine HC2.out.mono ?_
  rintro e w3 ⟨rfl, hA3⟩
  have HA := Lib.hid hA3
  clear hA3 HC2
  go_wp2
  go_ret
  exact HA.out.stepped
end
end Go.Proofs.Ytoibeajcepbpjaa
