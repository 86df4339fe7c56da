/- step: Damage. -/
import Derived.Test.YtoibeajcepbpjaaLDStep2
import Derived.Deep.RegionHeld3
namespace Go.Proofs.Ytoibeajcepbpjaa
open Go.RowKit

/-- worlds that differ by draws alone -/
structure Like (w w' : World) : Prop where
  os : w'.os = w.os
  tape : w'.tape = w.tape
  output : w'.output = w.output
  heap : w'.heap = w.heap
theorem Like.below {w w' : World} (h : Like w w') (B : Nat) : Below B w w' := ⟨h.os, h.tape, h.output, by rw [h.heap]; exact Nat.le_refl _, fun k _ => by rw [h.heap]⟩

theorem byteOf_any (n : Int) (w : World) : Calls Try.prog 24 #[.int .i64 n] w fun e w' => e = .returned (.int .u8 (n % 256)) ∧ w' = w := by
  go_enter Try.func24, Try.ntmps24
  go_wp2
  go_ret
  exact ⟨by first | rfl | (simp [IntKind.wrap, IntKind.bits, IntKind.signed]), rfl⟩

theorem byte_of (n : Int) : ∃ v : UInt8, (v.toNat : Int) = n % 256 := by
  refine ⟨UInt8.ofNat (n % 256).toNat, ?_⟩
  rw [UInt8.toNat_ofNat']
  omega

section
variable {I : Nat → World → Prop} {Rep : DRep} {a : Addr} {g n : Nat} {w0 w : World} {s : Dv.St}

set_option maxRecDepth 100000 in
set_option maxHeartbeats 400000 in
theorem step_damage (h : Alike Rep a g w0 n w s) (K : DevOk I Rep) (hI : I w0.heap.size w0) (hn : n ≤ 2999999999999) (N M : Int) (hN1 : -9223372036854775808 ≤ N) (hN2 : N ≤ 9223372036854775807) (p : Option Addr) (c len : Nat) :
    Calls Try.prog 13 #[.pointer (some a), .pointer (some ⟨g, 0, none⟩), .agg #[.int .i64 7, .int .i64 N, .int .i64 M, .slice p len c]] w (Stepped Rep a g w0 (n + 1)) := by
  obtain ⟨v, hv⟩ := byte_of M
  have HC : Hid (∀ w1, Like (w.alloc (.cells #[.int .i64 7, .int .i64 N, .int .i64 M, .slice p len c] 34)) w1 → Calls Try.prog 23 #[.pointer (some a), .int .i64 N, .int .u8 (M % 256)] w1 fun e w2 => e = .returned (.int .i64 ((Dv.damage s N v).1 : Nat)) ∧ w2.heap[w.heap.size]? = w1.heap[w.heap.size]? ∧
      ∀ w2', Like w2 w2' → Calls Try.prog 38 #[.pointer (some ⟨g, 0, none⟩), .int .i64 N, .int .u8 (M % 256)] w2' fun e' w3 => e' = .returned (.int .i64 ((Dv.damage s N v).1 : Nat)) ∧ Alike Rep a g w0 (n + 1) w3 (Dv.damage s N v).2 ∧ w3.heap[w.heap.size]? = w2.heap[w.heap.size]?) := by
    intro w1 hlk
    obtain ⟨⟨F, u, hB0⟩, hN⟩ := h
    have hb : Below w.heap.size w w1 := ((Below.refl _ _).alloc (Nat.le_refl _) (.cells #[.int .i64 7, .int .i64 N, .int .i64 M, .slice p len c] 34)).trans (hlk.below _)
    have hsz : w.heap.size < w1.heap.size := by rw [hlk.heap]; simp
    have hB := hB0.below K hb
    have hf := hN.fit (by omega)
    rw [← hv]
    refine (K.damage N v hN1 hN2 hB.one.rep hf (K.on hI hB.one.world) hB.one.room).mono ?_
    rintro e w2 ⟨rfl, F2, hr, ha, hF2⟩
    have hB2 := hB.dev K hr ha hF2
    refine ⟨rfl, ha.block _ hsz (fun hfx => by have := (K.lies hB0.one.rep _ hfx).2; omega), fun w2' hlk2 => ?_⟩
    have hB3 := hB2.below K (hlk2.below _)
    refine (refDamage hB3.ref N v).mono ?_
    rintro e' w3 ⟨rfl, v3, hr3, ha3, hv3⟩
    have hgl := hB0.ref.lt
    have hsz2 := ha.size
    refine ⟨rfl, ⟨⟨F2, v3, hB3.doc K hr3 ha3 hv3⟩, Dv.near_damage hN N v⟩, ?_⟩
    rw [ha3.block _ (by rw [hlk2.heap]; omega) (by
      rintro (h | h)
      · omega
      · have := (hB0.ref.has.lt _ h).2; omega), hlk2.heap]
  clear h hI hv K
  generalize Dv.damage s N v = r at HC
  go_enter Try.func13, Try.ntmps13
  go_wp2_with fail
  go_region_held3 (fun w' => w'.cell? ⟨w.heap.size, 1, none⟩ = some (.int .i64 N) ∧ w'.cell? ⟨w.heap.size, 2, none⟩ = some (.int .i64 M)) (go_keep) (first
    | (go_at_call 24; refine (byteOf_any _ _).mono ?_; rintro e w' ⟨rfl, rfl⟩)
    | (go_at_call 23; refine (HC.out _ ⟨by rfl, by rfl, by rfl, by rfl⟩).mono ?_; rintro e w2 ⟨rfl, hk, hC⟩; have HC2 := Lib.hid hC; have d9 := hk.trans (show _ = (w.alloc (.cells #[.int .i64 7, .int .i64 N, .int .i64 M, .slice p len c] 34)).heap[w.heap.size]? by rfl); obtain ⟨d0, d1, d2, d3⟩ := box_on d9; have D9 := Lib.hid d9; clear hC hk d9))
  go_wp2_with fail
  go_region_held3 (fun w' => w'.cell? ⟨w.heap.size, 1, none⟩ = some (.int .i64 N) ∧ w'.cell? ⟨w.heap.size, 2, none⟩ = some (.int .i64 M)) (go_keep) (first
    | (go_at_call 24; refine (byteOf_any _ _).mono ?_; rintro e w' ⟨rfl, rfl⟩)
    | (go_at_call 38; refine (HC2.out _ ⟨by rfl, by rfl, by rfl, by rfl⟩).mono ?_; rintro e w3 ⟨rfl, hA3, hk3⟩; have HA := Lib.hid hA3; obtain ⟨f0, f1, f2, f3⟩ := box_on (w2 := w3) (hk3.trans D9.out); clear hA3 hk3))
  go_wp2
  go_ret
  exact HA.out.stepped
end
end Go.Proofs.Ytoibeajcepbpjaa
