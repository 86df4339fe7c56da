/- stir: a file that was left is changed; nothing else is. -/
import Derived.Test.YtoibeajcepbpjaaLDBoth
namespace Go.Proofs.Ytoibeajcepbpjaa
open Go.RowKit

section
variable {I : Nat → World → Prop} {Rep : DRep}

/-- it was changed, and nothing else: F were its blocks in w -/
def Gone (Rep : DRep) (B : Nat) (a : Addr) (w0 w : World) (F : Nat → Prop) (n : Nat) (w1 : World) : Prop :=
  ∃ s1 F1, One Rep B a w0 w1 s1 F1 ∧ Dv.Near n s1 ∧ Aside F w w1 ∧ ∀ k, F1 k → F k ∨ w.heap.size ≤ k

theorem gone_step (K : DevOk I Rep) {B n n' : Nat} {a : Addr} {w0 w w1 w2 : World} {F F1 F2 : Nat → Prop} {s1 s2 : Dv.St} (hO : One Rep B a w0 w1 s1 F1) (hA : Aside F w w1) (hF : ∀ k, F1 k → F k ∨ w.heap.size ≤ k)
    (hr : Rep w2 B a s2 F2) (ha : Aside F1 w1 w2) (hF2 : ∀ k, F2 k → F1 k ∨ w1.heap.size ≤ k) (hn : Dv.Near n s2) (hn' : n ≤ n') : Gone Rep B a w0 w F n' w2 := by
  refine ⟨s2, F2, hO.step K hr ha, hn.more hn', hA.trans ha (fun i hi h => ?_), fun k hk => ?_⟩
  · rcases hF i h with h1 | h1
    · exact h1
    · omega
  · rcases hF2 k hk with h1 | h1
    · exact hF k h1
    · have := hA.size; exact .inr (by omega)
theorem gone_new (K : DevOk I Rep) {B n : Nat} {a : Addr} {w0 w w1 w2 : World} {F F1 : Nat → Prop} {s1 : Dv.St} (hO : One Rep B a w0 w1 s1 F1) (hA : Aside F w w1) (hF : ∀ k, F1 k → F k ∨ w.heap.size ≤ k) (hn : Dv.Near n s1)
    (hb : Below w1.heap.size w1 w2) : Gone Rep B a w0 w F n w2 :=
  ⟨s1, F1, hO.on K hb, hn, hA.trans (aside_new hb F) (fun _ _ h => h), hF⟩

set_option maxHeartbeats 1000000 in
theorem stir_ok (K : DevOk I Rep) {B n : Nat} {a : Addr} {w0 w : World} {F : Nat → Prop} {s : Dv.St} (h : One Rep B a w0 w s F) (hn : Dv.Near n s) (hnn : n ≤ 2999999999000) (hI : I B w0) :
    Calls Try.prog 12 #[.pointer (some a)] w fun e w' => e = .returned (.tuple #[]) ∧ Aside F w w' := by
  have HK := Lib.hid K
  have HI := Lib.hid hI
  have G0 : Hid (Gone Rep B a w0 w F n w) := ⟨s, F, h, hn, Aside.refl _ _, fun _ h => .inl h⟩
  clear hI h hn
  go_enter Try.func12, Try.ntmps12
  go_wp2_with fail
  have H1 : Hid (∀ w1 m, Gone Rep B a w0 w F m w1 → m ≤ 2999999999999 → Calls Try.prog 22 #[.pointer (some a)] w1 fun e w' => (∃ x : Int, e = .returned (.int .i64 x)) ∧ Gone Rep B a w0 w F (m + 1) w') := by
    rintro w1 m ⟨s1, F1, hO, hN, hA, hF⟩ hm
    refine (HK.out.start hO.rep (hN.fit (by omega)) (HK.out.on HI.out hO.world) hO.room).mono ?_
    rintro e w2 ⟨rfl, F2, hr, ha, hF2⟩
    exact ⟨⟨_, rfl⟩, gone_step HK.out hO hA hF hr ha hF2 (Dv.near_start hN) (Nat.le_refl _)⟩
  have H2 : Hid (∀ w1 m, Gone Rep B a w0 w F m w1 → m ≤ 2999999999999 → Calls Try.prog 21 #[.pointer (some a), .int .i64 1, .int .i64 0] w1 fun e w' => (∃ x : Int, e = .returned (.int .i64 x)) ∧ Gone Rep B a w0 w F (m + 1) w') := by
    rintro w1 m ⟨s1, F1, hO, hN, hA, hF⟩ hm
    refine (HK.out.fail 1 0 (by decide) (by decide) (by decide) (by decide) hO.rep (hN.fit (by omega)) (HK.out.on HI.out hO.world) hO.room).mono ?_
    rintro e w2 ⟨rfl, F2, hr, ha, hF2⟩
    exact ⟨⟨_, rfl⟩, gone_step HK.out hO hA hF hr ha hF2 (Dv.near_fail hN 1 0 (by decide) (by decide)) (Nat.le_refl _)⟩
  have H3 : Hid (∀ w1 m, Gone Rep B a w0 w F m w1 → m ≤ 2999999999999 → Calls Try.prog 18 #[.pointer (some a), .slice (some ⟨w1.heap.size, 0, none⟩) 2 2] (w1.alloc (.cells #[.int .u8 77, .int .u8 78] 5)) fun e w' => (∃ x : Int, e = .returned (.int .i64 x)) ∧ Gone Rep B a w0 w F (m + 1) w') := by
    rintro w1 m ⟨s1, F1, hO, hN, hA, hF⟩ hm
    have hb : Below w1.heap.size w1 (w1.alloc (.cells #[.int .u8 77, .int .u8 78] 5)) := (Below.refl _ _).alloc (Nat.le_refl _) _
    have hO2 := hO.on HK.out hb
    refine (HK.out.write (some ⟨w1.heap.size, 0, none⟩) 2 [77, 78] (by decide) (by decide) (at_lit w1 _ [77, 78] rfl) (fun _ => fresh_not HK.out hO.rep rfl (Nat.le_refl _)) hO2.rep (hN.fit (by omega)) (HK.out.on HI.out hO2.world) hO2.room).mono ?_
    rintro e w2 ⟨rfl, F2, hr, ha, hF2⟩
    exact ⟨⟨_, rfl⟩, gone_step HK.out hO2 (hA.alloc _) hF hr ha hF2 (Dv.near_write hN _) (Nat.le_refl _)⟩
  have H4 : Hid (∀ w1 m, Gone Rep B a w0 w F m w1 → m ≤ 2999999999999 → Calls Try.prog 23 #[.pointer (some a), .int .i64 0, .int .u8 79] w1 fun e w' => (∃ x : Int, e = .returned (.int .i64 x)) ∧ Gone Rep B a w0 w F (m + 1) w') := by
    rintro w1 m ⟨s1, F1, hO, hN, hA, hF⟩ hm
    refine (HK.out.damage 0 79 (by decide) (by decide) hO.rep (hN.fit (by omega)) (HK.out.on HI.out hO.world) hO.room).mono ?_
    rintro e w2 ⟨rfl, F2, hr, ha, hF2⟩
    exact ⟨⟨_, rfl⟩, gone_step HK.out hO hA hF hr ha hF2 (Dv.near_damage hN 0 79) (Nat.le_refl _)⟩
  have H5 : Hid (∀ w1 m, Gone Rep B a w0 w F m w1 → m ≤ 2999999999999 → Calls Try.prog 25 #[.pointer (some a), .slice (some ⟨w1.heap.size, 0, none⟩) 1 1] (w1.alloc (.cells #[.int .u8 80] 5)) fun e w' => (∃ x : Int, e = .returned (.int .i64 x)) ∧ Gone Rep B a w0 w F (m + 1) w') := by
    rintro w1 m ⟨s1, F1, hO, hN, hA, hF⟩ hm
    have hb : Below w1.heap.size w1 (w1.alloc (.cells #[.int .u8 80] 5)) := (Below.refl _ _).alloc (Nat.le_refl _) _
    have hO2 := hO.on HK.out hb
    refine (HK.out.tail (some ⟨w1.heap.size, 0, none⟩) 1 [80] (by decide) (by decide) (at_lit w1 _ [80] rfl) (fun _ => fresh_not HK.out hO.rep rfl (Nat.le_refl _)) hO2.rep (hN.fit (by omega)) (HK.out.on HI.out hO2.world) hO2.room).mono ?_
    rintro e w2 ⟨rfl, F2, hr, ha, hF2⟩
    exact ⟨⟨_, rfl⟩, gone_step HK.out hO2 (hA.alloc _) hF hr ha hF2 (Dv.near_tail hN _) (Nat.le_refl _)⟩
  have H6 : Hid (∀ w1 m, Gone Rep B a w0 w F m w1 → m ≤ 2999999999999 → Calls Try.prog 31 #[.pointer (some a), .int .i64 0, .int .i64 3] w1 fun e w' => (∃ x y, e = .returned (.tuple #[x, y])) ∧ Gone Rep B a w0 w F (m + 1) w') := by
    rintro w1 m ⟨s1, F1, hO, hN, hA, hF⟩ hm
    refine (HK.out.read 0 3 (by decide) (by decide) (by decide) (by decide) hO.rep (hN.fit (by omega)) (HK.out.on HI.out hO.world) hO.room).mono ?_
    rintro e w2 ⟨q, cap, F2, rfl, _, _, hr, ha, hF2⟩
    exact ⟨⟨_, _, rfl⟩, gone_step HK.out hO hA hF hr ha hF2 (Dv.near_read hN 0 3) (Nat.le_refl _)⟩
  have H7 : Hid (∀ w1 m, Gone Rep B a w0 w F m w1 → m ≤ 2999999999999 → Calls Try.prog 20 #[.pointer (some a), .int .i64 0] w1 fun e w' => (∃ x : Int, e = .returned (.int .i64 x)) ∧ Gone Rep B a w0 w F (m + 1) w') := by
    rintro w1 m ⟨s1, F1, hO, hN, hA, hF⟩ hm
    refine (HK.out.cut 0 (by decide) (by decide) hO.rep (hN.fit (by omega)) (HK.out.on HI.out hO.world) hO.room).mono ?_
    rintro e w2 ⟨rfl, F2, hr, ha, hF2⟩
    exact ⟨⟨_, rfl⟩, gone_step HK.out hO hA hF hr ha hF2 (Dv.near_cut hN 0) (Nat.le_refl _)⟩
  refine (H1.out _ _ G0.out (by omega)).mono ?_
  rintro e w1 ⟨⟨x1, rfl⟩, hG⟩
  have G1 := Lib.hid hG
  clear hG G0
  go_wp2_with fail
  refine (H2.out _ _ G1.out (by omega)).mono ?_
  rintro e w2 ⟨⟨x2, rfl⟩, hG⟩
  have G2 := Lib.hid hG
  clear hG G1
  go_wp2_with fail
  refine (H3.out _ _ G2.out (by omega)).mono ?_
  rintro e w3 ⟨⟨x3, rfl⟩, hG⟩
  have G3 := Lib.hid hG
  clear hG G2
  go_wp2_with fail
  refine (H1.out _ _ G3.out (by omega)).mono ?_
  rintro e w4 ⟨⟨x4, rfl⟩, hG⟩
  have G4 := Lib.hid hG
  clear hG G3
  go_wp2_with fail
  refine (H4.out _ _ G4.out (by omega)).mono ?_
  rintro e w5 ⟨⟨x5, rfl⟩, hG⟩
  have G5 := Lib.hid hG
  clear hG G4
  go_wp2_with fail
  refine (H5.out _ _ G5.out (by omega)).mono ?_
  rintro e w6 ⟨⟨x6, rfl⟩, hG⟩
  have G6 := Lib.hid hG
  clear hG G5
  go_wp2_with fail
  refine (H6.out _ _ G6.out (by omega)).mono ?_
  rintro e w7 ⟨⟨x7, y7, rfl⟩, hG⟩
  have G7 := Lib.hid hG
  clear hG G6
  go_wp2_with fail
  refine (H7.out _ _ G7.out (by omega)).mono ?_
  rintro e w8 ⟨⟨x8, rfl⟩, hG⟩
  have G8 := Lib.hid hG
  clear hG G7
  go_wp2
  go_end0
  obtain ⟨_, _, _, _, hA, _⟩ := G8.out
  exact ⟨rfl, hA⟩
end
end Go.Proofs.Ytoibeajcepbpjaa
