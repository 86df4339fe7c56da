/- KCheck, KSame, WColR, WBytesR, K7Eight, WValR, WSchR, WReadR, WScalR, WValAtR, Rw: put together. -/
import Derived.Test.YtnlhpndjogjejaaM08
import Derived.Test.YtnlhpndjogjejaaM03
import Derived.Test.YtnlhpndjogjejaaM06
import Derived.Test.YtnlhpndjogjejaaM01
import Derived.Test.YtnlhpndjogjejaaM02
import Derived.Test.YtnlhpndjogjejaaM05
import Derived.Test.YtnlhpndjogjejaaM04

/- Package value's fitsKind, checkContent, checkAt, Check. -/
namespace Go.Proofs.Ytnlhpndjogjejaa
open Go.RowKit

attribute [local go_sem] run_store_float

theorem fixB0 : fixB 0 = 0 := by kernel_rfl
theorem natInt0 (n : Nat) : ((n : Int) == 0) = (n == 0) := by rw [Bool.eq_iff_iff, beq_iff_eq, beq_iff_eq]; omega
theorem realSame0 (b : Nat) (w : World) : Calls Try.prog 119 #[.float .f64 b, .float .f64 0] w fun e w' => e = .returned (.bool (fixB b == 0)) ∧ w' = w := by
  have h := realSame_any b 0 w
  rw [fixB0] at h
  have e1 : ((fixB b : Int) == ((0 : Nat) : Int)) = (fixB b == 0) := by
    rw [Bool.eq_iff_iff, beq_iff_eq, beq_iff_eq]
    omega
  rw [e1] at h
  exact h

set_option maxRecDepth 100000 in
set_option maxHeartbeats 1000000 in
theorem fits_1 (i : Int) (b : Nat) (t : ByteArray) (p : Option Addr) (n c : Nat) (w : World) :
    Calls Try.prog 100 #[.agg #[.int .i64 1, .int .i64 i, .float .f64 b, .string t, .slice p n c]] w fun e w' => e = .returned (.bool (V.ownB 1 i b t n)) ∧ Below w.heap.size w w' := by
  have HB : Hid (∀ o, Below w.heap.size w (w.alloc o)) := fun o => (Below.refl _ _).alloc (Nat.le_refl _) o
  go_enter Try.func100, Try.ntmps100
  go_wp2_with (go_at_call 119; refine (realSame0 _ _).mono ?_; rintro e w1 ⟨rfl, hw1⟩; rw [hw1]; clear hw1 w1)
  all_goals go_ret
  all_goals refine ⟨?_, HB.out _⟩
  all_goals simp_all [V.ownB]
  all_goals first | exact natInt0 n | (intros; omega)

set_option maxRecDepth 100000 in
set_option maxHeartbeats 1000000 in
theorem fits_2 (i : Int) (b : Nat) (t : ByteArray) (p : Option Addr) (n c : Nat) (w : World) :
    Calls Try.prog 100 #[.agg #[.int .i64 2, .int .i64 i, .float .f64 b, .string t, .slice p n c]] w fun e w' => e = .returned (.bool (V.ownB 2 i b t n)) ∧ Below w.heap.size w w' := by
  have HB : Hid (∀ o, Below w.heap.size w (w.alloc o)) := fun o => (Below.refl _ _).alloc (Nat.le_refl _) o
  go_enter Try.func100, Try.ntmps100
  go_wp2_with (go_at_call 119; refine (realSame0 _ _).mono ?_; rintro e w1 ⟨rfl, hw1⟩; rw [hw1]; clear hw1 w1)
  all_goals go_ret
  all_goals refine ⟨?_, HB.out _⟩
  all_goals simp_all [V.ownB]
  all_goals first | exact natInt0 n | (intros; omega)

set_option maxRecDepth 100000 in
set_option maxHeartbeats 1000000 in
theorem fits_3 (i : Int) (b : Nat) (t : ByteArray) (p : Option Addr) (n c : Nat) (w : World) :
    Calls Try.prog 100 #[.agg #[.int .i64 3, .int .i64 i, .float .f64 b, .string t, .slice p n c]] w fun e w' => e = .returned (.bool (V.ownB 3 i b t n)) ∧ Below w.heap.size w w' := by
  have HB : Hid (∀ o, Below w.heap.size w (w.alloc o)) := fun o => (Below.refl _ _).alloc (Nat.le_refl _) o
  go_enter Try.func100, Try.ntmps100
  go_wp2_with (go_at_call 119; refine (realSame0 _ _).mono ?_; rintro e w1 ⟨rfl, hw1⟩; rw [hw1]; clear hw1 w1)
  all_goals go_ret
  all_goals refine ⟨?_, HB.out _⟩
  all_goals simp_all [V.ownB, fixB0]
  all_goals first | exact natInt0 n | (intros; omega)

set_option maxRecDepth 100000 in
set_option maxHeartbeats 1000000 in
theorem fits_4 (i : Int) (b : Nat) (t : ByteArray) (p : Option Addr) (n c : Nat) (w : World) :
    Calls Try.prog 100 #[.agg #[.int .i64 4, .int .i64 i, .float .f64 b, .string t, .slice p n c]] w fun e w' => e = .returned (.bool (V.ownB 4 i b t n)) ∧ Below w.heap.size w w' := by
  have HB : Hid (∀ o, Below w.heap.size w (w.alloc o)) := fun o => (Below.refl _ _).alloc (Nat.le_refl _) o
  go_enter Try.func100, Try.ntmps100
  go_wp2_with (go_at_call 119; refine (realSame0 _ _).mono ?_; rintro e w1 ⟨rfl, hw1⟩; rw [hw1]; clear hw1 w1)
  all_goals go_ret
  all_goals refine ⟨?_, HB.out _⟩
  all_goals simp_all [V.ownB]
  all_goals first | exact natInt0 n | (intros; omega)

set_option maxRecDepth 100000 in
set_option maxHeartbeats 1000000 in
theorem fits_5 (i : Int) (b : Nat) (t : ByteArray) (p : Option Addr) (n c : Nat) (w : World) :
    Calls Try.prog 100 #[.agg #[.int .i64 5, .int .i64 i, .float .f64 b, .string t, .slice p n c]] w fun e w' => e = .returned (.bool (V.ownB 5 i b t n)) ∧ Below w.heap.size w w' := by
  have HB : Hid (∀ o, Below w.heap.size w (w.alloc o)) := fun o => (Below.refl _ _).alloc (Nat.le_refl _) o
  go_enter Try.func100, Try.ntmps100
  go_wp2_with (go_at_call 119; refine (realSame0 _ _).mono ?_; rintro e w1 ⟨rfl, hw1⟩; rw [hw1]; clear hw1 w1)
  all_goals go_ret
  all_goals refine ⟨?_, HB.out _⟩
  all_goals simp_all [V.ownB]
  all_goals first | exact natInt0 n | (intros; omega)

set_option maxRecDepth 100000 in
set_option maxHeartbeats 1000000 in
theorem fits_6 (i : Int) (b : Nat) (t : ByteArray) (p : Option Addr) (n c : Nat) (w : World) :
    Calls Try.prog 100 #[.agg #[.int .i64 6, .int .i64 i, .float .f64 b, .string t, .slice p n c]] w fun e w' => e = .returned (.bool (V.ownB 6 i b t n)) ∧ Below w.heap.size w w' := by
  have HB : Hid (∀ o, Below w.heap.size w (w.alloc o)) := fun o => (Below.refl _ _).alloc (Nat.le_refl _) o
  go_enter Try.func100, Try.ntmps100
  go_wp2_with (go_at_call 119; refine (realSame0 _ _).mono ?_; rintro e w1 ⟨rfl, hw1⟩; rw [hw1]; clear hw1 w1)
  all_goals go_ret
  all_goals refine ⟨?_, HB.out _⟩
  all_goals simp_all [V.ownB]
  all_goals first | exact natInt0 n | (intros; omega)

set_option maxRecDepth 100000 in
set_option maxHeartbeats 1000000 in
theorem fits_7 (i : Int) (b : Nat) (t : ByteArray) (p : Option Addr) (n c : Nat) (w : World) :
    Calls Try.prog 100 #[.agg #[.int .i64 7, .int .i64 i, .float .f64 b, .string t, .slice p n c]] w fun e w' => e = .returned (.bool (V.ownB 7 i b t n)) ∧ Below w.heap.size w w' := by
  have HB : Hid (∀ o, Below w.heap.size w (w.alloc o)) := fun o => (Below.refl _ _).alloc (Nat.le_refl _) o
  go_enter Try.func100, Try.ntmps100
  go_wp2_with (go_at_call 119; refine (realSame0 _ _).mono ?_; rintro e w1 ⟨rfl, hw1⟩; rw [hw1]; clear hw1 w1)
  all_goals go_ret
  all_goals refine ⟨?_, HB.out _⟩
  all_goals simp_all [V.ownB]

set_option maxRecDepth 100000 in
set_option maxHeartbeats 1000000 in
theorem fits_out (k : Int) (hk : k < 1 ∨ 7 < k) (i : Int) (b : Nat) (t : ByteArray) (p : Option Addr) (n c : Nat) (w : World) :
    Calls Try.prog 100 #[.agg #[.int .i64 k, .int .i64 i, .float .f64 b, .string t, .slice p n c]] w fun e w' => e = .returned (.bool (V.ownB k i b t n)) ∧ Below w.heap.size w w' := by
  have HB : Hid (∀ o, Below w.heap.size w (w.alloc o)) := fun o => (Below.refl _ _).alloc (Nat.le_refl _) o
  have h1 : ¬ k = 1 := by omega
  have h2 : ¬ k = 2 := by omega
  have h3 : ¬ k = 3 := by omega
  have h4 : ¬ k = 4 := by omega
  have h5 : ¬ k = 5 := by omega
  have h6 : ¬ k = 6 := by omega
  have h7 : ¬ k = 7 := by omega
  go_enter Try.func100, Try.ntmps100
  go_wp2_with (go_at_call 119; refine (realSame0 _ _).mono ?_; rintro e w1 ⟨rfl, hw1⟩; rw [hw1]; clear hw1 w1)
  all_goals go_ret
  all_goals refine ⟨?_, HB.out _⟩
  all_goals simp_all [V.ownB]
  all_goals first | exact natInt0 n | (intros; omega)

theorem fitsK (k i : Int) (b : Nat) (t : ByteArray) (p : Option Addr) (n c : Nat) (w : World) :
    Calls Try.prog 100 #[.agg #[.int .i64 k, .int .i64 i, .float .f64 b, .string t, .slice p n c]] w fun e w' => e = .returned (.bool (V.ownB k i b t n)) ∧ Below w.heap.size w w' := by
  by_cases hk : k < 1 ∨ 7 < k
  · exact fits_out k hk i b t p n c w
  · rcases (show k = 1 ∨ k = 2 ∨ k = 3 ∨ k = 4 ∨ k = 5 ∨ k = 6 ∨ k = 7 by omega) with rfl | rfl | rfl | rfl | rfl | rfl | rfl
    · exact fits_1 i b t p n c w
    · exact fits_2 i b t p n c w
    · exact fits_3 i b t p n c w
    · exact fits_4 i b t p n c w
    · exact fits_5 i b t p n c w
    · exact fits_6 i b t p n c w
    · exact fits_7 i b t p n c w

/-- what a value's own content is refused for -/
def cont (k : Int) (t : ByteArray) (n : Nat) : Nat := if 1024 < t.size then 2 else if 256 < n then 3 else if k = 4 ∧ utfT t = false then 61 else 0

set_option maxRecDepth 100000 in
set_option maxHeartbeats 1000000 in
theorem contK (k i : Int) (b : Nat) (t : ByteArray) (p : Option Addr) (n c : Nat) (w : World) :
    Calls Try.prog 101 #[.agg #[.int .i64 k, .int .i64 i, .float .f64 b, .string t, .slice p n c]] w fun e w' => e = .returned (.int .i64 (cont k t n : Nat)) ∧ Below w.heap.size w w' := by
  have HB : Hid (∀ o, Below w.heap.size w (w.alloc o)) := fun o => (Below.refl _ _).alloc (Nat.le_refl _) o
  by_cases h2 : 1024 < t.size
  · have g2 : (1024 : Int) < (t.size : Int) := by omega
    have HR : Hid (cont k t n = 2) := by show _ = _; rw [cont, if_pos h2]
    go_enter Try.func101, Try.ntmps101
    go_wp2
    go_ret
    exact ⟨by rw [HR.out]; rfl, HB.out _⟩
  have g2 : ¬ (1024 : Int) < (t.size : Int) := by omega
  by_cases h3 : 256 < n
  · have g3 : (256 : Int) < (n : Int) := by omega
    have HR : Hid (cont k t n = 3) := by show _ = _; rw [cont, if_neg h2, if_pos h3]
    go_enter Try.func101, Try.ntmps101
    go_wp2
    go_ret
    exact ⟨by rw [HR.out]; rfl, HB.out _⟩
  have g3 : ¬ (256 : Int) < (n : Int) := by omega
  by_cases h4 : k = 4
  · have hk4 : (k == 4) = true := beq_t h4
    have HU := Lib.hid (fun w => utfK t (by omega) w)
    obtain ⟨r, hr⟩ : ∃ r, r = utfT t := ⟨_, rfl⟩
    rw [← hr] at HU
    have HR : Hid (cont k t n = if r = false then 61 else 0) := by
      show _ = _
      rw [cont, if_neg h2, if_neg h3, ← hr]
      simp only [h4, true_and]
    clear hr
    go_enter Try.func101, Try.ntmps101
    go_wp2_with fail
    refine (HU.out _).mono ?_
    rintro e w1 ⟨rfl, hb1⟩
    have HB1 := Lib.hid ((HB.out _).trans (hb1.mono (HB.out _).size))
    clear hb1
    cases r
    all_goals
      go_wp2
      go_ret
      exact ⟨by rw [HR.out]; rfl, HB1.out⟩
  · have hk4 : (k == 4) = false := beq_f h4
    have HR : Hid (cont k t n = 0) := by show _ = _; rw [cont, if_neg h2, if_neg h3, if_neg (fun hc => h4 hc.1)]
    go_enter Try.func101, Try.ntmps101
    go_wp2
    go_ret
    exact ⟨by rw [HR.out]; rfl, HB.out _⟩

theorem chk_cont (d : Nat) (k i : Int) (b : Nat) (t : ByteArray) (xs : List V) : chk d (.mk k i b t xs) = if 4 < d then 62 else if V.ownB k i b t xs.length = false then 60 else if cont k t xs.length = 0 then chkL (d + 1) xs else cont k t xs.length := by
  rw [chk_mk]
  unfold cont
  by_cases h1 : 4 < d
  · rw [if_pos h1, if_pos h1]
  rw [if_neg h1, if_neg h1]
  by_cases h2 : V.ownB k i b t xs.length = false
  · rw [if_pos h2, if_pos h2]
  rw [if_neg h2, if_neg h2]
  by_cases h3 : 1024 < t.size
  · rw [if_pos h3, if_pos h3]; rfl
  rw [if_neg h3, if_neg h3]
  by_cases h4 : 256 < xs.length
  · rw [if_pos h4, if_pos h4]; rfl
  rw [if_neg h4, if_neg h4]
  by_cases h5 : k = 4 ∧ utfT t = false
  · rw [if_pos h5, if_pos h5]; rfl
  rw [if_neg h5, if_neg h5, if_pos rfl]

set_option maxRecDepth 100000 in
set_option maxHeartbeats 1000000 in
theorem checkAtK : ∀ (x : V) (d : Nat) (w : World) (u : Array Value), d ≤ 5 → VLies w u x → Calls Try.prog 76 #[.agg u, .int .i64 d] w fun e w' => e = .returned (.int .i64 (chk d x : Nat)) ∧ Below w.heap.size w w' := by
  intro x
  refine V.ind (P := fun x => ∀ (d : Nat) (w : World) (u : Array Value), d ≤ 5 → VLies w u x → Calls Try.prog 76 #[.agg u, .int .i64 d] w fun e w' => e = .returned (.int .i64 (chk d x : Nat)) ∧ Below w.heap.size w w') ?_ x
  rintro k i b t xs ih d w u hd hx
  obtain ⟨p, c, rfl, hxl, hxc, hxi⟩ := hx.open
  unfold cells5
  have hB1 : Below w.heap.size w (w.alloc (.cells #[.int .i64 k, .int .i64 i, .float .f64 b, .string t, .slice p xs.length c] 46)) := (Below.refl _ _).alloc (Nat.le_refl _) _
  have HB1 := Lib.hid hB1
  clear hB1 hx
  have HCk := Lib.hid (chk_cont d k i b t xs)
  obtain ⟨R, hR⟩ : ∃ R, R = chk d (.mk k i b t xs) := ⟨_, rfl⟩
  rw [← hR] at HCk ⊢
  clear hR
  by_cases h1 : 4 < d
  · have g1 : (4 : Int) < (d : Int) := by omega
    have HR : Hid (R = 62) := by show _ = _; rw [HCk.out, if_pos h1]
    clear ih hxi HCk
    go_enter Try.func76, Try.ntmps76
    go_wp2
    go_ret
    exact ⟨by rw [HR.out]; rfl, HB1.out⟩
  have g1 : ¬ (4 : Int) < (d : Int) := by omega
  have HO := Lib.hid (fitsK k i b t p xs.length c (w.alloc (.cells #[.int .i64 k, .int .i64 i, .float .f64 b, .string t, .slice p xs.length c] 46)))
  have HCo := Lib.hid (contK k i b t p xs.length c)
  obtain ⟨r, hr⟩ : ∃ r, r = V.ownB k i b t xs.length := ⟨_, rfl⟩
  rw [← hr] at HO HCk
  clear hr
  obtain ⟨s, hs⟩ : ∃ s, s = cont k t xs.length := ⟨_, rfl⟩
  rw [← hs] at HCo HCk
  clear hs
  have hsz : w.heap.size < (w.alloc (.cells #[.int .i64 k, .int .i64 i, .float .f64 b, .string t, .slice p xs.length c] 46)).heap.size := by simp
  have y0 : (w.alloc (.cells #[.int .i64 k, .int .i64 i, .float .f64 b, .string t, .slice p xs.length c] 46)).cell? ⟨w.heap.size, 0, none⟩ = some (.int .i64 k) := by simp
  have y1 : (w.alloc (.cells #[.int .i64 k, .int .i64 i, .float .f64 b, .string t, .slice p xs.length c] 46)).cell? ⟨w.heap.size, 1, none⟩ = some (.int .i64 i) := by simp
  have y2 : (w.alloc (.cells #[.int .i64 k, .int .i64 i, .float .f64 b, .string t, .slice p xs.length c] 46)).cell? ⟨w.heap.size, 2, none⟩ = some (.float .f64 b) := by simp
  have y3 : (w.alloc (.cells #[.int .i64 k, .int .i64 i, .float .f64 b, .string t, .slice p xs.length c] 46)).cell? ⟨w.heap.size, 3, none⟩ = some (.string t) := by simp
  have y4 : (w.alloc (.cells #[.int .i64 k, .int .i64 i, .float .f64 b, .string t, .slice p xs.length c] 46)).cell? ⟨w.heap.size, 4, none⟩ = some (.slice p xs.length c) := by simp
  have Y := Lib.hid (And.intro y0 (And.intro y1 (And.intro y2 (And.intro y3 y4))))
  clear y0 y1 y2 y3 y4
  have HX : Hid (∀ j (hj : j < xs.length), ∃ u', VLies w u' xs[j] ∧ Item w p j u') := hxi
  have HIH := Lib.hid ih
  clear ih hxi
  go_enter Try.func76, Try.ntmps76
  go_wp2_with fail
  refine HO.out.mono ?_
  rintro e w2 ⟨rfl, hb2⟩
  have c0 := cell_on hb2 Y.out.1
  have c1 := cell_on hb2 Y.out.2.1
  have c2 := cell_on hb2 Y.out.2.2.1
  have c3 := cell_on hb2 Y.out.2.2.2.1
  have c4 := cell_on hb2 Y.out.2.2.2.2
  have HB2 := Lib.hid (HB1.out.trans (hb2.mono HB1.out.size))
  have hs2 : w.heap.size < w2.heap.size := by have := hb2.size; omega
  clear hb2 HO Y HB1 hsz
  cases r with
  | false =>
    have HR : Hid (R = 60) := by show _ = _; rw [HCk.out, if_neg h1, if_pos rfl]
    clear HCk
    go_wp2
    go_ret
    exact ⟨by rw [HR.out]; rfl, HB2.out⟩
  | true =>
    have HR2 : Hid (R = if s = 0 then chkL (d + 1) xs else s) := by show _ = _; rw [HCk.out, if_neg h1, if_neg (by simp)]
    clear HCk
    go_wp2_with fail
    refine (HCo.out _).mono ?_
    rintro e w3 ⟨rfl, hb3⟩
    have n4 := cell_on hb3 c4
    have HB3 := Lib.hid (HB2.out.trans (hb3.mono HB2.out.size))
    have hs3 : w.heap.size < w3.heap.size := by have := hb3.size; omega
    clear hb3 HCo HB2 c0 c1 c2 c3 c4
    by_cases hs0 : ¬ s = 0
    · have hsb : ((s : Int) != 0) = true := by rw [bne_iff_ne]; omega
      have HR : Hid (R = s) := by show _ = _; rw [HR2.out, if_neg hs0]
      clear HR2
      go_wp2
      go_ret
      exact ⟨by rw [HR.out]; rfl, HB3.out⟩
    replace hs0 : s = 0 := Classical.not_not.1 hs0
    have hsb : ((s : Int) != 0) = false := by rw [hs0]; rfl
    have HR : Hid (R = chkL (d + 1) xs) := by show _ = _; rw [HR2.out, if_pos hs0]
    clear HR2
    -- the items, from any world behind
    have HC : Hid (∀ j (hj : j < xs.length) w', Below w.heap.size w w' → ∀ u', VLies w u' xs[j] → Calls Try.prog 76 #[.agg u', .int .i64 ((d + 1 : Nat) : Int)] w' fun e w'' => e = .returned (.int .i64 (chk (d + 1) xs[j] : Nat)) ∧ Below w'.heap.size w' w'') :=
      fun j hj w' hb u' hv => HIH.out _ (List.getElem_mem hj) (d + 1) w' u' (by omega) (hv.on hb)
    clear HIH
    go_wp2_with fail
    go_loopw [22] (fun v22 wr => ∃ j : Nat, j ≤ xs.length ∧ v22 = .int .i64 j ∧ Hid (Below w3.heap.size w3 wr ∧ ∀ m (h1 : m < xs.length), m < j → chk (d + 1) xs[m] = 0)) (fun v22 _ => xs.length - (intOf v22).toNat)
    case atStart => exact ⟨0, by omega, rfl, Below.refl _ _, fun m _ h => by omega⟩
    case round =>
      obtain ⟨j, hj, rfl, HL⟩ := hrel
      have hbw : Below w.heap.size w wr := HB3.out.trans (HL.out.1.mono (by omega))
      by_cases hlt : j < xs.length
      · obtain ⟨ux, hvx, hix⟩ := HX.out j hlt
        obtain ⟨bx, ox, kx, ix, fx, tx, qx, nx, cx, rfl, _, rfl, a0, a1, a2, a3, a4⟩ := (hix.on hbw).lies
        have HBa : Hid (∀ o, Below wr.heap.size wr (wr.alloc o)) := fun o => (Below.refl _ _).alloc (Nat.le_refl _) o
        have HCj : Hid (∀ w', Below wr.heap.size wr w' → Calls Try.prog 76 #[.agg #[.int .i64 kx, .int .i64 ix, .float .f64 fx, .string tx, .slice qx nx cx], .int .i64 ((d + 1 : Nat) : Int)] w' fun e w'' => e = .returned (.int .i64 (chk (d + 1) xs[j] : Nat)) ∧ Below w'.heap.size w' w'') := fun w' hb => HC.out j hlt w' (hbw.trans (hb.mono hbw.size)) _ hvx
        have hj1 : (j : Int) < (xs.length : Int) := by omega
        obtain ⟨z, hz⟩ : ∃ z, z = chk (d + 1) xs[j] := ⟨_, rfl⟩
        rw [← hz] at HCj
        have HZz := Lib.hid hz
        have HBw := Lib.hid hbw
        clear hvx hix hz hbw
        go_wp2_with fail
        refine (HCj.out _ (HBa.out _)).mono ?_
        rintro e w4 ⟨rfl, hb4⟩
        have HB4 := Lib.hid ((HBa.out _).trans (hb4.mono (HBa.out _).size))
        clear hb4 a0 a1 a2 a3 a4 HCj HBa
        by_cases hz0 : z = 0
        · have hzb : ((z : Int) != 0) = false := by rw [hz0]; rfl
          have HN : Hid (Below w3.heap.size w3 w4 ∧ ∀ m (h1 : m < xs.length), m < j + 1 → chk (d + 1) xs[m] = 0) := by
            refine ⟨HL.out.1.trans (HB4.out.mono HL.out.1.size), fun m h1 hm => ?_⟩
            by_cases hmj : m = j
            · subst hmj; rw [← HZz.out]; exact hz0
            · exact HL.out.2 m h1 (by omega)
          clear HL HB4 HZz hz0
          go_wp2
          go_roundw
          case rel => exact ⟨j + 1, by omega, by go_num, HN⟩
          case measure => simp [intOf]; omega
        · have hzb : ((z : Int) != 0) = true := by rw [bne_iff_ne]; omega
          have HRz : Hid (R = z) := by
            show _ = _
            rw [HR.out, HZz.out]
            exact chkL_at (d + 1) xs j hlt (fun m h hm => HL.out.2 m h hm) (by rw [← HZz.out]; exact hz0)
          have HF := Lib.hid (HBw.out.trans (HB4.out.mono HBw.out.size))
          clear HL HB4 HZz hz0 HR
          go_wp2
          go_ret
          exact ⟨by rw [HRz.out]; rfl, HF.out⟩
      · have hjn : ¬ (j : Int) < (xs.length : Int) := by omega
        have HRz : Hid (R = 0) := by
          show _ = _
          rw [HR.out]
          exact chkL_all (d + 1) xs (fun m h => HL.out.2 m h (by omega))
        have HF := Lib.hid hbw
        clear HL hbw hlt HR
        go_wp2
        go_ret
        exact ⟨by rw [HRz.out]; rfl, HF.out⟩

set_option maxHeartbeats 400000 in
theorem checkK (x : V) (w : World) (u : Array Value) (h : VLies w u x) : Calls Try.prog 52 #[.agg u] w fun e w' => e = .returned (.int .i64 (chk 1 x : Nat)) ∧ Below w.heap.size w w' := by
  obtain ⟨k, i, b, t, xs⟩ := x
  obtain ⟨p, c, rfl, -⟩ := h.open
  have hB1 : Below w.heap.size w (w.alloc (.cells (cells5 k i b t p xs.length c) 46)) := (Below.refl _ _).alloc (Nat.le_refl _) _
  have HB1 := Lib.hid hB1
  have HC := Lib.hid (checkAtK _ 1 _ _ (by omega) (h.on hB1))
  clear hB1 h
  obtain ⟨R, hR⟩ : ∃ R, R = chk 1 (.mk k i b t xs) := ⟨_, rfl⟩
  rw [← hR] at HC ⊢
  clear hR
  unfold cells5 at HC HB1 ⊢
  go_enter Try.func52, Try.ntmps52
  go_wp2_with fail
  refine HC.out.mono ?_
  rintro e w2 ⟨rfl, hb2⟩
  have HB2 := Lib.hid (HB1.out.trans (hb2.mono HB1.out.size))
  clear hb2
  go_wp2
  go_ret
  exact ⟨rfl, HB2.out⟩
end Go.Proofs.Ytnlhpndjogjejaa

/- Package value's Same and SameRow. -/
namespace Go.Proofs.Ytnlhpndjogjejaa
open Go.RowKit

attribute [local go_sem] run_store_float

set_option maxRecDepth 100000 in
set_option maxHeartbeats 1000000 in
theorem sameK : ∀ (x y : V) (w : World) (u v : Array Value), VLies w u x → VLies w v y → Calls Try.prog 115 #[.agg u, .agg v] w fun e w' => e = .returned (.bool (V.same x y)) ∧ Below w.heap.size w w' := by
  intro x
  refine V.ind (P := fun x => ∀ (y : V) (w : World) (u v : Array Value), VLies w u x → VLies w v y → Calls Try.prog 115 #[.agg u, .agg v] w fun e w' => e = .returned (.bool (V.same x y)) ∧ Below w.heap.size w w') ?_ x
  rintro k i b t xs ih ⟨k', i', b', t', ys⟩ w u v hx hy
  obtain ⟨p, c, rfl, hxl, hxc, hxi⟩ := hx.open
  obtain ⟨q, d, rfl, hyl, hyc, hyi⟩ := hy.open
  unfold cells5
  have hB2 : Below w.heap.size w ((w.alloc (.cells #[.int .i64 k, .int .i64 i, .float .f64 b, .string t, .slice p xs.length c] 46)).alloc (.cells #[.int .i64 k', .int .i64 i', .float .f64 b', .string t', .slice q ys.length d] 46)) := ((Below.refl _ _).alloc (Nat.le_refl _) _).alloc (by simp) _
  have HB2 := Lib.hid hB2
  clear hB2 hx hy
  by_cases h1 : ¬ k = k'
  · have g1 := bne_t h1
    have HE : Hid (V.same (.mk k i b t xs) (.mk k' i' b' t' ys) = false) := by show _ = _; simp [V.same_mk, h1]
    clear ih hxi hyi h1
    go_enter Try.func115, Try.ntmps115
    go_wp2
    go_ret
    exact ⟨by rw [HE.out]; rfl, HB2.out⟩
  replace h1 : k = k' := Classical.not_not.1 h1
  have g1 := bne_f h1
  by_cases h2 : ¬ i = i'
  · have g2 := bne_t h2
    have HE : Hid (V.same (.mk k i b t xs) (.mk k' i' b' t' ys) = false) := by show _ = _; simp [V.same_mk, h2]
    clear ih hxi hyi h1 h2
    go_enter Try.func115, Try.ntmps115
    go_wp2
    go_ret
    exact ⟨by rw [HE.out]; rfl, HB2.out⟩
  replace h2 : i = i' := Classical.not_not.1 h2
  have g2 := bne_f h2
  by_cases h3 : ¬ t = t'
  · have g3 : (t.toList == t'.toList) = false := by rw [text_eq, decide_eq_false h3]
    have HE : Hid (V.same (.mk k i b t xs) (.mk k' i' b' t' ys) = false) := by show _ = _; simp [V.same_mk, h3]
    clear ih hxi hyi h1 h2 h3
    go_enter Try.func115, Try.ntmps115
    go_wp2
    go_ret
    exact ⟨by rw [HE.out]; rfl, HB2.out⟩
  replace h3 : t = t' := Classical.not_not.1 h3
  have g3 : (t.toList == t'.toList) = true := by rw [text_eq, decide_eq_true h3]
  have HRS := Lib.hid (realSame_any b b')
  by_cases h4 : ¬ fixB b = fixB b'
  · have g4 : ((fixB b : Int) == (fixB b' : Int)) = false := beq_f (by omega)
    rw [g4] at HRS
    have HE : Hid (V.same (.mk k i b t xs) (.mk k' i' b' t' ys) = false) := by show _ = _; simp [V.same_mk, h4]
    clear ih hxi hyi h1 h2 h3 h4
    go_enter Try.func115, Try.ntmps115
    go_wp2_with fail
    refine (HRS.out _).mono ?_
    rintro e w1 ⟨rfl, hw1⟩
    rw [hw1]
    clear hw1 w1
    go_wp2
    go_ret
    exact ⟨by rw [HE.out]; rfl, HB2.out⟩
  replace h4 : fixB b = fixB b' := Classical.not_not.1 h4
  have g4 : ((fixB b : Int) == (fixB b' : Int)) = true := beq_t (by omega)
  rw [g4] at HRS
  by_cases h5 : ¬ xs.length = ys.length
  · have g5 : ((xs.length : Int) != (ys.length : Int)) = true := bne_t (by omega)
    have HE : Hid (V.same (.mk k i b t xs) (.mk k' i' b' t' ys) = false) := by show _ = _; simp [V.same_mk, V.sameL_ne xs ys h5]
    clear ih hxi hyi h1 h2 h3 h4 h5
    go_enter Try.func115, Try.ntmps115
    go_wp2_with fail
    refine (HRS.out _).mono ?_
    rintro e w1 ⟨rfl, hw1⟩
    rw [hw1]
    clear hw1 w1
    go_wp2
    go_ret
    exact ⟨by rw [HE.out]; rfl, HB2.out⟩
  replace h5 : xs.length = ys.length := Classical.not_not.1 h5
  have g5 : ((xs.length : Int) != (ys.length : Int)) = false := bne_f (by omega)
  have HE : Hid (V.same (.mk k i b t xs) (.mk k' i' b' t' ys) = V.sameL xs ys) := by show _ = _; simp [V.same_mk, h1, h2, h3, h4]
  have HX : Hid (Items w p xs) := hxi
  have HY : Hid (Items w q ys) := hyi
  have HIH := Lib.hid ih
  have H5 := Lib.hid h5
  clear ih hxi hyi h1 h2 h3 h4 h5
  obtain ⟨W0, hW0⟩ : ∃ W0, W0 = (w.alloc (.cells #[.int .i64 k, .int .i64 i, .float .f64 b, .string t, .slice p xs.length c] 46)).alloc (.cells #[.int .i64 k', .int .i64 i', .float .f64 b', .string t', .slice q ys.length d] 46) := ⟨_, rfl⟩
  have Y4 : Hid (W0.cell? ⟨w.heap.size + 1, 4, none⟩ = some (.slice q ys.length d)) := by show _ = _; rw [hW0]; simp
  have HB0 : Hid (Below w.heap.size w W0) := by rw [hW0]; exact HB2.out
  have HW0 := Lib.hid hW0
  clear HB2 hW0
  go_enter Try.func115, Try.ntmps115
  go_wp2_with fail
  refine (HRS.out _).mono ?_
  rintro e w1 ⟨rfl, hw1⟩
  rw [hw1]
  clear hw1 w1
  go_wp2_with fail
  rw [← HW0.out]
  clear HW0
  go_loopw [44] (fun v44 wr => ∃ j : Nat, j ≤ xs.length ∧ v44 = .int .i64 j ∧ Hid (Below W0.heap.size W0 wr ∧ ∀ m (h1 : m < xs.length) (h2 : m < ys.length), m < j → V.same xs[m] ys[m] = true)) (fun v44 _ => xs.length - (intOf v44).toNat)
  case atStart => exact ⟨0, by omega, rfl, Below.refl _ _, fun m _ _ h => by omega⟩
  case round =>
    obtain ⟨j, hj, rfl, HL⟩ := hrel
    have hbw : Below w.heap.size w wr := HB0.out.trans (HL.out.1.mono HB0.out.size)
    by_cases hlt : j < xs.length
    · have hlt2 : j < ys.length := by have := H5.out; omega
      obtain ⟨ux, hvx, hix⟩ := HX.out j hlt
      obtain ⟨uy, hvy, hiy⟩ := HY.out j hlt2
      obtain ⟨bx, ox, kx, ix, fx, tx, qx, nx, cx, rfl, _, rfl, a0, a1, a2, a3, a4⟩ := (hix.on hbw).lies
      obtain ⟨by', oy, ky, iy, fy, ty, qy, ny, cy, rfl, _, rfl, b0, b1, b2, b3, b4⟩ := (hiy.on hbw).lies
      have HC : Hid (∀ w', Below w.heap.size w w' → Calls Try.prog 115 #[.agg #[.int .i64 kx, .int .i64 ix, .float .f64 fx, .string tx, .slice qx nx cx], .agg #[.int .i64 ky, .int .i64 iy, .float .f64 fy, .string ty, .slice qy ny cy]] w' fun e w'' => e = .returned (.bool (V.same xs[j] ys[j])) ∧ Below w'.heap.size w' w'') :=
        fun w' hb => HIH.out _ (List.getElem_mem hlt) ys[j] w' _ _ (hvx.on hb) (hvy.on hb)
      have HAll := Lib.hid HL.out.2
      have hj1 : (j : Int) < (xs.length : Int) := by omega
      have hj2 : (j : Int) < (ys.length : Int) := by omega
      obtain ⟨r, hr⟩ : ∃ r, r = V.same xs[j] ys[j] := ⟨_, rfl⟩
      rw [← hr] at HC
      have HRr := Lib.hid hr
      obtain ⟨wa, hwa⟩ : ∃ wa, wa = wr.alloc (.cells #[.int .i64 kx, .int .i64 ix, .float .f64 fx, .string tx, .slice qx nx cx] 46) := ⟨_, rfl⟩
      have HBa : Hid (Below wr.heap.size wr wa) := by rw [hwa]; exact (Below.refl _ _).alloc (Nat.le_refl _) _
      have HBw : Hid (Below w.heap.size w wa) := hbw.trans (HBa.out.mono hbw.size)
      have HBW : Hid (Below W0.heap.size W0 wa) := HL.out.1.trans (HBa.out.mono HL.out.1.size)
      have HWa := Lib.hid hwa
      have HY4 : Hid (wa.cell? ⟨w.heap.size + 1, 4, none⟩ = some (.slice (some ⟨by', oy, none⟩) ys.length d)) := cell_on HBW.out Y4.out
      have HBs : Hid (wa.cell? ⟨by', oy + j * 5, none⟩ = some (.int .i64 ky) ∧ wa.cell? ⟨by', oy + j * 5 + 1, none⟩ = some (.int .i64 iy) ∧ wa.cell? ⟨by', oy + j * 5 + 2, none⟩ = some (.float .f64 fy) ∧ wa.cell? ⟨by', oy + j * 5 + 3, none⟩ = some (.string ty) ∧ wa.cell? ⟨by', oy + j * 5 + 4, none⟩ = some (.slice qy ny cy)) :=
        ⟨cell_on HBa.out b0, cell_on HBa.out b1, cell_on HBa.out b2, cell_on HBa.out b3, cell_on HBa.out b4⟩
      have HAs : Hid (wa.cell? ⟨wr.heap.size, 0, none⟩ = some (.int .i64 kx) ∧ wa.cell? ⟨wr.heap.size, 1, none⟩ = some (.int .i64 ix) ∧ wa.cell? ⟨wr.heap.size, 2, none⟩ = some (.float .f64 fx) ∧ wa.cell? ⟨wr.heap.size, 3, none⟩ = some (.string tx) ∧ wa.cell? ⟨wr.heap.size, 4, none⟩ = some (.slice qx nx cx)) := by rw [hwa]; exact ⟨by simp, by simp, by simp, by simp, by simp⟩
      clear hvx hvy hix hiy hbw HL hr hwa b0 b1 b2 b3 b4
      go_wp2_with fail
      rw [← HWa.out]
      obtain ⟨c0, c1, c2, c3, c4⟩ := HAs.out
      obtain ⟨d0, d1, d2, d3, d4⟩ := HBs.out
      have d5 := HY4.out
      clear HAs HBs HY4 HWa a0 a1 a2 a3 a4
      go_region_held3 (fun w' => w'.cell? ⟨wr.heap.size, 0, none⟩ = some (.int .i64 kx) ∧ w'.cell? ⟨wr.heap.size, 1, none⟩ = some (.int .i64 ix) ∧ w'.cell? ⟨wr.heap.size, 2, none⟩ = some (.float .f64 fx) ∧ w'.cell? ⟨wr.heap.size, 3, none⟩ = some (.string tx) ∧ w'.cell? ⟨wr.heap.size, 4, none⟩ = some (.slice qx nx cx) ∧ w'.cell? ⟨by', oy + j * 5, none⟩ = some (.int .i64 ky) ∧ w'.cell? ⟨by', oy + j * 5 + 1, none⟩ = some (.int .i64 iy) ∧ w'.cell? ⟨by', oy + j * 5 + 2, none⟩ = some (.float .f64 fy) ∧ w'.cell? ⟨by', oy + j * 5 + 3, none⟩ = some (.string ty) ∧ w'.cell? ⟨by', oy + j * 5 + 4, none⟩ = some (.slice qy ny cy) ∧ w'.cell? ⟨w.heap.size + 1, 4, none⟩ = some (.slice (some ⟨by', oy, none⟩) ys.length d)) (go_keep) (first
        | (go_at_call 115; refine (HC.out _ (below_drewN HBw.out _)).mono ?_; rintro e w4 ⟨rfl, hb4⟩; have hb5 := below_via (w := wa) hb4 (by rfl) (by rfl) (by rfl) (by rfl); have z3 := cell_on hb5 c0; have z4 := cell_on hb5 c1; have z5 := cell_on hb5 c2; have z6 := cell_on hb5 c3; have z7 := cell_on hb5 c4; have z8 := cell_on hb5 d0; have z9 := cell_on hb5 d1; have z10 := cell_on hb5 d2; have z11 := cell_on hb5 d3; have z12 := cell_on hb5 d4; have z13 := cell_on hb5 d5; have HB4 := Lib.hid hb5; clear hb4 hb5))
      clear z3 z4 z5 z6 z7 z8 z9 z10 z11 z12 z13 c0 c1 c2 c3 c4 d0 d1 d2 d3 d4 d5
      cases r with
      | true =>
        have HN : Hid (Below W0.heap.size W0 w4 ∧ ∀ m (h1 : m < xs.length) (h2 : m < ys.length), m < j + 1 → V.same xs[m] ys[m] = true) := by
          refine ⟨HBW.out.trans (HB4.out.mono HBW.out.size), fun m h1 h2 hm => ?_⟩
          by_cases hmj : m = j
          · subst hmj; exact HRr.out.symm
          · exact HAll.out m h1 h2 (by omega)
        clear HB4 HAll HC
        go_wp2
        go_roundw
        case rel => exact ⟨j + 1, by omega, by go_num, HN⟩
        case measure => simp [intOf]; omega
      | false =>
        have HF0 : Hid (V.sameL xs ys = false) := V.sameL_at xs ys j hlt hlt2 HRr.out.symm
        have HF := Lib.hid (HBw.out.trans (HB4.out.mono HBw.out.size))
        clear HB4 HAll HC
        go_wp2
        go_ret
        exact ⟨by rw [HE.out, HF0.out]; rfl, HF.out⟩
    · have HF0 : Hid (V.sameL xs ys = true) := V.sameL_all xs ys H5.out (fun m h1 h2 => HL.out.2 m h1 h2 (by omega))
      have HF := Lib.hid hbw
      have hjn : ¬ (j : Int) < (xs.length : Int) := by omega
      clear HL hbw hlt
      go_wp2
      go_ret
      exact ⟨by rw [HE.out, HF0.out]; rfl, HF.out⟩

end Go.Proofs.Ytnlhpndjogjejaa

/- The document's column. -/
namespace Go.Proofs.Ytnlhpndjogjejaa
open Go.RowKit

theorem any_no {l : List Col} {n : ByteArray} (h : ∀ m (hm : m < l.length), ¬ l[m].name = n) : l.any (fun x => decide (x.name = n)) = false := by
  rw [List.any_eq_false]
  intro x hx
  obtain ⟨m, hm, rfl⟩ := List.getElem_of_mem hx
  simpa using h m hm
theorem any_yes {l : List Col} {n : ByteArray} (m : Nat) (hm : m < l.length) (h : l[m].name = n) : l.any (fun x => decide (x.name = n)) = true := by
  rw [List.any_eq_true]
  exact ⟨l[m], List.getElem_mem hm, by simpa using h⟩

theorem v0_lies (w : World) (p : Option Addr) (c : Nat) : VLies w (cells5 0 0 0 ⟨#[]⟩ p 0 c) V0 :=
  VLies.mk (xs := []) (fun _ => #[]) (by simp) (by simp) (fun hc => absurd rfl hc) (fun j hj => by simp at hj)

end Go.Proofs.Ytnlhpndjogjejaa

/- The document's flag, typeBytes, ValueBytes. -/
namespace Go.Proofs.Ytnlhpndjogjejaa
open Go.RowKit

/-- what bytes of one's own a call answers -/
def FreshB (w : World) (l : List UInt8) (e : Ending) (w' : World) : Prop := ∃ q cap, e = .returned (.slice q l.length cap) ∧ Has w' w.heap.size (.slice q l.length cap) l ∧ Below w.heap.size w w'

end Go.Proofs.Ytnlhpndjogjejaa

/- Plain: eight bytes, one by one. -/
namespace Go.Proofs.Ytnlhpndjogjejaa

/-- while eight bytes are put -/
def Eight (m : Nat) (xs : List UInt8) (n : Nat) : Prop := xs.length ≤ 8 ∧ n < 18446744073709551616 ∧ Sch.le 8 m = xs ++ Sch.le (8 - xs.length) n
theorem eight_next {m n : Nat} {xs : List UInt8} (h : Eight m xs n) (h8 : xs.length < 8) : Eight m (xs ++ [UInt8.ofNat (n % 256)]) (n / 256) := by
  obtain ⟨h1, h2, h3⟩ := h
  refine ⟨by rw [List.length_append, List.length_singleton]; omega, by omega, ?_⟩
  rw [h3, List.append_assoc, List.length_append, List.length_singleton, show 8 - xs.length = (8 - (xs.length + 1)) + 1 by omega, Sch.le]
  rfl

end Go.Proofs.Ytnlhpndjogjejaa

/- The document's ValueBytes. -/
namespace Go.Proofs.Ytnlhpndjogjejaa
open Go.RowKit

end Go.Proofs.Ytnlhpndjogjejaa

/- The document's bytesOf, Check, Encode. -/
namespace Go.Proofs.Ytnlhpndjogjejaa
open Go.RowKit

attribute [local go_sem] run_store_float

/-- while bytes are put behind a slice: the blocks from a to z, which are not its own, stay as they were in w2 -/
structure Apart (a z : Nat) (w2 W : World) (v : Value) : Prop where
  own : ∀ k, v.ownBlock = some k → k < a ∨ z ≤ k
  keep : ∀ k, a ≤ k → k < z → W.heap[k]? = w2.heap[k]?
  size : z ≤ W.heap.size
theorem Apart.step {a z : Nat} {w2 W W' : World} {v v' : Value} (h : Apart a z w2 W v) (ha : Aside (fun k => v.ownBlock = some k) W W') (hb : ∀ k, v'.ownBlock = some k → v.ownBlock = some k ∨ W.heap.size ≤ k) : Apart a z w2 W' v' := by
  have hs := h.size
  refine ⟨fun k hk => ?_, fun k h1 h2 => ?_, Nat.le_trans h.size ha.size⟩
  · rcases hb k hk with h1 | h1
    · exact h.own k h1
    · exact .inr (by omega)
  · rw [ha.block k (by omega) (fun hc => by have := h.own k hc; omega)]
    exact h.keep k h1 h2
theorem Apart.on {a z : Nat} {w2 W W' : World} {v : Value} (h : Apart a z w2 W v) (hb : Below W.heap.size W W') : Apart a z w2 W' v := by
  have hs := h.size
  exact ⟨h.own, fun k h1 h2 => by rw [hb.block k (by omega)]; exact h.keep k h1 h2, Nat.le_trans h.size hb.size⟩
theorem Apart.cell {a z : Nat} {w2 W : World} {v : Value} (h : Apart a z w2 W v) {g o : Nat} {x : Value} (h1 : a ≤ g) (h2 : g < z) (hc : w2.cell? ⟨g, o, none⟩ = some x) : W.cell? ⟨g, o, none⟩ = some x := by
  rw [World.cell?_of_block (w := w2) (h.keep g h1 h2)]; exact hc
theorem Apart.at {a z : Nat} {w2 W : World} {v : Value} (h : Apart a z w2 W v) {p : Option Addr} {l : List UInt8} (hp : ∀ b o, p = some ⟨b, o, none⟩ → a ≤ b ∧ b < z) (hl : At w2 p l) : At W p l := by
  rcases hl with rfl | ⟨b, o, hpe, h2, h3⟩
  · exact .inl rfl
  · obtain ⟨h4, h5⟩ := hp b o hpe
    have hs := h.size
    exact .inr ⟨b, o, hpe, by omega, fun j hj => by rw [World.cell?_of_block (w := w2) (h.keep b h4 h5)]; exact h3 j hj⟩
/-- where a fresh slice's bytes lie -/
theorem Has.place {w : World} {B : Nat} {q : Option Addr} {n cap : Nat} {l : List UInt8} (h : Has w B (.slice q n cap) l) : ∀ b o, q = some ⟨b, o, none⟩ → B ≤ b ∧ b < w.heap.size := by
  intro b o hq
  subst hq
  exact h.lt b rfl
theorem Has.here {w : World} {B : Nat} {q : Option Addr} {cap : Nat} {l : List UInt8} (h : Has w B (.slice q l.length cap) l) : At w q l := by
  obtain ⟨p, c, he, hat, -⟩ := h.at
  injection he with he
  rw [he]; exact hat

theorem one_at (w : World) (z : Int) (c : UInt8) (hz : z = (c.toNat : Int)) : At (w.alloc (.cells #[.int .u8 z] 5)) (some ⟨w.heap.size, 0, none⟩) [c] :=
  (has_lit (B := 0) (w := w) [c] (by rw [hz]; rfl) (Nat.zero_le _) (by simp)).here

theorem colsErr_at (s : List Col) (j : Nat) (h : j < s.length) : Sch.colsErr (s.take j) (s.drop j) = if Sch.colErr (s.take j) s[j] = 0 then Sch.colsErr (s.take (j + 1)) (s.drop (j + 1)) else Sch.colErr (s.take j) s[j] := by
  rw [List.drop_eq_getElem_cons h, Sch.colsErr, List.take_succ_eq_append_getElem h]

/-- what Encode answers: bytes of one's own, or nothing and the error -/
def EncV (w : World) (s : List Col) (e : Ending) (w' : World) : Prop :=
  (Sch.err s = 0 ∧ ∃ q cap, e = .returned (.tuple #[.slice q (Sch.bytes s).length cap, .int .i64 0]) ∧ Has w' w.heap.size (.slice q (Sch.bytes s).length cap) (Sch.bytes s) ∧ Below w.heap.size w w') ∨
  (Sch.err s ≠ 0 ∧ e = .returned (.tuple #[.slice none 0 0, .int .i64 (Sch.err s : Nat)]) ∧ Below w.heap.size w w')

end Go.Proofs.Ytnlhpndjogjejaa

/- The document's bit, text, float. -/
namespace Go.Proofs.Ytnlhpndjogjejaa
open Go.RowKit

/-- what a number read tells -/
def numV (a : Nat) : Except Nat (Nat × Nat) → Value
  | .error e => .tuple #[.int .u64 0, .int .i64 0, .int .i64 (e : Nat)]
  | .ok (n, k) => .tuple #[.int .u64 (n : Nat), .int .i64 ((a + k : Nat) : Int), .int .i64 0]
theorem gotV_num (l : List UInt8) (a : Nat) : gotV l (a : Int) = numV a (Sch.num (l.drop a)) := by
  by_cases ha : a < l.length
  · by_cases h : (Leb.get (l.drop a)).err = 0
    · have e : Leb.get (l.drop a) = ⟨0, (Leb.get (l.drop a)).n, (Leb.get (l.drop a)).k⟩ := by rw [← h]
      rw [gotV_ok l a _ _ e, Sch.num, if_pos h]
      simp only [numV]
      rfl
    · have hb := Leb.getF_bad 10 true (l.drop a) h
      have e : Leb.get (l.drop a) = ⟨(Leb.get (l.drop a)).err, 0, 0⟩ := by
        have h1 : (Leb.get (l.drop a)).n = 0 := hb.1
        have h2 : (Leb.get (l.drop a)).k = 0 := hb.2
        generalize Leb.get (l.drop a) = g at *
        cases g
        simp_all
      rw [gotV_bad l a _ h e, Sch.num, if_neg h]
      rfl
  · rw [gotV_out l a (by omega), List.drop_eq_nil_of_le (by omega)]
    rfl

/-- what bit tells -/
def bitV (a : Nat) : Except Nat (Nat × Nat) → Value
  | .error e => .tuple #[.int .i64 0, .int .i64 0, .int .i64 (e : Nat)]
  | .ok (n, k) => .tuple #[.int .i64 (n : Nat), .int .i64 ((a + k : Nat) : Int), .int .i64 0]

/-- what text tells -/
def textV (a : Nat) : Except Nat (ByteArray × Nat) → Value
  | .error e => .tuple #[.string ⟨#[]⟩, .int .i64 0, .int .i64 (e : Nat)]
  | .ok (t, k) => .tuple #[.string t, .int .i64 ((a + k : Nat) : Int), .int .i64 0]

/-- what float tells -/
def floatV (a : Nat) : Except Nat (Nat × Nat) → Value
  | .error e => .tuple #[.float .f64 0, .int .i64 0, .int .i64 (e : Nat)]
  | .ok (n, k) => .tuple #[.float .f64 n, .int .i64 ((a + k : Nat) : Int), .int .i64 0]

/-- while eight bytes are read, the last one first -/
theorem un_drop (l : List UInt8) (i : Nat) (h : i < l.length) : Sch.un (l.drop i) = Sch.un (l.drop (i + 1)) * 256 + l[i].toNat := by
  rw [List.drop_eq_getElem_cons h, Sch.un]

end Go.Proofs.Ytnlhpndjogjejaa

/- The document's scalar. -/
namespace Go.Proofs.Ytnlhpndjogjejaa
open Go.RowKit

attribute [local go_sem] run_store_float

/-- what reading a value tells: the value in blocks of its own, and the place behind it; or the error alone -/
def ReadV (w : World) (a : Nat) (r : Except Nat (V × Nat)) (e : Ending) (w' : World) : Prop := match r with
  | .error er => e = .returned (.tuple #[.agg (cells5 0 0 0 ⟨#[]⟩ none 0 0), .int .i64 0, .int .i64 (er : Nat)]) ∧ Below w.heap.size w w'
  | .ok (v, k) => ∃ u, e = .returned (.tuple #[.agg u, .int .i64 ((a + k : Nat) : Int), .int .i64 0]) ∧ VOwn w' (fun k => w.heap.size ≤ k ∧ k < w'.heap.size) u v ∧ Below w.heap.size w w'

theorem bit_err {l : List UInt8} {e : Nat} (h : Sch.bit l = .error e) : e ≠ 0 := by
  cases l with
  | nil => rw [Sch.bit] at h; injection h with h; omega
  | cons c r =>
    rw [Sch.bit] at h
    split at h
    · injection h with h; omega
    · cases h
theorem num_err {l : List UInt8} {e : Nat} (h : Sch.num l = .error e) : e ≠ 0 := by
  intro hc
  rw [Sch.num] at h
  split at h
  · cases h
  · next h0 => injection h with h; rw [h] at h0; exact h0 hc
theorem float_err {l : List UInt8} {e : Nat} (h : Sch.float l = .error e) : e ≠ 0 := by
  rw [Sch.float] at h
  split at h
  · injection h with h; omega
  · split at h
    · cases h
    · injection h with h; omega
theorem text_err {m g : Nat} (hg : g ≠ 0) {l : List UInt8} {e : Nat} (h : Sch.text m g l = .error e) : e ≠ 0 := by
  rw [Sch.text] at h
  split at h
  · next e' he => injection h with h; rw [← h]; exact num_err he
  · split at h
    · injection h with h; omega
    · split at h
      · injection h with h; omega
      · cases h

theorem blk_first (w : World) (o o2 : Obj) : ((w.alloc o).alloc o2).heap[w.heap.size]? = some o := by rw [blk_old _ _ (by simp)]; exact blk_new w o
theorem bool_lit (b : Bool) : b = true ∨ b = false := by cases b <;> simp

end Go.Proofs.Ytnlhpndjogjejaa

/- The document's ValueAt. -/
namespace Go.Proofs.Ytnlhpndjogjejaa
open Go.RowKit

attribute [local go_sem] run_store_float

theorem many_err {k : Int} {l : List UInt8} {e : Nat} (h : Sch.many k l = .error e) : e ≠ 0 := by
  rw [Sch.many] at h
  split at h
  · exact bit_err h
  · split at h
    · next e' he => injection h with h; rw [← h]; exact num_err he
    · split at h
      · injection h with h; omega
      · cases h
theorem scalar_err {k : Int} {l : List UInt8} {e : Nat} (h : Sch.scalar k l = .error e) : e ≠ 0 := by
  rw [Sch.scalar] at h
  split at h
  · split at h
    · next e' he => injection h with h; rw [← h]; exact bit_err he
    · cases h
  split at h
  · split at h
    · next e' he => injection h with h; rw [← h]; exact num_err he
    · cases h
  split at h
  · split at h
    · next e' he => injection h with h; rw [← h]; exact float_err he
    · cases h
  split at h
  · next e' he => injection h with h; rw [← h]; exact text_err (by decide) he
  · split at h
    · injection h with h; omega
    · cases h
theorem rdN_err {f : List UInt8 → Except Nat (V × Nat)} (hf : ∀ l e, f l = .error e → e ≠ 0) : ∀ (m : Nat) (l : List UInt8) (e : Nat), Sch.rdN f m l = .error e → e ≠ 0
  | 0, l, e, h => by rw [Sch.rdN] at h; cases h
  | m + 1, l, e, h => by
    rw [Sch.rdN] at h
    split at h
    · next e' he => injection h with h; rw [← h]; exact hf l e' he
    · next v j hv =>
      split at h
      · next e' he => injection h with h; rw [← h]; exact rdN_err hf m _ _ he
      · cases h
theorem rdV_err : ∀ (t : Ty) (d : Nat) (l : List UInt8) (e : Nat), Ty.check d t = 0 → Sch.rdV t l = .error e → e ≠ 0 := by
  intro t
  refine Ty.ind (P := fun t => ∀ (d : Nat) (l : List UInt8) (e : Nat), Ty.check d t = 0 → Sch.rdV t l = .error e → e ≠ 0) ?_ t
  intro k xs ih d l e ht h
  obtain ⟨hd, hk, htt⟩ := Sch.ty_open ht
  rw [Sch.rdV_mk] at h
  rcases htt with ⟨h67, rfl⟩ | ⟨h67, x, rfl, hx⟩
  · rw [if_pos (by omega)] at h
    exact scalar_err h
  · rw [if_neg (by omega)] at h
    split at h
    · next e' he => injection h with h; rw [← h]; exact many_err he
    · split at h
      · next e' he =>
        injection h with h
        rw [← h]
        exact rdN_err (fun l e he => ih x (by simp) (d + 1) l e hx he) _ _ _ he
      · cases h

/-- what was read goes ahead of what is read behind it -/
def glue (ys : List V) (n : Nat) : Except Nat (List V × Nat) → Except Nat (List V × Nat)
  | .error e => .error e
  | .ok (vs, k) => .ok (ys ++ vs, n + k)
theorem glue_glue (ys : List V) (n : Nat) (v : V) (j : Nat) (r : Except Nat (List V × Nat)) : glue ys n (glue [v] j r) = glue (ys ++ [v]) (n + j) r := by
  cases r with
  | error e => rfl
  | ok p => simp [glue, Nat.add_assoc]
/-- one item is read, then m more -/
def stepR (f : List UInt8 → Except Nat (V × Nat)) (m : Nat) (l : List UInt8) : Except Nat (V × Nat) → Except Nat (List V × Nat)
  | .error e => .error e
  | .ok (v, j) => glue [v] j (Sch.rdN f m (l.drop j))
theorem rdN_succ (f : List UInt8 → Except Nat (V × Nat)) (m : Nat) (l : List UInt8) : Sch.rdN f (m + 1) l = stepR f m l (f l) := by
  rw [Sch.rdN]
  cases f l with
  | error e => rfl
  | ok p =>
    obtain ⟨v, j⟩ := p
    rw [stepR]
    dsimp only
    cases Sch.rdN f m (l.drop j) with
    | error e => rfl
    | ok q => rfl

theorem blk_second (w : World) (o o2 : Obj) : ((w.alloc o).alloc o2).heap[w.heap.size + 1]? = some o2 := by
  have := blk_new (w.alloc o) o2
  simpa using this
/-- the answer's place is written: the value is there -/
theorem put5_fin {w W1 w1 : World} {k i : Int} {b : Nat} {t : ByteArray} {q : Option Addr} {n c : Nat} {v : V} {F : Nat → Prop} (h1 : w1.heap[w.heap.size + 1]? = some (.cells (cells5 0 0 0 ⟨#[]⟩ none 0 0) 46 (0, 0))) (hW : Below w.heap.size w W1) (hs : w.heap.size + 2 ≤ W1.heap.size) (hb : Below w.heap.size W1 w1) (hsz : W1.heap.size ≤ w1.heap.size) (hv : VOwn w1 F (cells5 k i b t q n c) v) (hF : ∀ j, F j → w.heap.size + 2 ≤ j ∧ j < w1.heap.size) :
    (put5 w1 (w.heap.size + 1) k i b t (.slice q n c)).heap[w.heap.size + 1]? = some (.cells (cells5 k i b t q n c) 46 (0, 0)) ∧ VOwn (put5 w1 (w.heap.size + 1) k i b t (.slice q n c)) (fun j => w.heap.size ≤ j ∧ j < (put5 w1 (w.heap.size + 1) k i b t (.slice q n c)).heap.size) (cells5 k i b t q n c) v ∧ Below w.heap.size w (put5 w1 (w.heap.size + 1) k i b t (.slice q n c)) := by
  have hA : Aside (fun k => k = w.heap.size + 1) w1 (put5 w1 (w.heap.size + 1) k i b t (.slice q n c)) := by
    unfold put5
    exact (((((Aside.refl (fun k => k = w.heap.size + 1) w1).setCell (p := ⟨w.heap.size + 1, 0, none⟩) (.inl rfl) _).setCell (p := ⟨w.heap.size + 1, 1, none⟩) (.inl rfl) _).setCell (p := ⟨w.heap.size + 1, 2, none⟩) (.inl rfl) _).setCell (p := ⟨w.heap.size + 1, 3, none⟩) (.inl rfl) _).setCell (p := ⟨w.heap.size + 1, 4, none⟩) (.inl rfl) _
  refine ⟨?_, ?_, ?_⟩
  · unfold put5
    rw [blk_set (blk_set (blk_set (blk_set (blk_set h1 0 _) 1 _) 2 _) 3 _) 4 _]
    rfl
  · exact (hv.aside hA (fun k hk hc => by have := hF k hk; omega)).mono (fun j hj => ⟨by have := hF j hj; omega, by have := hF j hj; have := hA.size; omega⟩)
  · exact (hW.trans hb).trans (hA.below (by omega) (fun k hk hc => by omega))

/-- while the items are read: the type stands in the first block, the answer's place in the next, the value in the third; the items ys are there -/
structure MakingV (w : World) (C0 : Array Value) (k : Int) (ys : List V) (v : Value) (wr : World) : Prop where
  built : ∃ us Fs, Built wr (w.heap.size + 3) v ys.length us Fs ys
  b0 : wr.heap[w.heap.size]? = some (.cells C0 43 (0, 0))
  b1 : wr.heap[w.heap.size + 1]? = some (.cells (cells5 0 0 0 ⟨#[]⟩ none 0 0) 46 (0, 0))
  b2 : wr.heap[w.heap.size + 2]? = some (.cells #[.int .i64 k, .int .i64 0, .float .f64 0, .string ⟨#[]⟩, v] 46 (0, 0))
  below : Below w.heap.size w wr
  size : w.heap.size + 3 ≤ wr.heap.size

section
variable {w wr : World} {C0 : Array Value} {k : Int} {ys : List V} {v : Value}
theorem makingV_start (w : World) (C0 : Array Value) (k : Int) :
    MakingV w C0 k [] (.slice none 0 0) (((w.alloc (.cells C0 43)).alloc (.cells (cells5 0 0 0 ⟨#[]⟩ none 0 0) 46)).alloc (.cells #[.int .i64 k, .int .i64 0, .float .f64 0, .string ⟨#[]⟩, .slice none 0 0] 46)) := by
  refine ⟨⟨_, _, built_nil _ _⟩, ?_, ?_, ?_, ((((Below.refl _ w).alloc (Nat.le_refl _) _).alloc (by simp) _).alloc (by simp; omega) _), by simp⟩
  · rw [blk_old _ _ (by simp; omega), blk_old _ _ (by simp)]; exact blk_new w _
  · rw [blk_old _ _ (by simp)]
    have := blk_new (w.alloc (.cells C0 43)) (.cells (cells5 0 0 0 ⟨#[]⟩ none 0 0) 46)
    simpa using this
  · have := blk_new ((w.alloc (.cells C0 43)).alloc (.cells (cells5 0 0 0 ⟨#[]⟩ none 0 0) 46)) (.cells #[.int .i64 k, .int .i64 0, .float .f64 0, .string ⟨#[]⟩, .slice none 0 0] 46)
    simpa using this
theorem MakingV.slice (h : MakingV w C0 k ys v wr) : ∃ p c, v = .slice p ys.length c := by
  obtain ⟨us, Fs, hb⟩ := h.built
  rcases hb.row.2 with ⟨h1, h2⟩ | ⟨g, cap, cur, h1, _⟩
  · exact ⟨none, 0, by rw [h1, h2]⟩
  · exact ⟨_, cap, h1⟩
theorem MakingV.next {w2 w3 w4 : World} {u : Array Value} {F : Nat → Prop} {g cap : Nat} {us : Nat → Array Value} {Fs : Nat → Nat → Prop} {y : V} (h : MakingV w C0 k ys v wr) (hbt : Built wr (w.heap.size + 3) v ys.length us Fs ys) (hb : Below wr.heap.size wr w2) (hx : VOwn w2 F u y)
    (hF : ∀ k, F k → wr.heap.size ≤ k ∧ k < w2.heap.size) (hb3 : Below w2.heap.size w2 w3)
    (hr : w4.ownsRow (w.heap.size + 3) 46 5 (.slice (some ⟨g, 0, none⟩) (ys.length + 1) cap) (ys.length + 1) (flat us ys.length ++ u.toList)) (hg : w3.grownBy w4 v.ownBlock) (hn : v.ownBlock = some g ∨ g = w3.heap.size) :
    (∀ n, n < 3 → w4.heap[w.heap.size + n]? = wr.heap[w.heap.size + n]?) ∧ MakingV w C0 k (ys ++ [y]) (.slice (some ⟨g, 0, none⟩) (ys.length + 1) cap) (w4.setCell ⟨w.heap.size + 2, 4, none⟩ (.slice (some ⟨g, 0, none⟩) (ys.length + 1) cap)) := by
  have hs := h.size
  have hs2 := hb.size
  have hs3 := hb3.size
  have hst := hbt.step hb hx hF hb3 hs hr hg hn
  have hold : ∀ n, n < 3 → w4.heap[w.heap.size + n]? = wr.heap[w.heap.size + n]? := fun n hn => by
    rw [hg.block _ (by omega) (fun hc => by have := (hbt.lt _ hc.symm).1; omega), hb3.block _ (by omega), hb.block _ (by omega)]
  have hb4 : Below w.heap.size w w4 := ((h.below.trans (hb.mono (by omega))).trans (hb3.mono (by omega))).grown hg (by omega) (fun k hk => by have := (hbt.lt k hk).1; omega)
  refine ⟨hold, ⟨⟨(fun n => if n = ys.length then u else us n), (fun n => if n = ys.length then F else Fs n), ?_⟩, ?_, ?_, ?_, ?_, ?_⟩⟩
  · rw [List.length_append, List.length_singleton]
    exact hst.set ⟨w.heap.size + 2, 4, none⟩ _ (by show w.heap.size + 2 < _; omega)
  · have := hold 0 (by omega)
    rw [Nat.add_zero] at this
    exact blk_set_far (this.trans h.b0) _ _ (by show w.heap.size ≠ w.heap.size + 2; omega)
  · exact blk_set_far ((hold 1 (by omega)).trans h.b1) _ _ (by show w.heap.size + 1 ≠ w.heap.size + 2; omega)
  · rw [blk_set ((hold 2 (by omega)).trans h.b2)]
    rfl
  · exact hb4.setCell (by show w.heap.size ≤ w.heap.size + 2; omega) _
  · have := hg.size
    simp [World.setCell]
    omega
end

end Go.Proofs.Ytnlhpndjogjejaa

/- Plain: rows, their bytes and how they are read; what the document says of them. -/
namespace Go.Proofs.Ytnlhpndjogjejaa
namespace Rw

/-- why a value isn't one of a type that may be -/
def vErr (t : Ty) (v : V) : Nat := if chk 1 v ≠ 0 then chk 1 v else if Sch.is v t then 0 else 80
/-- P8.1: the error -/
def encErr (t : Ty) (v : V) : Nat := if Ty.check 1 t ≠ 0 then Ty.check 1 t else vErr t v
/-- P8.1: the bytes -/
def encB (t : Ty) (v : V) : List UInt8 := if encErr t v = 0 then Sch.vB v else []
/-- column by column -/
def colsErr : List Col → List V → Nat
  | c :: s, v :: r => if vErr c.ty v = 0 then colsErr s r else vErr c.ty v
  | _, _ => 0
def bytes (vs : List V) : List UInt8 := (vs.map Sch.vB).flatten
/-- P8.3 -/
def err (s : List Col) (vs : List V) : Nat := if Sch.err s ≠ 0 then Sch.err s else if vs.length ≠ s.length then 80 else if colsErr s vs ≠ 0 then colsErr s vs else if 1024 < (bytes vs).length then 2 else 0
/-- P8.4 -/
def out (s : List Col) (vs : List V) : List UInt8 := if err s vs = 0 then bytes vs else []
/-- P8.2 -/
def readV (t : Ty) (l : List UInt8) (a : Int) : Except Nat (V × Nat) := if Ty.check 1 t ≠ 0 then .error (Ty.check 1 t) else if a < 0 ∨ (l.length : Int) < a then .error 30 else match Sch.rdV t (l.drop a.toNat) with
  | .error e => .error e
  | .ok (v, k) => .ok (v, a.toNat + k)
/-- values of the columns' types -/
def rd : List Col → List UInt8 → Except Nat (List V × Nat)
  | [], _ => .ok ([], 0)
  | c :: s, l => match Sch.rdV c.ty l with
    | .error e => .error e
    | .ok (v, k) => match rd s (l.drop k) with
      | .error e => .error e
      | .ok (vs, j) => .ok (v :: vs, k + j)
/-- P8.5 -/
def read (s : List Col) (l : List UInt8) (a : Int) : Except Nat (List V × Nat) := if Sch.err s ≠ 0 then .error (Sch.err s) else if a < 0 ∨ (l.length : Int) < a then .error 30 else match rd s (l.drop a.toNat) with
  | .error e => .error e
  | .ok (vs, k) => if 1024 < k then .error 2 else .ok (vs, a.toNat + k)

theorem vErr_zero {t : Ty} {v : V} (h : vErr t v = 0) : Ty.check 1 t = 0 ∧ chk 1 v = 0 ∧ Sch.of v t = true := by
  unfold vErr at h
  split at h
  · next h0 => exact absurd h h0
  · split at h
    · next h1 =>
      unfold Sch.is at h1
      simp only [Bool.and_eq_true, decide_eq_true_eq] at h1
      exact ⟨h1.1.1, h1.1.2, h1.2⟩
    · omega
theorem vErr_make {t : Ty} {v : V} (h1 : Ty.check 1 t = 0) (h2 : chk 1 v = 0) (h3 : Sch.of v t = true) : vErr t v = 0 := by
  unfold vErr
  rw [if_neg (by omega), if_pos]
  unfold Sch.is
  rw [decide_eq_true h1, decide_eq_true h2, h3]
  rfl
theorem bytes_nil : bytes [] = [] := rfl
theorem bytes_cons (v : V) (r : List V) : bytes (v :: r) = Sch.vB v ++ bytes r := rfl
theorem bytes_fix (vs : List V) : bytes (vs.map V.fix) = bytes vs := by
  unfold bytes
  rw [List.map_map]
  congr 1
  exact List.map_congr_left (fun v _ => Sch.vB_fix v)

/-- a row's bytes are read as it -/
theorem rd_put (r : List UInt8) : ∀ (s : List Col) (vs : List V), vs.length = s.length → colsErr s vs = 0 → (∀ v ∈ vs, v.wf) → rd s (bytes vs ++ r) = .ok (vs.map V.fix, (bytes vs).length)
  | [], [], _, _, _ => rfl
  | [], _ :: _, h, _, _ => by simp at h
  | _ :: _, [], h, _, _ => by simp at h
  | c :: s, v :: vs, h, he, hw => by
    have h0 : vErr c.ty v = 0 := by
      rw [colsErr] at he
      split at he
      · assumption
      · next h => exact absurd he h
    have he' : colsErr s vs = 0 := by rw [colsErr, if_pos h0] at he; exact he
    obtain ⟨h1, h2, h3⟩ := vErr_zero h0
    rw [rd, bytes_cons, List.append_assoc, Sch.rdV_put c.ty 1 v _ h1 h2 h3 (hw v (by simp))]
    dsimp only
    rw [List.drop_left, rd_put r s vs (by simpa using h) he' (fun x hx => hw x (by simp [hx]))]
    simp
/-- what is read has just these bytes -/
theorem rd_ok : ∀ (s : List Col) (l : List UInt8) (vs : List V) (k : Nat), (∀ c ∈ s, Ty.check 1 c.ty = 0) → rd s l = .ok (vs, k) → vs.length = s.length ∧ k = (bytes vs).length ∧ (∃ r, l = bytes vs ++ r) ∧ colsErr s vs = 0 ∧ ∀ v ∈ vs, V.fix v = v ∧ v.wf
  | [], l, vs, k, _, h => by
    rw [rd] at h
    injection h with h
    injection h with h1 h2
    subst h1 h2
    exact ⟨rfl, rfl, ⟨l, rfl⟩, rfl, fun v hv => by cases hv⟩
  | c :: s, l, vs, k, ht, h => by
    rw [rd] at h
    split at h
    · cases h
    · next v k1 hv =>
      split at h
      · cases h
      · next vs' j hr =>
        injection h with h
        injection h with h1 h2
        subst h1 h2
        obtain ⟨a1, ⟨r1, a2⟩, a3, a4, a5, a6⟩ := Sch.rdV_ok c.ty 1 l v k1 (ht c (by simp)) hv
        obtain ⟨b1, b2, ⟨r2, b3⟩, b4, b5⟩ := rd_ok s (l.drop k1) vs' j (fun x hx => ht x (by simp [hx])) hr
        have e1 : l.drop k1 = r1 := by rw [a2, a1, List.drop_left]
        refine ⟨by simp [b1], by rw [bytes_cons, List.length_append, a1, b2], ⟨r2, by rw [bytes_cons, List.append_assoc, ← b3, e1]; exact a2⟩, ?_, fun x hx => ?_⟩
        · rw [colsErr, if_pos (vErr_make (ht c (by simp)) a3 a4)]
          exact b4
        · rcases List.mem_cons.1 hx with rfl | hx
          · exact ⟨a5, a6⟩
          · exact b5 x hx
theorem err_open {s : List Col} {vs : List V} (h : err s vs = 0) : Sch.err s = 0 ∧ vs.length = s.length ∧ colsErr s vs = 0 ∧ (bytes vs).length ≤ 1024 := by
  unfold err at h
  split at h
  · next h0 => exact absurd h h0
  · next h0 =>
    split at h
    · omega
    · next h1 =>
      split at h
      · next h2 => exact absurd h h2
      · next h2 =>
        split at h
        · omega
        · next h3 => exact ⟨by omega, by omega, by omega, by omega⟩
theorem err_make {s : List Col} {vs : List V} (h1 : Sch.err s = 0) (h2 : vs.length = s.length) (h3 : colsErr s vs = 0) (h4 : (bytes vs).length ≤ 1024) : err s vs = 0 := by
  unfold err
  rw [if_neg (by omega), if_neg (by omega), if_neg (by omega), if_neg (by omega)]
theorem types_ok {s : List Col} (h : Sch.err s = 0) : ∀ c ∈ s, Ty.check 1 c.ty = 0 := fun c hc => by
  obtain ⟨l', h'⟩ := Sch.colsErr_mem s [] (Sch.err_open h).2.2.1 c hc
  exact (Sch.col_open h').2.2.1
/-- P8.6: there and back -/
theorem read_put {s : List Col} {vs : List V} (h : err s vs = 0) (hw : ∀ v ∈ vs, v.wf) (a r : List UInt8) : read s (a ++ (bytes vs ++ r)) (a.length : Int) = .ok (vs.map V.fix, a.length + (bytes vs).length) := by
  obtain ⟨h1, h2, h3, h4⟩ := err_open h
  unfold read
  rw [if_neg (by omega), if_neg (by rw [List.length_append]; omega), Int.toNat_natCast, List.drop_left, rd_put r s vs h2 h3 hw]
  dsimp only
  rw [if_neg (by omega)]
/-- P8.6: back and there -/
theorem read_ok {s : List Col} {l : List UInt8} {a : Int} {vs : List V} {k : Nat} (h : read s l a = .ok (vs, k)) : 0 ≤ a ∧ a ≤ l.length ∧ k = a.toNat + (bytes vs).length ∧ k ≤ l.length ∧ (l.drop a.toNat).take (bytes vs).length = bytes vs ∧ err s vs = 0 ∧ ∀ v ∈ vs, V.fix v = v ∧ v.wf := by
  unfold read at h
  split at h
  · cases h
  · next h0 =>
    split at h
    · cases h
    · next h1 =>
      split at h
      · cases h
      · next vs' j hr =>
        split at h
        · cases h
        · next h2 =>
          injection h with h
          injection h with h3 h4
          subst h3 h4
          have h0' : Sch.err s = 0 := by omega
          obtain ⟨b1, b2, ⟨r, b3⟩, b4, b5⟩ := rd_ok s _ _ _ (types_ok h0') hr
          have hlen := congrArg List.length b3
          rw [List.length_drop, List.length_append] at hlen
          refine ⟨by omega, by omega, by rw [b2], by omega, by rw [b3, List.take_left], err_make h0' b1 b4 (by omega), b5⟩
/-- P8.7 -/
theorem begins {s : List Col} {q r : List V} (hq : err s q = 0) (hr : err s r = 0) (wq : ∀ v ∈ q, v.wf) (wr : ∀ v ∈ r, v.wf) : (∃ t, bytes r = bytes q ++ t) ↔ q.map V.fix = r.map V.fix := by
  obtain ⟨_, a2, a3, _⟩ := err_open hq
  obtain ⟨_, b2, b3, _⟩ := err_open hr
  constructor
  · rintro ⟨t, ht⟩
    have h1 := rd_put t s q a2 a3 wq
    have h2 := rd_put [] s r b2 b3 wr
    rw [List.append_nil, ht] at h2
    rw [h1] at h2
    injection h2 with h2
    injection h2 with h2 _
  · intro he
    refine ⟨[], ?_⟩
    rw [List.append_nil, ← bytes_fix r, ← bytes_fix q, he]
end Rw
end Go.Proofs.Ytnlhpndjogjejaa
