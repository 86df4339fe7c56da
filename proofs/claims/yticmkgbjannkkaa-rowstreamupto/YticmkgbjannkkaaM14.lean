/- KCheck: put together. -/
import Derived.Test.YticmkgbjannkkaaM13
import Derived.Test.YticmkgbjannkkaaM05

/- Package value's fitsKind, checkContent, checkAt, Check. -/
namespace Go.Proofs.Yticmkgbjannkkaa
open Go.RowKit

attribute [local go_sem] run_store_float

theorem fixB0 : fixB 0 = 0 := by kernel_rfl
theorem natInt0 (n : Nat) : ((n : Int) == 0) = (n == 0) := by rw [Bool.eq_iff_iff, beq_iff_eq, beq_iff_eq]; omega
theorem realSame0 (b : Nat) (w : World) : Calls Try.prog 80 #[.float .f64 b, .float .f64 0] w fun e w' => e = .returned (.bool (fixB b == 0)) ∧ w' = w := by
  have h := realSame_any b 0 w
  rw [fixB0] at h
  have e1 : ((fixB b : Int) == ((0 : Nat) : Int)) = (fixB b == 0) := by
    rw [Bool.eq_iff_iff, beq_iff_eq, beq_iff_eq]
    omega
  rw [e1] at h
  exact h

set_option maxRecDepth 100000 in
set_option maxHeartbeats 1000000 in
theorem fits_1 (i : Int) (b : Nat) (t : ByteArray) (p : Option Addr) (n c : Nat) (w : World) :
    Calls Try.prog 60 #[.agg #[.int .i64 1, .int .i64 i, .float .f64 b, .string t, .slice p n c]] w fun e w' => e = .returned (.bool (V.ownB 1 i b t n)) ∧ Below w.heap.size w w' := by
  have HB : Hid (∀ o, Below w.heap.size w (w.alloc o)) := fun o => (Below.refl _ _).alloc (Nat.le_refl _) o
  go_enter Try.func60, Try.ntmps60
  go_wp2_with (go_at_call 80; refine (realSame0 _ _).mono ?_; rintro e w1 ⟨rfl, hw1⟩; rw [hw1]; clear hw1 w1)
  all_goals go_ret
  all_goals refine ⟨?_, HB.out _⟩
  all_goals simp_all [V.ownB]
  all_goals first | exact natInt0 n | (intros; omega)

set_option maxRecDepth 100000 in
set_option maxHeartbeats 1000000 in
theorem fits_2 (i : Int) (b : Nat) (t : ByteArray) (p : Option Addr) (n c : Nat) (w : World) :
    Calls Try.prog 60 #[.agg #[.int .i64 2, .int .i64 i, .float .f64 b, .string t, .slice p n c]] w fun e w' => e = .returned (.bool (V.ownB 2 i b t n)) ∧ Below w.heap.size w w' := by
  have HB : Hid (∀ o, Below w.heap.size w (w.alloc o)) := fun o => (Below.refl _ _).alloc (Nat.le_refl _) o
  go_enter Try.func60, Try.ntmps60
  go_wp2_with (go_at_call 80; refine (realSame0 _ _).mono ?_; rintro e w1 ⟨rfl, hw1⟩; rw [hw1]; clear hw1 w1)
  all_goals go_ret
  all_goals refine ⟨?_, HB.out _⟩
  all_goals simp_all [V.ownB]
  all_goals first | exact natInt0 n | (intros; omega)

set_option maxRecDepth 100000 in
set_option maxHeartbeats 1000000 in
theorem fits_3 (i : Int) (b : Nat) (t : ByteArray) (p : Option Addr) (n c : Nat) (w : World) :
    Calls Try.prog 60 #[.agg #[.int .i64 3, .int .i64 i, .float .f64 b, .string t, .slice p n c]] w fun e w' => e = .returned (.bool (V.ownB 3 i b t n)) ∧ Below w.heap.size w w' := by
  have HB : Hid (∀ o, Below w.heap.size w (w.alloc o)) := fun o => (Below.refl _ _).alloc (Nat.le_refl _) o
  go_enter Try.func60, Try.ntmps60
  go_wp2_with (go_at_call 80; refine (realSame0 _ _).mono ?_; rintro e w1 ⟨rfl, hw1⟩; rw [hw1]; clear hw1 w1)
  all_goals go_ret
  all_goals refine ⟨?_, HB.out _⟩
  all_goals simp_all [V.ownB, fixB0]
  all_goals first | exact natInt0 n | (intros; omega)

set_option maxRecDepth 100000 in
set_option maxHeartbeats 1000000 in
theorem fits_4 (i : Int) (b : Nat) (t : ByteArray) (p : Option Addr) (n c : Nat) (w : World) :
    Calls Try.prog 60 #[.agg #[.int .i64 4, .int .i64 i, .float .f64 b, .string t, .slice p n c]] w fun e w' => e = .returned (.bool (V.ownB 4 i b t n)) ∧ Below w.heap.size w w' := by
  have HB : Hid (∀ o, Below w.heap.size w (w.alloc o)) := fun o => (Below.refl _ _).alloc (Nat.le_refl _) o
  go_enter Try.func60, Try.ntmps60
  go_wp2_with (go_at_call 80; refine (realSame0 _ _).mono ?_; rintro e w1 ⟨rfl, hw1⟩; rw [hw1]; clear hw1 w1)
  all_goals go_ret
  all_goals refine ⟨?_, HB.out _⟩
  all_goals simp_all [V.ownB]
  all_goals first | exact natInt0 n | (intros; omega)

set_option maxRecDepth 100000 in
set_option maxHeartbeats 1000000 in
theorem fits_5 (i : Int) (b : Nat) (t : ByteArray) (p : Option Addr) (n c : Nat) (w : World) :
    Calls Try.prog 60 #[.agg #[.int .i64 5, .int .i64 i, .float .f64 b, .string t, .slice p n c]] w fun e w' => e = .returned (.bool (V.ownB 5 i b t n)) ∧ Below w.heap.size w w' := by
  have HB : Hid (∀ o, Below w.heap.size w (w.alloc o)) := fun o => (Below.refl _ _).alloc (Nat.le_refl _) o
  go_enter Try.func60, Try.ntmps60
  go_wp2_with (go_at_call 80; refine (realSame0 _ _).mono ?_; rintro e w1 ⟨rfl, hw1⟩; rw [hw1]; clear hw1 w1)
  all_goals go_ret
  all_goals refine ⟨?_, HB.out _⟩
  all_goals simp_all [V.ownB]
  all_goals first | exact natInt0 n | (intros; omega)

set_option maxRecDepth 100000 in
set_option maxHeartbeats 1000000 in
theorem fits_6 (i : Int) (b : Nat) (t : ByteArray) (p : Option Addr) (n c : Nat) (w : World) :
    Calls Try.prog 60 #[.agg #[.int .i64 6, .int .i64 i, .float .f64 b, .string t, .slice p n c]] w fun e w' => e = .returned (.bool (V.ownB 6 i b t n)) ∧ Below w.heap.size w w' := by
  have HB : Hid (∀ o, Below w.heap.size w (w.alloc o)) := fun o => (Below.refl _ _).alloc (Nat.le_refl _) o
  go_enter Try.func60, Try.ntmps60
  go_wp2_with (go_at_call 80; refine (realSame0 _ _).mono ?_; rintro e w1 ⟨rfl, hw1⟩; rw [hw1]; clear hw1 w1)
  all_goals go_ret
  all_goals refine ⟨?_, HB.out _⟩
  all_goals simp_all [V.ownB]
  all_goals first | exact natInt0 n | (intros; omega)

set_option maxRecDepth 100000 in
set_option maxHeartbeats 1000000 in
theorem fits_7 (i : Int) (b : Nat) (t : ByteArray) (p : Option Addr) (n c : Nat) (w : World) :
    Calls Try.prog 60 #[.agg #[.int .i64 7, .int .i64 i, .float .f64 b, .string t, .slice p n c]] w fun e w' => e = .returned (.bool (V.ownB 7 i b t n)) ∧ Below w.heap.size w w' := by
  have HB : Hid (∀ o, Below w.heap.size w (w.alloc o)) := fun o => (Below.refl _ _).alloc (Nat.le_refl _) o
  go_enter Try.func60, Try.ntmps60
  go_wp2_with (go_at_call 80; refine (realSame0 _ _).mono ?_; rintro e w1 ⟨rfl, hw1⟩; rw [hw1]; clear hw1 w1)
  all_goals go_ret
  all_goals refine ⟨?_, HB.out _⟩
  all_goals simp_all [V.ownB]

set_option maxRecDepth 100000 in
set_option maxHeartbeats 1000000 in
theorem fits_out (k : Int) (hk : k < 1 ∨ 7 < k) (i : Int) (b : Nat) (t : ByteArray) (p : Option Addr) (n c : Nat) (w : World) :
    Calls Try.prog 60 #[.agg #[.int .i64 k, .int .i64 i, .float .f64 b, .string t, .slice p n c]] w fun e w' => e = .returned (.bool (V.ownB k i b t n)) ∧ Below w.heap.size w w' := by
  have HB : Hid (∀ o, Below w.heap.size w (w.alloc o)) := fun o => (Below.refl _ _).alloc (Nat.le_refl _) o
  have h1 : ¬ k = 1 := by omega
  have h2 : ¬ k = 2 := by omega
  have h3 : ¬ k = 3 := by omega
  have h4 : ¬ k = 4 := by omega
  have h5 : ¬ k = 5 := by omega
  have h6 : ¬ k = 6 := by omega
  have h7 : ¬ k = 7 := by omega
  go_enter Try.func60, Try.ntmps60
  go_wp2_with (go_at_call 80; refine (realSame0 _ _).mono ?_; rintro e w1 ⟨rfl, hw1⟩; rw [hw1]; clear hw1 w1)
  all_goals go_ret
  all_goals refine ⟨?_, HB.out _⟩
  all_goals simp_all [V.ownB]
  all_goals first | exact natInt0 n | (intros; omega)

theorem fitsK (k i : Int) (b : Nat) (t : ByteArray) (p : Option Addr) (n c : Nat) (w : World) :
    Calls Try.prog 60 #[.agg #[.int .i64 k, .int .i64 i, .float .f64 b, .string t, .slice p n c]] w fun e w' => e = .returned (.bool (V.ownB k i b t n)) ∧ Below w.heap.size w w' := by
  by_cases hk : k < 1 ∨ 7 < k
  · exact fits_out k hk i b t p n c w
  · rcases (show k = 1 ∨ k = 2 ∨ k = 3 ∨ k = 4 ∨ k = 5 ∨ k = 6 ∨ k = 7 by omega) with rfl | rfl | rfl | rfl | rfl | rfl | rfl
    · exact fits_1 i b t p n c w
    · exact fits_2 i b t p n c w
    · exact fits_3 i b t p n c w
    · exact fits_4 i b t p n c w
    · exact fits_5 i b t p n c w
    · exact fits_6 i b t p n c w
    · exact fits_7 i b t p n c w

/-- what a value's own content is refused for -/
def cont (k : Int) (t : ByteArray) (n : Nat) : Nat := if 1024 < t.size then 2 else if 256 < n then 3 else if k = 4 ∧ utfT t = false then 61 else 0

set_option maxRecDepth 100000 in
set_option maxHeartbeats 1000000 in
theorem contK (k i : Int) (b : Nat) (t : ByteArray) (p : Option Addr) (n c : Nat) (w : World) :
    Calls Try.prog 61 #[.agg #[.int .i64 k, .int .i64 i, .float .f64 b, .string t, .slice p n c]] w fun e w' => e = .returned (.int .i64 (cont k t n : Nat)) ∧ Below w.heap.size w w' := by
  have HB : Hid (∀ o, Below w.heap.size w (w.alloc o)) := fun o => (Below.refl _ _).alloc (Nat.le_refl _) o
  by_cases h2 : 1024 < t.size
  · have g2 : (1024 : Int) < (t.size : Int) := by omega
    have HR : Hid (cont k t n = 2) := by show _ = _; rw [cont, if_pos h2]
    go_enter Try.func61, Try.ntmps61
    go_wp2
    go_ret
    exact ⟨by rw [HR.out]; rfl, HB.out _⟩
  have g2 : ¬ (1024 : Int) < (t.size : Int) := by omega
  by_cases h3 : 256 < n
  · have g3 : (256 : Int) < (n : Int) := by omega
    have HR : Hid (cont k t n = 3) := by show _ = _; rw [cont, if_neg h2, if_pos h3]
    go_enter Try.func61, Try.ntmps61
    go_wp2
    go_ret
    exact ⟨by rw [HR.out]; rfl, HB.out _⟩
  have g3 : ¬ (256 : Int) < (n : Int) := by omega
  by_cases h4 : k = 4
  · have hk4 : (k == 4) = true := beq_t h4
    have HU := Lib.hid (fun w => utfK t (by omega) w)
    obtain ⟨r, hr⟩ : ∃ r, r = utfT t := ⟨_, rfl⟩
    rw [← hr] at HU
    have HR : Hid (cont k t n = if r = false then 61 else 0) := by
      show _ = _
      rw [cont, if_neg h2, if_neg h3, ← hr]
      simp only [h4, true_and]
    clear hr
    go_enter Try.func61, Try.ntmps61
    go_wp2_with fail
    refine (HU.out _).mono ?_
    rintro e w1 ⟨rfl, hb1⟩
    have HB1 := Lib.hid ((HB.out _).trans (hb1.mono (HB.out _).size))
    clear hb1
    cases r
    all_goals
      go_wp2
      go_ret
      exact ⟨by rw [HR.out]; rfl, HB1.out⟩
  · have hk4 : (k == 4) = false := beq_f h4
    have HR : Hid (cont k t n = 0) := by show _ = _; rw [cont, if_neg h2, if_neg h3, if_neg (fun hc => h4 hc.1)]
    go_enter Try.func61, Try.ntmps61
    go_wp2
    go_ret
    exact ⟨by rw [HR.out]; rfl, HB.out _⟩

theorem chk_cont (d : Nat) (k i : Int) (b : Nat) (t : ByteArray) (xs : List V) : chk d (.mk k i b t xs) = if 4 < d then 62 else if V.ownB k i b t xs.length = false then 60 else if cont k t xs.length = 0 then chkL (d + 1) xs else cont k t xs.length := by
  rw [chk_mk]
  unfold cont
  by_cases h1 : 4 < d
  · rw [if_pos h1, if_pos h1]
  rw [if_neg h1, if_neg h1]
  by_cases h2 : V.ownB k i b t xs.length = false
  · rw [if_pos h2, if_pos h2]
  rw [if_neg h2, if_neg h2]
  by_cases h3 : 1024 < t.size
  · rw [if_pos h3, if_pos h3]; rfl
  rw [if_neg h3, if_neg h3]
  by_cases h4 : 256 < xs.length
  · rw [if_pos h4, if_pos h4]; rfl
  rw [if_neg h4, if_neg h4]
  by_cases h5 : k = 4 ∧ utfT t = false
  · rw [if_pos h5, if_pos h5]; rfl
  rw [if_neg h5, if_neg h5, if_pos rfl]

set_option maxRecDepth 100000 in
set_option maxHeartbeats 1000000 in
theorem checkAtK : ∀ (x : V) (d : Nat) (w : World) (u : Array Value), d ≤ 5 → VLies w u x → Calls Try.prog 41 #[.agg u, .int .i64 d] w fun e w' => e = .returned (.int .i64 (chk d x : Nat)) ∧ Below w.heap.size w w' := by
  intro x
  refine V.ind (P := fun x => ∀ (d : Nat) (w : World) (u : Array Value), d ≤ 5 → VLies w u x → Calls Try.prog 41 #[.agg u, .int .i64 d] w fun e w' => e = .returned (.int .i64 (chk d x : Nat)) ∧ Below w.heap.size w w') ?_ x
  rintro k i b t xs ih d w u hd hx
  obtain ⟨p, c, rfl, hxl, hxc, hxi⟩ := hx.open
  unfold cells5
  have hB1 : Below w.heap.size w (w.alloc (.cells #[.int .i64 k, .int .i64 i, .float .f64 b, .string t, .slice p xs.length c] 53)) := (Below.refl _ _).alloc (Nat.le_refl _) _
  have HB1 := Lib.hid hB1
  clear hB1 hx
  have HCk := Lib.hid (chk_cont d k i b t xs)
  obtain ⟨R, hR⟩ : ∃ R, R = chk d (.mk k i b t xs) := ⟨_, rfl⟩
  rw [← hR] at HCk ⊢
  clear hR
  by_cases h1 : 4 < d
  · have g1 : (4 : Int) < (d : Int) := by omega
    have HR : Hid (R = 62) := by show _ = _; rw [HCk.out, if_pos h1]
    clear ih hxi HCk
    go_enter Try.func41, Try.ntmps41
    go_wp2
    go_ret
    exact ⟨by rw [HR.out]; rfl, HB1.out⟩
  have g1 : ¬ (4 : Int) < (d : Int) := by omega
  have HO := Lib.hid (fitsK k i b t p xs.length c (w.alloc (.cells #[.int .i64 k, .int .i64 i, .float .f64 b, .string t, .slice p xs.length c] 53)))
  have HCo := Lib.hid (contK k i b t p xs.length c)
  obtain ⟨r, hr⟩ : ∃ r, r = V.ownB k i b t xs.length := ⟨_, rfl⟩
  rw [← hr] at HO HCk
  clear hr
  obtain ⟨s, hs⟩ : ∃ s, s = cont k t xs.length := ⟨_, rfl⟩
  rw [← hs] at HCo HCk
  clear hs
  have hsz : w.heap.size < (w.alloc (.cells #[.int .i64 k, .int .i64 i, .float .f64 b, .string t, .slice p xs.length c] 53)).heap.size := by simp
  have y0 : (w.alloc (.cells #[.int .i64 k, .int .i64 i, .float .f64 b, .string t, .slice p xs.length c] 53)).cell? ⟨w.heap.size, 0, none⟩ = some (.int .i64 k) := by simp
  have y1 : (w.alloc (.cells #[.int .i64 k, .int .i64 i, .float .f64 b, .string t, .slice p xs.length c] 53)).cell? ⟨w.heap.size, 1, none⟩ = some (.int .i64 i) := by simp
  have y2 : (w.alloc (.cells #[.int .i64 k, .int .i64 i, .float .f64 b, .string t, .slice p xs.length c] 53)).cell? ⟨w.heap.size, 2, none⟩ = some (.float .f64 b) := by simp
  have y3 : (w.alloc (.cells #[.int .i64 k, .int .i64 i, .float .f64 b, .string t, .slice p xs.length c] 53)).cell? ⟨w.heap.size, 3, none⟩ = some (.string t) := by simp
  have y4 : (w.alloc (.cells #[.int .i64 k, .int .i64 i, .float .f64 b, .string t, .slice p xs.length c] 53)).cell? ⟨w.heap.size, 4, none⟩ = some (.slice p xs.length c) := by simp
  have Y := Lib.hid (And.intro y0 (And.intro y1 (And.intro y2 (And.intro y3 y4))))
  clear y0 y1 y2 y3 y4
  have HX : Hid (∀ j (hj : j < xs.length), ∃ u', VLies w u' xs[j] ∧ Item w p j u') := hxi
  have HIH := Lib.hid ih
  clear ih hxi
  go_enter Try.func41, Try.ntmps41
  go_wp2_with fail
  refine HO.out.mono ?_
  rintro e w2 ⟨rfl, hb2⟩
  have c0 := cell_on hb2 Y.out.1
  have c1 := cell_on hb2 Y.out.2.1
  have c2 := cell_on hb2 Y.out.2.2.1
  have c3 := cell_on hb2 Y.out.2.2.2.1
  have c4 := cell_on hb2 Y.out.2.2.2.2
  have HB2 := Lib.hid (HB1.out.trans (hb2.mono HB1.out.size))
  have hs2 : w.heap.size < w2.heap.size := by have := hb2.size; omega
  clear hb2 HO Y HB1 hsz
  cases r with
  | false =>
    have HR : Hid (R = 60) := by show _ = _; rw [HCk.out, if_neg h1, if_pos rfl]
    clear HCk
    go_wp2
    go_ret
    exact ⟨by rw [HR.out]; rfl, HB2.out⟩
  | true =>
    have HR2 : Hid (R = if s = 0 then chkL (d + 1) xs else s) := by show _ = _; rw [HCk.out, if_neg h1, if_neg (by simp)]
    clear HCk
    go_wp2_with fail
    refine (HCo.out _).mono ?_
    rintro e w3 ⟨rfl, hb3⟩
    have n4 := cell_on hb3 c4
    have HB3 := Lib.hid (HB2.out.trans (hb3.mono HB2.out.size))
    have hs3 : w.heap.size < w3.heap.size := by have := hb3.size; omega
    clear hb3 HCo HB2 c0 c1 c2 c3 c4
    by_cases hs0 : ¬ s = 0
    · have hsb : ((s : Int) != 0) = true := by rw [bne_iff_ne]; omega
      have HR : Hid (R = s) := by show _ = _; rw [HR2.out, if_neg hs0]
      clear HR2
      go_wp2
      go_ret
      exact ⟨by rw [HR.out]; rfl, HB3.out⟩
    replace hs0 : s = 0 := Classical.not_not.1 hs0
    have hsb : ((s : Int) != 0) = false := by rw [hs0]; rfl
    have HR : Hid (R = chkL (d + 1) xs) := by show _ = _; rw [HR2.out, if_pos hs0]
    clear HR2
    -- the items, from any world behind
    have HC : Hid (∀ j (hj : j < xs.length) w', Below w.heap.size w w' → ∀ u', VLies w u' xs[j] → Calls Try.prog 41 #[.agg u', .int .i64 ((d + 1 : Nat) : Int)] w' fun e w'' => e = .returned (.int .i64 (chk (d + 1) xs[j] : Nat)) ∧ Below w'.heap.size w' w'') :=
      fun j hj w' hb u' hv => HIH.out _ (List.getElem_mem hj) (d + 1) w' u' (by omega) (hv.on hb)
    clear HIH
    go_wp2_with fail
    go_loopw [22] (fun v22 wr => ∃ j : Nat, j ≤ xs.length ∧ v22 = .int .i64 j ∧ Hid (Below w3.heap.size w3 wr ∧ ∀ m (h1 : m < xs.length), m < j → chk (d + 1) xs[m] = 0)) (fun v22 _ => xs.length - (intOf v22).toNat)
    case atStart => exact ⟨0, by omega, rfl, Below.refl _ _, fun m _ h => by omega⟩
    case round =>
      obtain ⟨j, hj, rfl, HL⟩ := hrel
      have hbw : Below w.heap.size w wr := HB3.out.trans (HL.out.1.mono (by omega))
      by_cases hlt : j < xs.length
      · obtain ⟨ux, hvx, hix⟩ := HX.out j hlt
        obtain ⟨bx, ox, kx, ix, fx, tx, qx, nx, cx, rfl, _, rfl, a0, a1, a2, a3, a4⟩ := (hix.on hbw).lies
        have HBa : Hid (∀ o, Below wr.heap.size wr (wr.alloc o)) := fun o => (Below.refl _ _).alloc (Nat.le_refl _) o
        have HCj : Hid (∀ w', Below wr.heap.size wr w' → Calls Try.prog 41 #[.agg #[.int .i64 kx, .int .i64 ix, .float .f64 fx, .string tx, .slice qx nx cx], .int .i64 ((d + 1 : Nat) : Int)] w' fun e w'' => e = .returned (.int .i64 (chk (d + 1) xs[j] : Nat)) ∧ Below w'.heap.size w' w'') := fun w' hb => HC.out j hlt w' (hbw.trans (hb.mono hbw.size)) _ hvx
        have hj1 : (j : Int) < (xs.length : Int) := by omega
        obtain ⟨z, hz⟩ : ∃ z, z = chk (d + 1) xs[j] := ⟨_, rfl⟩
        rw [← hz] at HCj
        have HZz := Lib.hid hz
        have HBw := Lib.hid hbw
        clear hvx hix hz hbw
        go_wp2_with fail
        refine (HCj.out _ (HBa.out _)).mono ?_
        rintro e w4 ⟨rfl, hb4⟩
        have HB4 := Lib.hid ((HBa.out _).trans (hb4.mono (HBa.out _).size))
        clear hb4 a0 a1 a2 a3 a4 HCj HBa
        by_cases hz0 : z = 0
        · have hzb : ((z : Int) != 0) = false := by rw [hz0]; rfl
          have HN : Hid (Below w3.heap.size w3 w4 ∧ ∀ m (h1 : m < xs.length), m < j + 1 → chk (d + 1) xs[m] = 0) := by
            refine ⟨HL.out.1.trans (HB4.out.mono HL.out.1.size), fun m h1 hm => ?_⟩
            by_cases hmj : m = j
            · subst hmj; rw [← HZz.out]; exact hz0
            · exact HL.out.2 m h1 (by omega)
          clear HL HB4 HZz hz0
          go_wp2
          go_roundw
          case rel => exact ⟨j + 1, by omega, by go_num, HN⟩
          case measure => simp [intOf]; omega
        · have hzb : ((z : Int) != 0) = true := by rw [bne_iff_ne]; omega
          have HRz : Hid (R = z) := by
            show _ = _
            rw [HR.out, HZz.out]
            exact chkL_at (d + 1) xs j hlt (fun m h hm => HL.out.2 m h hm) (by rw [← HZz.out]; exact hz0)
          have HF := Lib.hid (HBw.out.trans (HB4.out.mono HBw.out.size))
          clear HL HB4 HZz hz0 HR
          go_wp2
          go_ret
          exact ⟨by rw [HRz.out]; rfl, HF.out⟩
      · have hjn : ¬ (j : Int) < (xs.length : Int) := by omega
        have HRz : Hid (R = 0) := by
          show _ = _
          rw [HR.out]
          exact chkL_all (d + 1) xs (fun m h => HL.out.2 m h (by omega))
        have HF := Lib.hid hbw
        clear HL hbw hlt HR
        go_wp2
        go_ret
        exact ⟨by rw [HRz.out]; rfl, HF.out⟩

set_option maxHeartbeats 400000 in
theorem checkK (x : V) (w : World) (u : Array Value) (h : VLies w u x) : Calls Try.prog 29 #[.agg u] w fun e w' => e = .returned (.int .i64 (chk 1 x : Nat)) ∧ Below w.heap.size w w' := by
  obtain ⟨k, i, b, t, xs⟩ := x
  obtain ⟨p, c, rfl, -⟩ := h.open
  have hB1 : Below w.heap.size w (w.alloc (.cells (cells5 k i b t p xs.length c) 53)) := (Below.refl _ _).alloc (Nat.le_refl _) _
  have HB1 := Lib.hid hB1
  have HC := Lib.hid (checkAtK _ 1 _ _ (by omega) (h.on hB1))
  clear hB1 h
  obtain ⟨R, hR⟩ : ∃ R, R = chk 1 (.mk k i b t xs) := ⟨_, rfl⟩
  rw [← hR] at HC ⊢
  clear hR
  unfold cells5 at HC HB1 ⊢
  go_enter Try.func29, Try.ntmps29
  go_wp2_with fail
  refine HC.out.mono ?_
  rintro e w2 ⟨rfl, hb2⟩
  have HB2 := Lib.hid (HB1.out.trans (hb2.mono HB1.out.size))
  clear hb2
  go_wp2
  go_ret
  exact ⟨rfl, HB2.out⟩
end Go.Proofs.Yticmkgbjannkkaa
