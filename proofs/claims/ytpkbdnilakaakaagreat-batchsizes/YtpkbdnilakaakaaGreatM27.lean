/- K7A, K7B, K7C, K7D: put together. -/
import Derived.Test.YtpkbdnilakaakaaGreatM14
import Derived.Test.YtpkbdnilakaakaaGreatM15
import Derived.Test.YtpkbdnilakaakaaGreatM05
import Derived.Test.YtpkbdnilakaakaaGreatM19
import Derived.Test.YtpkbdnilakaakaaGreatM20

/- The landed schema: ofCount, checkTypeAt, CheckType, isLetter, isDigit, Name. -/
namespace Go.Proofs.YtpkbdnilakaakaaGreat
open Go.RowKit

set_option maxHeartbeats 400000 in
theorem ofCountK (k : Int) (w : World) : Calls Tryz.prog 144 #[.int .i64 k] w fun e w' => e = .returned (.int .i64 (Ty.want k : Nat)) ∧ w' = w := by
  by_cases h6 : k = 6
  · have e6 : (k == 6) = true := beq_t h6
    have HW : Hid (Ty.want k = 1) := by show _ = _; unfold Ty.want; rw [if_pos (.inl h6)]
    clear h6
    go_enter Tryz.func144, Tryz.ntmps144
    go_wp2
    go_ret
    exact ⟨by rw [HW.out]; rfl, rfl⟩
  have e6 : (k == 6) = false := beq_f h6
  by_cases h7 : k = 7
  · have e7 : (k == 7) = true := beq_t h7
    have HW : Hid (Ty.want k = 1) := by show _ = _; unfold Ty.want; rw [if_pos (.inr h7)]
    clear h6 h7
    go_enter Tryz.func144, Tryz.ntmps144
    go_wp2
    go_ret
    exact ⟨by rw [HW.out]; rfl, rfl⟩
  have e7 : (k == 7) = false := beq_f h7
  have HW : Hid (Ty.want k = 0) := by show _ = _; unfold Ty.want; rw [if_neg (by omega)]
  clear h6 h7
  go_enter Tryz.func144, Tryz.ntmps144
  go_wp2
  go_ret
  exact ⟨by rw [HW.out]; rfl, rfl⟩

set_option maxRecDepth 100000 in
set_option maxHeartbeats 1000000 in
theorem checkTypeAtK : ∀ (x : Ty) (d : Nat) (w : World) (u : Array Value), d ≤ 5 → TLies w u x → Calls Tryz.prog 135 #[.agg u, .int .i64 d] w fun e w' => e = .returned (.int .i64 (Ty.check d x : Nat)) ∧ Below w.heap.size w w' := by
  intro x
  refine Ty.ind (P := fun x => ∀ (d : Nat) (w : World) (u : Array Value), d ≤ 5 → TLies w u x → Calls Tryz.prog 135 #[.agg u, .int .i64 d] w fun e w' => e = .returned (.int .i64 (Ty.check d x : Nat)) ∧ Below w.heap.size w w') ?_ x
  rintro k xs ih d w u hd hx
  obtain ⟨p, c, rfl, hxl, hxc, hxi⟩ := hx.open
  unfold cells2
  have hB1 : Below w.heap.size w (w.alloc (.cells #[.int .i64 k, .slice p xs.length c] 67)) := (Below.refl _ _).alloc (Nat.le_refl _) _
  have HB1 := Lib.hid hB1
  clear hB1 hx
  obtain ⟨R, hR⟩ : ∃ R, R = Ty.check d (.mk k xs) := ⟨_, rfl⟩
  have HCk := Lib.hid (hR.trans (Ty.check_mk d k xs))
  rw [← hR]
  clear hR
  by_cases h1 : 4 < d
  · have g1 : (4 : Int) < (d : Int) := by omega
    have HR : Hid (R = 62) := by show _ = _; rw [HCk.out, if_pos h1]
    clear ih hxi HCk
    go_enter Tryz.func135, Tryz.ntmps135
    go_wp2
    go_ret
    exact ⟨by rw [HR.out]; rfl, HB1.out⟩
  have g1 : ¬ (4 : Int) < (d : Int) := by omega
  by_cases h2 : k < 1
  · have HR : Hid (R = 60) := by show _ = _; rw [HCk.out, if_neg h1, if_pos (by omega)]
    have q2 : decide (k < 1) = true := decide_eq_true h2
    clear ih hxi HCk
    go_enter Tryz.func135, Tryz.ntmps135
    go_wp2_with fail
    go_quiet (fail)
    go_wp2
    go_ret
    exact ⟨by rw [HR.out]; rfl, below_drewN HB1.out _⟩
  have q2 : decide (k < 1) = false := decide_eq_false h2
  by_cases h3 : 7 < k
  · have HR : Hid (R = 60) := by show _ = _; rw [HCk.out, if_neg h1, if_pos (by omega)]
    have q3 : decide (7 < k) = true := decide_eq_true h3
    clear ih hxi HCk
    go_enter Tryz.func135, Tryz.ntmps135
    go_wp2_with fail
    go_quiet (fail)
    go_wp2
    go_ret
    exact ⟨by rw [HR.out]; rfl, below_drewN HB1.out _⟩
  have q3 : decide (7 < k) = false := decide_eq_false h3
  have HO : Hid (∀ w, Calls Tryz.prog 144 #[.int .i64 k] w fun e w' => e = .returned (.int .i64 (Ty.want k : Nat)) ∧ ∃ n, w' = w.drewN n) := fun w => (ofCountK k w).mono fun _ _ ⟨h1, h2⟩ => ⟨h1, 0, h2⟩
  obtain ⟨n, hn⟩ : ∃ n, n = Ty.want k := ⟨_, rfl⟩
  have HN := Lib.hid hn
  rw [← hn] at HO HCk
  clear hn
  by_cases h4 : xs.length = n
  · have gl : ((xs.length : Int) != (n : Int)) = false := bne_f (by omega)
    by_cases hl0 : xs.length = 0
    · have gz : ((xs.length : Int) == 0) = true := beq_t (by omega)
      have HR : Hid (R = 0) := by
        show _ = _
        have hx0 : xs = [] := List.eq_nil_of_length_eq_zero hl0
        subst hx0
        rw [HCk.out, if_neg h1, if_neg (by omega)]
        rfl
      clear ih hxi HCk hl0 h4
      go_enter Tryz.func135, Tryz.ntmps135
      go_wp2_with fail
      go_quiet (first | (go_at_call 144; exact Calls.quiet_of (HO.out _)))
      go_wp2
      go_ret
      exact ⟨by rw [HR.out]; rfl, below_drewN HB1.out _⟩
    · have gz : ((xs.length : Int) == 0) = false := beq_f (by omega)
      have hl1 : xs.length = 1 := by
        have := HN.out
        unfold Ty.want at this
        split at this <;> omega
      have HX : Hid (∀ j (hj : j < xs.length), ∃ u', TLies w u' xs[j] ∧ ItemT w p j u') := hxi
      have HIH := Lib.hid ih
      obtain ⟨ux, hvx, hix⟩ := HX.out 0 (by omega)
      obtain ⟨bx, ox, kx, qx, nx, cx, rfl, _, rfl, a0, a1⟩ := (hix.on HB1.out).lies
      rw [Nat.zero_mul, Nat.add_zero] at a0 a1
      have hR1 : R = Ty.check (d + 1) (xs[0]'(by omega)) := by
        obtain ⟨y, rfl⟩ := List.length_eq_one_iff.1 hl1
        rw [HCk.out]
        have := Ty.check_one d k y h1 (by omega) (by rw [← HN.out]; simp at h4; omega)
        rw [Ty.check_mk, ← HN.out] at this
        exact this
      have HC := Lib.hid (fun n => HIH.out _ (List.getElem_mem (by omega : 0 < xs.length)) (d + 1) _ _ (by omega) (hvx.on (below_drewN HB1.out n)))
      rw [← hR1] at HC
      unfold cells2 at HC
      have hlp : (0 : Int) < (xs.length : Int) := by omega
      clear hR1 HX HIH hvx hix HCk ih hxi hl1 hl0 h4
      go_enter Tryz.func135, Tryz.ntmps135
      go_wp2_with fail
      go_quiet (first | (go_at_call 144; exact Calls.quiet_of (HO.out _)))
      go_wp2_with fail
      refine (HC.out nq).mono ?_
      rintro e w2 ⟨rfl, hb2⟩
      have HB2 := Lib.hid ((below_drewN HB1.out nq).trans (hb2.mono (below_drewN HB1.out nq).size))
      clear hb2
      go_wp2
      go_ret
      exact ⟨rfl, HB2.out⟩
  · have gl : ((xs.length : Int) != (n : Int)) = true := bne_t (by omega)
    have HR : Hid (R = 60) := by show _ = _; rw [HCk.out, if_neg h1, if_pos (by omega)]
    clear ih hxi HCk h4
    go_enter Tryz.func135, Tryz.ntmps135
    go_wp2_with fail
    go_quiet (first | (go_at_call 144; exact Calls.quiet_of (HO.out _)))
    go_wp2
    go_ret
    exact ⟨by rw [HR.out]; rfl, below_drewN HB1.out _⟩

set_option maxHeartbeats 400000 in
theorem checkTypeK (x : Ty) (w : World) (u : Array Value) (h : TLies w u x) : Calls Tryz.prog 114 #[.agg u] w fun e w' => e = .returned (.int .i64 (Ty.check 1 x : Nat)) ∧ Below w.heap.size w w' := by
  obtain ⟨k, xs⟩ := x
  obtain ⟨p, c, rfl, -⟩ := h.open
  have hB1 : Below w.heap.size w (w.alloc (.cells (cells2 k p xs.length c) 67)) := (Below.refl _ _).alloc (Nat.le_refl _) _
  have HB1 := Lib.hid hB1
  have HC := Lib.hid (checkTypeAtK _ 1 _ _ (by omega) (h.on hB1))
  clear hB1 h
  obtain ⟨R, hR⟩ : ∃ R, R = Ty.check 1 (.mk k xs) := ⟨_, rfl⟩
  rw [← hR] at HC ⊢
  clear hR
  unfold cells2 at HC HB1 ⊢
  go_enter Tryz.func114, Tryz.ntmps114
  go_wp2_with fail
  refine HC.out.mono ?_
  rintro e w2 ⟨rfl, hb2⟩
  have HB2 := Lib.hid (HB1.out.trans (hb2.mono HB1.out.size))
  clear hb2
  go_wp2
  go_ret
  exact ⟨rfl, HB2.out⟩

/-- a digit -/
def dig (c : UInt8) : Bool := decide (48 ≤ c.toNat ∧ c.toNat ≤ 57)
theorem ch_eq (c : UInt8) : Sch.ch c = (Sch.low c || dig c || decide (c.toNat = 95)) := rfl
set_option maxHeartbeats 400000 in
theorem isLetterK (c : UInt8) (w : World) : Calls Tryz.prog 136 #[.int .u8 c.toNat] w fun e w' => e = .returned (.bool (Sch.low c)) ∧ w' = w := by
  by_cases h1 : c.toNat < 97
  · have g1 : ¬ (97 : Int) ≤ (c.toNat : Int) := by omega
    have g2 : (c.toNat : Int) < 97 := by omega
    have HE : Hid (Sch.low c = false) := by show _ = _; unfold Sch.low; rw [decide_eq_false (by omega)]
    clear h1
    go_enter Tryz.func136, Tryz.ntmps136
    go_wp2
    go_ret
    exact ⟨by rw [HE.out]; rfl, rfl⟩
  have g1 : (97 : Int) ≤ (c.toNat : Int) := by omega
  have g2 : ¬ (c.toNat : Int) < 97 := by omega
  by_cases h2 : c.toNat ≤ 122
  · have g3 : (c.toNat : Int) ≤ 122 := by omega
    have g4 : ¬ (122 : Int) < (c.toNat : Int) := by omega
    have HE : Hid (Sch.low c = true) := by show _ = _; unfold Sch.low; rw [decide_eq_true (by omega)]
    clear h1 h2
    go_enter Tryz.func136, Tryz.ntmps136
    go_wp2
    go_ret
    exact ⟨by rw [HE.out]; rfl, rfl⟩
  · have g3 : ¬ (c.toNat : Int) ≤ 122 := by omega
    have g4 : (122 : Int) < (c.toNat : Int) := by omega
    have HE : Hid (Sch.low c = false) := by show _ = _; unfold Sch.low; rw [decide_eq_false (by omega)]
    clear h1 h2
    go_enter Tryz.func136, Tryz.ntmps136
    go_wp2
    go_ret
    exact ⟨by rw [HE.out]; rfl, rfl⟩
set_option maxHeartbeats 400000 in
theorem isDigitK (c : UInt8) (w : World) : Calls Tryz.prog 137 #[.int .u8 c.toNat] w fun e w' => e = .returned (.bool (dig c)) ∧ w' = w := by
  by_cases h1 : c.toNat < 48
  · have g1 : ¬ (48 : Int) ≤ (c.toNat : Int) := by omega
    have g2 : (c.toNat : Int) < 48 := by omega
    have HE : Hid (dig c = false) := by show _ = _; unfold dig; rw [decide_eq_false (by omega)]
    clear h1
    go_enter Tryz.func137, Tryz.ntmps137
    go_wp2
    go_ret
    exact ⟨by rw [HE.out]; rfl, rfl⟩
  have g1 : (48 : Int) ≤ (c.toNat : Int) := by omega
  have g2 : ¬ (c.toNat : Int) < 48 := by omega
  by_cases h2 : c.toNat ≤ 57
  · have g3 : (c.toNat : Int) ≤ 57 := by omega
    have g4 : ¬ (57 : Int) < (c.toNat : Int) := by omega
    have HE : Hid (dig c = true) := by show _ = _; unfold dig; rw [decide_eq_true (by omega)]
    clear h1 h2
    go_enter Tryz.func137, Tryz.ntmps137
    go_wp2
    go_ret
    exact ⟨by rw [HE.out]; rfl, rfl⟩
  · have g3 : ¬ (c.toNat : Int) ≤ 57 := by omega
    have g4 : (57 : Int) < (c.toNat : Int) := by omega
    have HE : Hid (dig c = false) := by show _ = _; unfold dig; rw [decide_eq_false (by omega)]
    clear h1 h2
    go_enter Tryz.func137, Tryz.ntmps137
    go_wp2
    go_ret
    exact ⟨by rw [HE.out]; rfl, rfl⟩

set_option maxRecDepth 100000 in
set_option maxHeartbeats 1000000 in
theorem nameK (t : ByteArray) (w : World) : Calls Tryz.prog 119 #[.string t] w fun e w' => e = .returned (.bool (Sch.name t)) ∧ w' = w := by
  by_cases h1 : t.size = 0
  · have g1 : ((t.size : Int) == 0) = true := beq_t (by omega)
    have HE := Lib.hid (name_short (t := t) (.inl (by omega)))
    clear h1
    go_enter Tryz.func119, Tryz.ntmps119
    go_wp2
    go_ret
    exact ⟨by rw [HE.out]; rfl, rfl⟩
  have g1 : ((t.size : Int) == 0) = false := beq_f (by omega)
  by_cases h2 : 16 < t.size
  · have g2 : (16 : Int) < (t.size : Int) := by omega
    have HE := Lib.hid (name_short (t := t) (.inr h2))
    clear h1 h2
    go_enter Tryz.func119, Tryz.ntmps119
    go_wp2
    go_ret
    exact ⟨by rw [HE.out]; rfl, rfl⟩
  have g2 : ¬ (16 : Int) < (t.size : Int) := by omega
  have h0 : 0 < t.size := by omega
  have h0' : (0 : Int) < (t.size : Int) := by omega
  have HL := Lib.hid (isLetterK t[0])
  by_cases h3 : Sch.low t[0] = false
  · have HE := Lib.hid (name_head h0 h3)
    rw [h3] at HL
    clear h3 h1 h2
    go_enter Tryz.func119, Tryz.ntmps119
    go_wp2_with fail
    refine (HL.out _).mono ?_
    rintro e w2 ⟨rfl, rfl⟩
    go_wp2
    go_ret
    exact ⟨by rw [HE.out]; rfl, rfl⟩
  have h3' : Sch.low t[0] = true := by simpa using h3
  have H3 := Lib.hid h3'
  rw [h3'] at HL
  have H30 : Hid (Sch.ch t[0] = true) := by show _ = _; rw [ch_eq, h3']; rfl
  clear h3 h3'
  go_enter Tryz.func119, Tryz.ntmps119
  go_wp2_with fail
  refine (HL.out _).mono ?_
  rintro e w2 ⟨rfl, rfl⟩
  clear HL
  go_wp2_with fail
  go_loop [3] (fun v3 => ∃ a : Nat, 1 ≤ a ∧ a ≤ t.size ∧ v3 = .int .i64 a ∧ Hid (∀ j (h : j < t.size), j < a → Sch.ch t[j] = true)) (fun v3 => t.size - (intOf v3).toNat)
  case atStart => exact ⟨1, by omega, by omega, rfl, fun j _ hj => by
    have h00 : j = 0 := by omega
    subst h00
    exact H30.out⟩
  case round =>
    obtain ⟨a, ha1, ha, rfl, HA⟩ := hrel
    by_cases hlt : a < t.size
    · have hlt' : (a : Int) < (t.size : Int) := by omega
      have HLa := Lib.hid (isLetterK t[a])
      have HDa := Lib.hid (isDigitK t[a])
      have HCh := Lib.hid (ch_eq t[a])
      obtain ⟨r1, hr1⟩ : ∃ r, r = Sch.low t[a] := ⟨_, rfl⟩
      obtain ⟨r2, hr2⟩ : ∃ r, r = dig t[a] := ⟨_, rfl⟩
      rw [← hr1] at HLa HCh
      rw [← hr2] at HDa HCh
      clear hr1 hr2
      have HN : Hid (Sch.ch t[a] = true → ∀ j (h : j < t.size), j < a + 1 → Sch.ch t[j] = true) := fun hc j h hj => by
        by_cases hja : j = a
        · subst hja; exact hc
        · exact HA.out j h (by omega)
      have HB := Lib.hid (name_bad (t := t) a hlt)
      clear HA H3 H30
      go_wp2_with fail
      refine (HLa.out _).mono ?_
      rintro e w2 ⟨rfl, rfl⟩
      clear HLa
      cases r1 with
      | true =>
        have HC : Hid (Sch.ch t[a] = true) := by show _ = _; rw [HCh.out]; rfl
        clear HDa
        go_wp2
        go_round
        case rel => exact ⟨a + 1, by omega, by omega, by go_num, HN.out HC.out⟩
        case measure => simp [intOf]; omega
      | false =>
        go_wp2_with fail
        refine (HDa.out _).mono ?_
        rintro e w2 ⟨rfl, rfl⟩
        clear HDa
        cases r2 with
        | true =>
          have HC : Hid (Sch.ch t[a] = true) := by show _ = _; rw [HCh.out]; rfl
          go_wp2
          go_round
          case rel => exact ⟨a + 1, by omega, by omega, by go_num, HN.out HC.out⟩
          case measure => simp [intOf]; omega
        | false =>
          by_cases h95 : t[a].toNat = 95
          · have k4 : ((t[a].toNat : Int) != 95) = false := by rw [h95]; rfl
            have HC : Hid (Sch.ch t[a] = true) := by show _ = _; rw [HCh.out, decide_eq_true h95]; rfl
            clear h95
            go_wp2
            go_round
            case rel => exact ⟨a + 1, by omega, by omega, by go_num, HN.out HC.out⟩
            case measure => simp [intOf]; omega
          · have k4 : ((t[a].toNat : Int) != 95) = true := by rw [bne_iff_ne]; omega
            have HC : Hid (Sch.ch t[a] = false) := by show _ = _; rw [HCh.out, decide_eq_false h95]; rfl
            clear h95
            go_wp2
            go_ret
            exact ⟨by rw [HB.out HC.out]; rfl, rfl⟩
    · have HE := Lib.hid (name_good (t := t) (by omega) (by omega) H3.out (fun j h => HA.out j h (by omega)))
      have hjn : ¬ (a : Int) < (t.size : Int) := by omega
      clear HA
      go_wp2
      go_ret
      exact ⟨by rw [HE.out]; rfl, rfl⟩
end Go.Proofs.YtpkbdnilakaakaaGreat

/- The landed schema: SameType. -/
namespace Go.Proofs.YtpkbdnilakaakaaGreat
open Go.RowKit

end Go.Proofs.YtpkbdnilakaakaaGreat

/- The landed schema: isOf, Is. -/
namespace Go.Proofs.YtpkbdnilakaakaaGreat
open Go.RowKit

attribute [local go_sem] run_store_float

set_option maxRecDepth 100000 in
set_option maxHeartbeats 1000000 in
theorem isOfK : ∀ (x : V) (y : Ty) (d : Nat) (w : World) (u v : Array Value), chk d x = 0 → Ty.check d y = 0 → VLies w u x → TLies w v y → Calls Tryz.prog 115 #[.agg u, .agg v] w fun e w' => e = .returned (.bool (Sch.of x y)) ∧ Below w.heap.size w w' := by
  intro x
  refine V.ind (P := fun x => ∀ (y : Ty) (d : Nat) (w : World) (u v : Array Value), chk d x = 0 → Ty.check d y = 0 → VLies w u x → TLies w v y → Calls Tryz.prog 115 #[.agg u, .agg v] w fun e w' => e = .returned (.bool (Sch.of x y)) ∧ Below w.heap.size w w') ?_ x
  rintro k i b t xs ih ⟨k', ys⟩ d w u v hc hd hx hy
  obtain ⟨p, c, rfl, hxl, hxc, hxi⟩ := hx.open
  obtain ⟨q, e, rfl, hyl, hyc, hyi⟩ := hy.open
  unfold cells5 cells2
  obtain ⟨W0, hW0⟩ : ∃ W0, W0 = (w.alloc (.cells #[.int .i64 k, .int .i64 i, .float .f64 b, .string t, .slice p xs.length c] 44)).alloc (.cells #[.int .i64 k', .slice q ys.length e] 67) := ⟨_, rfl⟩
  have HB0 : Hid (Below w.heap.size w W0) := by rw [hW0]; exact ((Below.refl _ _).alloc (Nat.le_refl _) _).alloc (by simp) _
  have HY0 : Hid (W0.cell? ⟨w.heap.size + 1, 1, none⟩ = some (.slice q ys.length e)) := by show _ = _; rw [hW0]; simp
  have HW0 := Lib.hid hW0
  clear hW0 hx hy
  by_cases h1 : ¬ k = k'
  · have g1 := bne_t h1
    have HE : Hid (Sch.of (.mk k i b t xs) (.mk k' ys) = false) := by show _ = _; rw [Sch.of_mk, beq_f h1, Bool.false_and]
    clear ih hxi hyi h1 hc hd
    go_enter Tryz.func115, Tryz.ntmps115
    go_wp2
    rw [← HW0.out]
    go_ret
    exact ⟨by rw [HE.out]; rfl, HB0.out⟩
  replace h1 : k = k' := Classical.not_not.1 h1
  have g1 := bne_f h1
  have HE : Hid (Sch.of (.mk k i b t xs) (.mk k' ys) = xs.all (fun x => Sch.of x (Sch.inner (.mk k' ys)))) := by show _ = _; rw [Sch.of_mk, beq_t h1, Bool.true_and]
  obtain ⟨hd4, hcs, hct⟩ := Sch.ty_open hd
  obtain ⟨-, ho, -, hn, -, hcx⟩ := Sch.chk_open hc
  obtain ⟨-, -, -, -, o5, -⟩ := Sch.own_open ho
  have HX : Hid (Items w p xs) := hxi
  have HIH := Lib.hid ih
  -- what the type is of, where there are items
  have HT : Hid (0 < xs.length → ∃ z, ys = [z] ∧ Ty.check (d + 1) z = 0 ∧ Sch.inner (.mk k' ys) = z ∧ ∃ u', TLies w u' z ∧ ItemT w q 0 u') := by
    intro hp
    rcases hct with ⟨h6, -⟩ | ⟨h6, z, rfl, hz⟩
    · omega
    · obtain ⟨u', hu1, hu2⟩ := hyi 0 (by simp)
      exact ⟨z, rfl, hz, rfl, u', hu1, hu2⟩
  have HCX := Lib.hid hcx
  clear ih hxi hyi hc hd hct hcs h1 hcx ho o5
  go_enter Tryz.func115, Tryz.ntmps115
  go_wp2_with fail
  rw [← HW0.out]
  clear HW0
  go_loopw [15] (fun v5 wr => ∃ j : Nat, j ≤ xs.length ∧ v5 = .int .i64 j ∧ Hid (Below W0.heap.size W0 wr ∧ ∀ m (h1 : m < xs.length), m < j → Sch.of xs[m] (Sch.inner (.mk k' ys)) = true)) (fun v5 _ => xs.length - (intOf v5).toNat)
  case atStart => exact ⟨0, by omega, rfl, Below.refl _ _, fun m _ h => by omega⟩
  case round =>
    obtain ⟨j, hj, rfl, HL⟩ := hrel
    have hbw : Below w.heap.size w wr := HB0.out.trans (HL.out.1.mono HB0.out.size)
    by_cases hlt : j < xs.length
    · obtain ⟨ux, hvx, hix⟩ := HX.out j hlt
      obtain ⟨z, hys, hz, hin, uy, hvy, hiy⟩ := HT.out (by omega)
      obtain ⟨bx, ox, kx, ix, fx, tx, qx, nx, cx, rfl, _, rfl, a0, a1, a2, a3, a4⟩ := (hix.on hbw).lies
      obtain ⟨by', oy, ky, qy, ny, cy, rfl, _, rfl, b0, b1⟩ := (hiy.on hbw).lies
      rw [Nat.zero_mul, Nat.add_zero] at b0 b1
      have hl1 : ys.length = 1 := by rw [hys]; rfl
      have HC : Hid (∀ w', Below w.heap.size w w' → Calls Tryz.prog 115 #[.agg #[.int .i64 kx, .int .i64 ix, .float .f64 fx, .string tx, .slice qx nx cx], .agg #[.int .i64 ky, .slice qy ny cy]] w' fun e w'' => e = .returned (.bool (Sch.of xs[j] (Sch.inner (.mk k' ys)))) ∧ Below w'.heap.size w' w'') := fun w' hb => by
        rw [hin]
        exact HIH.out _ (List.getElem_mem hlt) z (d + 1) w' _ _ (HCX.out _ (List.getElem_mem hlt)) hz (hvx.on hb) (hvy.on hb)
      have HAll := Lib.hid HL.out.2
      have hj1 : (j : Int) < (xs.length : Int) := by omega
      obtain ⟨r, hr⟩ : ∃ r, r = Sch.of xs[j] (Sch.inner (.mk k' ys)) := ⟨_, rfl⟩
      rw [← hr] at HC
      have HRr := Lib.hid hr
      obtain ⟨wa, hwa⟩ : ∃ wa, wa = wr.alloc (.cells #[.int .i64 kx, .int .i64 ix, .float .f64 fx, .string tx, .slice qx nx cx] 44) := ⟨_, rfl⟩
      have HBa : Hid (Below wr.heap.size wr wa) := by rw [hwa]; exact (Below.refl _ _).alloc (Nat.le_refl _) _
      have HBw : Hid (Below w.heap.size w wa) := hbw.trans (HBa.out.mono hbw.size)
      have HBW : Hid (Below W0.heap.size W0 wa) := HL.out.1.trans (HBa.out.mono HL.out.1.size)
      have HWa := Lib.hid hwa
      have HY4 : Hid (wa.cell? ⟨w.heap.size + 1, 1, none⟩ = some (.slice (some ⟨by', oy, none⟩) 1 e)) := by have := cell_on HBW.out HY0.out; rw [hl1] at this; exact this
      have HBs : Hid (wa.cell? ⟨by', oy, none⟩ = some (.int .i64 ky) ∧ wa.cell? ⟨by', oy + 1, none⟩ = some (.slice qy ny cy)) := ⟨cell_on HBa.out b0, cell_on HBa.out b1⟩
      have HAs : Hid (wa.cell? ⟨wr.heap.size, 0, none⟩ = some (.int .i64 kx) ∧ wa.cell? ⟨wr.heap.size, 1, none⟩ = some (.int .i64 ix) ∧ wa.cell? ⟨wr.heap.size, 2, none⟩ = some (.float .f64 fx) ∧ wa.cell? ⟨wr.heap.size, 3, none⟩ = some (.string tx) ∧ wa.cell? ⟨wr.heap.size, 4, none⟩ = some (.slice qx nx cx)) := by rw [hwa]; exact ⟨by simp, by simp, by simp, by simp, by simp⟩
      clear hvx hvy hix hiy hbw HL hr hin hz hys hl1 hwa b0 b1
      go_wp2_with fail
      rw [← HWa.out]
      obtain ⟨c0, c1, c2, c3, c4⟩ := HAs.out
      obtain ⟨d0, d1⟩ := HBs.out
      have d5 := HY4.out
      clear HAs HBs HY4 HWa a0 a1 a2 a3 a4
      go_region_held3 (fun w' => w'.cell? ⟨wr.heap.size, 0, none⟩ = some (.int .i64 kx) ∧ w'.cell? ⟨wr.heap.size, 1, none⟩ = some (.int .i64 ix) ∧ w'.cell? ⟨wr.heap.size, 2, none⟩ = some (.float .f64 fx) ∧ w'.cell? ⟨wr.heap.size, 3, none⟩ = some (.string tx) ∧ w'.cell? ⟨wr.heap.size, 4, none⟩ = some (.slice qx nx cx) ∧ w'.cell? ⟨by', oy, none⟩ = some (.int .i64 ky) ∧ w'.cell? ⟨by', oy + 1, none⟩ = some (.slice qy ny cy) ∧ w'.cell? ⟨w.heap.size + 1, 1, none⟩ = some (.slice (some ⟨by', oy, none⟩) 1 e)) (go_keep) (first
        | (go_at_call 115; refine (HC.out _ (below_drewN HBw.out _)).mono ?_; rintro e w4 ⟨rfl, hb4⟩; have hb5 := below_via (w := wa) hb4 (by rfl) (by rfl) (by rfl) (by rfl); have z3 := cell_on hb5 c0; have z4 := cell_on hb5 c1; have z5 := cell_on hb5 c2; have z6 := cell_on hb5 c3; have z7 := cell_on hb5 c4; have z8 := cell_on hb5 d0; have z9 := cell_on hb5 d1; have z10 := cell_on hb5 d5; have HB4 := Lib.hid hb5; clear hb4 hb5))
      clear z3 z4 z5 z6 z7 z8 z9 z10 c0 c1 c2 c3 c4 d0 d1 d5
      cases r with
      | true =>
        have HN : Hid (Below W0.heap.size W0 w4 ∧ ∀ m (h1 : m < xs.length), m < j + 1 → Sch.of xs[m] (Sch.inner (.mk k' ys)) = true) := by
          refine ⟨HBW.out.trans (HB4.out.mono HBW.out.size), fun m h1 hm => ?_⟩
          by_cases hmj : m = j
          · subst hmj; exact HRr.out.symm
          · exact HAll.out m h1 (by omega)
        clear HB4 HAll HC
        go_wp2
        go_roundw
        case rel => exact ⟨j + 1, by omega, by go_num, HN⟩
        case measure => simp [intOf]; omega
      | false =>
        have HF0 : Hid (xs.all (fun x => Sch.of x (Sch.inner (.mk k' ys))) = false) := by
          show _ = _
          rw [List.all_eq_false]
          exact ⟨xs[j], List.getElem_mem hlt, by rw [← HRr.out]; decide⟩
        have HF := Lib.hid (HBw.out.trans (HB4.out.mono HBw.out.size))
        clear HB4 HAll HC
        go_wp2
        go_ret
        exact ⟨by rw [HE.out, HF0.out]; rfl, HF.out⟩
    · have HF0 : Hid (xs.all (fun x => Sch.of x (Sch.inner (.mk k' ys))) = true) := by
        show _ = _
        rw [List.all_eq_true]
        intro x hx
        obtain ⟨m, hm, rfl⟩ := List.getElem_of_mem hx
        exact HL.out.2 m hm (by omega)
      have HF := Lib.hid hbw
      have hjn : ¬ (j : Int) < (xs.length : Int) := by omega
      clear HL hbw hlt
      go_wp2
      go_ret
      exact ⟨by rw [HE.out, HF0.out]; rfl, HF.out⟩

set_option maxRecDepth 100000 in
set_option maxHeartbeats 1000000 in
theorem isK (x : V) (y : Ty) (w : World) (u v : Array Value) (hx : VLies w u x) (hy : TLies w v y) : Calls Tryz.prog 97 #[.agg u, .agg v] w fun e w' => e = .returned (.bool (Sch.is x y)) ∧ Below w.heap.size w w' := by
  obtain ⟨k, i, b, t, xs⟩ := x
  obtain ⟨k', ys⟩ := y
  obtain ⟨p, c, rfl, -⟩ := hx.open
  obtain ⟨q, e, rfl, -⟩ := hy.open
  obtain ⟨W0, hW0⟩ : ∃ W0, W0 = (w.alloc (.cells (cells5 k i b t p xs.length c) 44)).alloc (.cells (cells2 k' q ys.length e) 67) := ⟨_, rfl⟩
  have HB0 : Hid (Below w.heap.size w W0) := by rw [hW0]; exact ((Below.refl _ _).alloc (Nat.le_refl _) _).alloc (by simp) _
  have HX := Lib.hid (hx.on HB0.out)
  have HTy := Lib.hid (hy.on HB0.out)
  have HCt := Lib.hid (fun w' (hb : Below W0.heap.size W0 w') => checkTypeK _ w' _ (HTy.out.on hb))
  have HCv := Lib.hid (fun w' (hb : Below W0.heap.size W0 w') => checkK _ w' _ (HX.out.on hb))
  have HI : Hid (Sch.is (.mk k i b t xs) (.mk k' ys) = (decide (Ty.check 1 (.mk k' ys) = 0) && decide (chk 1 (.mk k i b t xs) = 0) && Sch.of (.mk k i b t xs) (.mk k' ys))) := rfl
  have HOf := Lib.hid (fun w' (hb : Below W0.heap.size W0 w') h1 h2 => isOfK _ _ 1 w' _ _ h1 h2 (HX.out.on hb) (HTy.out.on hb))
  have HY : Hid (W0.cell? ⟨w.heap.size, 0, none⟩ = some (.int .i64 k) ∧ W0.cell? ⟨w.heap.size, 1, none⟩ = some (.int .i64 i) ∧ W0.cell? ⟨w.heap.size, 2, none⟩ = some (.float .f64 b) ∧ W0.cell? ⟨w.heap.size, 3, none⟩ = some (.string t) ∧ W0.cell? ⟨w.heap.size, 4, none⟩ = some (.slice p xs.length c) ∧ W0.cell? ⟨w.heap.size + 1, 0, none⟩ = some (.int .i64 k') ∧ W0.cell? ⟨w.heap.size + 1, 1, none⟩ = some (.slice q ys.length e)) := by rw [hW0]; exact ⟨by simp [cells5], by simp [cells5], by simp [cells5], by simp [cells5], by simp [cells5], by simp [cells2], by simp [cells2]⟩
  have HW0 := Lib.hid hW0
  obtain ⟨R, hR⟩ : ∃ R, R = Sch.is (.mk k i b t xs) (.mk k' ys) := ⟨_, rfl⟩
  rw [← hR] at HI ⊢
  obtain ⟨ct, hct⟩ : ∃ ct, ct = Ty.check 1 (.mk k' ys) := ⟨_, rfl⟩
  have HCT := Lib.hid hct
  rw [← hct] at HCt HI HOf
  obtain ⟨cv, hcv⟩ : ∃ cv, cv = chk 1 (.mk k i b t xs) := ⟨_, rfl⟩
  have HCV := Lib.hid hcv
  rw [← hcv] at HCv HI HOf
  obtain ⟨co, hco⟩ : ∃ co, co = Sch.of (.mk k i b t xs) (.mk k' ys) := ⟨_, rfl⟩
  rw [← hco] at HI HOf
  clear hW0 hx hy hR hct hcv hco HX HTy
  unfold cells5 cells2 at *
  go_enter Tryz.func97, Tryz.ntmps97
  go_wp2_with fail
  rw [← HW0.out]
  clear HW0
  refine (HCt.out _ (Below.refl _ _)).mono ?_
  rintro e w1 ⟨rfl, hb1⟩
  obtain ⟨y0, y1, y2, y3, y4, y5, y6⟩ := HY.out
  have c0 := cell_on hb1 y0
  have c1 := cell_on hb1 y1
  have c2 := cell_on hb1 y2
  have c3 := cell_on hb1 y3
  have c4 := cell_on hb1 y4
  have HB1 := Lib.hid hb1
  have HBw1 := Lib.hid (HB0.out.trans (hb1.mono HB0.out.size))
  clear y0 y1 y2 y3 y4 y5 y6 hb1
  by_cases h1 : ct = 0
  · have g1 : ((ct : Int) == 0) = true := beq_t (by omega)
    go_wp2_with fail
    refine (HCv.out w1 HB1.out).mono ?_
    rintro e w2 ⟨rfl, hb2⟩
    have HB2 := Lib.hid (HB1.out.trans (hb2.mono HB1.out.size))
    have HBw := Lib.hid (HB0.out.trans (HB2.out.mono HB0.out.size))
    clear hb2 HB1 c0 c1 c2 c3 c4
    by_cases h2 : cv = 0
    · have g2 : ((cv : Int) == 0) = true := beq_t (by omega)
      obtain ⟨y0, y1, y2, y3, y4, y5, y6⟩ := HY.out
      have c0 := cell_on HB2.out y0
      have c1 := cell_on HB2.out y1
      have c2 := cell_on HB2.out y2
      have c3 := cell_on HB2.out y3
      have c4 := cell_on HB2.out y4
      have c5 := cell_on HB2.out y5
      have c6 := cell_on HB2.out y6
      have HRc : Hid (R = co) := by show _ = _; rw [HI.out, decide_eq_true h1, decide_eq_true h2]; rfl
      have HCo := Lib.hid (HOf.out w2 HB2.out h2 h1)
      clear y0 y1 y2 y3 y4 y5 y6 h1 h2 HI HOf HY HCT HCV
      go_wp2_with fail
      refine HCo.out.mono ?_
      rintro e w3 ⟨rfl, hb3⟩
      have HB3 := Lib.hid (HBw.out.trans (hb3.mono HBw.out.size))
      clear hb3 c0 c1 c2 c3 c4 c5 c6
      go_wp2
      go_ret
      exact ⟨by rw [HRc.out]; rfl, HB3.out⟩
    · have g2 : ((cv : Int) == 0) = false := beq_f (by omega)
      have HRc : Hid (R = false) := by show _ = _; rw [HI.out, decide_eq_false h2, Bool.and_false, Bool.false_and]
      clear h1 h2 HI HOf
      go_wp2
      go_ret
      exact ⟨by rw [HRc.out]; rfl, HBw.out⟩
  · have g1 : ((ct : Int) == 0) = false := beq_f (by omega)
    have HRc : Hid (R = false) := by show _ = _; rw [HI.out, decide_eq_false h1, Bool.false_and, Bool.false_and]
    clear h1 HI HOf
    go_wp2
    go_ret
    exact ⟨by rw [HRc.out]; rfl, HBw1.out⟩
end Go.Proofs.YtpkbdnilakaakaaGreat

/- The landed schema: Find, sameColumn, Same. -/
namespace Go.Proofs.YtpkbdnilakaakaaGreat
open Go.RowKit

attribute [local go_sem] run_store_float

end Go.Proofs.YtpkbdnilakaakaaGreat
