/- Leb, WFix6, Vt, VLies, Ty, TLies, WExact: put together. -/
import Derived.Test.YtnlhpndjogjejaaRows
import Derived.WalkKit
import Derived.WalkSpells
import Derived.WalkLawsBesides
import Derived.Below
import Derived.Lib.Hide
import Derived.Test.YtnlhpndjogjejaaM01
import Derived.BigQuiet
import Derived.Deep.RegionHeld3

/- Plain facts on numbers written seven bits a byte, without any program: a number's bytes are read as it, whatever stands behind them, and what is read has just these bytes. -/
namespace Go.Proofs.Ytnlhpndjogjejaa.Leb

/-- a number's bytes; f: at most so many -/
def putF : Nat → Nat → List UInt8
  | 0, _ => []
  | f + 1, n => if n < 128 then [UInt8.ofNat n] else UInt8.ofNat (n % 128 + 128) :: putF f (n / 128)
def put (n : Nat) : List UInt8 := putF 10 n

/-- what is read: the number and how many bytes it took; 5: bytes that stand for none; 30: they end within -/
structure Got where
  err : Nat
  n : Nat
  k : Nat

/-- f: how many bytes may still come; first: none has come yet -/
def getF : Nat → Bool → List UInt8 → Got
  | 0, _, _ => ⟨5, 0, 0⟩
  | _ + 1, _, [] => ⟨30, 0, 0⟩
  | f + 1, first, c :: r =>
    if 127 < c.toNat then
      let g := getF f false r
      if g.err = 0 then ⟨0, g.n * 128 + c.toNat % 128, g.k + 1⟩ else g
    else if (f = 0 ∧ 1 < c.toNat) ∨ (first = false ∧ c.toNat = 0) then ⟨5, 0, 0⟩ else ⟨0, c.toNat, 1⟩
def get (l : List UInt8) : Got := getF 10 true l

theorem byte_low (n : Nat) (h : n < 128) : (UInt8.ofNat n).toNat = n := by
  rw [UInt8.toNat_ofNat']; omega
theorem byte_high (n : Nat) : (UInt8.ofNat (n % 128 + 128)).toNat = n % 128 + 128 := by
  rw [UInt8.toNat_ofNat']; omega

/-- the greatest number that f bytes hold: ten hold 64 bits -/
def cap (f : Nat) : Nat := if f = 10 then 18446744073709551616 else 128 ^ f

theorem getF_put (f : Nat) (first : Bool) (n : Nat) (r : List UInt8) (h : n < 2 * 128 ^ f) (h0 : first = true ∨ n ≠ 0) : getF (f + 1) first (putF (f + 1) n ++ r) = ⟨0, n, (putF (f + 1) n).length⟩ := by
  induction f generalizing first n with
  | zero =>
    have hn : n < 2 := by simpa using h
    have e : putF 1 n = [UInt8.ofNat n] := by simp only [putF]; rw [if_pos (by omega)]
    rw [e]
    simp only [List.cons_append, List.nil_append, getF, byte_low n (by omega), List.length_cons, List.length_nil]
    rw [if_neg (by omega), if_neg]
    rintro (⟨_, h1⟩ | ⟨h1, h2⟩)
    · omega
    · rcases h0 with h0 | h0
      · rw [h0] at h1; cases h1
      · exact h0 h2
  | succ f ih =>
    by_cases hn : n < 128
    · have e : putF (f + 1 + 1) n = [UInt8.ofNat n] := by simp only [putF]; rw [if_pos hn]
      rw [e]
      simp only [List.cons_append, List.nil_append, getF, byte_low n hn, List.length_cons, List.length_nil]
      rw [if_neg (by omega), if_neg]
      rintro (⟨h1, _⟩ | ⟨h1, h2⟩)
      · omega
      · rcases h0 with h0 | h0
        · rw [h0] at h1; cases h1
        · exact h0 h2
    · have e : putF (f + 1 + 1) n = UInt8.ofNat (n % 128 + 128) :: putF (f + 1) (n / 128) := by
        rw [putF, if_neg hn]
      have h1 : n / 128 < 2 * 128 ^ f := by
        rw [Nat.pow_succ] at h
        rw [Nat.div_lt_iff_lt_mul (by omega)]
        omega
      have hr := ih false (n / 128) h1 (.inr (by omega))
      rw [e]
      rw [List.cons_append, getF]
      simp only [hr, byte_high, List.length_cons]
      rw [if_pos (by omega), if_pos trivial]
      congr 1
      omega

/-- a number's bytes are read as it, whatever stands behind them -/
theorem get_put (n : Nat) (r : List UInt8) (h : n < 18446744073709551616) : get (put n ++ r) = ⟨0, n, (put n).length⟩ := by
  have e : 2 * 128 ^ 9 = 18446744073709551616 := by decide
  exact getF_put 9 true n r (by rw [e]; exact h) (.inl rfl)

/-- what is read has just these bytes -/
theorem getF_ok (f : Nat) (first : Bool) (l : List UInt8) (h : (getF (f + 1) first l).err = 0) :
    (getF (f + 1) first l).n < 2 * 128 ^ f ∧ (first = true ∨ (getF (f + 1) first l).n ≠ 0) ∧ l.take (getF (f + 1) first l).k = putF (f + 1) (getF (f + 1) first l).n ∧ (getF (f + 1) first l).k ≤ l.length ∧ 1 ≤ (getF (f + 1) first l).k := by
  induction f generalizing first l with
  | zero =>
    cases l with
    | nil => simp [getF] at h
    | cons c r =>
      rw [getF] at h ⊢
      by_cases hc : 127 < c.toNat
      · rw [if_pos hc] at h
        simp [getF] at h
      · rw [if_neg hc] at h ⊢
        by_cases hx : (0 = 0 ∧ 1 < c.toNat) ∨ (first = false ∧ c.toNat = 0)
        · rw [if_pos hx] at h; simp at h
        · rw [if_neg hx]
          have c1 : c.toNat < 2 := by omega
          refine ⟨by simpa using c1, ?_, ?_, by simp, by simp⟩
          · cases first
            · right; intro h2; exact hx (.inr ⟨rfl, h2⟩)
            · exact .inl rfl
          · simp only [putF, List.take_succ_cons, List.take_zero]
            rw [if_pos (by omega)]
            congr 1
            exact (UInt8.toNat_inj.1 (byte_low c.toNat (by omega))).symm
  | succ f ih =>
    cases l with
    | nil => simp [getF] at h
    | cons c r =>
      have hc256 : c.toNat < 256 := c.toNat_lt
      rw [getF] at h ⊢
      by_cases hc : 127 < c.toNat
      · rw [if_pos hc] at h ⊢
        simp only at h ⊢
        by_cases hg : (getF (f + 1) false r).err = 0
        · rw [if_pos hg]
          obtain ⟨i1, i2, i3, i4, i5⟩ := ih false r hg
          have i2' : (getF (f + 1) false r).n ≠ 0 := by
            rcases i2 with i2 | i2
            · cases i2
            · exact i2
          generalize getF (f + 1) false r = g at *
          dsimp only
          refine ⟨?_, .inr (by omega), ?_, by simp; omega, by simp⟩
          · rw [Nat.pow_succ]; omega
          · have e1 : (g.n * 128 + c.toNat % 128) / 128 = g.n := by omega
            have e2 : (g.n * 128 + c.toNat % 128) % 128 + 128 = c.toNat := by omega
            rw [putF, if_neg (by omega), e1, e2, List.take_succ_cons, i3]
            congr 1
            apply UInt8.toNat_inj.1
            rw [UInt8.toNat_ofNat']; omega
        · rw [if_neg hg] at h; exact absurd h hg
      · rw [if_neg hc] at h ⊢
        by_cases hx : (f + 1 = 0 ∧ 1 < c.toNat) ∨ (first = false ∧ c.toNat = 0)
        · rw [if_pos hx] at h; simp at h
        · rw [if_neg hx]
          have hp : 128 ≤ 128 ^ (f + 1) := by
            have := Nat.pow_le_pow_right (show 0 < 128 by omega) (show 1 ≤ f + 1 by omega)
            simpa using this
          refine ⟨by simp only; omega, ?_, ?_, by simp, by simp⟩
          · cases first
            · right; intro h2; exact hx (.inr ⟨rfl, h2⟩)
            · exact .inl rfl
          · simp only [putF, List.take_succ_cons, List.take_zero]
            rw [if_pos (by omega)]
            congr 1
            exact (UInt8.toNat_inj.1 (byte_low c.toNat (by omega))).symm

theorem get_ok (l : List UInt8) (h : (get l).err = 0) : (get l).n < 18446744073709551616 ∧ l.take (get l).k = put (get l).n ∧ (get l).k ≤ l.length ∧ 1 ≤ (get l).k := by
  have e : 2 * 128 ^ 9 = 18446744073709551616 := by decide
  obtain ⟨h1, _, h3, h4, h5⟩ := getF_ok 9 true l h
  rw [e] at h1
  exact ⟨h1, h3, h4, h5⟩

/-- where it is refused, nothing is told -/
theorem getF_bad (f : Nat) : ∀ (first : Bool) (l : List UInt8), (getF f first l).err ≠ 0 → (getF f first l).n = 0 ∧ (getF f first l).k = 0 := by
  induction f with
  | zero => intro first l _; exact ⟨rfl, rfl⟩
  | succ f ih =>
    intro first l h
    cases l with
    | nil => exact ⟨rfl, rfl⟩
    | cons c r =>
      rw [getF] at h ⊢
      by_cases hc : 127 < c.toNat
      · rw [if_pos hc] at h ⊢
        simp only at h ⊢
        by_cases hg : (getF f false r).err = 0
        · rw [if_pos hg] at h; exact absurd rfl h
        · rw [if_neg hg]; exact ih false r hg
      · rw [if_neg hc] at h ⊢
        by_cases hx : (f = 0 ∧ 1 < c.toNat) ∨ (first = false ∧ c.toNat = 0)
        · rw [if_pos hx]; exact ⟨rfl, rfl⟩
        · rw [if_neg hx] at h; exact absurd rfl h

/-- of unlike numbers neither's bytes begin the other's -/
theorem put_prefix {n m : Nat} {r : List UInt8} (hn : n < 18446744073709551616) (hm : m < 18446744073709551616) (h : put m = put n ++ r) : n = m := by
  have h1 := get_put n r hn
  have h2 := get_put m [] hm
  rw [List.append_nil, h, h1] at h2
  exact congrArg Got.n h2

theorem putF_pos (f n : Nat) : 1 ≤ (putF (f + 1) n).length := by
  rw [putF]; split <;> simp
theorem putF_le (f : Nat) : ∀ n, (putF f n).length ≤ f := by
  induction f with
  | zero => intro n; simp [putF]
  | succ f ih => intro n; rw [putF]; split <;> simp; exact ih _
/-- lesser numbers have no more bytes -/
theorem putF_mono (f : Nat) : ∀ n m, n ≤ m → (putF f n).length ≤ (putF f m).length := by
  induction f with
  | zero => intro n m _; simp [putF]
  | succ f ih =>
    intro n m h
    rw [putF, putF]
    by_cases h1 : m < 128
    · rw [if_pos (by omega), if_pos h1]; simp
    · rw [if_neg h1]
      by_cases h2 : n < 128
      · rw [if_pos h2]; simp
      · rw [if_neg h2]
        simp only [List.length_cons]
        have := ih (n / 128) (m / 128) (Nat.div_le_div_right h)
        omega

/-- a number with a sign, and back -/
def zig (n : Int) : Nat := if 0 ≤ n then 2 * n.toNat else 2 * (-(n + 1)).toNat + 1
def zag (u : Nat) : Int := if u % 2 = 0 then ((u / 2 : Nat) : Int) else -((u / 2 : Nat) : Int) - 1
theorem zag_zig (n : Int) : zag (zig n) = n := by
  unfold zig
  split
  · unfold zag; rw [if_pos (by omega)]; omega
  · unfold zag; rw [if_neg (by omega)]; omega
theorem zig_zag (u : Nat) : zig (zag u) = u := by
  unfold zag
  split
  · unfold zig; rw [if_pos (by omega)]; omega
  · unfold zig; rw [if_neg (by omega)]; omega

/-- the bits that bytes come to, the first byte's lowest -/
def val : List UInt8 → Nat
  | [] => 0
  | c :: r => val r * 128 + c.toNat % 128

/-- how many bytes of 128 or above stand first, of at most f -/
def high : Nat → List UInt8 → Nat
  | 0, _ => 0
  | _ + 1, [] => 0
  | f + 1, c :: r => if 127 < c.toNat then high f r + 1 else 0

theorem high_le (f : Nat) : ∀ r : List UInt8, high f r ≤ f ∧ high f r ≤ r.length := by
  induction f with
  | zero => intro r; simp [high]
  | succ f ih =>
    intro r
    cases r with
    | nil => simp [high]
    | cons c r =>
      rw [high]
      have := ih r
      split <;> simp <;> omega

theorem high_above (f : Nat) : ∀ (r : List UInt8) (j : Nat) (h : j < r.length), j < high f r → 127 < r[j].toNat := by
  induction f with
  | zero => intro r j h hj; simp [high] at hj
  | succ f ih =>
    intro r j h hj
    cases r with
    | nil => simp at h
    | cons c r =>
      rw [high] at hj
      by_cases hc : 127 < c.toNat
      · rw [if_pos hc] at hj
        cases j with
        | zero => exact hc
        | succ j => exact ih r j (by simpa using h) (by omega)
      · rw [if_neg hc] at hj; omega

theorem high_stop (f : Nat) : ∀ (r : List UInt8) (h : high f r < r.length), high f r < f → ¬ 127 < (r[high f r]).toNat := by
  induction f with
  | zero => intro r h hf; omega
  | succ f ih =>
    intro r h hf
    cases r with
    | nil => simp at h
    | cons c r =>
      by_cases hc : 127 < c.toNat
      · have e : high (f + 1) (c :: r) = high f r + 1 := by rw [high, if_pos hc]
        simp only [e] at h hf ⊢
        simp only [List.getElem_cons_succ]
        exact ih r (by simpa using h) (by omega)
      · have e : high (f + 1) (c :: r) = 0 := by rw [high, if_neg hc]
        simp only [e, List.getElem_cons_zero]
        exact hc

/-- what stands first tells how many: all k of them high, the next one not, or none left -/
theorem high_eq (f : Nat) : ∀ (r : List UInt8) (k : Nat), k ≤ f → (hk : k ≤ r.length) → (∀ j (h : j < r.length), j < k → 127 < r[j].toNat) → (k = f ∨ k = r.length ∨ ∃ h : k < r.length, ¬ 127 < r[k].toNat) → high f r = k := by
  induction f with
  | zero => intro r k h1 _ _ _; simp [high]; omega
  | succ f ih =>
    intro r k h1 h2 h3 h4
    cases r with
    | nil => simp at h2; simp [high]; omega
    | cons c r =>
      cases k with
      | zero =>
        rcases h4 with h4 | h4 | ⟨h4, h5⟩
        · omega
        · simp at h4
        · have h6 : ¬ 127 < c.toNat := h5
          rw [high, if_neg h6]
      | succ k =>
        have hc : 127 < c.toNat := h3 0 (by simp) (by omega)
        rw [high, if_pos hc, ih r k (by omega) (by simpa using h2) (fun j h hj => by
          have := h3 (j + 1) (by simpa using h) (by omega)
          simpa using this) ?_]
        rcases h4 with h4 | h4 | ⟨h4, h5⟩
        · exact .inl (by omega)
        · exact .inr (.inl (by simpa using h4))
        · exact .inr (.inr ⟨by simpa using h4, by simpa using h5⟩)

/-- reading, told by how many high bytes stand first -/
theorem getF_high (f : Nat) : ∀ (first : Bool) (r : List UInt8),
    (high f r = f → getF f first r = ⟨5, 0, 0⟩) ∧
    (high f r = r.length → high f r < f → getF f first r = ⟨30, 0, 0⟩) ∧
    (∀ h : high f r < r.length, high f r < f → getF f first r = if (high f r + 1 = f ∧ 1 < (r[high f r]).toNat) ∨ ((first = false ∨ 0 < high f r) ∧ (r[high f r]).toNat = 0) then ⟨5, 0, 0⟩ else ⟨0, val (r.take (high f r + 1)), high f r + 1⟩) := by
  induction f with
  | zero => intro first r; exact ⟨fun _ => rfl, fun _ h => by omega, fun _ h => by omega⟩
  | succ f ih =>
    intro first r
    cases r with
    | nil => exact ⟨fun h => by simp [high] at h, fun _ _ => rfl, fun h => by simp at h⟩
    | cons c r =>
      by_cases hc : 127 < c.toNat
      · have e : high (f + 1) (c :: r) = high f r + 1 := by rw [high, if_pos hc]
        obtain ⟨i1, i2, i3⟩ := ih false r
        rw [e]
        refine ⟨fun h => ?_, fun h h' => ?_, fun h h' => ?_⟩
        · rw [getF, if_pos hc]; simp only; rw [i1 (by omega)]; rfl
        · rw [getF, if_pos hc]; simp only; rw [i2 (by simpa using h) (by omega)]; rfl
        · have hr : high f r < r.length := by simpa using h
          have hb := high_stop f r hr (by omega)
          by_cases hx : (high f r + 1 = f ∧ 1 < (r[high f r]).toNat) ∨ ((false = false ∨ 0 < high f r) ∧ (r[high f r]).toNat = 0)
          · have i4 : getF f false r = ⟨5, 0, 0⟩ := by rw [i3 hr (by omega), if_pos hx]
            have hy : (high f r + 1 + 1 = f + 1 ∧ 1 < (r[high f r]).toNat) ∨ ((first = false ∨ 0 < high f r + 1) ∧ (r[high f r]).toNat = 0) := by
              rcases hx with ⟨x1, x2⟩ | ⟨_, x2⟩
              · exact .inl ⟨by omega, x2⟩
              · exact .inr ⟨.inr (by omega), x2⟩
            rw [getF, if_pos hc]
            simp only [i4, List.getElem_cons_succ]
            rw [if_pos hy]
            rfl
          · have i4 : getF f false r = ⟨0, val (r.take (high f r + 1)), high f r + 1⟩ := by rw [i3 hr (by omega), if_neg hx]
            have hy : ¬ ((high f r + 1 + 1 = f + 1 ∧ 1 < (r[high f r]).toNat) ∨ ((first = false ∨ 0 < high f r + 1) ∧ (r[high f r]).toNat = 0)) := by
              rintro (⟨x1, x2⟩ | ⟨_, x2⟩)
              · exact hx (.inl ⟨by omega, x2⟩)
              · exact hx (.inr ⟨.inl rfl, x2⟩)
            rw [getF, if_pos hc]
            simp only [i4, List.getElem_cons_succ]
            rw [if_neg hy]
            simp [val]
      · have e : high (f + 1) (c :: r) = 0 := by rw [high, if_neg hc]
        rw [e]
        refine ⟨fun h => by omega, fun h _ => by simp at h, fun h h' => ?_⟩
        rw [getF, if_neg hc]
        simp only [List.getElem_cons_zero]
        by_cases hx : (f = 0 ∧ 1 < c.toNat) ∨ (first = false ∧ c.toNat = 0)
        · rw [if_pos hx, if_pos]
          rcases hx with ⟨x1, x2⟩ | ⟨x1, x2⟩
          · exact .inl ⟨by omega, x2⟩
          · exact .inr ⟨.inl x1, x2⟩
        · rw [if_neg hx, if_neg]
          · have : c.toNat % 128 = c.toNat := by omega
            simp [val, this]
          · rintro (⟨x1, x2⟩ | ⟨x1 | x1, x2⟩)
            · exact hx (.inl ⟨by omega, x2⟩)
            · exact hx (.inr ⟨x1, x2⟩)
            · omega

theorem val_drop_le : ∀ (r : List UInt8) (i : Nat), val (r.drop i) ≤ val r
  | [], i => by simp [val]
  | c :: r, 0 => by simp
  | c :: r, i + 1 => by
    have := val_drop_le r i
    simp only [List.drop_succ_cons, val]
    omega
theorem val_drop (r : List UInt8) (i : Nat) (h : i < r.length) : val (r.drop i) = val (r.drop (i + 1)) * 128 + r[i].toNat % 128 := by
  rw [List.drop_eq_getElem_cons h, val]

/-- what is read at a place -/
def getAt (l : List UInt8) (at_ : Int) : Got := if at_ < 0 then ⟨30, 0, 0⟩ else get (l.drop at_.toNat)
/-- the place behind it -/
def nextAt (l : List UInt8) (at_ : Int) : Int := if (getAt l at_).err = 0 then at_ + (getAt l at_).k else 0

theorem put_length_le (n : Nat) : (put n).length ≤ 10 := putF_le 10 n
theorem put_length_pos (n : Nat) : 1 ≤ (put n).length := putF_pos 9 n
end Go.Proofs.Ytnlhpndjogjejaa.Leb

/- The walks of package real's and the document's Fix, Bits, Same (wip/real/WFix.lean.t over a dump that lists no variable). -/
namespace Go.Proofs.Ytnlhpndjogjejaa
open Go.RowKit

/-- x != x -/
def nanB (x : Nat) : Bool := FloatKind.f64.format.order x x != some .eq
/-- the bits, with the one NaN -/
def fixB (x : Nat) : Nat := if nanB x then 9221120237041090560 else x

theorem nan_t {x : Nat} (h : nanB x = true) : (FloatKind.f64.format.order x x != some .eq) = true := h
theorem nan_f {x : Nat} (h : nanB x = false) : (FloatKind.f64.format.order x x != some .eq) = false := h
theorem fix_t {x : Nat} (h : nanB x = true) : fixB x = 9221120237041090560 := by simp [fixB, h]
theorem fix_f {x : Nat} (h : nanB x = false) : fixB x = x := by simp [fixB, h]

theorem run_frombits (x : Int) (w : World) : (callFunc 112 #[.int .u64 x]).run Try.prog w = .ok (.value (.float .f64 x.toNat)) w := by kernel_rfl
theorem run_bits (x : Nat) (w : World) : (callFunc 69 #[.float .f64 x]).run Try.prog w = .ok (.value (.int .u64 x)) w := by kernel_rfl
attribute [local go_sem] run_frombits run_bits

set_option maxHeartbeats 400000 in
theorem isNaN_any (x : Nat) (w : World) :
    Calls Try.prog 111 #[.float .f64 x] w fun e w' => e = .returned (.bool (nanB x)) ∧ w' = w := by
  go_enter Try.func111, Try.ntmps111
  go_wp2
  go_ret
  exact ⟨rfl, rfl⟩

set_option maxHeartbeats 400000 in
theorem realFix_any (x : Nat) (w : World) :
    Calls Try.prog 89 #[.float .f64 x] w fun e w' => e = .returned (.float .f64 (fixB x)) ∧ w' = w := by
  cases h : nanB x
  · have h' := nan_f h
    rw [fix_f h]
    clear h
    go_enter Try.func89, Try.ntmps89
    go_wp2
    go_ret
    exact ⟨rfl, rfl⟩
  · have h' := nan_t h
    rw [fix_t h]
    clear h
    go_enter Try.func89, Try.ntmps89
    go_wp2
    go_ret
    exact ⟨rfl, rfl⟩

set_option maxHeartbeats 400000 in
theorem refBits_any (x : Nat) (w : World) :
    Calls Try.prog 61 #[.float .f64 x] w fun e w' => e = .returned (.int .u64 (fixB x)) ∧ w' = w := by
  cases h : nanB x
  · have h' := nan_f h
    rw [fix_f h]
    clear h
    go_enter Try.func61, Try.ntmps61
    go_wp2
    go_ret
    exact ⟨rfl, rfl⟩
  · have h' := nan_t h
    rw [fix_t h]
    clear h
    go_enter Try.func61, Try.ntmps61
    go_wp2
    go_ret
    exact ⟨rfl, rfl⟩

set_option maxHeartbeats 400000 in
theorem realBits_any (x : Nat) (w : World) :
    Calls Try.prog 75 #[.float .f64 x] w fun e w' => e = .returned (.int .u64 (fixB x)) ∧ w' = w := by
  go_enter Try.func75, Try.ntmps75
  go_wp2_with (go_at_call 89; refine (realFix_any _ _).mono ?_; rintro e w' ⟨rfl, rfl⟩)
  go_ret
  exact ⟨rfl, rfl⟩

set_option maxHeartbeats 400000 in
theorem realOf_any (x : Int) (w : World) :
    Calls Try.prog 106 #[.int .u64 x] w fun e w' => e = .returned (.float .f64 (fixB x.toNat)) ∧ w' = w := by
  go_enter Try.func106, Try.ntmps106
  go_wp2_with (go_at_call 89; refine (realFix_any _ _).mono ?_; rintro e w' ⟨rfl, rfl⟩)
  go_ret
  exact ⟨rfl, rfl⟩

set_option maxHeartbeats 400000 in
theorem realSame_any (x y : Nat) (w : World) :
    Calls Try.prog 119 #[.float .f64 x, .float .f64 y] w fun e w' => e = .returned (.bool ((fixB x : Int) == (fixB y : Int))) ∧ w' = w := by
  go_enter Try.func119, Try.ntmps119
  go_wp2_with (go_at_call 75; refine (realBits_any _ _).mono ?_; rintro e w' ⟨rfl, rfl⟩)
  go_ret
  exact ⟨rfl, rfl⟩

set_option maxHeartbeats 400000 in
theorem refSame_any (x y : Nat) (w : World) :
    Calls Try.prog 37 #[.float .f64 x, .float .f64 y] w fun e w' => e = .returned (.bool ((fixB x : Int) == (fixB y : Int))) ∧ w' = w := by
  go_enter Try.func37, Try.ntmps37
  go_wp2_with (go_at_call 61; refine (refBits_any _ _).mono ?_; rintro e w' ⟨rfl, rfl⟩)
  go_ret
  exact ⟨rfl, rfl⟩

end Go.Proofs.Ytnlhpndjogjejaa

/- Plain: values, as trees; what the document says of them. -/
namespace Go.Proofs.Ytnlhpndjogjejaa

/-- a value -/
structure V where
  kind : Int
  int : Int
  bits : Nat
  text : ByteArray
  items : List V

namespace V
/-- what holds of each value if it holds of one whenever it holds of its items -/
theorem ind {P : V → Prop} (h : ∀ k i b t xs, (∀ x ∈ xs, P x) → P (.mk k i b t xs)) : ∀ v, P v := fun v =>
  V.rec (motive_1 := P) (motive_2 := fun xs => ∀ x ∈ xs, P x) (fun k i b t xs ih => h k i b t xs ih) (fun x hx => by cases hx)
    (fun x xs hx hxs y hy => by
      rcases List.mem_cons.1 hy with rfl | hy
      · exact hx
      · exact hxs y hy) v

/-- each float fixed -/
def fix (v : V) : V := match v with
  | .mk k i b t xs => .mk k i (fixB b) t (xs.map fix)
def fixL (xs : List V) : List V := xs.map fix
theorem fix_mk (k i : Int) (b : Nat) (t : ByteArray) (xs : List V) : fix (.mk k i b t xs) = .mk k i (fixB b) t (fixL xs) := by rw [fix, fixL]
theorem fixL_eq (xs : List V) : fixL xs = xs.map fix := rfl

/-- each item as its test says -/
def eqL : List (V → Bool) → List V → Bool
  | [], [] => true
  | f :: fs, y :: ys => f y && eqL fs ys
  | _, _ => false
/-- floats bit by bit -/
def exact (v : V) : V → Bool := match v with
  | .mk k i b t xs => fun y => k == y.kind && i == y.int && decide (t = y.text) && b == y.bits && eqL (xs.map exact) y.items
def exactL (xs ys : List V) : Bool := eqL (xs.map exact) ys
theorem exact_mk (k i : Int) (b : Nat) (t : ByteArray) (xs : List V) (k' i' : Int) (b' : Nat) (t' : ByteArray) (ys : List V) : exact (.mk k i b t xs) (.mk k' i' b' t' ys) = (k == k' && i == i' && decide (t = t') && b == b' && exactL xs ys) := by rw [exact, exactL]
theorem exactL_nil : exactL [] [] = true := rfl
theorem exactL_cons (x : V) (r : List V) (y : V) (s : List V) : exactL (x :: r) (y :: s) = (exact x y && exactL r s) := rfl
theorem exactL_nc (y : V) (s : List V) : exactL [] (y :: s) = false := rfl
theorem exactL_cn (x : V) (r : List V) : exactL (x :: r) [] = false := rfl
/-- P6.3 -/
def same (v : V) : V → Bool := match v with
  | .mk k i b t xs => fun y => k == y.kind && i == y.int && decide (t = y.text) && fixB b == fixB y.bits && eqL (xs.map same) y.items
def sameL (xs ys : List V) : Bool := eqL (xs.map same) ys
theorem same_mk (k i : Int) (b : Nat) (t : ByteArray) (xs : List V) (k' i' : Int) (b' : Nat) (t' : ByteArray) (ys : List V) : same (.mk k i b t xs) (.mk k' i' b' t' ys) = (k == k' && i == i' && decide (t = t') && fixB b == fixB b' && sameL xs ys) := by rw [same, sameL]
theorem sameL_nil : sameL [] [] = true := rfl
theorem sameL_cons (x : V) (r : List V) (y : V) (s : List V) : sameL (x :: r) (y :: s) = (same x y && sameL r s) := rfl
theorem sameL_nc (y : V) (s : List V) : sameL [] (y :: s) = false := rfl
theorem sameL_cn (x : V) (r : List V) : sameL (x :: r) [] = false := rfl

/-- a field that is not the kind's is zero -/
def ownB (k i : Int) (b : Nat) (t : ByteArray) (n : Nat) : Bool :=
  decide (1 ≤ k ∧ k ≤ 7) && (k == 1 || k == 2 || i == 0) && (k == 3 || fixB b == 0) && (k == 4 || k == 5 || decide (t.toList = [])) && (k == 6 || k == 7 || n == 0) && (k != 1 || i == 0 || i == 1) && (k != 6 || decide (n < 2))
def own : V → Bool
  | .mk k i b t xs => ownB k i b t xs.length

/-- the first error of some -/
def first : List Nat → Nat
  | [] => 0
  | e :: r => if e = 0 then first r else e
/-- P6.1; utf: which texts are right -/
def check (utf : ByteArray → Bool) (d : Nat) (v : V) : Nat := match v with
  | .mk k i b t xs => if 4 < d then 62 else if own (.mk k i b t xs) = false then 60 else if 1024 < t.size then 2 else if 256 < xs.length then 3 else if k = 4 ∧ utf t = false then 61 else first (xs.map (check utf (d + 1)))
def checkL (utf : ByteArray → Bool) (d : Nat) (xs : List V) : Nat := first (xs.map (check utf d))
theorem check_mk (utf : ByteArray → Bool) (d : Nat) (k i : Int) (b : Nat) (t : ByteArray) (xs : List V) : check utf d (.mk k i b t xs) = if 4 < d then 62 else if own (.mk k i b t xs) = false then 60 else if 1024 < t.size then 2 else if 256 < xs.length then 3 else if k = 4 ∧ utf t = false then 61 else checkL utf (d + 1) xs := by rw [check, checkL]
theorem checkL_nil (utf : ByteArray → Bool) (d : Nat) : checkL utf d [] = 0 := rfl
theorem checkL_cons (utf : ByteArray → Bool) (d : Nat) (x : V) (r : List V) : checkL utf d (x :: r) = if check utf d x = 0 then checkL utf d r else check utf d x := rfl

theorem exact_iff : ∀ a b : V, exact a b = true ↔ a = b := by
  intro a
  refine V.ind (P := fun a => ∀ b, exact a b = true ↔ a = b) ?_ a
  intro k i b t xs ih c
  have hL : ∀ (xs ys : List V), (∀ x ∈ xs, ∀ b, exact x b = true ↔ x = b) → (exactL xs ys = true ↔ xs = ys) := by
    intro xs
    induction xs with
    | nil => intro ys _; cases ys <;> simp [exactL_nil, exactL_nc]
    | cons x r ihr =>
      intro ys hx
      cases ys with
      | nil => simp [exactL_cn]
      | cons y s =>
        simp only [exactL_cons, Bool.and_eq_true, List.cons.injEq]
        rw [hx x (by simp) y, ihr s (fun z hz => hx z (by simp [hz]))]
  cases c with
  | mk k' i' b' t' ys =>
    simp only [exact_mk, Bool.and_eq_true, beq_iff_eq, decide_eq_true_eq, V.mk.injEq]
    rw [hL xs ys ih]
    constructor
    · rintro ⟨⟨⟨⟨h1, h2⟩, h3⟩, h4⟩, h5⟩; exact ⟨h1, h2, h4, h3, h5⟩
    · rintro ⟨h1, h2, h3, h4, h5⟩; exact ⟨⟨⟨⟨h1, h2⟩, h4⟩, h3⟩, h5⟩
theorem sameL_len : ∀ (xs ys : List V), sameL xs ys = true → xs.length = ys.length
  | [], [], _ => rfl
  | x :: r, y :: s, h => by
    simp only [sameL_cons, Bool.and_eq_true] at h
    simp [sameL_len r s h.2]
  | [], y :: s, h => by simp [sameL_nc] at h
  | x :: r, [], h => by simp [sameL_cn] at h
end V
end Go.Proofs.Ytnlhpndjogjejaa

/- How a value lies in memory. -/
namespace Go.Proofs.Ytnlhpndjogjejaa
open Go.RowKit

theorem below_via {B : Nat} {w wa W : World} (hb : Below B wa W) (h1 : wa.os = w.os) (h2 : wa.tape = w.tape) (h3 : wa.output = w.output) (h4 : wa.heap = w.heap) : Below B w W :=
  Below.trans ⟨h1, h2, h3, by rw [h4]; exact Nat.le_refl _, fun k _ => by rw [h4]⟩ hb
/-- a cell that is there stays -/
theorem cell_on {w w' : World} {p : Addr} {v : Value} (hb : Below w.heap.size w w') (h : w.cell? p = some v) : w'.cell? p = some v := by
  rw [hb.cell (World.block_lt_of_cell? _ _ h)]; exact h

/-- a value's five cells -/
def cells5 (k i : Int) (b : Nat) (t : ByteArray) (p : Option Addr) (n c : Nat) : Array Value := #[.int .i64 k, .int .i64 i, .float .f64 b, .string t, .slice p n c]

/-- one step of how a value lies: its items, of which P holds, in the block that its slice names -/
def VStep (w : World) (P : Array Value → V → Prop) (p : Option Addr) (c : Nat) (xs : List V) (us : Nat → Array Value) : Prop :=
  xs.length * 64 ≤ 140737488351232 ∧ xs.length ≤ c ∧ (xs ≠ [] → ∃ blk off, p = some ⟨blk, off, none⟩ ∧ blk < w.heap.size ∧ ∀ j, j < xs.length → ∀ m, m < 5 → w.cell? ⟨blk, off + j * 5 + m, none⟩ = (us j)[m]?) ∧ ∀ j (h : j < xs.length), P (us j) xs[j]
/-- so a value lies -/
def VLies (w : World) (u : Array Value) (x : V) : Prop :=
  ∀ P : Array Value → V → Prop, (∀ k i b t p c xs us, VStep w P p c xs us → P (cells5 k i b t p xs.length c) (.mk k i b t xs)) → P u x
theorem VLies.mk {w : World} {k i : Int} {b : Nat} {t : ByteArray} {p : Option Addr} {c : Nat} {xs : List V} (us : Nat → Array Value) (hl : xs.length * 64 ≤ 140737488351232) (hc : xs.length ≤ c)
    (hp : xs ≠ [] → ∃ blk off, p = some ⟨blk, off, none⟩ ∧ blk < w.heap.size ∧ ∀ j, j < xs.length → ∀ m, m < 5 → w.cell? ⟨blk, off + j * 5 + m, none⟩ = (us j)[m]?)
    (hr : ∀ j (h : j < xs.length), VLies w (us j) xs[j]) : VLies w (cells5 k i b t p xs.length c) (.mk k i b t xs) :=
  fun P hP => hP k i b t p c xs us ⟨hl, hc, hp, fun j h => hr j h P hP⟩
theorem VLies.inv {w : World} {u : Array Value} {x : V} (h : VLies w u x) : ∃ k i b t p c xs us, u = cells5 k i b t p xs.length c ∧ x = .mk k i b t xs ∧ VStep w (VLies w) p c xs us := by
  have := h (fun u x => VLies w u x ∧ ∃ k i b t p c xs us, u = cells5 k i b t p xs.length c ∧ x = .mk k i b t xs ∧ VStep w (VLies w) p c xs us) (fun k i b t p c xs us ⟨h1, h2, h3, h4⟩ =>
    ⟨.mk us h1 h2 h3 (fun j hj => (h4 j hj).1), k, i, b, t, p, c, xs, us, rfl, rfl, h1, h2, h3, fun j hj => (h4 j hj).1⟩)
  exact this.2

theorem VLies.on {w w' : World} {u : Array Value} {v : V} (h : VLies w u v) (hb : Below w.heap.size w w') : VLies w' u v := by
  refine h (VLies w') ?_
  rintro k i b t p c xs us ⟨hl, hc, hp, ih⟩
  refine .mk us hl hc (fun hne => ?_) ih
  obtain ⟨blk, off, h1, h2, h3⟩ := hp hne
  refine ⟨blk, off, h1, by have := hb.size; omega, fun j hj m hm => ?_⟩
  rw [hb.cell (p := ⟨blk, off + j * 5 + m, none⟩) h2]
  exact h3 j hj m hm

/-- one item of it: where it lies -/
structure Item (w : World) (p : Option Addr) (j : Nat) (u : Array Value) : Prop where
  lies : ∃ blk off k i b t q n c, p = some ⟨blk, off, none⟩ ∧ blk < w.heap.size ∧ u = cells5 k i b t q n c ∧ w.cell? ⟨blk, off + j * 5, none⟩ = some (.int .i64 k) ∧ w.cell? ⟨blk, off + j * 5 + 1, none⟩ = some (.int .i64 i) ∧ w.cell? ⟨blk, off + j * 5 + 2, none⟩ = some (.float .f64 b) ∧ w.cell? ⟨blk, off + j * 5 + 3, none⟩ = some (.string t) ∧ w.cell? ⟨blk, off + j * 5 + 4, none⟩ = some (.slice q n c)

theorem VLies.open {w : World} {u : Array Value} {k i : Int} {b : Nat} {t : ByteArray} {xs : List V} (h : VLies w u (.mk k i b t xs)) :
    ∃ p c, u = cells5 k i b t p xs.length c ∧ xs.length * 64 ≤ 140737488351232 ∧ xs.length ≤ c ∧ ∀ j (hj : j < xs.length), ∃ u', VLies w u' xs[j] ∧ Item w p j u' := by
  obtain ⟨k0, i0, b0, t0, p, c, xs0, us, rfl, hx, hl, hc, hp, hr⟩ := h.inv
  simp only [V.mk.injEq] at hx
  obtain ⟨rfl, rfl, rfl, rfl, rfl⟩ := hx
  refine ⟨p, c, rfl, hl, hc, fun j hj => ⟨us j, hr j hj, ?_⟩⟩
  obtain ⟨blk, off, h1, h2, h3⟩ := hp (fun hc => by rw [hc] at hj; simp at hj)
  obtain ⟨k', i', b', t', q, c', ys, us', hu, -, -⟩ := (hr j hj).inv
  have g := fun m hm => h3 j hj m hm
  rw [hu] at g ⊢
  exact ⟨blk, off, k', i', b', t', q, ys.length, c', h1, h2, rfl, g 0 (by omega), g 1 (by omega), g 2 (by omega), g 3 (by omega), g 4 (by omega)⟩
theorem Item.on {w w' : World} {p : Option Addr} {j : Nat} {u : Array Value} (h : Item w p j u) (hb : Below w.heap.size w w') : Item w' p j u := by
  obtain ⟨blk, off, k, i, b, t, q, n, c, h1, h2, h3, g0, g1, g2, g3, g4⟩ := h.lies
  refine ⟨⟨blk, off, k, i, b, t, q, n, c, h1, by have := hb.size; omega, h3, ?_, ?_, ?_, ?_, ?_⟩⟩
  · rw [hb.cell (p := ⟨blk, off + j * 5, none⟩) h2]; exact g0
  · rw [hb.cell (p := ⟨blk, off + j * 5 + 1, none⟩) h2]; exact g1
  · rw [hb.cell (p := ⟨blk, off + j * 5 + 2, none⟩) h2]; exact g2
  · rw [hb.cell (p := ⟨blk, off + j * 5 + 3, none⟩) h2]; exact g3
  · rw [hb.cell (p := ⟨blk, off + j * 5 + 4, none⟩) h2]; exact g4
end Go.Proofs.Ytnlhpndjogjejaa

/- Plain: types, as trees; what the document says of them (P7.1, P7.4). -/
namespace Go.Proofs.Ytnlhpndjogjejaa

/-- a type -/
structure Ty where
  kind : Int
  of : List Ty

namespace Ty
theorem ind {P : Ty → Prop} (h : ∀ k xs, (∀ x ∈ xs, P x) → P (.mk k xs)) : ∀ v, P v := fun v =>
  Ty.rec (motive_1 := P) (motive_2 := fun xs => ∀ x ∈ xs, P x) (fun k xs ih => h k xs ih) (fun x hx => by cases hx)
    (fun x xs hx hxs y hy => by
      rcases List.mem_cons.1 hy with rfl | hy
      · exact hx
      · exact hxs y hy) v

/-- each item as its test says -/
def eqL : List (Ty → Bool) → List Ty → Bool
  | [], [] => true
  | f :: fs, y :: ys => f y && eqL fs ys
  | _, _ => false
/-- P7.4 -/
def same (v : Ty) : Ty → Bool := match v with
  | .mk k xs => fun y => k == y.kind && eqL (xs.map same) y.of
def sameL (xs ys : List Ty) : Bool := eqL (xs.map same) ys
theorem same_mk (k : Int) (xs : List Ty) (k' : Int) (ys : List Ty) : same (.mk k xs) (.mk k' ys) = (k == k' && sameL xs ys) := by rw [same, sameL]
theorem sameL_nil : sameL [] [] = true := rfl
theorem sameL_cons (x : Ty) (r : List Ty) (y : Ty) (s : List Ty) : sameL (x :: r) (y :: s) = (same x y && sameL r s) := rfl
theorem sameL_nc (y : Ty) (s : List Ty) : sameL [] (y :: s) = false := rfl
theorem sameL_cn (x : Ty) (r : List Ty) : sameL (x :: r) [] = false := rfl
theorem sameL_ne : ∀ (xs ys : List Ty), xs.length ≠ ys.length → sameL xs ys = false
  | [], [], h => absurd rfl h
  | [], _ :: _, _ => rfl
  | _ :: _, [], _ => rfl
  | x :: r, y :: s, h => by rw [sameL_cons, sameL_ne r s (by simpa using h), Bool.and_false]
theorem sameL_at : ∀ (xs ys : List Ty) (j : Nat) (h1 : j < xs.length) (h2 : j < ys.length), same xs[j] ys[j] = false → sameL xs ys = false
  | x :: r, y :: s, 0, _, _, h => by rw [sameL_cons]; simp at h; rw [h, Bool.false_and]
  | x :: r, y :: s, j + 1, h1, h2, h => by rw [sameL_cons, sameL_at r s j (by simpa using h1) (by simpa using h2) (by simpa using h), Bool.and_false]
theorem sameL_all : ∀ (xs ys : List Ty), xs.length = ys.length → (∀ j (h1 : j < xs.length) (h2 : j < ys.length), same xs[j] ys[j] = true) → sameL xs ys = true
  | [], [], _, _ => rfl
  | [], _ :: _, h, _ => by simp at h
  | _ :: _, [], h, _ => by simp at h
  | x :: r, y :: s, h, ha => by
    rw [sameL_cons, sameL_all r s (by simpa using h) (fun j h1 h2 => by have := ha (j + 1) (by simpa using h1) (by simpa using h2); simpa using this)]
    have := ha 0 (by simp) (by simp)
    simp at this
    rw [this]; rfl
theorem same_iff : ∀ a b : Ty, same a b = true ↔ a = b := by
  intro a
  refine Ty.ind (P := fun a => ∀ b, same a b = true ↔ a = b) ?_ a
  intro k xs ih c
  have hL : ∀ (xs ys : List Ty), (∀ x ∈ xs, ∀ b, same x b = true ↔ x = b) → (sameL xs ys = true ↔ xs = ys) := by
    intro xs
    induction xs with
    | nil => intro ys _; cases ys <;> simp [sameL_nil, sameL_nc]
    | cons x r ihr =>
      intro ys hx
      cases ys with
      | nil => simp [sameL_cn]
      | cons y s =>
        simp only [sameL_cons, Bool.and_eq_true, List.cons.injEq]
        rw [hx x (by simp) y, ihr s (fun z hz => hx z (by simp [hz]))]
  obtain ⟨k', ys⟩ := c
  simp only [same_mk, Bool.and_eq_true, beq_iff_eq, Ty.mk.injEq]
  rw [hL xs ys ih]

/-- how many types it is of -/
def want (k : Int) : Nat := if k = 6 ∨ k = 7 then 1 else 0
/-- P7.1 -/
def check (d : Nat) (v : Ty) : Nat := match v with
  | .mk k xs => if 4 < d then 62 else if k < 1 ∨ 7 < k ∨ xs.length ≠ want k then 60 else V.first (xs.map (check (d + 1)))
theorem check_mk (d : Nat) (k : Int) (xs : List Ty) : check d (.mk k xs) = if 4 < d then 62 else if k < 1 ∨ 7 < k ∨ xs.length ≠ want k then 60 else V.first (xs.map (check (d + 1))) := by rw [check]
theorem check_leaf (d : Nat) (k : Int) (hd : ¬ 4 < d) (hk : ¬ (k < 1 ∨ 7 < k)) (hw : want k = 0) : check d (.mk k []) = 0 := by
  rw [check_mk, if_neg hd, if_neg (by simp [hw]; omega)]
  rfl
theorem check_one (d : Nat) (k : Int) (x : Ty) (hd : ¬ 4 < d) (hk : ¬ (k < 1 ∨ 7 < k)) (hw : want k = 1) : check d (.mk k [x]) = check (d + 1) x := by
  rw [check_mk, if_neg hd, if_neg (by simp [hw]; omega)]
  show (if check (d + 1) x = 0 then 0 else check (d + 1) x) = _
  split
  · next h => rw [h]
  · rfl
end Ty
end Go.Proofs.Ytnlhpndjogjejaa

/- How a type lies in memory. -/
namespace Go.Proofs.Ytnlhpndjogjejaa
open Go.RowKit

/-- a type's two cells -/
def cells2 (k : Int) (p : Option Addr) (n c : Nat) : Array Value := #[.int .i64 k, .slice p n c]

/-- one step of how a type lies: what it is of, of which P holds, in the block that its slice names -/
def TStep (w : World) (P : Array Value → Ty → Prop) (p : Option Addr) (c : Nat) (xs : List Ty) (us : Nat → Array Value) : Prop :=
  xs.length * 32 ≤ 140737488351232 ∧ xs.length ≤ c ∧ (xs ≠ [] → ∃ blk off, p = some ⟨blk, off, none⟩ ∧ blk < w.heap.size ∧ ∀ j, j < xs.length → ∀ m, m < 2 → w.cell? ⟨blk, off + j * 2 + m, none⟩ = (us j)[m]?) ∧ ∀ j (h : j < xs.length), P (us j) xs[j]
/-- so a type lies -/
def TLies (w : World) (u : Array Value) (x : Ty) : Prop :=
  ∀ P : Array Value → Ty → Prop, (∀ k p c xs us, TStep w P p c xs us → P (cells2 k p xs.length c) (.mk k xs)) → P u x
theorem TLies.mk {w : World} {k : Int} {p : Option Addr} {c : Nat} {xs : List Ty} (us : Nat → Array Value) (hl : xs.length * 32 ≤ 140737488351232) (hc : xs.length ≤ c)
    (hp : xs ≠ [] → ∃ blk off, p = some ⟨blk, off, none⟩ ∧ blk < w.heap.size ∧ ∀ j, j < xs.length → ∀ m, m < 2 → w.cell? ⟨blk, off + j * 2 + m, none⟩ = (us j)[m]?)
    (hr : ∀ j (h : j < xs.length), TLies w (us j) xs[j]) : TLies w (cells2 k p xs.length c) (.mk k xs) :=
  fun P hP => hP k p c xs us ⟨hl, hc, hp, fun j h => hr j h P hP⟩
theorem TLies.inv {w : World} {u : Array Value} {x : Ty} (h : TLies w u x) : ∃ k p c xs us, u = cells2 k p xs.length c ∧ x = .mk k xs ∧ TStep w (TLies w) p c xs us := by
  have := h (fun u x => TLies w u x ∧ ∃ k p c xs us, u = cells2 k p xs.length c ∧ x = .mk k xs ∧ TStep w (TLies w) p c xs us) (fun k p c xs us ⟨h1, h2, h3, h4⟩ =>
    ⟨.mk us h1 h2 h3 (fun j hj => (h4 j hj).1), k, p, c, xs, us, rfl, rfl, h1, h2, h3, fun j hj => (h4 j hj).1⟩)
  exact this.2
theorem TLies.on {w w' : World} {u : Array Value} {v : Ty} (h : TLies w u v) (hb : Below w.heap.size w w') : TLies w' u v := by
  refine h (TLies w') ?_
  rintro k p c xs us ⟨hl, hc, hp, ih⟩
  refine .mk us hl hc (fun hne => ?_) ih
  obtain ⟨blk, off, h1, h2, h3⟩ := hp hne
  refine ⟨blk, off, h1, by have := hb.size; omega, fun j hj m hm => ?_⟩
  rw [hb.cell (p := ⟨blk, off + j * 2 + m, none⟩) h2]
  exact h3 j hj m hm

/-- one of what it is of: where it lies -/
structure ItemT (w : World) (p : Option Addr) (j : Nat) (u : Array Value) : Prop where
  lies : ∃ blk off k q n c, p = some ⟨blk, off, none⟩ ∧ blk < w.heap.size ∧ u = cells2 k q n c ∧ w.cell? ⟨blk, off + j * 2, none⟩ = some (.int .i64 k) ∧ w.cell? ⟨blk, off + j * 2 + 1, none⟩ = some (.slice q n c)
theorem ItemT.on {w w' : World} {p : Option Addr} {j : Nat} {u : Array Value} (h : ItemT w p j u) (hb : Below w.heap.size w w') : ItemT w' p j u := by
  obtain ⟨blk, off, k, q, n, c, h1, h2, h3, g0, g1⟩ := h.lies
  refine ⟨⟨blk, off, k, q, n, c, h1, by have := hb.size; omega, h3, ?_, ?_⟩⟩
  · rw [hb.cell (p := ⟨blk, off + j * 2, none⟩) h2]; exact g0
  · rw [hb.cell (p := ⟨blk, off + j * 2 + 1, none⟩) h2]; exact g1
theorem TLies.open {w : World} {u : Array Value} {k : Int} {xs : List Ty} (h : TLies w u (.mk k xs)) :
    ∃ p c, u = cells2 k p xs.length c ∧ xs.length * 32 ≤ 140737488351232 ∧ xs.length ≤ c ∧ ∀ j (hj : j < xs.length), ∃ u', TLies w u' xs[j] ∧ ItemT w p j u' := by
  obtain ⟨k0, p, c, xs0, us, rfl, hx, hl, hc, hp, hr⟩ := h.inv
  simp only [Ty.mk.injEq] at hx
  obtain ⟨rfl, rfl⟩ := hx
  refine ⟨p, c, rfl, hl, hc, fun j hj => ⟨us j, hr j hj, ?_⟩⟩
  obtain ⟨blk, off, h1, h2, h3⟩ := hp (fun hc => by rw [hc] at hj; simp at hj)
  obtain ⟨k', q, c', ys, us', hu, -, -⟩ := (hr j hj).inv
  have g := fun m hm => h3 j hj m hm
  rw [hu] at g ⊢
  exact ⟨blk, off, k', q, ys.length, c', h1, h2, rfl, g 0 (by omega), g 1 (by omega)⟩
end Go.Proofs.Ytnlhpndjogjejaa

/- The law's own exact(a, b). -/
namespace Go.Proofs.Ytnlhpndjogjejaa
open Go.RowKit

namespace V
theorem exactL_len : ∀ (xs ys : List V), xs.length ≠ ys.length → exactL xs ys = false
  | [], [], h => absurd rfl h
  | [], _ :: _, _ => rfl
  | _ :: _, [], _ => rfl
  | x :: r, y :: s, h => by rw [exactL_cons, exactL_len r s (by simpa using h), Bool.and_false]
theorem exactL_at : ∀ (xs ys : List V) (j : Nat) (h1 : j < xs.length) (h2 : j < ys.length), exact xs[j] ys[j] = false → exactL xs ys = false
  | x :: r, y :: s, 0, _, _, h => by rw [exactL_cons]; simp at h; rw [h, Bool.false_and]
  | x :: r, y :: s, j + 1, h1, h2, h => by rw [exactL_cons, exactL_at r s j (by simpa using h1) (by simpa using h2) (by simpa using h), Bool.and_false]
theorem exactL_all : ∀ (xs ys : List V), xs.length = ys.length → (∀ j (h1 : j < xs.length) (h2 : j < ys.length), exact xs[j] ys[j] = true) → exactL xs ys = true
  | [], [], _, _ => rfl
  | [], _ :: _, h, _ => by simp at h
  | _ :: _, [], h, _ => by simp at h
  | x :: r, y :: s, h, ha => by
    rw [exactL_cons, exactL_all r s (by simpa using h) (fun j h1 h2 => by have := ha (j + 1) (by simpa using h1) (by simpa using h2); simpa using this)]
    have := ha 0 (by simp) (by simp)
    simp at this
    rw [this]; rfl
end V

theorem text_eq (t t' : ByteArray) : (t.toList == t'.toList) = decide (t = t') := by
  rw [ByteArray.toList_eq, ByteArray.toList_eq]
  by_cases h : t = t'
  · rw [h]; simp
  · rw [decide_eq_false h, beq_eq_false_iff_ne]
    intro hc
    apply h
    cases t; cases t'
    simp only [ByteArray.mk.injEq]
    exact Array.toList_inj.1 hc
theorem bne_t {a b : Int} (h : ¬ a = b) : (a != b) = true := by rw [bne_iff_ne]; exact h
theorem bne_f {a b : Int} (h : a = b) : (a != b) = false := by rw [h]; simp

attribute [local go_sem] run_frombits run_bits

set_option maxRecDepth 100000 in
set_option maxHeartbeats 400000 in
theorem exact6 : ∀ (x y : V) (w : World) (u v : Array Value), VLies w u x → VLies w v y → Calls Try.prog 55 #[.agg u, .agg v] w fun e w' => e = .returned (.bool (V.exact x y)) ∧ Below w.heap.size w w' := by
  intro x
  refine V.ind (P := fun x => ∀ (y : V) (w : World) (u v : Array Value), VLies w u x → VLies w v y → Calls Try.prog 55 #[.agg u, .agg v] w fun e w' => e = .returned (.bool (V.exact x y)) ∧ Below w.heap.size w w') ?_ x
  rintro k i b t xs ih ⟨k', i', b', t', ys⟩ w u v hx hy
  obtain ⟨p, c, rfl, hxl, hxc, hxi⟩ := hx.open
  obtain ⟨q, d, rfl, hyl, hyc, hyi⟩ := hy.open
  unfold cells5
  have hB2 : Below w.heap.size w ((w.alloc (.cells #[.int .i64 k, .int .i64 i, .float .f64 b, .string t, .slice p xs.length c] 46)).alloc (.cells #[.int .i64 k', .int .i64 i', .float .f64 b', .string t', .slice q ys.length d] 46)) := ((Below.refl _ _).alloc (Nat.le_refl _) _).alloc (by simp) _
  have HB2 := Lib.hid hB2
  clear hB2 hx hy
  by_cases h1 : ¬ k = k'
  · have g1 := bne_t h1
    have HE : Hid (V.exact (.mk k i b t xs) (.mk k' i' b' t' ys) = false) := by show _ = _; simp [V.exact_mk, h1]
    clear ih hxi hyi h1
    go_enter Try.func55, Try.ntmps55
    go_wp2_with fail
    go_quiet (fail)
    go_wp2
    go_ret
    exact ⟨by rw [HE.out]; rfl, below_drewN HB2.out _⟩
  replace h1 : k = k' := Classical.not_not.1 h1
  have g1 := bne_f h1
  by_cases h2 : ¬ i = i'
  · have g2 := bne_t h2
    have HE : Hid (V.exact (.mk k i b t xs) (.mk k' i' b' t' ys) = false) := by show _ = _; simp [V.exact_mk, h2]
    clear ih hxi hyi h2 h1
    go_enter Try.func55, Try.ntmps55
    go_wp2_with fail
    go_quiet (fail)
    go_wp2
    go_ret
    exact ⟨by rw [HE.out]; rfl, below_drewN HB2.out _⟩
  replace h2 : i = i' := Classical.not_not.1 h2
  have g2 := bne_f h2
  by_cases h3 : ¬ t = t'
  · have g3 : (t.toList == t'.toList) = false := by rw [text_eq, decide_eq_false h3]
    have HE : Hid (V.exact (.mk k i b t xs) (.mk k' i' b' t' ys) = false) := by show _ = _; simp [V.exact_mk, h3]
    clear ih hxi hyi h3 h1 h2
    go_enter Try.func55, Try.ntmps55
    go_wp2_with fail
    go_quiet (fail)
    go_wp2
    go_ret
    exact ⟨by rw [HE.out]; rfl, below_drewN HB2.out _⟩
  replace h3 : t = t' := Classical.not_not.1 h3
  have g3 : (t.toList == t'.toList) = true := by rw [text_eq, decide_eq_true h3]
  by_cases h4 : ¬ b = b'
  · have g4 : ((b : Int) != (b' : Int)) = true := bne_t (by omega)
    have HE : Hid (V.exact (.mk k i b t xs) (.mk k' i' b' t' ys) = false) := by show _ = _; simp [V.exact_mk, h4]
    clear ih hxi hyi h4 h1 h2 h3
    go_enter Try.func55, Try.ntmps55
    go_wp2_with fail
    go_quiet (fail)
    go_wp2
    go_ret
    exact ⟨by rw [HE.out]; rfl, below_drewN HB2.out _⟩
  replace h4 : b = b' := Classical.not_not.1 h4
  have g4 : ((b : Int) != (b' : Int)) = false := bne_f (by omega)
  by_cases h5 : ¬ xs.length = ys.length
  · have g5 : ((xs.length : Int) != (ys.length : Int)) = true := bne_t (by omega)
    have HE : Hid (V.exact (.mk k i b t xs) (.mk k' i' b' t' ys) = false) := by show _ = _; simp [V.exact_mk, V.exactL_len xs ys h5]
    clear ih hxi hyi h5 h1 h2 h3 h4
    go_enter Try.func55, Try.ntmps55
    go_wp2_with fail
    go_quiet (fail)
    go_wp2
    go_ret
    exact ⟨by rw [HE.out]; rfl, below_drewN HB2.out _⟩
  replace h5 : xs.length = ys.length := Classical.not_not.1 h5
  have g5 : ((xs.length : Int) != (ys.length : Int)) = false := bne_f (by omega)
  subst h1 h2 h3 h4
  have hEL : V.exact (.mk k i b t xs) (.mk k i b t ys) = V.exactL xs ys := by simp [V.exact_mk]
  rw [hEL]
  have HX : Hid (∀ j (hj : j < xs.length), ∃ u', VLies w u' xs[j] ∧ Item w p j u') := hxi
  have HY : Hid (∀ j (hj : j < ys.length), ∃ u', VLies w u' ys[j] ∧ Item w q j u') := hyi
  have HIH := Lib.hid ih
  have H5 := Lib.hid h5
  clear ih hxi hyi h5 hEL
  go_enter Try.func55, Try.ntmps55
  go_wp2_with fail
  go_quiet (fail)
  have HB3 := Lib.hid (below_drewN HB2.out nq)
  have hs3 : w.heap.size + 2 = (((w.alloc (.cells #[.int .i64 k, .int .i64 i, .float .f64 b, .string t, .slice p xs.length c] 46)).alloc (.cells #[.int .i64 k, .int .i64 i, .float .f64 b, .string t, .slice q ys.length d] 46)).drewN nq).heap.size := by simp [World.drewN]
  have k1 : (((w.alloc (.cells #[.int .i64 k, .int .i64 i, .float .f64 b, .string t, .slice p xs.length c] 46)).alloc (.cells #[.int .i64 k, .int .i64 i, .float .f64 b, .string t, .slice q ys.length d] 46)).drewN nq).cell? ⟨w.heap.size, 4, none⟩ = some (.slice p xs.length c) := by simp
  have k2 : (((w.alloc (.cells #[.int .i64 k, .int .i64 i, .float .f64 b, .string t, .slice p xs.length c] 46)).alloc (.cells #[.int .i64 k, .int .i64 i, .float .f64 b, .string t, .slice q ys.length d] 46)).drewN nq).cell? ⟨w.heap.size + 1, 4, none⟩ = some (.slice q ys.length d) := by simp
  generalize (((w.alloc (.cells #[.int .i64 k, .int .i64 i, .float .f64 b, .string t, .slice p xs.length c] 46)).alloc (.cells #[.int .i64 k, .int .i64 i, .float .f64 b, .string t, .slice q ys.length d] 46)).drewN nq) = w3 at HB3 hs3 k1 k2 ⊢
  clear HB2 g1 g2 g3 g4 g5
  go_wp2
  go_loopw [5] (fun v5 wr => ∃ j : Nat, j ≤ xs.length ∧ v5 = .int .i64 j ∧ Hid (Below w3.heap.size w3 wr ∧ ∀ m (h1 : m < xs.length) (h2 : m < ys.length), m < j → V.exact xs[m] ys[m] = true)) (fun v5 _ => xs.length - (intOf v5).toNat)
  case atStart => exact ⟨0, by omega, rfl, Below.refl _ _, fun m _ _ h => by omega⟩
  case round =>
    obtain ⟨j, hj, rfl, HL⟩ := hrel
    have n1 : wr.cell? ⟨w.heap.size, 4, none⟩ = some (.slice p xs.length c) := by rw [HL.out.1.cell (p := ⟨w.heap.size, 4, none⟩) (by simp only; omega)]; exact k1
    have n2 : wr.cell? ⟨w.heap.size + 1, 4, none⟩ = some (.slice q ys.length d) := by rw [HL.out.1.cell (p := ⟨w.heap.size + 1, 4, none⟩) (by simp only; omega)]; exact k2
    have hbw : Below w.heap.size w wr := HB3.out.trans (HL.out.1.mono (by have := HB3.out.size; omega))
    by_cases hlt : j < xs.length
    · have hlt2 : j < ys.length := by have := H5.out; omega
      obtain ⟨ux, hvx, hix⟩ := HX.out j hlt
      obtain ⟨uy, hvy, hiy⟩ := HY.out j hlt2
      obtain ⟨bx, ox, kx, ix, fx, tx, qx, nx, cx, rfl, _, rfl, a0, a1, a2, a3, a4⟩ := (hix.on hbw).lies
      obtain ⟨by', oy, ky, iy, fy, ty, qy, ny, cy, rfl, _, rfl, b0, b1, b2, b3, b4⟩ := (hiy.on hbw).lies
      have HC : Hid (∀ w', Below w.heap.size w w' → Calls Try.prog 55 #[.agg #[.int .i64 kx, .int .i64 ix, .float .f64 fx, .string tx, .slice qx nx cx], .agg #[.int .i64 ky, .int .i64 iy, .float .f64 fy, .string ty, .slice qy ny cy]] w' fun e w'' => e = .returned (.bool (V.exact xs[j] ys[j])) ∧ Below w'.heap.size w' w'') :=
        fun w' hb => HIH.out _ (List.getElem_mem hlt) ys[j] w' _ _ (hvx.on hb) (hvy.on hb)
      have HBw := Lib.hid hbw
      have HAll := Lib.hid HL.out.2
      have HBr := Lib.hid HL.out.1
      have hj1 : (j : Int) < (xs.length : Int) := by omega
      have hj2 : (j : Int) < (ys.length : Int) := by omega
      obtain ⟨r, hr⟩ : ∃ r, r = V.exact xs[j] ys[j] := ⟨_, rfl⟩
      rw [← hr] at HC
      have HRr := Lib.hid hr
      clear hvx hvy hix hiy hbw HL hr
      go_wp2_with fail
      go_region_held3 (fun w' => w'.cell? ⟨w.heap.size, 4, none⟩ = some (.slice (some ⟨bx, ox, none⟩) xs.length c) ∧ w'.cell? ⟨w.heap.size + 1, 4, none⟩ = some (.slice (some ⟨by', oy, none⟩) ys.length d) ∧ w'.cell? ⟨bx, ox + j * 5, none⟩ = some (.int .i64 kx) ∧ w'.cell? ⟨bx, ox + j * 5 + 1, none⟩ = some (.int .i64 ix) ∧ w'.cell? ⟨bx, ox + j * 5 + 2, none⟩ = some (.float .f64 fx) ∧ w'.cell? ⟨bx, ox + j * 5 + 3, none⟩ = some (.string tx) ∧ w'.cell? ⟨bx, ox + j * 5 + 4, none⟩ = some (.slice qx nx cx) ∧ w'.cell? ⟨by', oy + j * 5, none⟩ = some (.int .i64 ky) ∧ w'.cell? ⟨by', oy + j * 5 + 1, none⟩ = some (.int .i64 iy) ∧ w'.cell? ⟨by', oy + j * 5 + 2, none⟩ = some (.float .f64 fy) ∧ w'.cell? ⟨by', oy + j * 5 + 3, none⟩ = some (.string ty) ∧ w'.cell? ⟨by', oy + j * 5 + 4, none⟩ = some (.slice qy ny cy)) (go_keep) (first
        | (go_at_call 55; refine (HC.out _ (below_drewN HBw.out _)).mono ?_; rintro e w4 ⟨rfl, hb4⟩; have hb5 := below_via (w := wr) hb4 (by rfl) (by rfl) (by rfl) (by rfl); have z1 := cell_on hb5 n1; have z2 := cell_on hb5 n2; have z3 := cell_on hb5 a0; have z4 := cell_on hb5 a1; have z5 := cell_on hb5 a2; have z6 := cell_on hb5 a3; have z7 := cell_on hb5 a4; have z8 := cell_on hb5 b0; have z9 := cell_on hb5 b1; have z10 := cell_on hb5 b2; have z11 := cell_on hb5 b3; have z12 := cell_on hb5 b4; have HB4 := Lib.hid hb5; clear hb4 hb5))
      clear z1 z2 z3 z4 z5 z6 z7 z8 z9 z10 z11 z12 a0 a1 a2 a3 a4 b0 b1 b2 b3 b4 n1 n2
      cases r with
      | true =>
        have HN : Hid (Below w3.heap.size w3 w4 ∧ ∀ m (h1 : m < xs.length) (h2 : m < ys.length), m < j + 1 → V.exact xs[m] ys[m] = true) := by
          refine ⟨HBr.out.trans (HB4.out.mono HBr.out.size), fun m h1 h2 hm => ?_⟩
          by_cases hmj : m = j
          · subst hmj; exact HRr.out.symm
          · exact HAll.out m h1 h2 (by omega)
        clear HBr HB4 HAll HC
        go_wp2
        go_roundw
        case rel => exact ⟨j + 1, by omega, by go_num, HN⟩
        case measure => simp [intOf]; omega
      | false =>
        have HE : Hid (V.exactL xs ys = false) := V.exactL_at xs ys j hlt hlt2 HRr.out.symm
        have HF := Lib.hid (HBw.out.trans (HB4.out.mono HBw.out.size))
        clear HBr HB4 HAll HC
        go_wp2
        go_ret
        exact ⟨by rw [HE.out]; rfl, HF.out⟩
    · have HE : Hid (V.exactL xs ys = true) := V.exactL_all xs ys H5.out (fun m h1 h2 => HL.out.2 m h1 h2 (by omega))
      have HF := Lib.hid hbw
      have hjn : ¬ (j : Int) < (xs.length : Int) := by omega
      clear HL hbw hlt
      go_wp2
      go_ret
      exact ⟨by rw [HE.out]; rfl, HF.out⟩
end Go.Proofs.Ytnlhpndjogjejaa
