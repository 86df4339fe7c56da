/- WRefL, WUtfR, WOwnR, WCheckR, VAlike: put together. -/
import Derived.Test.YtpjcmahlnnglcaaGreatDoorB01
import Derived.Test.YtpjcmahlnnglcaaGreatDoorB02

/- The walks of the document's own Put, Len, Zig, Zag, Get. -/
namespace Go.Proofs.YtpjcmahlnnglcaaGreatDoor
open Go.RowKit

/-- what is still to be put: xs stands, m is left -/
def Leb.Putting (n : Nat) (xs : List UInt8) (m : Nat) : Prop := xs.length ≤ 9 ∧ m < 2 * 128 ^ (9 - xs.length) ∧ Leb.put n = xs ++ Leb.putF (10 - xs.length) m

theorem Leb.putting_start {n : Nat} (h : n < 18446744073709551616) : Leb.Putting n [] n := by
  have e : 2 * 128 ^ 9 = 18446744073709551616 := by decide
  exact ⟨by simp, by simpa [e] using h, rfl⟩
theorem Leb.putting_next {n : Nat} {xs : List UInt8} {m : Nat} (h : Leb.Putting n xs m) (hm : 127 < m) : Leb.Putting n (xs ++ [UInt8.ofNat (m % 128 + 128)]) (m / 128) := by
  obtain ⟨h1, h2, h3⟩ := h
  have h4 : xs.length ≤ 8 := by
    rcases Nat.lt_or_ge 8 xs.length with h5 | h5
    · have : 9 - xs.length = 0 := by omega
      rw [this] at h2
      simp at h2
      omega
    · exact h5
  refine ⟨by simp; omega, ?_, ?_⟩
  · have e : 9 - xs.length = (9 - (xs ++ [UInt8.ofNat (m % 128 + 128)]).length) + 1 := by simp; omega
    rw [e, Nat.pow_succ] at h2
    rw [Nat.div_lt_iff_lt_mul (by omega)]
    omega
  · have e : 10 - xs.length = (10 - (xs ++ [UInt8.ofNat (m % 128 + 128)]).length) + 1 := by simp; omega
    rw [h3, e, Leb.putF, if_neg (by omega), List.append_assoc]
    rfl
theorem Leb.putting_last {n : Nat} {xs : List UInt8} {m : Nat} (h : Leb.Putting n xs m) (hm : m ≤ 127) : xs ++ [UInt8.ofNat m] = Leb.put n := by
  obtain ⟨h1, h2, h3⟩ := h
  have e : 10 - xs.length = (9 - xs.length) + 1 := by omega
  rw [h3, e, Leb.putF, if_pos (by omega)]

end Go.Proofs.YtpjcmahlnnglcaaGreatDoor

/- The document's Utf. -/
namespace Go.Proofs.YtpjcmahlnnglcaaGreatDoor
open Go.RowKit

theorem text_get (t : ByteArray) (i : Nat) (h : i < t.size) : t.data.toList[i]'(by simpa using h) = t[i] := by rw [Array.getElem_toList]; rfl

end Go.Proofs.YtpjcmahlnnglcaaGreatDoor

/- The document's own(v). -/
namespace Go.Proofs.YtpjcmahlnnglcaaGreatDoor
open Go.RowKit

end Go.Proofs.YtpjcmahlnnglcaaGreatDoor

/- The document's at(v, depth), Check. -/
namespace Go.Proofs.YtpjcmahlnnglcaaGreatDoor
open Go.RowKit

/-- a text is right -/
def utfT (t : ByteArray) : Bool := U8.utf t.data.toList
/-- P6.1, at a depth -/
def chk (d : Nat) (x : V) : Nat := V.check utfT d x
def chkL (d : Nat) (xs : List V) : Nat := V.checkL utfT d xs

theorem chk_mk (d : Nat) (k i : Int) (b : Nat) (t : ByteArray) (xs : List V) : chk d (.mk k i b t xs) = if 4 < d then 62 else if V.ownB k i b t xs.length = false then 60 else if 1024 < t.size then 2 else if 256 < xs.length then 3 else if k = 4 ∧ utfT t = false then 61 else chkL (d + 1) xs := by
  unfold chk chkL
  rw [V.check_mk]
  rfl
theorem chkL_all (d : Nat) : ∀ xs : List V, (∀ j (h : j < xs.length), chk d xs[j] = 0) → chkL d xs = 0
  | [], _ => by unfold chkL; rw [V.checkL_nil]
  | x :: r, h => by
    have h0 := h 0 (by simp)
    have hr := chkL_all d r (fun j hj => h (j + 1) (by simpa using hj))
    unfold chk at h0
    unfold chkL at hr ⊢
    simp only [List.getElem_cons_zero] at h0
    rw [V.checkL_cons, if_pos h0, hr]
theorem chkL_at (d : Nat) : ∀ (xs : List V) (j : Nat) (hj : j < xs.length), (∀ m (h : m < xs.length), m < j → chk d xs[m] = 0) → chk d xs[j] ≠ 0 → chkL d xs = chk d xs[j]
  | x :: r, 0, _, _, hn => by
    unfold chk at hn
    unfold chkL chk
    simp only [List.getElem_cons_zero] at hn ⊢
    rw [V.checkL_cons, if_neg hn]
  | x :: r, j + 1, hj, h, hn => by
    have h0 := h 0 (by simp) (by omega)
    have hr := chkL_at d r j (by simpa using hj) (fun m hm hmj => by have := h (m + 1) (by simpa using hm) (by omega); simpa using this) (by simpa using hn)
    unfold chk at h0
    unfold chkL at hr ⊢
    simp only [List.getElem_cons_zero] at h0
    rw [V.checkL_cons, if_pos h0, hr]
    rfl

end Go.Proofs.YtpjcmahlnnglcaaGreatDoor

/- Plain: being the same is being fixed to one value; fixing changes nothing that is checked (P6.5). -/
namespace Go.Proofs.YtpjcmahlnnglcaaGreatDoor

theorem fixB_idem (b : Nat) : fixB (fixB b) = fixB b := by
  unfold fixB
  by_cases h : nanB b = true
  · rw [if_pos h]
    kernel_rfl
  · rw [if_neg h, if_neg h]

theorem same_iff : ∀ x y : V, V.same x y = true ↔ V.fix x = V.fix y := by
  intro x
  refine V.ind (P := fun x => ∀ y, V.same x y = true ↔ V.fix x = V.fix y) ?_ x
  intro k i b t xs ih y
  have hL : ∀ (xs ys : List V), (∀ x ∈ xs, ∀ y, V.same x y = true ↔ V.fix x = V.fix y) → (V.sameL xs ys = true ↔ xs.map V.fix = ys.map V.fix) := by
    intro xs
    induction xs with
    | nil => intro ys _; cases ys <;> simp [V.sameL_nil, V.sameL_nc]
    | cons x r ihr =>
      intro ys hx
      cases ys with
      | nil => simp [V.sameL_cn]
      | cons y s =>
        simp only [V.sameL_cons, Bool.and_eq_true, List.map_cons, List.cons.injEq]
        rw [hx x (by simp) y, ihr s (fun z hz => hx z (by simp [hz]))]
  obtain ⟨k', i', b', t', ys⟩ := y
  rw [V.same_mk, V.fix_mk, V.fix_mk, V.fixL_eq, V.fixL_eq]
  simp only [Bool.and_eq_true, beq_iff_eq, decide_eq_true_eq, V.mk.injEq]
  rw [hL xs ys ih]
  constructor
  · rintro ⟨⟨⟨⟨h1, h2⟩, h3⟩, h4⟩, h5⟩; exact ⟨h1, h2, h4, h3, h5⟩
  · rintro ⟨h1, h2, h3, h4, h5⟩; exact ⟨⟨⟨⟨h1, h2⟩, h4⟩, h3⟩, h5⟩

theorem chk_fix : ∀ (x : V) (d : Nat), chk d (V.fix x) = chk d x := by
  intro x
  refine V.ind (P := fun x => ∀ d, chk d (V.fix x) = chk d x) ?_ x
  intro k i b t xs ih d
  have hL : ∀ (xs : List V), (∀ x ∈ xs, ∀ d, chk d (V.fix x) = chk d x) → chkL (d + 1) (V.fixL xs) = chkL (d + 1) xs := by
    intro xs
    induction xs with
    | nil => intro _; rfl
    | cons x r ihr =>
      intro hx
      have h1 := hx x (by simp) (d + 1)
      have h2 := ihr (fun z hz => hx z (by simp [hz]))
      unfold chkL at h2 ⊢
      unfold chk at h1
      rw [V.fixL_eq] at h2 ⊢
      rw [List.map_cons, V.checkL_cons, V.checkL_cons, h1, h2]
  have ho : V.ownB k i (fixB b) t xs.length = V.ownB k i b t xs.length := by unfold V.ownB; rw [fixB_idem]
  have hlen : (V.fixL xs).length = xs.length := by rw [V.fixL_eq, List.length_map]
  rw [V.fix_mk, chk_mk, chk_mk, hL xs ih, hlen, ho]

end Go.Proofs.YtpjcmahlnnglcaaGreatDoor
