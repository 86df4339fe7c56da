/- Plain: values, as trees; what the document says of them. -/
import Derived.Test.YtooklmgkkkbfdaaWFix6
namespace Go.Proofs.Ytooklmgkkkbfdaa

/-- a value -/
structure V where
  kind : Int
  int : Int
  bits : Nat
  text : ByteArray
  items : List V

namespace V
/-- what holds of each value if it holds of one whenever it holds of its items -/
theorem ind {P : V → Prop} (h : ∀ k i b t xs, (∀ x ∈ xs, P x) → P (.mk k i b t xs)) : ∀ v, P v := fun v =>
  V.rec (motive_1 := P) (motive_2 := fun xs => ∀ x ∈ xs, P x) (fun k i b t xs ih => h k i b t xs ih) (fun x hx => by cases hx)
    (fun x xs hx hxs y hy => by
      rcases List.mem_cons.1 hy with rfl | hy
      · exact hx
      · exact hxs y hy) v

/-- each float fixed -/
def fix (v : V) : V := match v with
  | .mk k i b t xs => .mk k i (fixB b) t (xs.map fix)
def fixL (xs : List V) : List V := xs.map fix
theorem fix_mk (k i : Int) (b : Nat) (t : ByteArray) (xs : List V) : fix (.mk k i b t xs) = .mk k i (fixB b) t (fixL xs) := by rw [fix, fixL]
theorem fixL_eq (xs : List V) : fixL xs = xs.map fix := rfl

/-- each item as its test says -/
def eqL : List (V → Bool) → List V → Bool
  | [], [] => true
  | f :: fs, y :: ys => f y && eqL fs ys
  | _, _ => false
/-- floats bit by bit -/
def exact (v : V) : V → Bool := match v with
  | .mk k i b t xs => fun y => k == y.kind && i == y.int && decide (t = y.text) && b == y.bits && eqL (xs.map exact) y.items
def exactL (xs ys : List V) : Bool := eqL (xs.map exact) ys
theorem exact_mk (k i : Int) (b : Nat) (t : ByteArray) (xs : List V) (k' i' : Int) (b' : Nat) (t' : ByteArray) (ys : List V) : exact (.mk k i b t xs) (.mk k' i' b' t' ys) = (k == k' && i == i' && decide (t = t') && b == b' && exactL xs ys) := by rw [exact, exactL]
theorem exactL_nil : exactL [] [] = true := rfl
theorem exactL_cons (x : V) (r : List V) (y : V) (s : List V) : exactL (x :: r) (y :: s) = (exact x y && exactL r s) := rfl
theorem exactL_nc (y : V) (s : List V) : exactL [] (y :: s) = false := rfl
theorem exactL_cn (x : V) (r : List V) : exactL (x :: r) [] = false := rfl
/-- P6.3 -/
def same (v : V) : V → Bool := match v with
  | .mk k i b t xs => fun y => k == y.kind && i == y.int && decide (t = y.text) && fixB b == fixB y.bits && eqL (xs.map same) y.items
def sameL (xs ys : List V) : Bool := eqL (xs.map same) ys
theorem same_mk (k i : Int) (b : Nat) (t : ByteArray) (xs : List V) (k' i' : Int) (b' : Nat) (t' : ByteArray) (ys : List V) : same (.mk k i b t xs) (.mk k' i' b' t' ys) = (k == k' && i == i' && decide (t = t') && fixB b == fixB b' && sameL xs ys) := by rw [same, sameL]
theorem sameL_nil : sameL [] [] = true := rfl
theorem sameL_cons (x : V) (r : List V) (y : V) (s : List V) : sameL (x :: r) (y :: s) = (same x y && sameL r s) := rfl
theorem sameL_nc (y : V) (s : List V) : sameL [] (y :: s) = false := rfl
theorem sameL_cn (x : V) (r : List V) : sameL (x :: r) [] = false := rfl

/-- a field that is not the kind's is zero -/
def ownB (k i : Int) (b : Nat) (t : ByteArray) (n : Nat) : Bool :=
  decide (1 ≤ k ∧ k ≤ 7) && (k == 1 || k == 2 || i == 0) && (k == 3 || fixB b == 0) && (k == 4 || k == 5 || decide (t.toList = [])) && (k == 6 || k == 7 || n == 0) && (k != 1 || i == 0 || i == 1) && (k != 6 || decide (n < 2))
def own : V → Bool
  | .mk k i b t xs => ownB k i b t xs.length

/-- the first error of some -/
def first : List Nat → Nat
  | [] => 0
  | e :: r => if e = 0 then first r else e
/-- P6.1; utf: which texts are right -/
def check (utf : ByteArray → Bool) (d : Nat) (v : V) : Nat := match v with
  | .mk k i b t xs => if 4 < d then 62 else if own (.mk k i b t xs) = false then 60 else if 1024 < t.size then 2 else if 256 < xs.length then 3 else if k = 4 ∧ utf t = false then 61 else first (xs.map (check utf (d + 1)))
def checkL (utf : ByteArray → Bool) (d : Nat) (xs : List V) : Nat := first (xs.map (check utf d))
theorem check_mk (utf : ByteArray → Bool) (d : Nat) (k i : Int) (b : Nat) (t : ByteArray) (xs : List V) : check utf d (.mk k i b t xs) = if 4 < d then 62 else if own (.mk k i b t xs) = false then 60 else if 1024 < t.size then 2 else if 256 < xs.length then 3 else if k = 4 ∧ utf t = false then 61 else checkL utf (d + 1) xs := by rw [check, checkL]
theorem checkL_nil (utf : ByteArray → Bool) (d : Nat) : checkL utf d [] = 0 := rfl
theorem checkL_cons (utf : ByteArray → Bool) (d : Nat) (x : V) (r : List V) : checkL utf d (x :: r) = if check utf d x = 0 then checkL utf d r else check utf d x := rfl

theorem exact_iff : ∀ a b : V, exact a b = true ↔ a = b := by
  intro a
  refine V.ind (P := fun a => ∀ b, exact a b = true ↔ a = b) ?_ a
  intro k i b t xs ih c
  have hL : ∀ (xs ys : List V), (∀ x ∈ xs, ∀ b, exact x b = true ↔ x = b) → (exactL xs ys = true ↔ xs = ys) := by
    intro xs
    induction xs with
    | nil => intro ys _; cases ys <;> simp [exactL_nil, exactL_nc]
    | cons x r ihr =>
      intro ys hx
      cases ys with
      | nil => simp [exactL_cn]
      | cons y s =>
        simp only [exactL_cons, Bool.and_eq_true, List.cons.injEq]
        rw [hx x (by simp) y, ihr s (fun z hz => hx z (by simp [hz]))]
  cases c with
  | mk k' i' b' t' ys =>
    simp only [exact_mk, Bool.and_eq_true, beq_iff_eq, decide_eq_true_eq, V.mk.injEq]
    rw [hL xs ys ih]
    constructor
    · rintro ⟨⟨⟨⟨h1, h2⟩, h3⟩, h4⟩, h5⟩; exact ⟨h1, h2, h4, h3, h5⟩
    · rintro ⟨h1, h2, h3, h4, h5⟩; exact ⟨⟨⟨⟨h1, h2⟩, h4⟩, h3⟩, h5⟩
theorem sameL_len : ∀ (xs ys : List V), sameL xs ys = true → xs.length = ys.length
  | [], [], _ => rfl
  | x :: r, y :: s, h => by
    simp only [sameL_cons, Bool.and_eq_true] at h
    simp [sameL_len r s h.2]
  | [], y :: s, h => by simp [sameL_nc] at h
  | x :: r, [], h => by simp [sameL_cn] at h
end V
end Go.Proofs.Ytooklmgkkkbfdaa
