/- Plain: being the same is being fixed to one value; fixing changes nothing that is checked (P6.5). -/
import Derived.Test.YtooklmgkkkbfdaaWCheckR
import Derived.Test.YtooklmgkkkbfdaaWSameR
namespace Go.Proofs.Ytooklmgkkkbfdaa

theorem fixB_idem (b : Nat) : fixB (fixB b) = fixB b := by
  unfold fixB
  by_cases h : nanB b = true
  · rw [if_pos h]
    kernel_rfl
  · rw [if_neg h, if_neg h]

theorem map_eq_of {xs : List V} {f g : V → V} (h : ∀ x ∈ xs, f x = g x) : xs.map f = xs.map g := List.map_congr_left h

theorem fix_idem : ∀ x : V, V.fix (V.fix x) = V.fix x := by
  intro x
  refine V.ind (P := fun x => V.fix (V.fix x) = V.fix x) ?_ x
  intro k i b t xs ih
  rw [V.fix_mk, V.fix_mk, fixB_idem, V.fixL_eq, V.fixL_eq, List.map_map]
  congr 1
  exact map_eq_of ih

theorem same_iff : ∀ x y : V, V.same x y = true ↔ V.fix x = V.fix y := by
  intro x
  refine V.ind (P := fun x => ∀ y, V.same x y = true ↔ V.fix x = V.fix y) ?_ x
  intro k i b t xs ih y
  have hL : ∀ (xs ys : List V), (∀ x ∈ xs, ∀ y, V.same x y = true ↔ V.fix x = V.fix y) → (V.sameL xs ys = true ↔ xs.map V.fix = ys.map V.fix) := by
    intro xs
    induction xs with
    | nil => intro ys _; cases ys <;> simp [V.sameL_nil, V.sameL_nc]
    | cons x r ihr =>
      intro ys hx
      cases ys with
      | nil => simp [V.sameL_cn]
      | cons y s =>
        simp only [V.sameL_cons, Bool.and_eq_true, List.map_cons, List.cons.injEq]
        rw [hx x (by simp) y, ihr s (fun z hz => hx z (by simp [hz]))]
  obtain ⟨k', i', b', t', ys⟩ := y
  rw [V.same_mk, V.fix_mk, V.fix_mk, V.fixL_eq, V.fixL_eq]
  simp only [Bool.and_eq_true, beq_iff_eq, decide_eq_true_eq, V.mk.injEq]
  rw [hL xs ys ih]
  constructor
  · rintro ⟨⟨⟨⟨h1, h2⟩, h3⟩, h4⟩, h5⟩; exact ⟨h1, h2, h4, h3, h5⟩
  · rintro ⟨h1, h2, h3, h4, h5⟩; exact ⟨⟨⟨⟨h1, h2⟩, h4⟩, h3⟩, h5⟩

theorem chk_fix : ∀ (x : V) (d : Nat), chk d (V.fix x) = chk d x := by
  intro x
  refine V.ind (P := fun x => ∀ d, chk d (V.fix x) = chk d x) ?_ x
  intro k i b t xs ih d
  have hL : ∀ (xs : List V), (∀ x ∈ xs, ∀ d, chk d (V.fix x) = chk d x) → chkL (d + 1) (V.fixL xs) = chkL (d + 1) xs := by
    intro xs
    induction xs with
    | nil => intro _; rfl
    | cons x r ihr =>
      intro hx
      have h1 := hx x (by simp) (d + 1)
      have h2 := ihr (fun z hz => hx z (by simp [hz]))
      unfold chkL at h2 ⊢
      unfold chk at h1
      rw [V.fixL_eq] at h2 ⊢
      rw [List.map_cons, V.checkL_cons, V.checkL_cons, h1, h2]
  have ho : V.ownB k i (fixB b) t xs.length = V.ownB k i b t xs.length := by unfold V.ownB; rw [fixB_idem]
  have hlen : (V.fixL xs).length = xs.length := by rw [V.fixL_eq, List.length_map]
  rw [V.fix_mk, chk_mk, chk_mk, hL xs ih, hlen, ho]

theorem same_fixed (x : V) : V.same (V.fix x) x = true := (same_iff _ _).2 (fix_idem x)
theorem same_self (x : V) : V.same x x = true := (same_iff _ _).2 rfl
theorem bool_of_iff {a b : Bool} (h : a = true ↔ b = true) : a = b := by cases a <;> cases b <;> simp_all
theorem same_swap (x y : V) : V.same y x = V.same x y := bool_of_iff (by rw [same_iff, same_iff]; exact ⟨Eq.symm, Eq.symm⟩)
theorem same_on {x y : V} (h : V.same x y = true) (z : V) : V.same y z = V.same x z := bool_of_iff (by rw [same_iff, same_iff, (same_iff x y).1 h])
theorem same_chk {x y : V} (h : V.same x y = true) (d : Nat) : chk d x = chk d y := by rw [← chk_fix x, ← chk_fix y, (same_iff x y).1 h]
theorem same_exact {x y : V} (h : V.same x y = true) : V.exact (V.fix x) (V.fix y) = true := (V.exact_iff _ _).2 ((same_iff x y).1 h)
theorem fix_exact (x : V) : V.exact (V.fix (V.fix x)) (V.fix x) = true := (V.exact_iff _ _).2 (fix_idem x)
end Go.Proofs.Ytooklmgkkkbfdaa
