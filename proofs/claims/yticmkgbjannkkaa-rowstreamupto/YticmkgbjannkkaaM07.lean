/- VAlike, Sch: put together. -/
import Derived.Test.YticmkgbjannkkaaM06
import Derived.Test.YticmkgbjannkkaaM04
import Derived.Test.YticmkgbjannkkaaM03

/- Plain: being the same is being fixed to one value; fixing changes nothing that is checked (P6.5). -/
namespace Go.Proofs.Yticmkgbjannkkaa

theorem fixB_idem (b : Nat) : fixB (fixB b) = fixB b := by
  unfold fixB
  by_cases h : nanB b = true
  · rw [if_pos h]
    kernel_rfl
  · rw [if_neg h, if_neg h]

theorem map_eq_of {xs : List V} {f g : V → V} (h : ∀ x ∈ xs, f x = g x) : xs.map f = xs.map g := List.map_congr_left h

theorem fix_idem : ∀ x : V, V.fix (V.fix x) = V.fix x := by
  intro x
  refine V.ind (P := fun x => V.fix (V.fix x) = V.fix x) ?_ x
  intro k i b t xs ih
  rw [V.fix_mk, V.fix_mk, fixB_idem, V.fixL_eq, V.fixL_eq, List.map_map]
  congr 1
  exact map_eq_of ih

theorem same_iff : ∀ x y : V, V.same x y = true ↔ V.fix x = V.fix y := by
  intro x
  refine V.ind (P := fun x => ∀ y, V.same x y = true ↔ V.fix x = V.fix y) ?_ x
  intro k i b t xs ih y
  have hL : ∀ (xs ys : List V), (∀ x ∈ xs, ∀ y, V.same x y = true ↔ V.fix x = V.fix y) → (V.sameL xs ys = true ↔ xs.map V.fix = ys.map V.fix) := by
    intro xs
    induction xs with
    | nil => intro ys _; cases ys <;> simp [V.sameL_nil, V.sameL_nc]
    | cons x r ihr =>
      intro ys hx
      cases ys with
      | nil => simp [V.sameL_cn]
      | cons y s =>
        simp only [V.sameL_cons, Bool.and_eq_true, List.map_cons, List.cons.injEq]
        rw [hx x (by simp) y, ihr s (fun z hz => hx z (by simp [hz]))]
  obtain ⟨k', i', b', t', ys⟩ := y
  rw [V.same_mk, V.fix_mk, V.fix_mk, V.fixL_eq, V.fixL_eq]
  simp only [Bool.and_eq_true, beq_iff_eq, decide_eq_true_eq, V.mk.injEq]
  rw [hL xs ys ih]
  constructor
  · rintro ⟨⟨⟨⟨h1, h2⟩, h3⟩, h4⟩, h5⟩; exact ⟨h1, h2, h4, h3, h5⟩
  · rintro ⟨h1, h2, h3, h4, h5⟩; exact ⟨⟨⟨⟨h1, h2⟩, h4⟩, h3⟩, h5⟩

theorem chk_fix : ∀ (x : V) (d : Nat), chk d (V.fix x) = chk d x := by
  intro x
  refine V.ind (P := fun x => ∀ d, chk d (V.fix x) = chk d x) ?_ x
  intro k i b t xs ih d
  have hL : ∀ (xs : List V), (∀ x ∈ xs, ∀ d, chk d (V.fix x) = chk d x) → chkL (d + 1) (V.fixL xs) = chkL (d + 1) xs := by
    intro xs
    induction xs with
    | nil => intro _; rfl
    | cons x r ihr =>
      intro hx
      have h1 := hx x (by simp) (d + 1)
      have h2 := ihr (fun z hz => hx z (by simp [hz]))
      unfold chkL at h2 ⊢
      unfold chk at h1
      rw [V.fixL_eq] at h2 ⊢
      rw [List.map_cons, V.checkL_cons, V.checkL_cons, h1, h2]
  have ho : V.ownB k i (fixB b) t xs.length = V.ownB k i b t xs.length := by unfold V.ownB; rw [fixB_idem]
  have hlen : (V.fixL xs).length = xs.length := by rw [V.fixL_eq, List.length_map]
  rw [V.fix_mk, chk_mk, chk_mk, hL xs ih, hlen, ho]

theorem same_fixed (x : V) : V.same (V.fix x) x = true := (same_iff _ _).2 (fix_idem x)
theorem same_self (x : V) : V.same x x = true := (same_iff _ _).2 rfl
theorem bool_of_iff {a b : Bool} (h : a = true ↔ b = true) : a = b := by cases a <;> cases b <;> simp_all
theorem same_swap (x y : V) : V.same y x = V.same x y := bool_of_iff (by rw [same_iff, same_iff]; exact ⟨Eq.symm, Eq.symm⟩)
theorem same_on {x y : V} (h : V.same x y = true) (z : V) : V.same y z = V.same x z := bool_of_iff (by rw [same_iff, same_iff, (same_iff x y).1 h])
theorem same_chk {x y : V} (h : V.same x y = true) (d : Nat) : chk d x = chk d y := by rw [← chk_fix x, ← chk_fix y, (same_iff x y).1 h]
theorem same_exact {x y : V} (h : V.same x y = true) : V.exact (V.fix x) (V.fix y) = true := (V.exact_iff _ _).2 ((same_iff x y).1 h)
theorem fix_exact (x : V) : V.exact (V.fix (V.fix x)) (V.fix x) = true := (V.exact_iff _ _).2 (fix_idem x)
end Go.Proofs.Yticmkgbjannkkaa

/- Plain: schemas, their bytes and how they are read; what the document says of them. -/
namespace Go.Proofs.Yticmkgbjannkkaa

/-- a value whose numbers fit -/
def V.wf (v : V) : Prop := match v with
  | .mk k i b t xs => (-9223372036854775808 ≤ k ∧ k ≤ 9223372036854775807) ∧ (-9223372036854775808 ≤ i ∧ i ≤ 9223372036854775807) ∧ b < 18446744073709551616 ∧ t.size ≤ 140737488351232 ∧ ∀ p ∈ xs.map V.wf, p
theorem V.wf_mk {k i : Int} {b : Nat} {t : ByteArray} {xs : List V} : V.wf (.mk k i b t xs) ↔ (-9223372036854775808 ≤ k ∧ k ≤ 9223372036854775807) ∧ (-9223372036854775808 ≤ i ∧ i ≤ 9223372036854775807) ∧ b < 18446744073709551616 ∧ t.size ≤ 140737488351232 ∧ ∀ x ∈ xs, V.wf x := by
  rw [V.wf]
  simp only [List.mem_map, forall_exists_index, and_imp, forall_apply_eq_imp_iff₂]
/-- a type whose numbers fit -/
def Ty.wf (v : Ty) : Prop := match v with
  | .mk k xs => (-9223372036854775808 ≤ k ∧ k ≤ 9223372036854775807) ∧ ∀ p ∈ xs.map Ty.wf, p
theorem Ty.wf_mk {k : Int} {xs : List Ty} : Ty.wf (.mk k xs) ↔ (-9223372036854775808 ≤ k ∧ k ≤ 9223372036854775807) ∧ ∀ x ∈ xs, Ty.wf x := by
  rw [Ty.wf]
  simp only [List.mem_map, forall_exists_index, and_imp, forall_apply_eq_imp_iff₂]

/-- the zero value -/
def V0 : V := .mk 0 0 0 ⟨#[]⟩ []
/-- a column -/
structure Col where
  name : ByteArray
  ty : Ty
  has : Bool
  dflt : V
def Col.wf (c : Col) : Prop := c.name.size ≤ 140737488351232 ∧ c.ty.wf ∧ c.dflt.wf
def Col.fix (c : Col) : Col := ⟨c.name, c.ty, c.has, V.fix c.dflt⟩

namespace Sch
/-- a sign that a name may have -/
def low (c : UInt8) : Bool := decide (97 ≤ c.toNat ∧ c.toNat ≤ 122)
def ch (c : UInt8) : Bool := low c || decide (48 ≤ c.toNat ∧ c.toNat ≤ 57) || decide (c.toNat = 95)
/-- P7.2 -/
def nameL (l : List UInt8) : Bool := decide (1 ≤ l.length ∧ l.length ≤ 16) && low (l.headD 0) && l.all ch
def name (t : ByteArray) : Bool := nameL t.data.toList

/-- what a type is of -/
def inner (t : Ty) : Ty := t.of.headD ⟨0, []⟩
/-- a value is of a type -/
def of (v : V) : Ty → Bool := match v with
  | .mk k _ _ _ xs => fun t => k == t.kind && (xs.map of).all (fun f => f (inner t))
theorem of_mk (k i : Int) (b : Nat) (s : ByteArray) (xs : List V) (t : Ty) : of (.mk k i b s xs) t = (k == t.kind && xs.all (fun x => of x (inner t))) := by
  rw [of]
  simp [List.all_map, Function.comp_def]
/-- P7.5 -/
def is (v : V) (t : Ty) : Bool := decide (Ty.check 1 t = 0) && decide (chk 1 v = 0) && of v t

/-- P7.3, of a column behind others -/
def colErr (l : List Col) (c : Col) : Nat :=
  if name c.name = false then 70 else if l.any (fun x => decide (x.name = c.name)) then 71 else if Ty.check 1 c.ty ≠ 0 then Ty.check 1 c.ty
  else if c.has = false then (if V.same c.dflt V0 then 0 else 80) else if chk 1 c.dflt ≠ 0 then chk 1 c.dflt else if is c.dflt c.ty then 0 else 80
def colsErr : List Col → List Col → Nat
  | _, [] => 0
  | l, c :: r => if colErr l c = 0 then colsErr (l ++ [c]) r else colErr l c

/-- a type's bytes -/
def tyB (t : Ty) : List UInt8 := match t with
  | .mk k xs => UInt8.ofNat k.toNat :: (if k = 6 ∨ k = 7 then (xs.map tyB).headD [] else [])
theorem tyB_mk (k : Int) (xs : List Ty) : tyB (.mk k xs) = UInt8.ofNat k.toNat :: (if k = 6 ∨ k = 7 then (xs.map tyB).headD [] else []) := by rw [tyB]
/-- so many bytes, the lowest first -/
def le : Nat → Nat → List UInt8
  | 0, _ => []
  | k + 1, n => UInt8.ofNat (n % 256) :: le k (n / 256)
def un : List UInt8 → Nat
  | [] => 0
  | c :: r => un r * 256 + c.toNat
/-- a value's bytes -/
def vB (v : V) : List UInt8 := match v with
  | .mk k i b t xs => (if k = 1 then [UInt8.ofNat i.toNat] else if k = 2 then Leb.put (Leb.zig i) else if k = 3 then le 8 (fixB b) else if k = 4 ∨ k = 5 then Leb.put t.size ++ t.data.toList
    else if k = 6 then [if 0 < xs.length then 1 else 0] else if k = 7 then Leb.put xs.length else []) ++ (if k = 1 ∨ k = 2 ∨ k = 3 ∨ k = 4 ∨ k = 5 then [] else (xs.map vB).flatten)
/-- a value's first bytes, its items not told -/
def vH (k i : Int) (b : Nat) (t : ByteArray) (n : Nat) : List UInt8 :=
  if k = 1 then [UInt8.ofNat i.toNat] else if k = 2 then Leb.put (Leb.zig i) else if k = 3 then le 8 (fixB b) else if k = 4 ∨ k = 5 then Leb.put t.size ++ t.data.toList else if k = 6 then [if 0 < n then 1 else 0] else if k = 7 then Leb.put n else []
theorem vB_mk (k i : Int) (b : Nat) (t : ByteArray) (xs : List V) : vB (.mk k i b t xs) = vH k i b t xs.length ++ (if k = 1 ∨ k = 2 ∨ k = 3 ∨ k = 4 ∨ k = 5 then [] else (xs.map vB).flatten) := by rw [vB, vH]
def cB (c : Col) : List UInt8 := Leb.put c.name.size ++ (c.name.data.toList ++ (tyB c.ty ++ (if c.has then 1 else 0) :: (if c.has then vB c.dflt else [])))
def bytes (s : List Col) : List UInt8 := Leb.put s.length ++ (s.map cB).flatten
/-- P7.3 -/
def err (s : List Col) : Nat := if s.length = 0 then 4 else if 16 < s.length then 3 else if colsErr [] s ≠ 0 then colsErr [] s else if 1024 < (bytes s).length then 2 else 0
/-- P7.4 -/
def colSame (c d : Col) : Bool := decide (c.name = d.name) && (c.has == d.has) && Ty.same c.ty d.ty && V.same c.dflt d.dflt
def same : List Col → List Col → Bool
  | [], [] => true
  | c :: r, d :: s => colSame c d && same r s
  | _, _ => false
/-- P7.8: the place, or how many there are -/
def find (n : ByteArray) : List Col → Nat → Option Nat
  | [], _ => none
  | c :: r, k => if c.name = n then some k else find n r (k + 1)

/-- what is read, and how many bytes it took -/
def bit : List UInt8 → Except Nat (Nat × Nat)
  | [] => .error 30
  | c :: _ => if 1 < c.toNat then .error 5 else .ok (c.toNat, 1)
def num (l : List UInt8) : Except Nat (Nat × Nat) := if (Leb.get l).err = 0 then .ok ((Leb.get l).n, (Leb.get l).k) else .error (Leb.get l).err
def text (most long : Nat) (l : List UInt8) : Except Nat (ByteArray × Nat) := match num l with
  | .error e => .error e
  | .ok (n, k) => if most < n then .error long else if l.length - k < n then .error 30 else .ok (⟨((l.drop k).take n).toArray⟩, k + n)
def float (l : List UInt8) : Except Nat (Nat × Nat) := if l.length < 8 then .error 30 else if fixB (un (l.take 8)) = un (l.take 8) then .ok (un (l.take 8), 8) else .error 5
def scalar (k : Int) (l : List UInt8) : Except Nat (V × Nat) :=
  if k = 1 then match bit l with
    | .error e => .error e
    | .ok (n, j) => .ok (.mk k n 0 ⟨#[]⟩ [], j)
  else if k = 2 then match num l with
    | .error e => .error e
    | .ok (n, j) => .ok (.mk k (Leb.zag n) 0 ⟨#[]⟩ [], j)
  else if k = 3 then match float l with
    | .error e => .error e
    | .ok (n, j) => .ok (.mk k 0 n ⟨#[]⟩ [], j)
  else match text 1024 2 l with
    | .error e => .error e
    | .ok (t, j) => if k = 4 ∧ utfT t = false then .error 61 else .ok (.mk k 0 0 t [], j)
def rdN (f : List UInt8 → Except Nat (V × Nat)) : Nat → List UInt8 → Except Nat (List V × Nat)
  | 0, _ => .ok ([], 0)
  | m + 1, l => match f l with
    | .error e => .error e
    | .ok (v, j) => match rdN f m (l.drop j) with
      | .error e => .error e
      | .ok (vs, j2) => .ok (v :: vs, j + j2)
/-- how many items come -/
def many (k : Int) (l : List UInt8) : Except Nat (Nat × Nat) := if k = 6 then bit l else match num l with
  | .error e => .error e
  | .ok (n, j) => if 256 < n then .error 3 else .ok (n, j)
def rdV (t : Ty) : List UInt8 → Except Nat (V × Nat) := match t with
  | .mk k xs => fun l => if k ≠ 6 ∧ k ≠ 7 then scalar k l else match many k l with
    | .error e => .error e
    | .ok (m, j) => match rdN ((xs.map rdV).headD (fun _ => .error 0)) m (l.drop j) with
      | .error e => .error e
      | .ok (vs, j2) => .ok (.mk k 0 0 ⟨#[]⟩ vs, j + j2)
theorem rdV_mk (k : Int) (xs : List Ty) (l : List UInt8) : rdV (.mk k xs) l = if k ≠ 6 ∧ k ≠ 7 then scalar k l else match many k l with
    | .error e => .error e
    | .ok (m, j) => match rdN ((xs.map rdV).headD (fun _ => .error 0)) m (l.drop j) with
      | .error e => .error e
      | .ok (vs, j2) => .ok (.mk k 0 0 ⟨#[]⟩ vs, j + j2) := by rw [rdV]
def rdT : Nat → List UInt8 → Except Nat (Ty × Nat)
  | 0, _ => .error 62
  | _ + 1, [] => .error 30
  | f + 1, c :: r => if c.toNat < 1 ∨ 7 < c.toNat then .error 60 else if c.toNat ≠ 6 ∧ c.toNat ≠ 7 then .ok (⟨(c.toNat : Int), []⟩, 1) else match rdT f r with
    | .error e => .error e
    | .ok (t, j) => .ok (⟨(c.toNat : Int), [t]⟩, j + 1)
def rdC (l : List Col) (b : List UInt8) : Except Nat (Col × Nat) := match num b with
  | .error e => .error e
  | .ok (n, _) => if n = 0 then .error 70 else match text 16 70 b with
    | .error e => .error e
    | .ok (s, j) => if name s = false then .error 70 else if l.any (fun x => decide (x.name = s)) then .error 71 else match rdT 4 (b.drop j) with
      | .error e => .error e
      | .ok (t, j2) => match bit (b.drop (j + j2)) with
        | .error e => .error e
        | .ok (h, j3) => if h = 0 then .ok (⟨s, t, false, V0⟩, j + j2 + j3) else match rdV t (b.drop (j + j2 + j3)) with
          | .error e => .error e
          | .ok (v, j4) => .ok (⟨s, t, true, v⟩, j + j2 + j3 + j4)
def rdCs : Nat → List Col → List UInt8 → Except Nat (List Col × Nat)
  | 0, l, _ => .ok (l, 0)
  | m + 1, l, b => match rdC l b with
    | .error e => .error e
    | .ok (c, j) => match rdCs m (l ++ [c]) (b.drop j) with
      | .error e => .error e
      | .ok (l2, j2) => .ok (l2, j + j2)
/-- P7.7 -/
def read (b : List UInt8) : Except Nat (List Col) := if 1024 < b.length then .error 2 else match num b with
  | .error e => .error e
  | .ok (n, k) => if n = 0 then .error 4 else if 16 < n then .error 3 else match rdCs n [] (b.drop k) with
    | .error e => .error e
    | .ok (l, j) => if k + j = b.length then .ok l else .error 5
end Sch
end Go.Proofs.Yticmkgbjannkkaa
