/- VLies, Ty, TLies, WExact: put together. -/
import Derived.Test.YticmkgbjannkkaaM03
import Derived.Test.YticmkgbjannkkaaM01
import Derived.BigQuiet
import Derived.Deep.RegionHeld3

/- How a value lies in memory. -/
namespace Go.Proofs.Yticmkgbjannkkaa
open Go.RowKit

theorem below_via {B : Nat} {w wa W : World} (hb : Below B wa W) (h1 : wa.os = w.os) (h2 : wa.tape = w.tape) (h3 : wa.output = w.output) (h4 : wa.heap = w.heap) : Below B w W :=
  Below.trans ⟨h1, h2, h3, by rw [h4]; exact Nat.le_refl _, fun k _ => by rw [h4]⟩ hb
/-- a cell that is there stays -/
theorem cell_on {w w' : World} {p : Addr} {v : Value} (hb : Below w.heap.size w w') (h : w.cell? p = some v) : w'.cell? p = some v := by
  rw [hb.cell (World.block_lt_of_cell? _ _ h)]; exact h

/-- a value's five cells -/
def cells5 (k i : Int) (b : Nat) (t : ByteArray) (p : Option Addr) (n c : Nat) : Array Value := #[.int .i64 k, .int .i64 i, .float .f64 b, .string t, .slice p n c]

/-- one step of how a value lies: its items, of which P holds, in the block that its slice names -/
def VStep (w : World) (P : Array Value → V → Prop) (p : Option Addr) (c : Nat) (xs : List V) (us : Nat → Array Value) : Prop :=
  xs.length * 64 ≤ 140737488351232 ∧ xs.length ≤ c ∧ (xs ≠ [] → ∃ blk off, p = some ⟨blk, off, none⟩ ∧ blk < w.heap.size ∧ ∀ j, j < xs.length → ∀ m, m < 5 → w.cell? ⟨blk, off + j * 5 + m, none⟩ = (us j)[m]?) ∧ ∀ j (h : j < xs.length), P (us j) xs[j]
/-- so a value lies -/
def VLies (w : World) (u : Array Value) (x : V) : Prop :=
  ∀ P : Array Value → V → Prop, (∀ k i b t p c xs us, VStep w P p c xs us → P (cells5 k i b t p xs.length c) (.mk k i b t xs)) → P u x
theorem VLies.mk {w : World} {k i : Int} {b : Nat} {t : ByteArray} {p : Option Addr} {c : Nat} {xs : List V} (us : Nat → Array Value) (hl : xs.length * 64 ≤ 140737488351232) (hc : xs.length ≤ c)
    (hp : xs ≠ [] → ∃ blk off, p = some ⟨blk, off, none⟩ ∧ blk < w.heap.size ∧ ∀ j, j < xs.length → ∀ m, m < 5 → w.cell? ⟨blk, off + j * 5 + m, none⟩ = (us j)[m]?)
    (hr : ∀ j (h : j < xs.length), VLies w (us j) xs[j]) : VLies w (cells5 k i b t p xs.length c) (.mk k i b t xs) :=
  fun P hP => hP k i b t p c xs us ⟨hl, hc, hp, fun j h => hr j h P hP⟩
theorem VLies.inv {w : World} {u : Array Value} {x : V} (h : VLies w u x) : ∃ k i b t p c xs us, u = cells5 k i b t p xs.length c ∧ x = .mk k i b t xs ∧ VStep w (VLies w) p c xs us := by
  have := h (fun u x => VLies w u x ∧ ∃ k i b t p c xs us, u = cells5 k i b t p xs.length c ∧ x = .mk k i b t xs ∧ VStep w (VLies w) p c xs us) (fun k i b t p c xs us ⟨h1, h2, h3, h4⟩ =>
    ⟨.mk us h1 h2 h3 (fun j hj => (h4 j hj).1), k, i, b, t, p, c, xs, us, rfl, rfl, h1, h2, h3, fun j hj => (h4 j hj).1⟩)
  exact this.2

theorem VLies.on {w w' : World} {u : Array Value} {v : V} (h : VLies w u v) (hb : Below w.heap.size w w') : VLies w' u v := by
  refine h (VLies w') ?_
  rintro k i b t p c xs us ⟨hl, hc, hp, ih⟩
  refine .mk us hl hc (fun hne => ?_) ih
  obtain ⟨blk, off, h1, h2, h3⟩ := hp hne
  refine ⟨blk, off, h1, by have := hb.size; omega, fun j hj m hm => ?_⟩
  rw [hb.cell (p := ⟨blk, off + j * 5 + m, none⟩) h2]
  exact h3 j hj m hm

/-- one item of it: where it lies -/
structure Item (w : World) (p : Option Addr) (j : Nat) (u : Array Value) : Prop where
  lies : ∃ blk off k i b t q n c, p = some ⟨blk, off, none⟩ ∧ blk < w.heap.size ∧ u = cells5 k i b t q n c ∧ w.cell? ⟨blk, off + j * 5, none⟩ = some (.int .i64 k) ∧ w.cell? ⟨blk, off + j * 5 + 1, none⟩ = some (.int .i64 i) ∧ w.cell? ⟨blk, off + j * 5 + 2, none⟩ = some (.float .f64 b) ∧ w.cell? ⟨blk, off + j * 5 + 3, none⟩ = some (.string t) ∧ w.cell? ⟨blk, off + j * 5 + 4, none⟩ = some (.slice q n c)

theorem VLies.open {w : World} {u : Array Value} {k i : Int} {b : Nat} {t : ByteArray} {xs : List V} (h : VLies w u (.mk k i b t xs)) :
    ∃ p c, u = cells5 k i b t p xs.length c ∧ xs.length * 64 ≤ 140737488351232 ∧ xs.length ≤ c ∧ ∀ j (hj : j < xs.length), ∃ u', VLies w u' xs[j] ∧ Item w p j u' := by
  obtain ⟨k0, i0, b0, t0, p, c, xs0, us, rfl, hx, hl, hc, hp, hr⟩ := h.inv
  simp only [V.mk.injEq] at hx
  obtain ⟨rfl, rfl, rfl, rfl, rfl⟩ := hx
  refine ⟨p, c, rfl, hl, hc, fun j hj => ⟨us j, hr j hj, ?_⟩⟩
  obtain ⟨blk, off, h1, h2, h3⟩ := hp (fun hc => by rw [hc] at hj; simp at hj)
  obtain ⟨k', i', b', t', q, c', ys, us', hu, -, -⟩ := (hr j hj).inv
  have g := fun m hm => h3 j hj m hm
  rw [hu] at g ⊢
  exact ⟨blk, off, k', i', b', t', q, ys.length, c', h1, h2, rfl, g 0 (by omega), g 1 (by omega), g 2 (by omega), g 3 (by omega), g 4 (by omega)⟩
theorem Item.on {w w' : World} {p : Option Addr} {j : Nat} {u : Array Value} (h : Item w p j u) (hb : Below w.heap.size w w') : Item w' p j u := by
  obtain ⟨blk, off, k, i, b, t, q, n, c, h1, h2, h3, g0, g1, g2, g3, g4⟩ := h.lies
  refine ⟨⟨blk, off, k, i, b, t, q, n, c, h1, by have := hb.size; omega, h3, ?_, ?_, ?_, ?_, ?_⟩⟩
  · rw [hb.cell (p := ⟨blk, off + j * 5, none⟩) h2]; exact g0
  · rw [hb.cell (p := ⟨blk, off + j * 5 + 1, none⟩) h2]; exact g1
  · rw [hb.cell (p := ⟨blk, off + j * 5 + 2, none⟩) h2]; exact g2
  · rw [hb.cell (p := ⟨blk, off + j * 5 + 3, none⟩) h2]; exact g3
  · rw [hb.cell (p := ⟨blk, off + j * 5 + 4, none⟩) h2]; exact g4
end Go.Proofs.Yticmkgbjannkkaa

/- Plain: types, as trees; what the document says of them (P7.1, P7.4). -/
namespace Go.Proofs.Yticmkgbjannkkaa

/-- a type -/
structure Ty where
  kind : Int
  of : List Ty

namespace Ty
theorem ind {P : Ty → Prop} (h : ∀ k xs, (∀ x ∈ xs, P x) → P (.mk k xs)) : ∀ v, P v := fun v =>
  Ty.rec (motive_1 := P) (motive_2 := fun xs => ∀ x ∈ xs, P x) (fun k xs ih => h k xs ih) (fun x hx => by cases hx)
    (fun x xs hx hxs y hy => by
      rcases List.mem_cons.1 hy with rfl | hy
      · exact hx
      · exact hxs y hy) v

/-- each item as its test says -/
def eqL : List (Ty → Bool) → List Ty → Bool
  | [], [] => true
  | f :: fs, y :: ys => f y && eqL fs ys
  | _, _ => false
/-- P7.4 -/
def same (v : Ty) : Ty → Bool := match v with
  | .mk k xs => fun y => k == y.kind && eqL (xs.map same) y.of
def sameL (xs ys : List Ty) : Bool := eqL (xs.map same) ys
theorem same_mk (k : Int) (xs : List Ty) (k' : Int) (ys : List Ty) : same (.mk k xs) (.mk k' ys) = (k == k' && sameL xs ys) := by rw [same, sameL]
theorem sameL_nil : sameL [] [] = true := rfl
theorem sameL_cons (x : Ty) (r : List Ty) (y : Ty) (s : List Ty) : sameL (x :: r) (y :: s) = (same x y && sameL r s) := rfl
theorem sameL_nc (y : Ty) (s : List Ty) : sameL [] (y :: s) = false := rfl
theorem sameL_cn (x : Ty) (r : List Ty) : sameL (x :: r) [] = false := rfl
theorem sameL_ne : ∀ (xs ys : List Ty), xs.length ≠ ys.length → sameL xs ys = false
  | [], [], h => absurd rfl h
  | [], _ :: _, _ => rfl
  | _ :: _, [], _ => rfl
  | x :: r, y :: s, h => by rw [sameL_cons, sameL_ne r s (by simpa using h), Bool.and_false]
theorem sameL_at : ∀ (xs ys : List Ty) (j : Nat) (h1 : j < xs.length) (h2 : j < ys.length), same xs[j] ys[j] = false → sameL xs ys = false
  | x :: r, y :: s, 0, _, _, h => by rw [sameL_cons]; simp at h; rw [h, Bool.false_and]
  | x :: r, y :: s, j + 1, h1, h2, h => by rw [sameL_cons, sameL_at r s j (by simpa using h1) (by simpa using h2) (by simpa using h), Bool.and_false]
theorem sameL_all : ∀ (xs ys : List Ty), xs.length = ys.length → (∀ j (h1 : j < xs.length) (h2 : j < ys.length), same xs[j] ys[j] = true) → sameL xs ys = true
  | [], [], _, _ => rfl
  | [], _ :: _, h, _ => by simp at h
  | _ :: _, [], h, _ => by simp at h
  | x :: r, y :: s, h, ha => by
    rw [sameL_cons, sameL_all r s (by simpa using h) (fun j h1 h2 => by have := ha (j + 1) (by simpa using h1) (by simpa using h2); simpa using this)]
    have := ha 0 (by simp) (by simp)
    simp at this
    rw [this]; rfl
theorem same_iff : ∀ a b : Ty, same a b = true ↔ a = b := by
  intro a
  refine Ty.ind (P := fun a => ∀ b, same a b = true ↔ a = b) ?_ a
  intro k xs ih c
  have hL : ∀ (xs ys : List Ty), (∀ x ∈ xs, ∀ b, same x b = true ↔ x = b) → (sameL xs ys = true ↔ xs = ys) := by
    intro xs
    induction xs with
    | nil => intro ys _; cases ys <;> simp [sameL_nil, sameL_nc]
    | cons x r ihr =>
      intro ys hx
      cases ys with
      | nil => simp [sameL_cn]
      | cons y s =>
        simp only [sameL_cons, Bool.and_eq_true, List.cons.injEq]
        rw [hx x (by simp) y, ihr s (fun z hz => hx z (by simp [hz]))]
  obtain ⟨k', ys⟩ := c
  simp only [same_mk, Bool.and_eq_true, beq_iff_eq, Ty.mk.injEq]
  rw [hL xs ys ih]

/-- how many types it is of -/
def want (k : Int) : Nat := if k = 6 ∨ k = 7 then 1 else 0
/-- P7.1 -/
def check (d : Nat) (v : Ty) : Nat := match v with
  | .mk k xs => if 4 < d then 62 else if k < 1 ∨ 7 < k ∨ xs.length ≠ want k then 60 else V.first (xs.map (check (d + 1)))
theorem check_mk (d : Nat) (k : Int) (xs : List Ty) : check d (.mk k xs) = if 4 < d then 62 else if k < 1 ∨ 7 < k ∨ xs.length ≠ want k then 60 else V.first (xs.map (check (d + 1))) := by rw [check]
theorem check_leaf (d : Nat) (k : Int) (hd : ¬ 4 < d) (hk : ¬ (k < 1 ∨ 7 < k)) (hw : want k = 0) : check d (.mk k []) = 0 := by
  rw [check_mk, if_neg hd, if_neg (by simp [hw]; omega)]
  rfl
theorem check_one (d : Nat) (k : Int) (x : Ty) (hd : ¬ 4 < d) (hk : ¬ (k < 1 ∨ 7 < k)) (hw : want k = 1) : check d (.mk k [x]) = check (d + 1) x := by
  rw [check_mk, if_neg hd, if_neg (by simp [hw]; omega)]
  show (if check (d + 1) x = 0 then 0 else check (d + 1) x) = _
  split
  · next h => rw [h]
  · rfl
end Ty
end Go.Proofs.Yticmkgbjannkkaa

/- How a type lies in memory. -/
namespace Go.Proofs.Yticmkgbjannkkaa
open Go.RowKit

/-- a type's two cells -/
def cells2 (k : Int) (p : Option Addr) (n c : Nat) : Array Value := #[.int .i64 k, .slice p n c]

/-- one step of how a type lies: what it is of, of which P holds, in the block that its slice names -/
def TStep (w : World) (P : Array Value → Ty → Prop) (p : Option Addr) (c : Nat) (xs : List Ty) (us : Nat → Array Value) : Prop :=
  xs.length * 32 ≤ 140737488351232 ∧ xs.length ≤ c ∧ (xs ≠ [] → ∃ blk off, p = some ⟨blk, off, none⟩ ∧ blk < w.heap.size ∧ ∀ j, j < xs.length → ∀ m, m < 2 → w.cell? ⟨blk, off + j * 2 + m, none⟩ = (us j)[m]?) ∧ ∀ j (h : j < xs.length), P (us j) xs[j]
/-- so a type lies -/
def TLies (w : World) (u : Array Value) (x : Ty) : Prop :=
  ∀ P : Array Value → Ty → Prop, (∀ k p c xs us, TStep w P p c xs us → P (cells2 k p xs.length c) (.mk k xs)) → P u x
theorem TLies.mk {w : World} {k : Int} {p : Option Addr} {c : Nat} {xs : List Ty} (us : Nat → Array Value) (hl : xs.length * 32 ≤ 140737488351232) (hc : xs.length ≤ c)
    (hp : xs ≠ [] → ∃ blk off, p = some ⟨blk, off, none⟩ ∧ blk < w.heap.size ∧ ∀ j, j < xs.length → ∀ m, m < 2 → w.cell? ⟨blk, off + j * 2 + m, none⟩ = (us j)[m]?)
    (hr : ∀ j (h : j < xs.length), TLies w (us j) xs[j]) : TLies w (cells2 k p xs.length c) (.mk k xs) :=
  fun P hP => hP k p c xs us ⟨hl, hc, hp, fun j h => hr j h P hP⟩
theorem TLies.inv {w : World} {u : Array Value} {x : Ty} (h : TLies w u x) : ∃ k p c xs us, u = cells2 k p xs.length c ∧ x = .mk k xs ∧ TStep w (TLies w) p c xs us := by
  have := h (fun u x => TLies w u x ∧ ∃ k p c xs us, u = cells2 k p xs.length c ∧ x = .mk k xs ∧ TStep w (TLies w) p c xs us) (fun k p c xs us ⟨h1, h2, h3, h4⟩ =>
    ⟨.mk us h1 h2 h3 (fun j hj => (h4 j hj).1), k, p, c, xs, us, rfl, rfl, h1, h2, h3, fun j hj => (h4 j hj).1⟩)
  exact this.2
theorem TLies.on {w w' : World} {u : Array Value} {v : Ty} (h : TLies w u v) (hb : Below w.heap.size w w') : TLies w' u v := by
  refine h (TLies w') ?_
  rintro k p c xs us ⟨hl, hc, hp, ih⟩
  refine .mk us hl hc (fun hne => ?_) ih
  obtain ⟨blk, off, h1, h2, h3⟩ := hp hne
  refine ⟨blk, off, h1, by have := hb.size; omega, fun j hj m hm => ?_⟩
  rw [hb.cell (p := ⟨blk, off + j * 2 + m, none⟩) h2]
  exact h3 j hj m hm

/-- one of what it is of: where it lies -/
structure ItemT (w : World) (p : Option Addr) (j : Nat) (u : Array Value) : Prop where
  lies : ∃ blk off k q n c, p = some ⟨blk, off, none⟩ ∧ blk < w.heap.size ∧ u = cells2 k q n c ∧ w.cell? ⟨blk, off + j * 2, none⟩ = some (.int .i64 k) ∧ w.cell? ⟨blk, off + j * 2 + 1, none⟩ = some (.slice q n c)
theorem ItemT.on {w w' : World} {p : Option Addr} {j : Nat} {u : Array Value} (h : ItemT w p j u) (hb : Below w.heap.size w w') : ItemT w' p j u := by
  obtain ⟨blk, off, k, q, n, c, h1, h2, h3, g0, g1⟩ := h.lies
  refine ⟨⟨blk, off, k, q, n, c, h1, by have := hb.size; omega, h3, ?_, ?_⟩⟩
  · rw [hb.cell (p := ⟨blk, off + j * 2, none⟩) h2]; exact g0
  · rw [hb.cell (p := ⟨blk, off + j * 2 + 1, none⟩) h2]; exact g1
theorem TLies.open {w : World} {u : Array Value} {k : Int} {xs : List Ty} (h : TLies w u (.mk k xs)) :
    ∃ p c, u = cells2 k p xs.length c ∧ xs.length * 32 ≤ 140737488351232 ∧ xs.length ≤ c ∧ ∀ j (hj : j < xs.length), ∃ u', TLies w u' xs[j] ∧ ItemT w p j u' := by
  obtain ⟨k0, p, c, xs0, us, rfl, hx, hl, hc, hp, hr⟩ := h.inv
  simp only [Ty.mk.injEq] at hx
  obtain ⟨rfl, rfl⟩ := hx
  refine ⟨p, c, rfl, hl, hc, fun j hj => ⟨us j, hr j hj, ?_⟩⟩
  obtain ⟨blk, off, h1, h2, h3⟩ := hp (fun hc => by rw [hc] at hj; simp at hj)
  obtain ⟨k', q, c', ys, us', hu, -, -⟩ := (hr j hj).inv
  have g := fun m hm => h3 j hj m hm
  rw [hu] at g ⊢
  exact ⟨blk, off, k', q, ys.length, c', h1, h2, rfl, g 0 (by omega), g 1 (by omega)⟩
end Go.Proofs.Yticmkgbjannkkaa

/- The law's own exact(a, b). -/
namespace Go.Proofs.Yticmkgbjannkkaa
open Go.RowKit

namespace V
theorem exactL_len : ∀ (xs ys : List V), xs.length ≠ ys.length → exactL xs ys = false
  | [], [], h => absurd rfl h
  | [], _ :: _, _ => rfl
  | _ :: _, [], _ => rfl
  | x :: r, y :: s, h => by rw [exactL_cons, exactL_len r s (by simpa using h), Bool.and_false]
theorem exactL_at : ∀ (xs ys : List V) (j : Nat) (h1 : j < xs.length) (h2 : j < ys.length), exact xs[j] ys[j] = false → exactL xs ys = false
  | x :: r, y :: s, 0, _, _, h => by rw [exactL_cons]; simp at h; rw [h, Bool.false_and]
  | x :: r, y :: s, j + 1, h1, h2, h => by rw [exactL_cons, exactL_at r s j (by simpa using h1) (by simpa using h2) (by simpa using h), Bool.and_false]
theorem exactL_all : ∀ (xs ys : List V), xs.length = ys.length → (∀ j (h1 : j < xs.length) (h2 : j < ys.length), exact xs[j] ys[j] = true) → exactL xs ys = true
  | [], [], _, _ => rfl
  | [], _ :: _, h, _ => by simp at h
  | _ :: _, [], h, _ => by simp at h
  | x :: r, y :: s, h, ha => by
    rw [exactL_cons, exactL_all r s (by simpa using h) (fun j h1 h2 => by have := ha (j + 1) (by simpa using h1) (by simpa using h2); simpa using this)]
    have := ha 0 (by simp) (by simp)
    simp at this
    rw [this]; rfl
end V

theorem text_eq (t t' : ByteArray) : (t.toList == t'.toList) = decide (t = t') := by
  rw [ByteArray.toList_eq, ByteArray.toList_eq]
  by_cases h : t = t'
  · rw [h]; simp
  · rw [decide_eq_false h, beq_eq_false_iff_ne]
    intro hc
    apply h
    cases t; cases t'
    simp only [ByteArray.mk.injEq]
    exact Array.toList_inj.1 hc
theorem bne_t {a b : Int} (h : ¬ a = b) : (a != b) = true := by rw [bne_iff_ne]; exact h
theorem bne_f {a b : Int} (h : a = b) : (a != b) = false := by rw [h]; simp

attribute [local go_sem] run_frombits run_bits

set_option maxRecDepth 100000 in
set_option maxHeartbeats 400000 in
theorem exact6 : ∀ (x y : V) (w : World) (u v : Array Value), VLies w u x → VLies w v y → Calls Try.prog 34 #[.agg u, .agg v] w fun e w' => e = .returned (.bool (V.exact x y)) ∧ Below w.heap.size w w' := by
  intro x
  refine V.ind (P := fun x => ∀ (y : V) (w : World) (u v : Array Value), VLies w u x → VLies w v y → Calls Try.prog 34 #[.agg u, .agg v] w fun e w' => e = .returned (.bool (V.exact x y)) ∧ Below w.heap.size w w') ?_ x
  rintro k i b t xs ih ⟨k', i', b', t', ys⟩ w u v hx hy
  obtain ⟨p, c, rfl, hxl, hxc, hxi⟩ := hx.open
  obtain ⟨q, d, rfl, hyl, hyc, hyi⟩ := hy.open
  unfold cells5
  have hB2 : Below w.heap.size w ((w.alloc (.cells #[.int .i64 k, .int .i64 i, .float .f64 b, .string t, .slice p xs.length c] 53)).alloc (.cells #[.int .i64 k', .int .i64 i', .float .f64 b', .string t', .slice q ys.length d] 53)) := ((Below.refl _ _).alloc (Nat.le_refl _) _).alloc (by simp) _
  have HB2 := Lib.hid hB2
  clear hB2 hx hy
  by_cases h1 : ¬ k = k'
  · have g1 := bne_t h1
    have HE : Hid (V.exact (.mk k i b t xs) (.mk k' i' b' t' ys) = false) := by show _ = _; simp [V.exact_mk, h1]
    clear ih hxi hyi h1
    go_enter Try.func34, Try.ntmps34
    go_wp2_with fail
    go_quiet (fail)
    go_wp2
    go_ret
    exact ⟨by rw [HE.out]; rfl, below_drewN HB2.out _⟩
  replace h1 : k = k' := Classical.not_not.1 h1
  have g1 := bne_f h1
  by_cases h2 : ¬ i = i'
  · have g2 := bne_t h2
    have HE : Hid (V.exact (.mk k i b t xs) (.mk k' i' b' t' ys) = false) := by show _ = _; simp [V.exact_mk, h2]
    clear ih hxi hyi h2 h1
    go_enter Try.func34, Try.ntmps34
    go_wp2_with fail
    go_quiet (fail)
    go_wp2
    go_ret
    exact ⟨by rw [HE.out]; rfl, below_drewN HB2.out _⟩
  replace h2 : i = i' := Classical.not_not.1 h2
  have g2 := bne_f h2
  by_cases h3 : ¬ t = t'
  · have g3 : (t.toList == t'.toList) = false := by rw [text_eq, decide_eq_false h3]
    have HE : Hid (V.exact (.mk k i b t xs) (.mk k' i' b' t' ys) = false) := by show _ = _; simp [V.exact_mk, h3]
    clear ih hxi hyi h3 h1 h2
    go_enter Try.func34, Try.ntmps34
    go_wp2_with fail
    go_quiet (fail)
    go_wp2
    go_ret
    exact ⟨by rw [HE.out]; rfl, below_drewN HB2.out _⟩
  replace h3 : t = t' := Classical.not_not.1 h3
  have g3 : (t.toList == t'.toList) = true := by rw [text_eq, decide_eq_true h3]
  by_cases h4 : ¬ b = b'
  · have g4 : ((b : Int) != (b' : Int)) = true := bne_t (by omega)
    have HE : Hid (V.exact (.mk k i b t xs) (.mk k' i' b' t' ys) = false) := by show _ = _; simp [V.exact_mk, h4]
    clear ih hxi hyi h4 h1 h2 h3
    go_enter Try.func34, Try.ntmps34
    go_wp2_with fail
    go_quiet (fail)
    go_wp2
    go_ret
    exact ⟨by rw [HE.out]; rfl, below_drewN HB2.out _⟩
  replace h4 : b = b' := Classical.not_not.1 h4
  have g4 : ((b : Int) != (b' : Int)) = false := bne_f (by omega)
  by_cases h5 : ¬ xs.length = ys.length
  · have g5 : ((xs.length : Int) != (ys.length : Int)) = true := bne_t (by omega)
    have HE : Hid (V.exact (.mk k i b t xs) (.mk k' i' b' t' ys) = false) := by show _ = _; simp [V.exact_mk, V.exactL_len xs ys h5]
    clear ih hxi hyi h5 h1 h2 h3 h4
    go_enter Try.func34, Try.ntmps34
    go_wp2_with fail
    go_quiet (fail)
    go_wp2
    go_ret
    exact ⟨by rw [HE.out]; rfl, below_drewN HB2.out _⟩
  replace h5 : xs.length = ys.length := Classical.not_not.1 h5
  have g5 : ((xs.length : Int) != (ys.length : Int)) = false := bne_f (by omega)
  subst h1 h2 h3 h4
  have hEL : V.exact (.mk k i b t xs) (.mk k i b t ys) = V.exactL xs ys := by simp [V.exact_mk]
  rw [hEL]
  have HX : Hid (∀ j (hj : j < xs.length), ∃ u', VLies w u' xs[j] ∧ Item w p j u') := hxi
  have HY : Hid (∀ j (hj : j < ys.length), ∃ u', VLies w u' ys[j] ∧ Item w q j u') := hyi
  have HIH := Lib.hid ih
  have H5 := Lib.hid h5
  clear ih hxi hyi h5 hEL
  go_enter Try.func34, Try.ntmps34
  go_wp2_with fail
  go_quiet (fail)
  have HB3 := Lib.hid (below_drewN HB2.out nq)
  have hs3 : w.heap.size + 2 = (((w.alloc (.cells #[.int .i64 k, .int .i64 i, .float .f64 b, .string t, .slice p xs.length c] 53)).alloc (.cells #[.int .i64 k, .int .i64 i, .float .f64 b, .string t, .slice q ys.length d] 53)).drewN nq).heap.size := by simp [World.drewN]
  have k1 : (((w.alloc (.cells #[.int .i64 k, .int .i64 i, .float .f64 b, .string t, .slice p xs.length c] 53)).alloc (.cells #[.int .i64 k, .int .i64 i, .float .f64 b, .string t, .slice q ys.length d] 53)).drewN nq).cell? ⟨w.heap.size, 4, none⟩ = some (.slice p xs.length c) := by simp
  have k2 : (((w.alloc (.cells #[.int .i64 k, .int .i64 i, .float .f64 b, .string t, .slice p xs.length c] 53)).alloc (.cells #[.int .i64 k, .int .i64 i, .float .f64 b, .string t, .slice q ys.length d] 53)).drewN nq).cell? ⟨w.heap.size + 1, 4, none⟩ = some (.slice q ys.length d) := by simp
  generalize (((w.alloc (.cells #[.int .i64 k, .int .i64 i, .float .f64 b, .string t, .slice p xs.length c] 53)).alloc (.cells #[.int .i64 k, .int .i64 i, .float .f64 b, .string t, .slice q ys.length d] 53)).drewN nq) = w3 at HB3 hs3 k1 k2 ⊢
  clear HB2 g1 g2 g3 g4 g5
  go_wp2
  go_loopw [5] (fun v5 wr => ∃ j : Nat, j ≤ xs.length ∧ v5 = .int .i64 j ∧ Hid (Below w3.heap.size w3 wr ∧ ∀ m (h1 : m < xs.length) (h2 : m < ys.length), m < j → V.exact xs[m] ys[m] = true)) (fun v5 _ => xs.length - (intOf v5).toNat)
  case atStart => exact ⟨0, by omega, rfl, Below.refl _ _, fun m _ _ h => by omega⟩
  case round =>
    obtain ⟨j, hj, rfl, HL⟩ := hrel
    have n1 : wr.cell? ⟨w.heap.size, 4, none⟩ = some (.slice p xs.length c) := by rw [HL.out.1.cell (p := ⟨w.heap.size, 4, none⟩) (by simp only; omega)]; exact k1
    have n2 : wr.cell? ⟨w.heap.size + 1, 4, none⟩ = some (.slice q ys.length d) := by rw [HL.out.1.cell (p := ⟨w.heap.size + 1, 4, none⟩) (by simp only; omega)]; exact k2
    have hbw : Below w.heap.size w wr := HB3.out.trans (HL.out.1.mono (by have := HB3.out.size; omega))
    by_cases hlt : j < xs.length
    · have hlt2 : j < ys.length := by have := H5.out; omega
      obtain ⟨ux, hvx, hix⟩ := HX.out j hlt
      obtain ⟨uy, hvy, hiy⟩ := HY.out j hlt2
      obtain ⟨bx, ox, kx, ix, fx, tx, qx, nx, cx, rfl, _, rfl, a0, a1, a2, a3, a4⟩ := (hix.on hbw).lies
      obtain ⟨by', oy, ky, iy, fy, ty, qy, ny, cy, rfl, _, rfl, b0, b1, b2, b3, b4⟩ := (hiy.on hbw).lies
      have HC : Hid (∀ w', Below w.heap.size w w' → Calls Try.prog 34 #[.agg #[.int .i64 kx, .int .i64 ix, .float .f64 fx, .string tx, .slice qx nx cx], .agg #[.int .i64 ky, .int .i64 iy, .float .f64 fy, .string ty, .slice qy ny cy]] w' fun e w'' => e = .returned (.bool (V.exact xs[j] ys[j])) ∧ Below w'.heap.size w' w'') :=
        fun w' hb => HIH.out _ (List.getElem_mem hlt) ys[j] w' _ _ (hvx.on hb) (hvy.on hb)
      have HBw := Lib.hid hbw
      have HAll := Lib.hid HL.out.2
      have HBr := Lib.hid HL.out.1
      have hj1 : (j : Int) < (xs.length : Int) := by omega
      have hj2 : (j : Int) < (ys.length : Int) := by omega
      obtain ⟨r, hr⟩ : ∃ r, r = V.exact xs[j] ys[j] := ⟨_, rfl⟩
      rw [← hr] at HC
      have HRr := Lib.hid hr
      clear hvx hvy hix hiy hbw HL hr
      go_wp2_with fail
      go_region_held3 (fun w' => w'.cell? ⟨w.heap.size, 4, none⟩ = some (.slice (some ⟨bx, ox, none⟩) xs.length c) ∧ w'.cell? ⟨w.heap.size + 1, 4, none⟩ = some (.slice (some ⟨by', oy, none⟩) ys.length d) ∧ w'.cell? ⟨bx, ox + j * 5, none⟩ = some (.int .i64 kx) ∧ w'.cell? ⟨bx, ox + j * 5 + 1, none⟩ = some (.int .i64 ix) ∧ w'.cell? ⟨bx, ox + j * 5 + 2, none⟩ = some (.float .f64 fx) ∧ w'.cell? ⟨bx, ox + j * 5 + 3, none⟩ = some (.string tx) ∧ w'.cell? ⟨bx, ox + j * 5 + 4, none⟩ = some (.slice qx nx cx) ∧ w'.cell? ⟨by', oy + j * 5, none⟩ = some (.int .i64 ky) ∧ w'.cell? ⟨by', oy + j * 5 + 1, none⟩ = some (.int .i64 iy) ∧ w'.cell? ⟨by', oy + j * 5 + 2, none⟩ = some (.float .f64 fy) ∧ w'.cell? ⟨by', oy + j * 5 + 3, none⟩ = some (.string ty) ∧ w'.cell? ⟨by', oy + j * 5 + 4, none⟩ = some (.slice qy ny cy)) (go_keep) (first
        | (go_at_call 34; refine (HC.out _ (below_drewN HBw.out _)).mono ?_; rintro e w4 ⟨rfl, hb4⟩; have hb5 := below_via (w := wr) hb4 (by rfl) (by rfl) (by rfl) (by rfl); have z1 := cell_on hb5 n1; have z2 := cell_on hb5 n2; have z3 := cell_on hb5 a0; have z4 := cell_on hb5 a1; have z5 := cell_on hb5 a2; have z6 := cell_on hb5 a3; have z7 := cell_on hb5 a4; have z8 := cell_on hb5 b0; have z9 := cell_on hb5 b1; have z10 := cell_on hb5 b2; have z11 := cell_on hb5 b3; have z12 := cell_on hb5 b4; have HB4 := Lib.hid hb5; clear hb4 hb5))
      clear z1 z2 z3 z4 z5 z6 z7 z8 z9 z10 z11 z12 a0 a1 a2 a3 a4 b0 b1 b2 b3 b4 n1 n2
      cases r with
      | true =>
        have HN : Hid (Below w3.heap.size w3 w4 ∧ ∀ m (h1 : m < xs.length) (h2 : m < ys.length), m < j + 1 → V.exact xs[m] ys[m] = true) := by
          refine ⟨HBr.out.trans (HB4.out.mono HBr.out.size), fun m h1 h2 hm => ?_⟩
          by_cases hmj : m = j
          · subst hmj; exact HRr.out.symm
          · exact HAll.out m h1 h2 (by omega)
        clear HBr HB4 HAll HC
        go_wp2
        go_roundw
        case rel => exact ⟨j + 1, by omega, by go_num, HN⟩
        case measure => simp [intOf]; omega
      | false =>
        have HE : Hid (V.exactL xs ys = false) := V.exactL_at xs ys j hlt hlt2 HRr.out.symm
        have HF := Lib.hid (HBw.out.trans (HB4.out.mono HBw.out.size))
        clear HBr HB4 HAll HC
        go_wp2
        go_ret
        exact ⟨by rw [HE.out]; rfl, HF.out⟩
    · have HE : Hid (V.exactL xs ys = true) := V.exactL_all xs ys H5.out (fun m h1 h2 => HL.out.2 m h1 h2 (by omega))
      have HF := Lib.hid hbw
      have hjn : ¬ (j : Int) < (xs.length : Int) := by omega
      clear HL hbw hlt
      go_wp2
      go_ret
      exact ⟨by rw [HE.out]; rfl, HF.out⟩
end Go.Proofs.Yticmkgbjannkkaa
