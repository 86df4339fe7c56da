/- LKeep, Last: put together. -/
import Derived.Test.YtnjggejallnkoabM24
import Derived.Deep.RegionHeld3

/- Calls that keep what a law holds on to. -/
namespace Go.Proofs.Ytnjggejallnkoab
open Go.RowKit

theorem keepG {w w2 : World} {G : World → Prop} {f : Nat} {xs : Array Value} {v : Value} (hG : G = fun w' => Below w2.heap.size w2 w') (hb2 : Below w.heap.size w w2)
    (h : ∀ w', Below w.heap.size w w' → Calls Try.prog f xs w' fun e w'' => e = .returned v ∧ Below w'.heap.size w' w'') :
    ∀ w', G w' → Calls Try.prog f xs w' fun e w'' => e = .returned v ∧ G w'' := fun w' hg => by
  subst hG
  refine (h w' (hb2.trans (hg.mono hb2.size))).mono ?_
  rintro e w'' ⟨rfl, h3⟩
  exact ⟨rfl, hg.trans (h3.mono hg.size)⟩
theorem keepG_drew {w2 : World} {G : World → Prop} (hG : G = fun w' => Below w2.heap.size w2 w') : ∀ w', G w' → G w'.drew := fun w' h1 => by rw [hG] at h1 ⊢; exact h1.drew
theorem keepG_fin {w w2 : World} {G : World → Prop} (hG : G = fun w' => Below w2.heap.size w2 w') (hb2 : Below w.heap.size w w2) : ∀ w', G w' → Below w.heap.size w w' := fun w' h => by
  rw [hG] at h; exact hb2.trans (h.mono hb2.size)
theorem keepG_cell {w2 : World} {G : World → Prop} (hG : G = fun w' => Below w2.heap.size w2 w') {a : Addr} {v : Value} (h : w2.cell? a = some v) : ∀ w', G w' → w'.cell? a = some v := fun w' hg => by
  rw [hG] at hg; exact cell_on hg h
theorem keepG_here {w2 : World} {G : World → Prop} (hG : G = fun w' => Below w2.heap.size w2 w') : G w2 := by rw [hG]; exact Below.refl _ _
end Go.Proofs.Ytnjggejallnkoab

/- A region that draws its order, whose last operation (a store) need not leave what was held on to: S is asked behind every other one. -/
namespace Go.Proofs.Ytnjggejallnkoab
open Go

section
variable {P : Program} {ops : Array Oper} {Q : Exit → Act → World → Prop} {S : World → Prop} {md : Region.Mode} {n : Nat}

/-- operation x waits for y -/
def waits (md : Region.Mode) (ops : Array Oper) (x y : Nat) : Bool := match ops[x]? with
  | some o => o.after.any fun e => Region.binds md e && e.on == y
  | none => false
/-- operation x waits for y, over others that it waits for -/
def reach (md : Region.Mode) (ops : Array Oper) : Nat → Nat → Nat → Bool
  | 0, _, _ => false
  | f + 1, x, y => (List.range ops.size).any fun k => waits md ops x k && (k == y || reach md ops f k y)
/-- what has come up waited for nothing that has not -/
def Shutd (md : Region.Mode) (ops : Array Oper) (listed : Array Bool) : Prop := ∀ x y, waits md ops x y = true → listed.getD x false = true → listed.getD y false = true

theorem waits_spec {x y : Nat} (h : waits md ops x y = true) : ∃ o, ops[x]? = some o ∧ ∃ e ∈ o.after, Region.binds md e = true ∧ e.on = y := by
  unfold waits at h
  split at h
  · rename_i o ho
    obtain ⟨e, he, hb⟩ := Array.any_eq_true'.1 h
    simp only [Bool.and_eq_true, beq_iff_eq] at hb
    exact ⟨o, ho, e, he, hb.1, hb.2⟩
  · cases h
theorem reach_listed {listed : Array Bool} (hs : Shutd md ops listed) : ∀ (f x y : Nat), reach md ops f x y = true → listed.getD x false = true → listed.getD y false = true
  | 0, _, _, h, _ => by cases h
  | f + 1, x, y, h, hx => by
    rw [reach, List.any_eq_true] at h
    obtain ⟨k, _, hk⟩ := h
    rw [Bool.and_eq_true, Bool.or_eq_true, beq_iff_eq] at hk
    have h1 := hs x k hk.1 hx
    rcases hk.2 with rfl | h2
    · exact h1
    · exact reach_listed hs f k y h2 h1
/-- the last one does not come up while something that it waits for has not -/
theorem not_ready {listed : Array Bool} {f i : Nat} (hs : Shutd md ops listed) (hr : reach md ops f n i = true) (hi : listed.getD i false = false) : n ∉ Region.ready md ops listed := fun hn => by
  obtain ⟨_, o, ho, hall⟩ := mem_ready.1 hn
  cases f with
  | zero => cases hr
  | succ f =>
    rw [reach, List.any_eq_true] at hr
    obtain ⟨k, _, hk⟩ := hr
    rw [Bool.and_eq_true, Bool.or_eq_true, beq_iff_eq] at hk
    obtain ⟨o', ho', e, he, hb, heq⟩ := waits_spec hk.1
    rw [ho] at ho'
    cases ho'
    have h1 := hall e he hb
    rw [heq] at h1
    rcases hk.2 with rfl | h2
    · rw [hi] at h1; cases h1
    · rw [reach_listed hs f k i h2 h1] at hi; cases hi
theorem Shutd.set {listed : Array Bool} (hs : Shutd md ops listed) {j : Nat} (hj : j ∈ Region.ready md ops listed) : Shutd md ops (listed.setIfInBounds j true) := fun x y hw hx => by
  by_cases hxj : j = x
  · subst hxj
    obtain ⟨_, o, ho, hall⟩ := mem_ready.1 hj
    obtain ⟨o', ho', e, he, hb, heq⟩ := waits_spec hw
    rw [ho] at ho'
    cases ho'
    have := hall e he hb
    rw [heq] at this
    exact getD_set_true this
  · rw [getD_set_ne false hxj] at hx
    exact getD_set_true (hs x y hw hx)
theorem shutd_none (m : Nat) : Shutd md ops (Array.replicate m false) := fun x y _ hx => by
  by_cases h : x < m
  · simp [h] at hx
  · simp [h] at hx

/-- whatever order is picked from here on, and S holds behind every operation but number n -/
def wpAnyN (P : Program) (md : Region.Mode) (ops : Array Oper) (Q : Exit → Act → World → Prop) (S : World → Prop) (n : Nat) : Nat → Array Bool → Act → World → Prop
  | 0, listed, a, w => Region.ready md ops listed = [] ∧ Q .normal a w
  | fuel + 1, listed, a, w =>
    (Region.ready md ops listed = [] → Q .normal a w) ∧
    ∀ i ∈ Region.ready md ops listed, wpOp P ops Q i (fun a' w' => (i ≠ n → S w') ∧ wpAnyN P md ops Q S n fuel (listed.setIfInBounds i true) a' w') a w

theorem wpAny_of_N : ∀ (fuel : Nat) (listed : Array Bool) (a : Act) (w : World), wpAnyN P md ops Q S n fuel listed a w → wpAny P md ops Q fuel listed a w
  | 0, _, _, _, h => h
  | fuel + 1, _, _, _, h => ⟨h.1, fun i hi => wpOp_mono (fun a' w' h' => wpAny_of_N fuel _ a' w' h'.2) (h.2 i hi)⟩

/-- every other operation that is still to come waits for number i or is apart from it -/
def Lone (md : Region.Mode) (ops : Array Oper) (i : Nat) (oi : Oper) (listed : Array Bool) : Prop :=
  ∀ j oj, ops[j]? = some oj → j ≠ i → listed.getD j true = false → (∀ e ∈ oj.after, Region.binds md e = true → e.on ≠ i) → oi.apart ops oj = true
theorem to_come {listed : Array Bool} {j k : Nat} (h : (listed.setIfInBounds j true).getD k true = false) : listed.getD k true = false := by
  by_cases e : j = k
  · subst e
    by_cases hb : j < listed.size <;> simp [hb] at h
  · rwa [getD_set_ne true e] at h
theorem Lone.set {i : Nat} {oi : Oper} {listed : Array Bool} (h : Lone md ops i oi listed) (j : Nat) : Lone md ops i oi (listed.setIfInBounds j true) :=
  fun k ok hk hki hun => h k ok hk hki (to_come hun)
theorem still {i : Nat} {listed : Array Bool} (h : i ∈ Region.ready md ops listed) : listed.getD i false = false := by
  have h0 := (mem_ready.1 h).1
  by_cases hb : i < listed.size
  · simpa [hb] using h0
  · simp [hb]
/-- what number j does once i's value lies in its place, it does ahead of i -/
theorem swapN {i j : Nat} {oi : Oper} {v : Value} {listed : Array Bool} {K : Act → World → Prop} {a : Act} {w : World} (hi : ops[i]? = some oi) (hsel : Region.noSelect ops = true) (hQ : ∀ c a w, Q (.panic c) (a.put oi.dst v) w → Q (.panic c) a w)
    (hl : Lone md ops i oi listed) (hri : i ∈ Region.ready md ops listed) (hrj : j ∈ Region.ready md ops listed) (hne : j ≠ i) (hy : YieldsIf P ops S oi v a) (h : wpOp P ops Q j K (a.put oi.dst v) w) :
    wpOp P ops Q j (fun a' w' => YieldsIf P ops S oi v a' ∧ K (a'.put oi.dst v) w') a w := by
  obtain ⟨hun, oj, hoj, hall⟩ := mem_ready.1 hrj
  refine wpOp_putIf hoj (hl j oj hoj hne hun fun e he hb heq => ?_) (fun cs b => Region.noSelect_spec hsel i oi cs b hi) (fun cs b => Region.noSelect_spec hsel j oj cs b hoj) hQ hy h
  have := hall e he hb
  rw [heq, still hri] at this
  cases this
theorem wpAnyN_first {i : Nat} {oi : Oper} {v : Value} {f : Nat} (hi : ops[i]? = some oi) (hsel : Region.noSelect ops = true)
    (hQ : ∀ c a w, Q (.panic c) (a.put oi.dst v) w → Q (.panic c) a w) (hreach : reach md ops f n i = true) (fuel : Nat) :
    ∀ (listed : Array Bool) (a : Act) (w : World), Shutd md ops listed → Lone md ops i oi listed → i ∈ Region.ready md ops listed → YieldsIf P ops S oi v a → S w →
      wpAnyN P md ops Q S n fuel (listed.setIfInBounds i true) (a.put oi.dst v) w → wpAnyN P md ops Q S n (fuel + 1) listed a w := by
  induction fuel with
  | zero =>
    intro listed a w _ _ hr hy hS H
    refine ⟨fun h => absurd (h ▸ hr) (by simp), fun j hj => ?_⟩
    rcases Classical.em (j = i) with rfl | hne
    · exact hy.wpOp hi hS ⟨fun _ => hS, H⟩
    · exact absurd (H.1 ▸ ready_mono hj hne) (by simp)
  | succ fuel ih =>
    intro listed a w hsh hl hr hy hS H
    refine ⟨fun h => absurd (h ▸ hr) (by simp), fun j hj => ?_⟩
    rcases Classical.em (j = i) with rfl | hne
    · exact hy.wpOp hi hS ⟨fun _ => hS, H⟩
    · have hjn : j ≠ n := fun e => not_ready hsh hreach (still hr) (e ▸ hj)
      refine wpOp_mono (fun a' w' h => ?_) (swapN hi hsel hQ hl hr hj hne hy (H.2 j (ready_mono hj hne)))
      obtain ⟨h1, h2, h3⟩ := h
      refine ⟨h2, ih _ a' w' (hsh.set hj) (hl.set j) (ready_mono hr (Ne.symm hne)) h1 (h2 hjn) ?_⟩
      rwa [Array.setIfInBounds_comm _ _ hne]

/-- a wpAnyN together with what is known of what has come up -/
def AnyN (P : Program) (md : Region.Mode) (ops : Array Oper) (Q : Exit → Act → World → Prop) (S : World → Prop) (n fuel : Nat) (listed : Array Bool) (a : Act) (w : World) : Prop := Shutd md ops listed → wpAnyN P md ops Q S n fuel listed a w
theorem AnyN.take {i : Nat} {oi : Oper} {v : Value} {fuel : Nat} {listed : Array Bool} {a : Act} {w : World} (hi : ops[i]? = some oi)
    (hs : Region.noSelect ops = true) (hf : Region.free md ops listed i = true) (hr : (Region.ready md ops listed).contains i = true) (hreach : reach md ops 8 n i = true)
    (hQ : ∀ c a w, Q (.panic c) (a.put oi.dst v) w → Q (.panic c) a w) (hy : YieldsIf P ops S oi v a) (hS : S w)
    (h : AnyN P md ops Q S n fuel (listed.setIfInBounds i true) (a.put oi.dst v) w) : AnyN P md ops Q S n (fuel + 1) listed a w := fun hsh =>
  wpAnyN_first hi hs hQ hreach fuel listed a w hsh (Region.free_spec hi hf) (by simpa using hr) hy hS (h (hsh.set (by simpa using hr)))
theorem AnyN.done {listed : Array Bool} {a : Act} {w : World} {fuel : Nat} (hr : Region.ready md ops listed = []) (h : Q .normal a w) : AnyN P md ops Q S n fuel listed a w := fun _ => by
  cases fuel with
  | zero => exact ⟨hr, h⟩
  | succ f => exact ⟨fun _ => h, by rw [hr]; simp⟩
/-- each of those that may come up -/
def AllN (P : Program) (md : Region.Mode) (ops : Array Oper) (Q : Exit → Act → World → Prop) (S : World → Prop) (n fuel : Nat) (listed : Array Bool) (a : Act) (w : World) (rs : List Nat) : Prop :=
  ∀ i ∈ rs, i ∈ Region.ready md ops listed → Shutd md ops listed → wpOp P ops Q i (fun a' w' => (i ≠ n → S w') ∧ wpAnyN P md ops Q S n fuel (listed.setIfInBounds i true) a' w') a w
theorem AllN.nil {fuel : Nat} {listed : Array Bool} {a : Act} {w : World} : AllN P md ops Q S n fuel listed a w [] := fun _ h => by cases h
theorem AllN.cons {fuel : Nat} {listed : Array Bool} {a : Act} {w : World} {i : Nat} {o : Oper} {rs : List Nat} (ho : ops[i]? = some o)
    (h : ∀ K' : Act → World → Prop, Shut (∀ a w, (i ≠ n → S w) → ((i ≠ n → S w) → AnyN P md ops Q S n fuel (listed.setIfInBounds i true) a w) → K' a w) → if Region.wanted o (yielded ops a.tmps) = true then Oper.wp P o a w K' Q else K' (a.put o.dst undef) w)
    (hs : AllN P md ops Q S n fuel listed a w rs) : AllN P md ops Q S n fuel listed a w (i :: rs) := fun j hj hr hsh => by
  rcases List.mem_cons.1 hj with rfl | hj
  · exact wpOp_step ho (fun K' hK => h K' (fun a w hS hW => hK a w ⟨hS, hW hS (hsh.set hr)⟩))
  · exact hs j hj hr hsh
theorem AnyN.ready {rs : List Nat} {fuel : Nat} {listed : Array Bool} {a : Act} {w : World} (hr : Region.ready md ops listed = rs) (hne : rs ≠ [])
    (h : AllN P md ops Q S n fuel listed a w rs) : AnyN P md ops Q S n (fuel + 1) listed a w := fun hsh =>
  ⟨fun h0 => absurd (hr ▸ h0) hne, fun i hi => h i (hr ▸ hi) hi hsh⟩
/-- the beginning -/
theorem wp_region_last {id : Nat} {a : Act} {w : World} (S : World → Prop) (n : Nat) (hm : P.follows .mixedOrders = true) (hS : S w.drew)
    (h : S w.drew → AnyN P .any ops Q S n ops.size (Array.replicate ops.size false) a w.drew) : (Code.region id ops true).wp P Q a w :=
  wp_region_any hm (wpAny_of_N _ _ _ _ (h hS (shutd_none _)))
end
end Go.Proofs.Ytnjggejallnkoab
