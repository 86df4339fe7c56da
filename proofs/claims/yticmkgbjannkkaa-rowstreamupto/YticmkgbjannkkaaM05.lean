/- VOwn, VMore, WFixR: put together. -/
import Derived.Test.YticmkgbjannkkaaM04
import Derived.Test.YticmkgbjannkkaaM02
import Derived.Deep.AppendLies

/- A value that lies in blocks of its own: each item's block is no other item's; and how such a value is built, item by item. -/
namespace Go.Proofs.Yticmkgbjannkkaa
open Go.RowKit

/-- one step of how a value lies in the blocks of F, each of them named once, and each cell may be written: of its items P holds -/
structure VOwnS (w : World) (P : (Nat → Prop) → Array Value → V → Prop) (F : Nat → Prop) (g off c : Nat) (xs : List V) (us : Nat → Array Value) (Fs : Nat → Nat → Prop) : Prop where
  hl : xs.length * 64 ≤ 140737488351232
  hc : xs.length ≤ c
  h5 : ∀ j, j < xs.length → (us j).size = 5
  hp : g < w.heap.size ∧ ∀ j, j < xs.length → ∀ m, m < 5 → w.cell? ⟨g, off + j * 5 + m, none⟩ = (us j)[m]?
  hf : ∀ j, j < xs.length → ∀ m, m < 5 → w.frozen? ⟨g, off + j * 5 + m, none⟩ = false
  hg : F g
  hgs : ∀ j, j < xs.length → ¬ Fs j g
  hd : ∀ j n, j < xs.length → n < xs.length → j ≠ n → ∀ k, Fs j k → ¬ Fs n k
  hs : ∀ j, j < xs.length → ∀ k, Fs j k → F k
  hr : ∀ j (h : j < xs.length), P (Fs j) (us j) xs[j]
/-- so a value lies in blocks of its own -/
def VOwn (w : World) (F : Nat → Prop) (u : Array Value) (x : V) : Prop :=
  ∀ P : (Nat → Prop) → Array Value → V → Prop, (∀ F k i b t p c, P F (cells5 k i b t p 0 c) (.mk k i b t [])) →
    (∀ F k i b t g off c xs us Fs, VOwnS w P F g off c xs us Fs → P F (cells5 k i b t (.some ⟨g, off, .none⟩) xs.length c) (.mk k i b t xs)) → P F u x

section
variable {w w' : World} {F G : Nat → Prop} {u : Array Value} {x : V}
theorem VOwn.none {F : Nat → Prop} {k i : Int} {b : Nat} {t : ByteArray} {p : Option Addr} {c : Nat} : VOwn w F (cells5 k i b t p 0 c) (.mk k i b t []) := fun _ h0 _ => h0 F k i b t p c
theorem VOwn.some {F : Nat → Prop} {k i : Int} {b : Nat} {t : ByteArray} {g off c : Nat} {xs : List V} (us : Nat → Array Value) (Fs : Nat → Nat → Prop) (hl : xs.length * 64 ≤ 140737488351232) (hc : xs.length ≤ c) (h5 : ∀ j, j < xs.length → (us j).size = 5)
      (hp : g < w.heap.size ∧ ∀ j, j < xs.length → ∀ m, m < 5 → w.cell? ⟨g, off + j * 5 + m, .none⟩ = (us j)[m]?)
      (hf : ∀ j, j < xs.length → ∀ m, m < 5 → w.frozen? ⟨g, off + j * 5 + m, .none⟩ = false)
      (hg : F g) (hgs : ∀ j, j < xs.length → ¬ Fs j g) (hd : ∀ j n, j < xs.length → n < xs.length → j ≠ n → ∀ k, Fs j k → ¬ Fs n k) (hs : ∀ j, j < xs.length → ∀ k, Fs j k → F k)
      (hr : ∀ j (h : j < xs.length), VOwn w (Fs j) (us j) xs[j]) : VOwn w F (cells5 k i b t (.some ⟨g, off, .none⟩) xs.length c) (.mk k i b t xs) :=
  fun P h0 h1 => h1 F k i b t g off c xs us Fs ⟨hl, hc, h5, hp, hf, hg, hgs, hd, hs, fun j h => hr j h P h0 h1⟩
/-- which of the two it is -/
theorem VOwn.inv (h : VOwn w F u x) : (∃ k i b t p c, u = cells5 k i b t p 0 c ∧ x = .mk k i b t []) ∨ ∃ k i b t g off c xs us Fs, u = cells5 k i b t (.some ⟨g, off, .none⟩) xs.length c ∧ x = .mk k i b t xs ∧ VOwnS w (VOwn w) F g off c xs us Fs := by
  have := h (fun F u x => VOwn w F u x ∧ ((∃ k i b t p c, u = cells5 k i b t p 0 c ∧ x = .mk k i b t []) ∨ ∃ k i b t g off c xs us Fs, u = cells5 k i b t (.some ⟨g, off, .none⟩) xs.length c ∧ x = .mk k i b t xs ∧ VOwnS w (VOwn w) F g off c xs us Fs))
    (fun F k i b t p c => ⟨.none, .inl ⟨k, i, b, t, p, c, rfl, rfl⟩⟩)
    (fun F k i b t g off c xs us Fs s => ⟨.some us Fs s.hl s.hc s.h5 s.hp s.hf s.hg s.hgs s.hd s.hs (fun j h => (s.hr j h).1), .inr ⟨k, i, b, t, g, off, c, xs, us, Fs, rfl, rfl, s.hl, s.hc, s.h5, s.hp, s.hf, s.hg, s.hgs, s.hd, s.hs, fun j h => (s.hr j h).1⟩⟩)
  exact this.2
theorem VOwn.five (h : VOwn w F u x) : u.size = 5 := by
  rcases h.inv with ⟨_, _, _, _, _, _, rfl, _⟩ | ⟨_, _, _, _, _, _, _, _, _, _, rfl, _⟩ <;> rfl
theorem VOwn.shape (h : VOwn w F u x) : ∃ k i b t p n c, u = cells5 k i b t p n c := by
  rcases h.inv with ⟨_, _, _, _, _, _, rfl, _⟩ | ⟨_, _, _, _, _, _, _, _, _, _, rfl, _⟩ <;> exact ⟨_, _, _, _, _, _, _, rfl⟩
theorem VOwn.lies (h : VOwn w F u x) : VLies w u x :=
  h (fun _ u x => VLies w u x) (fun F k i b t p c => VLies.mk (xs := []) (fun _ => #[]) (by simp) (by simp) (fun hc => absurd rfl hc) (fun j hj => by simp at hj))
    (fun F k i b t g off c xs us Fs s => VLies.mk us s.hl s.hc (fun _ => ⟨_, _, rfl, s.hp.1, s.hp.2⟩) s.hr)
theorem VOwn.aside (h : VOwn w F u x) : ∀ {G : Nat → Prop} {w' : World}, Aside G w w' → (∀ k, F k → ¬ G k) → VOwn w' F u x := by
  intro G w' ha
  refine h (fun F u x => (∀ k, F k → ¬ G k) → VOwn w' F u x) ?_ ?_
  · intro F k i b t p c _; exact .none
  · intro F k i b t g off c xs us Fs s hd2
    refine .some us Fs s.hl s.hc s.h5 ⟨Nat.lt_of_lt_of_le s.hp.1 ha.size, fun j hj m hm => ?_⟩ (fun j hj m hm => ?_) s.hg s.hgs s.hd s.hs (fun j hj => s.hr j hj fun k hk => hd2 k (s.hs j hj k hk))
    · rw [ha.cell s.hp.1 (hd2 _ s.hg)]; exact s.hp.2 j hj m hm
    · rw [ha.frozen s.hp.1 (hd2 _ s.hg)]; exact s.hf j hj m hm
theorem VOwn.under {B : Nat} (h : VOwn w F u x) (hb : Below B w w') (hF : ∀ k, F k → k < B) : VOwn w' F u x :=
  h.aside (G := fun k => B ≤ k) (aside_of hb fun _ _ h => h) fun k hk hc => by have := hF k hk; omega
theorem VOwn.mono (h : VOwn w F u x) (hF : ∀ k, F k → G k) : VOwn w G u x := by
  rcases h.inv with ⟨k, i, b, t, p, c, rfl, rfl⟩ | ⟨k, i, b, t, g, off, c, xs, us, Fs, rfl, rfl, s⟩
  · exact .none
  · exact .some us Fs s.hl s.hc s.h5 s.hp s.hf (hF _ s.hg) s.hgs s.hd (fun j hj k hk => hF k (s.hs j hj k hk)) s.hr
end

/-- cells, value by value -/
def flat (us : Nat → Array Value) : Nat → List Value
  | 0 => []
  | n + 1 => flat us n ++ (us n).toList
theorem flat_len (us : Nat → Array Value) : ∀ n, (∀ j, j < n → (us j).size = 5) → (flat us n).length = n * 5
  | 0, _ => by simp [flat]
  | n + 1, h => by
    rw [flat, List.length_append, flat_len us n fun j hj => h j (by omega), Array.length_toList, h n (by omega)]; omega
theorem flat_get (us : Nat → Array Value) : ∀ n, (∀ j, j < n → (us j).size = 5) → ∀ j, j < n → ∀ m, m < 5 → (flat us n)[j * 5 + m]? = (us j)[m]?
  | 0, _, j, hj, _, _ => by omega
  | n + 1, h, j, hj, m, hm => by
    have hl := flat_len us n fun j hj => h j (by omega)
    rw [flat]
    rcases Nat.lt_or_ge j n with h1 | h1
    · rw [List.getElem?_append_left (by omega), flat_get us n (fun j hj => h j (by omega)) j h1 m hm]
    · have hjn : j = n := by omega
      subst hjn
      rw [List.getElem?_append_right (by omega), hl, Nat.add_sub_cancel_left]
      simp
theorem flat_congr (us us' : Nat → Array Value) : ∀ n, (∀ j, j < n → us j = us' j) → flat us n = flat us' n
  | 0, _ => rfl
  | n + 1, h => by rw [flat, flat, flat_congr us us' n fun j hj => h j (by omega), h n (by omega)]

/-- values that are built: they lie in a row of the call's own, and each in blocks of its own -/
structure Built (w : World) (B : Nat) (v : Value) (n : Nat) (us : Nat → Array Value) (Fs : Nat → Nat → Prop) (ys : List V) : Prop where
  len : ys.length = n
  five : ∀ j, j < n → (us j).size = 5
  row : w.ownsRow B 53 5 v n (flat us n)
  own : ∀ j (h : j < ys.length), VOwn w (Fs j) (us j) ys[j]
  apart : ∀ j m, j < n → m < n → j ≠ m → ∀ k, Fs j k → ¬ Fs m k
  beside : ∀ g, v.ownBlock = some g → ∀ j, j < n → ¬ Fs j g
  range : ∀ j, j < n → ∀ k, Fs j k → B ≤ k ∧ k < w.heap.size

theorem built_nil (w : World) (B : Nat) : Built w B (.slice none 0 0) 0 (fun _ => #[]) (fun _ _ => False) [] :=
  ⟨rfl, fun j hj => by omega, World.ownsRow_nil _ _ _ _, fun j hj => by simp at hj, fun j m hj => by omega, fun g hg => by simp [Value.ownBlock] at hg, fun j hj => by omega⟩

section
variable {w w' : World} {B : Nat} {v : Value} {n : Nat} {us : Nat → Array Value} {Fs : Nat → Nat → Prop} {ys : List V}
theorem Built.aside {G : Nat → Prop} (h : Built w B v n us Fs ys) (ha : Aside G w w') (h1 : ∀ g, v.ownBlock = some g → ¬ G g) (h2 : ∀ j, j < n → ∀ k, Fs j k → ¬ G k) : Built w' B v n us Fs ys := by
  refine ⟨h.len, h.five, ?_, fun j hj => (h.own j hj).aside ha (h2 j (by rw [← h.len]; exact hj)), h.apart, h.beside, fun j hj k hk => ⟨(h.range j hj k hk).1, Nat.lt_of_lt_of_le (h.range j hj k hk).2 ha.size⟩⟩
  refine ⟨h.row.1, ?_⟩
  rcases h.row.2 with h3 | ⟨g, cap, cur, rfl, h4, h5, h6⟩
  · exact .inl h3
  · exact .inr ⟨g, cap, cur, rfl, h4, by rw [ha.block g (Array.getElem?_eq_some_iff.1 h5).1 (h1 g rfl)]; exact h5, h6⟩
theorem Built.lt (h : Built w B v n us Fs ys) : ∀ g, v.ownBlock = some g → B ≤ g ∧ g < w.heap.size := World.ownsRow.lt h.row
theorem Built.on (h : Built w B v n us Fs ys) (hb : Below w.heap.size w w') : Built w' B v n us Fs ys :=
  h.aside (aside_new hb (fun _ => False)) (fun _ _ hc => hc) (fun _ _ _ _ hc => hc)
theorem Built.set (h : Built w B v n us Fs ys) (p : Addr) (u : Value) (hp : p.block < B) : Built (w.setCell p u) B v n us Fs ys :=
  h.aside (G := fun k => k = p.block) ((Aside.refl (fun k => k = p.block) w).setCell (p := p) (.inl rfl) u) (fun g hg hc => by have := (h.lt g hg).1; omega) (fun j hj k hk hc => by have := (h.range j hj k hk).1; omega)

/-- one more -/
theorem Built.step {w2 w3 w4 : World} {u : Array Value} {F : Nat → Prop} {x : V} {g cap : Nat} (h : Built w B v n us Fs ys) (hb : Below w.heap.size w w2) (hx : VOwn w2 F u x) (hF : ∀ k, F k → w.heap.size ≤ k ∧ k < w2.heap.size) (hb3 : Below w2.heap.size w2 w3) (hB : B ≤ w.heap.size)
    (hr : w4.ownsRow B 53 5 (.slice (some ⟨g, 0, none⟩) (n + 1) cap) (n + 1) (flat us n ++ u.toList)) (hg : w3.grownBy w4 v.ownBlock) (hn : v.ownBlock = some g ∨ g = w3.heap.size) :
    Built w4 B (.slice (some ⟨g, 0, none⟩) (n + 1) cap) (n + 1) (fun j => if j = n then u else us j) (fun j => if j = n then F else Fs j) (ys ++ [x]) := by
  have hs := hb.size
  have hs3 := hb3.size
  have ha : Aside (fun k => v.ownBlock = some k) w2 w4 := by
    refine (aside_new hb3 _).trans (G := fun k => v.ownBlock = some k) ⟨hg.os, hg.tape, hg.output, hg.size, fun k hk hf => hg.block k hk (fun hc => hf hc.symm)⟩ (fun _ _ h => h)
  have hgF : ∀ k, F k → ¬ v.ownBlock = some k := fun k hk hc => by have := (h.lt k hc).2; have := (hF k hk).1; omega
  have hn1 : ∀ j, j < n + 1 → j ≠ n → j < n := fun j h1 h2 => by omega
  refine ⟨by rw [List.length_append, h.len]; rfl, fun j hj => ?_, ?_, fun j hj => ?_, fun j m hj hm hjm k hk => ?_, fun g' hg' j hj => ?_, fun j hj k hk => ?_⟩
  · split
    · exact hx.five
    · exact h.five j (by omega)
  · rw [flat, flat_congr _ us n (fun j hj => by simp [show ¬ j = n by omega])]
    simpa using hr
  · rw [List.length_append, h.len, List.length_singleton] at hj
    by_cases hjn : j = n
    · subst hjn
      rw [if_pos rfl, if_pos rfl, List.getElem_append_right (by rw [h.len]; exact Nat.le_refl _)]
      simp only [h.len, Nat.sub_self, List.getElem_singleton]
      exact hx.aside ha hgF
    · rw [if_neg hjn, if_neg hjn, List.getElem_append_left (by rw [h.len]; omega)]
      exact ((h.own j (by rw [h.len]; omega)).under hb (fun k hk => (h.range j (by omega) k hk).2)).aside ha (fun k hk hc => h.beside k hc j (by omega) hk)
  · by_cases hjn : j = n
    · rw [if_pos hjn] at hk
      rw [if_neg (by omega)]
      exact fun hc => by have := (h.range m (by omega) k hc).2; have := (hF k hk).1; omega
    · rw [if_neg hjn] at hk
      by_cases hmn : m = n
      · rw [if_pos hmn]
        exact fun hc => by have := (h.range j (by omega) k hk).2; have := (hF k hc).1; omega
      · rw [if_neg hmn]
        exact h.apart j m (by omega) (by omega) hjm k hk
  · simp only [Value.ownBlock, Option.some.injEq] at hg'
    subst hg'
    by_cases hjn : j = n
    · rw [if_pos hjn]
      intro hc
      have := hF _ hc
      rcases hn with hn | hn
      · exact hgF _ hc hn
      · omega
    · rw [if_neg hjn]
      intro hc
      rcases hn with hn | hn
      · exact h.beside _ hn j (by omega) hc
      · have := (h.range j (by omega) _ hc).2; omega
  · have h4 := ha.size
    by_cases hjn : j = n
    · rw [if_pos hjn] at hk
      have := hF k hk; omega
    · rw [if_neg hjn] at hk
      have := h.range j (by omega) k hk; omega

/-- what is built is a value that lies in blocks of its own -/
theorem Built.done (h : Built w B v n us Fs ys) (hl : n * 64 ≤ 140737488351232) (k i : Int) (b : Nat) (t : ByteArray) : ∃ p c, v = .slice p n c ∧ VOwn w (fun k => B ≤ k ∧ k < w.heap.size) (cells5 k i b t p n c) (.mk k i b t ys) := by
  rcases h.row.2 with ⟨rfl, h0⟩ | ⟨g, cap, cur, rfl, h1, h2, h3, h4, h5, h6⟩
  · have hy : ys = [] := List.eq_nil_of_length_eq_zero (by rw [h.len]; exact h0)
    subst hy
    subst h0
    exact ⟨none, 0, rfl, .none⟩
  · refine ⟨_, cap, rfl, ?_⟩
    have hg := (Array.getElem?_eq_some_iff.1 h2).1
    have hlen := h.len
    have hcell : ∀ q, q < n * 5 → w.cell? ⟨g, q, none⟩ = (flat us n)[q]? := fun q hq => by
      rw [← h6, List.getElem?_take_of_lt hq]
      simp [World.cell?, h2]
    subst hlen
    refine .some us Fs hl h3 h.five ⟨hg, fun j hj m hm => ?_⟩ (fun j hj m hm => by simp [World.frozen?, h2]) ⟨h1, hg⟩ (fun j hj => h.beside g rfl j hj) h.apart (fun j hj k hk => h.range j hj k hk) h.own
    rw [Nat.zero_add, hcell _ (by omega), flat_get us _ h.five j hj m hm]
end
end Go.Proofs.Yticmkgbjannkkaa

/- append(s, v) of a value onto a slice of values of the call's own; blocks that are known whole. -/
namespace Go.Proofs.Yticmkgbjannkkaa
open Go.RowKit

def zeroV : Value := .agg (cells5 0 0 0 ⟨#[]⟩ none 0 0)
theorem info25 : (Try.prog.info? 53).map (fun i => (i.zero, i.size, i.bytes)) = some (some zeroV, 5, 64) := by kernel_rfl

theorem one5 {w : World} {F : Nat → Prop} {u : Array Value} {x : V} (h : VOwn w F u x) : ∀ a ∈ u.toList, a.oneCell' = true := by
  have key : ∀ (k i : Int) (b : Nat) (t : ByteArray) (p : Option Addr) (n c : Nat), ∀ a ∈ (cells5 k i b t p n c).toList, a.oneCell' = true := by
    intro k i b t p n c a ha
    simp [cells5] at ha
    rcases ha with rfl | rfl | rfl | rfl | rfl <;> rfl
  obtain ⟨_, _, _, _, _, _, _, rfl⟩ := h.shape
  exact key _ _ _ _ _ _ _

theorem blk_cell {w : World} {b : Nat} {C : Array Value} {T : TypeId} {fr : Nat × Nat} (h : w.heap[b]? = some (.cells C T fr)) (m : Nat) : w.cell? ⟨b, m, none⟩ = C[m]? := by
  simp [World.cell?, h]
theorem blk_free {w : World} {b : Nat} {C : Array Value} {T : TypeId} (h : w.heap[b]? = some (.cells C T (0, 0))) (m : Nat) : w.frozen? ⟨b, m, none⟩ = false := by
  simp [World.frozen?, h]
theorem blk_lt {w : World} {b : Nat} {o : Obj} (h : w.heap[b]? = some o) : b < w.heap.size := (Array.getElem?_eq_some_iff.1 h).1
theorem blk_on {w w' : World} {B b : Nat} {o : Obj} (h : w.heap[b]? = some o) (hb : Below B w w') (hB : b < B) : w'.heap[b]? = some o := (hb.block b hB).trans h
theorem blk_new (w : World) (o : Obj) : (w.alloc o).heap[w.heap.size]? = some o := by
  show (w.heap.push o)[w.heap.size]? = _
  simp
theorem blk_old (w : World) (o : Obj) {k : Nat} (h : k < w.heap.size) : (w.alloc o).heap[k]? = w.heap[k]? := by
  show (w.heap.push o)[k]? = _
  rw [Array.getElem?_push, if_neg (by omega)]
theorem blk_set {w : World} {b : Nat} {C : Array Value} {T : TypeId} (h : w.heap[b]? = some (.cells C T (0, 0))) (m : Nat) (u : Value) : (w.setCell ⟨b, m, none⟩ u).heap[b]? = some (.cells (C.set! m u) T (0, 0)) := by
  simp [World.setCell, Array.getElem?_modify, h]
theorem blk_set_far {w : World} {b : Nat} {o : Obj} (h : w.heap[b]? = some o) (p : Addr) (u : Value) (hp : b ≠ p.block) : (w.setCell p u).heap[b]? = some o := (Below.heap_setCell _ _ _ _ hp).trans h
theorem blk_far {W W' : World} {b : Nat} {o : Obj} {row : Option Nat} (h : W.heap[b]? = some o) (hg : W.grownBy W' row) (hne : row ≠ some b) : W'.heap[b]? = some o :=
  (hg.block b (blk_lt h) (fun hc => hne hc.symm)).trans h

/-- the walk's set lacks a float's store -/
theorem run_store_float (P : Program) (w : World) (a : Addr) (m : Mode) (k : FloatKind) (x : Nat) : (store a (.float k x) m).run P w = stored P w a (.float k x) m := run_store P w a _ m rfl

section
variable {B : Nat} {v : Value} {n : Nat} {us : Nat → Array Value} {w : World} {u : Array Value} {ad H : Nat}
/-- in the walk -/
theorem wp_more (hown : w.ownsRow B 53 5 v n (flat us n)) (h5 : u.size = 5) (h1 : ∀ a ∈ u.toList, a.oneCell' = true) (hblk : w.heap[ad]? = some (.cells u 53 (0, 0))) (hn : (n + 1) * 64 ≤ 140737488355328) (hB : B ≤ w.heap.size) (hH : w.heap.size = H)
    {ops : Array Oper} {rest : List Oper} {o : Oper} {a : Act} {Q : Exit → Act → World → Prop} {y x : Operand}
    (hg : o.guard = none) (hop : o.op = Op.call { callee := Callee.builtin Builtin.append, args := #[y, x], argTypes := #[25, 25] })
    (hs : a.eval y = v) (hx : a.eval x = .slice (some ⟨ad, 0, none⟩) 1 1)
    (hK : ∀ g cap w', w'.ownsRow B 53 5 (.slice (some ⟨g, 0, none⟩) (n + 1) cap) (n + 1) (flat us n ++ u.toList) → w.grownBy w' v.ownBlock → (v.ownBlock = some g ∨ g = H) → wpList Try.prog ops Q rest (a.put o.dst (.slice (some ⟨g, 0, none⟩) (n + 1) cap)) w') :
    wpList Try.prog ops Q (o :: rest) a w := by
  obtain ⟨i, hi, hz, hsz, hby⟩ := info_parts info25
  exact wpList_append_lies w hg y x 25 hop B 53 i zeroV 5 64 Try.underlying25 hi hz hsz hby rfl (by decide) v n (flat us n) hs hown ⟨ad, 0, none⟩ 1 1 u.toList hx (by simp [h5])
    (World.news_of_block hblk) h1 (by decide) (by unfold maxLen; omega) hn hB H hH fun g cap w' h2 h3 h4 _ => hK g cap w' h2 h3 h4
/-- at a step of a region that draws -/
theorem step_more (hown : w.ownsRow B 53 5 v n (flat us n)) (h5 : u.size = 5) (h1 : ∀ a ∈ u.toList, a.oneCell' = true) (hblk : w.heap[ad]? = some (.cells u 53 (0, 0))) (hn : (n + 1) * 64 ≤ 140737488355328) (hB : B ≤ w.heap.size) (hH : w.heap.size = H)
    {ops : Array Oper} {o : Oper} {a : Act} {K : Act → World → Prop} {Q : Exit → Act → World → Prop} {E : Prop} (y x : Operand)
    (hg : o.guard = none) (hop : o.op = Op.call { callee := Callee.builtin Builtin.append, args := #[y, x], argTypes := #[25, 25] })
    (hs : a.eval y = v) (hx : a.eval x = .slice (some ⟨ad, 0, none⟩) 1 1)
    (hK : ∀ g cap w', w'.ownsRow B 53 5 (.slice (some ⟨g, 0, none⟩) (n + 1) cap) (n + 1) (flat us n ++ u.toList) → w.grownBy w' v.ownBlock → (v.ownBlock = some g ∨ g = H) → K (a.put o.dst (.slice (some ⟨g, 0, none⟩) (n + 1) cap)) w') :
    if Region.wanted o (yielded ops a.tmps) = true then Oper.wp Try.prog o a w K Q else E := by
  obtain ⟨i, hi, hz, hsz, hby⟩ := info_parts info25
  exact step_append_lies w hg y x 25 hop B 53 i zeroV 5 64 Try.underlying25 hi hz hsz hby rfl (by decide) v n (flat us n) hs hown ⟨ad, 0, none⟩ 1 1 u.toList hx (by simp [h5])
    (World.news_of_block hblk) h1 (by decide) (by unfold maxLen; omega) hn hB H hH fun g cap w' h2 h3 h4 _ => hK g cap w' h2 h3 h4
end

/-- a call of a Go function of one argument, at a step of a region that draws -/
theorem step_call1 {w : World} {ops : Array Oper} {o : Oper} {a : Act} {K : Act → World → Prop} {Q : Exit → Act → World → Prop} {E : Prop} {f : FuncId} {fn : Func} {code : Code} {u : Value} {R : Ending → World → Prop} (x : Operand) (t : TypeId)
    (hg : o.guard = none) (hop : o.op = Op.call { callee := .value (.func f), args := #[x], argTypes := #[t] }) (hx : a.eval x = u)
    (hf : Try.prog.funcs[f]? = some fn) (hname : (fn.name == "runtime.NumGoroutine") = false) (hb : fn.body = some code)
    (hc : Calls Try.prog f #[u] w R) (hR : ∀ e w', R e w' → ∃ v, e = .returned v ∧ K (a.put o.dst v) w') :
    if Region.wanted o (yielded ops a.tmps) = true then Oper.wp Try.prog o a w K Q else E := by
  have hw : Region.wanted o (yielded ops a.tmps) = true := by simp [Region.wanted, hg]
  rw [if_pos hw]
  have h1 : fn.name ≠ "runtime.NumGoroutine" := by simpa using hname
  unfold Oper.wp
  have he : (execOp a.eval o).run Try.prog w = .ok (.enter f #[u]) w := by
    have hev : a.eval (.func f) = .func (.func f) #[] #[] := rfl
    simp [execOp, hop, resolve, invoke, hx, hev, Deferred.ofValue, callFunc, hf, h1, hb]
  rw [he, Oper.upon_enter]
  refine hc.mono ?_
  intro e w' hr
  obtain ⟨v, rfl, hk⟩ := hR e w' hr
  exact hk
end Go.Proofs.Yticmkgbjannkkaa

/- The document's Fix. -/
namespace Go.Proofs.Yticmkgbjannkkaa
open Go.RowKit

attribute [local go_sem] run_store_float

/-- what a fresh value's call answers -/
def Fresh (w : World) (y : V) (e : Ending) (w' : World) : Prop := ∃ u', e = .returned (.agg u') ∧ VOwn w' (fun k => w.heap.size ≤ k ∧ k < w'.heap.size) u' y ∧ Below w.heap.size w w'

/-- while a value is built: its parameter stands in the first block, its answer's place in the next, the value in the third; j items are there -/
structure Making (w : World) (C0 : Array Value) (k i : Int) (b : Nat) (t : ByteArray) (zs : List V) (j : Nat) (v : Value) (wr : World) : Prop where
  built : ∃ us Fs, Built wr (w.heap.size + 3) v j us Fs (zs.take j)
  b0 : wr.heap[w.heap.size]? = some (.cells C0 53 (0, 0))
  b1 : wr.heap[w.heap.size + 1]? = some (.cells (cells5 0 0 0 ⟨#[]⟩ none 0 0) 53 (0, 0))
  b2 : wr.heap[w.heap.size + 2]? = some (.cells #[.int .i64 k, .int .i64 i, .float .f64 b, .string t, v] 53 (0, 0))
  below : Below w.heap.size w wr
  size : w.heap.size + 3 ≤ wr.heap.size

section
variable {w wr : World} {C0 : Array Value} {k i : Int} {b : Nat} {t : ByteArray} {zs : List V} {j : Nat} {v : Value}
theorem making_start (w : World) (C0 : Array Value) (k i : Int) (b : Nat) (t : ByteArray) (zs : List V) :
    Making w C0 k i b t zs 0 (.slice none 0 0) (((w.alloc (.cells C0 53)).alloc (.cells (cells5 0 0 0 ⟨#[]⟩ none 0 0) 53)).alloc (.cells #[.int .i64 k, .int .i64 i, .float .f64 b, .string t, .slice none 0 0] 53)) := by
  refine ⟨⟨_, _, built_nil _ _⟩, ?_, ?_, ?_, ((((Below.refl _ w).alloc (Nat.le_refl _) _).alloc (by simp) _).alloc (by simp; omega) _), by simp⟩
  · rw [blk_old _ _ (by simp; omega), blk_old _ _ (by simp)]; exact blk_new w _
  · rw [blk_old _ _ (by simp)]
    have := blk_new (w.alloc (.cells C0 53)) (.cells (cells5 0 0 0 ⟨#[]⟩ none 0 0) 53)
    simpa using this
  · have := blk_new ((w.alloc (.cells C0 53)).alloc (.cells (cells5 0 0 0 ⟨#[]⟩ none 0 0) 53)) (.cells #[.int .i64 k, .int .i64 i, .float .f64 b, .string t, .slice none 0 0] 53)
    simpa using this

theorem Making.slice (h : Making w C0 k i b t zs j v wr) : ∃ p c, v = .slice p j c := by
  obtain ⟨us, Fs, hb⟩ := h.built
  rcases hb.row.2 with ⟨h1, h2⟩ | ⟨g, cap, cur, h1, _⟩
  · exact ⟨none, 0, by rw [h1, h2]⟩
  · exact ⟨_, cap, h1⟩

theorem Making.next {w2 w3 w4 : World} {u : Array Value} {F : Nat → Prop} {g cap : Nat} {us : Nat → Array Value} {Fs : Nat → Nat → Prop} (h : Making w C0 k i b t zs j v wr) (hbt : Built wr (w.heap.size + 3) v j us Fs (zs.take j)) (hj : j < zs.length) (hb : Below wr.heap.size wr w2) (hx : VOwn w2 F u zs[j])
    (hF : ∀ k, F k → wr.heap.size ≤ k ∧ k < w2.heap.size) (hb3 : Below w2.heap.size w2 w3)
    (hr : w4.ownsRow (w.heap.size + 3) 53 5 (.slice (some ⟨g, 0, none⟩) (j + 1) cap) (j + 1) (flat us j ++ u.toList)) (hg : w3.grownBy w4 v.ownBlock) (hn : v.ownBlock = some g ∨ g = w3.heap.size) :
    Below w.heap.size w w4 ∧ (∀ n, n < 3 → w4.heap[w.heap.size + n]? = wr.heap[w.heap.size + n]?) ∧ Making w C0 k i b t zs (j + 1) (.slice (some ⟨g, 0, none⟩) (j + 1) cap) (w4.setCell ⟨w.heap.size + 2, 4, none⟩ (.slice (some ⟨g, 0, none⟩) (j + 1) cap)) := by
  have hs := h.size
  have hs2 := hb.size
  have hs3 := hb3.size
  have hst := hbt.step hb hx hF hb3 hs hr hg hn
  have hold : ∀ n, n < 3 → w4.heap[w.heap.size + n]? = wr.heap[w.heap.size + n]? := fun n hn => by
    rw [hg.block _ (by omega) (fun hc => by have := (hbt.lt _ hc.symm).1; omega), hb3.block _ (by omega), hb.block _ (by omega)]
  have hb4 : Below w.heap.size w w4 := ((h.below.trans (hb.mono (by omega))).trans (hb3.mono (by omega))).grown hg (by omega) (fun k hk => by have := (hbt.lt k hk).1; omega)
  refine ⟨hb4, hold, ⟨⟨(fun n => if n = j then u else us n), (fun n => if n = j then F else Fs n), ?_⟩, ?_, ?_, ?_, ?_, ?_⟩⟩
  · rw [List.take_succ_eq_append_getElem hj]
    exact hst.set ⟨w.heap.size + 2, 4, none⟩ _ (by show w.heap.size + 2 < _; omega)
  · have := hold 0 (by omega)
    rw [Nat.add_zero] at this
    exact blk_set_far (this.trans h.b0) _ _ (by show w.heap.size ≠ w.heap.size + 2; omega)
  · exact blk_set_far ((hold 1 (by omega)).trans h.b1) _ _ (by show w.heap.size + 1 ≠ w.heap.size + 2; omega)
  · rw [blk_set ((hold 2 (by omega)).trans h.b2)]
    rfl
  · exact hb4.setCell (by show w.heap.size ≤ w.heap.size + 2; omega) _
  · have := hg.size
    simp [World.setCell]
    omega

/-- the answer's place is written: the value is there -/
def put5 (w : World) (g : Nat) (k i : Int) (b : Nat) (t : ByteArray) (v : Value) : World :=
  ((((w.setCell ⟨g, 0, none⟩ (.int .i64 k)).setCell ⟨g, 1, none⟩ (.int .i64 i)).setCell ⟨g, 2, none⟩ (.float .f64 b)).setCell ⟨g, 3, none⟩ (.string t)).setCell ⟨g, 4, none⟩ v
theorem Making.finish {q : Option Addr} {d : Nat} (h : Making w C0 k i b t zs j (.slice q j d) wr) (hj : j = zs.length) (hl : j * 64 ≤ 140737488351232) :
    (put5 wr (w.heap.size + 1) k i b t (.slice q j d)).heap[w.heap.size + 1]? = some (.cells (cells5 k i b t q j d) 53 (0, 0)) ∧ Fresh w (.mk k i b t zs) (.returned (.agg (cells5 k i b t q j d))) (put5 wr (w.heap.size + 1) k i b t (.slice q j d)) := by
  unfold put5
  refine ⟨?_, _, rfl, ?_, ?_⟩
  · rw [blk_set (blk_set (blk_set (blk_set (blk_set h.b1 0 _) 1 _) 2 _) 3 _) 4 _]
    rfl
  · obtain ⟨us, Fs, hb⟩ := h.built
    have hp : ∀ m, (⟨w.heap.size + 1, m, none⟩ : Addr).block < w.heap.size + 3 := fun m => by show w.heap.size + 1 < _; omega
    have h5 := ((((hb.set ⟨w.heap.size + 1, 0, none⟩ (.int .i64 k) (hp 0)).set ⟨w.heap.size + 1, 1, none⟩ (.int .i64 i) (hp 1)).set ⟨w.heap.size + 1, 2, none⟩ (.float .f64 b) (hp 2)).set ⟨w.heap.size + 1, 3, none⟩ (.string t) (hp 3)).set ⟨w.heap.size + 1, 4, none⟩ (.slice q j d) (hp 4)
    obtain ⟨p', c', he, hv⟩ := h5.done hl k i b t
    injection he with h6 h7 h8
    subst h6 h8
    rw [hj, List.take_length] at hv
    rw [← hj] at hv
    exact hv.mono fun k hk => ⟨by omega, hk.2⟩
  · have hp : ∀ m, w.heap.size ≤ (⟨w.heap.size + 1, m, none⟩ : Addr).block := fun m => by show _ ≤ w.heap.size + 1; omega
    exact ((((h.below.setCell (hp 0) _).setCell (hp 1) _).setCell (hp 2) _).setCell (hp 3) _).setCell (hp 4) _
end

theorem fixL_take (xs : List V) (j : Nat) (h : j < xs.length) : (V.fixL xs).take (j + 1) = (V.fixL xs).take j ++ [V.fix xs[j]] := by
  rw [V.fixL_eq, List.take_succ_eq_append_getElem (by simpa using h), List.getElem_map]

end Go.Proofs.Yticmkgbjannkkaa
