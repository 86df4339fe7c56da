/- WReadR, WScalR, WValAtR, WTyAtR, WColAtR, WDecR: put together. -/
import Derived.Test.YtnjggejallnkoaaM06
import Derived.Test.YtnjggejallnkoaaM10
import Derived.Test.YtnjggejallnkoaaM02
import Derived.Test.YtnjggejallnkoaaM05
import Derived.Test.YtnjggejallnkoaaM07
import Derived.Test.YtnjggejallnkoaaM04
import Derived.Test.YtnjggejallnkoaaM11
import Derived.Test.YtnjggejallnkoaaM13

/- The document's bit, text, float. -/
namespace Go.Proofs.Ytnjggejallnkoaa
open Go.RowKit

/-- what a number read tells -/
def numV (a : Nat) : Except Nat (Nat × Nat) → Value
  | .error e => .tuple #[.int .u64 0, .int .i64 0, .int .i64 (e : Nat)]
  | .ok (n, k) => .tuple #[.int .u64 (n : Nat), .int .i64 ((a + k : Nat) : Int), .int .i64 0]
theorem gotV_num (l : List UInt8) (a : Nat) : gotV l (a : Int) = numV a (Sch.num (l.drop a)) := by
  by_cases ha : a < l.length
  · by_cases h : (Leb.get (l.drop a)).err = 0
    · have e : Leb.get (l.drop a) = ⟨0, (Leb.get (l.drop a)).n, (Leb.get (l.drop a)).k⟩ := by rw [← h]
      rw [gotV_ok l a _ _ e, Sch.num, if_pos h]
      simp only [numV]
      rfl
    · have hb := Leb.getF_bad 10 true (l.drop a) h
      have e : Leb.get (l.drop a) = ⟨(Leb.get (l.drop a)).err, 0, 0⟩ := by
        have h1 : (Leb.get (l.drop a)).n = 0 := hb.1
        have h2 : (Leb.get (l.drop a)).k = 0 := hb.2
        generalize Leb.get (l.drop a) = g at *
        cases g
        simp_all
      rw [gotV_bad l a _ h e, Sch.num, if_neg h]
      rfl
  · rw [gotV_out l a (by omega), List.drop_eq_nil_of_le (by omega)]
    rfl

/-- what bit tells -/
def bitV (a : Nat) : Except Nat (Nat × Nat) → Value
  | .error e => .tuple #[.int .i64 0, .int .i64 0, .int .i64 (e : Nat)]
  | .ok (n, k) => .tuple #[.int .i64 (n : Nat), .int .i64 ((a + k : Nat) : Int), .int .i64 0]

/-- what text tells -/
def textV (a : Nat) : Except Nat (ByteArray × Nat) → Value
  | .error e => .tuple #[.string ⟨#[]⟩, .int .i64 0, .int .i64 (e : Nat)]
  | .ok (t, k) => .tuple #[.string t, .int .i64 ((a + k : Nat) : Int), .int .i64 0]

/-- what float tells -/
def floatV (a : Nat) : Except Nat (Nat × Nat) → Value
  | .error e => .tuple #[.float .f64 0, .int .i64 0, .int .i64 (e : Nat)]
  | .ok (n, k) => .tuple #[.float .f64 n, .int .i64 ((a + k : Nat) : Int), .int .i64 0]

/-- while eight bytes are read, the last one first -/
theorem un_drop (l : List UInt8) (i : Nat) (h : i < l.length) : Sch.un (l.drop i) = Sch.un (l.drop (i + 1)) * 256 + l[i].toNat := by
  rw [List.drop_eq_getElem_cons h, Sch.un]

end Go.Proofs.Ytnjggejallnkoaa

/- The document's scalar. -/
namespace Go.Proofs.Ytnjggejallnkoaa
open Go.RowKit

attribute [local go_sem] run_store_float

/-- what reading a value tells: the value in blocks of its own, and the place behind it; or the error alone -/
def ReadV (w : World) (a : Nat) (r : Except Nat (V × Nat)) (e : Ending) (w' : World) : Prop := match r with
  | .error er => e = .returned (.tuple #[.agg (cells5 0 0 0 ⟨#[]⟩ none 0 0), .int .i64 0, .int .i64 (er : Nat)]) ∧ Below w.heap.size w w'
  | .ok (v, k) => ∃ u, e = .returned (.tuple #[.agg u, .int .i64 ((a + k : Nat) : Int), .int .i64 0]) ∧ VOwn w' (fun k => w.heap.size ≤ k ∧ k < w'.heap.size) u v ∧ Below w.heap.size w w'

theorem bit_err {l : List UInt8} {e : Nat} (h : Sch.bit l = .error e) : e ≠ 0 := by
  cases l with
  | nil => rw [Sch.bit] at h; injection h with h; omega
  | cons c r =>
    rw [Sch.bit] at h
    split at h
    · injection h with h; omega
    · cases h
theorem num_err {l : List UInt8} {e : Nat} (h : Sch.num l = .error e) : e ≠ 0 := by
  intro hc
  rw [Sch.num] at h
  split at h
  · cases h
  · next h0 => injection h with h; rw [h] at h0; exact h0 hc
theorem float_err {l : List UInt8} {e : Nat} (h : Sch.float l = .error e) : e ≠ 0 := by
  rw [Sch.float] at h
  split at h
  · injection h with h; omega
  · split at h
    · cases h
    · injection h with h; omega
theorem text_err {m g : Nat} (hg : g ≠ 0) {l : List UInt8} {e : Nat} (h : Sch.text m g l = .error e) : e ≠ 0 := by
  rw [Sch.text] at h
  split at h
  · next e' he => injection h with h; rw [← h]; exact num_err he
  · split at h
    · injection h with h; omega
    · split at h
      · injection h with h; omega
      · cases h

theorem blk_first (w : World) (o o2 : Obj) : ((w.alloc o).alloc o2).heap[w.heap.size]? = some o := by rw [blk_old _ _ (by simp)]; exact blk_new w o
theorem bool_lit (b : Bool) : b = true ∨ b = false := by cases b <;> simp

end Go.Proofs.Ytnjggejallnkoaa

/- The document's ValueAt. -/
namespace Go.Proofs.Ytnjggejallnkoaa
open Go.RowKit

attribute [local go_sem] run_store_float

theorem many_err {k : Int} {l : List UInt8} {e : Nat} (h : Sch.many k l = .error e) : e ≠ 0 := by
  rw [Sch.many] at h
  split at h
  · exact bit_err h
  · split at h
    · next e' he => injection h with h; rw [← h]; exact num_err he
    · split at h
      · injection h with h; omega
      · cases h
theorem scalar_err {k : Int} {l : List UInt8} {e : Nat} (h : Sch.scalar k l = .error e) : e ≠ 0 := by
  rw [Sch.scalar] at h
  split at h
  · split at h
    · next e' he => injection h with h; rw [← h]; exact bit_err he
    · cases h
  split at h
  · split at h
    · next e' he => injection h with h; rw [← h]; exact num_err he
    · cases h
  split at h
  · split at h
    · next e' he => injection h with h; rw [← h]; exact float_err he
    · cases h
  split at h
  · next e' he => injection h with h; rw [← h]; exact text_err (by decide) he
  · split at h
    · injection h with h; omega
    · cases h
theorem rdN_err {f : List UInt8 → Except Nat (V × Nat)} (hf : ∀ l e, f l = .error e → e ≠ 0) : ∀ (m : Nat) (l : List UInt8) (e : Nat), Sch.rdN f m l = .error e → e ≠ 0
  | 0, l, e, h => by rw [Sch.rdN] at h; cases h
  | m + 1, l, e, h => by
    rw [Sch.rdN] at h
    split at h
    · next e' he => injection h with h; rw [← h]; exact hf l e' he
    · next v j hv =>
      split at h
      · next e' he => injection h with h; rw [← h]; exact rdN_err hf m _ _ he
      · cases h
theorem rdV_err : ∀ (t : Ty) (d : Nat) (l : List UInt8) (e : Nat), Ty.check d t = 0 → Sch.rdV t l = .error e → e ≠ 0 := by
  intro t
  refine Ty.ind (P := fun t => ∀ (d : Nat) (l : List UInt8) (e : Nat), Ty.check d t = 0 → Sch.rdV t l = .error e → e ≠ 0) ?_ t
  intro k xs ih d l e ht h
  obtain ⟨hd, hk, htt⟩ := Sch.ty_open ht
  rw [Sch.rdV_mk] at h
  rcases htt with ⟨h67, rfl⟩ | ⟨h67, x, rfl, hx⟩
  · rw [if_pos (by omega)] at h
    exact scalar_err h
  · rw [if_neg (by omega)] at h
    split at h
    · next e' he => injection h with h; rw [← h]; exact many_err he
    · split at h
      · next e' he =>
        injection h with h
        rw [← h]
        exact rdN_err (fun l e he => ih x (by simp) (d + 1) l e hx he) _ _ _ he
      · cases h

/-- what was read goes ahead of what is read behind it -/
def glue (ys : List V) (n : Nat) : Except Nat (List V × Nat) → Except Nat (List V × Nat)
  | .error e => .error e
  | .ok (vs, k) => .ok (ys ++ vs, n + k)
theorem glue_glue (ys : List V) (n : Nat) (v : V) (j : Nat) (r : Except Nat (List V × Nat)) : glue ys n (glue [v] j r) = glue (ys ++ [v]) (n + j) r := by
  cases r with
  | error e => rfl
  | ok p => simp [glue, Nat.add_assoc]
/-- one item is read, then m more -/
def stepR (f : List UInt8 → Except Nat (V × Nat)) (m : Nat) (l : List UInt8) : Except Nat (V × Nat) → Except Nat (List V × Nat)
  | .error e => .error e
  | .ok (v, j) => glue [v] j (Sch.rdN f m (l.drop j))
theorem rdN_succ (f : List UInt8 → Except Nat (V × Nat)) (m : Nat) (l : List UInt8) : Sch.rdN f (m + 1) l = stepR f m l (f l) := by
  rw [Sch.rdN]
  cases f l with
  | error e => rfl
  | ok p =>
    obtain ⟨v, j⟩ := p
    rw [stepR]
    dsimp only
    cases Sch.rdN f m (l.drop j) with
    | error e => rfl
    | ok q => rfl

theorem blk_second (w : World) (o o2 : Obj) : ((w.alloc o).alloc o2).heap[w.heap.size + 1]? = some o2 := by
  have := blk_new (w.alloc o) o2
  simpa using this
/-- the answer's place is written: the value is there -/
theorem put5_fin {w W1 w1 : World} {k i : Int} {b : Nat} {t : ByteArray} {q : Option Addr} {n c : Nat} {v : V} {F : Nat → Prop} (h1 : w1.heap[w.heap.size + 1]? = some (.cells (cells5 0 0 0 ⟨#[]⟩ none 0 0) 43 (0, 0))) (hW : Below w.heap.size w W1) (hs : w.heap.size + 2 ≤ W1.heap.size) (hb : Below w.heap.size W1 w1) (hsz : W1.heap.size ≤ w1.heap.size) (hv : VOwn w1 F (cells5 k i b t q n c) v) (hF : ∀ j, F j → w.heap.size + 2 ≤ j ∧ j < w1.heap.size) :
    (put5 w1 (w.heap.size + 1) k i b t (.slice q n c)).heap[w.heap.size + 1]? = some (.cells (cells5 k i b t q n c) 43 (0, 0)) ∧ VOwn (put5 w1 (w.heap.size + 1) k i b t (.slice q n c)) (fun j => w.heap.size ≤ j ∧ j < (put5 w1 (w.heap.size + 1) k i b t (.slice q n c)).heap.size) (cells5 k i b t q n c) v ∧ Below w.heap.size w (put5 w1 (w.heap.size + 1) k i b t (.slice q n c)) := by
  have hA : Aside (fun k => k = w.heap.size + 1) w1 (put5 w1 (w.heap.size + 1) k i b t (.slice q n c)) := by
    unfold put5
    exact (((((Aside.refl (fun k => k = w.heap.size + 1) w1).setCell (p := ⟨w.heap.size + 1, 0, none⟩) (.inl rfl) _).setCell (p := ⟨w.heap.size + 1, 1, none⟩) (.inl rfl) _).setCell (p := ⟨w.heap.size + 1, 2, none⟩) (.inl rfl) _).setCell (p := ⟨w.heap.size + 1, 3, none⟩) (.inl rfl) _).setCell (p := ⟨w.heap.size + 1, 4, none⟩) (.inl rfl) _
  refine ⟨?_, ?_, ?_⟩
  · unfold put5
    rw [blk_set (blk_set (blk_set (blk_set (blk_set h1 0 _) 1 _) 2 _) 3 _) 4 _]
    rfl
  · exact (hv.aside hA (fun k hk hc => by have := hF k hk; omega)).mono (fun j hj => ⟨by have := hF j hj; omega, by have := hF j hj; have := hA.size; omega⟩)
  · exact (hW.trans hb).trans (hA.below (by omega) (fun k hk hc => by omega))

/-- while the items are read: the type stands in the first block, the answer's place in the next, the value in the third; the items ys are there -/
structure MakingV (w : World) (C0 : Array Value) (k : Int) (ys : List V) (v : Value) (wr : World) : Prop where
  built : ∃ us Fs, Built wr (w.heap.size + 3) v ys.length us Fs ys
  b0 : wr.heap[w.heap.size]? = some (.cells C0 28 (0, 0))
  b1 : wr.heap[w.heap.size + 1]? = some (.cells (cells5 0 0 0 ⟨#[]⟩ none 0 0) 43 (0, 0))
  b2 : wr.heap[w.heap.size + 2]? = some (.cells #[.int .i64 k, .int .i64 0, .float .f64 0, .string ⟨#[]⟩, v] 43 (0, 0))
  below : Below w.heap.size w wr
  size : w.heap.size + 3 ≤ wr.heap.size

section
variable {w wr : World} {C0 : Array Value} {k : Int} {ys : List V} {v : Value}
theorem makingV_start (w : World) (C0 : Array Value) (k : Int) :
    MakingV w C0 k [] (.slice none 0 0) (((w.alloc (.cells C0 28)).alloc (.cells (cells5 0 0 0 ⟨#[]⟩ none 0 0) 43)).alloc (.cells #[.int .i64 k, .int .i64 0, .float .f64 0, .string ⟨#[]⟩, .slice none 0 0] 43)) := by
  refine ⟨⟨_, _, built_nil _ _⟩, ?_, ?_, ?_, ((((Below.refl _ w).alloc (Nat.le_refl _) _).alloc (by simp) _).alloc (by simp; omega) _), by simp⟩
  · rw [blk_old _ _ (by simp; omega), blk_old _ _ (by simp)]; exact blk_new w _
  · rw [blk_old _ _ (by simp)]
    have := blk_new (w.alloc (.cells C0 28)) (.cells (cells5 0 0 0 ⟨#[]⟩ none 0 0) 43)
    simpa using this
  · have := blk_new ((w.alloc (.cells C0 28)).alloc (.cells (cells5 0 0 0 ⟨#[]⟩ none 0 0) 43)) (.cells #[.int .i64 k, .int .i64 0, .float .f64 0, .string ⟨#[]⟩, .slice none 0 0] 43)
    simpa using this
theorem MakingV.slice (h : MakingV w C0 k ys v wr) : ∃ p c, v = .slice p ys.length c := by
  obtain ⟨us, Fs, hb⟩ := h.built
  rcases hb.row.2 with ⟨h1, h2⟩ | ⟨g, cap, cur, h1, _⟩
  · exact ⟨none, 0, by rw [h1, h2]⟩
  · exact ⟨_, cap, h1⟩
theorem MakingV.next {w2 w3 w4 : World} {u : Array Value} {F : Nat → Prop} {g cap : Nat} {us : Nat → Array Value} {Fs : Nat → Nat → Prop} {y : V} (h : MakingV w C0 k ys v wr) (hbt : Built wr (w.heap.size + 3) v ys.length us Fs ys) (hb : Below wr.heap.size wr w2) (hx : VOwn w2 F u y)
    (hF : ∀ k, F k → wr.heap.size ≤ k ∧ k < w2.heap.size) (hb3 : Below w2.heap.size w2 w3)
    (hr : w4.ownsRow (w.heap.size + 3) 43 5 (.slice (some ⟨g, 0, none⟩) (ys.length + 1) cap) (ys.length + 1) (flat us ys.length ++ u.toList)) (hg : w3.grownBy w4 v.ownBlock) (hn : v.ownBlock = some g ∨ g = w3.heap.size) :
    (∀ n, n < 3 → w4.heap[w.heap.size + n]? = wr.heap[w.heap.size + n]?) ∧ MakingV w C0 k (ys ++ [y]) (.slice (some ⟨g, 0, none⟩) (ys.length + 1) cap) (w4.setCell ⟨w.heap.size + 2, 4, none⟩ (.slice (some ⟨g, 0, none⟩) (ys.length + 1) cap)) := by
  have hs := h.size
  have hs2 := hb.size
  have hs3 := hb3.size
  have hst := hbt.step hb hx hF hb3 hs hr hg hn
  have hold : ∀ n, n < 3 → w4.heap[w.heap.size + n]? = wr.heap[w.heap.size + n]? := fun n hn => by
    rw [hg.block _ (by omega) (fun hc => by have := (hbt.lt _ hc.symm).1; omega), hb3.block _ (by omega), hb.block _ (by omega)]
  have hb4 : Below w.heap.size w w4 := ((h.below.trans (hb.mono (by omega))).trans (hb3.mono (by omega))).grown hg (by omega) (fun k hk => by have := (hbt.lt k hk).1; omega)
  refine ⟨hold, ⟨⟨(fun n => if n = ys.length then u else us n), (fun n => if n = ys.length then F else Fs n), ?_⟩, ?_, ?_, ?_, ?_, ?_⟩⟩
  · rw [List.length_append, List.length_singleton]
    exact hst.set ⟨w.heap.size + 2, 4, none⟩ _ (by show w.heap.size + 2 < _; omega)
  · have := hold 0 (by omega)
    rw [Nat.add_zero] at this
    exact blk_set_far (this.trans h.b0) _ _ (by show w.heap.size ≠ w.heap.size + 2; omega)
  · exact blk_set_far ((hold 1 (by omega)).trans h.b1) _ _ (by show w.heap.size + 1 ≠ w.heap.size + 2; omega)
  · rw [blk_set ((hold 2 (by omega)).trans h.b2)]
    rfl
  · exact hb4.setCell (by show w.heap.size ≤ w.heap.size + 2; omega) _
  · have := hg.size
    simp [World.setCell]
    omega
end

end Go.Proofs.Ytnjggejallnkoaa

/- The document's readType. -/
namespace Go.Proofs.Ytnjggejallnkoaa
open Go.RowKit

/-- what reading a type tells: the type in blocks of its own, and the place behind it; or the error alone -/
def ReadT (w : World) (a : Nat) (r : Except Nat (Ty × Nat)) (e : Ending) (w' : World) : Prop := match r with
  | .error er => e = .returned (.tuple #[.agg (cells2 0 none 0 0), .int .i64 0, .int .i64 (er : Nat)]) ∧ Below w.heap.size w w'
  | .ok (t, k) => ∃ u, e = .returned (.tuple #[.agg u, .int .i64 ((a + k : Nat) : Int), .int .i64 0]) ∧ TOwn w' (fun k => w.heap.size ≤ k ∧ k < w'.heap.size) u t ∧ Below w.heap.size w w'

theorem rdT_err : ∀ (f : Nat) (l : List UInt8) (e : Nat), Sch.rdT f l = .error e → e ≠ 0
  | 0, l, e, h => by rw [Sch.rdT] at h; injection h with h; omega
  | f + 1, [], e, h => by rw [Sch.rdT] at h; injection h with h; omega
  | f + 1, c :: r, e, h => by
    rw [Sch.rdT] at h
    split at h
    · injection h with h; omega
    split at h
    · cases h
    split at h
    · next e' he => injection h with h; rw [← h]; exact rdT_err f r e' he
    · cases h

/-- the answer's place is written: the type is there -/
def put2 (w : World) (g : Nat) (k : Int) (v : Value) : World := (w.setCell ⟨g, 0, none⟩ (.int .i64 k)).setCell ⟨g, 1, none⟩ v
theorem put2_fin {w w1 : World} {k : Int} {q : Option Addr} {n c : Nat} {x : Ty} {F : Nat → Prop} (h1 : w1.heap[w.heap.size]? = some (.cells (cells2 0 none 0 0) 28 (0, 0))) (hb : Below w.heap.size w w1) (hs : w.heap.size + 1 ≤ w1.heap.size) (hv : TOwn w1 F (cells2 k q n c) x) (hF : ∀ j, F j → w.heap.size + 1 ≤ j ∧ j < w1.heap.size) :
    (put2 w1 w.heap.size k (.slice q n c)).heap[w.heap.size]? = some (.cells (cells2 k q n c) 28 (0, 0)) ∧ TOwn (put2 w1 w.heap.size k (.slice q n c)) (fun j => w.heap.size ≤ j ∧ j < (put2 w1 w.heap.size k (.slice q n c)).heap.size) (cells2 k q n c) x ∧ Below w.heap.size w (put2 w1 w.heap.size k (.slice q n c)) := by
  have hA : Aside (fun k => k = w.heap.size) w1 (put2 w1 w.heap.size k (.slice q n c)) := by
    unfold put2
    exact ((Aside.refl (fun k => k = w.heap.size) w1).setCell (p := ⟨w.heap.size, 0, none⟩) (.inl rfl) _).setCell (p := ⟨w.heap.size, 1, none⟩) (.inl rfl) _
  refine ⟨?_, ?_, ?_⟩
  · unfold put2
    rw [blk_set (blk_set h1 0 _) 1 _]
    rfl
  · exact (hv.aside hA (fun k hk hc => by have := hF k hk; omega)).mono (fun j hj => ⟨by have := hF j hj; omega, by have := hF j hj; have := hA.size; omega⟩)
  · exact hb.trans (hA.below (by omega) (fun k hk hc => by omega))

end Go.Proofs.Ytnjggejallnkoaa

/- The document's readColumn. -/
namespace Go.Proofs.Ytnjggejallnkoaa
open Go.RowKit

attribute [local go_sem] run_store_float

/-- what reading a column tells: the column in blocks of its own, and the place behind it; or the error alone -/
def ReadC (w : World) (a : Nat) (r : Except Nat (Col × Nat)) (e : Ending) (w' : World) : Prop := match r with
  | .error er => e = .returned (.tuple #[.agg (cells9 ⟨#[]⟩ 0 none 0 0 false 0 0 0 ⟨#[]⟩ none 0 0), .int .i64 0, .int .i64 (er : Nat)]) ∧ Below w.heap.size w w'
  | .ok (c, k) => ∃ u, e = .returned (.tuple #[.agg u, .int .i64 ((a + k : Nat) : Int), .int .i64 0]) ∧ COwn w' (fun k => w.heap.size ≤ k ∧ k < w'.heap.size) u c ∧ Below w.heap.size w w'

theorem zero_own (w : World) : COwn w (fun _ => False) (cells9 ⟨#[]⟩ 0 none 0 0 false 0 0 0 ⟨#[]⟩ none 0 0) ⟨⟨#[]⟩, .mk 0 [], false, V0⟩ :=
  ⟨fun _ => False, fun _ => False, 0, none, 0, 0, 0, 0, 0, ⟨#[]⟩, none, 0, 0, rfl, TOwn.none, VOwn.none, fun _ h => h, fun _ h => h, fun _ h => h.elim⟩

/-- the answer's place is written: the column is there -/
def put9 (w : World) (g : Nat) (n : ByteArray) (k : Int) (s : Value) (h : Bool) (vk vi : Int) (vb : Nat) (vt : ByteArray) (vs : Value) : World :=
  ((((((((w.setCell ⟨g, 0, none⟩ (.string n)).setCell ⟨g, 1, none⟩ (.int .i64 k)).setCell ⟨g, 2, none⟩ s).setCell ⟨g, 3, none⟩ (.bool h)).setCell ⟨g, 4, none⟩ (.int .i64 vk)).setCell ⟨g, 5, none⟩ (.int .i64 vi)).setCell ⟨g, 6, none⟩ (.float .f64 vb)).setCell ⟨g, 7, none⟩ (.string vt)).setCell ⟨g, 8, none⟩ vs
set_option maxHeartbeats 2000000 in
theorem put9_fin {w w1 : World} {n : ByteArray} {k : Int} {tp : Option Addr} {tn tc : Nat} {h : Bool} {vk vi : Int} {vb : Nat} {vt : ByteArray} {vp : Option Addr} {vn vc : Nat} {c : Col} {F : Nat → Prop} (h1 : w1.heap[w.heap.size]? = some (.cells (cells9 ⟨#[]⟩ 0 none 0 0 false 0 0 0 ⟨#[]⟩ none 0 0) 55 (0, 0))) (hb : Below w.heap.size w w1) (hs : w.heap.size + 1 ≤ w1.heap.size) (hv : COwn w1 F (cells9 n k tp tn tc h vk vi vb vt vp vn vc) c) (hF : ∀ j, F j → w.heap.size + 1 ≤ j ∧ j < w1.heap.size) :
    (put9 w1 w.heap.size n k (.slice tp tn tc) h vk vi vb vt (.slice vp vn vc)).heap[w.heap.size]? = some (.cells (cells9 n k tp tn tc h vk vi vb vt vp vn vc) 55 (0, 0)) ∧ COwn (put9 w1 w.heap.size n k (.slice tp tn tc) h vk vi vb vt (.slice vp vn vc)) (fun j => w.heap.size ≤ j ∧ j < (put9 w1 w.heap.size n k (.slice tp tn tc) h vk vi vb vt (.slice vp vn vc)).heap.size) (cells9 n k tp tn tc h vk vi vb vt vp vn vc) c ∧ Below w.heap.size w (put9 w1 w.heap.size n k (.slice tp tn tc) h vk vi vb vt (.slice vp vn vc)) := by
  have a0 := Aside.refl (fun k => k = w.heap.size) w1
  have a1 := a0.setCell (p := ⟨w.heap.size, 0, none⟩) (.inl rfl) (.string n)
  have a2 := a1.setCell (p := ⟨w.heap.size, 1, none⟩) (.inl rfl) (.int .i64 k)
  have a3 := a2.setCell (p := ⟨w.heap.size, 2, none⟩) (.inl rfl) (.slice tp tn tc)
  have a4 := a3.setCell (p := ⟨w.heap.size, 3, none⟩) (.inl rfl) (.bool h)
  have a5 := a4.setCell (p := ⟨w.heap.size, 4, none⟩) (.inl rfl) (.int .i64 vk)
  have a6 := a5.setCell (p := ⟨w.heap.size, 5, none⟩) (.inl rfl) (.int .i64 vi)
  have a7 := a6.setCell (p := ⟨w.heap.size, 6, none⟩) (.inl rfl) (.float .f64 vb)
  have a8 := a7.setCell (p := ⟨w.heap.size, 7, none⟩) (.inl rfl) (.string vt)
  have a9 := a8.setCell (p := ⟨w.heap.size, 8, none⟩) (.inl rfl) (.slice vp vn vc)
  have hA : Aside (fun k => k = w.heap.size) w1 (put9 w1 w.heap.size n k (.slice tp tn tc) h vk vi vb vt (.slice vp vn vc)) := a9
  clear a0 a1 a2 a3 a4 a5 a6 a7 a8 a9
  have b0 : w1.heap[w.heap.size]? = some (.cells (cells9 ⟨#[]⟩ 0 none 0 0 false 0 0 0 ⟨#[]⟩ none 0 0) 55 (0, 0)) := h1
  have b1 : (w1.setCell ⟨w.heap.size, 0, none⟩ (.string n)).heap[w.heap.size]? = some (.cells (cells9 n 0 none 0 0 false 0 0 0 ⟨#[]⟩ none 0 0) 55 (0, 0)) := blk_set b0 0 (.string n)
  have b2 : ((w1.setCell ⟨w.heap.size, 0, none⟩ (.string n)).setCell ⟨w.heap.size, 1, none⟩ (.int .i64 k)).heap[w.heap.size]? = some (.cells (cells9 n k none 0 0 false 0 0 0 ⟨#[]⟩ none 0 0) 55 (0, 0)) := blk_set b1 1 (.int .i64 k)
  have b3 : (((w1.setCell ⟨w.heap.size, 0, none⟩ (.string n)).setCell ⟨w.heap.size, 1, none⟩ (.int .i64 k)).setCell ⟨w.heap.size, 2, none⟩ (.slice tp tn tc)).heap[w.heap.size]? = some (.cells (cells9 n k tp tn tc false 0 0 0 ⟨#[]⟩ none 0 0) 55 (0, 0)) := blk_set b2 2 (.slice tp tn tc)
  have b4 : ((((w1.setCell ⟨w.heap.size, 0, none⟩ (.string n)).setCell ⟨w.heap.size, 1, none⟩ (.int .i64 k)).setCell ⟨w.heap.size, 2, none⟩ (.slice tp tn tc)).setCell ⟨w.heap.size, 3, none⟩ (.bool h)).heap[w.heap.size]? = some (.cells (cells9 n k tp tn tc h 0 0 0 ⟨#[]⟩ none 0 0) 55 (0, 0)) := blk_set b3 3 (.bool h)
  have b5 : (((((w1.setCell ⟨w.heap.size, 0, none⟩ (.string n)).setCell ⟨w.heap.size, 1, none⟩ (.int .i64 k)).setCell ⟨w.heap.size, 2, none⟩ (.slice tp tn tc)).setCell ⟨w.heap.size, 3, none⟩ (.bool h)).setCell ⟨w.heap.size, 4, none⟩ (.int .i64 vk)).heap[w.heap.size]? = some (.cells (cells9 n k tp tn tc h vk 0 0 ⟨#[]⟩ none 0 0) 55 (0, 0)) := blk_set b4 4 (.int .i64 vk)
  have b6 : ((((((w1.setCell ⟨w.heap.size, 0, none⟩ (.string n)).setCell ⟨w.heap.size, 1, none⟩ (.int .i64 k)).setCell ⟨w.heap.size, 2, none⟩ (.slice tp tn tc)).setCell ⟨w.heap.size, 3, none⟩ (.bool h)).setCell ⟨w.heap.size, 4, none⟩ (.int .i64 vk)).setCell ⟨w.heap.size, 5, none⟩ (.int .i64 vi)).heap[w.heap.size]? = some (.cells (cells9 n k tp tn tc h vk vi 0 ⟨#[]⟩ none 0 0) 55 (0, 0)) := blk_set b5 5 (.int .i64 vi)
  have b7 : (((((((w1.setCell ⟨w.heap.size, 0, none⟩ (.string n)).setCell ⟨w.heap.size, 1, none⟩ (.int .i64 k)).setCell ⟨w.heap.size, 2, none⟩ (.slice tp tn tc)).setCell ⟨w.heap.size, 3, none⟩ (.bool h)).setCell ⟨w.heap.size, 4, none⟩ (.int .i64 vk)).setCell ⟨w.heap.size, 5, none⟩ (.int .i64 vi)).setCell ⟨w.heap.size, 6, none⟩ (.float .f64 vb)).heap[w.heap.size]? = some (.cells (cells9 n k tp tn tc h vk vi vb ⟨#[]⟩ none 0 0) 55 (0, 0)) := blk_set b6 6 (.float .f64 vb)
  have b8 : ((((((((w1.setCell ⟨w.heap.size, 0, none⟩ (.string n)).setCell ⟨w.heap.size, 1, none⟩ (.int .i64 k)).setCell ⟨w.heap.size, 2, none⟩ (.slice tp tn tc)).setCell ⟨w.heap.size, 3, none⟩ (.bool h)).setCell ⟨w.heap.size, 4, none⟩ (.int .i64 vk)).setCell ⟨w.heap.size, 5, none⟩ (.int .i64 vi)).setCell ⟨w.heap.size, 6, none⟩ (.float .f64 vb)).setCell ⟨w.heap.size, 7, none⟩ (.string vt)).heap[w.heap.size]? = some (.cells (cells9 n k tp tn tc h vk vi vb vt none 0 0) 55 (0, 0)) := blk_set b7 7 (.string vt)
  have b9 : (((((((((w1.setCell ⟨w.heap.size, 0, none⟩ (.string n)).setCell ⟨w.heap.size, 1, none⟩ (.int .i64 k)).setCell ⟨w.heap.size, 2, none⟩ (.slice tp tn tc)).setCell ⟨w.heap.size, 3, none⟩ (.bool h)).setCell ⟨w.heap.size, 4, none⟩ (.int .i64 vk)).setCell ⟨w.heap.size, 5, none⟩ (.int .i64 vi)).setCell ⟨w.heap.size, 6, none⟩ (.float .f64 vb)).setCell ⟨w.heap.size, 7, none⟩ (.string vt)).setCell ⟨w.heap.size, 8, none⟩ (.slice vp vn vc)).heap[w.heap.size]? = some (.cells (cells9 n k tp tn tc h vk vi vb vt vp vn vc) 55 (0, 0)) := blk_set b8 8 (.slice vp vn vc)
  refine ⟨b9, ?_, ?_⟩
  · exact (hv.aside hA (fun k hk hc => by have := hF k hk; omega)).mono (fun j hj => ⟨by have := hF j hj; omega, by have := hF j hj; have := hA.size; omega⟩)
  · exact hb.trans (hA.below (by omega) (fun k hk hc => by omega))

theorem find_any (n : ByteArray) : ∀ (s : List Col) (k : Nat), (Sch.find n s k).isSome = s.any (fun x => decide (x.name = n))
  | [], _ => rfl
  | c :: r, k => by
    rw [Sch.find, List.any_cons]
    by_cases h : c.name = n
    · rw [if_pos h, decide_eq_true h]; rfl
    · rw [if_neg h, decide_eq_false h, find_any n r (k + 1)]; rfl

end Go.Proofs.Ytnjggejallnkoaa

/- The document's Decode. -/
namespace Go.Proofs.Ytnjggejallnkoaa
open Go.RowKit

attribute [local go_sem] run_store_float

/-- what Decode answers: the schema in blocks of its own, or the error alone -/
def DecV (w : World) (r : Except Nat (List Col)) (e : Ending) (w' : World) : Prop := match r with
  | .error er => e = .returned (.tuple #[.agg #[.slice none 0 0], .int .i64 (er : Nat)]) ∧ Below w.heap.size w w'
  | .ok s => ∃ u, e = .returned (.tuple #[.agg u, .int .i64 0]) ∧ SOwn w' w.heap.size u s ∧ Below w.heap.size w w'

def shift (n : Nat) : Except Nat (List Col × Nat) → Except Nat (List Col × Nat)
  | .error e => .error e
  | .ok (s, k) => .ok (s, n + k)
def stepC (m : Nat) (s : List Col) (b : List UInt8) : Except Nat (Col × Nat) → Except Nat (List Col × Nat)
  | .error e => .error e
  | .ok (c, j) => shift j (Sch.rdCs m (s ++ [c]) (b.drop j))
theorem rdCs_succ (m : Nat) (s : List Col) (b : List UInt8) : Sch.rdCs (m + 1) s b = stepC m s b (Sch.rdC s b) := by
  rw [Sch.rdCs]
  cases Sch.rdC s b with
  | error e => rfl
  | ok p =>
    obtain ⟨c, j⟩ := p
    rw [stepC]
    dsimp only
    cases Sch.rdCs m (s ++ [c]) (b.drop j) with
    | error e => rfl
    | ok q => rfl
theorem shift_shift (n j : Nat) (r : Except Nat (List Col × Nat)) : shift n (shift j r) = shift (n + j) r := by
  cases r with
  | error e => rfl
  | ok p => simp [shift, Nat.add_assoc]
theorem rdC_err {s : List Col} {b : List UInt8} {e : Nat} (h : Sch.rdC s b = .error e) : e ≠ 0 := by
  rw [Sch.rdC] at h
  split at h
  · next e' he => injection h with h; rw [← h]; exact num_err he
  · split at h
    · injection h with h; omega
    · split at h
      · next e' he => injection h with h; rw [← h]; exact text_err (by decide) he
      · split at h
        · injection h with h; omega
        · split at h
          · injection h with h; omega
          · split at h
            · next e' he => injection h with h; rw [← h]; exact rdT_err 4 _ _ he
            · next t j2 ht =>
              split at h
              · next e' he => injection h with h; rw [← h]; exact bit_err he
              · split at h
                · cases h
                · split at h
                  · next e' he =>
                    injection h with h
                    rw [← h]
                    exact rdV_err t 1 _ _ (Sch.rdT_ok 4 _ _ _ (by omega) ht).2.2.1 he
                  · cases h

/-- while columns are read: the answer's place stands in the first block -/
structure MakingS (w : World) (s : List Col) (v : Value) (wr : World) : Prop where
  built : ∃ us Fs, CBuilt wr (w.heap.size + 1) v s.length us Fs s
  b0 : wr.heap[w.heap.size]? = some (.cells #[.slice none 0 0] 31 (0, 0))
  below : Below w.heap.size w wr
  size : w.heap.size + 1 ≤ wr.heap.size
theorem makingS_start (w : World) : MakingS w [] (.slice none 0 0) (w.alloc (.cells #[.slice none 0 0] 31)) :=
  ⟨⟨_, _, cbuilt_nil _ _⟩, blk_new w _, (Below.refl _ w).alloc (Nat.le_refl _) _, by simp⟩
theorem MakingS.next {w wr w2 w3 w4 : World} {s : List Col} {v : Value} {u : Array Value} {F : Nat → Prop} {g cap : Nat} {us : Nat → Array Value} {Fs : Nat → Nat → Prop} {y : Col} (h : MakingS w s v wr) (hbt : CBuilt wr (w.heap.size + 1) v s.length us Fs s) (hb : Below wr.heap.size wr w2) (hx : COwn w2 F u y)
    (hF : ∀ k, F k → wr.heap.size ≤ k ∧ k < w2.heap.size) (hb3 : Below w2.heap.size w2 w3)
    (hr : w4.ownsRow (w.heap.size + 1) 55 9 (.slice (some ⟨g, 0, none⟩) (s.length + 1) cap) (s.length + 1) (flat us s.length ++ u.toList)) (hg : w3.grownBy w4 v.ownBlock) (hn : v.ownBlock = some g ∨ g = w3.heap.size) :
    MakingS w (s ++ [y]) (.slice (some ⟨g, 0, none⟩) (s.length + 1) cap) w4 := by
  have hs := h.size
  have hs2 := hb.size
  have hs3 := hb3.size
  have hst := hbt.step hb hx hF hb3 hs hr hg hn
  have hb4 : Below w.heap.size w w4 := ((h.below.trans (hb.mono (by omega))).trans (hb3.mono (by omega))).grown hg (by omega) (fun k hk => by have := (hbt.lt k hk).1; omega)
  refine ⟨⟨(fun n => if n = s.length then u else us n), (fun n => if n = s.length then F else Fs n), ?_⟩, ?_, hb4, ?_⟩
  · rw [List.length_append, List.length_singleton]
    exact hst
  · rw [hg.block _ (by omega) (fun hc => by have := (hbt.lt _ hc.symm).1; omega), hb3.block _ (by omega), hb.block _ (by omega)]
    exact h.b0
  · have := hg.size
    omega

end Go.Proofs.Ytnjggejallnkoaa
