/- WValAtR, WRowR, WRowS, WRowT, WRowD, WRowV, RowsC: put together. -/
import Derived.Test.YtpkbdnilakaakaaM16
import Derived.Test.YtpkbdnilakaakaaM04
import Derived.Test.YtpkbdnilakaakaaM08
import Derived.Test.YtpkbdnilakaakaaM05
import Derived.Test.YtpkbdnilakaakaaM11
import Derived.Test.YtpkbdnilakaakaaM09

/- The document's ValueAt. -/
namespace Go.Proofs.Ytpkbdnilakaakaa
open Go.RowKit

attribute [local go_sem] run_store_float

theorem many_err {k : Int} {l : List UInt8} {e : Nat} (h : Sch.many k l = .error e) : e ≠ 0 := by
  rw [Sch.many] at h
  split at h
  · exact bit_err h
  · split at h
    · next e' he => injection h with h; rw [← h]; exact num_err he
    · split at h
      · injection h with h; omega
      · cases h
theorem scalar_err {k : Int} {l : List UInt8} {e : Nat} (h : Sch.scalar k l = .error e) : e ≠ 0 := by
  rw [Sch.scalar] at h
  split at h
  · split at h
    · next e' he => injection h with h; rw [← h]; exact bit_err he
    · cases h
  split at h
  · split at h
    · next e' he => injection h with h; rw [← h]; exact num_err he
    · cases h
  split at h
  · split at h
    · next e' he => injection h with h; rw [← h]; exact float_err he
    · cases h
  split at h
  · next e' he => injection h with h; rw [← h]; exact text_err (by decide) he
  · split at h
    · injection h with h; omega
    · cases h
theorem rdN_err {f : List UInt8 → Except Nat (V × Nat)} (hf : ∀ l e, f l = .error e → e ≠ 0) : ∀ (m : Nat) (l : List UInt8) (e : Nat), Sch.rdN f m l = .error e → e ≠ 0
  | 0, l, e, h => by rw [Sch.rdN] at h; cases h
  | m + 1, l, e, h => by
    rw [Sch.rdN] at h
    split at h
    · next e' he => injection h with h; rw [← h]; exact hf l e' he
    · next v j hv =>
      split at h
      · next e' he => injection h with h; rw [← h]; exact rdN_err hf m _ _ he
      · cases h
theorem rdV_err : ∀ (t : Ty) (d : Nat) (l : List UInt8) (e : Nat), Ty.check d t = 0 → Sch.rdV t l = .error e → e ≠ 0 := by
  intro t
  refine Ty.ind (P := fun t => ∀ (d : Nat) (l : List UInt8) (e : Nat), Ty.check d t = 0 → Sch.rdV t l = .error e → e ≠ 0) ?_ t
  intro k xs ih d l e ht h
  obtain ⟨hd, hk, htt⟩ := Sch.ty_open ht
  rw [Sch.rdV_mk] at h
  rcases htt with ⟨h67, rfl⟩ | ⟨h67, x, rfl, hx⟩
  · rw [if_pos (by omega)] at h
    exact scalar_err h
  · rw [if_neg (by omega)] at h
    split at h
    · next e' he => injection h with h; rw [← h]; exact many_err he
    · split at h
      · next e' he =>
        injection h with h
        rw [← h]
        exact rdN_err (fun l e he => ih x (by simp) (d + 1) l e hx he) _ _ _ he
      · cases h

/-- what was read goes ahead of what is read behind it -/
def glue (ys : List V) (n : Nat) : Except Nat (List V × Nat) → Except Nat (List V × Nat)
  | .error e => .error e
  | .ok (vs, k) => .ok (ys ++ vs, n + k)
theorem glue_glue (ys : List V) (n : Nat) (v : V) (j : Nat) (r : Except Nat (List V × Nat)) : glue ys n (glue [v] j r) = glue (ys ++ [v]) (n + j) r := by
  cases r with
  | error e => rfl
  | ok p => simp [glue, Nat.add_assoc]
/-- one item is read, then m more -/
def stepR (f : List UInt8 → Except Nat (V × Nat)) (m : Nat) (l : List UInt8) : Except Nat (V × Nat) → Except Nat (List V × Nat)
  | .error e => .error e
  | .ok (v, j) => glue [v] j (Sch.rdN f m (l.drop j))
theorem rdN_succ (f : List UInt8 → Except Nat (V × Nat)) (m : Nat) (l : List UInt8) : Sch.rdN f (m + 1) l = stepR f m l (f l) := by
  rw [Sch.rdN]
  cases f l with
  | error e => rfl
  | ok p =>
    obtain ⟨v, j⟩ := p
    rw [stepR]
    dsimp only
    cases Sch.rdN f m (l.drop j) with
    | error e => rfl
    | ok q => rfl

theorem blk_second (w : World) (o o2 : Obj) : ((w.alloc o).alloc o2).heap[w.heap.size + 1]? = some o2 := by
  have := blk_new (w.alloc o) o2
  simpa using this
/-- the answer's place is written: the value is there -/
theorem put5_fin {w W1 w1 : World} {k i : Int} {b : Nat} {t : ByteArray} {q : Option Addr} {n c : Nat} {v : V} {F : Nat → Prop} (h1 : w1.heap[w.heap.size + 1]? = some (.cells (cells5 0 0 0 ⟨#[]⟩ none 0 0) 45 (0, 0))) (hW : Below w.heap.size w W1) (hs : w.heap.size + 2 ≤ W1.heap.size) (hb : Below w.heap.size W1 w1) (hsz : W1.heap.size ≤ w1.heap.size) (hv : VOwn w1 F (cells5 k i b t q n c) v) (hF : ∀ j, F j → w.heap.size + 2 ≤ j ∧ j < w1.heap.size) :
    (put5 w1 (w.heap.size + 1) k i b t (.slice q n c)).heap[w.heap.size + 1]? = some (.cells (cells5 k i b t q n c) 45 (0, 0)) ∧ VOwn (put5 w1 (w.heap.size + 1) k i b t (.slice q n c)) (fun j => w.heap.size ≤ j ∧ j < (put5 w1 (w.heap.size + 1) k i b t (.slice q n c)).heap.size) (cells5 k i b t q n c) v ∧ Below w.heap.size w (put5 w1 (w.heap.size + 1) k i b t (.slice q n c)) := by
  have hA : Aside (fun k => k = w.heap.size + 1) w1 (put5 w1 (w.heap.size + 1) k i b t (.slice q n c)) := by
    unfold put5
    exact (((((Aside.refl (fun k => k = w.heap.size + 1) w1).setCell (p := ⟨w.heap.size + 1, 0, none⟩) (.inl rfl) _).setCell (p := ⟨w.heap.size + 1, 1, none⟩) (.inl rfl) _).setCell (p := ⟨w.heap.size + 1, 2, none⟩) (.inl rfl) _).setCell (p := ⟨w.heap.size + 1, 3, none⟩) (.inl rfl) _).setCell (p := ⟨w.heap.size + 1, 4, none⟩) (.inl rfl) _
  refine ⟨?_, ?_, ?_⟩
  · unfold put5
    rw [blk_set (blk_set (blk_set (blk_set (blk_set h1 0 _) 1 _) 2 _) 3 _) 4 _]
    rfl
  · exact (hv.aside hA (fun k hk hc => by have := hF k hk; omega)).mono (fun j hj => ⟨by have := hF j hj; omega, by have := hF j hj; have := hA.size; omega⟩)
  · exact (hW.trans hb).trans (hA.below (by omega) (fun k hk hc => by omega))

/-- while the items are read: the type stands in the first block, the answer's place in the next, the value in the third; the items ys are there -/
structure MakingV (w : World) (C0 : Array Value) (k : Int) (ys : List V) (v : Value) (wr : World) : Prop where
  built : ∃ us Fs, Built wr (w.heap.size + 3) v ys.length us Fs ys
  b0 : wr.heap[w.heap.size]? = some (.cells C0 41 (0, 0))
  b1 : wr.heap[w.heap.size + 1]? = some (.cells (cells5 0 0 0 ⟨#[]⟩ none 0 0) 45 (0, 0))
  b2 : wr.heap[w.heap.size + 2]? = some (.cells #[.int .i64 k, .int .i64 0, .float .f64 0, .string ⟨#[]⟩, v] 45 (0, 0))
  below : Below w.heap.size w wr
  size : w.heap.size + 3 ≤ wr.heap.size

section
variable {w wr : World} {C0 : Array Value} {k : Int} {ys : List V} {v : Value}
theorem makingV_start (w : World) (C0 : Array Value) (k : Int) :
    MakingV w C0 k [] (.slice none 0 0) (((w.alloc (.cells C0 41)).alloc (.cells (cells5 0 0 0 ⟨#[]⟩ none 0 0) 45)).alloc (.cells #[.int .i64 k, .int .i64 0, .float .f64 0, .string ⟨#[]⟩, .slice none 0 0] 45)) := by
  refine ⟨⟨_, _, built_nil _ _⟩, ?_, ?_, ?_, ((((Below.refl _ w).alloc (Nat.le_refl _) _).alloc (by simp) _).alloc (by simp; omega) _), by simp⟩
  · rw [blk_old _ _ (by simp; omega), blk_old _ _ (by simp)]; exact blk_new w _
  · rw [blk_old _ _ (by simp)]
    have := blk_new (w.alloc (.cells C0 41)) (.cells (cells5 0 0 0 ⟨#[]⟩ none 0 0) 45)
    simpa using this
  · have := blk_new ((w.alloc (.cells C0 41)).alloc (.cells (cells5 0 0 0 ⟨#[]⟩ none 0 0) 45)) (.cells #[.int .i64 k, .int .i64 0, .float .f64 0, .string ⟨#[]⟩, .slice none 0 0] 45)
    simpa using this
theorem MakingV.slice (h : MakingV w C0 k ys v wr) : ∃ p c, v = .slice p ys.length c := by
  obtain ⟨us, Fs, hb⟩ := h.built
  rcases hb.row.2 with ⟨h1, h2⟩ | ⟨g, cap, cur, h1, _⟩
  · exact ⟨none, 0, by rw [h1, h2]⟩
  · exact ⟨_, cap, h1⟩
theorem MakingV.next {w2 w3 w4 : World} {u : Array Value} {F : Nat → Prop} {g cap : Nat} {us : Nat → Array Value} {Fs : Nat → Nat → Prop} {y : V} (h : MakingV w C0 k ys v wr) (hbt : Built wr (w.heap.size + 3) v ys.length us Fs ys) (hb : Below wr.heap.size wr w2) (hx : VOwn w2 F u y)
    (hF : ∀ k, F k → wr.heap.size ≤ k ∧ k < w2.heap.size) (hb3 : Below w2.heap.size w2 w3)
    (hr : w4.ownsRow (w.heap.size + 3) 45 5 (.slice (some ⟨g, 0, none⟩) (ys.length + 1) cap) (ys.length + 1) (flat us ys.length ++ u.toList)) (hg : w3.grownBy w4 v.ownBlock) (hn : v.ownBlock = some g ∨ g = w3.heap.size) :
    (∀ n, n < 3 → w4.heap[w.heap.size + n]? = wr.heap[w.heap.size + n]?) ∧ MakingV w C0 k (ys ++ [y]) (.slice (some ⟨g, 0, none⟩) (ys.length + 1) cap) (w4.setCell ⟨w.heap.size + 2, 4, none⟩ (.slice (some ⟨g, 0, none⟩) (ys.length + 1) cap)) := by
  have hs := h.size
  have hs2 := hb.size
  have hs3 := hb3.size
  have hst := hbt.step hb hx hF hb3 hs hr hg hn
  have hold : ∀ n, n < 3 → w4.heap[w.heap.size + n]? = wr.heap[w.heap.size + n]? := fun n hn => by
    rw [hg.block _ (by omega) (fun hc => by have := (hbt.lt _ hc.symm).1; omega), hb3.block _ (by omega), hb.block _ (by omega)]
  have hb4 : Below w.heap.size w w4 := ((h.below.trans (hb.mono (by omega))).trans (hb3.mono (by omega))).grown hg (by omega) (fun k hk => by have := (hbt.lt k hk).1; omega)
  refine ⟨hold, ⟨⟨(fun n => if n = ys.length then u else us n), (fun n => if n = ys.length then F else Fs n), ?_⟩, ?_, ?_, ?_, ?_, ?_⟩⟩
  · rw [List.length_append, List.length_singleton]
    exact hst.set ⟨w.heap.size + 2, 4, none⟩ _ (by show w.heap.size + 2 < _; omega)
  · have := hold 0 (by omega)
    rw [Nat.add_zero] at this
    exact blk_set_far (this.trans h.b0) _ _ (by show w.heap.size ≠ w.heap.size + 2; omega)
  · exact blk_set_far ((hold 1 (by omega)).trans h.b1) _ _ (by show w.heap.size + 1 ≠ w.heap.size + 2; omega)
  · rw [blk_set ((hold 2 (by omega)).trans h.b2)]
    rfl
  · exact hb4.setCell (by show w.heap.size ≤ w.heap.size + 2; omega) _
  · have := hg.size
    simp [World.setCell]
    omega
end

end Go.Proofs.Ytpkbdnilakaakaa

/- The document's value, EncodeValue, bytesOf, Check, Encode of rows. -/
namespace Go.Proofs.Ytpkbdnilakaakaa
open Go.RowKit

attribute [local go_sem] run_store_float

/-- what encoding answers: bytes of one's own, or nothing and the error -/
def EncR (w : World) (er : Nat) (l : List UInt8) (e : Ending) (w' : World) : Prop :=
  (er = 0 ∧ ∃ q cap, e = .returned (.tuple #[.slice q l.length cap, .int .i64 0]) ∧ Has w' w.heap.size (.slice q l.length cap) l ∧ Below w.heap.size w w') ∨
  (er ≠ 0 ∧ e = .returned (.tuple #[.slice none 0 0, .int .i64 (er : Nat)]) ∧ Below w.heap.size w w')

end Go.Proofs.Ytpkbdnilakaakaa

/- The document's bytesOf, Check, Encode of rows. -/
namespace Go.Proofs.Ytpkbdnilakaakaa
open Go.RowKit

attribute [local go_sem] run_store_float

theorem bytes_small (xs : List V) (hn : xs.length ≤ 16) (hc : ∀ v ∈ xs, chk 1 v = 0) : (Rw.bytes xs).length ≤ 320000000000 := by
  have key : ∀ xs : List V, (∀ v ∈ xs, chk 1 v = 0) → (Rw.bytes xs).length ≤ xs.length * 20000000000 := by
    intro xs
    induction xs with
    | nil => intro _; simp [Rw.bytes]
    | cons v r ih =>
      intro h
      rw [Rw.bytes_cons, List.length_append, List.length_cons]
      have h1 := Sch.vB_small (h v (by simp)) (Nat.le_refl _)
      have h2 := ih (fun x hx => h x (by simp [hx]))
      omega
  have := key xs hc
  omega

end Go.Proofs.Ytpkbdnilakaakaa

/- The document's Check, Encode of rows. -/
namespace Go.Proofs.Ytpkbdnilakaakaa
open Go.RowKit

attribute [local go_sem] run_store_float

theorem colsErr_chk : ∀ (s : List Col) (vs : List V), vs.length = s.length → Rw.colsErr s vs = 0 → ∀ v ∈ vs, chk 1 v = 0
  | [], [], _, _, v, hv => by cases hv
  | [], _ :: _, h, _, _, _ => by simp at h
  | _ :: _, [], h, _, _, _ => by simp at h
  | c :: s, x :: vs, h, he, v, hv => by
    rw [Rw.colsErr] at he
    split at he
    · next h0 =>
      rcases List.mem_cons.1 hv with rfl | hv
      · exact (Rw.vErr_zero h0).2.1
      · exact colsErr_chk s vs (by simpa using h) he v hv
    · next h0 => exact absurd he h0
theorem colsErr_drop (s : List Col) (vs : List V) (j : Nat) (h1 : j < s.length) (h2 : j < vs.length) : Rw.colsErr (s.drop j) (vs.drop j) = if Rw.vErr s[j].ty vs[j] = 0 then Rw.colsErr (s.drop (j + 1)) (vs.drop (j + 1)) else Rw.vErr s[j].ty vs[j] := by
  rw [List.drop_eq_getElem_cons h1, List.drop_eq_getElem_cons h2, Rw.colsErr]

end Go.Proofs.Ytpkbdnilakaakaa

/- The document's DecodeValue, Decode of rows. -/
namespace Go.Proofs.Ytpkbdnilakaakaa
open Go.RowKit

attribute [local go_sem] run_store_float

/-- what Decode answers: the row in blocks of its own and the place behind it, or the error alone -/
def RowA (w : World) (r : Except Nat (List V × Nat)) (e : Ending) (w' : World) : Prop := match r with
  | .error er => e = .returned (.tuple #[.agg #[.slice none 0 0], .int .i64 0, .int .i64 (er : Nat)]) ∧ Below w.heap.size w w'
  | .ok (vs, k) => ∃ q c, e = .returned (.tuple #[.agg #[.slice q vs.length c], .int .i64 (k : Nat), .int .i64 0]) ∧ VOwn w' (fun k => w.heap.size ≤ k ∧ k < w'.heap.size) (cells5 0 0 0 ⟨#[]⟩ q vs.length c) (.mk 0 0 0 ⟨#[]⟩ vs) ∧ Below w.heap.size w w'

/-- one value is read, then the other columns' -/
def stepRd (s : List Col) (l : List UInt8) : Except Nat (V × Nat) → Except Nat (List V × Nat)
  | .error e => .error e
  | .ok (v, j) => glue [v] j (Rw.rd s (l.drop j))
theorem rd_cons (c : Col) (s : List Col) (l : List UInt8) : Rw.rd (c :: s) l = stepRd s l (Sch.rdV c.ty l) := by
  rw [Rw.rd]
  cases Sch.rdV c.ty l with
  | error e => rfl
  | ok p =>
    obtain ⟨v, j⟩ := p
    rw [stepRd]
    dsimp only
    cases Rw.rd s (l.drop j) with
    | error e => rfl
    | ok q => rfl

/-- while the row is read: the schema stands in the first block, the answer's place in the next, the row in the block B; the values ys are there -/
structure MakingR (w : World) (C0 : Array Value) (B : Nat) (ys : List V) (v : Value) (wr : World) : Prop where
  built : ∃ us Fs, Built wr (B + 1) v ys.length us Fs ys
  b0 : wr.heap[w.heap.size]? = some (.cells C0 27 (0, 0))
  b1 : wr.heap[w.heap.size + 1]? = some (.cells #[.slice none 0 0] 50 (0, 0))
  b2 : wr.heap[B]? = some (.cells #[v] 50 (0, 0))
  below : Below w.heap.size w wr
  far : w.heap.size + 2 ≤ B
  size : B + 1 ≤ wr.heap.size

section
variable {w wr : World} {C0 : Array Value} {B : Nat} {ys : List V} {v : Value}
theorem makingR_start {w1 : World} (h0 : w1.heap[w.heap.size]? = some (.cells C0 27 (0, 0))) (h1 : w1.heap[w.heap.size + 1]? = some (.cells #[.slice none 0 0] 50 (0, 0))) (hs : w.heap.size + 2 ≤ w1.heap.size) (hb : Below w.heap.size w w1) :
    MakingR w C0 w1.heap.size [] (.slice none 0 0) (w1.alloc (.cells #[.slice none 0 0] 50)) := by
  refine ⟨⟨_, _, built_nil _ _⟩, ?_, ?_, blk_new w1 _, hb.alloc (by omega) _, hs, by simp⟩
  · rw [blk_old _ _ (by omega)]; exact h0
  · rw [blk_old _ _ (by omega)]; exact h1
theorem MakingR.next {w2 w3 w4 : World} {u : Array Value} {F : Nat → Prop} {g cap : Nat} {us : Nat → Array Value} {Fs : Nat → Nat → Prop} {y : V} (h : MakingR w C0 B ys v wr) (hbt : Built wr (B + 1) v ys.length us Fs ys) (hb : Below wr.heap.size wr w2) (hx : VOwn w2 F u y)
    (hF : ∀ k, F k → wr.heap.size ≤ k ∧ k < w2.heap.size) (hb3 : Below w2.heap.size w2 w3)
    (hr : w4.ownsRow (B + 1) 45 5 (.slice (some ⟨g, 0, none⟩) (ys.length + 1) cap) (ys.length + 1) (flat us ys.length ++ u.toList)) (hg : w3.grownBy w4 v.ownBlock) (hn : v.ownBlock = some g ∨ g = w3.heap.size) :
    (∀ n, n ≤ B → w4.heap[n]? = wr.heap[n]?) ∧ MakingR w C0 B (ys ++ [y]) (.slice (some ⟨g, 0, none⟩) (ys.length + 1) cap) (w4.setCell ⟨B, 0, none⟩ (.slice (some ⟨g, 0, none⟩) (ys.length + 1) cap)) := by
  have hs := h.size
  have hf := h.far
  have hs2 := hb.size
  have hs3 := hb3.size
  have hst := hbt.step hb hx hF hb3 hs hr hg hn
  have hold : ∀ n, n ≤ B → w4.heap[n]? = wr.heap[n]? := fun n hn => by
    rw [hg.block _ (by omega) (fun hc => by have := (hbt.lt _ hc.symm).1; omega), hb3.block _ (by omega), hb.block _ (by omega)]
  have hb4 : Below w.heap.size w w4 := ((h.below.trans (hb.mono (by omega))).trans (hb3.mono (by omega))).grown hg (by omega) (fun k hk => by have := (hbt.lt k hk).1; omega)
  refine ⟨hold, ⟨⟨(fun n => if n = ys.length then u else us n), (fun n => if n = ys.length then F else Fs n), ?_⟩, ?_, ?_, ?_, ?_, hf, ?_⟩⟩
  · rw [List.length_append, List.length_singleton]
    exact hst.set ⟨B, 0, none⟩ _ (by show B < _; omega)
  · exact blk_set_far ((hold _ (by omega)).trans h.b0) _ _ (by show w.heap.size ≠ B; omega)
  · exact blk_set_far ((hold _ (by omega)).trans h.b1) _ _ (by show w.heap.size + 1 ≠ B; omega)
  · rw [blk_set ((hold B (Nat.le_refl _)).trans h.b2)]
    rfl
  · exact hb4.setCell (by show w.heap.size ≤ B; omega) _
  · have := hg.size
    simp [World.setCell]
    omega
/-- the answer's place is written: the row is there -/
theorem putR_fin {w1 : World} {q : Option Addr} {n c : Nat} {x : V} {F : Nat → Prop} (h1 : w1.heap[w.heap.size + 1]? = some (.cells #[.slice none 0 0] 50 (0, 0))) (hb : Below w.heap.size w w1) (hv : VOwn w1 F (cells5 0 0 0 ⟨#[]⟩ q n c) x) (hF : ∀ j, F j → w.heap.size + 2 ≤ j ∧ j < w1.heap.size) :
    (w1.setCell ⟨w.heap.size + 1, 0, none⟩ (.slice q n c)).heap[w.heap.size + 1]? = some (.cells #[.slice q n c] 50 (0, 0)) ∧ VOwn (w1.setCell ⟨w.heap.size + 1, 0, none⟩ (.slice q n c)) (fun j => w.heap.size ≤ j ∧ j < (w1.setCell ⟨w.heap.size + 1, 0, none⟩ (.slice q n c)).heap.size) (cells5 0 0 0 ⟨#[]⟩ q n c) x ∧ Below w.heap.size w (w1.setCell ⟨w.heap.size + 1, 0, none⟩ (.slice q n c)) := by
  have hA : Aside (fun k => k = w.heap.size + 1) w1 (w1.setCell ⟨w.heap.size + 1, 0, none⟩ (.slice q n c)) := (Aside.refl (fun k => k = w.heap.size + 1) w1).setCell (p := ⟨w.heap.size + 1, 0, none⟩) (.inl rfl) _
  refine ⟨?_, ?_, ?_⟩
  · rw [blk_set h1 0 _]
    rfl
  · exact (hv.aside hA (fun k hk hc => by have := hF k hk; omega)).mono (fun j hj => ⟨by have := hF j hj; omega, by have := hF j hj; have := hA.size; omega⟩)
  · exact hb.setCell (by show w.heap.size ≤ w.heap.size + 1; omega) _
end

end Go.Proofs.Ytpkbdnilakaakaa

/- The document's DecodeValue. -/
namespace Go.Proofs.Ytpkbdnilakaakaa
open Go.RowKit

attribute [local go_sem] run_store_float

/-- a value that is answered, the place behind it, or an error alone -/
def ValA (w : World) (r : Except Nat (V × Nat)) (e : Ending) (w' : World) : Prop := match r with
  | .error er => e = .returned (.tuple #[.agg (cells5 0 0 0 ⟨#[]⟩ none 0 0), .int .i64 0, .int .i64 (er : Nat)]) ∧ Below w.heap.size w w'
  | .ok (v, k) => ∃ u, e = .returned (.tuple #[.agg u, .int .i64 (k : Nat), .int .i64 0]) ∧ VOwn w' (fun k => w.heap.size ≤ k ∧ k < w'.heap.size) u v ∧ Below w.heap.size w w'

end Go.Proofs.Ytpkbdnilakaakaa

/- What the laws ask of package row's functions. -/
namespace Go.Proofs.Ytpkbdnilakaakaa
open Go.RowKit

/-- a row that is handed over: its values lie, as those of a value that holds them -/
def RLies (w : World) (q : Option Addr) (c : Nat) (vs : List V) : Prop := VLies w (cells5 0 0 0 ⟨#[]⟩ q vs.length c) (.mk 0 0 0 ⟨#[]⟩ vs) ∧ ∀ v ∈ vs, v.wf
theorem RLies.on {w w' : World} {q : Option Addr} {c : Nat} {vs : List V} (h : RLies w q c vs) (hb : Below w.heap.size w w') : RLies w' q c vs := ⟨h.1.on hb, h.2⟩
theorem RLies.items {w : World} {q : Option Addr} {c : Nat} {vs : List V} (h : RLies w q c vs) : vs.length * 64 ≤ 140737488351232 ∧ vs.length ≤ c ∧ Items w q vs := by
  obtain ⟨p, c', he, h1, h2, h3⟩ := h.1.open
  unfold cells5 at he
  simp only [Array.mk.injEq, List.cons.injEq, Value.slice.injEq, and_true, true_and] at he
  obtain ⟨rfl, rfl⟩ := he
  exact ⟨h1, h2, h3⟩
/-- a schema that is handed over -/
structure SchL (w : World) (p : Option Addr) (c : Nat) (s : List Col) : Prop where
  len : s.length * 120 ≤ 140737488351232
  cap : s.length ≤ c
  cols : Cols w p s
  wf : ∀ x ∈ s, x.wf
theorem SchL.on {w w' : World} {p : Option Addr} {c : Nat} {s : List Col} (h : SchL w p c s) (hb : Below w.heap.size w w') : SchL w' p c s := ⟨h.len, h.cap, h.cols.on hb, h.wf⟩

/-- bytes that are answered beside an error -/
def Told (w : World) (er : Nat) (l : List UInt8) (e : Ending) (w' : World) : Prop := ∃ q cap, e = .returned (.tuple #[.slice q l.length cap, .int .i64 (er : Nat)]) ∧ At w' q l ∧ l.length ≤ cap ∧ Below w.heap.size w w'
end Go.Proofs.Ytpkbdnilakaakaa
