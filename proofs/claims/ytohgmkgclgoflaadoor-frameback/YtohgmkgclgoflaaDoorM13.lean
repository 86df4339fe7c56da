/- WValAtR, WTyAtR, WColAtR, WDecR, WWhole, WSameSR, K7A: put together. -/
import Derived.Test.YtohgmkgclgoflaaDoorM12
import Derived.Test.YtohgmkgclgoflaaDoorM05
import Derived.Test.YtohgmkgclgoflaaDoorM08
import Derived.Test.YtohgmkgclgoflaaDoorM06
import Derived.Test.YtohgmkgclgoflaaDoorM07

/- The document's ValueAt. -/
namespace Go.Proofs.YtohgmkgclgoflaaDoor
open Go.RowKit

attribute [local go_sem] run_store_float

theorem many_err {k : Int} {l : List UInt8} {e : Nat} (h : Sch.many k l = .error e) : e ≠ 0 := by
  rw [Sch.many] at h
  split at h
  · exact bit_err h
  · split at h
    · next e' he => injection h with h; rw [← h]; exact num_err he
    · split at h
      · injection h with h; omega
      · cases h
theorem scalar_err {k : Int} {l : List UInt8} {e : Nat} (h : Sch.scalar k l = .error e) : e ≠ 0 := by
  rw [Sch.scalar] at h
  split at h
  · split at h
    · next e' he => injection h with h; rw [← h]; exact bit_err he
    · cases h
  split at h
  · split at h
    · next e' he => injection h with h; rw [← h]; exact num_err he
    · cases h
  split at h
  · split at h
    · next e' he => injection h with h; rw [← h]; exact float_err he
    · cases h
  split at h
  · next e' he => injection h with h; rw [← h]; exact text_err (by decide) he
  · split at h
    · injection h with h; omega
    · cases h
theorem rdN_err {f : List UInt8 → Except Nat (V × Nat)} (hf : ∀ l e, f l = .error e → e ≠ 0) : ∀ (m : Nat) (l : List UInt8) (e : Nat), Sch.rdN f m l = .error e → e ≠ 0
  | 0, l, e, h => by rw [Sch.rdN] at h; cases h
  | m + 1, l, e, h => by
    rw [Sch.rdN] at h
    split at h
    · next e' he => injection h with h; rw [← h]; exact hf l e' he
    · next v j hv =>
      split at h
      · next e' he => injection h with h; rw [← h]; exact rdN_err hf m _ _ he
      · cases h
theorem rdV_err : ∀ (t : Ty) (d : Nat) (l : List UInt8) (e : Nat), Ty.check d t = 0 → Sch.rdV t l = .error e → e ≠ 0 := by
  intro t
  refine Ty.ind (P := fun t => ∀ (d : Nat) (l : List UInt8) (e : Nat), Ty.check d t = 0 → Sch.rdV t l = .error e → e ≠ 0) ?_ t
  intro k xs ih d l e ht h
  obtain ⟨hd, hk, htt⟩ := Sch.ty_open ht
  rw [Sch.rdV_mk] at h
  rcases htt with ⟨h67, rfl⟩ | ⟨h67, x, rfl, hx⟩
  · rw [if_pos (by omega)] at h
    exact scalar_err h
  · rw [if_neg (by omega)] at h
    split at h
    · next e' he => injection h with h; rw [← h]; exact many_err he
    · split at h
      · next e' he =>
        injection h with h
        rw [← h]
        exact rdN_err (fun l e he => ih x (by simp) (d + 1) l e hx he) _ _ _ he
      · cases h

/-- what was read goes ahead of what is read behind it -/
def glue (ys : List V) (n : Nat) : Except Nat (List V × Nat) → Except Nat (List V × Nat)
  | .error e => .error e
  | .ok (vs, k) => .ok (ys ++ vs, n + k)
theorem glue_glue (ys : List V) (n : Nat) (v : V) (j : Nat) (r : Except Nat (List V × Nat)) : glue ys n (glue [v] j r) = glue (ys ++ [v]) (n + j) r := by
  cases r with
  | error e => rfl
  | ok p => simp [glue, Nat.add_assoc]
/-- one item is read, then m more -/
def stepR (f : List UInt8 → Except Nat (V × Nat)) (m : Nat) (l : List UInt8) : Except Nat (V × Nat) → Except Nat (List V × Nat)
  | .error e => .error e
  | .ok (v, j) => glue [v] j (Sch.rdN f m (l.drop j))
theorem rdN_succ (f : List UInt8 → Except Nat (V × Nat)) (m : Nat) (l : List UInt8) : Sch.rdN f (m + 1) l = stepR f m l (f l) := by
  rw [Sch.rdN]
  cases f l with
  | error e => rfl
  | ok p =>
    obtain ⟨v, j⟩ := p
    rw [stepR]
    dsimp only
    cases Sch.rdN f m (l.drop j) with
    | error e => rfl
    | ok q => rfl

theorem blk_second (w : World) (o o2 : Obj) : ((w.alloc o).alloc o2).heap[w.heap.size + 1]? = some o2 := by
  have := blk_new (w.alloc o) o2
  simpa using this
/-- the answer's place is written: the value is there -/
theorem put5_fin {w W1 w1 : World} {k i : Int} {b : Nat} {t : ByteArray} {q : Option Addr} {n c : Nat} {v : V} {F : Nat → Prop} (h1 : w1.heap[w.heap.size + 1]? = some (.cells (cells5 0 0 0 ⟨#[]⟩ none 0 0) 70 (0, 0))) (hW : Below w.heap.size w W1) (hs : w.heap.size + 2 ≤ W1.heap.size) (hb : Below w.heap.size W1 w1) (hsz : W1.heap.size ≤ w1.heap.size) (hv : VOwn w1 F (cells5 k i b t q n c) v) (hF : ∀ j, F j → w.heap.size + 2 ≤ j ∧ j < w1.heap.size) :
    (put5 w1 (w.heap.size + 1) k i b t (.slice q n c)).heap[w.heap.size + 1]? = some (.cells (cells5 k i b t q n c) 70 (0, 0)) ∧ VOwn (put5 w1 (w.heap.size + 1) k i b t (.slice q n c)) (fun j => w.heap.size ≤ j ∧ j < (put5 w1 (w.heap.size + 1) k i b t (.slice q n c)).heap.size) (cells5 k i b t q n c) v ∧ Below w.heap.size w (put5 w1 (w.heap.size + 1) k i b t (.slice q n c)) := by
  have hA : Aside (fun k => k = w.heap.size + 1) w1 (put5 w1 (w.heap.size + 1) k i b t (.slice q n c)) := by
    unfold put5
    exact (((((Aside.refl (fun k => k = w.heap.size + 1) w1).setCell (p := ⟨w.heap.size + 1, 0, none⟩) (.inl rfl) _).setCell (p := ⟨w.heap.size + 1, 1, none⟩) (.inl rfl) _).setCell (p := ⟨w.heap.size + 1, 2, none⟩) (.inl rfl) _).setCell (p := ⟨w.heap.size + 1, 3, none⟩) (.inl rfl) _).setCell (p := ⟨w.heap.size + 1, 4, none⟩) (.inl rfl) _
  refine ⟨?_, ?_, ?_⟩
  · unfold put5
    rw [blk_set (blk_set (blk_set (blk_set (blk_set h1 0 _) 1 _) 2 _) 3 _) 4 _]
    rfl
  · exact (hv.aside hA (fun k hk hc => by have := hF k hk; omega)).mono (fun j hj => ⟨by have := hF j hj; omega, by have := hF j hj; have := hA.size; omega⟩)
  · exact (hW.trans hb).trans (hA.below (by omega) (fun k hk hc => by omega))

/-- while the items are read: the type stands in the first block, the answer's place in the next, the value in the third; the items ys are there -/
structure MakingV (w : World) (C0 : Array Value) (k : Int) (ys : List V) (v : Value) (wr : World) : Prop where
  built : ∃ us Fs, Built wr (w.heap.size + 3) v ys.length us Fs ys
  b0 : wr.heap[w.heap.size]? = some (.cells C0 66 (0, 0))
  b1 : wr.heap[w.heap.size + 1]? = some (.cells (cells5 0 0 0 ⟨#[]⟩ none 0 0) 70 (0, 0))
  b2 : wr.heap[w.heap.size + 2]? = some (.cells #[.int .i64 k, .int .i64 0, .float .f64 0, .string ⟨#[]⟩, v] 70 (0, 0))
  below : Below w.heap.size w wr
  size : w.heap.size + 3 ≤ wr.heap.size

section
variable {w wr : World} {C0 : Array Value} {k : Int} {ys : List V} {v : Value}
theorem makingV_start (w : World) (C0 : Array Value) (k : Int) :
    MakingV w C0 k [] (.slice none 0 0) (((w.alloc (.cells C0 66)).alloc (.cells (cells5 0 0 0 ⟨#[]⟩ none 0 0) 70)).alloc (.cells #[.int .i64 k, .int .i64 0, .float .f64 0, .string ⟨#[]⟩, .slice none 0 0] 70)) := by
  refine ⟨⟨_, _, built_nil _ _⟩, ?_, ?_, ?_, ((((Below.refl _ w).alloc (Nat.le_refl _) _).alloc (by simp) _).alloc (by simp; omega) _), by simp⟩
  · rw [blk_old _ _ (by simp; omega), blk_old _ _ (by simp)]; exact blk_new w _
  · rw [blk_old _ _ (by simp)]
    have := blk_new (w.alloc (.cells C0 66)) (.cells (cells5 0 0 0 ⟨#[]⟩ none 0 0) 70)
    simpa using this
  · have := blk_new ((w.alloc (.cells C0 66)).alloc (.cells (cells5 0 0 0 ⟨#[]⟩ none 0 0) 70)) (.cells #[.int .i64 k, .int .i64 0, .float .f64 0, .string ⟨#[]⟩, .slice none 0 0] 70)
    simpa using this
theorem MakingV.slice (h : MakingV w C0 k ys v wr) : ∃ p c, v = .slice p ys.length c := by
  obtain ⟨us, Fs, hb⟩ := h.built
  rcases hb.row.2 with ⟨h1, h2⟩ | ⟨g, cap, cur, h1, _⟩
  · exact ⟨none, 0, by rw [h1, h2]⟩
  · exact ⟨_, cap, h1⟩
theorem MakingV.next {w2 w3 w4 : World} {u : Array Value} {F : Nat → Prop} {g cap : Nat} {us : Nat → Array Value} {Fs : Nat → Nat → Prop} {y : V} (h : MakingV w C0 k ys v wr) (hbt : Built wr (w.heap.size + 3) v ys.length us Fs ys) (hb : Below wr.heap.size wr w2) (hx : VOwn w2 F u y)
    (hF : ∀ k, F k → wr.heap.size ≤ k ∧ k < w2.heap.size) (hb3 : Below w2.heap.size w2 w3)
    (hr : w4.ownsRow (w.heap.size + 3) 70 5 (.slice (some ⟨g, 0, none⟩) (ys.length + 1) cap) (ys.length + 1) (flat us ys.length ++ u.toList)) (hg : w3.grownBy w4 v.ownBlock) (hn : v.ownBlock = some g ∨ g = w3.heap.size) :
    (∀ n, n < 3 → w4.heap[w.heap.size + n]? = wr.heap[w.heap.size + n]?) ∧ MakingV w C0 k (ys ++ [y]) (.slice (some ⟨g, 0, none⟩) (ys.length + 1) cap) (w4.setCell ⟨w.heap.size + 2, 4, none⟩ (.slice (some ⟨g, 0, none⟩) (ys.length + 1) cap)) := by
  have hs := h.size
  have hs2 := hb.size
  have hs3 := hb3.size
  have hst := hbt.step hb hx hF hb3 hs hr hg hn
  have hold : ∀ n, n < 3 → w4.heap[w.heap.size + n]? = wr.heap[w.heap.size + n]? := fun n hn => by
    rw [hg.block _ (by omega) (fun hc => by have := (hbt.lt _ hc.symm).1; omega), hb3.block _ (by omega), hb.block _ (by omega)]
  have hb4 : Below w.heap.size w w4 := ((h.below.trans (hb.mono (by omega))).trans (hb3.mono (by omega))).grown hg (by omega) (fun k hk => by have := (hbt.lt k hk).1; omega)
  refine ⟨hold, ⟨⟨(fun n => if n = ys.length then u else us n), (fun n => if n = ys.length then F else Fs n), ?_⟩, ?_, ?_, ?_, ?_, ?_⟩⟩
  · rw [List.length_append, List.length_singleton]
    exact hst.set ⟨w.heap.size + 2, 4, none⟩ _ (by show w.heap.size + 2 < _; omega)
  · have := hold 0 (by omega)
    rw [Nat.add_zero] at this
    exact blk_set_far (this.trans h.b0) _ _ (by show w.heap.size ≠ w.heap.size + 2; omega)
  · exact blk_set_far ((hold 1 (by omega)).trans h.b1) _ _ (by show w.heap.size + 1 ≠ w.heap.size + 2; omega)
  · rw [blk_set ((hold 2 (by omega)).trans h.b2)]
    rfl
  · exact hb4.setCell (by show w.heap.size ≤ w.heap.size + 2; omega) _
  · have := hg.size
    simp [World.setCell]
    omega
end

end Go.Proofs.YtohgmkgclgoflaaDoor

/- The document's readType. -/
namespace Go.Proofs.YtohgmkgclgoflaaDoor
open Go.RowKit

/-- what reading a type tells: the type in blocks of its own, and the place behind it; or the error alone -/
def ReadT (w : World) (a : Nat) (r : Except Nat (Ty × Nat)) (e : Ending) (w' : World) : Prop := match r with
  | .error er => e = .returned (.tuple #[.agg (cells2 0 none 0 0), .int .i64 0, .int .i64 (er : Nat)]) ∧ Below w.heap.size w w'
  | .ok (t, k) => ∃ u, e = .returned (.tuple #[.agg u, .int .i64 ((a + k : Nat) : Int), .int .i64 0]) ∧ TOwn w' (fun k => w.heap.size ≤ k ∧ k < w'.heap.size) u t ∧ Below w.heap.size w w'

theorem rdT_err : ∀ (f : Nat) (l : List UInt8) (e : Nat), Sch.rdT f l = .error e → e ≠ 0
  | 0, l, e, h => by rw [Sch.rdT] at h; injection h with h; omega
  | f + 1, [], e, h => by rw [Sch.rdT] at h; injection h with h; omega
  | f + 1, c :: r, e, h => by
    rw [Sch.rdT] at h
    split at h
    · injection h with h; omega
    split at h
    · cases h
    split at h
    · next e' he => injection h with h; rw [← h]; exact rdT_err f r e' he
    · cases h

/-- the answer's place is written: the type is there -/
def put2 (w : World) (g : Nat) (k : Int) (v : Value) : World := (w.setCell ⟨g, 0, none⟩ (.int .i64 k)).setCell ⟨g, 1, none⟩ v
theorem put2_fin {w w1 : World} {k : Int} {q : Option Addr} {n c : Nat} {x : Ty} {F : Nat → Prop} (h1 : w1.heap[w.heap.size]? = some (.cells (cells2 0 none 0 0) 66 (0, 0))) (hb : Below w.heap.size w w1) (hs : w.heap.size + 1 ≤ w1.heap.size) (hv : TOwn w1 F (cells2 k q n c) x) (hF : ∀ j, F j → w.heap.size + 1 ≤ j ∧ j < w1.heap.size) :
    (put2 w1 w.heap.size k (.slice q n c)).heap[w.heap.size]? = some (.cells (cells2 k q n c) 66 (0, 0)) ∧ TOwn (put2 w1 w.heap.size k (.slice q n c)) (fun j => w.heap.size ≤ j ∧ j < (put2 w1 w.heap.size k (.slice q n c)).heap.size) (cells2 k q n c) x ∧ Below w.heap.size w (put2 w1 w.heap.size k (.slice q n c)) := by
  have hA : Aside (fun k => k = w.heap.size) w1 (put2 w1 w.heap.size k (.slice q n c)) := by
    unfold put2
    exact ((Aside.refl (fun k => k = w.heap.size) w1).setCell (p := ⟨w.heap.size, 0, none⟩) (.inl rfl) _).setCell (p := ⟨w.heap.size, 1, none⟩) (.inl rfl) _
  refine ⟨?_, ?_, ?_⟩
  · unfold put2
    rw [blk_set (blk_set h1 0 _) 1 _]
    rfl
  · exact (hv.aside hA (fun k hk hc => by have := hF k hk; omega)).mono (fun j hj => ⟨by have := hF j hj; omega, by have := hF j hj; have := hA.size; omega⟩)
  · exact hb.trans (hA.below (by omega) (fun k hk hc => by omega))

end Go.Proofs.YtohgmkgclgoflaaDoor

/- The document's readColumn. -/
namespace Go.Proofs.YtohgmkgclgoflaaDoor
open Go.RowKit

attribute [local go_sem] run_store_float

/-- what reading a column tells: the column in blocks of its own, and the place behind it; or the error alone -/
def ReadC (w : World) (a : Nat) (r : Except Nat (Col × Nat)) (e : Ending) (w' : World) : Prop := match r with
  | .error er => e = .returned (.tuple #[.agg (cells9 ⟨#[]⟩ 0 none 0 0 false 0 0 0 ⟨#[]⟩ none 0 0), .int .i64 0, .int .i64 (er : Nat)]) ∧ Below w.heap.size w w'
  | .ok (c, k) => ∃ u, e = .returned (.tuple #[.agg u, .int .i64 ((a + k : Nat) : Int), .int .i64 0]) ∧ COwn w' (fun k => w.heap.size ≤ k ∧ k < w'.heap.size) u c ∧ Below w.heap.size w w'

theorem zero_own (w : World) : COwn w (fun _ => False) (cells9 ⟨#[]⟩ 0 none 0 0 false 0 0 0 ⟨#[]⟩ none 0 0) ⟨⟨#[]⟩, .mk 0 [], false, V0⟩ :=
  ⟨fun _ => False, fun _ => False, 0, none, 0, 0, 0, 0, 0, ⟨#[]⟩, none, 0, 0, rfl, TOwn.none, VOwn.none, fun _ h => h, fun _ h => h, fun _ h => h.elim⟩

/-- the answer's place is written: the column is there -/
def put9 (w : World) (g : Nat) (n : ByteArray) (k : Int) (s : Value) (h : Bool) (vk vi : Int) (vb : Nat) (vt : ByteArray) (vs : Value) : World :=
  ((((((((w.setCell ⟨g, 0, none⟩ (.string n)).setCell ⟨g, 1, none⟩ (.int .i64 k)).setCell ⟨g, 2, none⟩ s).setCell ⟨g, 3, none⟩ (.bool h)).setCell ⟨g, 4, none⟩ (.int .i64 vk)).setCell ⟨g, 5, none⟩ (.int .i64 vi)).setCell ⟨g, 6, none⟩ (.float .f64 vb)).setCell ⟨g, 7, none⟩ (.string vt)).setCell ⟨g, 8, none⟩ vs
set_option maxHeartbeats 2000000 in
theorem put9_fin {w w1 : World} {n : ByteArray} {k : Int} {tp : Option Addr} {tn tc : Nat} {h : Bool} {vk vi : Int} {vb : Nat} {vt : ByteArray} {vp : Option Addr} {vn vc : Nat} {c : Col} {F : Nat → Prop} (h1 : w1.heap[w.heap.size]? = some (.cells (cells9 ⟨#[]⟩ 0 none 0 0 false 0 0 0 ⟨#[]⟩ none 0 0) 72 (0, 0))) (hb : Below w.heap.size w w1) (hs : w.heap.size + 1 ≤ w1.heap.size) (hv : COwn w1 F (cells9 n k tp tn tc h vk vi vb vt vp vn vc) c) (hF : ∀ j, F j → w.heap.size + 1 ≤ j ∧ j < w1.heap.size) :
    (put9 w1 w.heap.size n k (.slice tp tn tc) h vk vi vb vt (.slice vp vn vc)).heap[w.heap.size]? = some (.cells (cells9 n k tp tn tc h vk vi vb vt vp vn vc) 72 (0, 0)) ∧ COwn (put9 w1 w.heap.size n k (.slice tp tn tc) h vk vi vb vt (.slice vp vn vc)) (fun j => w.heap.size ≤ j ∧ j < (put9 w1 w.heap.size n k (.slice tp tn tc) h vk vi vb vt (.slice vp vn vc)).heap.size) (cells9 n k tp tn tc h vk vi vb vt vp vn vc) c ∧ Below w.heap.size w (put9 w1 w.heap.size n k (.slice tp tn tc) h vk vi vb vt (.slice vp vn vc)) := by
  have a0 := Aside.refl (fun k => k = w.heap.size) w1
  have a1 := a0.setCell (p := ⟨w.heap.size, 0, none⟩) (.inl rfl) (.string n)
  have a2 := a1.setCell (p := ⟨w.heap.size, 1, none⟩) (.inl rfl) (.int .i64 k)
  have a3 := a2.setCell (p := ⟨w.heap.size, 2, none⟩) (.inl rfl) (.slice tp tn tc)
  have a4 := a3.setCell (p := ⟨w.heap.size, 3, none⟩) (.inl rfl) (.bool h)
  have a5 := a4.setCell (p := ⟨w.heap.size, 4, none⟩) (.inl rfl) (.int .i64 vk)
  have a6 := a5.setCell (p := ⟨w.heap.size, 5, none⟩) (.inl rfl) (.int .i64 vi)
  have a7 := a6.setCell (p := ⟨w.heap.size, 6, none⟩) (.inl rfl) (.float .f64 vb)
  have a8 := a7.setCell (p := ⟨w.heap.size, 7, none⟩) (.inl rfl) (.string vt)
  have a9 := a8.setCell (p := ⟨w.heap.size, 8, none⟩) (.inl rfl) (.slice vp vn vc)
  have hA : Aside (fun k => k = w.heap.size) w1 (put9 w1 w.heap.size n k (.slice tp tn tc) h vk vi vb vt (.slice vp vn vc)) := a9
  clear a0 a1 a2 a3 a4 a5 a6 a7 a8 a9
  have b0 : w1.heap[w.heap.size]? = some (.cells (cells9 ⟨#[]⟩ 0 none 0 0 false 0 0 0 ⟨#[]⟩ none 0 0) 72 (0, 0)) := h1
  have b1 : (w1.setCell ⟨w.heap.size, 0, none⟩ (.string n)).heap[w.heap.size]? = some (.cells (cells9 n 0 none 0 0 false 0 0 0 ⟨#[]⟩ none 0 0) 72 (0, 0)) := blk_set b0 0 (.string n)
  have b2 : ((w1.setCell ⟨w.heap.size, 0, none⟩ (.string n)).setCell ⟨w.heap.size, 1, none⟩ (.int .i64 k)).heap[w.heap.size]? = some (.cells (cells9 n k none 0 0 false 0 0 0 ⟨#[]⟩ none 0 0) 72 (0, 0)) := blk_set b1 1 (.int .i64 k)
  have b3 : (((w1.setCell ⟨w.heap.size, 0, none⟩ (.string n)).setCell ⟨w.heap.size, 1, none⟩ (.int .i64 k)).setCell ⟨w.heap.size, 2, none⟩ (.slice tp tn tc)).heap[w.heap.size]? = some (.cells (cells9 n k tp tn tc false 0 0 0 ⟨#[]⟩ none 0 0) 72 (0, 0)) := blk_set b2 2 (.slice tp tn tc)
  have b4 : ((((w1.setCell ⟨w.heap.size, 0, none⟩ (.string n)).setCell ⟨w.heap.size, 1, none⟩ (.int .i64 k)).setCell ⟨w.heap.size, 2, none⟩ (.slice tp tn tc)).setCell ⟨w.heap.size, 3, none⟩ (.bool h)).heap[w.heap.size]? = some (.cells (cells9 n k tp tn tc h 0 0 0 ⟨#[]⟩ none 0 0) 72 (0, 0)) := blk_set b3 3 (.bool h)
  have b5 : (((((w1.setCell ⟨w.heap.size, 0, none⟩ (.string n)).setCell ⟨w.heap.size, 1, none⟩ (.int .i64 k)).setCell ⟨w.heap.size, 2, none⟩ (.slice tp tn tc)).setCell ⟨w.heap.size, 3, none⟩ (.bool h)).setCell ⟨w.heap.size, 4, none⟩ (.int .i64 vk)).heap[w.heap.size]? = some (.cells (cells9 n k tp tn tc h vk 0 0 ⟨#[]⟩ none 0 0) 72 (0, 0)) := blk_set b4 4 (.int .i64 vk)
  have b6 : ((((((w1.setCell ⟨w.heap.size, 0, none⟩ (.string n)).setCell ⟨w.heap.size, 1, none⟩ (.int .i64 k)).setCell ⟨w.heap.size, 2, none⟩ (.slice tp tn tc)).setCell ⟨w.heap.size, 3, none⟩ (.bool h)).setCell ⟨w.heap.size, 4, none⟩ (.int .i64 vk)).setCell ⟨w.heap.size, 5, none⟩ (.int .i64 vi)).heap[w.heap.size]? = some (.cells (cells9 n k tp tn tc h vk vi 0 ⟨#[]⟩ none 0 0) 72 (0, 0)) := blk_set b5 5 (.int .i64 vi)
  have b7 : (((((((w1.setCell ⟨w.heap.size, 0, none⟩ (.string n)).setCell ⟨w.heap.size, 1, none⟩ (.int .i64 k)).setCell ⟨w.heap.size, 2, none⟩ (.slice tp tn tc)).setCell ⟨w.heap.size, 3, none⟩ (.bool h)).setCell ⟨w.heap.size, 4, none⟩ (.int .i64 vk)).setCell ⟨w.heap.size, 5, none⟩ (.int .i64 vi)).setCell ⟨w.heap.size, 6, none⟩ (.float .f64 vb)).heap[w.heap.size]? = some (.cells (cells9 n k tp tn tc h vk vi vb ⟨#[]⟩ none 0 0) 72 (0, 0)) := blk_set b6 6 (.float .f64 vb)
  have b8 : ((((((((w1.setCell ⟨w.heap.size, 0, none⟩ (.string n)).setCell ⟨w.heap.size, 1, none⟩ (.int .i64 k)).setCell ⟨w.heap.size, 2, none⟩ (.slice tp tn tc)).setCell ⟨w.heap.size, 3, none⟩ (.bool h)).setCell ⟨w.heap.size, 4, none⟩ (.int .i64 vk)).setCell ⟨w.heap.size, 5, none⟩ (.int .i64 vi)).setCell ⟨w.heap.size, 6, none⟩ (.float .f64 vb)).setCell ⟨w.heap.size, 7, none⟩ (.string vt)).heap[w.heap.size]? = some (.cells (cells9 n k tp tn tc h vk vi vb vt none 0 0) 72 (0, 0)) := blk_set b7 7 (.string vt)
  have b9 : (((((((((w1.setCell ⟨w.heap.size, 0, none⟩ (.string n)).setCell ⟨w.heap.size, 1, none⟩ (.int .i64 k)).setCell ⟨w.heap.size, 2, none⟩ (.slice tp tn tc)).setCell ⟨w.heap.size, 3, none⟩ (.bool h)).setCell ⟨w.heap.size, 4, none⟩ (.int .i64 vk)).setCell ⟨w.heap.size, 5, none⟩ (.int .i64 vi)).setCell ⟨w.heap.size, 6, none⟩ (.float .f64 vb)).setCell ⟨w.heap.size, 7, none⟩ (.string vt)).setCell ⟨w.heap.size, 8, none⟩ (.slice vp vn vc)).heap[w.heap.size]? = some (.cells (cells9 n k tp tn tc h vk vi vb vt vp vn vc) 72 (0, 0)) := blk_set b8 8 (.slice vp vn vc)
  refine ⟨b9, ?_, ?_⟩
  · exact (hv.aside hA (fun k hk hc => by have := hF k hk; omega)).mono (fun j hj => ⟨by have := hF j hj; omega, by have := hF j hj; have := hA.size; omega⟩)
  · exact hb.trans (hA.below (by omega) (fun k hk hc => by omega))

theorem find_any (n : ByteArray) : ∀ (s : List Col) (k : Nat), (Sch.find n s k).isSome = s.any (fun x => decide (x.name = n))
  | [], _ => rfl
  | c :: r, k => by
    rw [Sch.find, List.any_cons]
    by_cases h : c.name = n
    · rw [if_pos h, decide_eq_true h]; rfl
    · rw [if_neg h, decide_eq_false h, find_any n r (k + 1)]; rfl

end Go.Proofs.YtohgmkgclgoflaaDoor

/- The document's Decode. -/
namespace Go.Proofs.YtohgmkgclgoflaaDoor
open Go.RowKit

attribute [local go_sem] run_store_float

/-- what Decode answers: the schema in blocks of its own, or the error alone -/
def DecV (w : World) (r : Except Nat (List Col)) (e : Ending) (w' : World) : Prop := match r with
  | .error er => e = .returned (.tuple #[.agg #[.slice none 0 0], .int .i64 (er : Nat)]) ∧ Below w.heap.size w w'
  | .ok s => ∃ u, e = .returned (.tuple #[.agg u, .int .i64 0]) ∧ SOwn w' w.heap.size u s ∧ Below w.heap.size w w'

def shift (n : Nat) : Except Nat (List Col × Nat) → Except Nat (List Col × Nat)
  | .error e => .error e
  | .ok (s, k) => .ok (s, n + k)
def stepC (m : Nat) (s : List Col) (b : List UInt8) : Except Nat (Col × Nat) → Except Nat (List Col × Nat)
  | .error e => .error e
  | .ok (c, j) => shift j (Sch.rdCs m (s ++ [c]) (b.drop j))
theorem rdCs_succ (m : Nat) (s : List Col) (b : List UInt8) : Sch.rdCs (m + 1) s b = stepC m s b (Sch.rdC s b) := by
  rw [Sch.rdCs]
  cases Sch.rdC s b with
  | error e => rfl
  | ok p =>
    obtain ⟨c, j⟩ := p
    rw [stepC]
    dsimp only
    cases Sch.rdCs m (s ++ [c]) (b.drop j) with
    | error e => rfl
    | ok q => rfl
theorem shift_shift (n j : Nat) (r : Except Nat (List Col × Nat)) : shift n (shift j r) = shift (n + j) r := by
  cases r with
  | error e => rfl
  | ok p => simp [shift, Nat.add_assoc]
theorem rdC_err {s : List Col} {b : List UInt8} {e : Nat} (h : Sch.rdC s b = .error e) : e ≠ 0 := by
  rw [Sch.rdC] at h
  split at h
  · next e' he => injection h with h; rw [← h]; exact num_err he
  · split at h
    · injection h with h; omega
    · split at h
      · next e' he => injection h with h; rw [← h]; exact text_err (by decide) he
      · split at h
        · injection h with h; omega
        · split at h
          · injection h with h; omega
          · split at h
            · next e' he => injection h with h; rw [← h]; exact rdT_err 4 _ _ he
            · next t j2 ht =>
              split at h
              · next e' he => injection h with h; rw [← h]; exact bit_err he
              · split at h
                · cases h
                · split at h
                  · next e' he =>
                    injection h with h
                    rw [← h]
                    exact rdV_err t 1 _ _ (Sch.rdT_ok 4 _ _ _ (by omega) ht).2.2.1 he
                  · cases h

/-- while columns are read: the answer's place stands in the first block -/
structure MakingS (w : World) (s : List Col) (v : Value) (wr : World) : Prop where
  built : ∃ us Fs, CBuilt wr (w.heap.size + 1) v s.length us Fs s
  b0 : wr.heap[w.heap.size]? = some (.cells #[.slice none 0 0] 28 (0, 0))
  below : Below w.heap.size w wr
  size : w.heap.size + 1 ≤ wr.heap.size
theorem makingS_start (w : World) : MakingS w [] (.slice none 0 0) (w.alloc (.cells #[.slice none 0 0] 28)) :=
  ⟨⟨_, _, cbuilt_nil _ _⟩, blk_new w _, (Below.refl _ w).alloc (Nat.le_refl _) _, by simp⟩
theorem MakingS.next {w wr w2 w3 w4 : World} {s : List Col} {v : Value} {u : Array Value} {F : Nat → Prop} {g cap : Nat} {us : Nat → Array Value} {Fs : Nat → Nat → Prop} {y : Col} (h : MakingS w s v wr) (hbt : CBuilt wr (w.heap.size + 1) v s.length us Fs s) (hb : Below wr.heap.size wr w2) (hx : COwn w2 F u y)
    (hF : ∀ k, F k → wr.heap.size ≤ k ∧ k < w2.heap.size) (hb3 : Below w2.heap.size w2 w3)
    (hr : w4.ownsRow (w.heap.size + 1) 72 9 (.slice (some ⟨g, 0, none⟩) (s.length + 1) cap) (s.length + 1) (flat us s.length ++ u.toList)) (hg : w3.grownBy w4 v.ownBlock) (hn : v.ownBlock = some g ∨ g = w3.heap.size) :
    MakingS w (s ++ [y]) (.slice (some ⟨g, 0, none⟩) (s.length + 1) cap) w4 := by
  have hs := h.size
  have hs2 := hb.size
  have hs3 := hb3.size
  have hst := hbt.step hb hx hF hb3 hs hr hg hn
  have hb4 : Below w.heap.size w w4 := ((h.below.trans (hb.mono (by omega))).trans (hb3.mono (by omega))).grown hg (by omega) (fun k hk => by have := (hbt.lt k hk).1; omega)
  refine ⟨⟨(fun n => if n = s.length then u else us n), (fun n => if n = s.length then F else Fs n), ?_⟩, ?_, hb4, ?_⟩
  · rw [List.length_append, List.length_singleton]
    exact hst
  · rw [hg.block _ (by omega) (fun hc => by have := (hbt.lt _ hc.symm).1; omega), hb3.block _ (by omega), hb.block _ (by omega)]
    exact h.b0
  · have := hg.size
    omega

end Go.Proofs.YtohgmkgclgoflaaDoor

/- The law's own whole(a, b): two schemas, field by field. -/
namespace Go.Proofs.YtohgmkgclgoflaaDoor
open Go.RowKit

attribute [local go_sem] run_store_float

/-- two columns, floats bit by bit -/
def colWhole (c d : Col) : Bool := decide (c.name = d.name) && (c.has == d.has) && Ty.same c.ty d.ty && V.exact c.dflt d.dflt
def wholeL : List Col → List Col → Bool
  | [], [] => true
  | c :: r, d :: s => colWhole c d && wholeL r s
  | _, _ => false
theorem colWhole_iff (c d : Col) : colWhole c d = true ↔ c = d := by
  obtain ⟨n, t, a, v⟩ := c
  obtain ⟨n', t', a', v'⟩ := d
  unfold colWhole
  simp only [Bool.and_eq_true, decide_eq_true_eq, beq_iff_eq, Ty.same_iff, V.exact_iff, Col.mk.injEq]
  constructor
  · rintro ⟨⟨⟨h1, h2⟩, h3⟩, h4⟩; exact ⟨h1, h3, h2, h4⟩
  · rintro ⟨h1, h3, h2, h4⟩; exact ⟨⟨⟨h1, h2⟩, h3⟩, h4⟩
theorem wholeL_iff : ∀ s t : List Col, wholeL s t = true ↔ s = t
  | [], [] => by simp [wholeL]
  | [], _ :: _ => by simp [wholeL]
  | _ :: _, [] => by simp [wholeL]
  | c :: s, d :: t => by rw [wholeL, Bool.and_eq_true, colWhole_iff, wholeL_iff s t, List.cons.injEq]
theorem wholeL_ne : ∀ (s t : List Col), s.length ≠ t.length → wholeL s t = false
  | [], [], h => absurd rfl h
  | [], _ :: _, _ => rfl
  | _ :: _, [], _ => rfl
  | c :: s, d :: t, h => by rw [wholeL, wholeL_ne s t (by simpa using h), Bool.and_false]
theorem wholeL_at : ∀ (s t : List Col) (j : Nat) (h1 : j < s.length) (h2 : j < t.length), colWhole s[j] t[j] = false → wholeL s t = false
  | c :: s, d :: t, 0, _, _, h => by rw [wholeL]; simp at h; rw [h, Bool.false_and]
  | c :: s, d :: t, j + 1, h1, h2, h => by rw [wholeL, wholeL_at s t j (by simpa using h1) (by simpa using h2) (by simpa using h), Bool.and_false]
theorem wholeL_all : ∀ (s t : List Col), s.length = t.length → (∀ j (h1 : j < s.length) (h2 : j < t.length), colWhole s[j] t[j] = true) → wholeL s t = true
  | [], [], _, _ => rfl
  | [], _ :: _, h, _ => by simp at h
  | _ :: _, [], h, _ => by simp at h
  | c :: s, d :: t, h, ha => by
    rw [wholeL, wholeL_all s t (by simpa using h) (fun j h1 h2 => by have := ha (j + 1) (by simpa using h1) (by simpa using h2); simpa using this)]
    have := ha 0 (by simp) (by simp)
    simp at this
    rw [this]; rfl

end Go.Proofs.YtohgmkgclgoflaaDoor

/- The document's Same of schemas. -/
namespace Go.Proofs.YtohgmkgclgoflaaDoor
open Go.RowKit

attribute [local go_sem] run_store_float

end Go.Proofs.YtohgmkgclgoflaaDoor

/- The landed schema: ofCount, checkTypeAt, CheckType, isLetter, isDigit, Name. -/
namespace Go.Proofs.YtohgmkgclgoflaaDoor
open Go.RowKit

set_option maxHeartbeats 400000 in
theorem ofCountK (k : Int) (w : World) : Calls Tryd.prog 56 #[.int .i64 k] w fun e w' => e = .returned (.int .i64 (Ty.want k : Nat)) ∧ w' = w := by
  by_cases h6 : k = 6
  · have e6 : (k == 6) = true := beq_t h6
    have HW : Hid (Ty.want k = 1) := by show _ = _; unfold Ty.want; rw [if_pos (.inl h6)]
    clear h6
    go_enter Tryd.func56, Tryd.ntmps56
    go_wp2
    go_ret
    exact ⟨by rw [HW.out]; rfl, rfl⟩
  have e6 : (k == 6) = false := beq_f h6
  by_cases h7 : k = 7
  · have e7 : (k == 7) = true := beq_t h7
    have HW : Hid (Ty.want k = 1) := by show _ = _; unfold Ty.want; rw [if_pos (.inr h7)]
    clear h6 h7
    go_enter Tryd.func56, Tryd.ntmps56
    go_wp2
    go_ret
    exact ⟨by rw [HW.out]; rfl, rfl⟩
  have e7 : (k == 7) = false := beq_f h7
  have HW : Hid (Ty.want k = 0) := by show _ = _; unfold Ty.want; rw [if_neg (by omega)]
  clear h6 h7
  go_enter Tryd.func56, Tryd.ntmps56
  go_wp2
  go_ret
  exact ⟨by rw [HW.out]; rfl, rfl⟩

set_option maxRecDepth 100000 in
set_option maxHeartbeats 1000000 in
theorem checkTypeAtK : ∀ (x : Ty) (d : Nat) (w : World) (u : Array Value), d ≤ 5 → TLies w u x → Calls Tryd.prog 103 #[.agg u, .int .i64 d] w fun e w' => e = .returned (.int .i64 (Ty.check d x : Nat)) ∧ Below w.heap.size w w' := by
  intro x
  refine Ty.ind (P := fun x => ∀ (d : Nat) (w : World) (u : Array Value), d ≤ 5 → TLies w u x → Calls Tryd.prog 103 #[.agg u, .int .i64 d] w fun e w' => e = .returned (.int .i64 (Ty.check d x : Nat)) ∧ Below w.heap.size w w') ?_ x
  rintro k xs ih d w u hd hx
  obtain ⟨p, c, rfl, hxl, hxc, hxi⟩ := hx.open
  unfold cells2
  have hB1 : Below w.heap.size w (w.alloc (.cells #[.int .i64 k, .slice p xs.length c] 66)) := (Below.refl _ _).alloc (Nat.le_refl _) _
  have HB1 := Lib.hid hB1
  clear hB1 hx
  obtain ⟨R, hR⟩ : ∃ R, R = Ty.check d (.mk k xs) := ⟨_, rfl⟩
  have HCk := Lib.hid (hR.trans (Ty.check_mk d k xs))
  rw [← hR]
  clear hR
  by_cases h1 : 4 < d
  · have g1 : (4 : Int) < (d : Int) := by omega
    have HR : Hid (R = 62) := by show _ = _; rw [HCk.out, if_pos h1]
    clear ih hxi HCk
    go_enter Tryd.func103, Tryd.ntmps103
    go_wp2
    go_ret
    exact ⟨by rw [HR.out]; rfl, HB1.out⟩
  have g1 : ¬ (4 : Int) < (d : Int) := by omega
  by_cases h2 : k < 1
  · have HR : Hid (R = 60) := by show _ = _; rw [HCk.out, if_neg h1, if_pos (by omega)]
    have q2 : decide (k < 1) = true := decide_eq_true h2
    clear ih hxi HCk
    go_enter Tryd.func103, Tryd.ntmps103
    go_wp2_with fail
    go_quiet (fail)
    go_wp2
    go_ret
    exact ⟨by rw [HR.out]; rfl, below_drewN HB1.out _⟩
  have q2 : decide (k < 1) = false := decide_eq_false h2
  by_cases h3 : 7 < k
  · have HR : Hid (R = 60) := by show _ = _; rw [HCk.out, if_neg h1, if_pos (by omega)]
    have q3 : decide (7 < k) = true := decide_eq_true h3
    clear ih hxi HCk
    go_enter Tryd.func103, Tryd.ntmps103
    go_wp2_with fail
    go_quiet (fail)
    go_wp2
    go_ret
    exact ⟨by rw [HR.out]; rfl, below_drewN HB1.out _⟩
  have q3 : decide (7 < k) = false := decide_eq_false h3
  have HO : Hid (∀ w, Calls Tryd.prog 56 #[.int .i64 k] w fun e w' => e = .returned (.int .i64 (Ty.want k : Nat)) ∧ ∃ n, w' = w.drewN n) := fun w => (ofCountK k w).mono fun _ _ ⟨h1, h2⟩ => ⟨h1, 0, h2⟩
  obtain ⟨n, hn⟩ : ∃ n, n = Ty.want k := ⟨_, rfl⟩
  have HN := Lib.hid hn
  rw [← hn] at HO HCk
  clear hn
  by_cases h4 : xs.length = n
  · have gl : ((xs.length : Int) != (n : Int)) = false := bne_f (by omega)
    by_cases hl0 : xs.length = 0
    · have gz : ((xs.length : Int) == 0) = true := beq_t (by omega)
      have HR : Hid (R = 0) := by
        show _ = _
        have hx0 : xs = [] := List.eq_nil_of_length_eq_zero hl0
        subst hx0
        rw [HCk.out, if_neg h1, if_neg (by omega)]
        rfl
      clear ih hxi HCk hl0 h4
      go_enter Tryd.func103, Tryd.ntmps103
      go_wp2_with fail
      go_quiet (first | (go_at_call 56; exact Calls.quiet_of (HO.out _)))
      go_wp2
      go_ret
      exact ⟨by rw [HR.out]; rfl, below_drewN HB1.out _⟩
    · have gz : ((xs.length : Int) == 0) = false := beq_f (by omega)
      have hl1 : xs.length = 1 := by
        have := HN.out
        unfold Ty.want at this
        split at this <;> omega
      have HX : Hid (∀ j (hj : j < xs.length), ∃ u', TLies w u' xs[j] ∧ ItemT w p j u') := hxi
      have HIH := Lib.hid ih
      obtain ⟨ux, hvx, hix⟩ := HX.out 0 (by omega)
      obtain ⟨bx, ox, kx, qx, nx, cx, rfl, _, rfl, a0, a1⟩ := (hix.on HB1.out).lies
      rw [Nat.zero_mul, Nat.add_zero] at a0 a1
      have hR1 : R = Ty.check (d + 1) (xs[0]'(by omega)) := by
        obtain ⟨y, rfl⟩ := List.length_eq_one_iff.1 hl1
        rw [HCk.out]
        have := Ty.check_one d k y h1 (by omega) (by rw [← HN.out]; simp at h4; omega)
        rw [Ty.check_mk, ← HN.out] at this
        exact this
      have HC := Lib.hid (fun n => HIH.out _ (List.getElem_mem (by omega : 0 < xs.length)) (d + 1) _ _ (by omega) (hvx.on (below_drewN HB1.out n)))
      rw [← hR1] at HC
      unfold cells2 at HC
      have hlp : (0 : Int) < (xs.length : Int) := by omega
      clear hR1 HX HIH hvx hix HCk ih hxi hl1 hl0 h4
      go_enter Tryd.func103, Tryd.ntmps103
      go_wp2_with fail
      go_quiet (first | (go_at_call 56; exact Calls.quiet_of (HO.out _)))
      go_wp2_with fail
      refine (HC.out nq).mono ?_
      rintro e w2 ⟨rfl, hb2⟩
      have HB2 := Lib.hid ((below_drewN HB1.out nq).trans (hb2.mono (below_drewN HB1.out nq).size))
      clear hb2
      go_wp2
      go_ret
      exact ⟨rfl, HB2.out⟩
  · have gl : ((xs.length : Int) != (n : Int)) = true := bne_t (by omega)
    have HR : Hid (R = 60) := by show _ = _; rw [HCk.out, if_neg h1, if_pos (by omega)]
    clear ih hxi HCk h4
    go_enter Tryd.func103, Tryd.ntmps103
    go_wp2_with fail
    go_quiet (first | (go_at_call 56; exact Calls.quiet_of (HO.out _)))
    go_wp2
    go_ret
    exact ⟨by rw [HR.out]; rfl, below_drewN HB1.out _⟩

set_option maxHeartbeats 400000 in
theorem checkTypeK (x : Ty) (w : World) (u : Array Value) (h : TLies w u x) : Calls Tryd.prog 95 #[.agg u] w fun e w' => e = .returned (.int .i64 (Ty.check 1 x : Nat)) ∧ Below w.heap.size w w' := by
  obtain ⟨k, xs⟩ := x
  obtain ⟨p, c, rfl, -⟩ := h.open
  have hB1 : Below w.heap.size w (w.alloc (.cells (cells2 k p xs.length c) 66)) := (Below.refl _ _).alloc (Nat.le_refl _) _
  have HB1 := Lib.hid hB1
  have HC := Lib.hid (checkTypeAtK _ 1 _ _ (by omega) (h.on hB1))
  clear hB1 h
  obtain ⟨R, hR⟩ : ∃ R, R = Ty.check 1 (.mk k xs) := ⟨_, rfl⟩
  rw [← hR] at HC ⊢
  clear hR
  unfold cells2 at HC HB1 ⊢
  go_enter Tryd.func95, Tryd.ntmps95
  go_wp2_with fail
  refine HC.out.mono ?_
  rintro e w2 ⟨rfl, hb2⟩
  have HB2 := Lib.hid (HB1.out.trans (hb2.mono HB1.out.size))
  clear hb2
  go_wp2
  go_ret
  exact ⟨rfl, HB2.out⟩

/-- a digit -/
def dig (c : UInt8) : Bool := decide (48 ≤ c.toNat ∧ c.toNat ≤ 57)
theorem ch_eq (c : UInt8) : Sch.ch c = (Sch.low c || dig c || decide (c.toNat = 95)) := rfl
set_option maxHeartbeats 400000 in
theorem isLetterK (c : UInt8) (w : World) : Calls Tryd.prog 54 #[.int .u8 c.toNat] w fun e w' => e = .returned (.bool (Sch.low c)) ∧ w' = w := by
  by_cases h1 : c.toNat < 97
  · have g1 : ¬ (97 : Int) ≤ (c.toNat : Int) := by omega
    have g2 : (c.toNat : Int) < 97 := by omega
    have HE : Hid (Sch.low c = false) := by show _ = _; unfold Sch.low; rw [decide_eq_false (by omega)]
    clear h1
    go_enter Tryd.func54, Tryd.ntmps54
    go_wp2
    go_ret
    exact ⟨by rw [HE.out]; rfl, rfl⟩
  have g1 : (97 : Int) ≤ (c.toNat : Int) := by omega
  have g2 : ¬ (c.toNat : Int) < 97 := by omega
  by_cases h2 : c.toNat ≤ 122
  · have g3 : (c.toNat : Int) ≤ 122 := by omega
    have g4 : ¬ (122 : Int) < (c.toNat : Int) := by omega
    have HE : Hid (Sch.low c = true) := by show _ = _; unfold Sch.low; rw [decide_eq_true (by omega)]
    clear h1 h2
    go_enter Tryd.func54, Tryd.ntmps54
    go_wp2
    go_ret
    exact ⟨by rw [HE.out]; rfl, rfl⟩
  · have g3 : ¬ (c.toNat : Int) ≤ 122 := by omega
    have g4 : (122 : Int) < (c.toNat : Int) := by omega
    have HE : Hid (Sch.low c = false) := by show _ = _; unfold Sch.low; rw [decide_eq_false (by omega)]
    clear h1 h2
    go_enter Tryd.func54, Tryd.ntmps54
    go_wp2
    go_ret
    exact ⟨by rw [HE.out]; rfl, rfl⟩
set_option maxHeartbeats 400000 in
theorem isDigitK (c : UInt8) (w : World) : Calls Tryd.prog 55 #[.int .u8 c.toNat] w fun e w' => e = .returned (.bool (dig c)) ∧ w' = w := by
  by_cases h1 : c.toNat < 48
  · have g1 : ¬ (48 : Int) ≤ (c.toNat : Int) := by omega
    have g2 : (c.toNat : Int) < 48 := by omega
    have HE : Hid (dig c = false) := by show _ = _; unfold dig; rw [decide_eq_false (by omega)]
    clear h1
    go_enter Tryd.func55, Tryd.ntmps55
    go_wp2
    go_ret
    exact ⟨by rw [HE.out]; rfl, rfl⟩
  have g1 : (48 : Int) ≤ (c.toNat : Int) := by omega
  have g2 : ¬ (c.toNat : Int) < 48 := by omega
  by_cases h2 : c.toNat ≤ 57
  · have g3 : (c.toNat : Int) ≤ 57 := by omega
    have g4 : ¬ (57 : Int) < (c.toNat : Int) := by omega
    have HE : Hid (dig c = true) := by show _ = _; unfold dig; rw [decide_eq_true (by omega)]
    clear h1 h2
    go_enter Tryd.func55, Tryd.ntmps55
    go_wp2
    go_ret
    exact ⟨by rw [HE.out]; rfl, rfl⟩
  · have g3 : ¬ (c.toNat : Int) ≤ 57 := by omega
    have g4 : (57 : Int) < (c.toNat : Int) := by omega
    have HE : Hid (dig c = false) := by show _ = _; unfold dig; rw [decide_eq_false (by omega)]
    clear h1 h2
    go_enter Tryd.func55, Tryd.ntmps55
    go_wp2
    go_ret
    exact ⟨by rw [HE.out]; rfl, rfl⟩

set_option maxRecDepth 100000 in
set_option maxHeartbeats 1000000 in
theorem nameK (t : ByteArray) (w : World) : Calls Tryd.prog 50 #[.string t] w fun e w' => e = .returned (.bool (Sch.name t)) ∧ w' = w := by
  by_cases h1 : t.size = 0
  · have g1 : ((t.size : Int) == 0) = true := beq_t (by omega)
    have HE := Lib.hid (name_short (t := t) (.inl (by omega)))
    clear h1
    go_enter Tryd.func50, Tryd.ntmps50
    go_wp2
    go_ret
    exact ⟨by rw [HE.out]; rfl, rfl⟩
  have g1 : ((t.size : Int) == 0) = false := beq_f (by omega)
  by_cases h2 : 16 < t.size
  · have g2 : (16 : Int) < (t.size : Int) := by omega
    have HE := Lib.hid (name_short (t := t) (.inr h2))
    clear h1 h2
    go_enter Tryd.func50, Tryd.ntmps50
    go_wp2
    go_ret
    exact ⟨by rw [HE.out]; rfl, rfl⟩
  have g2 : ¬ (16 : Int) < (t.size : Int) := by omega
  have h0 : 0 < t.size := by omega
  have h0' : (0 : Int) < (t.size : Int) := by omega
  have HL := Lib.hid (isLetterK t[0])
  by_cases h3 : Sch.low t[0] = false
  · have HE := Lib.hid (name_head h0 h3)
    rw [h3] at HL
    clear h3 h1 h2
    go_enter Tryd.func50, Tryd.ntmps50
    go_wp2_with fail
    refine (HL.out _).mono ?_
    rintro e w2 ⟨rfl, rfl⟩
    go_wp2
    go_ret
    exact ⟨by rw [HE.out]; rfl, rfl⟩
  have h3' : Sch.low t[0] = true := by simpa using h3
  have H3 := Lib.hid h3'
  rw [h3'] at HL
  have H30 : Hid (Sch.ch t[0] = true) := by show _ = _; rw [ch_eq, h3']; rfl
  clear h3 h3'
  go_enter Tryd.func50, Tryd.ntmps50
  go_wp2_with fail
  refine (HL.out _).mono ?_
  rintro e w2 ⟨rfl, rfl⟩
  clear HL
  go_wp2_with fail
  go_loop [3] (fun v3 => ∃ a : Nat, 1 ≤ a ∧ a ≤ t.size ∧ v3 = .int .i64 a ∧ Hid (∀ j (h : j < t.size), j < a → Sch.ch t[j] = true)) (fun v3 => t.size - (intOf v3).toNat)
  case atStart => exact ⟨1, by omega, by omega, rfl, fun j _ hj => by
    have h00 : j = 0 := by omega
    subst h00
    exact H30.out⟩
  case round =>
    obtain ⟨a, ha1, ha, rfl, HA⟩ := hrel
    by_cases hlt : a < t.size
    · have hlt' : (a : Int) < (t.size : Int) := by omega
      have HLa := Lib.hid (isLetterK t[a])
      have HDa := Lib.hid (isDigitK t[a])
      have HCh := Lib.hid (ch_eq t[a])
      obtain ⟨r1, hr1⟩ : ∃ r, r = Sch.low t[a] := ⟨_, rfl⟩
      obtain ⟨r2, hr2⟩ : ∃ r, r = dig t[a] := ⟨_, rfl⟩
      rw [← hr1] at HLa HCh
      rw [← hr2] at HDa HCh
      clear hr1 hr2
      have HN : Hid (Sch.ch t[a] = true → ∀ j (h : j < t.size), j < a + 1 → Sch.ch t[j] = true) := fun hc j h hj => by
        by_cases hja : j = a
        · subst hja; exact hc
        · exact HA.out j h (by omega)
      have HB := Lib.hid (name_bad (t := t) a hlt)
      clear HA H3 H30
      go_wp2_with fail
      refine (HLa.out _).mono ?_
      rintro e w2 ⟨rfl, rfl⟩
      clear HLa
      cases r1 with
      | true =>
        have HC : Hid (Sch.ch t[a] = true) := by show _ = _; rw [HCh.out]; rfl
        clear HDa
        go_wp2
        go_round
        case rel => exact ⟨a + 1, by omega, by omega, by go_num, HN.out HC.out⟩
        case measure => simp [intOf]; omega
      | false =>
        go_wp2_with fail
        refine (HDa.out _).mono ?_
        rintro e w2 ⟨rfl, rfl⟩
        clear HDa
        cases r2 with
        | true =>
          have HC : Hid (Sch.ch t[a] = true) := by show _ = _; rw [HCh.out]; rfl
          go_wp2
          go_round
          case rel => exact ⟨a + 1, by omega, by omega, by go_num, HN.out HC.out⟩
          case measure => simp [intOf]; omega
        | false =>
          by_cases h95 : t[a].toNat = 95
          · have k4 : ((t[a].toNat : Int) != 95) = false := by rw [h95]; rfl
            have HC : Hid (Sch.ch t[a] = true) := by show _ = _; rw [HCh.out, decide_eq_true h95]; rfl
            clear h95
            go_wp2
            go_round
            case rel => exact ⟨a + 1, by omega, by omega, by go_num, HN.out HC.out⟩
            case measure => simp [intOf]; omega
          · have k4 : ((t[a].toNat : Int) != 95) = true := by rw [bne_iff_ne]; omega
            have HC : Hid (Sch.ch t[a] = false) := by show _ = _; rw [HCh.out, decide_eq_false h95]; rfl
            clear h95
            go_wp2
            go_ret
            exact ⟨by rw [HB.out HC.out]; rfl, rfl⟩
    · have HE := Lib.hid (name_good (t := t) (by omega) (by omega) H3.out (fun j h => HA.out j h (by omega)))
      have hjn : ¬ (a : Int) < (t.size : Int) := by omega
      clear HA
      go_wp2
      go_ret
      exact ⟨by rw [HE.out]; rfl, rfl⟩
end Go.Proofs.YtohgmkgclgoflaaDoor
