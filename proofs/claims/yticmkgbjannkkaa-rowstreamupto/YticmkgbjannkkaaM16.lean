/- WValAtR, Rw, RwErr, WRowR, WRowS, WRowT, WRowD, WRowV: put together. -/
import Derived.Test.YticmkgbjannkkaaM15
import Derived.Test.YticmkgbjannkkaaM04
import Derived.Test.YticmkgbjannkkaaM09
import Derived.Test.YticmkgbjannkkaaM05
import Derived.Test.YticmkgbjannkkaaM10

/- The document's ValueAt. -/
namespace Go.Proofs.Yticmkgbjannkkaa
open Go.RowKit

attribute [local go_sem] run_store_float

theorem many_err {k : Int} {l : List UInt8} {e : Nat} (h : Sch.many k l = .error e) : e ≠ 0 := by
  rw [Sch.many] at h
  split at h
  · exact bit_err h
  · split at h
    · next e' he => injection h with h; rw [← h]; exact num_err he
    · split at h
      · injection h with h; omega
      · cases h
theorem scalar_err {k : Int} {l : List UInt8} {e : Nat} (h : Sch.scalar k l = .error e) : e ≠ 0 := by
  rw [Sch.scalar] at h
  split at h
  · split at h
    · next e' he => injection h with h; rw [← h]; exact bit_err he
    · cases h
  split at h
  · split at h
    · next e' he => injection h with h; rw [← h]; exact num_err he
    · cases h
  split at h
  · split at h
    · next e' he => injection h with h; rw [← h]; exact float_err he
    · cases h
  split at h
  · next e' he => injection h with h; rw [← h]; exact text_err (by decide) he
  · split at h
    · injection h with h; omega
    · cases h
theorem rdN_err {f : List UInt8 → Except Nat (V × Nat)} (hf : ∀ l e, f l = .error e → e ≠ 0) : ∀ (m : Nat) (l : List UInt8) (e : Nat), Sch.rdN f m l = .error e → e ≠ 0
  | 0, l, e, h => by rw [Sch.rdN] at h; cases h
  | m + 1, l, e, h => by
    rw [Sch.rdN] at h
    split at h
    · next e' he => injection h with h; rw [← h]; exact hf l e' he
    · next v j hv =>
      split at h
      · next e' he => injection h with h; rw [← h]; exact rdN_err hf m _ _ he
      · cases h
theorem rdV_err : ∀ (t : Ty) (d : Nat) (l : List UInt8) (e : Nat), Ty.check d t = 0 → Sch.rdV t l = .error e → e ≠ 0 := by
  intro t
  refine Ty.ind (P := fun t => ∀ (d : Nat) (l : List UInt8) (e : Nat), Ty.check d t = 0 → Sch.rdV t l = .error e → e ≠ 0) ?_ t
  intro k xs ih d l e ht h
  obtain ⟨hd, hk, htt⟩ := Sch.ty_open ht
  rw [Sch.rdV_mk] at h
  rcases htt with ⟨h67, rfl⟩ | ⟨h67, x, rfl, hx⟩
  · rw [if_pos (by omega)] at h
    exact scalar_err h
  · rw [if_neg (by omega)] at h
    split at h
    · next e' he => injection h with h; rw [← h]; exact many_err he
    · split at h
      · next e' he =>
        injection h with h
        rw [← h]
        exact rdN_err (fun l e he => ih x (by simp) (d + 1) l e hx he) _ _ _ he
      · cases h

/-- what was read goes ahead of what is read behind it -/
def glue (ys : List V) (n : Nat) : Except Nat (List V × Nat) → Except Nat (List V × Nat)
  | .error e => .error e
  | .ok (vs, k) => .ok (ys ++ vs, n + k)
theorem glue_glue (ys : List V) (n : Nat) (v : V) (j : Nat) (r : Except Nat (List V × Nat)) : glue ys n (glue [v] j r) = glue (ys ++ [v]) (n + j) r := by
  cases r with
  | error e => rfl
  | ok p => simp [glue, Nat.add_assoc]
/-- one item is read, then m more -/
def stepR (f : List UInt8 → Except Nat (V × Nat)) (m : Nat) (l : List UInt8) : Except Nat (V × Nat) → Except Nat (List V × Nat)
  | .error e => .error e
  | .ok (v, j) => glue [v] j (Sch.rdN f m (l.drop j))
theorem rdN_succ (f : List UInt8 → Except Nat (V × Nat)) (m : Nat) (l : List UInt8) : Sch.rdN f (m + 1) l = stepR f m l (f l) := by
  rw [Sch.rdN]
  cases f l with
  | error e => rfl
  | ok p =>
    obtain ⟨v, j⟩ := p
    rw [stepR]
    dsimp only
    cases Sch.rdN f m (l.drop j) with
    | error e => rfl
    | ok q => rfl

theorem blk_second (w : World) (o o2 : Obj) : ((w.alloc o).alloc o2).heap[w.heap.size + 1]? = some o2 := by
  have := blk_new (w.alloc o) o2
  simpa using this
/-- the answer's place is written: the value is there -/
theorem put5_fin {w W1 w1 : World} {k i : Int} {b : Nat} {t : ByteArray} {q : Option Addr} {n c : Nat} {v : V} {F : Nat → Prop} (h1 : w1.heap[w.heap.size + 1]? = some (.cells (cells5 0 0 0 ⟨#[]⟩ none 0 0) 53 (0, 0))) (hW : Below w.heap.size w W1) (hs : w.heap.size + 2 ≤ W1.heap.size) (hb : Below w.heap.size W1 w1) (hsz : W1.heap.size ≤ w1.heap.size) (hv : VOwn w1 F (cells5 k i b t q n c) v) (hF : ∀ j, F j → w.heap.size + 2 ≤ j ∧ j < w1.heap.size) :
    (put5 w1 (w.heap.size + 1) k i b t (.slice q n c)).heap[w.heap.size + 1]? = some (.cells (cells5 k i b t q n c) 53 (0, 0)) ∧ VOwn (put5 w1 (w.heap.size + 1) k i b t (.slice q n c)) (fun j => w.heap.size ≤ j ∧ j < (put5 w1 (w.heap.size + 1) k i b t (.slice q n c)).heap.size) (cells5 k i b t q n c) v ∧ Below w.heap.size w (put5 w1 (w.heap.size + 1) k i b t (.slice q n c)) := by
  have hA : Aside (fun k => k = w.heap.size + 1) w1 (put5 w1 (w.heap.size + 1) k i b t (.slice q n c)) := by
    unfold put5
    exact (((((Aside.refl (fun k => k = w.heap.size + 1) w1).setCell (p := ⟨w.heap.size + 1, 0, none⟩) (.inl rfl) _).setCell (p := ⟨w.heap.size + 1, 1, none⟩) (.inl rfl) _).setCell (p := ⟨w.heap.size + 1, 2, none⟩) (.inl rfl) _).setCell (p := ⟨w.heap.size + 1, 3, none⟩) (.inl rfl) _).setCell (p := ⟨w.heap.size + 1, 4, none⟩) (.inl rfl) _
  refine ⟨?_, ?_, ?_⟩
  · unfold put5
    rw [blk_set (blk_set (blk_set (blk_set (blk_set h1 0 _) 1 _) 2 _) 3 _) 4 _]
    rfl
  · exact (hv.aside hA (fun k hk hc => by have := hF k hk; omega)).mono (fun j hj => ⟨by have := hF j hj; omega, by have := hF j hj; have := hA.size; omega⟩)
  · exact (hW.trans hb).trans (hA.below (by omega) (fun k hk hc => by omega))

/-- while the items are read: the type stands in the first block, the answer's place in the next, the value in the third; the items ys are there -/
structure MakingV (w : World) (C0 : Array Value) (k : Int) (ys : List V) (v : Value) (wr : World) : Prop where
  built : ∃ us Fs, Built wr (w.heap.size + 3) v ys.length us Fs ys
  b0 : wr.heap[w.heap.size]? = some (.cells C0 50 (0, 0))
  b1 : wr.heap[w.heap.size + 1]? = some (.cells (cells5 0 0 0 ⟨#[]⟩ none 0 0) 53 (0, 0))
  b2 : wr.heap[w.heap.size + 2]? = some (.cells #[.int .i64 k, .int .i64 0, .float .f64 0, .string ⟨#[]⟩, v] 53 (0, 0))
  below : Below w.heap.size w wr
  size : w.heap.size + 3 ≤ wr.heap.size

section
variable {w wr : World} {C0 : Array Value} {k : Int} {ys : List V} {v : Value}
theorem makingV_start (w : World) (C0 : Array Value) (k : Int) :
    MakingV w C0 k [] (.slice none 0 0) (((w.alloc (.cells C0 50)).alloc (.cells (cells5 0 0 0 ⟨#[]⟩ none 0 0) 53)).alloc (.cells #[.int .i64 k, .int .i64 0, .float .f64 0, .string ⟨#[]⟩, .slice none 0 0] 53)) := by
  refine ⟨⟨_, _, built_nil _ _⟩, ?_, ?_, ?_, ((((Below.refl _ w).alloc (Nat.le_refl _) _).alloc (by simp) _).alloc (by simp; omega) _), by simp⟩
  · rw [blk_old _ _ (by simp; omega), blk_old _ _ (by simp)]; exact blk_new w _
  · rw [blk_old _ _ (by simp)]
    have := blk_new (w.alloc (.cells C0 50)) (.cells (cells5 0 0 0 ⟨#[]⟩ none 0 0) 53)
    simpa using this
  · have := blk_new ((w.alloc (.cells C0 50)).alloc (.cells (cells5 0 0 0 ⟨#[]⟩ none 0 0) 53)) (.cells #[.int .i64 k, .int .i64 0, .float .f64 0, .string ⟨#[]⟩, .slice none 0 0] 53)
    simpa using this
theorem MakingV.slice (h : MakingV w C0 k ys v wr) : ∃ p c, v = .slice p ys.length c := by
  obtain ⟨us, Fs, hb⟩ := h.built
  rcases hb.row.2 with ⟨h1, h2⟩ | ⟨g, cap, cur, h1, _⟩
  · exact ⟨none, 0, by rw [h1, h2]⟩
  · exact ⟨_, cap, h1⟩
theorem MakingV.next {w2 w3 w4 : World} {u : Array Value} {F : Nat → Prop} {g cap : Nat} {us : Nat → Array Value} {Fs : Nat → Nat → Prop} {y : V} (h : MakingV w C0 k ys v wr) (hbt : Built wr (w.heap.size + 3) v ys.length us Fs ys) (hb : Below wr.heap.size wr w2) (hx : VOwn w2 F u y)
    (hF : ∀ k, F k → wr.heap.size ≤ k ∧ k < w2.heap.size) (hb3 : Below w2.heap.size w2 w3)
    (hr : w4.ownsRow (w.heap.size + 3) 53 5 (.slice (some ⟨g, 0, none⟩) (ys.length + 1) cap) (ys.length + 1) (flat us ys.length ++ u.toList)) (hg : w3.grownBy w4 v.ownBlock) (hn : v.ownBlock = some g ∨ g = w3.heap.size) :
    (∀ n, n < 3 → w4.heap[w.heap.size + n]? = wr.heap[w.heap.size + n]?) ∧ MakingV w C0 k (ys ++ [y]) (.slice (some ⟨g, 0, none⟩) (ys.length + 1) cap) (w4.setCell ⟨w.heap.size + 2, 4, none⟩ (.slice (some ⟨g, 0, none⟩) (ys.length + 1) cap)) := by
  have hs := h.size
  have hs2 := hb.size
  have hs3 := hb3.size
  have hst := hbt.step hb hx hF hb3 hs hr hg hn
  have hold : ∀ n, n < 3 → w4.heap[w.heap.size + n]? = wr.heap[w.heap.size + n]? := fun n hn => by
    rw [hg.block _ (by omega) (fun hc => by have := (hbt.lt _ hc.symm).1; omega), hb3.block _ (by omega), hb.block _ (by omega)]
  have hb4 : Below w.heap.size w w4 := ((h.below.trans (hb.mono (by omega))).trans (hb3.mono (by omega))).grown hg (by omega) (fun k hk => by have := (hbt.lt k hk).1; omega)
  refine ⟨hold, ⟨⟨(fun n => if n = ys.length then u else us n), (fun n => if n = ys.length then F else Fs n), ?_⟩, ?_, ?_, ?_, ?_, ?_⟩⟩
  · rw [List.length_append, List.length_singleton]
    exact hst.set ⟨w.heap.size + 2, 4, none⟩ _ (by show w.heap.size + 2 < _; omega)
  · have := hold 0 (by omega)
    rw [Nat.add_zero] at this
    exact blk_set_far (this.trans h.b0) _ _ (by show w.heap.size ≠ w.heap.size + 2; omega)
  · exact blk_set_far ((hold 1 (by omega)).trans h.b1) _ _ (by show w.heap.size + 1 ≠ w.heap.size + 2; omega)
  · rw [blk_set ((hold 2 (by omega)).trans h.b2)]
    rfl
  · exact hb4.setCell (by show w.heap.size ≤ w.heap.size + 2; omega) _
  · have := hg.size
    simp [World.setCell]
    omega
end

end Go.Proofs.Yticmkgbjannkkaa

/- Plain: rows, their bytes and how they are read; what the document says of them. -/
namespace Go.Proofs.Yticmkgbjannkkaa
namespace Rw

/-- why a value isn't one of a type that may be -/
def vErr (t : Ty) (v : V) : Nat := if chk 1 v ≠ 0 then chk 1 v else if Sch.is v t then 0 else 80
/-- P8.1: the error -/
def encErr (t : Ty) (v : V) : Nat := if Ty.check 1 t ≠ 0 then Ty.check 1 t else vErr t v
/-- P8.1: the bytes -/
def encB (t : Ty) (v : V) : List UInt8 := if encErr t v = 0 then Sch.vB v else []
/-- column by column -/
def colsErr : List Col → List V → Nat
  | c :: s, v :: r => if vErr c.ty v = 0 then colsErr s r else vErr c.ty v
  | _, _ => 0
def bytes (vs : List V) : List UInt8 := (vs.map Sch.vB).flatten
/-- P8.3 -/
def err (s : List Col) (vs : List V) : Nat := if Sch.err s ≠ 0 then Sch.err s else if vs.length ≠ s.length then 80 else if colsErr s vs ≠ 0 then colsErr s vs else if 1024 < (bytes vs).length then 2 else 0
/-- P8.4 -/
def out (s : List Col) (vs : List V) : List UInt8 := if err s vs = 0 then bytes vs else []
/-- P8.2 -/
def readV (t : Ty) (l : List UInt8) (a : Int) : Except Nat (V × Nat) := if Ty.check 1 t ≠ 0 then .error (Ty.check 1 t) else if a < 0 ∨ (l.length : Int) < a then .error 30 else match Sch.rdV t (l.drop a.toNat) with
  | .error e => .error e
  | .ok (v, k) => .ok (v, a.toNat + k)
/-- values of the columns' types -/
def rd : List Col → List UInt8 → Except Nat (List V × Nat)
  | [], _ => .ok ([], 0)
  | c :: s, l => match Sch.rdV c.ty l with
    | .error e => .error e
    | .ok (v, k) => match rd s (l.drop k) with
      | .error e => .error e
      | .ok (vs, j) => .ok (v :: vs, k + j)
/-- P8.5 -/
def read (s : List Col) (l : List UInt8) (a : Int) : Except Nat (List V × Nat) := if Sch.err s ≠ 0 then .error (Sch.err s) else if a < 0 ∨ (l.length : Int) < a then .error 30 else match rd s (l.drop a.toNat) with
  | .error e => .error e
  | .ok (vs, k) => if 1024 < k then .error 2 else .ok (vs, a.toNat + k)

theorem vErr_zero {t : Ty} {v : V} (h : vErr t v = 0) : Ty.check 1 t = 0 ∧ chk 1 v = 0 ∧ Sch.of v t = true := by
  unfold vErr at h
  split at h
  · next h0 => exact absurd h h0
  · split at h
    · next h1 =>
      unfold Sch.is at h1
      simp only [Bool.and_eq_true, decide_eq_true_eq] at h1
      exact ⟨h1.1.1, h1.1.2, h1.2⟩
    · omega
theorem vErr_make {t : Ty} {v : V} (h1 : Ty.check 1 t = 0) (h2 : chk 1 v = 0) (h3 : Sch.of v t = true) : vErr t v = 0 := by
  unfold vErr
  rw [if_neg (by omega), if_pos]
  unfold Sch.is
  rw [decide_eq_true h1, decide_eq_true h2, h3]
  rfl
theorem bytes_nil : bytes [] = [] := rfl
theorem bytes_cons (v : V) (r : List V) : bytes (v :: r) = Sch.vB v ++ bytes r := rfl
theorem bytes_fix (vs : List V) : bytes (vs.map V.fix) = bytes vs := by
  unfold bytes
  rw [List.map_map]
  congr 1
  exact List.map_congr_left (fun v _ => Sch.vB_fix v)

/-- a row's bytes are read as it -/
theorem rd_put (r : List UInt8) : ∀ (s : List Col) (vs : List V), vs.length = s.length → colsErr s vs = 0 → (∀ v ∈ vs, v.wf) → rd s (bytes vs ++ r) = .ok (vs.map V.fix, (bytes vs).length)
  | [], [], _, _, _ => rfl
  | [], _ :: _, h, _, _ => by simp at h
  | _ :: _, [], h, _, _ => by simp at h
  | c :: s, v :: vs, h, he, hw => by
    have h0 : vErr c.ty v = 0 := by
      rw [colsErr] at he
      split at he
      · assumption
      · next h => exact absurd he h
    have he' : colsErr s vs = 0 := by rw [colsErr, if_pos h0] at he; exact he
    obtain ⟨h1, h2, h3⟩ := vErr_zero h0
    rw [rd, bytes_cons, List.append_assoc, Sch.rdV_put c.ty 1 v _ h1 h2 h3 (hw v (by simp))]
    dsimp only
    rw [List.drop_left, rd_put r s vs (by simpa using h) he' (fun x hx => hw x (by simp [hx]))]
    simp
/-- what is read has just these bytes -/
theorem rd_ok : ∀ (s : List Col) (l : List UInt8) (vs : List V) (k : Nat), (∀ c ∈ s, Ty.check 1 c.ty = 0) → rd s l = .ok (vs, k) → vs.length = s.length ∧ k = (bytes vs).length ∧ (∃ r, l = bytes vs ++ r) ∧ colsErr s vs = 0 ∧ ∀ v ∈ vs, V.fix v = v ∧ v.wf
  | [], l, vs, k, _, h => by
    rw [rd] at h
    injection h with h
    injection h with h1 h2
    subst h1 h2
    exact ⟨rfl, rfl, ⟨l, rfl⟩, rfl, fun v hv => by cases hv⟩
  | c :: s, l, vs, k, ht, h => by
    rw [rd] at h
    split at h
    · cases h
    · next v k1 hv =>
      split at h
      · cases h
      · next vs' j hr =>
        injection h with h
        injection h with h1 h2
        subst h1 h2
        obtain ⟨a1, ⟨r1, a2⟩, a3, a4, a5, a6⟩ := Sch.rdV_ok c.ty 1 l v k1 (ht c (by simp)) hv
        obtain ⟨b1, b2, ⟨r2, b3⟩, b4, b5⟩ := rd_ok s (l.drop k1) vs' j (fun x hx => ht x (by simp [hx])) hr
        have e1 : l.drop k1 = r1 := by rw [a2, a1, List.drop_left]
        refine ⟨by simp [b1], by rw [bytes_cons, List.length_append, a1, b2], ⟨r2, by rw [bytes_cons, List.append_assoc, ← b3, e1]; exact a2⟩, ?_, fun x hx => ?_⟩
        · rw [colsErr, if_pos (vErr_make (ht c (by simp)) a3 a4)]
          exact b4
        · rcases List.mem_cons.1 hx with rfl | hx
          · exact ⟨a5, a6⟩
          · exact b5 x hx
theorem err_open {s : List Col} {vs : List V} (h : err s vs = 0) : Sch.err s = 0 ∧ vs.length = s.length ∧ colsErr s vs = 0 ∧ (bytes vs).length ≤ 1024 := by
  unfold err at h
  split at h
  · next h0 => exact absurd h h0
  · next h0 =>
    split at h
    · omega
    · next h1 =>
      split at h
      · next h2 => exact absurd h h2
      · next h2 =>
        split at h
        · omega
        · next h3 => exact ⟨by omega, by omega, by omega, by omega⟩
theorem err_make {s : List Col} {vs : List V} (h1 : Sch.err s = 0) (h2 : vs.length = s.length) (h3 : colsErr s vs = 0) (h4 : (bytes vs).length ≤ 1024) : err s vs = 0 := by
  unfold err
  rw [if_neg (by omega), if_neg (by omega), if_neg (by omega), if_neg (by omega)]
theorem types_ok {s : List Col} (h : Sch.err s = 0) : ∀ c ∈ s, Ty.check 1 c.ty = 0 := fun c hc => by
  obtain ⟨l', h'⟩ := Sch.colsErr_mem s [] (Sch.err_open h).2.2.1 c hc
  exact (Sch.col_open h').2.2.1
/-- P8.6: there and back -/
theorem read_put {s : List Col} {vs : List V} (h : err s vs = 0) (hw : ∀ v ∈ vs, v.wf) (a r : List UInt8) : read s (a ++ (bytes vs ++ r)) (a.length : Int) = .ok (vs.map V.fix, a.length + (bytes vs).length) := by
  obtain ⟨h1, h2, h3, h4⟩ := err_open h
  unfold read
  rw [if_neg (by omega), if_neg (by rw [List.length_append]; omega), Int.toNat_natCast, List.drop_left, rd_put r s vs h2 h3 hw]
  dsimp only
  rw [if_neg (by omega)]
/-- P8.6: back and there -/
theorem read_ok {s : List Col} {l : List UInt8} {a : Int} {vs : List V} {k : Nat} (h : read s l a = .ok (vs, k)) : 0 ≤ a ∧ a ≤ l.length ∧ k = a.toNat + (bytes vs).length ∧ k ≤ l.length ∧ (l.drop a.toNat).take (bytes vs).length = bytes vs ∧ err s vs = 0 ∧ ∀ v ∈ vs, V.fix v = v ∧ v.wf := by
  unfold read at h
  split at h
  · cases h
  · next h0 =>
    split at h
    · cases h
    · next h1 =>
      split at h
      · cases h
      · next vs' j hr =>
        split at h
        · cases h
        · next h2 =>
          injection h with h
          injection h with h3 h4
          subst h3 h4
          have h0' : Sch.err s = 0 := by omega
          obtain ⟨b1, b2, ⟨r, b3⟩, b4, b5⟩ := rd_ok s _ _ _ (types_ok h0') hr
          have hlen := congrArg List.length b3
          rw [List.length_drop, List.length_append] at hlen
          refine ⟨by omega, by omega, by rw [b2], by omega, by rw [b3, List.take_left], err_make h0' b1 b4 (by omega), b5⟩
/-- P8.7 -/
theorem begins {s : List Col} {q r : List V} (hq : err s q = 0) (hr : err s r = 0) (wq : ∀ v ∈ q, v.wf) (wr : ∀ v ∈ r, v.wf) : (∃ t, bytes r = bytes q ++ t) ↔ q.map V.fix = r.map V.fix := by
  obtain ⟨_, a2, a3, _⟩ := err_open hq
  obtain ⟨_, b2, b3, _⟩ := err_open hr
  constructor
  · rintro ⟨t, ht⟩
    have h1 := rd_put t s q a2 a3 wq
    have h2 := rd_put [] s r b2 b3 wr
    rw [List.append_nil, ht] at h2
    rw [h1] at h2
    injection h2 with h2
    injection h2 with h2 _
  · intro he
    refine ⟨[], ?_⟩
    rw [List.append_nil, ← bytes_fix r, ← bytes_fix q, he]
end Rw
end Go.Proofs.Yticmkgbjannkkaa

/- Plain: the errors of reading are no noughts. -/
namespace Go.Proofs.Yticmkgbjannkkaa
namespace Rw
theorem rd_err : ∀ (s : List Col) (l : List UInt8) (er : Nat), (∀ c ∈ s, Ty.check 1 c.ty = 0) → rd s l = .error er → er ≠ 0
  | [], l, er, _, h => by rw [rd] at h; cases h
  | c :: s, l, er, ht, h => by
    rw [rd] at h
    split at h
    · next e he => injection h with h; subst h; exact Sch.rdV_ne _ 1 _ _ (ht c (by simp)) he
    · split at h
      · next e he => injection h with h; subst h; exact rd_err s _ _ (fun x hx => ht x (by simp [hx])) he
      · cases h
theorem read_err {s : List Col} {l : List UInt8} {a : Int} {er : Nat} (h : read s l a = .error er) : er ≠ 0 := by
  unfold read at h
  split at h
  · next h0 => injection h with h; rw [← h]; exact h0
  · next h0 =>
    split at h
    · injection h with h; omega
    · split at h
      · next e he => injection h with h; subst h; exact rd_err s _ _ (types_ok (by omega)) he
      · split at h
        · injection h with h; omega
        · cases h
end Rw
end Go.Proofs.Yticmkgbjannkkaa

/- The document's value, EncodeValue, bytesOf, Check, Encode of rows. -/
namespace Go.Proofs.Yticmkgbjannkkaa
open Go.RowKit

attribute [local go_sem] run_store_float

/-- what encoding answers: bytes of one's own, or nothing and the error -/
def EncR (w : World) (er : Nat) (l : List UInt8) (e : Ending) (w' : World) : Prop :=
  (er = 0 ∧ ∃ q cap, e = .returned (.tuple #[.slice q l.length cap, .int .i64 0]) ∧ Has w' w.heap.size (.slice q l.length cap) l ∧ Below w.heap.size w w') ∨
  (er ≠ 0 ∧ e = .returned (.tuple #[.slice none 0 0, .int .i64 (er : Nat)]) ∧ Below w.heap.size w w')

end Go.Proofs.Yticmkgbjannkkaa

/- The document's bytesOf, Check, Encode of rows. -/
namespace Go.Proofs.Yticmkgbjannkkaa
open Go.RowKit

attribute [local go_sem] run_store_float

theorem bytes_small (xs : List V) (hn : xs.length ≤ 16) (hc : ∀ v ∈ xs, chk 1 v = 0) : (Rw.bytes xs).length ≤ 320000000000 := by
  have key : ∀ xs : List V, (∀ v ∈ xs, chk 1 v = 0) → (Rw.bytes xs).length ≤ xs.length * 20000000000 := by
    intro xs
    induction xs with
    | nil => intro _; simp [Rw.bytes]
    | cons v r ih =>
      intro h
      rw [Rw.bytes_cons, List.length_append, List.length_cons]
      have h1 := Sch.vB_small (h v (by simp)) (Nat.le_refl _)
      have h2 := ih (fun x hx => h x (by simp [hx]))
      omega
  have := key xs hc
  omega

end Go.Proofs.Yticmkgbjannkkaa

/- The document's Check, Encode of rows. -/
namespace Go.Proofs.Yticmkgbjannkkaa
open Go.RowKit

attribute [local go_sem] run_store_float

theorem colsErr_chk : ∀ (s : List Col) (vs : List V), vs.length = s.length → Rw.colsErr s vs = 0 → ∀ v ∈ vs, chk 1 v = 0
  | [], [], _, _, v, hv => by cases hv
  | [], _ :: _, h, _, _, _ => by simp at h
  | _ :: _, [], h, _, _, _ => by simp at h
  | c :: s, x :: vs, h, he, v, hv => by
    rw [Rw.colsErr] at he
    split at he
    · next h0 =>
      rcases List.mem_cons.1 hv with rfl | hv
      · exact (Rw.vErr_zero h0).2.1
      · exact colsErr_chk s vs (by simpa using h) he v hv
    · next h0 => exact absurd he h0
theorem colsErr_drop (s : List Col) (vs : List V) (j : Nat) (h1 : j < s.length) (h2 : j < vs.length) : Rw.colsErr (s.drop j) (vs.drop j) = if Rw.vErr s[j].ty vs[j] = 0 then Rw.colsErr (s.drop (j + 1)) (vs.drop (j + 1)) else Rw.vErr s[j].ty vs[j] := by
  rw [List.drop_eq_getElem_cons h1, List.drop_eq_getElem_cons h2, Rw.colsErr]

end Go.Proofs.Yticmkgbjannkkaa

/- The document's DecodeValue, Decode of rows. -/
namespace Go.Proofs.Yticmkgbjannkkaa
open Go.RowKit

attribute [local go_sem] run_store_float

/-- what Decode answers: the row in blocks of its own and the place behind it, or the error alone -/
def RowA (w : World) (r : Except Nat (List V × Nat)) (e : Ending) (w' : World) : Prop := match r with
  | .error er => e = .returned (.tuple #[.agg #[.slice none 0 0], .int .i64 0, .int .i64 (er : Nat)]) ∧ Below w.heap.size w w'
  | .ok (vs, k) => ∃ q c, e = .returned (.tuple #[.agg #[.slice q vs.length c], .int .i64 (k : Nat), .int .i64 0]) ∧ VOwn w' (fun k => w.heap.size ≤ k ∧ k < w'.heap.size) (cells5 0 0 0 ⟨#[]⟩ q vs.length c) (.mk 0 0 0 ⟨#[]⟩ vs) ∧ Below w.heap.size w w'

/-- one value is read, then the other columns' -/
def stepRd (s : List Col) (l : List UInt8) : Except Nat (V × Nat) → Except Nat (List V × Nat)
  | .error e => .error e
  | .ok (v, j) => glue [v] j (Rw.rd s (l.drop j))
theorem rd_cons (c : Col) (s : List Col) (l : List UInt8) : Rw.rd (c :: s) l = stepRd s l (Sch.rdV c.ty l) := by
  rw [Rw.rd]
  cases Sch.rdV c.ty l with
  | error e => rfl
  | ok p =>
    obtain ⟨v, j⟩ := p
    rw [stepRd]
    dsimp only
    cases Rw.rd s (l.drop j) with
    | error e => rfl
    | ok q => rfl

/-- while the row is read: the schema stands in the first block, the answer's place in the next, the row in the block B; the values ys are there -/
structure MakingR (w : World) (C0 : Array Value) (B : Nat) (ys : List V) (v : Value) (wr : World) : Prop where
  built : ∃ us Fs, Built wr (B + 1) v ys.length us Fs ys
  b0 : wr.heap[w.heap.size]? = some (.cells C0 24 (0, 0))
  b1 : wr.heap[w.heap.size + 1]? = some (.cells #[.slice none 0 0] 27 (0, 0))
  b2 : wr.heap[B]? = some (.cells #[v] 27 (0, 0))
  below : Below w.heap.size w wr
  far : w.heap.size + 2 ≤ B
  size : B + 1 ≤ wr.heap.size

section
variable {w wr : World} {C0 : Array Value} {B : Nat} {ys : List V} {v : Value}
theorem makingR_start {w1 : World} (h0 : w1.heap[w.heap.size]? = some (.cells C0 24 (0, 0))) (h1 : w1.heap[w.heap.size + 1]? = some (.cells #[.slice none 0 0] 27 (0, 0))) (hs : w.heap.size + 2 ≤ w1.heap.size) (hb : Below w.heap.size w w1) :
    MakingR w C0 w1.heap.size [] (.slice none 0 0) (w1.alloc (.cells #[.slice none 0 0] 27)) := by
  refine ⟨⟨_, _, built_nil _ _⟩, ?_, ?_, blk_new w1 _, hb.alloc (by omega) _, hs, by simp⟩
  · rw [blk_old _ _ (by omega)]; exact h0
  · rw [blk_old _ _ (by omega)]; exact h1
theorem MakingR.next {w2 w3 w4 : World} {u : Array Value} {F : Nat → Prop} {g cap : Nat} {us : Nat → Array Value} {Fs : Nat → Nat → Prop} {y : V} (h : MakingR w C0 B ys v wr) (hbt : Built wr (B + 1) v ys.length us Fs ys) (hb : Below wr.heap.size wr w2) (hx : VOwn w2 F u y)
    (hF : ∀ k, F k → wr.heap.size ≤ k ∧ k < w2.heap.size) (hb3 : Below w2.heap.size w2 w3)
    (hr : w4.ownsRow (B + 1) 53 5 (.slice (some ⟨g, 0, none⟩) (ys.length + 1) cap) (ys.length + 1) (flat us ys.length ++ u.toList)) (hg : w3.grownBy w4 v.ownBlock) (hn : v.ownBlock = some g ∨ g = w3.heap.size) :
    (∀ n, n ≤ B → w4.heap[n]? = wr.heap[n]?) ∧ MakingR w C0 B (ys ++ [y]) (.slice (some ⟨g, 0, none⟩) (ys.length + 1) cap) (w4.setCell ⟨B, 0, none⟩ (.slice (some ⟨g, 0, none⟩) (ys.length + 1) cap)) := by
  have hs := h.size
  have hf := h.far
  have hs2 := hb.size
  have hs3 := hb3.size
  have hst := hbt.step hb hx hF hb3 hs hr hg hn
  have hold : ∀ n, n ≤ B → w4.heap[n]? = wr.heap[n]? := fun n hn => by
    rw [hg.block _ (by omega) (fun hc => by have := (hbt.lt _ hc.symm).1; omega), hb3.block _ (by omega), hb.block _ (by omega)]
  have hb4 : Below w.heap.size w w4 := ((h.below.trans (hb.mono (by omega))).trans (hb3.mono (by omega))).grown hg (by omega) (fun k hk => by have := (hbt.lt k hk).1; omega)
  refine ⟨hold, ⟨⟨(fun n => if n = ys.length then u else us n), (fun n => if n = ys.length then F else Fs n), ?_⟩, ?_, ?_, ?_, ?_, hf, ?_⟩⟩
  · rw [List.length_append, List.length_singleton]
    exact hst.set ⟨B, 0, none⟩ _ (by show B < _; omega)
  · exact blk_set_far ((hold _ (by omega)).trans h.b0) _ _ (by show w.heap.size ≠ B; omega)
  · exact blk_set_far ((hold _ (by omega)).trans h.b1) _ _ (by show w.heap.size + 1 ≠ B; omega)
  · rw [blk_set ((hold B (Nat.le_refl _)).trans h.b2)]
    rfl
  · exact hb4.setCell (by show w.heap.size ≤ B; omega) _
  · have := hg.size
    simp [World.setCell]
    omega
/-- the answer's place is written: the row is there -/
theorem putR_fin {w1 : World} {q : Option Addr} {n c : Nat} {x : V} {F : Nat → Prop} (h1 : w1.heap[w.heap.size + 1]? = some (.cells #[.slice none 0 0] 27 (0, 0))) (hb : Below w.heap.size w w1) (hv : VOwn w1 F (cells5 0 0 0 ⟨#[]⟩ q n c) x) (hF : ∀ j, F j → w.heap.size + 2 ≤ j ∧ j < w1.heap.size) :
    (w1.setCell ⟨w.heap.size + 1, 0, none⟩ (.slice q n c)).heap[w.heap.size + 1]? = some (.cells #[.slice q n c] 27 (0, 0)) ∧ VOwn (w1.setCell ⟨w.heap.size + 1, 0, none⟩ (.slice q n c)) (fun j => w.heap.size ≤ j ∧ j < (w1.setCell ⟨w.heap.size + 1, 0, none⟩ (.slice q n c)).heap.size) (cells5 0 0 0 ⟨#[]⟩ q n c) x ∧ Below w.heap.size w (w1.setCell ⟨w.heap.size + 1, 0, none⟩ (.slice q n c)) := by
  have hA : Aside (fun k => k = w.heap.size + 1) w1 (w1.setCell ⟨w.heap.size + 1, 0, none⟩ (.slice q n c)) := (Aside.refl (fun k => k = w.heap.size + 1) w1).setCell (p := ⟨w.heap.size + 1, 0, none⟩) (.inl rfl) _
  refine ⟨?_, ?_, ?_⟩
  · rw [blk_set h1 0 _]
    rfl
  · exact (hv.aside hA (fun k hk hc => by have := hF k hk; omega)).mono (fun j hj => ⟨by have := hF j hj; omega, by have := hF j hj; have := hA.size; omega⟩)
  · exact hb.setCell (by show w.heap.size ≤ w.heap.size + 1; omega) _
end

end Go.Proofs.Yticmkgbjannkkaa

/- The document's DecodeValue. -/
namespace Go.Proofs.Yticmkgbjannkkaa
open Go.RowKit

attribute [local go_sem] run_store_float

/-- a value that is answered, the place behind it, or an error alone -/
def ValA (w : World) (r : Except Nat (V × Nat)) (e : Ending) (w' : World) : Prop := match r with
  | .error er => e = .returned (.tuple #[.agg (cells5 0 0 0 ⟨#[]⟩ none 0 0), .int .i64 0, .int .i64 (er : Nat)]) ∧ Below w.heap.size w w'
  | .ok (v, k) => ∃ u, e = .returned (.tuple #[.agg u, .int .i64 (k : Nat), .int .i64 0]) ∧ VOwn w' (fun k => w.heap.size ≤ k ∧ k < w'.heap.size) u v ∧ Below w.heap.size w w'

end Go.Proofs.Yticmkgbjannkkaa
