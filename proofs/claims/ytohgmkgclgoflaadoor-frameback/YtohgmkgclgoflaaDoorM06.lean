/- WFixR, WSameR, Utf, WRefL, WRefG3, WUtfR, WOwnR, WCheckR, VAlike, Sch: put together. -/
import Derived.Test.YtohgmkgclgoflaaDoorM05
import Derived.Test.YtohgmkgclgoflaaDoorM01
import Derived.Test.YtohgmkgclgoflaaDoorM04

/- The document's Fix. -/
namespace Go.Proofs.YtohgmkgclgoflaaDoor
open Go.RowKit

attribute [local go_sem] run_store_float

/-- what a fresh value's call answers -/
def Fresh (w : World) (y : V) (e : Ending) (w' : World) : Prop := ∃ u', e = .returned (.agg u') ∧ VOwn w' (fun k => w.heap.size ≤ k ∧ k < w'.heap.size) u' y ∧ Below w.heap.size w w'

/-- while a value is built: its parameter stands in the first block, its answer's place in the next, the value in the third; j items are there -/
structure Making (w : World) (C0 : Array Value) (k i : Int) (b : Nat) (t : ByteArray) (zs : List V) (j : Nat) (v : Value) (wr : World) : Prop where
  built : ∃ us Fs, Built wr (w.heap.size + 3) v j us Fs (zs.take j)
  b0 : wr.heap[w.heap.size]? = some (.cells C0 70 (0, 0))
  b1 : wr.heap[w.heap.size + 1]? = some (.cells (cells5 0 0 0 ⟨#[]⟩ none 0 0) 70 (0, 0))
  b2 : wr.heap[w.heap.size + 2]? = some (.cells #[.int .i64 k, .int .i64 i, .float .f64 b, .string t, v] 70 (0, 0))
  below : Below w.heap.size w wr
  size : w.heap.size + 3 ≤ wr.heap.size

section
variable {w wr : World} {C0 : Array Value} {k i : Int} {b : Nat} {t : ByteArray} {zs : List V} {j : Nat} {v : Value}
theorem making_start (w : World) (C0 : Array Value) (k i : Int) (b : Nat) (t : ByteArray) (zs : List V) :
    Making w C0 k i b t zs 0 (.slice none 0 0) (((w.alloc (.cells C0 70)).alloc (.cells (cells5 0 0 0 ⟨#[]⟩ none 0 0) 70)).alloc (.cells #[.int .i64 k, .int .i64 i, .float .f64 b, .string t, .slice none 0 0] 70)) := by
  refine ⟨⟨_, _, built_nil _ _⟩, ?_, ?_, ?_, ((((Below.refl _ w).alloc (Nat.le_refl _) _).alloc (by simp) _).alloc (by simp; omega) _), by simp⟩
  · rw [blk_old _ _ (by simp; omega), blk_old _ _ (by simp)]; exact blk_new w _
  · rw [blk_old _ _ (by simp)]
    have := blk_new (w.alloc (.cells C0 70)) (.cells (cells5 0 0 0 ⟨#[]⟩ none 0 0) 70)
    simpa using this
  · have := blk_new ((w.alloc (.cells C0 70)).alloc (.cells (cells5 0 0 0 ⟨#[]⟩ none 0 0) 70)) (.cells #[.int .i64 k, .int .i64 i, .float .f64 b, .string t, .slice none 0 0] 70)
    simpa using this

theorem Making.slice (h : Making w C0 k i b t zs j v wr) : ∃ p c, v = .slice p j c := by
  obtain ⟨us, Fs, hb⟩ := h.built
  rcases hb.row.2 with ⟨h1, h2⟩ | ⟨g, cap, cur, h1, _⟩
  · exact ⟨none, 0, by rw [h1, h2]⟩
  · exact ⟨_, cap, h1⟩

theorem Making.next {w2 w3 w4 : World} {u : Array Value} {F : Nat → Prop} {g cap : Nat} {us : Nat → Array Value} {Fs : Nat → Nat → Prop} (h : Making w C0 k i b t zs j v wr) (hbt : Built wr (w.heap.size + 3) v j us Fs (zs.take j)) (hj : j < zs.length) (hb : Below wr.heap.size wr w2) (hx : VOwn w2 F u zs[j])
    (hF : ∀ k, F k → wr.heap.size ≤ k ∧ k < w2.heap.size) (hb3 : Below w2.heap.size w2 w3)
    (hr : w4.ownsRow (w.heap.size + 3) 70 5 (.slice (some ⟨g, 0, none⟩) (j + 1) cap) (j + 1) (flat us j ++ u.toList)) (hg : w3.grownBy w4 v.ownBlock) (hn : v.ownBlock = some g ∨ g = w3.heap.size) :
    Below w.heap.size w w4 ∧ (∀ n, n < 3 → w4.heap[w.heap.size + n]? = wr.heap[w.heap.size + n]?) ∧ Making w C0 k i b t zs (j + 1) (.slice (some ⟨g, 0, none⟩) (j + 1) cap) (w4.setCell ⟨w.heap.size + 2, 4, none⟩ (.slice (some ⟨g, 0, none⟩) (j + 1) cap)) := by
  have hs := h.size
  have hs2 := hb.size
  have hs3 := hb3.size
  have hst := hbt.step hb hx hF hb3 hs hr hg hn
  have hold : ∀ n, n < 3 → w4.heap[w.heap.size + n]? = wr.heap[w.heap.size + n]? := fun n hn => by
    rw [hg.block _ (by omega) (fun hc => by have := (hbt.lt _ hc.symm).1; omega), hb3.block _ (by omega), hb.block _ (by omega)]
  have hb4 : Below w.heap.size w w4 := ((h.below.trans (hb.mono (by omega))).trans (hb3.mono (by omega))).grown hg (by omega) (fun k hk => by have := (hbt.lt k hk).1; omega)
  refine ⟨hb4, hold, ⟨⟨(fun n => if n = j then u else us n), (fun n => if n = j then F else Fs n), ?_⟩, ?_, ?_, ?_, ?_, ?_⟩⟩
  · rw [List.take_succ_eq_append_getElem hj]
    exact hst.set ⟨w.heap.size + 2, 4, none⟩ _ (by show w.heap.size + 2 < _; omega)
  · have := hold 0 (by omega)
    rw [Nat.add_zero] at this
    exact blk_set_far (this.trans h.b0) _ _ (by show w.heap.size ≠ w.heap.size + 2; omega)
  · exact blk_set_far ((hold 1 (by omega)).trans h.b1) _ _ (by show w.heap.size + 1 ≠ w.heap.size + 2; omega)
  · rw [blk_set ((hold 2 (by omega)).trans h.b2)]
    rfl
  · exact hb4.setCell (by show w.heap.size ≤ w.heap.size + 2; omega) _
  · have := hg.size
    simp [World.setCell]
    omega

/-- the answer's place is written: the value is there -/
def put5 (w : World) (g : Nat) (k i : Int) (b : Nat) (t : ByteArray) (v : Value) : World :=
  ((((w.setCell ⟨g, 0, none⟩ (.int .i64 k)).setCell ⟨g, 1, none⟩ (.int .i64 i)).setCell ⟨g, 2, none⟩ (.float .f64 b)).setCell ⟨g, 3, none⟩ (.string t)).setCell ⟨g, 4, none⟩ v
theorem Making.finish {q : Option Addr} {d : Nat} (h : Making w C0 k i b t zs j (.slice q j d) wr) (hj : j = zs.length) (hl : j * 64 ≤ 140737488351232) :
    (put5 wr (w.heap.size + 1) k i b t (.slice q j d)).heap[w.heap.size + 1]? = some (.cells (cells5 k i b t q j d) 70 (0, 0)) ∧ Fresh w (.mk k i b t zs) (.returned (.agg (cells5 k i b t q j d))) (put5 wr (w.heap.size + 1) k i b t (.slice q j d)) := by
  unfold put5
  refine ⟨?_, _, rfl, ?_, ?_⟩
  · rw [blk_set (blk_set (blk_set (blk_set (blk_set h.b1 0 _) 1 _) 2 _) 3 _) 4 _]
    rfl
  · obtain ⟨us, Fs, hb⟩ := h.built
    have hp : ∀ m, (⟨w.heap.size + 1, m, none⟩ : Addr).block < w.heap.size + 3 := fun m => by show w.heap.size + 1 < _; omega
    have h5 := ((((hb.set ⟨w.heap.size + 1, 0, none⟩ (.int .i64 k) (hp 0)).set ⟨w.heap.size + 1, 1, none⟩ (.int .i64 i) (hp 1)).set ⟨w.heap.size + 1, 2, none⟩ (.float .f64 b) (hp 2)).set ⟨w.heap.size + 1, 3, none⟩ (.string t) (hp 3)).set ⟨w.heap.size + 1, 4, none⟩ (.slice q j d) (hp 4)
    obtain ⟨p', c', he, hv⟩ := h5.done hl k i b t
    injection he with h6 h7 h8
    subst h6 h8
    rw [hj, List.take_length] at hv
    rw [← hj] at hv
    exact hv.mono fun k hk => ⟨by omega, hk.2⟩
  · have hp : ∀ m, w.heap.size ≤ (⟨w.heap.size + 1, m, none⟩ : Addr).block := fun m => by show _ ≤ w.heap.size + 1; omega
    exact ((((h.below.setCell (hp 0) _).setCell (hp 1) _).setCell (hp 2) _).setCell (hp 3) _).setCell (hp 4) _
end

theorem fixL_take (xs : List V) (j : Nat) (h : j < xs.length) : (V.fixL xs).take (j + 1) = (V.fixL xs).take j ++ [V.fix xs[j]] := by
  rw [V.fixL_eq, List.take_succ_eq_append_getElem (by simpa using h), List.getElem_map]

end Go.Proofs.YtohgmkgclgoflaaDoor

/- The document's Same, sameList, SameRow. -/
namespace Go.Proofs.YtohgmkgclgoflaaDoor
open Go.RowKit

namespace V
theorem sameL_ne : ∀ (xs ys : List V), xs.length ≠ ys.length → sameL xs ys = false
  | [], [], h => absurd rfl h
  | [], _ :: _, _ => rfl
  | _ :: _, [], _ => rfl
  | x :: r, y :: s, h => by rw [sameL_cons, sameL_ne r s (by simpa using h), Bool.and_false]
theorem sameL_at : ∀ (xs ys : List V) (j : Nat) (h1 : j < xs.length) (h2 : j < ys.length), same xs[j] ys[j] = false → sameL xs ys = false
  | x :: r, y :: s, 0, _, _, h => by rw [sameL_cons]; simp at h; rw [h, Bool.false_and]
  | x :: r, y :: s, j + 1, h1, h2, h => by rw [sameL_cons, sameL_at r s j (by simpa using h1) (by simpa using h2) (by simpa using h), Bool.and_false]
theorem sameL_all : ∀ (xs ys : List V), xs.length = ys.length → (∀ j (h1 : j < xs.length) (h2 : j < ys.length), same xs[j] ys[j] = true) → sameL xs ys = true
  | [], [], _, _ => rfl
  | [], _ :: _, h, _ => by simp at h
  | _ :: _, [], h, _ => by simp at h
  | x :: r, y :: s, h, ha => by
    rw [sameL_cons, sameL_all r s (by simpa using h) (fun j h1 h2 => by have := ha (j + 1) (by simpa using h1) (by simpa using h2); simpa using this)]
    have := ha 0 (by simp) (by simp)
    simp at this
    rw [this]; rfl
end V

/-- values lie in a row -/
def Items (w : World) (p : Option Addr) (xs : List V) : Prop := ∀ j (hj : j < xs.length), ∃ u', VLies w u' xs[j] ∧ Item w p j u'
theorem Items.on {w w' : World} {p : Option Addr} {xs : List V} (h : Items w p xs) (hb : Below w.heap.size w w') : Items w' p xs := fun j hj => by
  obtain ⟨u', h1, h2⟩ := h j hj
  exact ⟨u', h1.on hb, h2.on hb⟩

theorem beq_t {a b : Int} (h : a = b) : (a == b) = true := by rw [h]; simp
theorem beq_f {a b : Int} (h : ¬ a = b) : (a == b) = false := by rw [beq_eq_false_iff_ne]; exact h

end Go.Proofs.YtohgmkgclgoflaaDoor

/- Plain: right UTF-8, character by character, as the document tells it. -/
namespace Go.Proofs.YtohgmkgclgoflaaDoor.U8

/-- what a first byte says: how many bytes, its own bits, the least that needs so many -/
def kind (c : Nat) : Option (Nat × Nat × Nat) :=
  if c < 128 then some (1, c, 0) else if 192 ≤ c ∧ c < 224 then some (2, c - 192, 128) else if 224 ≤ c ∧ c < 240 then some (3, c - 224, 2048) else if 240 ≤ c ∧ c < 248 then some (4, c - 240, 65536) else none
/-- so many bytes more -/
def conts : Nat → Nat → List UInt8 → Option Nat
  | 0, v, _ => some v
  | _ + 1, _, [] => none
  | k + 1, v, c :: r => if 128 ≤ c.toNat ∧ c.toNat < 192 then conts k (v * 64 + c.toNat - 128) r else none
/-- a character's number may be -/
def may (least v : Nat) : Bool := decide (least ≤ v) && decide (v ≤ 1114111) && !(decide (55296 ≤ v) && decide (v ≤ 57343))
/-- how many bytes the first character has; none: there is no right one -/
def one : List UInt8 → Option Nat
  | [] => none
  | c :: r => match kind c.toNat with
    | none => none
    | some (n, v, least) => match conts (n - 1) v r with
      | none => none
      | some v' => if may least v' then some n else none
def utfF : Nat → List UInt8 → Bool
  | _, [] => true
  | 0, _ :: _ => false
  | f + 1, c :: r => match one (c :: r) with
    | none => false
    | some n => utfF f ((c :: r).drop n)
/-- P6.4 -/
def utf (l : List UInt8) : Bool := utfF l.length l

theorem kind_pos {c n v least : Nat} (h : kind c = some (n, v, least)) : 1 ≤ n ∧ n ≤ 4 ∧ v < 128 ∧ (1 < n → v < 32) := by
  unfold kind at h
  split at h
  · simp only [Option.some.injEq, Prod.mk.injEq] at h; omega
  · split at h
    · simp only [Option.some.injEq, Prod.mk.injEq] at h; omega
    · split at h
      · simp only [Option.some.injEq, Prod.mk.injEq] at h; omega
      · split at h
        · simp only [Option.some.injEq, Prod.mk.injEq] at h; omega
        · cases h
theorem conts_len : ∀ (k v : Nat) (r : List UInt8) (v' : Nat), conts k v r = some v' → k ≤ r.length
  | 0, _, _, _, _ => Nat.zero_le _
  | k + 1, _, [], _, h => by simp [conts] at h
  | k + 1, v, c :: r, v', h => by
    rw [conts] at h
    split at h
    · have := conts_len k _ r v' h
      simp; omega
    · cases h
theorem conts_append : ∀ (k v : Nat) (r b : List UInt8) (v' : Nat), conts k v r = some v' → conts k v (r ++ b) = some v'
  | 0, _, _, _, _, h => h
  | k + 1, _, [], _, _, h => by simp [conts] at h
  | k + 1, v, c :: r, b, v', h => by
    rw [conts] at h
    rw [List.cons_append, conts]
    split at h
    · rename_i hc
      rw [if_pos hc]
      exact conts_append k _ r b v' h
    · cases h
theorem one_len {l : List UInt8} {n : Nat} (h : one l = some n) : 1 ≤ n ∧ n ≤ l.length := by
  cases l with
  | nil => simp [one] at h
  | cons c r =>
    rw [one] at h
    cases hk : kind c.toNat with
    | none => rw [hk] at h; cases h
    | some x =>
      obtain ⟨m, v, least⟩ := x
      rw [hk] at h
      simp only at h
      have h1 := (kind_pos hk).1
      cases hc : conts (m - 1) v r with
      | none => rw [hc] at h; cases h
      | some v' =>
        rw [hc] at h
        simp only at h
        have := conts_len _ _ _ _ hc
        split at h
        · cases h; simp; omega
        · cases h
theorem one_append {l : List UInt8} {n : Nat} (b : List UInt8) (h : one l = some n) : one (l ++ b) = some n := by
  cases l with
  | nil => simp [one] at h
  | cons c r =>
    rw [List.cons_append, one]
    rw [one] at h
    cases hk : kind c.toNat with
    | none => rw [hk] at h; cases h
    | some x =>
      obtain ⟨m, v, least⟩ := x
      rw [hk] at h
      simp only at h ⊢
      cases hc : conts (m - 1) v r with
      | none => rw [hc] at h; cases h
      | some v' =>
        rw [hc] at h
        rw [conts_append _ _ _ b _ hc]
        exact h
theorem utfF_fuel : ∀ (n f : Nat) (l : List UInt8), l.length ≤ n → l.length ≤ f → utfF f l = utfF l.length l := by
  intro n
  induction n with
  | zero =>
    intro f l h _
    have : l = [] := List.eq_nil_of_length_eq_zero (by omega)
    subst this
    cases f <;> rfl
  | succ n ih =>
    intro f l h hf
    cases l with
    | nil => cases f <;> rfl
    | cons c r =>
      simp only [List.length_cons] at h hf ⊢
      cases f with
      | zero => omega
      | succ f =>
        rw [utfF, utfF]
        cases ho : one (c :: r) with
        | none => rfl
        | some m =>
          have hm := one_len ho
          simp only [List.length_cons] at hm
          simp only
          have hl : ((c :: r).drop m).length ≤ r.length := by rw [List.length_drop, List.length_cons]; omega
          rw [ih f _ (by omega) (by omega), ih r.length _ (by omega) hl]
theorem utf_nil : utf [] = true := rfl
theorem utf_bad {l : List UInt8} (h0 : l ≠ []) (h : one l = none) : utf l = false := by
  cases l with
  | nil => exact absurd rfl h0
  | cons c r => unfold utf; rw [List.length_cons, utfF, h]
theorem utf_step {l : List UInt8} {n : Nat} (h : one l = some n) : utf l = utf (l.drop n) := by
  cases l with
  | nil => simp [one] at h
  | cons c r =>
    have hm := one_len h
    simp only [List.length_cons] at hm
    unfold utf
    rw [List.length_cons, utfF, h]
    simp only
    exact utfF_fuel r.length _ _ (by rw [List.length_drop, List.length_cons]; omega) (by rw [List.length_drop, List.length_cons]; omega)
/-- P6.6 -/
theorem utf_append : ∀ (n : Nat) (a b : List UInt8), a.length ≤ n → utf a = true → utf (a ++ b) = utf b := by
  intro n
  induction n with
  | zero =>
    intro a b h _
    have : a = [] := List.eq_nil_of_length_eq_zero (by omega)
    subst this
    rfl
  | succ n ih =>
    intro a b h hu
    by_cases h0 : a = []
    · subst h0; rfl
    · cases ho : one a with
      | none => rw [utf_bad h0 ho] at hu; cases hu
      | some m =>
        have hm := one_len ho
        rw [utf_step ho] at hu
        rw [utf_step (one_append b ho), List.drop_append_of_le_length hm.2]
        exact ih _ b (by rw [List.length_drop]; omega) hu

/-- the bytes behind the first one are read up to the i-th -/
def Inner (l : List UInt8) (a n v0 i v : Nat) : Prop := conts (n - 1) v0 (l.drop (a + 1)) = conts (n - i) v (l.drop (a + i)) ∧ (i ≤ 1 → v < 128) ∧ (i ≤ 2 → v < 8192) ∧ (i ≤ 3 → v < 524288) ∧ v < 33554432
theorem in_start (l : List UInt8) (a n v0 : Nat) (h : v0 < 128) : Inner l a n v0 1 v0 := ⟨rfl, fun _ => h, fun _ => by omega, fun _ => by omega, by omega⟩
section
variable {l : List UInt8} {a n v0 i v : Nat}
theorem in_short (h : Inner l a n v0 i v) (hi : i < n) (hs : l.length ≤ a + i) : conts (n - 1) v0 (l.drop (a + 1)) = none := by
  rw [h.1, List.drop_eq_nil_of_le hs, show n - i = (n - i - 1) + 1 by omega]
  rfl
theorem in_bad (h : Inner l a n v0 i v) (hi : i < n) (hs : a + i < l.length) (hb : ¬ (128 ≤ l[a + i].toNat ∧ l[a + i].toNat < 192)) : conts (n - 1) v0 (l.drop (a + 1)) = none := by
  rw [h.1, List.drop_eq_getElem_cons hs, show n - i = (n - i - 1) + 1 by omega, conts, if_neg hb]
theorem in_next (h : Inner l a n v0 i v) (h0 : 1 ≤ i) (hi : i < n) (hn : n ≤ 4) (hs : a + i < l.length) (hb : 128 ≤ l[a + i].toNat ∧ l[a + i].toNat < 192) : Inner l a n v0 (i + 1) (v * 64 + l[a + i].toNat - 128) := by
  obtain ⟨h1, h2, h3, h4, h5⟩ := h
  refine ⟨?_, fun hc => ?_, fun hc => ?_, fun hc => ?_, ?_⟩
  · rw [h1, List.drop_eq_getElem_cons hs, show n - i = (n - (i + 1)) + 1 by omega, conts, if_pos hb]
    rfl
  · omega
  · have := h2 (by omega); omega
  · have := h3 (by omega); omega
  · have := h4 (by omega); omega
theorem in_end (h : Inner l a n v0 n v) : conts (n - 1) v0 (l.drop (a + 1)) = some v := by rw [h.1, Nat.sub_self]; rfl
end
theorem one_none {l : List UInt8} {a n v0 least : Nat} (ha : a < l.length) (hk : kind l[a].toNat = some (n, v0, least)) (h : conts (n - 1) v0 (l.drop (a + 1)) = none) : one (l.drop a) = none := by
  rw [List.drop_eq_getElem_cons ha, one, hk]
  simp only
  rw [h]
theorem one_may {l : List UInt8} {a n v0 v least : Nat} (ha : a < l.length) (hk : kind l[a].toNat = some (n, v0, least)) (h : conts (n - 1) v0 (l.drop (a + 1)) = some v) : one (l.drop a) = if may least v then some n else none := by
  rw [List.drop_eq_getElem_cons ha, one, hk]
  simp only
  rw [h]
theorem one_kind {l : List UInt8} {a : Nat} (ha : a < l.length) (hk : kind l[a].toNat = none) : one (l.drop a) = none := by
  rw [List.drop_eq_getElem_cons ha, one, hk]
end Go.Proofs.YtohgmkgclgoflaaDoor.U8

/- The walks of the document's own Put, Len, Zig, Zag, Get. -/
namespace Go.Proofs.YtohgmkgclgoflaaDoor
open Go.RowKit

/-- what is still to be put: xs stands, m is left -/
def Leb.Putting (n : Nat) (xs : List UInt8) (m : Nat) : Prop := xs.length ≤ 9 ∧ m < 2 * 128 ^ (9 - xs.length) ∧ Leb.put n = xs ++ Leb.putF (10 - xs.length) m

theorem Leb.putting_start {n : Nat} (h : n < 18446744073709551616) : Leb.Putting n [] n := by
  have e : 2 * 128 ^ 9 = 18446744073709551616 := by decide
  exact ⟨by simp, by simpa [e] using h, rfl⟩
theorem Leb.putting_lt {n : Nat} {xs : List UInt8} {m : Nat} (h : Leb.Putting n xs m) : m < 18446744073709551616 := by
  have e : 2 * 128 ^ 9 = 18446744073709551616 := by decide
  have h1 := Nat.pow_le_pow_right (show 0 < 128 by omega) (show 9 - xs.length ≤ 9 by omega)
  have := h.2.1
  omega
theorem Leb.putting_next {n : Nat} {xs : List UInt8} {m : Nat} (h : Leb.Putting n xs m) (hm : 127 < m) : Leb.Putting n (xs ++ [UInt8.ofNat (m % 128 + 128)]) (m / 128) := by
  obtain ⟨h1, h2, h3⟩ := h
  have h4 : xs.length ≤ 8 := by
    rcases Nat.lt_or_ge 8 xs.length with h5 | h5
    · have : 9 - xs.length = 0 := by omega
      rw [this] at h2
      simp at h2
      omega
    · exact h5
  refine ⟨by simp; omega, ?_, ?_⟩
  · have e : 9 - xs.length = (9 - (xs ++ [UInt8.ofNat (m % 128 + 128)]).length) + 1 := by simp; omega
    rw [e, Nat.pow_succ] at h2
    rw [Nat.div_lt_iff_lt_mul (by omega)]
    omega
  · have e : 10 - xs.length = (10 - (xs ++ [UInt8.ofNat (m % 128 + 128)]).length) + 1 := by simp; omega
    rw [h3, e, Leb.putF, if_neg (by omega), List.append_assoc]
    rfl
theorem Leb.putting_last {n : Nat} {xs : List UInt8} {m : Nat} (h : Leb.Putting n xs m) (hm : m ≤ 127) : xs ++ [UInt8.ofNat m] = Leb.put n := by
  obtain ⟨h1, h2, h3⟩ := h
  have e : 10 - xs.length = (9 - xs.length) + 1 := by omega
  rw [h3, e, Leb.putF, if_pos (by omega)]

end Go.Proofs.YtohgmkgclgoflaaDoor

/- The walk of the document's own Get. -/
namespace Go.Proofs.YtohgmkgclgoflaaDoor
open Go.RowKit

/-- what Get answers: the number, the place behind it, the error -/
def gotV (l : List UInt8) (a : Int) : Value := .tuple #[.int .u64 ((Leb.getAt l a).n : Nat), .int .i64 (Leb.nextAt l a), .int .i64 ((Leb.getAt l a).err : Nat)]

theorem gotV_out (l : List UInt8) (a : Int) (h : a < 0 ∨ (l.length : Int) ≤ a) : gotV l a = .tuple #[.int .u64 0, .int .i64 0, .int .i64 30] := by
  have e : Leb.getAt l a = ⟨30, 0, 0⟩ := by
    unfold Leb.getAt
    by_cases h0 : a < 0
    · rw [if_pos h0]
    · rw [if_neg h0, List.drop_eq_nil_of_le (by omega)]; rfl
  unfold gotV Leb.nextAt
  rw [e]; rfl
theorem gotV_bad (l : List UInt8) (a : Nat) (c : Nat) (hc : c ≠ 0) (h : Leb.get (l.drop a) = ⟨c, 0, 0⟩) : gotV l a = .tuple #[.int .u64 0, .int .i64 0, .int .i64 c] := by
  have e : Leb.getAt l a = ⟨c, 0, 0⟩ := by
    unfold Leb.getAt
    rw [if_neg (by omega)]
    exact h
  unfold gotV Leb.nextAt
  rw [e, if_neg hc]; rfl
theorem gotV_ok (l : List UInt8) (a n k : Nat) (h : Leb.get (l.drop a) = ⟨0, n, k⟩) : gotV l a = .tuple #[.int .u64 n, .int .i64 ((a : Int) + k), .int .i64 0] := by
  have e : Leb.getAt l a = ⟨0, n, k⟩ := by
    unfold Leb.getAt
    rw [if_neg (by omega)]
    exact h
  unfold gotV Leb.nextAt
  rw [e, if_pos rfl]; rfl

end Go.Proofs.YtohgmkgclgoflaaDoor

/- The document's Utf. -/
namespace Go.Proofs.YtohgmkgclgoflaaDoor
open Go.RowKit

theorem text_get (t : ByteArray) (i : Nat) (h : i < t.size) : t.data.toList[i]'(by simpa using h) = t[i] := by rw [Array.getElem_toList]; rfl

end Go.Proofs.YtohgmkgclgoflaaDoor

/- The document's own(v). -/
namespace Go.Proofs.YtohgmkgclgoflaaDoor
open Go.RowKit

end Go.Proofs.YtohgmkgclgoflaaDoor

/- The document's at(v, depth), Check. -/
namespace Go.Proofs.YtohgmkgclgoflaaDoor
open Go.RowKit

/-- a text is right -/
def utfT (t : ByteArray) : Bool := U8.utf t.data.toList
/-- P6.1, at a depth -/
def chk (d : Nat) (x : V) : Nat := V.check utfT d x
def chkL (d : Nat) (xs : List V) : Nat := V.checkL utfT d xs

theorem chk_mk (d : Nat) (k i : Int) (b : Nat) (t : ByteArray) (xs : List V) : chk d (.mk k i b t xs) = if 4 < d then 62 else if V.ownB k i b t xs.length = false then 60 else if 1024 < t.size then 2 else if 256 < xs.length then 3 else if k = 4 ∧ utfT t = false then 61 else chkL (d + 1) xs := by
  unfold chk chkL
  rw [V.check_mk]
  rfl
theorem chkL_all (d : Nat) : ∀ xs : List V, (∀ j (h : j < xs.length), chk d xs[j] = 0) → chkL d xs = 0
  | [], _ => by unfold chkL; rw [V.checkL_nil]
  | x :: r, h => by
    have h0 := h 0 (by simp)
    have hr := chkL_all d r (fun j hj => h (j + 1) (by simpa using hj))
    unfold chk at h0
    unfold chkL at hr ⊢
    simp only [List.getElem_cons_zero] at h0
    rw [V.checkL_cons, if_pos h0, hr]
theorem chkL_at (d : Nat) : ∀ (xs : List V) (j : Nat) (hj : j < xs.length), (∀ m (h : m < xs.length), m < j → chk d xs[m] = 0) → chk d xs[j] ≠ 0 → chkL d xs = chk d xs[j]
  | x :: r, 0, _, _, hn => by
    unfold chk at hn
    unfold chkL chk
    simp only [List.getElem_cons_zero] at hn ⊢
    rw [V.checkL_cons, if_neg hn]
  | x :: r, j + 1, hj, h, hn => by
    have h0 := h 0 (by simp) (by omega)
    have hr := chkL_at d r j (by simpa using hj) (fun m hm hmj => by have := h (m + 1) (by simpa using hm) (by omega); simpa using this) (by simpa using hn)
    unfold chk at h0
    unfold chkL at hr ⊢
    simp only [List.getElem_cons_zero] at h0
    rw [V.checkL_cons, if_pos h0, hr]
    rfl

end Go.Proofs.YtohgmkgclgoflaaDoor

/- Plain: being the same is being fixed to one value; fixing changes nothing that is checked (P6.5). -/
namespace Go.Proofs.YtohgmkgclgoflaaDoor

theorem fixB_idem (b : Nat) : fixB (fixB b) = fixB b := by
  unfold fixB
  by_cases h : nanB b = true
  · rw [if_pos h]
    kernel_rfl
  · rw [if_neg h, if_neg h]

theorem map_eq_of {xs : List V} {f g : V → V} (h : ∀ x ∈ xs, f x = g x) : xs.map f = xs.map g := List.map_congr_left h

theorem fix_idem : ∀ x : V, V.fix (V.fix x) = V.fix x := by
  intro x
  refine V.ind (P := fun x => V.fix (V.fix x) = V.fix x) ?_ x
  intro k i b t xs ih
  rw [V.fix_mk, V.fix_mk, fixB_idem, V.fixL_eq, V.fixL_eq, List.map_map]
  congr 1
  exact map_eq_of ih

theorem same_iff : ∀ x y : V, V.same x y = true ↔ V.fix x = V.fix y := by
  intro x
  refine V.ind (P := fun x => ∀ y, V.same x y = true ↔ V.fix x = V.fix y) ?_ x
  intro k i b t xs ih y
  have hL : ∀ (xs ys : List V), (∀ x ∈ xs, ∀ y, V.same x y = true ↔ V.fix x = V.fix y) → (V.sameL xs ys = true ↔ xs.map V.fix = ys.map V.fix) := by
    intro xs
    induction xs with
    | nil => intro ys _; cases ys <;> simp [V.sameL_nil, V.sameL_nc]
    | cons x r ihr =>
      intro ys hx
      cases ys with
      | nil => simp [V.sameL_cn]
      | cons y s =>
        simp only [V.sameL_cons, Bool.and_eq_true, List.map_cons, List.cons.injEq]
        rw [hx x (by simp) y, ihr s (fun z hz => hx z (by simp [hz]))]
  obtain ⟨k', i', b', t', ys⟩ := y
  rw [V.same_mk, V.fix_mk, V.fix_mk, V.fixL_eq, V.fixL_eq]
  simp only [Bool.and_eq_true, beq_iff_eq, decide_eq_true_eq, V.mk.injEq]
  rw [hL xs ys ih]
  constructor
  · rintro ⟨⟨⟨⟨h1, h2⟩, h3⟩, h4⟩, h5⟩; exact ⟨h1, h2, h4, h3, h5⟩
  · rintro ⟨h1, h2, h3, h4, h5⟩; exact ⟨⟨⟨⟨h1, h2⟩, h4⟩, h3⟩, h5⟩

theorem chk_fix : ∀ (x : V) (d : Nat), chk d (V.fix x) = chk d x := by
  intro x
  refine V.ind (P := fun x => ∀ d, chk d (V.fix x) = chk d x) ?_ x
  intro k i b t xs ih d
  have hL : ∀ (xs : List V), (∀ x ∈ xs, ∀ d, chk d (V.fix x) = chk d x) → chkL (d + 1) (V.fixL xs) = chkL (d + 1) xs := by
    intro xs
    induction xs with
    | nil => intro _; rfl
    | cons x r ihr =>
      intro hx
      have h1 := hx x (by simp) (d + 1)
      have h2 := ihr (fun z hz => hx z (by simp [hz]))
      unfold chkL at h2 ⊢
      unfold chk at h1
      rw [V.fixL_eq] at h2 ⊢
      rw [List.map_cons, V.checkL_cons, V.checkL_cons, h1, h2]
  have ho : V.ownB k i (fixB b) t xs.length = V.ownB k i b t xs.length := by unfold V.ownB; rw [fixB_idem]
  have hlen : (V.fixL xs).length = xs.length := by rw [V.fixL_eq, List.length_map]
  rw [V.fix_mk, chk_mk, chk_mk, hL xs ih, hlen, ho]

theorem same_fixed (x : V) : V.same (V.fix x) x = true := (same_iff _ _).2 (fix_idem x)
theorem same_self (x : V) : V.same x x = true := (same_iff _ _).2 rfl
theorem bool_of_iff {a b : Bool} (h : a = true ↔ b = true) : a = b := by cases a <;> cases b <;> simp_all
theorem same_swap (x y : V) : V.same y x = V.same x y := bool_of_iff (by rw [same_iff, same_iff]; exact ⟨Eq.symm, Eq.symm⟩)
theorem same_on {x y : V} (h : V.same x y = true) (z : V) : V.same y z = V.same x z := bool_of_iff (by rw [same_iff, same_iff, (same_iff x y).1 h])
theorem same_chk {x y : V} (h : V.same x y = true) (d : Nat) : chk d x = chk d y := by rw [← chk_fix x, ← chk_fix y, (same_iff x y).1 h]
theorem same_exact {x y : V} (h : V.same x y = true) : V.exact (V.fix x) (V.fix y) = true := (V.exact_iff _ _).2 ((same_iff x y).1 h)
theorem fix_exact (x : V) : V.exact (V.fix (V.fix x)) (V.fix x) = true := (V.exact_iff _ _).2 (fix_idem x)
end Go.Proofs.YtohgmkgclgoflaaDoor

/- Plain: schemas, their bytes and how they are read; what the document says of them. -/
namespace Go.Proofs.YtohgmkgclgoflaaDoor

/-- a value whose numbers fit -/
def V.wf (v : V) : Prop := match v with
  | .mk k i b t xs => (-9223372036854775808 ≤ k ∧ k ≤ 9223372036854775807) ∧ (-9223372036854775808 ≤ i ∧ i ≤ 9223372036854775807) ∧ b < 18446744073709551616 ∧ t.size ≤ 140737488351232 ∧ ∀ p ∈ xs.map V.wf, p
theorem V.wf_mk {k i : Int} {b : Nat} {t : ByteArray} {xs : List V} : V.wf (.mk k i b t xs) ↔ (-9223372036854775808 ≤ k ∧ k ≤ 9223372036854775807) ∧ (-9223372036854775808 ≤ i ∧ i ≤ 9223372036854775807) ∧ b < 18446744073709551616 ∧ t.size ≤ 140737488351232 ∧ ∀ x ∈ xs, V.wf x := by
  rw [V.wf]
  simp only [List.mem_map, forall_exists_index, and_imp, forall_apply_eq_imp_iff₂]
/-- a type whose numbers fit -/
def Ty.wf (v : Ty) : Prop := match v with
  | .mk k xs => (-9223372036854775808 ≤ k ∧ k ≤ 9223372036854775807) ∧ ∀ p ∈ xs.map Ty.wf, p
theorem Ty.wf_mk {k : Int} {xs : List Ty} : Ty.wf (.mk k xs) ↔ (-9223372036854775808 ≤ k ∧ k ≤ 9223372036854775807) ∧ ∀ x ∈ xs, Ty.wf x := by
  rw [Ty.wf]
  simp only [List.mem_map, forall_exists_index, and_imp, forall_apply_eq_imp_iff₂]

/-- the zero value -/
def V0 : V := .mk 0 0 0 ⟨#[]⟩ []
/-- a column -/
structure Col where
  name : ByteArray
  ty : Ty
  has : Bool
  dflt : V
def Col.wf (c : Col) : Prop := c.name.size ≤ 140737488351232 ∧ c.ty.wf ∧ c.dflt.wf
def Col.fix (c : Col) : Col := ⟨c.name, c.ty, c.has, V.fix c.dflt⟩

namespace Sch
/-- a sign that a name may have -/
def low (c : UInt8) : Bool := decide (97 ≤ c.toNat ∧ c.toNat ≤ 122)
def ch (c : UInt8) : Bool := low c || decide (48 ≤ c.toNat ∧ c.toNat ≤ 57) || decide (c.toNat = 95)
/-- P7.2 -/
def nameL (l : List UInt8) : Bool := decide (1 ≤ l.length ∧ l.length ≤ 16) && low (l.headD 0) && l.all ch
def name (t : ByteArray) : Bool := nameL t.data.toList

/-- what a type is of -/
def inner (t : Ty) : Ty := t.of.headD ⟨0, []⟩
/-- a value is of a type -/
def of (v : V) : Ty → Bool := match v with
  | .mk k _ _ _ xs => fun t => k == t.kind && (xs.map of).all (fun f => f (inner t))
theorem of_mk (k i : Int) (b : Nat) (s : ByteArray) (xs : List V) (t : Ty) : of (.mk k i b s xs) t = (k == t.kind && xs.all (fun x => of x (inner t))) := by
  rw [of]
  simp [List.all_map, Function.comp_def]
/-- P7.5 -/
def is (v : V) (t : Ty) : Bool := decide (Ty.check 1 t = 0) && decide (chk 1 v = 0) && of v t

/-- P7.3, of a column behind others -/
def colErr (l : List Col) (c : Col) : Nat :=
  if name c.name = false then 70 else if l.any (fun x => decide (x.name = c.name)) then 71 else if Ty.check 1 c.ty ≠ 0 then Ty.check 1 c.ty
  else if c.has = false then (if V.same c.dflt V0 then 0 else 80) else if chk 1 c.dflt ≠ 0 then chk 1 c.dflt else if is c.dflt c.ty then 0 else 80
def colsErr : List Col → List Col → Nat
  | _, [] => 0
  | l, c :: r => if colErr l c = 0 then colsErr (l ++ [c]) r else colErr l c

/-- a type's bytes -/
def tyB (t : Ty) : List UInt8 := match t with
  | .mk k xs => UInt8.ofNat k.toNat :: (if k = 6 ∨ k = 7 then (xs.map tyB).headD [] else [])
theorem tyB_mk (k : Int) (xs : List Ty) : tyB (.mk k xs) = UInt8.ofNat k.toNat :: (if k = 6 ∨ k = 7 then (xs.map tyB).headD [] else []) := by rw [tyB]
/-- so many bytes, the lowest first -/
def le : Nat → Nat → List UInt8
  | 0, _ => []
  | k + 1, n => UInt8.ofNat (n % 256) :: le k (n / 256)
def un : List UInt8 → Nat
  | [] => 0
  | c :: r => un r * 256 + c.toNat
/-- a value's bytes -/
def vB (v : V) : List UInt8 := match v with
  | .mk k i b t xs => (if k = 1 then [UInt8.ofNat i.toNat] else if k = 2 then Leb.put (Leb.zig i) else if k = 3 then le 8 (fixB b) else if k = 4 ∨ k = 5 then Leb.put t.size ++ t.data.toList
    else if k = 6 then [if 0 < xs.length then 1 else 0] else if k = 7 then Leb.put xs.length else []) ++ (if k = 1 ∨ k = 2 ∨ k = 3 ∨ k = 4 ∨ k = 5 then [] else (xs.map vB).flatten)
/-- a value's first bytes, its items not told -/
def vH (k i : Int) (b : Nat) (t : ByteArray) (n : Nat) : List UInt8 :=
  if k = 1 then [UInt8.ofNat i.toNat] else if k = 2 then Leb.put (Leb.zig i) else if k = 3 then le 8 (fixB b) else if k = 4 ∨ k = 5 then Leb.put t.size ++ t.data.toList else if k = 6 then [if 0 < n then 1 else 0] else if k = 7 then Leb.put n else []
theorem vB_mk (k i : Int) (b : Nat) (t : ByteArray) (xs : List V) : vB (.mk k i b t xs) = vH k i b t xs.length ++ (if k = 1 ∨ k = 2 ∨ k = 3 ∨ k = 4 ∨ k = 5 then [] else (xs.map vB).flatten) := by rw [vB, vH]
def cB (c : Col) : List UInt8 := Leb.put c.name.size ++ (c.name.data.toList ++ (tyB c.ty ++ (if c.has then 1 else 0) :: (if c.has then vB c.dflt else [])))
def bytes (s : List Col) : List UInt8 := Leb.put s.length ++ (s.map cB).flatten
/-- P7.3 -/
def err (s : List Col) : Nat := if s.length = 0 then 4 else if 16 < s.length then 3 else if colsErr [] s ≠ 0 then colsErr [] s else if 1024 < (bytes s).length then 2 else 0
/-- P7.4 -/
def colSame (c d : Col) : Bool := decide (c.name = d.name) && (c.has == d.has) && Ty.same c.ty d.ty && V.same c.dflt d.dflt
def same : List Col → List Col → Bool
  | [], [] => true
  | c :: r, d :: s => colSame c d && same r s
  | _, _ => false
/-- P7.8: the place, or how many there are -/
def find (n : ByteArray) : List Col → Nat → Option Nat
  | [], _ => none
  | c :: r, k => if c.name = n then some k else find n r (k + 1)

/-- what is read, and how many bytes it took -/
def bit : List UInt8 → Except Nat (Nat × Nat)
  | [] => .error 30
  | c :: _ => if 1 < c.toNat then .error 5 else .ok (c.toNat, 1)
def num (l : List UInt8) : Except Nat (Nat × Nat) := if (Leb.get l).err = 0 then .ok ((Leb.get l).n, (Leb.get l).k) else .error (Leb.get l).err
def text (most long : Nat) (l : List UInt8) : Except Nat (ByteArray × Nat) := match num l with
  | .error e => .error e
  | .ok (n, k) => if most < n then .error long else if l.length - k < n then .error 30 else .ok (⟨((l.drop k).take n).toArray⟩, k + n)
def float (l : List UInt8) : Except Nat (Nat × Nat) := if l.length < 8 then .error 30 else if fixB (un (l.take 8)) = un (l.take 8) then .ok (un (l.take 8), 8) else .error 5
def scalar (k : Int) (l : List UInt8) : Except Nat (V × Nat) :=
  if k = 1 then match bit l with
    | .error e => .error e
    | .ok (n, j) => .ok (.mk k n 0 ⟨#[]⟩ [], j)
  else if k = 2 then match num l with
    | .error e => .error e
    | .ok (n, j) => .ok (.mk k (Leb.zag n) 0 ⟨#[]⟩ [], j)
  else if k = 3 then match float l with
    | .error e => .error e
    | .ok (n, j) => .ok (.mk k 0 n ⟨#[]⟩ [], j)
  else match text 1024 2 l with
    | .error e => .error e
    | .ok (t, j) => if k = 4 ∧ utfT t = false then .error 61 else .ok (.mk k 0 0 t [], j)
def rdN (f : List UInt8 → Except Nat (V × Nat)) : Nat → List UInt8 → Except Nat (List V × Nat)
  | 0, _ => .ok ([], 0)
  | m + 1, l => match f l with
    | .error e => .error e
    | .ok (v, j) => match rdN f m (l.drop j) with
      | .error e => .error e
      | .ok (vs, j2) => .ok (v :: vs, j + j2)
/-- how many items come -/
def many (k : Int) (l : List UInt8) : Except Nat (Nat × Nat) := if k = 6 then bit l else match num l with
  | .error e => .error e
  | .ok (n, j) => if 256 < n then .error 3 else .ok (n, j)
def rdV (t : Ty) : List UInt8 → Except Nat (V × Nat) := match t with
  | .mk k xs => fun l => if k ≠ 6 ∧ k ≠ 7 then scalar k l else match many k l with
    | .error e => .error e
    | .ok (m, j) => match rdN ((xs.map rdV).headD (fun _ => .error 0)) m (l.drop j) with
      | .error e => .error e
      | .ok (vs, j2) => .ok (.mk k 0 0 ⟨#[]⟩ vs, j + j2)
theorem rdV_mk (k : Int) (xs : List Ty) (l : List UInt8) : rdV (.mk k xs) l = if k ≠ 6 ∧ k ≠ 7 then scalar k l else match many k l with
    | .error e => .error e
    | .ok (m, j) => match rdN ((xs.map rdV).headD (fun _ => .error 0)) m (l.drop j) with
      | .error e => .error e
      | .ok (vs, j2) => .ok (.mk k 0 0 ⟨#[]⟩ vs, j + j2) := by rw [rdV]
def rdT : Nat → List UInt8 → Except Nat (Ty × Nat)
  | 0, _ => .error 62
  | _ + 1, [] => .error 30
  | f + 1, c :: r => if c.toNat < 1 ∨ 7 < c.toNat then .error 60 else if c.toNat ≠ 6 ∧ c.toNat ≠ 7 then .ok (⟨(c.toNat : Int), []⟩, 1) else match rdT f r with
    | .error e => .error e
    | .ok (t, j) => .ok (⟨(c.toNat : Int), [t]⟩, j + 1)
def rdC (l : List Col) (b : List UInt8) : Except Nat (Col × Nat) := match num b with
  | .error e => .error e
  | .ok (n, _) => if n = 0 then .error 70 else match text 16 70 b with
    | .error e => .error e
    | .ok (s, j) => if name s = false then .error 70 else if l.any (fun x => decide (x.name = s)) then .error 71 else match rdT 4 (b.drop j) with
      | .error e => .error e
      | .ok (t, j2) => match bit (b.drop (j + j2)) with
        | .error e => .error e
        | .ok (h, j3) => if h = 0 then .ok (⟨s, t, false, V0⟩, j + j2 + j3) else match rdV t (b.drop (j + j2 + j3)) with
          | .error e => .error e
          | .ok (v, j4) => .ok (⟨s, t, true, v⟩, j + j2 + j3 + j4)
def rdCs : Nat → List Col → List UInt8 → Except Nat (List Col × Nat)
  | 0, l, _ => .ok (l, 0)
  | m + 1, l, b => match rdC l b with
    | .error e => .error e
    | .ok (c, j) => match rdCs m (l ++ [c]) (b.drop j) with
      | .error e => .error e
      | .ok (l2, j2) => .ok (l2, j + j2)
/-- P7.7 -/
def read (b : List UInt8) : Except Nat (List Col) := if 1024 < b.length then .error 2 else match num b with
  | .error e => .error e
  | .ok (n, k) => if n = 0 then .error 4 else if 16 < n then .error 3 else match rdCs n [] (b.drop k) with
    | .error e => .error e
    | .ok (l, j) => if k + j = b.length then .ok l else .error 5
end Sch
end Go.Proofs.YtohgmkgclgoflaaDoor
