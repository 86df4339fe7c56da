/- ScF, Sc, Sp, Rp, K14A, K14B: put together. -/
import Derived.Test.YtmgcfkpmknogaaaGreatDoorA1
import Derived.Test.YtmgcfkpmknogaaaGreatDoorB01
import Derived.Test.YtmgcfkpmknogaaaGreatDoorD1
import Derived.Test.YtmgcfkpmknogaaaGreatDoorB04
import Derived.Maps.OwnOps
import Derived.Maps.OwnSet
import Derived.Laws.Rows
import Derived.Carry

/- No reading ends with an error of 140 or more, nor with 50. -/
namespace Go.Proofs.YtmgcfkpmknogaaaGreatDoor
open Go.RowKit
namespace Sch

theorem getF_lt140 : ∀ (f : Nat) (first : Bool) (l : List UInt8), (Leb.getF f first l).err < 140 ∧ (Leb.getF f first l).err ≠ 50
  | 0, _, _ => by simp [Leb.getF]
  | _ + 1, _, [] => by simp [Leb.getF]
  | f + 1, first, c :: r => by
    rw [Leb.getF]
    split
    · have := getF_lt140 f false r
      dsimp only
      split
      · exact ⟨Nat.zero_lt_succ _, fun h => by cases h⟩
      · exact this
    · split
      · exact ⟨by decide, by decide⟩
      · exact ⟨Nat.zero_lt_succ _, fun h => by cases h⟩
theorem bit_lt140 {l : List UInt8} {e : Nat} (h : bit l = .error e) : e < 140 ∧ e ≠ 50 := by
  unfold bit at h
  split at h
  · cases h; decide
  · split at h
    · cases h; decide
    · cases h
theorem num_lt140 {l : List UInt8} {e : Nat} (h : num l = .error e) : e < 140 ∧ e ≠ 50 := by
  unfold num at h
  split at h
  · cases h
  · cases h; exact getF_lt140 _ _ _
theorem text_lt140 {most long : Nat} {l : List UInt8} {e : Nat} (hl : long < 140 ∧ long ≠ 50) (h : text most long l = .error e) : e < 140 ∧ e ≠ 50 := by
  unfold text at h
  split at h
  · next hn => cases h; exact num_lt140 hn
  · split at h
    · cases h; exact hl
    · split at h
      · cases h; decide
      · cases h
theorem float_lt140 {l : List UInt8} {e : Nat} (h : float l = .error e) : e < 140 ∧ e ≠ 50 := by
  unfold float at h
  split at h
  · cases h; decide
  · split at h
    · cases h
    · cases h; decide
theorem scalar_lt140 {k : Int} {l : List UInt8} {e : Nat} (h : scalar k l = .error e) : e < 140 ∧ e ≠ 50 := by
  unfold scalar at h
  split at h
  · split at h
    · next hn => cases h; exact bit_lt140 hn
    · cases h
  · split at h
    · split at h
      · next hn => cases h; exact num_lt140 hn
      · cases h
    · split at h
      · split at h
        · next hn => cases h; exact float_lt140 hn
        · cases h
      · split at h
        · next hn => cases h; exact text_lt140 (by decide) hn
        · split at h
          · cases h; decide
          · cases h
theorem many_lt140 {k : Int} {l : List UInt8} {e : Nat} (h : many k l = .error e) : e < 140 ∧ e ≠ 50 := by
  unfold many at h
  split at h
  · exact bit_lt140 h
  · split at h
    · next hn => cases h; exact num_lt140 hn
    · split at h
      · cases h; decide
      · cases h
theorem rdN_lt140 {f : List UInt8 → Except Nat (V × Nat)} (hf : ∀ l e, f l = .error e → e < 140 ∧ e ≠ 50) : ∀ (m : Nat) (l : List UInt8) (e : Nat), rdN f m l = .error e → e < 140 ∧ e ≠ 50
  | 0, l, e, h => by rw [rdN] at h; cases h
  | m + 1, l, e, h => by
    rw [rdN] at h
    split at h
    · next hn => cases h; exact hf _ _ hn
    · split at h
      · next hn => cases h; exact rdN_lt140 hf m _ _ hn
      · cases h
theorem rdV_lt140 : ∀ (t : Ty) (d : Nat) (l : List UInt8) (e : Nat), Ty.check d t = 0 → rdV t l = .error e → e < 140 ∧ e ≠ 50 := by
  intro t
  refine Ty.ind (P := fun t => ∀ (d : Nat) (l : List UInt8) (e : Nat), Ty.check d t = 0 → rdV t l = .error e → e < 140 ∧ e ≠ 50) ?_ t
  intro k xs ih d l e ht h
  obtain ⟨hd, hk, htt⟩ := ty_open ht
  rw [rdV_mk] at h
  rcases htt with ⟨h67, rfl⟩ | ⟨h67, x, rfl, hx⟩
  · rw [if_pos (by omega)] at h
    exact scalar_lt140 h
  · rw [if_neg (by omega)] at h
    split at h
    · next hn => cases h; exact many_lt140 hn
    · split at h
      · next hn => cases h; exact rdN_lt140 (f := rdV x) (fun l e h => ih x (by simp) (d + 1) l e hx h) _ _ _ hn
      · cases h
theorem rdT_lt140 : ∀ (f : Nat) (l : List UInt8) (e : Nat), rdT f l = .error e → e < 140 ∧ e ≠ 50
  | 0, l, e, h => by rw [rdT] at h; cases h; decide
  | f + 1, [], e, h => by rw [rdT] at h; cases h; decide
  | f + 1, c :: r, e, h => by
    rw [rdT] at h
    split at h
    · cases h; decide
    · split at h
      · cases h
      · split at h
        · next hn => cases h; exact rdT_lt140 f r _ hn
        · cases h
theorem rdC_lt140 {l : List Col} {b : List UInt8} {e : Nat} (h : rdC l b = .error e) : e < 140 ∧ e ≠ 50 := by
  rw [rdC] at h
  split at h
  · next hn => cases h; exact num_lt140 hn
  · split at h
    · cases h; decide
    · split at h
      · next hn => cases h; exact text_lt140 (by decide) hn
      · split at h
        · cases h; decide
        · split at h
          · cases h; decide
          · split at h
            · next hn => cases h; exact rdT_lt140 _ _ _ hn
            · next t j2 ht =>
              split at h
              · next hn => cases h; exact bit_lt140 hn
              · split at h
                · cases h
                · split at h
                  · next hn => cases h; exact rdV_lt140 t 1 _ _ (rdT_ok 4 _ t j2 (Nat.le_refl 4) ht).2.2.1 hn
                  · cases h
theorem rdCs_lt140 : ∀ (m : Nat) (l : List Col) (b : List UInt8) (e : Nat), rdCs m l b = .error e → e < 140 ∧ e ≠ 50
  | 0, l, b, e, h => by rw [rdCs] at h; cases h
  | m + 1, l, b, e, h => by
    rw [rdCs] at h
    split at h
    · next hn => cases h; exact rdC_lt140 hn
    · split at h
      · next hn => cases h; exact rdCs_lt140 m _ _ _ hn
      · cases h
theorem read_lt140 {b : List UInt8} {e : Nat} (h : read b = .error e) : e < 140 ∧ e ≠ 50 := by
  rw [read] at h
  split at h
  · cases h; decide
  · split at h
    · next hn => cases h; exact num_lt140 hn
    · split at h
      · cases h; decide
      · split at h
        · cases h; decide
        · split at h
          · next hn => cases h; exact rdCs_lt140 _ _ _ _ hn
          · split at h
            · cases h
            · cases h; decide
end Sch
theorem un_lt140 (s : List UInt8) : (Cob.un s).1 < 140 ∧ (Cob.un s).1 ≠ 50 := by
  unfold Cob.un
  split
  · decide
  · split
    · decide
    · split
      · decide
      · split <;> simp
theorem open_lt140 {l : List UInt8} {e : Nat} (h : Fr.open_ l = .error e) : e < 140 ∧ e ≠ 50 := by
  unfold Fr.open_ at h
  split at h
  · injection h with h; omega
  · split at h
    · injection h with h; rw [← h]; exact un_lt140 l
    · split at h
      · injection h with h; omega
      · split at h
        · cases h
        · injection h with h; omega
theorem dec_lt50 {l : List UInt8} {e : Nat} (h : Fr.dec l = .error e) : e < 140 ∧ e ≠ 50 := by
  unfold Fr.dec at h
  split at h
  · next e' he => injection h with h; rw [← h]; exact open_lt140 he
  · next b hb =>
    unfold Fr.rdF at h
    have hnb : ∀ {lim : Nat} {l : List UInt8} {e : Nat}, Fr.nb lim l = .error e → e = 5 := by
      intro lim l e h
      unfold Fr.nb at h
      split at h
      · injection h with h; omega
      · split at h
        · cases h
        · injection h with h; omega
    have hnbs : ∀ (ls : List Nat) {l : List UInt8} {e : Nat}, Fr.nbs ls l = .error e → e = 5 := by
      intro ls
      induction ls with
      | nil => intro l e h; rw [Fr.nbs] at h; cases h
      | cons a ls ih =>
        intro l e h
        rw [Fr.nbs] at h
        split at h
        · next e' he => injection h with h; rw [← h]; exact hnb he
        · split at h
          · next e' he => injection h with h; rw [← h]; exact ih he
          · cases h
    have hrdE : ∀ (m : Nat) {l : List UInt8} {e : Nat}, Fr.rdE m l = .error e → e = 5 := by
      intro m
      induction m with
      | zero => intro l e h; rw [Fr.rdE] at h; cases h
      | succ m ih =>
        intro l e h
        rw [Fr.rdE] at h
        split at h
        · next e' he => injection h with h; rw [← h]; exact hnbs _ he
        · split at h
          · next e' he => injection h with h; rw [← h]; exact ih he
          · cases h
    split at h
    · unfold Fr.rdS at h
      split at h
      · next e' he => injection h with h; rw [← h, hnb he]; decide
      · split at h
        · next e' he => injection h with h; rw [← h]; exact Sch.read_lt140 he
        · cases h
    · split at h
      · unfold Fr.rdD at h
        split at h
        · next e' he => injection h with h; rw [← h, hnbs _ he]; decide
        · split at h
          · injection h with h; omega
          · cases h
      · split at h
        · unfold Fr.rdI at h
          split at h
          · next e' he => injection h with h; rw [← h, hnbs _ he]; decide
          · split at h
            · next e' he => injection h with h; rw [← h, hrdE _ he]; decide
            · split at h
              · cases h
              · injection h with h; omega
        · injection h with h; omega
theorem dec_ne50 {l : List UInt8} {e : Nat} (h : Fr.dec l = .error e) : e ≠ 50 := (dec_lt50 h).2
end Go.Proofs.YtmgcfkpmknogaaaGreatDoor

/- Plain: frames one behind the other, and what they came to (P14.1 to P14.6). -/
namespace Go.Proofs.YtmgcfkpmknogaaaGreatDoor

/-- what is known of a schema's number -/
structure Kn where
  cols : List Col
  place : Int
/-- what the frames so far came to -/
structure Wk where
  sch : Int → Option Kn
  number : Int
  since : Int
  frames : Int
  rows : Int
  ents : List Ent
  closed : Bool

namespace Sc
def new : Wk := ⟨fun _ => none, -1, 0, 0, 0, [], false⟩
def schAt (s : Wk) (n : Int) : List Col := match s.sch n with
  | some k => k.cols
  | none => []
def placeAt (s : Wk) (n : Int) : Int := match s.sch n with
  | some k => k.place
  | none => 0
/-- P14.2: whether a frame that may be follows -/
def follows (s : Wk) (f : Fr) (p : Int) : Bool :=
  if f.kind = 1 then (if f.number = s.number then Sch.same f.cols (schAt s s.number) else decide (f.number = s.number + 1))
  else if f.kind = 2 then decide (f.number = s.number ∧ f.seq = s.frames ∧ f.first = s.rows)
  else Idx.same f.index ⟨p, s.frames, s.rows, s.ents⟩
def learn (s : Wk) (n : Int) (c : List Col) (p : Int) : Wk := { s with sch := fun m => if m = n then some ⟨c.map Col.fix, p⟩ else s.sch m, number := n, since := 0 }
def enter (s : Wk) (f : Fr) (p : Int) : Wk := if f.seq % 4 = 0 ∧ s.ents.length < 64 then { s with ents := s.ents ++ [⟨p, f.first, placeAt s s.number⟩] } else s
def count (s : Wk) (f : Fr) : Wk := { s with frames := s.frames + 1, rows := s.rows + f.rows, since := s.since + 1 }
def take (s : Wk) (f : Fr) (p : Int) : Wk :=
  if f.kind = 1 then { learn s f.number f.cols p with closed := false }
  else if f.kind = 2 then { count (enter s f p) f with closed := false }
  else { s with closed := true }
/-- P14.2: whether a frame is taken -/
def may (s : Wk) (f : Fr) (p : Int) : Bool := Fr.within Fr.S p && decide (Fr.err f = 0) && follows s f p
def next (s : Wk) (f : Fr) (p : Int) : Wk := if may s f p = true then take s f p else s

/-- what holds of every walk -/
structure Good (s : Wk) : Prop where
  number : -1 ≤ s.number ∧ s.number < 2147483648
  since : 0 ≤ s.since ∧ s.since ≤ s.frames
  frames : s.frames ≤ 70368744177664
  rows : 0 ≤ s.rows ∧ s.rows ≤ 1099511627840
  ents : s.ents.length * 24 ≤ 140737488351232
  entsOk : ∀ e ∈ s.ents, Fr.i64 e.at_ ∧ Fr.i64 e.row ∧ Fr.i64 e.sch
  known : ∀ n k, s.sch n = some k → (0 ≤ n ∧ n ≤ s.number) ∧ Sch.err k.cols = 0 ∧ (∀ c ∈ k.cols, c.fix = c ∧ c.wf) ∧ (0 ≤ k.place ∧ k.place < 1099511627776)
  has : 0 ≤ s.number → ∃ k, s.sch s.number = some k

theorem good_new : Good new := ⟨by decide, by decide, by decide, by decide, by decide, fun e he => (by cases he), fun n k h => (by cases h), fun h => (by simp [new] at h)⟩
theorem place_ok {s : Wk} (h : Good s) (n : Int) : 0 ≤ placeAt s n ∧ placeAt s n < 1099511627776 := by
  unfold placeAt
  split
  · next k hk => exact (h.known n k hk).2.2.2
  · omega
theorem i64_of {n : Int} (h : 0 ≤ n ∧ n < 1099511627776) : Fr.i64 n := ⟨by omega, by omega⟩
theorem fix_wf {s : List Col} (he : Sch.err s = 0) (hw : ∀ c ∈ s, c.wf) : Sch.err (s.map Col.fix) = 0 ∧ ∀ c ∈ s.map Col.fix, c.fix = c ∧ c.wf := by
  have := Sch.read_ok (Sch.read_put he hw)
  exact ⟨this.1, this.2.2⟩
theorem good_learn {s : Wk} (h : Good s) (n : Int) (c : List Col) (p : Int) (hn : 0 ≤ n ∧ n < 2147483648) (hm : s.number ≤ n) (he : Sch.err c = 0) (hw : ∀ x ∈ c, x.wf) (hp : 0 ≤ p ∧ p < 1099511627776) : Good (learn s n c p) := by
  refine ⟨⟨by show -1 ≤ n; omega, hn.2⟩, ⟨Int.le_refl _, ?_⟩, h.frames, h.rows, h.ents, h.entsOk, fun m k hk => ?_, fun _ => ⟨⟨c.map Col.fix, p⟩, by show (if n = n then _ else _) = _; rw [if_pos rfl]⟩⟩
  · have := h.since
    show 0 ≤ s.frames
    omega
  · have hk' : (if m = n then some ⟨c.map Col.fix, p⟩ else s.sch m) = some k := hk
    by_cases hmn : m = n
    · rw [if_pos hmn] at hk'
      injection hk' with hk'
      rw [← hk', hmn]
      obtain ⟨h1, h2⟩ := fix_wf he hw
      exact ⟨⟨hn.1, Int.le_refl _⟩, h1, h2, hp⟩
    · rw [if_neg hmn] at hk'
      obtain ⟨h1, h2⟩ := h.known m k hk'
      exact ⟨⟨h1.1, Int.le_trans h1.2 hm⟩, h2⟩
theorem good_enter {s : Wk} (h : Good s) (f : Fr) (p : Int) (hp : 0 ≤ p ∧ p < 1099511627776) (hf : 0 ≤ f.first ∧ f.first < 1099511627776) : Good (enter s f p) := by
  unfold enter
  split
  · next hc =>
    refine ⟨h.number, h.since, h.frames, h.rows, ?_, ?_, h.known, h.has⟩
    · simp only [List.length_append, List.length_singleton]
      omega
    · intro e he
      rcases List.mem_append.1 he with he | he
      · exact h.entsOk e he
      · rw [List.mem_singleton] at he
        subst he
        exact ⟨i64_of hp, i64_of hf, i64_of (place_ok h s.number)⟩
  · exact h
theorem enter_same (s : Wk) (f : Fr) (p : Int) : (enter s f p).sch = s.sch ∧ (enter s f p).number = s.number ∧ (enter s f p).since = s.since ∧ (enter s f p).frames = s.frames ∧ (enter s f p).rows = s.rows ∧ (enter s f p).closed = s.closed := by
  unfold enter
  split <;> exact ⟨rfl, rfl, rfl, rfl, rfl, rfl⟩
theorem good_count {s : Wk} (h : Good s) (f : Fr) (h1 : s.frames < 1099511627776) (h2 : s.rows < 1099511627776) (hr : 1 ≤ f.rows ∧ f.rows ≤ 64) : Good (count s f) := by
  have hs := h.since
  have hr' := h.rows
  exact ⟨h.number, ⟨by show 0 ≤ s.since + 1; omega, by show s.since + 1 ≤ s.frames + 1; omega⟩, by show s.frames + 1 ≤ _; omega, ⟨by show 0 ≤ s.rows + f.rows; omega, by show s.rows + f.rows ≤ _; omega⟩, h.ents, h.entsOk, h.known, h.has⟩
theorem good_closed {s : Wk} (h : Good s) (c : Bool) : Good { s with closed := c } := ⟨h.number, h.since, h.frames, h.rows, h.ents, h.entsOk, h.known, h.has⟩
theorem err_parts {f : Fr} (h : Fr.err f = 0) : (f.kind = 1 → (0 ≤ f.number ∧ f.number < 2147483648) ∧ Sch.err f.cols = 0) ∧ (f.kind = 2 → (0 ≤ f.number ∧ f.number < 2147483648) ∧ (0 ≤ f.seq ∧ f.seq < 1099511627776) ∧ (0 ≤ f.first ∧ f.first < 1099511627776) ∧ (1 ≤ f.rows ∧ f.rows ≤ 64)) ∧ (f.kind = 1 ∨ f.kind = 2 ∨ f.kind = 3) := by
  have h0 := (Fr.err_open h).1
  refine ⟨fun hk => ?_, fun hk => ?_, Fr.head_fields h0⟩
  · unfold Fr.err0 at h0
    rw [if_pos hk] at h0
    split at h0
    · omega
    · next hn =>
      have := Fr.within_iff.1 (by simpa using hn)
      exact ⟨this, h0⟩
  · unfold Fr.err0 at h0
    rw [if_neg (by omega), if_pos hk] at h0
    split at h0
    · omega
    · next hn =>
      simp only [Bool.not_eq_false, Bool.and_eq_true, decide_eq_true_iff] at hn
      exact ⟨Fr.within_iff.1 hn.1.1.1, Fr.within_iff.1 hn.1.1.2, Fr.within_iff.1 hn.1.2, hn.2⟩
theorem may_parts {s : Wk} {f : Fr} {p : Int} (h : may s f p = true) : (0 ≤ p ∧ p < 1099511627776) ∧ Fr.err f = 0 ∧ follows s f p = true := by
  unfold may at h
  simp only [Bool.and_eq_true, decide_eq_true_iff] at h
  exact ⟨Fr.within_iff.1 h.1.1, h.1.2, h.2⟩
/-- a frame that follows: what its fields are -/
theorem follows_data {s : Wk} {f : Fr} {p : Int} (hk : f.kind = 2) (h : follows s f p = true) : f.number = s.number ∧ f.seq = s.frames ∧ f.first = s.rows := by
  unfold follows at h
  rw [if_neg (by omega), if_pos hk] at h
  exact of_decide_eq_true h
theorem follows_sch {s : Wk} {f : Fr} {p : Int} (hk : f.kind = 1) (h : follows s f p = true) : s.number ≤ f.number := by
  unfold follows at h
  rw [if_pos hk] at h
  split at h
  · omega
  · have := of_decide_eq_true h
    omega
theorem good_take {s : Wk} (h : Good s) {f : Fr} {p : Int} (hw : f.wf) (hm : may s f p = true) : Good (take s f p) := by
  obtain ⟨hp, he, hf⟩ := may_parts hm
  obtain ⟨e1, e2, -⟩ := err_parts he
  unfold take
  split
  · next hk =>
    obtain ⟨a1, a2⟩ := e1 hk
    exact good_closed (good_learn h _ _ _ a1 (follows_sch hk hf) a2 hw.2.2.1 hp) false
  · split
    · next hk =>
      obtain ⟨a1, a2, a3, a4⟩ := e2 hk
      obtain ⟨b1, b2, b3⟩ := follows_data hk hf
      have hE := good_enter h f p hp a3
      obtain ⟨c1, c2, c3, c4, c5, c6⟩ := enter_same s f p
      exact good_closed (good_count hE f (by rw [c4, ← b2]; omega) (by rw [c5, ← b3]; omega) a4) false
    · exact good_closed h true
/-- the run ahead of the next zero: m bytes were read in all -/
def runT (m : Nat) (t : List UInt8) : Except Nat (List UInt8) :=
  if t.findIdx (· == 0) < t.length then (if t.findIdx (· == 0) = 0 then .error 4 else .ok (t.take (t.findIdx (· == 0))))
  else if m = 2202 then .error 2 else .error 142
/-- the run that the first byte and the next zero enclose -/
def runOf (r : List UInt8) : Except Nat (List UInt8) := if r.headD 0 ≠ 0 then .error 141 else runT r.length r.tail
theorem runOf_cons (c : UInt8) (t : List UInt8) : runOf (c :: t) = if c ≠ 0 then .error 141 else runT (t.length + 1) t := rfl
/-- how many bytes are read at a place -/
def reads (b : List UInt8) (p : Int) : Nat := if p < 0 ∨ (b.length : Int) ≤ p then 0 else ((b.drop p.toNat).take 2202).length
/-- P14.1 -/
def at_ (b : List UInt8) (p : Int) : Except Nat (Fr × Nat) :=
  if p < 0 ∨ (b.length : Int) < p then .error 7 else if p = (b.length : Int) then .error 140
  else match runOf ((b.drop p.toNat).take 2202) with
  | .error e => .error e
  | .ok r => match Fr.dec r with
    | .error e => .error e
    | .ok f => .ok (f, p.toNat + r.length + 2)

theorem findIdx_split : ∀ (t : List UInt8), t.findIdx (· == 0) < t.length → ∃ r, t = t.take (t.findIdx (· == 0)) ++ 0 :: r
  | [], h => by simp at h
  | c :: t, h => by
    rw [List.findIdx_cons] at h ⊢
    by_cases hc : (c == 0) = true
    · rw [hc]
      have : c = 0 := by simpa using hc
      exact ⟨t, by simp [this]⟩
    · have hc' : (c == 0) = false := by simpa using hc
      rw [hc'] at h ⊢
      simp only [cond_false, List.length_cons] at h
      obtain ⟨r, hr⟩ := findIdx_split t (by omega)
      refine ⟨r, ?_⟩
      simp only [cond_false, List.take_succ_cons, List.cons_append]
      rw [← hr]
theorem findIdx_pre : ∀ (a r : List UInt8), (∀ c ∈ a, c ≠ 0) → (a ++ 0 :: r).findIdx (· == 0) = a.length
  | [], r, _ => by simp [List.findIdx_cons]
  | c :: a, r, h => by
    rw [List.cons_append, List.findIdx_cons]
    have hc : (c == 0) = false := by simpa using h c (by simp)
    rw [hc, findIdx_pre a r (fun x hx => h x (by simp [hx]))]
    simp
theorem findIdx_before : ∀ (t : List UInt8), ∀ c ∈ t.take (t.findIdx (· == 0)), c ≠ 0
  | [], c, hc => by simp at hc
  | d :: t, c, hc => by
    rw [List.findIdx_cons] at hc
    by_cases hd : (d == 0) = true
    · rw [hd] at hc
      simp at hc
    · have hd' : (d == 0) = false := by simpa using hd
      rw [hd'] at hc
      simp only [cond_false, List.take_succ_cons, List.mem_cons] at hc
      rcases hc with rfl | hc
      · simpa using hd
      · exact findIdx_before t c hc
theorem runOf_ok {l r : List UInt8} (hl : l ≠ []) (h : runOf l = .ok r) : ∃ z, l = 0 :: (r ++ 0 :: z) ∧ r ≠ [] ∧ ∀ c ∈ r, c ≠ 0 := by
  obtain ⟨c, t, rfl⟩ : ∃ c t, l = c :: t := by
    cases l with
    | nil => exact absurd rfl hl
    | cons c t => exact ⟨c, t, rfl⟩
  rw [runOf_cons] at h
  split at h
  · cases h
  · next hc =>
    have hc0 : c = 0 := by simpa using hc
    subst hc0
    unfold runT at h
    split at h
    · next hlt =>
      split at h
      · cases h
      · next h0 =>
        injection h with h
        obtain ⟨z, hz⟩ := findIdx_split t hlt
        rw [h] at hz
        refine ⟨z, by rw [← hz], fun hr => ?_, fun x hx => findIdx_before t x (by rw [h]; exact hx)⟩
        rw [hr] at h
        have := congrArg List.length h
        simp only [List.length_take, List.length_nil] at this
        omega
    · split at h <;> cases h
theorem runOf_mk {r z : List UInt8} (hr : r ≠ []) (h : ∀ c ∈ r, c ≠ 0) : runOf (0 :: (r ++ 0 :: z)) = .ok r := by
  have e := findIdx_pre r z h
  have hl : 0 < r.length := List.length_pos_iff.2 hr
  rw [runOf_cons, if_neg (by simp)]
  unfold runT
  simp only [e]
  rw [if_pos (by simp), if_neg (by omega)]
  simp
/-- what is told stands there: its fences, its run -/
theorem at_ok {b : List UInt8} {p : Int} {f : Fr} {n : Nat} (h : at_ b p = .ok (f, n)) : 0 ≤ p ∧ p < (b.length : Int) ∧ Fr.err f = 0 ∧ f.wf ∧ n = p.toNat + (Fr.run f).length + 2 ∧ n ≤ b.length ∧ (b.drop p.toNat).take ((Fr.run f).length + 2) = 0 :: (Fr.run f ++ [0]) := by
  unfold at_ at h
  split at h
  · cases h
  · next h1 =>
    split at h
    · cases h
    · next h2 =>
      split at h
      · cases h
      · next r hr =>
        split at h
        · cases h
        · next g hg =>
          injection h with h
          injection h with h3 h4
          subst h3
          obtain ⟨e1, e2, e3, e4, e5⟩ := Fr.dec_ok hg
          have hlen : p.toNat < b.length := by omega
          have hne : (b.drop p.toNat).take 2202 ≠ [] := by
            intro hc
            have := congrArg List.length hc
            simp only [List.length_take, List.length_drop, List.length_nil] at this
            omega
          obtain ⟨z, hz, -, -⟩ := runOf_ok hne hr
          have hl := congrArg List.length hz
          simp only [List.length_take, List.length_drop, List.length_cons, List.length_append] at hl
          refine ⟨by omega, by omega, e1, e4, by rw [e2]; omega, by omega, ?_⟩
          have ht := congrArg (List.take (r.length + 2)) hz
          rw [List.take_take, Nat.min_eq_left (by omega)] at ht
          rw [e2, ht, List.take_succ_cons, List.take_append, List.take_of_length_le (by omega)]
          simp
/-- a file that is cut behind a frame: that frame is told as it was -/
theorem at_take {b : List UInt8} {p : Int} {f : Fr} {n m : Nat} (h : at_ b p = .ok (f, n)) (hm : n ≤ m) (hb : m ≤ b.length) : at_ (b.take m) p = .ok (f, n) := by
  obtain ⟨h1, h2, h3, h4, h5, h6, h7⟩ := at_ok h
  have h22 := (Fr.err_open h3).2
  have h6' := Fr.run_ge (f := f)
  have hx : ((b.take m).drop p.toNat).take 2202 = 0 :: (Fr.run f ++ 0 :: ((((b.take m).drop p.toNat).take 2202).drop ((Fr.run f).length + 2))) := by
    have e := List.take_append_drop ((Fr.run f).length + 2) (((b.take m).drop p.toNat).take 2202)
    have e2 : (((b.take m).drop p.toNat).take 2202).take ((Fr.run f).length + 2) = 0 :: (Fr.run f ++ [0]) := by
      rw [List.take_take, Nat.min_eq_left (by omega), List.drop_take, List.take_take, Nat.min_eq_left (by omega), h7]
    rw [e2] at e
    simpa using e.symm
  have hd : Fr.dec (Fr.run f) = .ok f := by
    unfold at_ at h
    rw [if_neg (by omega), if_neg (by omega)] at h
    split at h
    · cases h
    · next r hr =>
      split at h
      · cases h
      · next g hg =>
        injection h with h
        injection h with h8 h9
        subst h8
        rw [(Fr.dec_ok hg).2.1]
        exact hg
  unfold at_
  have hl : (b.take m).length = m := by rw [List.length_take]; omega
  rw [hl, if_neg (by omega), if_neg (by omega), hx, runOf_mk (fun hc => by rw [hc] at h6'; simp at h6') (Fr.run_nz f)]
  simp only [hd]
  rw [h5]

/-- where a walk of a file stands: the place, what the frames came to, how many bytes were read -/
structure Pos where
  at_ : Nat
  wk : Wk
  read : Nat
def begin_ : Pos := ⟨0, new, 0⟩
/-- one frame more, or why there is none -/
def step (b : List UInt8) (x : Pos) : Except Nat Pos := match Sc.at_ b x.at_ with
  | .error e => .error e
  | .ok (f, n) => if may x.wk f x.at_ = true then .ok ⟨n, take x.wk f x.at_, x.read + reads b x.at_⟩ else .error 143
/-- so many -/
def goes (b : List UInt8) : Nat → Option Pos
  | 0 => some begin_
  | k + 1 => match goes b k with
    | none => none
    | some x => match step b x with
      | .error _ => none
      | .ok y => some y
theorem step_ok {b : List UInt8} {x y : Pos} (h : step b x = .ok y) : ∃ f, Sc.at_ b x.at_ = .ok (f, y.at_) ∧ may x.wk f x.at_ = true ∧ y.wk = take x.wk f x.at_ ∧ y.read = x.read + reads b x.at_ := by
  unfold step at h
  split at h
  · cases h
  · next f n hf =>
    split at h
    · next hm =>
      injection h with h
      subst h
      exact ⟨f, hf, hm, rfl, rfl⟩
    · cases h
theorem goes_succ {b : List UInt8} {k : Nat} {x y : Pos} (h : goes b k = some x) (hs : step b x = .ok y) : goes b (k + 1) = some y := by
  rw [goes, h]
  simp only [hs]
theorem goes_pred {b : List UInt8} {k : Nat} {y : Pos} (h : goes b (k + 1) = some y) : ∃ x, goes b k = some x ∧ step b x = .ok y := by
  rw [goes] at h
  split at h
  · cases h
  · next x hx =>
    split at h
    · cases h
    · next z hz =>
      injection h with h
      subst h
      exact ⟨x, hx, hz⟩
theorem reads_le (b : List UInt8) (p : Int) : reads b p ≤ 2202 := by
  unfold reads
  split
  · omega
  · simp; omega
/-- what holds at each -/
theorem goes_good {b : List UInt8} : ∀ {k : Nat} {x : Pos}, goes b k = some x → Good x.wk ∧ x.at_ ≤ b.length ∧ 8 * k ≤ x.at_ ∧ x.read ≤ k * 2202
  | 0, x, h => by
    injection h with h
    subst h
    exact ⟨good_new, Nat.zero_le _, Nat.le_refl _, Nat.le_refl _⟩
  | k + 1, y, h => by
    obtain ⟨x, hx, hs⟩ := goes_pred h
    obtain ⟨g1, g2, g3, g4⟩ := goes_good hx
    obtain ⟨f, h1, h2, h3, h4⟩ := step_ok hs
    obtain ⟨a1, a2, a3, a4, a5, a6, a7⟩ := at_ok h1
    have h6 := Fr.run_ge (f := f)
    have hr := reads_le b x.at_
    rw [h3, h4]
    refine ⟨good_take g1 a4 h2, a6, ?_, ?_⟩
    · rw [a5]
      omega
    · omega
/-- a file that is cut behind a frame is walked as far -/
theorem goes_take {b : List UInt8} {m : Nat} (hb : m ≤ b.length) : ∀ {k : Nat} {x : Pos}, goes b k = some x → x.at_ ≤ m → ∃ r, goes (b.take m) k = some ⟨x.at_, x.wk, r⟩
  | 0, x, h, _ => by
    injection h with h
    subst h
    exact ⟨0, rfl⟩
  | k + 1, y, h, hm => by
    obtain ⟨x, hx, hs⟩ := goes_pred h
    obtain ⟨f, h1, h2, h3, h4⟩ := step_ok hs
    obtain ⟨a1, a2, a3, a4, a5, a6, a7⟩ := at_ok h1
    have hlt : x.at_ ≤ m := by
      rw [a5] at hm
      omega
    obtain ⟨r, hr⟩ := goes_take hb hx hlt
    refine ⟨r + reads (b.take m) x.at_, goes_succ hr ?_⟩
    unfold step
    simp only [at_take h1 hm hb]
    rw [if_pos h2, h3]
/-- two walks of one file end at one place -/
theorem goes_once {b : List UInt8} : ∀ {j k : Nat} {x y : Pos} {e : Nat}, goes b j = some x → step b x = .error e → goes b k = some y → k ≤ j := by
  intro j k x y e hj he hk
  rcases Nat.lt_or_ge j k with h | h
  · exfalso
    have h0 : goes b (j + 1) = none := by
      rw [goes, hj]
      simp only [he]
    have : ∀ d, goes b (j + 1 + d) = none := by
      intro d
      induction d with
      | zero => exact h0
      | succ d ih =>
        show goes b (j + 1 + d + 1) = none
        rw [goes, ih]
    have h2 := this (k - (j + 1))
    rw [show j + 1 + (k - (j + 1)) = k by omega, hk] at h2
    cases h2
  · exact h
theorem goes_uniq {b : List UInt8} {j k : Nat} {x y : Pos} {e g : Nat} (hj : goes b j = some x) (he : step b x = .error e) (hk : goes b k = some y) (hg : step b y = .error g) : j = k ∧ x = y ∧ e = g := by
  have h1 := goes_once hj he hk
  have h2 := goes_once hk hg hj
  have h3 : j = k := by omega
  subst h3
  rw [hj] at hk
  injection hk with hk
  subst hk
  rw [he] at hg
  injection hg with hg
  exact ⟨rfl, rfl, hg⟩
/-- at the end of a file that is cut behind a frame -/
theorem step_end {b : List UInt8} {x : Pos} (h : x.at_ = b.length) : step b x = .error 140 := by
  unfold step at_
  rw [if_neg (by omega), if_pos (by omega)]
end Sc
end Go.Proofs.YtmgcfkpmknogaaaGreatDoor

/- Plain: a stream of bytes and its runs, byte by byte. -/
namespace Go.Proofs.YtmgcfkpmknogaaaGreatDoor

abbrev Run := Nat × List UInt8
/-- what a stream came to: how many bytes, where the last fence stands, the runs, what came behind the last fence -/
structure Sp where
  n : Nat
  last : Option Nat
  out : List Run
  tail : List UInt8
namespace Sp
def start : Sp := ⟨0, none, [], []⟩
/-- the fence whose run may still close -/
def op (d : Sp) : Option Nat := if d.tail.length ≤ 2200 then d.last else none
def held (d : Sp) : List UInt8 := match d.op with | some _ => d.tail | none => []
/-- the run that a byte closes -/
def told (d : Sp) (c : UInt8) : List Run := if c = 0 then (match d.op with | some k => if d.tail = [] then [] else [(k, d.tail)] | none => []) else []
def step (d : Sp) (c : UInt8) : Sp := if c = 0 then ⟨d.n + 1, some d.n, d.out ++ d.told c, []⟩ else ⟨d.n + 1, d.last, d.out, d.tail ++ [c]⟩
def run (d : Sp) (l : List UInt8) : Sp := l.foldl step d
def of (l : List UInt8) : Sp := run start l

theorem step_out (d : Sp) (c : UInt8) : (d.step c).out = d.out ++ d.told c := by
  unfold step
  split
  · rfl
  · rename_i h
    simp [told, h]
theorem step_n (d : Sp) (c : UInt8) : (d.step c).n = d.n + 1 := by unfold step; split <;> rfl
theorem run_nil (d : Sp) : run d [] = d := rfl
theorem run_cons (d : Sp) (c : UInt8) (l : List UInt8) : run d (c :: l) = run (d.step c) l := rfl
theorem run_snoc (d : Sp) (a : List UInt8) (c : UInt8) : run d (a ++ [c]) = (run d a).step c := by simp [run, List.foldl_append]
theorem run_n (l : List UInt8) : ∀ d : Sp, (run d l).n = d.n + l.length := by
  induction l with
  | nil => intro d; rfl
  | cons c l ih =>
    intro d
    rw [run_cons, ih, step_n, List.length_cons]
    omega
/-- runs are told one behind the other -/
theorem run_out (l : List UInt8) : ∀ d : Sp, ∃ rs, (run d l).out = d.out ++ rs := by
  induction l with
  | nil => intro d; exact ⟨[], by simp [run_nil]⟩
  | cons c l ih =>
    intro d
    obtain ⟨rs, h⟩ := ih (d.step c)
    exact ⟨d.told c ++ rs, by rw [run_cons, h, step_out, List.append_assoc]⟩
/-- the runs that end in some bytes -/
def tolds (d : Sp) (l : List UInt8) : List Run := (run d l).out.drop d.out.length
theorem tolds_out (d : Sp) (l : List UInt8) : (run d l).out = d.out ++ d.tolds l := by
  obtain ⟨rs, h⟩ := run_out l d
  unfold tolds
  rw [h, List.drop_left]
theorem tolds_nil (d : Sp) : d.tolds [] = [] := by simp [tolds, run_nil]
theorem tolds_snoc (d : Sp) (l : List UInt8) (c : UInt8) : d.tolds (l ++ [c]) = d.tolds l ++ (run d l).told c := by
  have h1 := tolds_out d (l ++ [c])
  rw [run_snoc, step_out, tolds_out, List.append_assoc] at h1
  exact (List.append_cancel_left h1).symm
/-- what all states keep -/
structure Ok (d : Sp) : Prop where
  tail0 : d.last = none → d.out = []
  lastn : ∀ k, d.last = some k → k + 1 + d.tail.length = d.n
  none0 : d.last = none → d.tail.length = d.n
theorem held_le (d : Sp) : d.held.length ≤ 2200 := by
  unfold held op
  by_cases h : d.tail.length ≤ 2200
  · rw [if_pos h]
    cases d.last <;> simp [h]
  · rw [if_neg h]
    simp
theorem held_op {d : Sp} {k : Nat} (hk : d.op = some k) : d.held = d.tail := by simp [held, hk]
theorem held_none {d : Sp} (hk : d.op = none) : d.held = [] := by simp [held, hk]
/-- what a fence leaves -/
theorem step_fence (d : Sp) : d.step 0 = ⟨d.n + 1, some d.n, d.out ++ d.told 0, []⟩ := by simp [step]
theorem fence_op (d : Sp) : (d.step 0).op = some d.n := by simp [step, op]
theorem fence_held (d : Sp) : (d.step 0).held = [] := by rw [held_op (fence_op d), step_fence]
theorem told_some {d : Sp} {k : Nat} (hk : d.op = some k) : d.told 0 = if d.held = [] then [] else [(k, d.held)] := by simp [told, hk, held_op hk]
theorem told_none {d : Sp} (hk : d.op = none) (c : UInt8) : d.told c = [] := by simp [told, hk]
theorem told_else {d : Sp} {c : UInt8} (hc : c ≠ 0) : d.told c = [] := by simp [told, hc]
/-- what another byte leaves -/
theorem step_op_none {d : Sp} (hk : d.op = none) {c : UInt8} (hc : c ≠ 0) : (d.step c).op = none := by
  unfold op at hk ⊢
  simp only [step, if_neg hc, List.length_append, List.length_singleton]
  by_cases h : d.tail.length ≤ 2200
  · rw [if_pos h] at hk
    rw [hk]
    split <;> rfl
  · rw [if_neg (by omega)]
theorem step_op_full {d : Sp} {k : Nat} (hk : d.op = some k) {c : UInt8} (hc : c ≠ 0) (hf : d.held.length = 2200) : (d.step c).op = none := by
  rw [held_op hk] at hf
  unfold op
  simp only [step, if_neg hc, List.length_append, List.length_singleton]
  rw [if_neg (by omega)]
theorem step_op_some {d : Sp} {k : Nat} (hk : d.op = some k) {c : UInt8} (hc : c ≠ 0) (hf : d.held.length ≠ 2200) : (d.step c).op = some k ∧ (d.step c).held = d.held ++ [c] := by
  have hl := held_le d
  have h1 := held_op hk
  rw [h1] at hf hl
  have h2 : (d.step c).op = some k := by
    have hk' := hk
    unfold op at hk' ⊢
    rw [if_pos hl] at hk'
    simp only [step, if_neg hc, List.length_append, List.length_singleton]
    rw [if_pos (by omega)]
    exact hk'
  refine ⟨h2, ?_⟩
  rw [held_op h2, h1]
  simp [step, hc]
/-- every run has bytes -/
theorem told_pos {d : Sp} {c : UInt8} : ∀ r ∈ d.told c, r.2 ≠ [] ∧ r.2.length ≤ 2200 := by
  intro r hr
  unfold told at hr
  split at hr
  · cases hk : d.op with
    | none => rw [hk] at hr; simp at hr
    | some k =>
      rw [hk] at hr
      have := held_le d
      rw [held_op hk] at this
      by_cases ht : d.tail = []
      · simp [ht] at hr
      · simp [ht] at hr
        subst hr
        exact ⟨ht, this⟩
  · simp at hr
theorem told_len (d : Sp) (c : UInt8) : (d.told c).length ≤ 1 := by
  unfold told
  split
  · cases d.op with
    | none => simp
    | some k => simp only []; split <;> simp
  · simp
theorem tolds_len (d : Sp) (l : List UInt8) : (d.tolds l).length ≤ l.length := by
  have : ∀ l : List UInt8, ∀ d : Sp, (run d l).out.length ≤ d.out.length + l.length := by
    intro l
    induction l with
    | nil => intro d; simp [run_nil]
    | cons c l ih =>
      intro d
      have h1 := ih (d.step c)
      have h2 := told_len d c
      rw [run_cons]
      rw [step_out, List.length_append] at h1
      rw [List.length_cons]
      omega
  have h := this l d
  unfold tolds
  rw [List.length_drop]
  omega
theorem out_len (l : List UInt8) : (of l).out.length ≤ l.length := by
  have := tolds_len start l
  have h2 := tolds_out start l
  simp [start] at h2
  unfold of
  rw [show (start.run l).out = _ from h2]
  exact this
end Sp
end Go.Proofs.YtmgcfkpmknogaaaGreatDoor

/- Plain: what of a file is to be kept (P15.1 to P15.3). -/
namespace Go.Proofs.YtmgcfkpmknogaaaGreatDoor
namespace Rp
/-- the place behind the last of the first k frames that is no schema frame -/
def kept (b : List UInt8) : Nat → Nat
  | 0 => 0
  | k + 1 => match Sc.goes b k with
    | none => kept b k
    | some x => match Sc.at_ b x.at_ with
      | .error _ => kept b k
      | .ok (f, n) => if f.kind = 1 then kept b k else n
/-- the kind of the last of the first k frames -/
def kind (b : List UInt8) : Nat → Int
  | 0 => 0
  | k + 1 => match Sc.goes b k with
    | none => 0
    | some x => match Sc.at_ b x.at_ with
      | .error _ => 0
      | .ok (f, _) => f.kind
theorem kept_succ {b : List UInt8} {k : Nat} {x : Sc.Pos} {f : Fr} {n : Nat} (h : Sc.goes b k = some x) (ha : Sc.at_ b x.at_ = .ok (f, n)) : kept b (k + 1) = if f.kind = 1 then kept b k else n := by
  rw [kept, h]
  simp only [ha]
theorem kind_succ {b : List UInt8} {k : Nat} {x : Sc.Pos} {f : Fr} {n : Nat} (h : Sc.goes b k = some x) (ha : Sc.at_ b x.at_ = .ok (f, n)) : kind b (k + 1) = f.kind := by
  rw [kind, h]
  simp only [ha]
/-- one frame behind the other -/
theorem goes_lt {b : List UInt8} {j : Nat} {x y : Sc.Pos} (hx : Sc.goes b j = some x) (hy : Sc.goes b (j + 1) = some y) : ∃ f, Sc.at_ b x.at_ = .ok (f, y.at_) ∧ x.at_ < y.at_ := by
  obtain ⟨z, hz, hs⟩ := Sc.goes_pred hy
  rw [hx] at hz
  injection hz with hz
  subst hz
  obtain ⟨f, h1, -⟩ := Sc.step_ok hs
  obtain ⟨a1, a2, a3, a4, a5, a6, a7⟩ := Sc.at_ok h1
  exact ⟨f, h1, by rw [a5]; omega⟩
theorem goes_mono {b : List UInt8} {j : Nat} {x : Sc.Pos} (hx : Sc.goes b j = some x) : ∀ (d : Nat) {y : Sc.Pos}, Sc.goes b (j + d) = some y → x.at_ + d ≤ y.at_
  | 0, y, hy => by
    rw [Nat.add_zero, hx] at hy
    injection hy with hy
    subst hy
    exact Nat.le_refl _
  | d + 1, y, hy => by
    obtain ⟨z, hz, hs⟩ := Sc.goes_pred (k := j + d) hy
    have h1 := goes_mono hx d hz
    obtain ⟨f, -, h2⟩ := goes_lt hz hy
    omega
theorem goes_le {b : List UInt8} {j k : Nat} {x y : Sc.Pos} (hx : Sc.goes b j = some x) (hy : Sc.goes b k = some y) (h : j ≤ k) : x.at_ + (k - j) ≤ y.at_ := goes_mono hx (k - j) (by rw [show j + (k - j) = k by omega]; exact hy)
theorem goes_before {b : List UInt8} {j : Nat} : ∀ (d : Nat) {y : Sc.Pos}, Sc.goes b (j + d) = some y → ∃ x, Sc.goes b j = some x
  | 0, y, h => ⟨y, h⟩
  | d + 1, y, h => by
    obtain ⟨z, hz, -⟩ := Sc.goes_pred (k := j + d) h
    exact goes_before d hz
theorem goes_pre {b : List UInt8} {j k : Nat} {y : Sc.Pos} (h : Sc.goes b k = some y) (hj : j ≤ k) : ∃ x, Sc.goes b j = some x := goes_before (k - j) (by rw [show j + (k - j) = k by omega]; exact h)
theorem kept_le {b : List UInt8} : ∀ {k : Nat} {x : Sc.Pos}, Sc.goes b k = some x → kept b k ≤ x.at_
  | 0, _, _ => Nat.zero_le _
  | k + 1, x, h => by
    obtain ⟨y, hy, hs⟩ := Sc.goes_pred h
    obtain ⟨f, h1, h2⟩ := goes_lt hy h
    rw [kept_succ hy h1]
    split
    · have := kept_le hy
      omega
    · exact Nat.le_refl _
/-- what is kept ends behind a frame -/
theorem kept_goes {b : List UInt8} : ∀ {k : Nat} {x : Sc.Pos}, Sc.goes b k = some x → ∃ m y, m ≤ k ∧ Sc.goes b m = some y ∧ y.at_ = kept b k ∧ kept b m = kept b k
  | 0, x, h => ⟨0, x, Nat.le_refl _, h, by injection h with h; subst h; rfl, rfl⟩
  | k + 1, x, h => by
    obtain ⟨y, hy, hs⟩ := Sc.goes_pred h
    obtain ⟨f, h1, h2⟩ := goes_lt hy h
    have e := kept_succ hy h1
    by_cases hk : f.kind = 1
    · rw [if_pos hk] at e
      obtain ⟨m, z, hm, hz, e1, e2⟩ := kept_goes hy
      exact ⟨m, z, by omega, hz, by rw [e1, e], by rw [e2, e]⟩
    · rw [if_neg hk] at e
      exact ⟨k + 1, x, Nat.le_refl _, h, e.symm, rfl⟩
theorem kept_kind {b : List UInt8} : ∀ {k : Nat} {x : Sc.Pos}, Sc.goes b k = some x → kept b k = x.at_ → kind b k ≠ 1
  | 0, _, _, _ => by simp [kind]
  | k + 1, x, h, he => by
    obtain ⟨y, hy, hs⟩ := Sc.goes_pred h
    obtain ⟨f, h1, h2⟩ := goes_lt hy h
    rw [kind_succ hy h1]
    intro hc
    rw [kept_succ hy h1, if_pos hc] at he
    have := kept_le hy
    omega
/-- of a file that is cut -/
theorem kept_take {b : List UInt8} {m : Nat} (hb : m ≤ b.length) : ∀ {k : Nat} {x : Sc.Pos}, Sc.goes b k = some x → x.at_ ≤ m → kept (b.take m) k = kept b k
  | 0, _, _, _ => rfl
  | k + 1, x, h, hm => by
    obtain ⟨y, hy, hs⟩ := Sc.goes_pred h
    obtain ⟨f, h1, h2⟩ := goes_lt hy h
    have hlt : y.at_ ≤ m := by omega
    obtain ⟨r, hr⟩ := Sc.goes_take hb hy hlt
    rw [kept_succ hy h1, kept_succ hr (Sc.at_take h1 hm hb), kept_take hb hy hlt]
/-- every walk ends -/
theorem ends (b : List UInt8) : ∃ j X er, Sc.goes b j = some X ∧ Sc.step b X = .error er := by
  have key : ∀ n j X, Sc.goes b j = some X → b.length - X.at_ ≤ n → ∃ j X er, Sc.goes b j = some X ∧ Sc.step b X = .error er := by
    intro n
    induction n with
    | zero =>
      intro j X h hn
      have := (Sc.goes_good h).2.1
      exact ⟨j, X, 140, h, Sc.step_end (by omega)⟩
    | succ n ih =>
      intro j X h hn
      cases hs : Sc.step b X with
      | error er => exact ⟨j, X, er, h, hs⟩
      | ok Y =>
        have hY := Sc.goes_succ h hs
        obtain ⟨f, -, h2⟩ := goes_lt h hY
        exact ih (j + 1) Y hY (by omega)
  exact key _ 0 Sc.begin_ rfl (Nat.le_refl _)

/-- is a run a frame? -/
def isF (r : List UInt8) : Bool := match Fr.dec r with
  | .ok _ => true
  | .error _ => false
/-- is one of the runs from a place on a frame? -/
def bad (b : List UInt8) (p : Nat) : Bool := (Sp.of (b.drop p)).out.any fun r => isF r.2
/-- P15.1 of a file whose walk ends at a place, for er, behind j frames -/
def look (b : List UInt8) (j p er : Nat) : Except Nat Nat := if er ≠ 140 ∧ bad b p = true then .error 150 else .ok (kept b j)

theorem run_small : ∀ (l : List UInt8) (d : Sp), (∀ r ∈ d.out, r.2.length ≤ 2200) → ∀ r ∈ (d.run l).out, r.2.length ≤ 2200
  | [], _, h => h
  | c :: l, d, h => by
    rw [Sp.run_cons]
    refine run_small l _ fun r hr => ?_
    rw [Sp.step_out] at hr
    rcases List.mem_append.1 hr with hr | hr
    · exact h r hr
    · exact (Sp.told_pos r hr).2
theorem of_small (l : List UInt8) : ∀ r ∈ (Sp.of l).out, r.2.length ≤ 2200 := run_small l _ fun r hr => by cases hr
set_option maxRecDepth 100000 in
theorem step_ne50 {b : List UInt8} {x : Sc.Pos} {e : Nat} (h : Sc.step b x = .error e) : e ≠ 50 := by
  unfold Sc.step at h
  split at h
  · next e' he =>
    injection h with h
    subst h
    unfold Sc.at_ at he
    split at he
    · injection he with he; omega
    · split at he
      · injection he with he; omega
      · split at he
        · next e2 he2 =>
          injection he with he
          subst he
          unfold Sc.runOf at he2
          split at he2
          · injection he2 with he2; omega
          · unfold Sc.runT at he2
            split at he2
            · split at he2
              · injection he2 with he2; omega
              · cases he2
            · split at he2 <;> injection he2 with he2 <;> omega
        · split at he
          · next e3 he3 =>
            injection he with he
            subst he
            exact dec_ne50 he3
          · cases he
  · split at h
    · cases h
    · have h2 : e = 143 := (Except.error.inj h).symm
      omega
/-- P15.2: how many bytes went, the error, the file -/
def do_ (s : Dv.St) (r : Except Nat Nat) : Nat × Nat × Dv.St := match r with
  | .error c => (0, c, s)
  | .ok K => if s.b.length = K then (0, 0, s) else if (Dv.cut s K).1 = 0 then (s.b.length - K, 0, (Dv.cut s K).2) else (0, (Dv.cut s K).1, (Dv.cut s K).2)
theorem run_nz : ∀ (u : List UInt8) (d : Sp), (∀ c ∈ u, c ≠ 0) → (d.run u).out = d.out
  | [], _, _ => rfl
  | c :: u, d, h => by
    rw [Sp.run_cons, run_nz u _ (fun x hx => h x (by simp [hx])), Sp.step_out, Sp.told_else (h c (by simp)), List.append_nil]
theorem of_torn {u : List UInt8} (h : ∀ c ∈ u, c ≠ 0) : (Sp.of (0 :: u)).out = [] := by
  unfold Sp.of
  rw [Sp.run_cons, run_nz u _ h]
  rfl
theorem findIdx_none : ∀ (t : List UInt8), (∀ c ∈ t, c ≠ 0) → t.findIdx (· == 0) = t.length
  | [], _ => rfl
  | c :: t, h => by
    rw [List.findIdx_cons]
    have hc : (c == 0) = false := by simpa using h c (by simp)
    rw [hc, findIdx_none t (fun x hx => h x (by simp [hx]))]
    simp
/-- the last frame ahead of a place -/
theorem ahead {b : List UInt8} {n : Nat} : ∀ {k : Nat} {y : Sc.Pos}, Sc.goes b k = some y → n < y.at_ → ∃ j x z, j < k ∧ Sc.goes b j = some x ∧ x.at_ ≤ n ∧ Sc.goes b (j + 1) = some z ∧ n < z.at_
  | 0, y, h, hn => by
    injection h with h
    subst h
    exact absurd hn (Nat.not_lt_zero _)
  | k + 1, y, h, hn => by
    obtain ⟨x, hx, hs⟩ := Sc.goes_pred h
    by_cases hle : x.at_ ≤ n
    · exact ⟨k, x, y, Nat.lt_succ_self _, hx, hle, h, hn⟩
    · obtain ⟨j, a, z, h1, h2⟩ := ahead (n := n) hx (by omega)
      exact ⟨j, a, z, by omega, h2⟩
/-- the first bytes of a file, up to within a frame: nothing is damaged there -/
theorem first {b : List UInt8} {n j z : Nat} {x : Sc.Pos} {f : Fr} (hn : n ≤ b.length) (hx : Sc.goes b j = some x) (hxn : x.at_ ≤ n) (h1 : Sc.at_ b x.at_ = .ok (f, z)) (hnz : n < z) :
    ∃ r er, Sc.goes (b.take n) j = some ⟨x.at_, x.wk, r⟩ ∧ Sc.step (b.take n) ⟨x.at_, x.wk, r⟩ = .error er ∧ look (b.take n) j x.at_ er = .ok (kept b j) := by
  obtain ⟨r, hr⟩ := Sc.goes_take hn hx hxn
  have hk := kept_take hn hx hxn
  have hl : (b.take n).length = n := by rw [List.length_take]; omega
  by_cases he : x.at_ = n
  · refine ⟨r, 140, hr, Sc.step_end (by rw [hl]; exact he), ?_⟩
    unfold look
    rw [if_neg (fun hc => hc.1 rfl), hk]
  · obtain ⟨a1, a2, a3, a4, a5, a6, a7⟩ := Sc.at_ok h1
    have h22 := (Fr.err_open a3).2
    have a5' : z = x.at_ + (Fr.run f).length + 2 := by simpa using a5
    have a7' : (b.drop x.at_).take ((Fr.run f).length + 2) = 0 :: (Fr.run f ++ [0]) := by simpa using a7
    obtain ⟨d, hd⟩ : ∃ d, n = x.at_ + 1 + d := ⟨n - x.at_ - 1, by omega⟩
    have ht : (b.take n).drop x.at_ = 0 :: (Fr.run f).take d := by
      rw [List.drop_take, hd, show x.at_ + 1 + d - x.at_ = d + 1 by omega]
      have e2 := congrArg (List.take (d + 1)) a7'
      rw [List.take_take, Nat.min_eq_left (by omega), List.take_succ_cons, List.take_append_of_le_length (by omega)] at e2
      exact e2
    have hnz0 : ∀ c ∈ (Fr.run f).take d, c ≠ 0 := fun c hc => Fr.run_nz f c (List.mem_of_mem_take hc)
    refine ⟨r, 142, hr, ?_, ?_⟩
    · unfold Sc.step Sc.at_
      rw [if_neg (by simp only [hl]; omega), if_neg (by simp only [hl]; omega)]
      have e3 : (((b.take n).drop ((x.at_ : Nat) : Int).toNat).take 2202) = 0 :: (Fr.run f).take d := by
        rw [Int.toNat_natCast, ht, List.take_of_length_le (by simp only [List.length_cons, List.length_take]; omega)]
      have e4 : Sc.runOf (((b.take n).drop ((x.at_ : Nat) : Int).toNat).take 2202) = .error 142 := by
        rw [e3, Sc.runOf_cons, if_neg (by simp)]
        unfold Sc.runT
        rw [findIdx_none _ hnz0, if_neg (by omega), if_neg (by simp only [List.length_take]; omega)]
      simp only [e4]
    · unfold look bad
      rw [ht, of_torn hnz0, if_neg (fun hc => by simp at hc), hk]
/-- behind a repair: the file is whole, and all of it is to be kept -/
theorem done {b : List UInt8} {j : Nat} {X : Sc.Pos} (h : Sc.goes b j = some X) : ∃ m y r, m ≤ j ∧ Sc.goes b m = some y ∧ y.at_ = kept b j ∧ kept b j ≤ b.length ∧ Sc.goes (b.take (kept b j)) m = some ⟨kept b j, y.wk, r⟩ ∧ Sc.step (b.take (kept b j)) ⟨kept b j, y.wk, r⟩ = .error 140 ∧ kept (b.take (kept b j)) m = kept b j ∧ kind (b.take (kept b j)) m ≠ 1 := by
  obtain ⟨m, y, hm, hy, e1, e2⟩ := kept_goes h
  have hle : kept b j ≤ b.length := by
    have := (Sc.goes_good hy).2.1
    omega
  obtain ⟨r, hr⟩ := Sc.goes_take hle hy (by omega)
  have hk := kept_take hle hy (by omega)
  rw [e1] at hr
  have hl : (b.take (kept b j)).length = kept b j := by rw [List.length_take]; omega
  exact ⟨m, y, r, hm, hy, e1, hle, hr, Sc.step_end hl.symm, by rw [hk, e2], kept_kind hr (by rw [hk, e2])⟩
end Rp
end Go.Proofs.YtmgcfkpmknogaaaGreatDoor

/- The landed walk: how it lies in memory, its map of schemas. -/
namespace Go.Proofs.YtmgcfkpmknogaaaGreatDoor
open Go.RowKit Go.Maps

/-! ### a map from numbers to whatever values -/
theorem lawI14 : Keyed Tryz.prog 2 := int_keyed Tryz.underlying2
def zeroK : Value := .agg #[.slice none 0 0, .int .i64 0]
theorem zeroKn (w : World) : (zeroValue 141).run Tryz.prog w = .ok zeroK w := by kernel_rfl
def heldE (v : Value) : Option (DataW Value × List MemPlace) := some (.held v, [])
def keyI (n : Int) : Lit := .int .i64 n
theorem keyI_inj {a b : Int} (h : keyI a = keyI b) : a = b := by
  unfold keyI at h
  injection h
theorem keyI_of {n : Int} (h : Fr.i64 n) : keyOf Tryz.prog 2 (.int .i64 n) = some (keyI n) := keyOf_int_mk Tryz.underlying2 (by
  show (decide _ && decide _) = true
  rw [Bool.and_eq_true]
  exact ⟨decide_eq_true h.1, decide_eq_true h.2⟩)
/-- block M is a map that holds g -/
structure KMap (w : World) (M n : Nat) (g : Int → Option Value) : Prop where
  out : ∃ D : DataW Value, w.ownsMap Tryz.prog 2 heldE M n D ∧ ∀ m, Maps.has D (keyI m) = (g m).isSome ∧ D.atKey (keyI m) (.held zeroK) = .held ((g m).getD zeroK)
section
variable {w w' : World} {M n : Nat} {g : Int → Option Value}
theorem kmap_made (w : World) : KMap (w.alloc (.map #[] 0)) w.heap.size 0 (fun _ => none) := ⟨.map [], World.ownsMap_made _ _ _ _, fun _ => ⟨rfl, rfl⟩⟩
theorem KMap.lt (h : KMap w M n g) : M < w.heap.size := by
  obtain ⟨D, h1, _⟩ := h.out
  exact h1.lt
theorem KMap.keep (h : KMap w M n g) (hb : w'.heap[M]? = w.heap[M]?) : KMap w' M n g := by
  obtain ⟨D, ⟨es, clock, h1, h2⟩, h3⟩ := h.out
  exact ⟨D, ⟨es, clock, hb.trans h1, h2⟩, h3⟩
theorem KMap.obj (h : KMap w M n g) : ∃ es clock, w.heap[M]? = some (.map es clock) := by
  obtain ⟨D, ⟨es, clock, h1, h2⟩, h3⟩ := h.out
  exact ⟨es, clock, h1⟩
set_option maxRecDepth 100000 in
theorem KMap.look (h : KMap w M n g) {m : Int} (hm : Fr.i64 m) : (Instr.lookup 111 (.map (some M)) (.int .i64 m) false).run Tryz.prog w = .ok ((g m).getD zeroK) w := by
  obtain ⟨D, h1, h2⟩ := h.out
  obtain ⟨v, ps, hr, hv⟩ := h1.lookup lawI14 Tryz.underlying111 (zeroKn w) (zd := .held zeroK) (zp := []) rfl (keyI_of hm)
  rw [(h2 m).2] at hv
  unfold heldE at hv
  injection hv with hv
  injection hv with hv _
  injection hv with hv
  rw [hr, hv]
set_option maxRecDepth 100000 in
theorem KMap.put (h : KMap w M n g) {m : Int} (hm : Fr.i64 m) (hn : n < 1000000000) (v : Value) : ∃ w', (Instr.mapUpdate 111 (.map (some M)) (.int .i64 m) v).run Tryz.prog w = .ok () w' ∧ KMap w' M (n + 1) (fun k => if k = m then some v else g k) ∧ Aside (fun k => k = M) w w' ∧ w'.heap.size = w.heap.size := by
  obtain ⟨D, h1, h2⟩ := h.out
  obtain ⟨w', hr, ho, hg⟩ := h1.store lawI14 Tryz.underlying111 (by unfold maxLen; omega) (keyI_of hm) (val := v) (d := .held v) (ps := []) rfl
  refine ⟨w', hr, ⟨_, ho, fun k => ?_⟩, ?_, ?_⟩
  · by_cases hk : k = m
    · subst hk
      rw [if_pos rfl, has_put_same h1.isMap (by trivial), atKey_put_same h1.isMap (by trivial)]
      exact ⟨rfl, rfl⟩
    · rw [if_neg hk, has_put_other (fun e => hk (keyI_inj e)), atKey_put_other (fun e => hk (keyI_inj e))]
      exact h2 k
  · have hg2 := hg.grown
    exact ⟨hg2.os, hg2.tape, hg2.output, hg2.size, fun k hk hf => hg2.block k hk (fun hc => hf (by injection hc))⟩
  · obtain ⟨es, clock, es', clock', _, e⟩ := hg
    rw [e]
    simp [Go.ChangeMaps.setBlock]
end

/-! ### the walk -/
def wCells (M : Nat) (s : Wk) (v : Value) : Array Value := #[.map (some M), .int .i64 s.number, .int .i64 s.since, .int .i64 s.frames, .int .i64 s.rows, v, .bool s.closed]
/-- columns lie so, whatever changes in the blocks of F, and behind all -/
def Calm (F : Nat → Prop) (w : World) (p : Option Addr) (s : List Col) : Prop := ∀ w', Aside F w w' → Cols w' p s
section
variable {F F' : Nat → Prop} {w w' : World} {p : Option Addr} {s : List Col}
theorem Calm.here (h : Calm F w p s) : Cols w p s := h w (Aside.refl _ _)
theorem Calm.step (h : Calm F w p s) (ha : Aside F w w') (hF : ∀ k, F' k → F k ∨ w.heap.size ≤ k) : Calm F' w' p s := fun w'' h2 => h w'' (ha.trans h2 fun i hi hf => (hF i hf).elim id (fun hc => absurd hi (Nat.not_lt_of_le hc)))
/-- what was just built -/
theorem calm_own {B : Nat} {n c : Nat} (h : SOwn w B #[.slice p n c] s) (hF : ∀ k, F k → k < B ∨ w.heap.size ≤ k) : Calm F w p s := fun w' ha => by
  obtain ⟨v, us, Fs, h1, hb, hl⟩ := h.out
  simp only [Array.mk.injEq, List.cons.injEq, and_true] at h1
  subst h1
  have h2 := hb.aside ha (fun g hg hf => by have := hb.lt g hg; have := hF g hf; omega) (fun j hj k hk hf => by have := hb.range j hj k hk; have := hF k hf; omega)
  obtain ⟨p', c', e1, _, e2⟩ := h2.cols hl
  injection e1 with e3 _ _
  rw [e3]
  exact e2
end
/-- what the map holds of a number -/
def Sees (X : Nat → Prop) (w : World) (o : Option Kn) (r : Option Value) : Prop := match o with
  | none => r = none
  | some k => ∃ p c, r = some (.agg #[.slice p k.cols.length c, .int .i64 k.place]) ∧ k.cols.length * 120 ≤ 140737488351232 ∧ k.cols.length ≤ c ∧ Calm X w p k.cols
theorem Sees.step {F F' : Nat → Prop} {w w' : World} {o : Option Kn} {r : Option Value} (h : Sees F w o r) (ha : Aside F w w') (hF : ∀ k, F' k → F k ∨ w.heap.size ≤ k) : Sees F' w' o r := by
  cases o with
  | none => exact h
  | some k =>
    obtain ⟨p, c, h1, h2, h3, h4⟩ := h
    exact ⟨p, c, h1, h2, h3, h4.step ha hF⟩
/-- a walk lies in block a; its map in M, its entries in v; G: what else may change -/
structure KWalk (w : World) (B a M n : Nat) (v : Value) (g : Int → Option Value) (s : Wk) (G : Nat → Prop) : Prop where
  lies : w.heap[a]? = some (.cells (wCells M s v) 113)
  map : KMap w M n g
  ents : EOwn w B v s.ents
  base : B ≤ a ∧ B ≤ M
  good : Sc.Good s
  low : ∀ k, G k → k < w.heap.size
  off : ∀ k, G k → k ≠ a ∧ k ≠ M ∧ v.ownBlock ≠ some k
  sch : ∀ m, Sees (fun i => (i = a ∨ i = M ∨ v.ownBlock = some i) ∨ G i) w (s.sch m) (g m)
section
variable {w w' : World} {B a M n : Nat} {v : Value} {g : Int → Option Value} {s : Wk} {G : Nat → Prop}
theorem KWalk.lt (h : KWalk w B a M n v g s G) : a < w.heap.size := (Array.getElem?_eq_some_iff.1 h.lies).1
theorem KWalk.cell (h : KWalk w B a M n v g s G) (i : Nat) : w.cell? ⟨a, i, none⟩ = (wCells M s v)[i]? := by
  unfold World.cell?
  rw [h.lies]
  rfl
theorem KWalk.thawed (h : KWalk w B a M n v g s G) (i : Nat) : w.frozen? ⟨a, i, none⟩ = false := by simp [World.frozen?, h.lies]
theorem KWalk.aM (h : KWalk w B a M n v g s G) : a ≠ M := by
  intro hc
  obtain ⟨es, clock, h1⟩ := h.map.obj
  rw [← hc, h.lies] at h1
  cases h1
theorem eown_apart {k : Nat} {es : List Ent} (h : EOwn w B v es) {C : Array Value} {T : TypeId} (hg : w.heap[k]? = some (.cells C T)) (hT : T ≠ 117) : v.ownBlock ≠ some k := by
  intro hc
  rcases h.2 with ⟨h1, _⟩ | ⟨g', cap, cur, h1, _, h3, _⟩
  · rw [h1] at hc; cases hc
  · rw [h1] at hc
    simp only [Value.ownBlock, Option.some.injEq] at hc
    subst hc
    rw [h3] at hg
    injection hg with h4
    injection h4 with _ h5
    exact hT h5.symm
theorem KWalk.va (h : KWalk w B a M n v g s G) : v.ownBlock ≠ some a := eown_apart h.ents h.lies (by decide)
theorem KWalk.vM (h : KWalk w B a M n v g s G) : v.ownBlock ≠ some M := by
  intro hc
  obtain ⟨es, clock, h0⟩ := h.map.obj
  rcases h.ents.2 with ⟨h1, _⟩ | ⟨g', cap, cur, h1, _, h3, _⟩
  · rw [h1] at hc; cases hc
  · rw [h1] at hc
    simp only [Value.ownBlock, Option.some.injEq] at hc
    subst hc
    rw [h3] at h0
    cases h0
/-- something else has changed -/
theorem KWalk.aside {G' : Nat → Prop} (h : KWalk w B a M n v g s G) (ha : Aside G w w') (hG : ∀ k, G' k → G k ∨ w.heap.size ≤ k) (hl : ∀ k, G' k → k < w'.heap.size) : KWalk w' B a M n v g s G' := by
  have hva : ∀ k, v.ownBlock = some k → k < w.heap.size := fun k hk => (h.ents.lt k hk).2
  refine ⟨?_, h.map.keep (ha.block M h.map.lt (fun hc => (h.off M hc).2.1 rfl)), h.ents.aside ha (fun k hk hc => (h.off k hc).2.2 hk), h.base, h.good, hl, fun k hk => ?_, fun m => ?_⟩
  · rw [ha.block a h.lt (fun hc => (h.off a hc).1 rfl)]
    exact h.lies
  · rcases hG k hk with h1 | h1
    · exact h.off k h1
    · have h2 := h.lt
      have h3 := h.map.lt
      exact ⟨by omega, by omega, fun hc => by have := hva k hc; omega⟩
  · refine (h.sch m).step (ha.mono fun i _ hi => .inr hi) fun k hk => ?_
    rcases hk with hk | hk
    · exact .inl (.inl hk)
    · rcases hG k hk with h1 | h1
      · exact .inl (.inr h1)
      · exact .inr h1
theorem KWalk.on (h : KWalk w B a M n v g s G) (hb : Below w.heap.size w w') : KWalk w' B a M n v g s G := h.aside (aside_new hb G) (fun _ hk => .inl hk) (fun k hk => Nat.lt_of_lt_of_le (h.low k hk) hb.size)
/-- what is known of a number, opened -/
theorem KWalk.known (h : KWalk w B a M n v g s G) {m : Int} {k : Kn} (hk : s.sch m = some k) : ∃ p c, g m = some (.agg #[.slice p k.cols.length c, .int .i64 k.place]) ∧ k.cols.length * 120 ≤ 140737488351232 ∧ k.cols.length ≤ c ∧ Cols w p k.cols := by
  have := h.sch m
  rw [hk] at this
  obtain ⟨p, c, h1, h2, h3, h4⟩ := this
  exact ⟨p, c, h1, h2, h3, h4.here⟩
theorem KWalk.unknown (h : KWalk w B a M n v g s G) {m : Int} (hk : s.sch m = none) : g m = none := by
  have := h.sch m
  rw [hk] at this
  exact this
/-- a number or a mark of it is written -/
theorem w_set {s' : Wk} {v' : Value} (h : w.heap[a]? = some (.cells (wCells M s v) 113)) (i : Nat) (u : Value) (he : wCells M s' v' = (wCells M s v).setIfInBounds i u) : (w.setCell ⟨a, i, none⟩ u).heap[a]? = some (.cells (wCells M s' v') 113) := by
  simp only [World.setCell, Array.getElem?_modify, h, if_true, Option.map_some]
  rw [if_neg (by simp), he]
theorem KWalk.put {s' : Wk} (h : KWalk w B a M n v g s G) (i : Nat) (u : Value) (he : wCells M s' v = (wCells M s v).setIfInBounds i u) (hs : s'.sch = s.sch) (hes : s'.ents = s.ents) (hg : Sc.Good s') : KWalk (w.setCell ⟨a, i, none⟩ u) B a M n v g s' G := by
  have ha : Aside (· = a) w (w.setCell ⟨a, i, none⟩ u) := (Aside.refl (· = a) w).setCell (p := ⟨a, i, none⟩) (.inl rfl) u
  refine ⟨w_set h.lies i u he, h.map.keep (ha.block M h.map.lt (fun hc => h.aM hc.symm)), ?_, h.base, hg, fun k hk => Nat.lt_of_lt_of_le (h.low k hk) ha.size, h.off, fun m => ?_⟩
  · rw [hes]
    exact h.ents.aside ha (fun k hk hc => h.va (by rw [hk, hc]))
  · rw [hs]
    exact (h.sch m).step (ha.mono fun i _ hi => .inl (.inl hi)) fun k hk => .inl hk
end
/-- the blocks of a walk -/
def wOwn (a M : Nat) (v : Value) (i : Nat) : Prop := i = a ∨ i = M ∨ v.ownBlock = some i
/-- what a call of a walk leaves -/
structure WPost (w w' : World) (B a M n : Nat) (v : Value) (s : Wk) (G : Nat → Prop) : Prop where
  out : ∃ v' g', KWalk w' B a M n v' g' s G ∧ Aside (wOwn a M v) w w' ∧ ∀ i, v'.ownBlock = some i → v.ownBlock = some i ∨ w.heap.size ≤ i
end Go.Proofs.YtmgcfkpmknogaaaGreatDoor

/- The landed walk: New, what it tells at once, copied, large, slices.Clone. -/
namespace Go.Proofs.YtmgcfkpmknogaaaGreatDoor
open Go.RowKit Go.Maps

section
variable {w : World} {B a M n : Nat} {v : Value} {g : Int → Option Value} {s : Wk} {G : Nat → Prop}
theorem kFrames (h : KWalk w B a M n v g s G) : Calls Tryz.prog 29 #[.pointer (some ⟨a, 0, none⟩)] w fun e w' => e = .returned (.int .i64 s.frames) ∧ w' = w := by
  have c0 : w.cell? ⟨a, 3, none⟩ = some (.int .i64 s.frames) := h.cell 3
  clear h
  go_enter Tryz.func29, Tryz.ntmps29
  go_wp2
  go_ret
  exact ⟨rfl, rfl⟩
theorem kRows (h : KWalk w B a M n v g s G) : Calls Tryz.prog 48 #[.pointer (some ⟨a, 0, none⟩)] w fun e w' => e = .returned (.int .i64 s.rows) ∧ w' = w := by
  have c0 : w.cell? ⟨a, 4, none⟩ = some (.int .i64 s.rows) := h.cell 4
  clear h
  go_enter Tryz.func48, Tryz.ntmps48
  go_wp2
  go_ret
  exact ⟨rfl, rfl⟩
end

set_option maxRecDepth 100000 in
theorem kNew14 (w : World) (G : Nat → Prop) (hG : ∀ k, G k → k < w.heap.size) : Calls Tryz.prog 31 #[] w fun e w' => e = .returned (.pointer (some ⟨w.heap.size + 1, 0, none⟩)) ∧ KWalk w' w.heap.size (w.heap.size + 1) w.heap.size 0 (.slice none 0 0) (fun _ => none) Sc.new G ∧ Below w.heap.size w w' ∧ w'.heap.size = w.heap.size + 2 := by
  obtain ⟨W, hW⟩ : ∃ W, W = (w.alloc (.map #[] 0)).alloc (.cells (wCells w.heap.size Sc.new (.slice none 0 0)) 113) := ⟨_, rfl⟩
  have hs : W.heap.size = w.heap.size + 2 := by rw [hW]; simp
  have hb : Below w.heap.size w W := by rw [hW]; exact ((Below.refl _ _).alloc (Nat.le_refl _) _).alloc (by simp) _
  have hl : W.heap[w.heap.size + 1]? = some (.cells (wCells w.heap.size Sc.new (.slice none 0 0)) 113) := by
    rw [hW]
    have := blk_new (w.alloc (.map #[] 0)) (.cells (wCells w.heap.size Sc.new (.slice none 0 0)) 113)
    simpa using this
  have hm : KMap W w.heap.size 0 (fun _ => none) := (kmap_made w).keep (by rw [hW]; exact blk_old _ _ (by simp))
  have HW : Hid (KWalk W w.heap.size (w.heap.size + 1) w.heap.size 0 (.slice none 0 0) (fun _ => none) Sc.new G) :=
    ⟨hl, hm, eown_nil W _, ⟨Nat.le_succ _, Nat.le_refl _⟩, Sc.good_new, fun k hk => by have := hG k hk; omega, fun k hk => ⟨by have := hG k hk; omega, by have := hG k hk; omega, by simp [Value.ownBlock]⟩, fun m => rfl⟩
  have HB := Lib.hid hb
  have HS := Lib.hid hs
  have HW2 := Lib.hid hW
  have hmm := @run_makeMap Tryz.prog
  clear hs hb hl hm hW
  go_enter Tryz.func31, Tryz.ntmps31
  go_wp2
  go_ret
  refine ⟨?_, ?_⟩
  · simp
  · have e : W = (w.alloc (.map #[] 0)).alloc (.cells #[.map (some w.heap.size), .int .i64 (-1), .int .i64 0, .int .i64 0, .int .i64 0, .slice none 0 0, .bool false] 113) := HW2.out
    rw [← e]
    exact ⟨HW.out, HB.out, HS.out⟩

set_option maxHeartbeats 1000000 in
theorem largeK (b c : Nat) (l : List Int) (hl : l.length ≤ 100) (w : World) (h : ∀ j (hj : j < l.length), w.cell? ⟨b, j, none⟩ = some (.int .i64 l[j])) :
    Calls Tryz.prog 79 #[.slice (some ⟨b, 0, none⟩) l.length c] w fun e w' => e = .returned (.bool (l.all (Fr.within Fr.S))) ∧ w' = w := by
  have H := Lib.hid h
  obtain ⟨R, hR⟩ : ∃ R, R = l.all (Fr.within Fr.S) := ⟨_, rfl⟩
  rw [← hR]
  have HR := Lib.hid hR
  clear h hR
  go_enter Tryz.func79, Tryz.ntmps79
  go_wp2
  go_loop [7] (fun v7 => ∃ i : Nat, i ≤ l.length ∧ v7 = .int .i64 i ∧ Hid ((l.take i).all (Fr.within Fr.S) = true)) (fun v7 => l.length - (intOf v7).toNat)
  case atStart => exact ⟨0, by omega, rfl, rfl⟩
  case round =>
    obtain ⟨i, hi, rfl, HT⟩ := hrel
    by_cases hlt : i < l.length
    · have hlt' : (i : Int) < (l.length : Int) := by omega
      have hc := H.out i hlt
      obtain ⟨x, hx⟩ : ∃ x, x = l[i] := ⟨_, rfl⟩
      rw [← hx] at hc
      by_cases hin : 0 ≤ x ∧ x < 1099511627776
      · have g0 : decide (x < 0) = false := decide_eq_false (by omega)
        have g1 : decide ((1099511627776 : Int) ≤ x) = false := decide_eq_false (by omega)
        have HT2 : Hid ((l.take (i + 1)).all (Fr.within Fr.S) = true) := by
          show _ = _
          rw [List.take_succ_eq_append_getElem hlt, List.all_append, HT.out, ← hx]
          simp [Fr.within, Fr.S, hin]
        clear hin hx HT
        go_wp2
        go_round
        case rel => exact ⟨i + 1, by omega, by go_num, HT2⟩
        case measure => simp [intOf]; omega
      · have HF : Hid (R = false) := by
          show _ = _
          rw [HR.out, List.all_eq_false]
          have hf : Fr.within Fr.S x = false := decide_eq_false hin
          exact ⟨x, by rw [hx]; exact List.getElem_mem hlt, by rw [hf]; decide⟩
        clear hx HT
        by_cases h0 : x < 0
        · have g0 : decide (x < 0) = true := decide_eq_true h0
          clear hin
          go_wp2
          go_ret
          exact ⟨by rw [HF.out]; rfl, rfl⟩
        · have g0 : decide (x < 0) = false := decide_eq_false h0
          have g1 : decide ((1099511627776 : Int) ≤ x) = true := decide_eq_true (by omega)
          clear hin h0
          go_wp2
          go_ret
          exact ⟨by rw [HF.out]; rfl, rfl⟩
    · have hii : i = l.length := by omega
      subst hii
      have HF : Hid (R = true) := by
        show _ = _
        have := HT.out
        rw [List.take_length] at this
        rw [HR.out, this]
      clear HT hlt hi
      go_wp2
      go_ret
      exact ⟨by rw [HF.out]; rfl, rfl⟩


end Go.Proofs.YtmgcfkpmknogaaaGreatDoor
