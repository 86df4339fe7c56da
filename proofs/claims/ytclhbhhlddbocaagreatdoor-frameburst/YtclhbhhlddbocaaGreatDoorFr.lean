/- Plain: frames, their bytes and how they are read (P12.1 to P12.5). -/
import Derived.Test.YtclhbhhlddbocaaGreatDoorB06
import Derived.Test.YtclhbhhlddbocaaGreatDoorB02
namespace Go.Proofs.YtclhbhhlddbocaaGreatDoor

/-- an entry of an index -/
structure Ent where
  at_ : Int
  row : Int
  sch : Int
structure Idx where
  at_ : Int
  frames : Int
  rows : Int
  entries : List Ent
/-- a frame -/
structure Fr where
  kind : Int
  number : Int
  cols : List Col
  seq : Int
  first : Int
  rows : Int
  block : List UInt8
  index : Idx
def Idx0 : Idx := ⟨0, 0, 0, []⟩
def Fr0 : Fr := ⟨0, 0, [], 0, 0, 0, [], Idx0⟩

def Ent.tup (e : Ent) : Int × Int × Int := (e.at_, e.row, e.sch)
theorem Ent.tup_inj {a b : Ent} (h : a.tup = b.tup) : a = b := by
  cases a
  cases b
  simp only [Ent.tup, Prod.mk.injEq] at h
  obtain ⟨rfl, rfl, rfl⟩ := h
  rfl
def Idx.same (a b : Idx) : Bool := decide (a.at_ = b.at_ ∧ a.frames = b.frames ∧ a.rows = b.rows ∧ a.entries.map Ent.tup = b.entries.map Ent.tup)
theorem tup_map_inj : ∀ {a b : List Ent}, a.map Ent.tup = b.map Ent.tup → a = b
  | [], [], _ => rfl
  | [], _ :: _, h => by simp at h
  | _ :: _, [], h => by simp at h
  | x :: a, y :: b, h => by
    rw [List.map_cons, List.map_cons] at h
    injection h with h1 h2
    rw [Ent.tup_inj h1, tup_map_inj h2]
theorem Idx.same_iff (a b : Idx) : Idx.same a b = true ↔ a = b := by
  unfold Idx.same
  rw [decide_eq_true_iff]
  constructor
  · rintro ⟨h1, h2, h3, h4⟩
    cases a
    cases b
    dsimp only at h1 h2 h3 h4
    subst h1 h2 h3
    rw [tup_map_inj h4]
  · rintro rfl
    exact ⟨rfl, rfl, rfl, rfl⟩

namespace Fr
/-- numbers that an int64 holds -/
def i64 (n : Int) : Prop := -9223372036854775808 ≤ n ∧ n ≤ 9223372036854775807
def wf (f : Fr) : Prop := i64 f.kind ∧ i64 f.number ∧ (∀ c ∈ f.cols, c.wf) ∧ i64 f.seq ∧ i64 f.first ∧ i64 f.rows ∧ (i64 f.index.at_ ∧ i64 f.index.frames ∧ i64 f.index.rows) ∧ ∀ e ∈ f.index.entries, i64 e.at_ ∧ i64 e.row ∧ i64 e.sch
def within (b : Int) (n : Int) : Bool := decide (0 ≤ n ∧ n < b)
def S : Int := 1099511627776
def N : Int := 2147483648
def entOk (e : Ent) : Bool := within S e.at_ && within S e.row && within S e.sch
def idxErr (x : Idx) : Nat := if (within S x.at_ && within S x.frames && within S x.rows) = false then 7 else if 64 < x.entries.length then 3 else if x.entries.all entOk = false then 7 else 0
/-- P12.1, but for its last error -/
def err0 (f : Fr) : Nat :=
  if f.kind = 1 then (if within N f.number = false then 7 else Sch.err f.cols)
  else if f.kind = 2 then (if (within N f.number && within S f.seq && within S f.first && decide (1 ≤ f.rows ∧ f.rows ≤ 64)) = false then 7 else 0)
  else if f.kind = 3 then idxErr f.index else 60
def nums (l : List Int) : List UInt8 := (l.map fun n => Leb.put n.toNat).flatten
def entB (e : Ent) : List UInt8 := nums [e.at_, e.row, e.sch]
/-- the fields' bytes -/
def fields (f : Fr) : List UInt8 :=
  if f.kind = 1 then nums [f.number] ++ Sch.bytes f.cols
  else if f.kind = 2 then nums [f.number, f.seq, f.first, f.rows] ++ f.block
  else nums [f.index.at_, f.index.frames, f.index.rows, (f.index.entries.length : Int)] ++ (f.index.entries.map entB).flatten
def head (f : Fr) : List UInt8 := UInt8.ofNat f.kind.toNat :: fields f
def check (b : List UInt8) : List UInt8 := b ++ Sch.le 4 (Crc.sum b)
def run (f : Fr) : List UInt8 := Cob.stuff (check (head f))
/-- P12.1 -/
def err (f : Fr) : Nat := if err0 f ≠ 0 then err0 f else if 2200 < (run f).length then 2 else 0
def out (f : Fr) : List UInt8 := if err f = 0 then 0 :: (run f ++ [0]) else []

/-- one number below a limit: any error is one -/
def nb (lim : Nat) (l : List UInt8) : Except Nat (Nat × Nat) := match Sch.num l with
  | .error _ => .error 5
  | .ok (n, k) => if n < lim then .ok (n, k) else .error 5
/-- so many, each below its limit -/
def nbs : List Nat → List UInt8 → Except Nat (List Nat × Nat)
  | [], _ => .ok ([], 0)
  | lim :: r, l => match nb lim l with
    | .error e => .error e
    | .ok (n, k) => match nbs r (l.drop k) with
      | .error e => .error e
      | .ok (ns, j) => .ok (n :: ns, k + j)
def rdE : Nat → List UInt8 → Except Nat (List Ent × Nat)
  | 0, _ => .ok ([], 0)
  | m + 1, l => match nbs [1099511627776, 1099511627776, 1099511627776] l with
    | .error e => .error e
    | .ok (ns, k) => match rdE m (l.drop k) with
      | .error e => .error e
      | .ok (es, j) => .ok (⟨(ns.getD 0 0 : Nat), (ns.getD 1 0 : Nat), (ns.getD 2 0 : Nat)⟩ :: es, k + j)
def rdS (l : List UInt8) : Except Nat Fr := match nb 2147483648 l with
  | .error e => .error e
  | .ok (n, k) => match Sch.read (l.drop k) with
    | .error e => .error e
    | .ok s => .ok { Fr0 with kind := 1, number := n, cols := s }
def rdD (l : List UInt8) : Except Nat Fr := match nbs [2147483648, 1099511627776, 1099511627776, 65] l with
  | .error e => .error e
  | .ok (ns, k) => if (ns.getD 3 0 : Nat) < 1 then .error 5 else .ok { Fr0 with kind := 2, number := (ns.getD 0 0 : Nat), seq := (ns.getD 1 0 : Nat), first := (ns.getD 2 0 : Nat), rows := (ns.getD 3 0 : Nat), block := l.drop k }
def rdI (l : List UInt8) : Except Nat Fr := match nbs [1099511627776, 1099511627776, 1099511627776, 65] l with
  | .error e => .error e
  | .ok (ns, k) => match rdE ((ns.getD 3 0 : Nat)) (l.drop k) with
    | .error e => .error e
    | .ok (es, j) => if k + j = l.length then .ok { Fr0 with kind := 3, index := ⟨(ns.getD 0 0 : Nat), (ns.getD 1 0 : Nat), (ns.getD 2 0 : Nat), es⟩ } else .error 5
def rdF (k : Nat) (l : List UInt8) : Except Nat Fr := if k = 1 then rdS l else if k = 2 then rdD l else if k = 3 then rdI l else .error 60
/-- the kind and the fields of a run -/
def open_ (r : List UInt8) : Except Nat (List UInt8) :=
  if 2200 < r.length then .error 2 else if (Cob.un r).1 ≠ 0 then .error (Cob.un r).1
  else if (Cob.un r).2.length < 5 then .error 30
  else if (Cob.un r).2.drop ((Cob.un r).2.length - 4) = Sch.le 4 (Crc.sum ((Cob.un r).2.take ((Cob.un r).2.length - 4))) then .ok ((Cob.un r).2.take ((Cob.un r).2.length - 4)) else .error 120
/-- P12.2 -/
def dec (r : List UInt8) : Except Nat Fr := match open_ r with
  | .error e => .error e
  | .ok b => rdF (b.headD 0).toNat b.tail
/-- P12.3 -/
def same (a b : Fr) : Bool := decide (a.kind = b.kind) && (if a.kind = 1 then decide (a.number = b.number) && Sch.same a.cols b.cols
  else if a.kind = 2 then decide (a.number = b.number ∧ a.seq = b.seq ∧ a.first = b.first ∧ a.rows = b.rows) && (a.block == b.block)
  else if a.kind = 3 then Idx.same a.index b.index else true)

theorem within_iff {b n : Int} : within b n = true ↔ 0 ≤ n ∧ n < b := decide_eq_true_iff
theorem nums_nil : nums [] = [] := rfl
theorem nums_cons (n : Int) (l : List Int) : nums (n :: l) = Leb.put n.toNat ++ nums l := rfl

theorem nb_put (lim : Nat) (n : Int) (r : List UInt8) (h : within lim n = true) (hl : lim ≤ 1099511627776) : nb lim (Leb.put n.toNat ++ r) = .ok (n.toNat, (Leb.put n.toNat).length) := by
  rw [within_iff] at h
  unfold nb
  rw [Sch.num_put _ _ (by omega)]
  exact if_pos (by omega)
theorem nb_ok {lim : Nat} {l : List UInt8} {n k : Nat} (h : nb lim l = .ok (n, k)) : n < lim ∧ ∃ r, l = Leb.put n ++ r ∧ k = (Leb.put n).length := by
  unfold nb at h
  split at h
  · cases h
  · next n' k' hn =>
    split at h
    · next hlt =>
      injection h with h
      injection h with h1 h2
      subst h1 h2
      exact ⟨hlt, (Sch.num_ok hn).2⟩
    · cases h
theorem nbs_put : ∀ (lims : List Nat) (l : List Int) (r : List UInt8), lims.length = l.length → (∀ x ∈ lims, x ≤ 1099511627776) → (∀ j (h1 : j < lims.length) (h2 : j < l.length), within lims[j] l[j] = true) →
    nbs lims (nums l ++ r) = .ok (l.map Int.toNat, (nums l).length)
  | [], [], r, _, _, _ => rfl
  | [], _ :: _, r, h, _, _ => by simp at h
  | _ :: _, [], r, h, _, _ => by simp at h
  | lim :: lims, n :: l, r, h, hl, hw => by
    have h0 := hw 0 (by simp) (by simp)
    have ih := nbs_put lims l r (by simpa using h) (fun x hx => hl x (List.mem_cons_of_mem _ hx)) (fun j h1 h2 => by have := hw (j + 1) (by simpa using h1) (by simpa using h2); simpa using this)
    rw [nums_cons, List.append_assoc, nbs, nb_put lim n _ h0 (hl lim (by simp))]
    dsimp only
    rw [List.drop_left, ih]
    simp
theorem nbs_ok : ∀ (lims : List Nat) (l : List UInt8) (ns : List Nat) (k : Nat), nbs lims l = .ok (ns, k) → ns.length = lims.length ∧ (∀ j (h1 : j < lims.length) (h2 : j < ns.length), ns[j] < lims[j]) ∧ ∃ r, l = nums (ns.map Int.ofNat) ++ r ∧ k = (nums (ns.map Int.ofNat)).length
  | [], l, ns, k, h => by
    rw [nbs] at h
    injection h with h
    injection h with h1 h2
    subst h1 h2
    exact ⟨rfl, fun j h1 => by simp at h1, l, rfl, rfl⟩
  | lim :: lims, l, ns, k, h => by
    rw [nbs] at h
    split at h
    · cases h
    · next n k0 hn =>
      split at h
      · cases h
      · next ns' j hns =>
        injection h with h
        injection h with h1 h2
        obtain ⟨a1, r1, a2, a3⟩ := nb_ok hn
        obtain ⟨b1, b2, r2, b3, b4⟩ := nbs_ok lims _ _ _ hns
        subst h1 h2
        refine ⟨by simp [b1], fun i h1 h2 => ?_, r2, ?_, ?_⟩
        · cases i with
          | zero => exact a1
          | succ i => have := b2 i (by simpa using h1) (by simpa using h2); simpa using this
        · rw [a2, a3, List.drop_left] at b3
          rw [a2, b3]
          show _ = Leb.put n ++ nums _ ++ r2
          rw [List.append_assoc]
        · rw [a3, b4]
          show _ = (Leb.put n ++ nums _).length
          rw [List.length_append]

theorem rdE_put : ∀ (es : List Ent) (r : List UInt8), es.all entOk = true → rdE es.length ((es.map entB).flatten ++ r) = .ok (es, (es.map entB).flatten.length)
  | [], r, _ => rfl
  | e :: es, r, h => by
    rw [List.all_cons, Bool.and_eq_true] at h
    obtain ⟨h1, h2⟩ := h
    unfold entOk at h1
    simp only [Bool.and_eq_true] at h1
    obtain ⟨⟨h1, h3⟩, h4⟩ := h1
    have ih := rdE_put es r h2
    have e0 : nbs [1099511627776, 1099511627776, 1099511627776] (entB e ++ ((es.map entB).flatten ++ r)) = .ok ([e.at_.toNat, e.row.toNat, e.sch.toNat], (entB e).length) := by
      refine nbs_put [1099511627776, 1099511627776, 1099511627776] [e.at_, e.row, e.sch] _ rfl (by simp) (fun j g1 g2 => ?_)
      match j with
      | 0 => exact h1
      | 1 => exact h3
      | 2 => exact h4
      | j + 3 => simp at g1; omega
    rw [List.map_cons, List.flatten_cons, List.append_assoc, List.length_cons, rdE, e0]
    dsimp only
    rw [List.drop_left, ih]
    rw [within_iff] at h1 h3 h4
    have g1 : ((e.at_.toNat : Nat) : Int) = e.at_ := by omega
    have g2 : ((e.row.toNat : Nat) : Int) = e.row := by omega
    have g3 : ((e.sch.toNat : Nat) : Int) = e.sch := by omega
    simp [g1, g2, g3]
theorem rdE_ok : ∀ (m : Nat) (l : List UInt8) (es : List Ent) (k : Nat), rdE m l = .ok (es, k) → es.length = m ∧ es.all entOk = true ∧ ∃ r, l = (es.map entB).flatten ++ r ∧ k = (es.map entB).flatten.length
  | 0, l, es, k, h => by
    rw [rdE] at h
    injection h with h
    injection h with h1 h2
    subst h1 h2
    exact ⟨rfl, rfl, l, rfl, rfl⟩
  | m + 1, l, es, k, h => by
    rw [rdE] at h
    split at h
    · cases h
    · next ns k0 hn =>
      split at h
      · cases h
      · next es' j hes =>
        injection h with h
        injection h with h1 h2
        obtain ⟨a1, a2, r1, a3, a4⟩ := nbs_ok _ _ _ _ hn
        obtain ⟨b1, b2, r2, b3, b4⟩ := rdE_ok m _ _ _ hes
        obtain ⟨x, y, z, rfl⟩ : ∃ x y z, ns = [x, y, z] := by
          match ns, a1 with
          | [x, y, z], _ => exact ⟨x, y, z, rfl⟩
        have c1 := a2 0 (by simp) (by simp)
        have c2 := a2 1 (by simp) (by simp)
        have c3 := a2 2 (by simp) (by simp)
        simp at c1 c2 c3
        subst h1 h2
        refine ⟨by simp [b1], ?_, r2, ?_, ?_⟩
        · rw [List.all_cons, b2, Bool.and_true]
          unfold entOk
          simp only [Bool.and_eq_true, within_iff, S]
          simp
          omega
        · rw [a3, a4, List.drop_left] at b3
          rw [a3, b3]
          show nums [(x : Int), y, z] ++ _ = (nums [(x : Int), y, z] ++ _) ++ r2
          rw [List.append_assoc]
        · rw [a4, b4]
          show _ = (nums [(x : Int), y, z] ++ _).length
          rw [List.length_append]
          rfl

theorem head_fields {f : Fr} (h : err0 f = 0) : f.kind = 1 ∨ f.kind = 2 ∨ f.kind = 3 := by
  unfold err0 at h
  by_cases h1 : f.kind = 1
  · exact .inl h1
  · by_cases h2 : f.kind = 2
    · exact .inr (.inl h2)
    · by_cases h3 : f.kind = 3
      · exact .inr (.inr h3)
      · rw [if_neg h1, if_neg h2, if_neg h3] at h
        omega
/-- what is read of a frame's bytes: the fields that count -/
def norm (f : Fr) : Fr :=
  if f.kind = 1 then { Fr0 with kind := 1, number := f.number, cols := f.cols.map Col.fix }
  else if f.kind = 2 then { Fr0 with kind := 2, number := f.number, seq := f.seq, first := f.first, rows := f.rows, block := f.block }
  else { Fr0 with kind := 3, index := f.index }

theorem rdF_put {f : Fr} (h : err0 f = 0) (hw : ∀ c ∈ f.cols, c.wf) : rdF f.kind.toNat (fields f) = .ok (norm f) := by
  have hk := head_fields h
  unfold err0 at h
  rcases hk with hk | hk | hk
  · rw [if_pos hk] at h
    have hn : within N f.number = true := by
      cases hq : within N f.number with
      | true => rfl
      | false => rw [hq] at h; simp at h
    rw [hn, if_neg (by simp)] at h
    unfold rdF fields norm
    rw [hk, if_pos (by decide), if_pos rfl, if_pos rfl]
    unfold rdS
    rw [nums_cons, nums_nil, List.append_nil, nb_put 2147483648 _ _ hn (by omega)]
    dsimp only
    rw [List.drop_left, Sch.read_put h hw]
    rw [within_iff] at hn
    dsimp only
    rw [show ((f.number.toNat : Nat) : Int) = f.number by omega]
  · rw [if_neg (by omega), if_pos hk] at h
    have hn : (within N f.number && within S f.seq && within S f.first && decide (1 ≤ f.rows ∧ f.rows ≤ 64)) = true := by
      cases hq : (within N f.number && within S f.seq && within S f.first && decide (1 ≤ f.rows ∧ f.rows ≤ 64)) with
      | true => rfl
      | false => rw [hq] at h; simp at h
    simp only [Bool.and_eq_true, decide_eq_true_eq] at hn
    obtain ⟨⟨⟨h1, h2⟩, h3⟩, h4, h5⟩ := hn
    have e0 : nbs [2147483648, 1099511627776, 1099511627776, 65] (nums [f.number, f.seq, f.first, f.rows] ++ f.block) = .ok ([f.number.toNat, f.seq.toNat, f.first.toNat, f.rows.toNat], (nums [f.number, f.seq, f.first, f.rows]).length) := by
      refine nbs_put _ [f.number, f.seq, f.first, f.rows] _ rfl (by simp) (fun j g1 g2 => ?_)
      match j with
      | 0 => exact h1
      | 1 => exact h2
      | 2 => exact h3
      | 3 => exact within_iff.2 ⟨by show (0 : Int) ≤ f.rows; omega, by show f.rows < 65; omega⟩
      | j + 4 => simp at g1; omega
    unfold rdF fields norm
    rw [hk, if_neg (by decide), if_pos (by decide), if_neg (by decide), if_pos rfl, if_neg (by decide), if_pos rfl]
    unfold rdD
    rw [e0]
    dsimp only
    rw [if_neg (by simp; omega), List.drop_left]
    rw [within_iff] at h1 h2 h3
    simp only [List.getD_cons_zero, List.getD_cons_succ]
    rw [show ((f.number.toNat : Nat) : Int) = f.number by omega, show ((f.seq.toNat : Nat) : Int) = f.seq by omega, show ((f.first.toNat : Nat) : Int) = f.first by omega, show ((f.rows.toNat : Nat) : Int) = f.rows by omega]
  · rw [if_neg (by omega), if_neg (by omega), if_pos hk] at h
    unfold idxErr at h
    have hn : (within S f.index.at_ && within S f.index.frames && within S f.index.rows) = true := by
      cases hq : (within S f.index.at_ && within S f.index.frames && within S f.index.rows) with
      | true => rfl
      | false => rw [hq] at h; simp at h
    rw [hn, if_neg (by simp)] at h
    simp only [Bool.and_eq_true] at hn
    obtain ⟨⟨h1, h2⟩, h3⟩ := hn
    by_cases h64 : 64 < f.index.entries.length
    · rw [if_pos h64] at h; omega
    rw [if_neg h64] at h
    have ha : f.index.entries.all entOk = true := by
      cases hq : f.index.entries.all entOk with
      | true => rfl
      | false => rw [hq] at h; simp at h
    have e0 : nbs [1099511627776, 1099511627776, 1099511627776, 65] (nums [f.index.at_, f.index.frames, f.index.rows, (f.index.entries.length : Int)] ++ (f.index.entries.map entB).flatten) = .ok ([f.index.at_.toNat, f.index.frames.toNat, f.index.rows.toNat, f.index.entries.length], (nums [f.index.at_, f.index.frames, f.index.rows, (f.index.entries.length : Int)]).length) := by
      refine nbs_put _ [f.index.at_, f.index.frames, f.index.rows, (f.index.entries.length : Int)] _ rfl (by simp) (fun j g1 g2 => ?_)
      match j with
      | 0 => exact h1
      | 1 => exact h2
      | 2 => exact h3
      | 3 => exact within_iff.2 ⟨by show (0 : Int) ≤ (f.index.entries.length : Int); omega, by show (f.index.entries.length : Int) < 65; omega⟩
      | j + 4 => simp at g1; omega
    have e1 := rdE_put f.index.entries [] ha
    rw [List.append_nil] at e1
    unfold rdF fields norm
    rw [hk, if_neg (by decide), if_neg (by decide), if_pos (by decide), if_neg (by decide), if_neg (by decide), if_neg (by decide), if_neg (by decide)]
    unfold rdI
    rw [e0]
    dsimp only
    rw [List.drop_left]
    simp only [List.getD_cons_zero, List.getD_cons_succ]
    rw [e1]
    dsimp only
    rw [if_pos (by rw [List.length_append])]
    rw [within_iff] at h1 h2 h3
    rw [show ((f.index.at_.toNat : Nat) : Int) = f.index.at_ by omega, show ((f.index.frames.toNat : Nat) : Int) = f.index.frames by omega, show ((f.index.rows.toNat : Nat) : Int) = f.index.rows by omega]
end Fr
end Go.Proofs.YtclhbhhlddbocaaGreatDoor
