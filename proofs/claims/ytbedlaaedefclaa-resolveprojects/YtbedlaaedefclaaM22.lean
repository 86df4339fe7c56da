/- Rw: put together. -/
import Derived.Test.YtbedlaaedefclaaM11
import Derived.Test.YtbedlaaedefclaaM12

/- Plain: rows, their bytes and how they are read; what the document says of them. -/
namespace Go.Proofs.Ytbedlaaedefclaa
namespace Rw

/-- why a value isn't one of a type that may be -/
def vErr (t : Ty) (v : V) : Nat := if chk 1 v ≠ 0 then chk 1 v else if Sch.is v t then 0 else 80
/-- P8.1: the error -/
def encErr (t : Ty) (v : V) : Nat := if Ty.check 1 t ≠ 0 then Ty.check 1 t else vErr t v
/-- P8.1: the bytes -/
def encB (t : Ty) (v : V) : List UInt8 := if encErr t v = 0 then Sch.vB v else []
/-- column by column -/
def colsErr : List Col → List V → Nat
  | c :: s, v :: r => if vErr c.ty v = 0 then colsErr s r else vErr c.ty v
  | _, _ => 0
def bytes (vs : List V) : List UInt8 := (vs.map Sch.vB).flatten
/-- P8.3 -/
def err (s : List Col) (vs : List V) : Nat := if Sch.err s ≠ 0 then Sch.err s else if vs.length ≠ s.length then 80 else if colsErr s vs ≠ 0 then colsErr s vs else if 1024 < (bytes vs).length then 2 else 0
/-- P8.4 -/
def out (s : List Col) (vs : List V) : List UInt8 := if err s vs = 0 then bytes vs else []
/-- P8.2 -/
def readV (t : Ty) (l : List UInt8) (a : Int) : Except Nat (V × Nat) := if Ty.check 1 t ≠ 0 then .error (Ty.check 1 t) else if a < 0 ∨ (l.length : Int) < a then .error 30 else match Sch.rdV t (l.drop a.toNat) with
  | .error e => .error e
  | .ok (v, k) => .ok (v, a.toNat + k)
/-- values of the columns' types -/
def rd : List Col → List UInt8 → Except Nat (List V × Nat)
  | [], _ => .ok ([], 0)
  | c :: s, l => match Sch.rdV c.ty l with
    | .error e => .error e
    | .ok (v, k) => match rd s (l.drop k) with
      | .error e => .error e
      | .ok (vs, j) => .ok (v :: vs, k + j)
/-- P8.5 -/
def read (s : List Col) (l : List UInt8) (a : Int) : Except Nat (List V × Nat) := if Sch.err s ≠ 0 then .error (Sch.err s) else if a < 0 ∨ (l.length : Int) < a then .error 30 else match rd s (l.drop a.toNat) with
  | .error e => .error e
  | .ok (vs, k) => if 1024 < k then .error 2 else .ok (vs, a.toNat + k)

theorem vErr_zero {t : Ty} {v : V} (h : vErr t v = 0) : Ty.check 1 t = 0 ∧ chk 1 v = 0 ∧ Sch.of v t = true := by
  unfold vErr at h
  split at h
  · next h0 => exact absurd h h0
  · split at h
    · next h1 =>
      unfold Sch.is at h1
      simp only [Bool.and_eq_true, decide_eq_true_eq] at h1
      exact ⟨h1.1.1, h1.1.2, h1.2⟩
    · omega
theorem vErr_make {t : Ty} {v : V} (h1 : Ty.check 1 t = 0) (h2 : chk 1 v = 0) (h3 : Sch.of v t = true) : vErr t v = 0 := by
  unfold vErr
  rw [if_neg (by omega), if_pos]
  unfold Sch.is
  rw [decide_eq_true h1, decide_eq_true h2, h3]
  rfl
theorem bytes_nil : bytes [] = [] := rfl
theorem bytes_cons (v : V) (r : List V) : bytes (v :: r) = Sch.vB v ++ bytes r := rfl
theorem bytes_fix (vs : List V) : bytes (vs.map V.fix) = bytes vs := by
  unfold bytes
  rw [List.map_map]
  congr 1
  exact List.map_congr_left (fun v _ => Sch.vB_fix v)

/-- a row's bytes are read as it -/
theorem rd_put (r : List UInt8) : ∀ (s : List Col) (vs : List V), vs.length = s.length → colsErr s vs = 0 → (∀ v ∈ vs, v.wf) → rd s (bytes vs ++ r) = .ok (vs.map V.fix, (bytes vs).length)
  | [], [], _, _, _ => rfl
  | [], _ :: _, h, _, _ => by simp at h
  | _ :: _, [], h, _, _ => by simp at h
  | c :: s, v :: vs, h, he, hw => by
    have h0 : vErr c.ty v = 0 := by
      rw [colsErr] at he
      split at he
      · assumption
      · next h => exact absurd he h
    have he' : colsErr s vs = 0 := by rw [colsErr, if_pos h0] at he; exact he
    obtain ⟨h1, h2, h3⟩ := vErr_zero h0
    rw [rd, bytes_cons, List.append_assoc, Sch.rdV_put c.ty 1 v _ h1 h2 h3 (hw v (by simp))]
    dsimp only
    rw [List.drop_left, rd_put r s vs (by simpa using h) he' (fun x hx => hw x (by simp [hx]))]
    simp
/-- what is read has just these bytes -/
theorem rd_ok : ∀ (s : List Col) (l : List UInt8) (vs : List V) (k : Nat), (∀ c ∈ s, Ty.check 1 c.ty = 0) → rd s l = .ok (vs, k) → vs.length = s.length ∧ k = (bytes vs).length ∧ (∃ r, l = bytes vs ++ r) ∧ colsErr s vs = 0 ∧ ∀ v ∈ vs, V.fix v = v ∧ v.wf
  | [], l, vs, k, _, h => by
    rw [rd] at h
    injection h with h
    injection h with h1 h2
    subst h1 h2
    exact ⟨rfl, rfl, ⟨l, rfl⟩, rfl, fun v hv => by cases hv⟩
  | c :: s, l, vs, k, ht, h => by
    rw [rd] at h
    split at h
    · cases h
    · next v k1 hv =>
      split at h
      · cases h
      · next vs' j hr =>
        injection h with h
        injection h with h1 h2
        subst h1 h2
        obtain ⟨a1, ⟨r1, a2⟩, a3, a4, a5, a6⟩ := Sch.rdV_ok c.ty 1 l v k1 (ht c (by simp)) hv
        obtain ⟨b1, b2, ⟨r2, b3⟩, b4, b5⟩ := rd_ok s (l.drop k1) vs' j (fun x hx => ht x (by simp [hx])) hr
        have e1 : l.drop k1 = r1 := by rw [a2, a1, List.drop_left]
        refine ⟨by simp [b1], by rw [bytes_cons, List.length_append, a1, b2], ⟨r2, by rw [bytes_cons, List.append_assoc, ← b3, e1]; exact a2⟩, ?_, fun x hx => ?_⟩
        · rw [colsErr, if_pos (vErr_make (ht c (by simp)) a3 a4)]
          exact b4
        · rcases List.mem_cons.1 hx with rfl | hx
          · exact ⟨a5, a6⟩
          · exact b5 x hx
theorem err_open {s : List Col} {vs : List V} (h : err s vs = 0) : Sch.err s = 0 ∧ vs.length = s.length ∧ colsErr s vs = 0 ∧ (bytes vs).length ≤ 1024 := by
  unfold err at h
  split at h
  · next h0 => exact absurd h h0
  · next h0 =>
    split at h
    · omega
    · next h1 =>
      split at h
      · next h2 => exact absurd h h2
      · next h2 =>
        split at h
        · omega
        · next h3 => exact ⟨by omega, by omega, by omega, by omega⟩
theorem err_make {s : List Col} {vs : List V} (h1 : Sch.err s = 0) (h2 : vs.length = s.length) (h3 : colsErr s vs = 0) (h4 : (bytes vs).length ≤ 1024) : err s vs = 0 := by
  unfold err
  rw [if_neg (by omega), if_neg (by omega), if_neg (by omega), if_neg (by omega)]
theorem types_ok {s : List Col} (h : Sch.err s = 0) : ∀ c ∈ s, Ty.check 1 c.ty = 0 := fun c hc => by
  obtain ⟨l', h'⟩ := Sch.colsErr_mem s [] (Sch.err_open h).2.2.1 c hc
  exact (Sch.col_open h').2.2.1
/-- P8.6: there and back -/
theorem read_put {s : List Col} {vs : List V} (h : err s vs = 0) (hw : ∀ v ∈ vs, v.wf) (a r : List UInt8) : read s (a ++ (bytes vs ++ r)) (a.length : Int) = .ok (vs.map V.fix, a.length + (bytes vs).length) := by
  obtain ⟨h1, h2, h3, h4⟩ := err_open h
  unfold read
  rw [if_neg (by omega), if_neg (by rw [List.length_append]; omega), Int.toNat_natCast, List.drop_left, rd_put r s vs h2 h3 hw]
  dsimp only
  rw [if_neg (by omega)]
/-- P8.6: back and there -/
theorem read_ok {s : List Col} {l : List UInt8} {a : Int} {vs : List V} {k : Nat} (h : read s l a = .ok (vs, k)) : 0 ≤ a ∧ a ≤ l.length ∧ k = a.toNat + (bytes vs).length ∧ k ≤ l.length ∧ (l.drop a.toNat).take (bytes vs).length = bytes vs ∧ err s vs = 0 ∧ ∀ v ∈ vs, V.fix v = v ∧ v.wf := by
  unfold read at h
  split at h
  · cases h
  · next h0 =>
    split at h
    · cases h
    · next h1 =>
      split at h
      · cases h
      · next vs' j hr =>
        split at h
        · cases h
        · next h2 =>
          injection h with h
          injection h with h3 h4
          subst h3 h4
          have h0' : Sch.err s = 0 := by omega
          obtain ⟨b1, b2, ⟨r, b3⟩, b4, b5⟩ := rd_ok s _ _ _ (types_ok h0') hr
          have hlen := congrArg List.length b3
          rw [List.length_drop, List.length_append] at hlen
          refine ⟨by omega, by omega, by rw [b2], by omega, by rw [b3, List.take_left], err_make h0' b1 b4 (by omega), b5⟩
/-- P8.7 -/
theorem begins {s : List Col} {q r : List V} (hq : err s q = 0) (hr : err s r = 0) (wq : ∀ v ∈ q, v.wf) (wr : ∀ v ∈ r, v.wf) : (∃ t, bytes r = bytes q ++ t) ↔ q.map V.fix = r.map V.fix := by
  obtain ⟨_, a2, a3, _⟩ := err_open hq
  obtain ⟨_, b2, b3, _⟩ := err_open hr
  constructor
  · rintro ⟨t, ht⟩
    have h1 := rd_put t s q a2 a3 wq
    have h2 := rd_put [] s r b2 b3 wr
    rw [List.append_nil, ht] at h2
    rw [h1] at h2
    injection h2 with h2
    injection h2 with h2 _
  · intro he
    refine ⟨[], ?_⟩
    rw [List.append_nil, ← bytes_fix r, ← bytes_fix q, he]
end Rw
end Go.Proofs.Ytbedlaaedefclaa
