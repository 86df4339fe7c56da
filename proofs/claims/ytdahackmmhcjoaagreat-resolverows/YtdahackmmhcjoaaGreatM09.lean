/- Rw, Flt, WInt9, WRef9, Rz, RzB, RzC: put together. -/
import Derived.Test.YtdahackmmhcjoaaGreatM04
import Derived.Laws.FloatArith
import Derived.Test.YtdahackmmhcjoaaGreatM02
import Derived.Laws.Externs
import Derived.Lib.Hide

/- Plain: rows, their bytes and how they are read; what the document says of them. -/
namespace Go.Proofs.YtdahackmmhcjoaaGreat
namespace Rw

/-- why a value isn't one of a type that may be -/
def vErr (t : Ty) (v : V) : Nat := if chk 1 v ≠ 0 then chk 1 v else if Sch.is v t then 0 else 80
/-- P8.1: the error -/
def encErr (t : Ty) (v : V) : Nat := if Ty.check 1 t ≠ 0 then Ty.check 1 t else vErr t v
/-- P8.1: the bytes -/
def encB (t : Ty) (v : V) : List UInt8 := if encErr t v = 0 then Sch.vB v else []
/-- column by column -/
def colsErr : List Col → List V → Nat
  | c :: s, v :: r => if vErr c.ty v = 0 then colsErr s r else vErr c.ty v
  | _, _ => 0
def bytes (vs : List V) : List UInt8 := (vs.map Sch.vB).flatten
/-- P8.3 -/
def err (s : List Col) (vs : List V) : Nat := if Sch.err s ≠ 0 then Sch.err s else if vs.length ≠ s.length then 80 else if colsErr s vs ≠ 0 then colsErr s vs else if 1024 < (bytes vs).length then 2 else 0
/-- P8.4 -/
def out (s : List Col) (vs : List V) : List UInt8 := if err s vs = 0 then bytes vs else []
/-- P8.2 -/
def readV (t : Ty) (l : List UInt8) (a : Int) : Except Nat (V × Nat) := if Ty.check 1 t ≠ 0 then .error (Ty.check 1 t) else if a < 0 ∨ (l.length : Int) < a then .error 30 else match Sch.rdV t (l.drop a.toNat) with
  | .error e => .error e
  | .ok (v, k) => .ok (v, a.toNat + k)
/-- values of the columns' types -/
def rd : List Col → List UInt8 → Except Nat (List V × Nat)
  | [], _ => .ok ([], 0)
  | c :: s, l => match Sch.rdV c.ty l with
    | .error e => .error e
    | .ok (v, k) => match rd s (l.drop k) with
      | .error e => .error e
      | .ok (vs, j) => .ok (v :: vs, k + j)
/-- P8.5 -/
def read (s : List Col) (l : List UInt8) (a : Int) : Except Nat (List V × Nat) := if Sch.err s ≠ 0 then .error (Sch.err s) else if a < 0 ∨ (l.length : Int) < a then .error 30 else match rd s (l.drop a.toNat) with
  | .error e => .error e
  | .ok (vs, k) => if 1024 < k then .error 2 else .ok (vs, a.toNat + k)

theorem vErr_zero {t : Ty} {v : V} (h : vErr t v = 0) : Ty.check 1 t = 0 ∧ chk 1 v = 0 ∧ Sch.of v t = true := by
  unfold vErr at h
  split at h
  · next h0 => exact absurd h h0
  · split at h
    · next h1 =>
      unfold Sch.is at h1
      simp only [Bool.and_eq_true, decide_eq_true_eq] at h1
      exact ⟨h1.1.1, h1.1.2, h1.2⟩
    · omega
theorem vErr_make {t : Ty} {v : V} (h1 : Ty.check 1 t = 0) (h2 : chk 1 v = 0) (h3 : Sch.of v t = true) : vErr t v = 0 := by
  unfold vErr
  rw [if_neg (by omega), if_pos]
  unfold Sch.is
  rw [decide_eq_true h1, decide_eq_true h2, h3]
  rfl
theorem bytes_nil : bytes [] = [] := rfl
theorem bytes_cons (v : V) (r : List V) : bytes (v :: r) = Sch.vB v ++ bytes r := rfl
theorem bytes_fix (vs : List V) : bytes (vs.map V.fix) = bytes vs := by
  unfold bytes
  rw [List.map_map]
  congr 1
  exact List.map_congr_left (fun v _ => Sch.vB_fix v)

/-- a row's bytes are read as it -/
theorem rd_put (r : List UInt8) : ∀ (s : List Col) (vs : List V), vs.length = s.length → colsErr s vs = 0 → (∀ v ∈ vs, v.wf) → rd s (bytes vs ++ r) = .ok (vs.map V.fix, (bytes vs).length)
  | [], [], _, _, _ => rfl
  | [], _ :: _, h, _, _ => by simp at h
  | _ :: _, [], h, _, _ => by simp at h
  | c :: s, v :: vs, h, he, hw => by
    have h0 : vErr c.ty v = 0 := by
      rw [colsErr] at he
      split at he
      · assumption
      · next h => exact absurd he h
    have he' : colsErr s vs = 0 := by rw [colsErr, if_pos h0] at he; exact he
    obtain ⟨h1, h2, h3⟩ := vErr_zero h0
    rw [rd, bytes_cons, List.append_assoc, Sch.rdV_put c.ty 1 v _ h1 h2 h3 (hw v (by simp))]
    dsimp only
    rw [List.drop_left, rd_put r s vs (by simpa using h) he' (fun x hx => hw x (by simp [hx]))]
    simp
/-- what is read has just these bytes -/
theorem rd_ok : ∀ (s : List Col) (l : List UInt8) (vs : List V) (k : Nat), (∀ c ∈ s, Ty.check 1 c.ty = 0) → rd s l = .ok (vs, k) → vs.length = s.length ∧ k = (bytes vs).length ∧ (∃ r, l = bytes vs ++ r) ∧ colsErr s vs = 0 ∧ ∀ v ∈ vs, V.fix v = v ∧ v.wf
  | [], l, vs, k, _, h => by
    rw [rd] at h
    injection h with h
    injection h with h1 h2
    subst h1 h2
    exact ⟨rfl, rfl, ⟨l, rfl⟩, rfl, fun v hv => by cases hv⟩
  | c :: s, l, vs, k, ht, h => by
    rw [rd] at h
    split at h
    · cases h
    · next v k1 hv =>
      split at h
      · cases h
      · next vs' j hr =>
        injection h with h
        injection h with h1 h2
        subst h1 h2
        obtain ⟨a1, ⟨r1, a2⟩, a3, a4, a5, a6⟩ := Sch.rdV_ok c.ty 1 l v k1 (ht c (by simp)) hv
        obtain ⟨b1, b2, ⟨r2, b3⟩, b4, b5⟩ := rd_ok s (l.drop k1) vs' j (fun x hx => ht x (by simp [hx])) hr
        have e1 : l.drop k1 = r1 := by rw [a2, a1, List.drop_left]
        refine ⟨by simp [b1], by rw [bytes_cons, List.length_append, a1, b2], ⟨r2, by rw [bytes_cons, List.append_assoc, ← b3, e1]; exact a2⟩, ?_, fun x hx => ?_⟩
        · rw [colsErr, if_pos (vErr_make (ht c (by simp)) a3 a4)]
          exact b4
        · rcases List.mem_cons.1 hx with rfl | hx
          · exact ⟨a5, a6⟩
          · exact b5 x hx
theorem err_open {s : List Col} {vs : List V} (h : err s vs = 0) : Sch.err s = 0 ∧ vs.length = s.length ∧ colsErr s vs = 0 ∧ (bytes vs).length ≤ 1024 := by
  unfold err at h
  split at h
  · next h0 => exact absurd h h0
  · next h0 =>
    split at h
    · omega
    · next h1 =>
      split at h
      · next h2 => exact absurd h h2
      · next h2 =>
        split at h
        · omega
        · next h3 => exact ⟨by omega, by omega, by omega, by omega⟩
theorem err_make {s : List Col} {vs : List V} (h1 : Sch.err s = 0) (h2 : vs.length = s.length) (h3 : colsErr s vs = 0) (h4 : (bytes vs).length ≤ 1024) : err s vs = 0 := by
  unfold err
  rw [if_neg (by omega), if_neg (by omega), if_neg (by omega), if_neg (by omega)]
theorem types_ok {s : List Col} (h : Sch.err s = 0) : ∀ c ∈ s, Ty.check 1 c.ty = 0 := fun c hc => by
  obtain ⟨l', h'⟩ := Sch.colsErr_mem s [] (Sch.err_open h).2.2.1 c hc
  exact (Sch.col_open h').2.2.1
/-- P8.6: there and back -/
theorem read_put {s : List Col} {vs : List V} (h : err s vs = 0) (hw : ∀ v ∈ vs, v.wf) (a r : List UInt8) : read s (a ++ (bytes vs ++ r)) (a.length : Int) = .ok (vs.map V.fix, a.length + (bytes vs).length) := by
  obtain ⟨h1, h2, h3, h4⟩ := err_open h
  unfold read
  rw [if_neg (by omega), if_neg (by rw [List.length_append]; omega), Int.toNat_natCast, List.drop_left, rd_put r s vs h2 h3 hw]
  dsimp only
  rw [if_neg (by omega)]
/-- P8.6: back and there -/
theorem read_ok {s : List Col} {l : List UInt8} {a : Int} {vs : List V} {k : Nat} (h : read s l a = .ok (vs, k)) : 0 ≤ a ∧ a ≤ l.length ∧ k = a.toNat + (bytes vs).length ∧ k ≤ l.length ∧ (l.drop a.toNat).take (bytes vs).length = bytes vs ∧ err s vs = 0 ∧ ∀ v ∈ vs, V.fix v = v ∧ v.wf := by
  unfold read at h
  split at h
  · cases h
  · next h0 =>
    split at h
    · cases h
    · next h1 =>
      split at h
      · cases h
      · next vs' j hr =>
        split at h
        · cases h
        · next h2 =>
          injection h with h
          injection h with h3 h4
          subst h3 h4
          have h0' : Sch.err s = 0 := by omega
          obtain ⟨b1, b2, ⟨r, b3⟩, b4, b5⟩ := rd_ok s _ _ _ (types_ok h0') hr
          have hlen := congrArg List.length b3
          rw [List.length_drop, List.length_append] at hlen
          refine ⟨by omega, by omega, by rw [b2], by omega, by rw [b3, List.take_left], err_make h0' b1 b4 (by omega), b5⟩
/-- P8.7 -/
theorem begins {s : List Col} {q r : List V} (hq : err s q = 0) (hr : err s r = 0) (wq : ∀ v ∈ q, v.wf) (wr : ∀ v ∈ r, v.wf) : (∃ t, bytes r = bytes q ++ t) ↔ q.map V.fix = r.map V.fix := by
  obtain ⟨_, a2, a3, _⟩ := err_open hq
  obtain ⟨_, b2, b3, _⟩ := err_open hr
  constructor
  · rintro ⟨t, ht⟩
    have h1 := rd_put t s q a2 a3 wq
    have h2 := rd_put [] s r b2 b3 wr
    rw [List.append_nil, ht] at h2
    rw [h1] at h2
    injection h2 with h2
    injection h2 with h2 _
  · intro he
    refine ⟨[], ?_⟩
    rw [List.append_nil, ← bytes_fix r, ← bytes_fix q, he]
end Rw
end Go.Proofs.YtdahackmmhcjoaaGreat

/- Plain facts on binary64 words, without any program: what a finite word's magnitude is, that magnitudes rise with the word, which whole numbers have a word, and what cutting and rounding to whole numbers gives. -/
namespace Go.Proofs.YtdahackmmhcjoaaGreat.Flt
open Ieee

/-- the greatest unit: all magnitudes are counted in units of the least one, and one whole is this many of them -/
def bias : Nat := 1074
theorem bias_eq : bias = 1074 := rfl
def one : Nat := 2 ^ bias
theorem one_pos : 0 < one := Nat.two_pow_pos _

theorem lp : double.leastPlace = -1074 := by decide
theorem bin : double.binade = 4503599627370496 := by decide
theorem inf : double.infRung = 9218868437227405312 := by decide
theorem sw : double.signWeight = 9223372036854775808 := by decide

/-- a word's sign and rung -/
def neg (x : Nat) : Bool := x / 9223372036854775808 % 2 == 1
def rung (x : Nat) : Nat := x % 9223372036854775808
def mag (r : Nat) : Nat := if r < 4503599627370496 then r else 4503599627370496 + r % 4503599627370496
def ex (r : Nat) : Nat := r / 4503599627370496 - 1
/-- a rung's magnitude, in units -/
def units (r : Nat) : Nat := mag r * 2 ^ ex r

theorem read_fin {x : Nat} (h : rung x < 9218868437227405312) : double.read x = .number (neg x) (mag (rung x)) (-1074 + (ex (rung x) : Nat)) := by
  unfold Format.read
  simp only [lp, bin, inf, sw]
  change (if rung x < 4503599627370496 then Datum.number (neg x) (rung x) (-1074) else if rung x < 9218868437227405312 then Datum.number (neg x) (4503599627370496 + rung x % 4503599627370496) (-1074 + (rung x / 4503599627370496 - 1 : Nat)) else _) = _
  unfold mag ex
  by_cases h1 : rung x < 4503599627370496
  · rw [if_pos h1, if_pos h1]
    have : rung x / 4503599627370496 - 1 = 0 := by omega
    rw [this]; rfl
  · rw [if_neg h1, if_neg h1, if_pos h]

theorem read_inf {x : Nat} (h : rung x = 9218868437227405312) : double.read x = .infinity (neg x) := by
  unfold Format.read
  simp only [lp, bin, inf, sw]
  change (if rung x < 4503599627370496 then _ else if rung x < 9218868437227405312 then _ else if rung x = 9218868437227405312 then Datum.infinity (neg x) else _) = _
  rw [if_neg (by omega), if_neg (by omega), if_pos h]

theorem read_nan {x : Nat} (h : 9218868437227405312 < rung x) : double.read x = .nan (neg x) (rung x - 9218868437227405312) := by
  unfold Format.read
  simp only [lp, bin, inf, sw]
  change (if rung x < 4503599627370496 then _ else if rung x < 9218868437227405312 then _ else if rung x = 9218868437227405312 then _ else Datum.nan (neg x) (rung x - 9218868437227405312)) = _
  rw [if_neg (by omega), if_neg (by omega), if_neg (by omega)]

theorem mag_lt (r : Nat) : mag r < 9007199254740992 := by unfold mag; split <;> omega

theorem units_lt_succ (r : Nat) : units r < units (r + 1) := by
  unfold units mag ex
  by_cases h1 : r + 1 < 4503599627370496
  · rw [if_pos (by omega), if_pos h1]
    have a : r / 4503599627370496 - 1 = 0 := by omega
    have b : (r + 1) / 4503599627370496 - 1 = 0 := by omega
    rw [a, b]; omega
  · by_cases h2 : r < 4503599627370496
    · rw [if_pos h2, if_neg h1]
      have a : r / 4503599627370496 - 1 = 0 := by omega
      have b : (r + 1) / 4503599627370496 - 1 = 0 := by omega
      rw [a, b]; omega
    · rw [if_neg h2, if_neg h1]
      by_cases h3 : r % 4503599627370496 + 1 < 4503599627370496
      · have a : (r + 1) / 4503599627370496 = r / 4503599627370496 := by omega
        have b : (r + 1) % 4503599627370496 = r % 4503599627370496 + 1 := by omega
        rw [a, b]
        exact Nat.mul_lt_mul_of_pos_right (by omega) (Nat.two_pow_pos _)
      · have a : (r + 1) / 4503599627370496 - 1 = (r / 4503599627370496 - 1) + 1 := by omega
        have b : (r + 1) % 4503599627370496 = 0 := by omega
        have c : r % 4503599627370496 = 4503599627370495 := by omega
        rw [a, b, c, Nat.pow_succ, Nat.mul_comm (2 ^ _) 2, ← Nat.mul_assoc]
        exact Nat.mul_lt_mul_of_pos_right (by omega) (Nat.two_pow_pos _)

theorem units_lt {r s : Nat} (h : r < s) : units r < units s := by
  induction s with
  | zero => omega
  | succ s ih =>
    by_cases e : r = s
    · subst e; exact units_lt_succ r
    · exact Nat.lt_trans (ih (by omega)) (units_lt_succ s)

theorem units_inj {r s : Nat} (h : units r = units s) : r = s := by
  rcases Nat.lt_trichotomy r s with h1 | h1 | h1
  · have := units_lt h1; omega
  · exact h1
  · have := units_lt h1; omega

theorem units_lt_iff {r s : Nat} : units r < units s ↔ r < s := by
  constructor
  · intro h
    by_cases h1 : r < s
    · exact h1
    · by_cases e : r = s
      · subst e; omega
      · have := units_lt (show s < r by omega); omega
  · exact units_lt

/-- a finite word's number, in units -/
def sg (x : Nat) : Int := if neg x then -(units (rung x) : Int) else (units (rung x) : Int)

theorem signed_up (s : Bool) (m a b : Nat) : signed s m (a + b) = signed s m a * (2 ^ b : Nat) := by
  unfold signed
  cases s <;> simp [Nat.shiftLeft_eq, Nat.pow_add, Int.neg_mul, Int.mul_assoc]

theorem cmp_scale (a b : Int) (k : Nat) : compare (a * (2 ^ k : Nat)) (b * (2 ^ k : Nat)) = compare a b := by
  have hk : (0 : Int) < (2 ^ k : Nat) := by exact_mod_cast Nat.two_pow_pos k
  generalize ((2 ^ k : Nat) : Int) = c at hk
  rcases Int.lt_trichotomy a b with h | h | h
  · rw [Int.compare_eq_lt.2 h, Int.compare_eq_lt.2 (Int.mul_lt_mul_of_pos_right h hk)]
  · subst h; rw [Int.compare_eq_eq.2 rfl, Int.compare_eq_eq.2 rfl]
  · rw [Int.compare_eq_gt.2 h, Int.compare_eq_gt.2 (Int.mul_lt_mul_of_pos_right h hk)]

theorem signed_ex (x : Nat) : signed (neg x) (mag (rung x)) (ex (rung x)) = sg x := by
  unfold signed sg units
  simp [Nat.shiftLeft_eq]

theorem order_fin {x y : Nat} (hx : rung x < 9218868437227405312) (hy : rung y < 9218868437227405312) : double.order x y = some (compare (sg x) (sg y)) := by
  unfold Format.order
  rw [read_fin hx, read_fin hy]
  simp only [Datum.order]
  rw [← signed_ex x, ← signed_ex y]
  generalize ex (rung x) = i, ex (rung y) = j
  rcases Nat.le_total i j with h | h
  · obtain ⟨k, rfl⟩ := Nat.exists_eq_add_of_le h
    have a : (-1074 + (i : Int) - min (-1074 + (i : Int)) (-1074 + ((i + k : Nat) : Int))).toNat = 0 := by omega
    have b : (-1074 + ((i + k : Nat) : Int) - min (-1074 + (i : Int)) (-1074 + ((i + k : Nat) : Int))).toNat = k := by omega
    rw [a, b, ← cmp_scale _ _ i, ← signed_up, ← signed_up, Nat.zero_add, Nat.add_comm k i]
  · obtain ⟨k, rfl⟩ := Nat.exists_eq_add_of_le h
    have a : (-1074 + (j : Int) - min (-1074 + ((j + k : Nat) : Int)) (-1074 + (j : Int))).toNat = 0 := by omega
    have b : (-1074 + ((j + k : Nat) : Int) - min (-1074 + ((j + k : Nat) : Int)) (-1074 + (j : Int))).toNat = k := by omega
    rw [a, b, ← cmp_scale _ _ j, ← signed_up, ← signed_up, Nat.zero_add, Nat.add_comm k j]

theorem cut_zero (s : Bool) (n d : Nat) : Toward.zero.cut s n d = n / 2 ^ d := by
  unfold Toward.cut
  simp only [Bool.toNat_false, Nat.add_zero, Nat.shiftLeft_eq, Nat.one_mul]
  rcases Nat.le_total d (n.log2 + 2) with h | h
  · rw [Nat.min_eq_left h]
  · rw [Nat.min_eq_right h]
    have h1 : n < 2 ^ (n.log2 + 1) := Nat.lt_log2_self
    have h2 : 2 ^ (n.log2 + 1) ≤ 2 ^ (n.log2 + 2) := Nat.pow_le_pow_right (by omega) (by omega)
    have h3 : 2 ^ (n.log2 + 2) ≤ 2 ^ d := Nat.pow_le_pow_right (by omega) h
    rw [Nat.div_eq_of_lt (by omega), Nat.div_eq_of_lt (by omega)]

theorem cut_down (s : Bool) (n d : Nat) : Toward.down.cut s n d = n / 2 ^ d + (s && n % 2 ^ d != 0).toNat := by
  unfold Toward.cut
  simp only [Nat.shiftLeft_eq, Nat.one_mul]
  rcases Nat.le_total d (n.log2 + 2) with h | h
  · rw [Nat.min_eq_left h]
  · rw [Nat.min_eq_right h]
    have h1 : n < 2 ^ (n.log2 + 1) := Nat.lt_log2_self
    have h2 : 2 ^ (n.log2 + 1) ≤ 2 ^ (n.log2 + 2) := Nat.pow_le_pow_right (by omega) (by omega)
    have h3 : 2 ^ (n.log2 + 2) ≤ 2 ^ d := Nat.pow_le_pow_right (by omega) h
    rw [Nat.div_eq_of_lt (by omega), Nat.div_eq_of_lt (by omega), Nat.mod_eq_of_lt (by omega), Nat.mod_eq_of_lt (by omega)]

theorem cut_even_exact (s : Bool) (k d : Nat) : Toward.even.cut s (k * 2 ^ d) d = k := by
  unfold Toward.cut
  simp only [Nat.shiftLeft_eq, Nat.one_mul]
  rcases Nat.le_total d ((k * 2 ^ d).log2 + 2) with h | h
  · rw [Nat.min_eq_left h]
    have hp := Nat.two_pow_pos d
    rw [Nat.mul_div_cancel _ hp, Nat.mul_mod_left]
    have e1 : (2 ^ d < 2 * 0) = False := by simp
    have e2 : (2 ^ d == 2 * 0) = false := by
      rw [beq_eq_false_iff_ne]; omega
    simp [e2]
  · by_cases hk : k = 0
    · subst hk
      have h1 : (0 : Nat).log2 = 0 := by decide
      simp only [Nat.zero_mul] at h ⊢
      rw [Nat.min_eq_right h, h1]; decide
    · exfalso
      have hpos : k * 2 ^ d ≠ 0 := Nat.mul_ne_zero hk (by have := Nat.two_pow_pos d; omega)
      have h1 : k * 2 ^ d < 2 ^ ((k * 2 ^ d).log2 + 1) := Nat.lt_log2_self
      have h2 : 2 ^ d ≤ k * 2 ^ d := Nat.le_mul_of_pos_left _ (by omega)
      have h3 : 2 ^ ((k * 2 ^ d).log2 + 1) ≤ 2 ^ d := Nat.pow_le_pow_right (by omega) (by omega)
      omega

/-- the units of a rung, cut to wholes: as the model's shifts have it -/
theorem shift_div (m e : Nat) : (m <<< (-1074 + (e : Int)).toNat) / 2 ^ (-(-1074 + (e : Int))).toNat = m * 2 ^ e / one := by
  unfold one
  rw [Nat.shiftLeft_eq]
  rcases Nat.le_total bias e with h | h
  · obtain ⟨k, rfl⟩ := Nat.exists_eq_add_of_le h
    have a : (-1074 + ((bias + k : Nat) : Int)).toNat = k := by rw [bias_eq]; omega
    have b : (-(-1074 + ((bias + k : Nat) : Int))).toNat = 0 := by rw [bias_eq]; omega
    rw [a, b, Nat.pow_add, Nat.mul_comm (2 ^ bias), ← Nat.mul_assoc, Nat.mul_div_cancel _ (Nat.two_pow_pos _)]; simp
  · obtain ⟨k, hk⟩ := Nat.exists_eq_add_of_le h
    have a : (-1074 + (e : Int)).toNat = 0 := by rw [bias_eq] at h; omega
    have b : (-(-1074 + (e : Int))).toNat = k := by rw [bias_eq] at hk; omega
    rw [a, b, hk, Nat.pow_add, Nat.mul_comm (2 ^ e), Nat.mul_div_mul_right _ _ (Nat.two_pow_pos _)]; simp

theorem shift_mod (m e : Nat) : ((m <<< (-1074 + (e : Int)).toNat) % 2 ^ (-(-1074 + (e : Int))).toNat = 0) ↔ (m * 2 ^ e % one = 0) := by
  unfold one
  rw [Nat.shiftLeft_eq]
  rcases Nat.le_total bias e with h | h
  · obtain ⟨k, rfl⟩ := Nat.exists_eq_add_of_le h
    have b : (-(-1074 + ((bias + k : Nat) : Int))).toNat = 0 := by rw [bias_eq]; omega
    rw [b, Nat.pow_add, Nat.mul_comm (2 ^ bias), ← Nat.mul_assoc, Nat.mul_mod_left]; simp [Nat.mod_one]
  · obtain ⟨k, hk⟩ := Nat.exists_eq_add_of_le h
    have a : (-1074 + (e : Int)).toNat = 0 := by rw [bias_eq] at h; omega
    have b : (-(-1074 + (e : Int))).toNat = k := by rw [bias_eq] at hk; omega
    rw [a, b, hk, Nat.pow_add, Nat.mul_comm (2 ^ e) (2 ^ k), Nat.mul_mod_mul_right]
    have hp := Nat.two_pow_pos e
    rw [Nat.mul_eq_zero, Nat.pow_zero, Nat.mul_one]
    constructor
    · exact Or.inl
    · rintro (h1 | h1)
      · exact h1
      · omega

/-- int(x), and its kin: the units, cut to wholes -/
def trunc (x : Nat) : Int := if neg x then -((units (rung x) / one : Nat) : Int) else ((units (rung x) / one : Nat) : Int)

theorem toInt_fin {x : Nat} (hx : rung x < 9218868437227405312) : (double.read x).toInt .zero = some (trunc x) := by
  rw [read_fin hx]
  simp only [Datum.toInt, Datum.integral, cut_zero, shift_div]
  simp [signed, trunc, units]

/-- a word made of a sign and a rung -/
theorem word_eq {x : Nat} (h : x < 18446744073709551616) : double.word (neg x) (rung x) = x := by
  unfold Format.word neg rung
  rw [sw]
  by_cases h1 : x / 9223372036854775808 % 2 = 1
  · simp [h1]; omega
  · simp [h1]; omega

theorem rung_word (s : Bool) (r : Nat) (h : r < 9223372036854775808) : rung (double.word s r) = r := by
  unfold Format.word rung
  rw [sw]; cases s <;> simp <;> omega
theorem neg_word (s : Bool) (r : Nat) (h : r < 9223372036854775808) : neg (double.word s r) = s := by
  unfold Format.word neg
  rw [sw]; cases s <;> simp <;> omega

/-- the rung of a full significand -/
theorem units_full (k e : Nat) (h1 : 4503599627370496 ≤ k) (h2 : k < 9007199254740992) : units (e * 4503599627370496 + k) = k * 2 ^ e := by
  unfold units mag ex
  rw [if_neg (by omega)]
  have a : (e * 4503599627370496 + k) % 4503599627370496 = k - 4503599627370496 := by omega
  have b : (e * 4503599627370496 + k) / 4503599627370496 - 1 = e := by omega
  rw [a, b, show 4503599627370496 + (k - 4503599627370496) = k by omega]

theorem nearest_zero (s : Bool) : double.nearest s 0 0 = double.word s 0 := by simp [Format.nearest]

/-- A whole number whose units are those of a rung is written as that rung. -/
theorem nearest_exact (s : Bool) (n R : Nat) (hR : R < 9218868437227405312) (h : units R = n * one) : double.nearest s n 0 = double.word s R := by
  by_cases hn : n = 0
  · subst hn
    rw [Nat.zero_mul] at h
    have : units 0 = 0 := by decide
    rw [units_inj (h.trans this.symm)]
    exact nearest_zero s
  have h1 : 2 ^ n.log2 ≤ n := Nat.log2_self_le hn
  have h2 : n < 2 ^ (n.log2 + 1) := Nat.lt_log2_self
  -- the exponent of R is great enough
  have hex : n.log2 + 1022 ≤ ex R := by
    have hm := mag_lt R
    have hb : 2 ^ (n.log2 + bias) ≤ mag R * 2 ^ ex R := by
      rw [Nat.pow_add]
      have : units R = mag R * 2 ^ ex R := rfl
      rw [← this, h]
      exact Nat.mul_le_mul_right _ h1
    have hc : mag R * 2 ^ ex R < 2 ^ (53 + ex R) := by
      rw [Nat.pow_add]
      exact Nat.mul_lt_mul_of_pos_right (by simpa using hm) (Nat.two_pow_pos _)
    have := (Nat.pow_lt_pow_iff_right (by omega : 1 < 2)).1 (Nat.lt_of_le_of_lt hb hc)
    rw [bias_eq] at this
    omega
  obtain ⟨g, hg⟩ := Nat.exists_eq_add_of_le hex
  -- what is kept
  have key : ∃ k, 4503599627370496 ≤ k ∧ k < 9007199254740992 ∧ k * 2 ^ (n.log2 + 1022) = n * one ∧
      Toward.even.cut s (n <<< ((0 : Int) - max ((0 : Int) + (n.log2 : Int) - 52) (-1074)).toNat) (max ((0 : Int) + (n.log2 : Int) - 52) (-1074) - 0).toNat = k := by
    rcases Nat.le_total n.log2 52 with hl | hl
    · obtain ⟨d, hd⟩ := Nat.exists_eq_add_of_le hl
      have e1 : ((0 : Int) - max ((0 : Int) + (n.log2 : Int) - 52) (-1074)).toNat = d := by omega
      have e2 : (max ((0 : Int) + (n.log2 : Int) - 52) (-1074) - 0).toNat = 0 := by omega
      have p52 : 2 ^ n.log2 * 2 ^ d = 4503599627370496 := by rw [← Nat.pow_add, ← hd]
      have p53 : 2 ^ (n.log2 + 1) * 2 ^ d = 9007199254740992 := by rw [← Nat.pow_add, show n.log2 + 1 + d = 53 by omega]
      refine ⟨n * 2 ^ d, ?_, ?_, ?_, ?_⟩
      · rw [← p52]; exact Nat.mul_le_mul_right _ h1
      · rw [← p53]; exact Nat.mul_lt_mul_of_pos_right h2 (Nat.two_pow_pos _)
      · unfold one
        rw [Nat.mul_assoc, ← Nat.pow_add, show d + (n.log2 + 1022) = bias by rw [bias_eq]; omega]
      · rw [e1, e2, Nat.shiftLeft_eq]
        have := cut_even_exact s (n * 2 ^ d) 0
        simpa using this
    · obtain ⟨d, hd⟩ := Nat.exists_eq_add_of_le hl
      have e1 : ((0 : Int) - max ((0 : Int) + (n.log2 : Int) - 52) (-1074)).toNat = 0 := by omega
      have e2 : (max ((0 : Int) + (n.log2 : Int) - 52) (-1074) - 0).toNat = d := by omega
      -- 2 ^ d divides n
      have hdiv : n = mag R * 2 ^ g * 2 ^ d := by
        have : mag R * 2 ^ ex R = n * one := h
        rw [hg] at this
        unfold one at this
        have e3 : n.log2 + 1022 + g = (g + d) + bias := by rw [bias_eq]; omega
        rw [e3, Nat.pow_add, ← Nat.mul_assoc] at this
        have := Nat.eq_of_mul_eq_mul_right (Nat.two_pow_pos _) this
        rw [← this, Nat.pow_add, Nat.mul_assoc]
      have p52 : 2 ^ n.log2 = 4503599627370496 * 2 ^ d := by rw [hd, Nat.pow_add]
      have p53 : 2 ^ (n.log2 + 1) = 9007199254740992 * 2 ^ d := by rw [hd, show 52 + d + 1 = 53 + d by omega, Nat.pow_add]
      have hp := Nat.two_pow_pos d
      refine ⟨mag R * 2 ^ g, ?_, ?_, ?_, ?_⟩
      · refine Nat.le_of_mul_le_mul_right (c := 2 ^ d) ?_ hp
        rw [← hdiv, ← p52]; exact h1
      · refine Nat.lt_of_mul_lt_mul_right (a := 2 ^ d) ?_
        rw [← hdiv, ← p53]; exact h2
      · have : mag R * 2 ^ ex R = n * one := h
        rw [← this, hg, Nat.pow_add 2 (n.log2 + 1022) g, Nat.mul_assoc, Nat.mul_comm (2 ^ g)]
      · rw [e1, e2, Nat.shiftLeft_eq]
        have := cut_even_exact s (mag R * 2 ^ g) d
        rw [← hdiv] at this
        simpa using this
  obtain ⟨k, k1, k2, k3, k4⟩ := key
  have hlog : n.log2 < 1024 := by
    have hR' : ex R ≤ 2045 := by unfold ex; omega
    omega
  unfold Format.nearest
  rw [if_neg hn]
  simp only [lp, bin, inf, show double.fractionBits = 52 from rfl]
  have k4' : Toward.even.cut s (n <<< ((0 : Int) - max ((0 : Int) + (n.log2 : Int) - (52 : Nat)) (-1074)).toNat) (max ((0 : Int) + (n.log2 : Int) - (52 : Nat)) (-1074) - 0).toNat = k := k4
  rw [k4']
  have e5 : (max ((0 : Int) + (n.log2 : Int) - (52 : Nat)) (-1074) - (-1074 : Int)).toNat = n.log2 + 1022 := by omega
  rw [e5]
  have e6 : units ((n.log2 + 1022) * 4503599627370496 + k) = units R := by rw [units_full _ _ k1 k2, k3, h]
  have e7 := units_inj e6
  rw [e7, Nat.min_eq_left (by omega)]

/-- Every whole number up to 2 ^ 53 has a rung. -/
theorem small_rung (n : Nat) (h : n ≤ 9007199254740992) : ∃ R, R < 9218868437227405312 ∧ units R = n * one := by
  by_cases hn : n = 0
  · subst hn; exact ⟨0, by omega, by simp [units, mag]⟩
  by_cases hm : n = 9007199254740992
  · subst hm
    refine ⟨1075 * 4503599627370496 + 4503599627370496, by omega, ?_⟩
    rw [units_full _ _ (by omega) (by omega)]
    unfold one
    rw [show (1075 : Nat) = 1 + bias from rfl, Nat.pow_add, ← Nat.mul_assoc]
  have h1 : 2 ^ n.log2 ≤ n := Nat.log2_self_le hn
  have h2 : n < 2 ^ (n.log2 + 1) := Nat.lt_log2_self
  have hl : n.log2 ≤ 52 := by
    have : 2 ^ n.log2 < 2 ^ 53 := Nat.lt_of_le_of_lt h1 (by omega)
    have := (Nat.pow_lt_pow_iff_right (by omega : 1 < 2)).1 this
    omega
  obtain ⟨d, hd⟩ := Nat.exists_eq_add_of_le hl
  have p52 : 2 ^ n.log2 * 2 ^ d = 4503599627370496 := by rw [← Nat.pow_add, ← hd]
  have p53 : 2 ^ (n.log2 + 1) * 2 ^ d = 9007199254740992 := by rw [← Nat.pow_add, show n.log2 + 1 + d = 53 by omega]
  have k1 : 4503599627370496 ≤ n * 2 ^ d := by rw [← p52]; exact Nat.mul_le_mul_right _ h1
  have k2 : n * 2 ^ d < 9007199254740992 := by rw [← p53]; exact Nat.mul_lt_mul_of_pos_right h2 (Nat.two_pow_pos _)
  refine ⟨(n.log2 + 1022) * 4503599627370496 + n * 2 ^ d, by omega, ?_⟩
  rw [units_full _ _ k1 k2]
  unfold one
  rw [Nat.mul_assoc, ← Nat.pow_add, show d + (n.log2 + 1022) = bias by rw [bias_eq]; omega]

/-- A rung that is no whole number is below 2 ^ 52. -/
theorem part_small {r : Nat} (h : units r % one ≠ 0) : units r / one < 4503599627370496 := by
  have hm := mag_lt r
  have he : ex r < bias := by
    rcases Nat.lt_or_ge (ex r) bias with h1 | h1
    · exact h1
    · exfalso
      obtain ⟨k, hk⟩ := Nat.exists_eq_add_of_le h1
      apply h
      unfold units one
      rw [hk, Nat.pow_add, Nat.mul_comm (2 ^ bias), ← Nat.mul_assoc, Nat.mul_mod_left]
  obtain ⟨k, hk⟩ := Nat.exists_eq_add_of_lt he
  unfold units one
  rw [hk, Nat.pow_succ, Nat.pow_add, Nat.div_lt_iff_lt_mul (Nat.mul_pos (Nat.mul_pos (Nat.two_pow_pos _) (Nat.two_pow_pos _)) (by omega))]
  have p1 := Nat.two_pow_pos (ex r)
  have p2 := Nat.two_pow_pos k
  have e : 4503599627370496 * (2 ^ ex r * 2 ^ k * 2) = 9007199254740992 * 2 ^ ex r * 2 ^ k := by
    rw [Nat.mul_comm (2 ^ ex r * 2 ^ k) 2, ← Nat.mul_assoc, ← Nat.mul_assoc]
  rw [e]
  calc mag r * 2 ^ ex r < 9007199254740992 * 2 ^ ex r := Nat.mul_lt_mul_of_pos_right hm p1
    _ ≤ 9007199254740992 * 2 ^ ex r * 2 ^ k := Nat.le_mul_of_pos_right _ p2

theorem cmp_swap (a b : Int) : compare b a = (compare a b).swap := by
  rcases Int.lt_trichotomy a b with h | h | h
  · rw [Int.compare_eq_lt.2 h, Int.compare_eq_gt.2 h]; rfl
  · subst h; rw [Int.compare_eq_eq.2 rfl]; rfl
  · rw [Int.compare_eq_gt.2 h, Int.compare_eq_lt.2 h]; rfl

theorem order_swap (x y : Nat) : double.order y x = (double.order x y).map Ordering.swap := by
  unfold Format.order
  generalize double.read x = p, double.read y = q
  cases p <;> cases q <;> simp only [Datum.order, Option.map_some, Option.map_none]
  · rename_i s m i t n j
    rw [Int.min_comm j i, cmp_swap]
  · rename_i t; cases t <;> rfl
  · rename_i s _ _ _; cases s <;> rfl
  · rename_i s t; cases s <;> cases t <;> rfl

/-- x ≥ c, said as c ≤ x -/
theorem geq_leq (x c : Nat) : (double.order x c == some .gt || double.order x c == some .eq) = (double.order c x == some .lt || double.order c x == some .eq) := by
  rw [order_swap c x]
  cases double.order c x with
  | none => rfl
  | some o => cases o <;> rfl

/-- -2 ^ 63 ≤ x and x < 2 ^ 63, as the code asks it -/
def inR (x : Nat) : Bool := (double.order 14114281232179134464 x == some .lt || double.order 14114281232179134464 x == some .eq) && double.order x 4890909195324358656 == some .lt

theorem units_63 : units 4890909195324358656 = 9223372036854775808 * one := by
  have := units_full 4503599627370496 1085 (by omega) (by omega)
  rw [show 1085 * 4503599627370496 + 4503599627370496 = 4890909195324358656 by omega] at this
  rw [this]
  unfold one
  rw [show (1085 : Nat) = 11 + bias from rfl, Nat.pow_add, ← Nat.mul_assoc]

theorem sg_63 : sg 4890909195324358656 = 9223372036854775808 * (one : Int) := by
  unfold sg
  rw [show neg 4890909195324358656 = false by decide, show rung 4890909195324358656 = 4890909195324358656 by decide, units_63]
  simp
theorem sg_m63 : sg 14114281232179134464 = -(9223372036854775808 * (one : Int)) := by
  unfold sg
  rw [show neg 14114281232179134464 = true by decide, show rung 14114281232179134464 = 4890909195324358656 by decide, units_63]
  simp

theorem inR_fin {x : Nat} (h : inR x = true) : rung x < 9218868437227405312 := by
  rcases Nat.lt_trichotomy (rung x) 9218868437227405312 with h1 | h1 | h1
  · exact h1
  · exfalso
    unfold inR Format.order at h
    rw [read_inf h1, read_fin (x := 14114281232179134464) (by decide), read_fin (x := 4890909195324358656) (by decide)] at h
    cases hn : neg x <;> simp [hn, Datum.order] at h
  · exfalso
    unfold inR Format.order at h
    rw [read_nan h1] at h
    revert h
    cases double.read 14114281232179134464 <;> simp [Datum.order]

theorem inR_bounds {x : Nat} (h : inR x = true) : -(9223372036854775808 * (one : Int)) ≤ sg x ∧ sg x < 9223372036854775808 * (one : Int) := by
  have hf := inR_fin h
  unfold inR at h
  rw [order_fin (by decide) hf, order_fin hf (by decide), sg_63, sg_m63] at h
  simp only [Bool.and_eq_true, Bool.or_eq_true, beq_iff_eq, Option.some.injEq, Int.compare_eq_lt, Int.compare_eq_eq] at h
  omega

theorem trunc_bounds {x : Nat} (h : inR x = true) : -9223372036854775808 ≤ trunc x ∧ trunc x ≤ 9223372036854775807 := by
  obtain ⟨h1, h2⟩ := inR_bounds h
  have hp := one_pos
  unfold sg at h1 h2
  unfold trunc
  generalize hu : units (rung x) = u at *
  cases hn : neg x
  · simp only [hn, Bool.false_eq_true, if_false] at h1 h2 ⊢
    have h3 : u < 9223372036854775808 * one := by omega
    have h4 := (Nat.div_lt_iff_lt_mul hp).2 h3
    generalize u / one = q at h4
    omega
  · simp only [hn, if_true] at h1 h2 ⊢
    have h3 : u ≤ one * 9223372036854775808 := by omega
    have h4 := Nat.div_le_of_le_mul h3
    generalize u / one = q at h4
    omega

theorem toInt_val {x : Nat} (h : inR x = true) : floatToIntVal .f64 x .i64 = some (trunc x) := by
  unfold floatToIntVal
  have e : (FloatKind.f64.decode x).toInt .zero = some (trunc x) := toInt_fin (inR_fin h)
  rw [e]
  have := trunc_bounds h
  simp only
  rw [if_pos]
  exact this

/-- is it a whole number? -/
def whole (x : Nat) : Bool := units (rung x) % one == 0

theorem ofInt_eq (n : Int) : floatOfInt .f64 n = double.nearest (n < 0) n.natAbs 0 := rfl

theorem natAbs_trunc (x : Nat) : (trunc x).natAbs = units (rung x) / one := by
  unfold trunc
  generalize units (rung x) / one = q
  split <;> omega

theorem word_sg (s : Bool) (r : Nat) (h : r < 9223372036854775808) : sg (double.word s r) = if s then -(units r : Int) else (units r : Int) := by
  unfold sg
  rw [rung_word s r h, neg_word s r h]

theorem lt_inf {R : Nat} (h : R < 9218868437227405312) : R < 9223372036854775808 := by omega

/-- a finite word holds just the units of a whole number n: so it is told equal to the float of n, and to no other whole number's -/
theorem eq_whole {x n : Nat} {s : Bool} (hf : rung x < 9218868437227405312) (hn : n = units (rung x) / one ∨ n ≤ 9007199254740992 ∧ whole x = false) (hs : n = 0 ∨ s = neg x) :
    ∃ y, double.nearest s n 0 = y ∧ (whole x = true → rung y < 9218868437227405312) ∧ (whole x = false → rung y < 9218868437227405312) ∧ (whole x = true → n = units (rung x) / one → sg y = sg x ∧ y = double.word s (rung x)) ∧ (whole x = false → sg y ≠ sg x) := by
  cases hw : whole x
  · have hm : units (rung x) % one ≠ 0 := by simpa [whole] using hw
    have hsm : n ≤ 9007199254740992 := by
      rcases hn with h | h
      · have := part_small hm; omega
      · exact h.1
    obtain ⟨R, hR, hu⟩ := small_rung n hsm
    refine ⟨_, nearest_exact s n R hR hu, by simp, fun _ => by rw [rung_word _ _ (lt_inf hR)]; exact hR, by simp, fun _ hc => ?_⟩
    rw [word_sg _ _ (lt_inf hR), hu] at hc
    unfold sg at hc
    apply hm
    have hcast : ((n * one : Nat) : Int) = (units (rung x) : Int) ∨ ((n * one : Nat) : Int) = -(units (rung x) : Int) := by
      cases s <;> cases neg x <;> simp only [Bool.false_eq_true, if_false, if_true] at hc <;> omega
    have : units (rung x) = n * one := by omega
    rw [this, Nat.mul_mod_left]
  · have hm : units (rung x) % one = 0 := by simpa [whole] using hw
    have hn' : n = units (rung x) / one := by
      rcases hn with h | h
      · exact h
      · rw [hw] at h; simp at h
    have hu : units (rung x) = n * one := by
      have := Nat.div_add_mod (units (rung x)) one
      rw [hm, Nat.mul_comm] at this
      rw [hn']; omega
    refine ⟨_, nearest_exact s n (rung x) hf hu, fun _ => by rw [rung_word _ _ (lt_inf hf)]; exact hf, by simp, fun _ _ => ⟨?_, rfl⟩, by simp⟩
    rw [word_sg _ _ (lt_inf hf)]
    unfold sg
    rcases hs with h | h
    · have h0 : units (rung x) = 0 := by rw [hu, h, Nat.zero_mul]
      rw [h0]; simp
    · rw [h]

theorem trunc_sign (x : Nat) : (trunc x).natAbs = 0 ∨ decide (trunc x < 0) = neg x := by
  unfold trunc
  generalize units (rung x) / one = u
  cases neg x <;> simp <;> omega

/-- float64(int64(x)) == x: just where x is whole -/
theorem back_whole {x : Nat} (hf : rung x < 9218868437227405312) : (double.order (floatOfInt .f64 (trunc x)) x == some .eq) = whole x := by
  rw [ofInt_eq]
  obtain ⟨y, h1, h2, h3, h4, h5⟩ := eq_whole (x := x) (n := (trunc x).natAbs) (s := decide (trunc x < 0)) hf (.inl (natAbs_trunc x)) (trunc_sign x)
  rw [h1]
  cases hw : whole x
  · rw [order_fin (h3 hw) hf]
    have := h5 hw
    simp [this]
  · rw [order_fin (h2 hw) hf, (h4 hw (natAbs_trunc x)).1]
    simp

/-- the float of a whole float's whole number is that float, but for the minus nought -/
theorem back_exact {x : Nat} (hx : x < 18446744073709551616) (hf : rung x < 9218868437227405312) (hw : whole x = true) (hz : x ≠ 9223372036854775808) : floatOfInt .f64 (trunc x) = x := by
  rw [ofInt_eq]
  obtain ⟨y, h1, h2, h3, h4, h5⟩ := eq_whole (x := x) (n := (trunc x).natAbs) (s := decide (trunc x < 0)) hf (.inl (natAbs_trunc x)) (trunc_sign x)
  rw [h1, (h4 hw (natAbs_trunc x)).2]
  rcases trunc_sign x with h | h
  · have hu : units (rung x) = units 0 := by
      have hm : units (rung x) % one = 0 := by simpa [whole] using hw
      have := Nat.div_add_mod (units (rung x)) one
      rw [hm, ← natAbs_trunc, h] at this
      rw [show units 0 = 0 by decide]; omega
    have hr := units_inj hu
    have h0 : x = 0 := by unfold rung at hr; omega
    subst h0
    have ht : decide (trunc 0 < 0) = false := by
      rw [decide_eq_false_iff_not]; omega
    rw [ht]; decide
  · rw [h]; exact word_eq hx

/-- Floor(x)'s bits -/
def floorB (x : Nat) : Nat := FloatKind.f64.encode ((FloatKind.f64.decode x).integral .down)

theorem floorB_eq {x : Nat} (hf : rung x < 9218868437227405312) : floorB x = double.nearest (neg x) (units (rung x) / one + (neg x && units (rung x) % one != 0).toNat) 0 := by
  have e : FloatKind.f64.decode x = .number (neg x) (mag (rung x)) (-1074 + (ex (rung x) : Nat)) := read_fin hf
  unfold floorB
  rw [e]
  simp only [Datum.integral, cut_down, shift_div]
  have hm := shift_mod (mag (rung x)) (ex (rung x))
  have hb : ((mag (rung x) <<< (-1074 + (ex (rung x) : Int)).toNat) % 2 ^ (-(-1074 + (ex (rung x) : Int))).toNat != 0) = (units (rung x) % one != 0) := by
    rw [Bool.eq_iff_iff]; simp only [bne_iff_ne, ne_eq]; unfold units; rw [hm]
  rw [hb]; rfl

/-- x == Floor(x): just where x is whole -/
theorem floor_whole {x : Nat} (hf : rung x < 9218868437227405312) : (double.order x (floorB x) == some .eq) = whole x := by
  rw [floorB_eq hf]
  have hn : units (rung x) / one + (neg x && units (rung x) % one != 0).toNat = units (rung x) / one ∨ units (rung x) / one + (neg x && units (rung x) % one != 0).toNat ≤ 9007199254740992 ∧ whole x = false := by
    cases hw : whole x
    · have hm : units (rung x) % one ≠ 0 := by simpa [whole] using hw
      have := part_small hm
      have hle : (neg x && units (rung x) % one != 0).toNat ≤ 1 := Bool.toNat_le _
      right; exact ⟨by omega, rfl⟩
    · have hm : units (rung x) % one = 0 := by simpa [whole] using hw
      left; rw [hm]; simp
  obtain ⟨y, h1, h2, h3, h4, h5⟩ := eq_whole (x := x) (n := units (rung x) / one + (neg x && units (rung x) % one != 0).toNat) (s := neg x) hf hn (.inr rfl)
  rw [h1]
  cases hw : whole x
  · rw [order_fin hf (h3 hw)]
    have := h5 hw
    simp [Ne.symm this]
  · have hm : units (rung x) % one = 0 := by simpa [whole] using hw
    have hn2 : units (rung x) / one + (neg x && units (rung x) % one != 0).toNat = units (rung x) / one := by rw [hm]; simp
    rw [order_fin hf (h2 hw), (h4 hw hn2).1]
    simp

theorem units_le {r s : Nat} (h : r ≤ s) : units r ≤ units s := by
  by_cases e : r = s
  · rw [e]; exact Nat.le_refl _
  · exact Nat.le_of_lt (units_lt (by omega))

/-- x > the greatest float: just the infinity -/
theorem gt_max {x : Nat} (hx : x < 18446744073709551616) : (double.order x 9218868437227405311 == some .gt) = (x == 9218868437227405312) := by
  rcases Nat.lt_trichotomy (rung x) 9218868437227405312 with h | h | h
  · rw [order_fin h (by decide)]
    have h1 : sg x ≤ sg 9218868437227405311 := by
      have a : sg 9218868437227405311 = (units 9218868437227405311 : Int) := by
        unfold sg
        rw [show neg 9218868437227405311 = false by decide, show rung 9218868437227405311 = 9218868437227405311 by decide]
        simp
      have b := units_le (show rung x ≤ 9218868437227405311 by omega)
      rw [a]; unfold sg
      split <;> omega
    have h2 : compare (sg x) (sg 9218868437227405311) ≠ .gt := by
      rw [Ne, Int.compare_eq_gt]; omega
    have h3 : x ≠ 9218868437227405312 := by
      rintro rfl
      revert h; decide
    rw [beq_eq_false_iff_ne.2 h3, beq_eq_false_iff_ne]
    intro hc
    exact h2 (Option.some.inj hc)
  · unfold Format.order
    rw [read_inf h, read_fin (x := 9218868437227405311) (by decide)]
    simp only [Datum.order]
    unfold rung at h
    unfold neg
    by_cases h1 : x < 9223372036854775808
    · have a : x = 9218868437227405312 := by omega
      subst a; decide
    · have a : x = 9218868437227405312 + 9223372036854775808 := by omega
      subst a; decide
  · unfold Format.order
    rw [read_nan h]
    have h3 : x ≠ 9218868437227405312 := by
      rintro rfl
      revert h; decide
    simp [Datum.order, h3]

theorem xor_low {x : Nat} (h : x < 9223372036854775808) : x ^^^ 9223372036854775808 = 9223372036854775808 + x := by
  have e : (9223372036854775808 : Nat) = 2 ^ 63 := by decide
  rw [e] at h ⊢
  apply Nat.eq_of_testBit_eq
  intro i
  rw [Nat.testBit_xor, Nat.testBit_two_pow]
  rcases Nat.lt_trichotomy i 63 with h1 | h1 | h1
  · rw [Nat.testBit_two_pow_add_gt h1]
    have : ¬ 63 = i := by omega
    simp [this]
  · subst h1
    rw [Nat.testBit_two_pow_add_eq]
    simp
  · have a : x < 2 ^ i := Nat.lt_of_lt_of_le h (Nat.pow_le_pow_right (by omega) (by omega))
    have b : 2 ^ 63 + x < 2 ^ i := by
      have : 2 ^ 64 ≤ 2 ^ i := Nat.pow_le_pow_right (by omega) (by omega)
      omega
    rw [Nat.testBit_lt_two_pow a, Nat.testBit_lt_two_pow b]
    have : ¬ 63 = i := by omega
    simp [this]

/-- -x -/
theorem neg_eq {x : Nat} (hx : x < 18446744073709551616) : Op.negFloat .f64 x = if x < 9223372036854775808 then 9223372036854775808 + x else x - 9223372036854775808 := by
  have e : Op.negFloat .f64 x = x ^^^ 9223372036854775808 := rfl
  rw [e]
  split
  · rename_i h; exact xor_low h
  · rename_i h
    have a := xor_low (x := x - 9223372036854775808) (by omega)
    have b : 9223372036854775808 + (x - 9223372036854775808) = x := by omega
    rw [b] at a
    generalize x - 9223372036854775808 = y at a
    rw [← a, Nat.xor_assoc, Nat.xor_self, Nat.xor_zero]

theorem gt_max_neg {x : Nat} (hx : x < 18446744073709551616) : (double.order (Op.negFloat .f64 x) 9218868437227405311 == some .gt) = (x == 18442240474082181120) := by
  rw [neg_eq hx]
  split
  · rename_i h
    rw [gt_max (by omega), Bool.eq_iff_iff]; simp; omega
  · rename_i h
    rw [gt_max (by omega), Bool.eq_iff_iff]; simp; omega

/-- x != x: just the words beyond the infinities -/
theorem nan_iff (x : Nat) : (double.order x x != some .eq) = decide (9218868437227405312 < rung x) := by
  rcases Nat.lt_trichotomy (rung x) 9218868437227405312 with h | h | h
  · rw [order_fin h h]
    have : ¬ 9218868437227405312 < rung x := by omega
    simp [this]
  · unfold Format.order
    rw [read_inf h]
    have : ¬ 9218868437227405312 < rung x := by omega
    simp [Datum.order, this]
  · unfold Format.order
    rw [read_nan h]
    simp [Datum.order, h]
end Go.Proofs.YtdahackmmhcjoaaGreat.Flt

/- The walks of package real's ToInt and FromInt (wip/real/WInt.lean.t over a dump that lists no variable). -/
namespace Go.Proofs.YtdahackmmhcjoaaGreat
open Go.RowKit

/-- is it a whole number of 64 bits, and not the minus nought? -/
def okB (x : Nat) : Bool := Flt.inR x && !((fixB x : Int) == 9223372036854775808) && Flt.whole x
/-- what ToInt tells -/
def toN (x : Nat) : Int := if okB x then Flt.trunc x else 0
def toE (x : Nat) : Int := if okB x then 0 else 10

set_option maxHeartbeats 400000 in
theorem isMinusZero_any (x : Nat) (w : World) :
    Calls Tryz.prog 88 #[.float .f64 x] w fun e w' => e = .returned (.bool ((fixB x : Int) == 9223372036854775808)) ∧ w' = w := by
  go_enter Tryz.func88, Tryz.ntmps88
  go_wp2_with (go_at_call 103; refine (realBits_any _ _).mono ?_; rintro e w' ⟨rfl, rfl⟩)
  go_ret
  exact ⟨rfl, rfl⟩

theorem inR_f {x : Nat} (h : Flt.inR x = false) : (FloatKind.f64.format.order 14114281232179134464 x == some .lt || FloatKind.f64.format.order 14114281232179134464 x == some .eq) = false ∨ (FloatKind.f64.format.order 14114281232179134464 x == some .lt || FloatKind.f64.format.order 14114281232179134464 x == some .eq) = true ∧ (FloatKind.f64.format.order x 4890909195324358656 == some .lt) = false := by
  have h' : ((FloatKind.f64.format.order 14114281232179134464 x == some .lt || FloatKind.f64.format.order 14114281232179134464 x == some .eq) && FloatKind.f64.format.order x 4890909195324358656 == some .lt) = false := h
  rw [Bool.and_eq_false_iff] at h'
  rcases h' with h' | h'
  · exact .inl h'
  · cases ha : (FloatKind.f64.format.order 14114281232179134464 x == some .lt || FloatKind.f64.format.order 14114281232179134464 x == some .eq)
    · exact .inl rfl
    · exact .inr ⟨rfl, h'⟩
theorem inR_t {x : Nat} (h : Flt.inR x = true) : (FloatKind.f64.format.order 14114281232179134464 x == some .lt || FloatKind.f64.format.order 14114281232179134464 x == some .eq) = true ∧ (FloatKind.f64.format.order x 4890909195324358656 == some .lt) = true := by
  have h' : ((FloatKind.f64.format.order 14114281232179134464 x == some .lt || FloatKind.f64.format.order 14114281232179134464 x == some .eq) && FloatKind.f64.format.order x 4890909195324358656 == some .lt) = true := h
  rw [Bool.and_eq_true] at h'
  exact h'

theorem isMZ_t (x : Nat) (h : ((fixB x : Int) == 9223372036854775808) = true) (w : World) :
    Calls Tryz.prog 88 #[.float .f64 x] w fun e w' => e = .returned (.bool true) ∧ w' = w := by
  refine (isMinusZero_any x w).mono ?_
  rintro e w' ⟨rfl, rfl⟩; exact ⟨by rw [h], rfl⟩
theorem isMZ_f (x : Nat) (h : ((fixB x : Int) == 9223372036854775808) = false) (w : World) :
    Calls Tryz.prog 88 #[.float .f64 x] w fun e w' => e = .returned (.bool false) ∧ w' = w := by
  refine (isMinusZero_any x w).mono ?_
  rintro e w' ⟨rfl, rfl⟩; exact ⟨by rw [h], rfl⟩

theorem run_to_int (x : Nat) (n : Int) (w : World) (h : floatToIntVal .f64 x .i64 = some n) : (convert 33 2 (.float .f64 x)).run Tryz.prog w = .ok (.int .i64 n) w :=
  run_convert_float_int w 33 2 .f64 .i64 x n (by rw [Tryz.underlying33]; rfl) Tryz.underlying2 h

set_option maxHeartbeats 400000 in
theorem realToInt_any (x : Nat) (w : World) :
    Calls Tryz.prog 67 #[.float .f64 x] w fun e w' => e = .returned (.tuple #[.int .i64 (toN x), .int .i64 (toE x)]) ∧ w' = w := by
  cases hr : Flt.inR x
  · have e1 : toN x = 0 := by simp [toN, okB, hr]
    have e2 : toE x = 10 := by simp [toE, okB, hr]
    rw [e1, e2]
    rcases inR_f hr with h | ⟨h, h'⟩
    all_goals
      clear hr e1 e2
      go_enter Tryz.func67, Tryz.ntmps67
      go_wp2
      go_ret2
      exact ⟨rfl, rfl⟩
  · obtain ⟨h, h'⟩ := inR_t hr
    cases hz : ((fixB x : Int) == 9223372036854775808)
    · have hc : ∀ w, (convert 33 2 (.float .f64 x)).run Tryz.prog w = .ok (.int .i64 (Flt.trunc x)) w := fun w => run_to_int x _ w (Flt.toInt_val hr)
      cases hw : Flt.whole x
      · have hb : (FloatKind.f64.format.order (floatOfInt .f64 (Flt.trunc x)) x != some .eq) = true := by
          have := Flt.back_whole (Flt.inR_fin hr)
          rw [hw] at this
          exact congrArg not this
        have e1 : toN x = 0 := by simp [toN, okB, hw]
        have e2 : toE x = 10 := by simp [toE, okB, hw]
        rw [e1, e2]
        clear hr e1 e2 hw
        go_enter Tryz.func67, Tryz.ntmps67
        go_wp2_with (go_at_call 88; refine (isMZ_f _ hz _).mono ?_; rintro e w' ⟨rfl, rfl⟩)
        go_ret2
        exact ⟨rfl, rfl⟩
      · have hb : (FloatKind.f64.format.order (floatOfInt .f64 (Flt.trunc x)) x != some .eq) = false := by
          have := Flt.back_whole (Flt.inR_fin hr)
          rw [hw] at this
          exact congrArg not this
        have e1 : toN x = Flt.trunc x := by simp [toN, okB, hw, hr, hz]
        have e2 : toE x = 0 := by simp [toE, okB, hw, hr, hz]
        rw [e1, e2]
        clear hr e1 e2 hw
        go_enter Tryz.func67, Tryz.ntmps67
        go_wp2_with (go_at_call 88; refine (isMZ_f _ hz _).mono ?_; rintro e w' ⟨rfl, rfl⟩)
        go_ret2
        exact ⟨rfl, rfl⟩
    · have e1 : toN x = 0 := by simp [toN, okB, hz]
      have e2 : toE x = 10 := by simp [toE, okB, hz]
      rw [e1, e2]
      clear hr e1 e2
      go_enter Tryz.func67, Tryz.ntmps67
      go_wp2_with (go_at_call 88; refine (isMZ_t _ hz _).mono ?_; rintro e w' ⟨rfl, rfl⟩)
      go_ret2
      exact ⟨rfl, rfl⟩

/-- what FromInt tells -/
def fromOk (n : Int) : Bool := (toE (floatOfInt .f64 n) == 0) && (toN (floatOfInt .f64 n) == n)
def fromB (n : Int) : Nat := if fromOk n then floatOfInt .f64 n else 0
def fromE (n : Int) : Int := if fromOk n then 0 else 10

theorem from_cases (n : Int) : (toE (floatOfInt .f64 n) != 0) = true ∧ fromOk n = false ∨ (toE (floatOfInt .f64 n) != 0) = false ∧ (toN (floatOfInt .f64 n) != n) = true ∧ fromOk n = false ∨ (toE (floatOfInt .f64 n) != 0) = false ∧ (toN (floatOfInt .f64 n) != n) = false ∧ fromOk n = true := by
  unfold fromOk bne
  cases toE (floatOfInt .f64 n) == 0 <;> cases toN (floatOfInt .f64 n) == n <;> simp

set_option maxHeartbeats 400000 in
theorem realFromInt_any (n : Int) (w : World) :
    Calls Tryz.prog 66 #[.int .i64 n] w fun e w' => e = .returned (.tuple #[.float .f64 (fromB n), .int .i64 (fromE n)]) ∧ w' = w := by
  rcases from_cases n with ⟨h, ho⟩ | ⟨h, h', ho⟩ | ⟨h, h', ho⟩
  · have e1 : fromB n = 0 := by simp [fromB, ho]
    have e2 : fromE n = 10 := by simp [fromE, ho]
    rw [e1, e2]
    clear ho e1 e2
    go_enter Tryz.func66, Tryz.ntmps66
    go_wp2_with (go_at_call 67; refine (realToInt_any _ _).mono ?_; rintro e w' ⟨rfl, rfl⟩)
    go_ret2
    exact ⟨rfl, rfl⟩
  · have e1 : fromB n = 0 := by simp [fromB, ho]
    have e2 : fromE n = 10 := by simp [fromE, ho]
    rw [e1, e2]
    clear ho e1 e2
    go_enter Tryz.func66, Tryz.ntmps66
    go_wp2_with (go_at_call 67; refine (realToInt_any _ _).mono ?_; rintro e w' ⟨rfl, rfl⟩)
    go_ret2
    exact ⟨rfl, rfl⟩
  · have e1 : fromB n = floatOfInt .f64 n := by simp [fromB, ho]
    have e2 : fromE n = 0 := by simp [fromE, ho]
    rw [e1, e2]
    clear ho e1 e2
    go_enter Tryz.func66, Tryz.ntmps66
    go_wp2_with (go_at_call 67; refine (realToInt_any _ _).mono ?_; rintro e w' ⟨rfl, rfl⟩)
    go_ret2
    exact ⟨rfl, rfl⟩
end Go.Proofs.YtdahackmmhcjoaaGreat

/- The walks of the document's own ToInt and FromInt: they tell what package real's tell. -/
namespace Go.Proofs.YtdahackmmhcjoaaGreat
open Go.RowKit

theorem floor_at (nm : String) (way : Ieee.Toward) (x : Nat) (s : Bool) (m : Nat) (i : Int) (h : FloatKind.f64.decode x = .number s m i) :
    Extern.MathFloor.toIntegral nm way #[.float .f64 x] = pure (.float .f64 (FloatKind.f64.encode ((Ieee.Datum.number s m i).integral way))) := by
  conv => lhs; whnf
  rw [h]
theorem floor_find : Extern.find Tryz.f93 = some (Extern.MathFloor.toIntegral "math.archFloor" .down) := by kernel_rfl
theorem run_floor {x : Nat} (hf : Flt.rung x < 9218868437227405312) (w : World) : (callFunc 93 #[.float .f64 x]).run Tryz.prog w = .ok (.value (.float .f64 (Flt.floorB x))) w := by
  rw [run_callFunc_extern Tryz.func93 (by kernel_rfl) (by kernel_rfl) (by kernel_rfl) floor_find]
  have e : FloatKind.f64.decode x = .number (Flt.neg x) (Flt.mag (Flt.rung x)) (-1074 + (Flt.ex (Flt.rung x) : Nat)) := Flt.read_fin hf
  unfold Flt.floorB
  rw [floor_at _ _ _ _ _ _ e, e]
  rfl

set_option maxHeartbeats 400000 in
theorem floor_any (x : Nat) (hf : Flt.rung x < 9218868437227405312) (w : World) :
    Calls Tryz.prog 77 #[.float .f64 x] w fun e w' => e = .returned (.float .f64 (Flt.floorB x)) ∧ w' = w := by
  have hr : ∀ w, (callFunc 93 #[.float .f64 x]).run Tryz.prog w = .ok (.value (.float .f64 (Flt.floorB x))) w := fun w => run_floor hf w
  clear hf
  go_enter Tryz.func77, Tryz.ntmps77
  go_wp2
  go_ret
  exact ⟨rfl, rfl⟩

theorem geq_f {x : Nat} (h : (FloatKind.f64.format.order 14114281232179134464 x == some .lt || FloatKind.f64.format.order 14114281232179134464 x == some .eq) = false) : (FloatKind.f64.format.order x 14114281232179134464 == some .gt || FloatKind.f64.format.order x 14114281232179134464 == some .eq) = false := (Flt.geq_leq x 14114281232179134464).trans h
theorem geq_t {x : Nat} (h : (FloatKind.f64.format.order 14114281232179134464 x == some .lt || FloatKind.f64.format.order 14114281232179134464 x == some .eq) = true) : (FloatKind.f64.format.order x 14114281232179134464 == some .gt || FloatKind.f64.format.order x 14114281232179134464 == some .eq) = true := (Flt.geq_leq x 14114281232179134464).trans h

set_option maxHeartbeats 400000 in
theorem refToInt_any (x : Nat) (w : World) :
    Calls Tryz.prog 54 #[.float .f64 x] w fun e w' => e = .returned (.tuple #[.int .i64 (toN x), .int .i64 (toE x)]) ∧ w' = w := by
  cases hr : Flt.inR x
  · have e1 : toN x = 0 := by simp [toN, okB, hr]
    have e2 : toE x = 10 := by simp [toE, okB, hr]
    rw [e1, e2]
    rcases inR_f hr with h | ⟨h, h'⟩
    · have h1 := geq_f h
      clear hr e1 e2 h
      go_enter Tryz.func54, Tryz.ntmps54
      go_wp2
      go_ret2
      exact ⟨rfl, rfl⟩
    · have h1 := geq_t h
      clear hr e1 e2 h
      go_enter Tryz.func54, Tryz.ntmps54
      go_wp2
      go_ret2
      exact ⟨rfl, rfl⟩
  · obtain ⟨h, h'⟩ := inR_t hr
    have h1 := geq_t h
    have hf := Flt.inR_fin hr
    clear h
    cases hw : Flt.whole x
    · have hb : (FloatKind.f64.format.order x (Flt.floorB x) != some .eq) = true := by
        have := Flt.floor_whole hf
        rw [hw] at this
        exact congrArg not this
      have e1 : toN x = 0 := by simp [toN, okB, hw]
      have e2 : toE x = 10 := by simp [toE, okB, hw]
      rw [e1, e2]
      have HF := Lib.hid hf
      clear hr e1 e2 hw hf
      go_enter Tryz.func54, Tryz.ntmps54
      go_wp2_with (go_at_call 77; refine (floor_any _ HF.out _).mono ?_; rintro e w' ⟨rfl, rfl⟩)
      go_ret2
      exact ⟨rfl, rfl⟩
    · have hb : (FloatKind.f64.format.order x (Flt.floorB x) != some .eq) = false := by
        have := Flt.floor_whole hf
        rw [hw] at this
        exact congrArg not this
      cases hz : ((fixB x : Int) == 9223372036854775808)
      · have hc : ∀ w, (convert 33 2 (.float .f64 x)).run Tryz.prog w = .ok (.int .i64 (Flt.trunc x)) w := fun w => run_to_int x _ w (Flt.toInt_val hr)
        have e1 : toN x = Flt.trunc x := by simp [toN, okB, hw, hr, hz]
        have e2 : toE x = 0 := by simp [toE, okB, hw, hr, hz]
        rw [e1, e2]
        have HF := Lib.hid hf
        clear hr e1 e2 hw hf
        go_enter Tryz.func54, Tryz.ntmps54
        go_wp2_with (first | (go_at_call 77; refine (floor_any _ HF.out _).mono ?_; rintro e w' ⟨rfl, rfl⟩) | (go_at_call 78; refine (refBits_any _ _).mono ?_; rintro e w' ⟨rfl, rfl⟩))
        go_ret2
        exact ⟨rfl, rfl⟩
      · have e1 : toN x = 0 := by simp [toN, okB, hz]
        have e2 : toE x = 10 := by simp [toE, okB, hz]
        rw [e1, e2]
        have HF := Lib.hid hf
        clear hr e1 e2 hw hf
        go_enter Tryz.func54, Tryz.ntmps54
        go_wp2_with (first | (go_at_call 77; refine (floor_any _ HF.out _).mono ?_; rintro e w' ⟨rfl, rfl⟩) | (go_at_call 78; refine (refBits_any _ _).mono ?_; rintro e w' ⟨rfl, rfl⟩))
        go_ret2
        exact ⟨rfl, rfl⟩

set_option maxHeartbeats 400000 in
theorem refFromInt_any (n : Int) (w : World) :
    Calls Tryz.prog 53 #[.int .i64 n] w fun e w' => e = .returned (.tuple #[.float .f64 (fromB n), .int .i64 (fromE n)]) ∧ w' = w := by
  rcases from_cases n with ⟨h, ho⟩ | ⟨h, h', ho⟩ | ⟨h, h', ho⟩
  · have e1 : fromB n = 0 := by simp [fromB, ho]
    have e2 : fromE n = 10 := by simp [fromE, ho]
    rw [e1, e2]
    clear ho e1 e2
    go_enter Tryz.func53, Tryz.ntmps53
    go_wp2_with (go_at_call 54; refine (refToInt_any _ _).mono ?_; rintro e w' ⟨rfl, rfl⟩)
    go_ret2
    exact ⟨rfl, rfl⟩
  · have e1 : fromB n = 0 := by simp [fromB, ho]
    have e2 : fromE n = 10 := by simp [fromE, ho]
    rw [e1, e2]
    clear ho e1 e2
    go_enter Tryz.func53, Tryz.ntmps53
    go_wp2_with (go_at_call 54; refine (refToInt_any _ _).mono ?_; rintro e w' ⟨rfl, rfl⟩)
    go_ret2
    exact ⟨rfl, rfl⟩
  · have e1 : fromB n = floatOfInt .f64 n := by simp [fromB, ho]
    have e2 : fromE n = 0 := by simp [fromE, ho]
    rw [e1, e2]
    clear ho e1 e2
    go_enter Tryz.func53, Tryz.ntmps53
    go_wp2_with (go_at_call 54; refine (refToInt_any _ _).mono ?_; rintro e w' ⟨rfl, rfl⟩)
    go_ret2
    exact ⟨rfl, rfl⟩
end Go.Proofs.YtdahackmmhcjoaaGreat

/- Plain: values read as values of another type, rows under another schema, some columns of a schema; what the document says of them (P9.1 to P9.4). -/
namespace Go.Proofs.YtdahackmmhcjoaaGreat
namespace Rz

/-- of each, or the first error -/
def allR {α β : Type} (f : α → Except Nat β) : List α → Except Nat (List β)
  | [] => .ok []
  | x :: r => match f x with
    | .error e => .error e
    | .ok y => match allR f r with
      | .error e => .error e
      | .ok ys => .ok (y :: ys)

/-- kinds neither of which is Opt -/
def plain (a b : Int) : Bool := !(a == 7) && !(b == 7) && (a == b || (a == 2 && b == 3) || (a == 3 && b == 2) || (a == 1 && b == 2) || (a == 4 && b == 5) || (a == 5 && b == 4))
/-- can a type be read as another one? (in so many steps) -/
def can : Nat → Ty → Ty → Bool
  | 0, _, _ => false
  | d + 1, a, b => if b.kind = 6 then (if a.kind = 6 then can d (Sch.inner a) (Sch.inner b) else can d a (Sch.inner b)) else if a.kind = 6 then can d (Sch.inner a) b else if a.kind = 7 ∧ b.kind = 7 then can d (Sch.inner a) (Sch.inner b) else plain a.kind b.kind
/-- a value without items read as one of another kind -/
def scalar (k : Int) (v : V) : Except Nat V :=
  if v.kind = 2 ∧ k = 3 then (if fromE v.int = 0 then .ok (.mk 3 0 (fromB v.int) ⟨#[]⟩ []) else .error 10)
  else if v.kind = 3 ∧ k = 2 then (if toE v.bits = 0 then .ok (.mk 2 (toN v.bits) 0 ⟨#[]⟩ []) else .error 10)
  else if k = 4 ∧ utfT v.text = false then .error 61 else .ok (.mk k v.int (fixB v.bits) v.text [])
/-- a value of a type read as one of another, which it can -/
def read : Nat → V → Ty → Ty → Except Nat V
  | 0, _, _, _ => .error 0
  | d + 1, v, a, b =>
    if b.kind = 6 ∧ a.kind ≠ 6 then (match read d v a (Sch.inner b) with
      | .error e => .error e
      | .ok y => .ok (.mk 6 0 0 ⟨#[]⟩ [y]))
    else if a.kind = 6 ∧ b.kind ≠ 6 then (match v.items with
      | [] => .error 91
      | x :: _ => read d x (Sch.inner a) b)
    else if b.kind ≠ 6 ∧ b.kind ≠ 7 then scalar b.kind v
    else match allR (fun x => read d x (Sch.inner a) (Sch.inner b)) v.items with
      | .error e => .error e
      | .ok l => .ok (.mk b.kind 0 0 ⟨#[]⟩ l)
/-- P9.1 -/
def value (a b : Ty) (v : V) : Except Nat V := if Ty.check 1 a ≠ 0 then .error (Ty.check 1 a) else if Ty.check 1 b ≠ 0 then .error (Ty.check 1 b) else if Rw.vErr a v ≠ 0 then .error (Rw.vErr a v) else if can 7 a b = false then .error 60 else read 7 v a b
/-- a column that is there, or none -/
def colAt (s : List Col) (k : Nat) : Col := s.getD k ⟨⟨#[]⟩, ⟨0, []⟩, false, V0⟩
/-- P9.2, of a column -/
def colErr (s : List Col) (c : Col) : Nat := match Sch.find c.name s 0 with
  | none => if c.has then 0 else 90
  | some k => if can 7 (colAt s k).ty c.ty then 0 else 60
/-- P9.2 -/
def check (s t : List Col) : Nat := if Sch.err s ≠ 0 then Sch.err s else if Sch.err t ≠ 0 then Sch.err t else V.first (t.map (colErr s))
/-- why a row isn't one of a schema that may be -/
def given (s : List Col) (vs : List V) : Nat := if vs.length ≠ s.length then 80 else Rw.colsErr s vs
/-- a column's value -/
def one (s : List Col) (vs : List V) (c : Col) : Except Nat V := match Sch.find c.name s 0 with
  | none => .ok (V.fix c.dflt)
  | some k => read 7 (vs.getD k V0) (colAt s k).ty c.ty
/-- P9.3 -/
def row (s t : List Col) (vs : List V) : Except Nat (List V) := if check s t ≠ 0 then .error (check s t) else if given s vs ≠ 0 then .error (given s vs) else allR (one s vs) t
/-- a name that stands there -/
def hasN (l : List ByteArray) (n : ByteArray) : Bool := l.any fun m => decide (m = n)
theorem hasN_iff (l : List ByteArray) (n : ByteArray) : hasN l n = true ↔ n ∈ l := by
  unfold hasN
  rw [List.any_eq_true]
  constructor
  · rintro ⟨m, hm, h⟩
    have : m = n := by simpa using h
    rw [← this]; exact hm
  · intro h
    exact ⟨n, h, by simp⟩
/-- columns that are named, behind others -/
def proj (s : List Col) : List ByteArray → List ByteArray → Except Nat (List Col)
  | _, [] => .ok []
  | l, n :: r => if hasN l n then .error 71 else match Sch.find n s 0 with
    | none => .error 90
    | some k => match proj s (l ++ [n]) r with
      | .error e => .error e
      | .ok cs => .ok ((colAt s k).fix :: cs)
/-- P9.4 -/
def project (s : List Col) (ns : List ByteArray) : Except Nat (List Col) := if Sch.err s ≠ 0 then .error (Sch.err s) else if ns.length = 0 then .error 4 else proj s [] ns

section
variable {α β : Type} {f g : α → Except Nat β}
theorem allR_nil : allR f [] = .ok [] := rfl
theorem allR_cons (x : α) (r : List α) : allR f (x :: r) = match f x with
    | .error e => .error e
    | .ok y => match allR f r with
      | .error e => .error e
      | .ok ys => .ok (y :: ys) := rfl
theorem allR_err : ∀ (l : List α) (j : Nat) (hj : j < l.length) {ys : List β} {e : Nat}, allR f (l.take j) = .ok ys → f l[j] = .error e → allR f l = .error e
  | x :: r, 0, _, ys, e, _, h => by
    rw [allR_cons]
    rw [List.getElem_cons_zero] at h
    rw [h]
  | x :: r, j + 1, hj, ys, e, h1, h2 => by
    rw [List.take_succ_cons, allR_cons] at h1
    rw [List.getElem_cons_succ] at h2
    rw [allR_cons]
    cases hx : f x with
    | error e' => rw [hx] at h1; cases h1
    | ok y =>
      rw [hx] at h1
      cases hr : allR f (r.take j) with
      | error e' => rw [hr] at h1; cases h1
      | ok zs =>
        have := allR_err r j (by simpa using hj) hr h2
        simp only [this]
theorem allR_snoc : ∀ (l : List α) (x : α) {ys : List β} {y : β}, allR f l = .ok ys → f x = .ok y → allR f (l ++ [x]) = .ok (ys ++ [y])
  | [], x, ys, y, h1, h2 => by
    rw [allR_nil] at h1
    cases h1
    rw [List.nil_append, allR_cons, h2, allR_nil]
    rfl
  | z :: r, x, ys, y, h1, h2 => by
    rw [allR_cons] at h1
    rw [List.cons_append, allR_cons]
    cases hz : f z with
    | error e' => rw [hz] at h1; cases h1
    | ok y0 =>
      rw [hz] at h1
      cases hr : allR f r with
      | error e' => rw [hr] at h1; cases h1
      | ok zs =>
        rw [hr] at h1
        cases h1
        simp only [allR_snoc r x hr h2, List.cons_append]
theorem allR_step (l : List α) (j : Nat) (hj : j < l.length) {ys : List β} {y : β} (h1 : allR f (l.take j) = .ok ys) (h2 : f l[j] = .ok y) : allR f (l.take (j + 1)) = .ok (ys ++ [y]) := by
  rw [List.take_succ_eq_append_getElem hj]
  exact allR_snoc _ _ h1 h2
theorem allR_len : ∀ (l : List α) {ys : List β}, allR f l = .ok ys → ys.length = l.length
  | [], ys, h => by cases h; rfl
  | x :: r, ys, h => by
    rw [allR_cons] at h
    cases hx : f x with
    | error e' => rw [hx] at h; cases h
    | ok y =>
      rw [hx] at h
      cases hr : allR f r with
      | error e' => rw [hr] at h; cases h
      | ok zs =>
        rw [hr] at h
        cases h
        simp [allR_len r hr]
theorem allR_at : ∀ (l : List α) {ys : List β}, allR f l = .ok ys → ∀ j (h1 : j < l.length) (h2 : j < ys.length), f l[j] = .ok ys[j]
  | [], ys, h, j, h1, _ => by simp at h1
  | x :: r, ys, h, j, h1, h2 => by
    rw [allR_cons] at h
    cases hx : f x with
    | error e' => rw [hx] at h; cases h
    | ok y =>
      rw [hx] at h
      cases hr : allR f r with
      | error e' => rw [hr] at h; cases h
      | ok zs =>
        rw [hr] at h
        cases h
        cases j with
        | zero => simpa using hx
        | succ j => simpa using allR_at r hr j (by simpa using h1) (by simpa using h2)
theorem allR_mem : ∀ (l : List α) {ys : List β}, allR f l = .ok ys → ∀ y ∈ ys, ∃ x ∈ l, f x = .ok y
  | [], ys, h, y, hy => by cases h; cases hy
  | x :: r, ys, h, y, hy => by
    rw [allR_cons] at h
    cases hx : f x with
    | error e' => rw [hx] at h; cases h
    | ok y' =>
      rw [hx] at h
      cases hr : allR f r with
      | error e' => rw [hr] at h; cases h
      | ok zs =>
        rw [hr] at h
        cases h
        rcases List.mem_cons.1 hy with rfl | hy
        · exact ⟨x, by simp, hx⟩
        · obtain ⟨z, hz, hf⟩ := allR_mem r hr y hy
          exact ⟨z, by simp [hz], hf⟩
theorem allR_bad : ∀ (l : List α) {e : Nat}, allR f l = .error e → ∃ x ∈ l, f x = .error e
  | [], e, h => by cases h
  | x :: r, e, h => by
    rw [allR_cons] at h
    cases hx : f x with
    | error e' => rw [hx] at h; cases h; exact ⟨x, by simp, hx⟩
    | ok y' =>
      rw [hx] at h
      cases hr : allR f r with
      | error e' =>
        rw [hr] at h
        cases h
        obtain ⟨z, hz, hf⟩ := allR_bad r hr
        exact ⟨z, by simp [hz], hf⟩
      | ok zs => rw [hr] at h; cases h
theorem allR_congr : ∀ (l : List α), (∀ x ∈ l, f x = g x) → allR f l = allR g l
  | [], _ => rfl
  | x :: r, h => by rw [allR_cons, allR_cons, h x (by simp), allR_congr r (fun y hy => h y (by simp [hy]))]
theorem allR_map (l : List α) (m : α → β) (h : ∀ x ∈ l, f x = .ok (m x)) : allR f l = .ok (l.map m) := by
  induction l with
  | nil => rfl
  | cons x r ih =>
    rw [allR_cons, h x (by simp), ih (fun y hy => h y (by simp [hy]))]
    rfl
end

theorem can_succ (d : Nat) (a b : Ty) : can (d + 1) a b = if b.kind = 6 then (if a.kind = 6 then can d (Sch.inner a) (Sch.inner b) else can d a (Sch.inner b)) else if a.kind = 6 then can d (Sch.inner a) b else if a.kind = 7 ∧ b.kind = 7 then can d (Sch.inner a) (Sch.inner b) else plain a.kind b.kind := rfl
theorem read_succ (d : Nat) (v : V) (a b : Ty) : read (d + 1) v a b =
    if b.kind = 6 ∧ a.kind ≠ 6 then (match read d v a (Sch.inner b) with
      | .error e => .error e
      | .ok y => .ok (.mk 6 0 0 ⟨#[]⟩ [y]))
    else if a.kind = 6 ∧ b.kind ≠ 6 then (match v.items with
      | [] => .error 91
      | x :: _ => read d x (Sch.inner a) b)
    else if b.kind ≠ 6 ∧ b.kind ≠ 7 then scalar b.kind v
    else match allR (fun x => read d x (Sch.inner a) (Sch.inner b)) v.items with
      | .error e => .error e
      | .ok l => .ok (.mk b.kind 0 0 ⟨#[]⟩ l) := rfl
theorem inner_one (k : Int) (x : Ty) : Sch.inner (.mk k [x]) = x := rfl

theorem plain_self {k : Int} (h : k ≠ 7) : plain k k = true := by
  unfold plain
  rw [show (k == 7) = false by simpa using h]
  simp
theorem can_self : ∀ (d : Nat) (a : Ty) (da : Nat), Ty.check da a = 0 → 5 ≤ d + da → can d a a = true
  | 0, .mk k xs, da, h, hd => by have := (Sch.ty_open h).1; omega
  | d + 1, .mk k xs, da, h, hd => by
    obtain ⟨h4, hk, hx⟩ := Sch.ty_open h
    rw [can_succ]
    rcases hx with ⟨hk2, rfl⟩ | ⟨hk2, x, rfl, hx⟩
    · rw [if_neg (by show ¬ k = 6; omega), if_neg (by show ¬ k = 6; omega), if_neg (by show ¬ (k = 7 ∧ k = 7); omega)]
      exact plain_self (k := k) (by omega)
    · rw [inner_one]
      have ih := can_self d x (da + 1) hx (by omega)
      by_cases h6 : k = 6
      · rw [if_pos h6, if_pos h6]; exact ih
      · rw [if_neg h6, if_neg h6, if_pos (by show k = 7 ∧ k = 7; omega)]; exact ih

/-- what a value of a type is like -/
theorem of_open {k i : Int} {b : Nat} {s : ByteArray} {xs : List V} {t : Ty} (h : Sch.of (.mk k i b s xs) t = true) : k = t.kind ∧ ∀ x ∈ xs, Sch.of x (Sch.inner t) = true := by
  rw [Sch.of_mk, Bool.and_eq_true, beq_iff_eq, List.all_eq_true] at h
  exact h
theorem of_make {k i : Int} {b : Nat} {s : ByteArray} {xs : List V} {t : Ty} (h1 : k = t.kind) (h2 : ∀ x ∈ xs, Sch.of x (Sch.inner t) = true) : Sch.of (.mk k i b s xs) t = true := by
  rw [Sch.of_mk, Bool.and_eq_true, beq_iff_eq, List.all_eq_true]
  exact ⟨h1, h2⟩
theorem no_items {d : Nat} {k i : Int} {b : Nat} {t : ByteArray} {xs : List V} (h : chk d (.mk k i b t xs) = 0) (hk : ¬ (k = 6 ∨ k = 7)) : xs = [] := by
  obtain ⟨-, ho, -⟩ := Sch.chk_open h
  obtain ⟨-, -, -, -, h5, -⟩ := Sch.own_open ho
  rcases h5 with h5 | h5 | h5
  · omega
  · omega
  · exact List.eq_nil_of_length_eq_zero h5
theorem fixB_nought {b : Nat} (h : fixB b = 0) : b = 0 := by
  unfold fixB at h
  split at h
  · cases h
  · exact h

theorem scalar_self {d : Nat} {k i : Int} {b : Nat} {t : ByteArray} (h : chk d (.mk k i b t []) = 0) : scalar k (.mk k i b t []) = .ok (V.fix (.mk k i b t [])) := by
  obtain ⟨-, ho, -, -, hu, -⟩ := Sch.chk_open h
  unfold scalar
  rw [if_neg (by show ¬ (k = 2 ∧ k = 3); omega), if_neg (by show ¬ (k = 3 ∧ k = 2); omega), if_neg, V.fix_mk]
  · rfl
  · rintro ⟨h4, h5⟩
    rw [hu h4] at h5
    cases h5
theorem read_self : ∀ (d : Nat) (a : Ty) (v : V) (da dv : Nat), Ty.check da a = 0 → chk dv v = 0 → Sch.of v a = true → 5 ≤ d + da → read d v a a = .ok (V.fix v)
  | 0, .mk k xs, v, da, dv, h, _, _, hd => by have := (Sch.ty_open h).1; omega
  | d + 1, .mk k xs, .mk j i b t vs, da, dv, h, hc, ho, hd => by
    obtain ⟨h4, hk, hx⟩ := Sch.ty_open h
    obtain ⟨hj, hi⟩ := of_open ho
    have hj' : j = k := hj
    subst hj'
    rw [read_succ, if_neg (by rintro ⟨h1, h2⟩; exact h2 h1), if_neg (by rintro ⟨h1, h2⟩; exact h2 h1)]
    rcases hx with ⟨hk2, rfl⟩ | ⟨hk2, x, rfl, hx⟩
    · rw [if_pos (by show j ≠ 6 ∧ j ≠ 7; omega)]
      have hn := no_items hc hk2
      subst hn
      exact scalar_self hc
    · rw [if_neg (by show ¬ (j ≠ 6 ∧ j ≠ 7); omega), inner_one]
      obtain ⟨-, hw, -, -, -, hcx⟩ := Sch.chk_open hc
      have hall : allR (fun z => read d z x x) vs = .ok (vs.map V.fix) := allR_map vs V.fix fun z hz => read_self d x z (da + 1) (dv + 1) hx (hcx z hz) (hi z hz) (by omega)
      show (match allR (fun z => read d z x x) vs with
        | .error e => Except.error e
        | .ok l => Except.ok (V.mk j 0 0 ⟨#[]⟩ l)) = _
      rw [hall, V.fix_mk]
      obtain ⟨-, o2, o3, o4, -⟩ := Sch.own_open hw
      have e1 : i = 0 := by omega
      have e2 : fixB b = 0 := by omega
      have e3 : t = ⟨#[]⟩ := by
        rcases o4 with o4 | o4 | o4
        · omega
        · omega
        · exact o4
      rw [e1, e2, e3]
      rfl

/-- what is told of a value without items -/
def Good (db : Nat) (b : Ty) (r : Except Nat V) : Prop := match r with
  | .error e => e ≠ 0
  | .ok y => chk db y = 0 ∧ Sch.of y b = true ∧ y.wf ∧ V.fix y = y

theorem from_bits (n : Int) : fromB n < 18446744073709551616 := by
  unfold fromB
  split
  · rw [Flt.ofInt_eq]
    exact Ieee.Format.nearest_lt Ieee.double _ _ _
  · omega
theorem from_fin {n : Int} (h : fromE n = 0) : Flt.rung (fromB n) < 9218868437227405312 := by
  unfold fromE at h
  split at h
  · next ho =>
    have hb : fromB n = floatOfInt .f64 n := by simp [fromB, ho]
    rw [hb]
    unfold fromOk at ho
    simp only [Bool.and_eq_true, beq_iff_eq] at ho
    have h0 := ho.1
    unfold toE at h0
    split at h0
    · next hk =>
      unfold okB at hk
      simp only [Bool.and_eq_true] at hk
      exact Flt.inR_fin hk.1.1
    · omega
  · omega
theorem fix_fin {x : Nat} (h : Flt.rung x < 9218868437227405312) : fixB x = x := by
  apply fix_f
  have h3 : nanB x = decide (9218868437227405312 < Flt.rung x) := Flt.nan_iff x
  rw [h3]; simp; omega
theorem to_bounds (x : Nat) : -9223372036854775808 ≤ toN x ∧ toN x ≤ 9223372036854775807 := by
  unfold toN
  split
  · next hk =>
    unfold okB at hk
    simp only [Bool.and_eq_true] at hk
    exact Flt.trunc_bounds hk.1.1
  · omega

theorem scalar_good {db dv : Nat} {j k i : Int} {b : Nat} {t : ByteArray} (hd : db ≤ 4) (h : chk dv (.mk j i b t []) = 0) (hw : V.wf (.mk j i b t [])) (hk : 1 ≤ k ∧ k ≤ 7) (hj6 : j ≠ 6) (hp : plain j k = true) : Good db (.mk k []) (scalar k (.mk j i b t [])) := by
  obtain ⟨-, ho, ht, -, hu, -⟩ := Sch.chk_open h
  obtain ⟨o1, o2, o3, o4, -, o6, -⟩ := Sch.own_open ho
  obtain ⟨w1, w2, w3, w4, -⟩ := V.wf_mk.1 hw
  have hof : ∀ i' b' t', Sch.of (.mk k i' b' t' []) (.mk k []) = true := fun i' b' t' => of_make rfl (fun x hx => by cases hx)
  have hp' : ¬ j = 7 ∧ ¬ k = 7 ∧ (j = k ∨ (j = 2 ∧ k = 3) ∨ (j = 3 ∧ k = 2) ∨ (j = 1 ∧ k = 2) ∨ (j = 4 ∧ k = 5) ∨ (j = 5 ∧ k = 4)) := by
    unfold plain at hp
    simp only [Bool.and_eq_true, Bool.not_eq_true', beq_eq_false_iff_ne, ne_eq, Bool.or_eq_true, beq_iff_eq] at hp
    refine ⟨hp.1.1, hp.1.2, ?_⟩
    rcases hp.2 with ((((h | h) | h) | h) | h) | h
    · exact .inl h
    · exact .inr (.inl h)
    · exact .inr (.inr (.inl h))
    · exact .inr (.inr (.inr (.inl h)))
    · exact .inr (.inr (.inr (.inr (.inl h))))
    · exact .inr (.inr (.inr (.inr (.inr h))))
  obtain ⟨hj7, hk7, hjk⟩ := hp'
  unfold scalar
  by_cases c1 : j = 2 ∧ k = 3
  · rw [if_pos c1]
    split
    · next he =>
      have hf := from_fin he
      refine ⟨Sch.chk_make hd (Sch.own_make (by omega) (.inr (.inr rfl)) (.inl rfl) (.inr (.inr rfl)) (.inr (.inr rfl)) (by omega) (by omega)) (Nat.zero_le _) (by simp) (by omega) (fun x hx => by cases hx), ?_, V.wf_mk.2 ⟨by omega, by omega, from_bits _, Nat.zero_le _, fun x hx => by cases hx⟩, ?_⟩
      · rw [c1.2]; exact of_make rfl (fun x hx => by cases hx)
      · rw [V.fix_mk]
        show V.mk 3 0 (fixB (fromB i)) ⟨#[]⟩ [] = _
        rw [fix_fin hf]
    · show (10 : Nat) ≠ 0; omega
  · rw [if_neg c1]
    by_cases c2 : j = 3 ∧ k = 2
    · rw [if_pos c2]
      split
      · next he =>
        have hb := to_bounds b
        refine ⟨Sch.chk_make hd (Sch.own_make (by omega) (.inr (.inl rfl)) (.inr Sch.fixB_zero) (.inr (.inr rfl)) (.inr (.inr rfl)) (by omega) (by omega)) (Nat.zero_le _) (by simp) (by omega) (fun x hx => by cases hx), ?_, V.wf_mk.2 ⟨by omega, hb, by omega, Nat.zero_le _, fun x hx => by cases hx⟩, ?_⟩
        · rw [c2.2]; exact of_make rfl (fun x hx => by cases hx)
        · rw [V.fix_mk, Sch.fixB_zero]
          rfl
      · show (10 : Nat) ≠ 0; omega
    · rw [if_neg c2]
      by_cases c3 : k = 4 ∧ utfT t = false
      · rw [if_pos c3]; show (61 : Nat) ≠ 0; omega
      · rw [if_neg c3]
        show Good db (.mk k []) (.ok (.mk k i (fixB b) t []))
        refine ⟨Sch.chk_make hd (Sch.own_make (by omega) ?_ ?_ ?_ (.inr (.inr rfl)) ?_ (by omega)) ht (by simp) (fun h4 => ?_) (fun x hx => by cases hx), hof _ _ _, V.wf_mk.2 ⟨by omega, w2, Sch.fixB_lt w3, w4, fun x hx => by cases hx⟩, ?_⟩
        · rcases hjk with h | h | h | h | h | h <;> omega
        · rcases o3 with o3 | o3
          · left
            rcases hjk with h | h | h | h | h | h <;> omega
          · right; rw [fixB_idem, o3]
        · rcases o4 with o4 | o4 | o4
          · rcases hjk with h | h | h | h | h | h
            · left; omega
            · omega
            · omega
            · omega
            · right; left; omega
            · omega
          · rcases hjk with h | h | h | h | h | h
            · right; left; omega
            · omega
            · omega
            · omega
            · omega
            · left; omega
          · exact .inr (.inr o4)
        · intro h1
          have : j = 1 := by rcases hjk with h | h | h | h | h | h <;> omega
          exact o6 this
        · cases hu4 : utfT t with
          | true => rfl
          | false => exact absurd ⟨h4, hu4⟩ c3
        · rw [V.fix_mk, fixB_idem]
          rfl
end Rz
end Go.Proofs.YtdahackmmhcjoaaGreat

/- Plain: what is read is of the type that it is read as; under its own schema a row is itself; a value made an opt and taken out is what it was (P9.5, P9.6). -/
namespace Go.Proofs.YtdahackmmhcjoaaGreat
namespace Rz

theorem items_good {db : Nat} {k : Int} {y : Ty} {f : V → Except Nat V} {vs : List V} (hd : db ≤ 4) (hk : k = 6 ∨ k = 7) (hf : ∀ x ∈ vs, Good (db + 1) y (f x)) (hn : vs.length ≤ 256) (h2 : k = 6 → vs.length < 2) :
    Good db (.mk k [y]) (match allR f vs with
      | .error e => .error e
      | .ok l => .ok (.mk k 0 0 ⟨#[]⟩ l)) := by
  cases hr : allR f vs with
  | error e =>
    obtain ⟨x, hx, hfx⟩ := allR_bad vs hr
    have := hf x hx
    rw [hfx] at this
    exact this
  | ok l =>
    have hl := allR_len vs hr
    have hm : ∀ z ∈ l, chk (db + 1) z = 0 ∧ Sch.of z y = true ∧ z.wf ∧ V.fix z = z := fun z hz => by
      obtain ⟨x, hx, hfx⟩ := allR_mem vs hr z hz
      have := hf x hx
      rw [hfx] at this
      exact this
    refine ⟨Sch.chk_make hd (Sch.own_make (by omega) (.inr (.inr rfl)) (.inr Sch.fixB_zero) (.inr (.inr rfl)) (by omega) (by omega) (fun h => by have := h2 h; omega)) (Nat.zero_le _) (by omega) (by omega) (fun z hz => (hm z hz).1), of_make rfl (fun z hz => (hm z hz).2.1), V.wf_mk.2 ⟨by omega, by omega, by omega, Nat.zero_le _, fun z hz => (hm z hz).2.2.1⟩, ?_⟩
    rw [V.fix_mk, Sch.fixB_zero, V.fixL_eq]
    have : l.map V.fix = l := by
      conv => rhs; rw [← List.map_id l]
      exact List.map_congr_left fun z hz => (hm z hz).2.2.2
    rw [this]

theorem read_good : ∀ (d : Nat) (v : V) (a b : Ty) (da db dv : Nat), Ty.check da a = 0 → Ty.check db b = 0 → chk dv v = 0 → Sch.of v a = true → v.wf → 9 ≤ d + da + db → can d a b = true → Good db b (read d v a b)
  | 0, _, .mk ka xa, .mk kb xb, da, db, dv, ha, hb, _, _, _, hd, _ => by have := (Sch.ty_open ha).1; have := (Sch.ty_open hb).1; omega
  | d + 1, .mk j i bb t vs, .mk ka xa, .mk kb xb, da, db, dv, ha, hb, hc, ho, hw, hd, hcan => by
    obtain ⟨a4, ak, ax⟩ := Sch.ty_open ha
    obtain ⟨b4, bk, bx⟩ := Sch.ty_open hb
    obtain ⟨hj, hi⟩ := of_open ho
    have hj' : j = ka := hj
    subst hj'
    obtain ⟨-, hown, -, hn, -, hcx⟩ := Sch.chk_open hc
    obtain ⟨-, -, -, -, -, -, o7⟩ := Sch.own_open hown
    have hwx := (V.wf_mk.1 hw).2.2.2.2
    rw [can_succ] at hcan
    rw [read_succ]
    by_cases hb6 : kb = 6
    · rcases bx with ⟨h, -⟩ | ⟨-, y, rfl, hy⟩
      · omega
      by_cases ha6 : j = 6
      · rcases ax with ⟨h, -⟩ | ⟨-, x, rfl, hx⟩
        · omega
        rw [if_pos (by exact hb6), if_pos (by exact ha6)] at hcan
        rw [if_neg (by rintro ⟨-, h⟩; exact h ha6), if_neg (by rintro ⟨-, h⟩; exact h hb6), if_neg (by rintro ⟨h, -⟩; exact h hb6)]
        exact items_good b4 (.inl hb6) (fun z hz => read_good d z x y (da + 1) (db + 1) (dv + 1) hx hy (hcx z hz) (hi z hz) (hwx z hz) (by omega) hcan) hn (fun _ => o7 ha6)
      · rw [if_pos (by exact hb6), if_neg (by exact ha6)] at hcan
        rw [if_pos ⟨hb6, ha6⟩]
        have ih := read_good d (.mk j i bb t vs) (.mk j xa) y da (db + 1) dv ha hy hc ho hw (by omega) hcan
        rw [inner_one]
        have hg := items_good (k := 6) (y := y) (f := fun v => read d v (.mk j xa) y) (vs := [.mk j i bb t vs]) b4 (.inl rfl) (fun z hz => by rcases List.mem_singleton.1 hz with rfl; exact ih) (by simp) (by simp)
        rw [allR_cons, allR_nil] at hg
        subst hb6
        cases hr : read d (.mk j i bb t vs) (.mk j xa) y with
        | error e => rw [hr] at hg; exact hg
        | ok z => rw [hr] at hg; exact hg
    · rw [if_neg (by exact hb6)] at hcan
      rw [if_neg (by rintro ⟨h, -⟩; exact hb6 h)]
      by_cases ha6 : j = 6
      · rcases ax with ⟨h, -⟩ | ⟨-, x, rfl, hx⟩
        · omega
        rw [if_pos (by exact ha6)] at hcan
        rw [if_pos ⟨ha6, hb6⟩]
        cases vs with
        | nil => show (91 : Nat) ≠ 0; omega
        | cons z r => exact read_good d z x (.mk kb xb) (da + 1) db (dv + 1) hx hb (hcx z (by simp)) (hi z (by simp)) (hwx z (by simp)) (by omega) hcan
      · rw [if_neg (by exact ha6)] at hcan
        rw [if_neg (by rintro ⟨h, -⟩; exact ha6 h)]
        by_cases h77 : j = 7 ∧ kb = 7
        · rcases ax with ⟨h, -⟩ | ⟨-, x, rfl, hx⟩
          · omega
          rcases bx with ⟨h, -⟩ | ⟨-, y, rfl, hy⟩
          · omega
          rw [if_pos (by exact h77)] at hcan
          rw [if_neg (by rintro ⟨-, h⟩; exact h h77.2)]
          exact items_good b4 (.inr h77.2) (fun z hz => read_good d z x y (da + 1) (db + 1) (dv + 1) hx hy (hcx z hz) (hi z hz) (hwx z hz) (by omega) hcan) hn (fun h => absurd h hb6)
        · rw [if_neg (by exact h77)] at hcan
          have hp : plain j kb = true := hcan
          have hkb7 : kb ≠ 7 := by
            intro h
            unfold plain at hp
            rw [h] at hp
            simp at hp
          have hj7 : j ≠ 7 := by
            intro h
            unfold plain at hp
            rw [h] at hp
            simp at hp
          rw [if_pos (by exact ⟨hb6, hkb7⟩)]
          have hvn := no_items hc (by omega)
          subst hvn
          rcases bx with ⟨-, rfl⟩ | ⟨h, -⟩
          · exact scalar_good b4 hc hw bk ha6 hp
          · omega

theorem of_fix : ∀ (v : V) (t : Ty), Sch.of (V.fix v) t = Sch.of v t := by
  intro v
  refine V.ind (P := fun v => ∀ t, Sch.of (V.fix v) t = Sch.of v t) ?_ v
  intro k i b s xs ih t
  rw [V.fix_mk, Sch.of_mk, Sch.of_mk, V.fixL_eq, List.all_map]
  congr 1
  rw [Bool.eq_iff_iff, List.all_eq_true, List.all_eq_true]
  constructor
  · intro h x hx
    rw [← ih x hx]
    exact h x hx
  · intro h x hx
    show Sch.of (V.fix x) _ = true
    rw [ih x hx]
    exact h x hx
theorem fix_wf : ∀ (v : V), v.wf → (V.fix v).wf := by
  intro v
  refine V.ind (P := fun v => v.wf → (V.fix v).wf) ?_ v
  intro k i b s xs ih h
  obtain ⟨h1, h2, h3, h4, h5⟩ := V.wf_mk.1 h
  rw [V.fix_mk]
  refine V.wf_mk.2 ⟨h1, h2, Sch.fixB_lt h3, h4, fun x hx => ?_⟩
  rw [V.fixL_eq] at hx
  obtain ⟨z, hz, rfl⟩ := List.mem_map.1 hx
  exact ih z hz (h5 z hz)

/-- an opt of a type can be read as it -/
theorem can_out : ∀ (d : Nat) (a : Ty) (da : Nat), Ty.check da a = 0 → 6 ≤ d + da → can d (.mk 6 [a]) a = true
  | 0, .mk k xs, da, h, hd => by have := (Sch.ty_open h).1; omega
  | d + 1, .mk k xs, da, h, hd => by
    obtain ⟨h4, hk, hx⟩ := Sch.ty_open h
    rw [can_succ, inner_one]
    by_cases h6 : k = 6
    · rcases hx with ⟨h, -⟩ | ⟨-, x, rfl, hx⟩
      · omega
      subst h6
      rw [if_pos rfl, if_pos rfl, inner_one]
      exact can_out d x (da + 1) hx (by omega)
    · rw [if_neg (by exact h6), if_pos rfl]
      exact can_self d _ da h (by omega)
theorem can_in : ∀ (d : Nat) (a : Ty) (da : Nat), Ty.check da a = 0 → 6 ≤ d + da → can d a (.mk 6 [a]) = true
  | 0, .mk k xs, da, h, hd => by have := (Sch.ty_open h).1; omega
  | d + 1, .mk k xs, da, h, hd => by
    obtain ⟨h4, hk, hx⟩ := Sch.ty_open h
    rw [can_succ, inner_one, if_pos rfl]
    by_cases h6 : k = 6
    · rcases hx with ⟨h, -⟩ | ⟨-, x, rfl, hx⟩
      · omega
      subst h6
      rw [if_pos rfl, inner_one]
      exact can_in d x (da + 1) hx (by omega)
    · rw [if_neg (by exact h6)]
      exact can_self d _ da h (by omega)
/-- there and back -/
theorem opt_back : ∀ (d : Nat) (a : Ty) (v : V) (da dv : Nat), Ty.check da a = 0 → chk dv v = 0 → Sch.of v a = true → 6 ≤ d + da → ∃ y, read d v a (.mk 6 [a]) = .ok y ∧ read d y (.mk 6 [a]) a = .ok (V.fix v)
  | 0, .mk k xs, _, da, _, h, _, _, hd => by have := (Sch.ty_open h).1; omega
  | d + 1, .mk k xs, .mk j i b t vs, da, dv, h, hc, ho, hd => by
    obtain ⟨h4, hk, hx⟩ := Sch.ty_open h
    obtain ⟨hj, hi⟩ := of_open ho
    have hj' : j = k := hj
    subst hj'
    by_cases h6 : j = 6
    · rcases hx with ⟨h, -⟩ | ⟨-, x, rfl, hx⟩
      · omega
      subst h6
      obtain ⟨-, hown, -, -, -, hcx⟩ := Sch.chk_open hc
      obtain ⟨-, o2, o3, o4, -, -, o7⟩ := Sch.own_open hown
      have e1 : i = 0 := by omega
      have e2 : fixB b = 0 := by omega
      have e3 : t = ⟨#[]⟩ := by
        rcases o4 with o4 | o4 | o4
        · omega
        · omega
        · exact o4
      have h2 := o7 rfl
      rw [V.fix_mk, e1, e2, e3, V.fixL_eq]
      cases vs with
      | nil =>
        refine ⟨.mk 6 0 0 ⟨#[]⟩ [], ?_, ?_⟩
        · rw [read_succ, if_neg (by rintro ⟨-, h⟩; exact h rfl), if_neg (by rintro ⟨-, h⟩; exact h rfl), if_neg (by rintro ⟨h, -⟩; exact h rfl)]
          rfl
        · rw [read_succ, if_neg (by rintro ⟨-, h⟩; exact h rfl), if_neg (by rintro ⟨-, h⟩; exact h rfl), if_neg (by rintro ⟨h, -⟩; exact h rfl)]
          rfl
      | cons z r =>
        have hr : r = [] := by
          rw [List.length_cons] at h2
          exact List.eq_nil_of_length_eq_zero (by omega)
        subst hr
        obtain ⟨y, hy1, hy2⟩ := opt_back d x z (da + 1) (dv + 1) hx (hcx z (by simp)) (hi z (by simp)) (by omega)
        refine ⟨.mk 6 0 0 ⟨#[]⟩ [y], ?_, ?_⟩
        · rw [read_succ, if_neg (by rintro ⟨-, h⟩; exact h rfl), if_neg (by rintro ⟨-, h⟩; exact h rfl), if_neg (by rintro ⟨h, -⟩; exact h rfl)]
          rw [inner_one, inner_one]
          show (match allR (fun u => read d u x (.mk 6 [x])) [z] with
            | .error e => Except.error e
            | .ok l => Except.ok (V.mk 6 0 0 ⟨#[]⟩ l)) = _
          rw [allR_map [z] (fun _ => y) (fun u hu => by rcases List.mem_singleton.1 hu with rfl; exact hy1)]
          rfl
        · rw [read_succ, if_neg (by rintro ⟨-, h⟩; exact h rfl), if_neg (by rintro ⟨-, h⟩; exact h rfl), if_neg (by rintro ⟨h, -⟩; exact h rfl)]
          rw [inner_one, inner_one]
          show (match allR (fun u => read d u (.mk 6 [x]) x) [y] with
            | .error e => Except.error e
            | .ok l => Except.ok (V.mk 6 0 0 ⟨#[]⟩ l)) = _
          rw [allR_map [y] (fun _ => V.fix z) (fun u hu => by rcases List.mem_singleton.1 hu with rfl; exact hy2)]
          rfl
    · refine ⟨.mk 6 0 0 ⟨#[]⟩ [V.fix (.mk j i b t vs)], ?_, ?_⟩
      · rw [read_succ, if_pos ⟨rfl, h6⟩, inner_one, read_self d _ _ da dv h hc ho (by omega)]
      · rw [read_succ, if_neg (by rintro ⟨h, -⟩; exact h6 h), if_pos ⟨rfl, h6⟩, inner_one]
        show read d (V.fix (.mk j i b t vs)) _ _ = _
        rw [read_self d _ _ da dv h (by rw [chk_fix]; exact hc) (by rw [of_fix]; exact ho) (by omega), fix_idem]

theorem value_open {a b : Ty} {v y : V} (h : value a b v = .ok y) : Ty.check 1 a = 0 ∧ Ty.check 1 b = 0 ∧ chk 1 v = 0 ∧ Sch.of v a = true ∧ can 7 a b = true ∧ read 7 v a b = .ok y := by
  unfold value at h
  split at h
  · cases h
  · next h1 =>
    split at h
    · cases h
    · next h2 =>
      split at h
      · cases h
      · next h3 =>
        split at h
        · cases h
        · next h4 =>
          have h3' := Rw.vErr_zero (Classical.not_not.1 h3)
          exact ⟨Classical.not_not.1 h1, Classical.not_not.1 h2, h3'.2.1, h3'.2.2, by simpa using h4, h⟩
theorem value_make {a b : Ty} {v : V} (h1 : Ty.check 1 a = 0) (h2 : Ty.check 1 b = 0) (h3 : chk 1 v = 0) (h4 : Sch.of v a = true) (h5 : can 7 a b = true) : value a b v = read 7 v a b := by
  unfold value
  rw [if_neg (by omega), if_neg (by omega), if_neg (by rw [Rw.vErr_make h1 h3 h4]; omega), if_neg (by simp [h5])]
theorem value_good {a b : Ty} {v : V} (hw : v.wf) : Good 1 b (value a b v) := by
  unfold value
  split
  · next h => exact h
  · next h1 =>
    split
    · next h => exact h
    · next h2 =>
      split
      · next h => exact h
      · next h3 =>
        split
        · show (60 : Nat) ≠ 0; omega
        · next h4 =>
          have h3' := Rw.vErr_zero (Classical.not_not.1 h3)
          exact read_good 7 v a b 1 1 1 h3'.1 (Classical.not_not.1 h2) h3'.2.1 h3'.2.2 hw (by omega) (by simpa using h4)
/-- P9.6 -/
theorem value_back {a : Ty} {v y : V} (hw : v.wf) (h : value a (.mk 6 [a]) v = .ok y) : value (.mk 6 [a]) a y = .ok (V.fix v) := by
  obtain ⟨h1, h2, h3, h4, h5, h6⟩ := value_open h
  have hg := read_good 7 v a (.mk 6 [a]) 1 1 1 h1 h2 h3 h4 hw (by omega) h5
  rw [h6] at hg
  obtain ⟨g1, g2, -⟩ := hg
  obtain ⟨y', hy1, hy2⟩ := opt_back 7 a v 1 1 h1 h3 h4 (by omega)
  rw [hy1] at h6
  cases h6
  rw [value_make h2 h1 g1 g2 (can_out 7 a 1 h1 (by omega))]
  exact hy2

theorem leaf_ok {k : Int} (h : 1 ≤ k ∧ k ≤ 5) : Ty.check 1 (.mk k []) = 0 := Sch.ty_leaf (by omega) (by omega) (by omega)
theorem int_chk (n : Int) : chk 1 (.mk 2 n 0 ⟨#[]⟩ []) = 0 := Sch.chk_make (by omega) (Sch.own_make (by omega) (.inr (.inl rfl)) (.inr Sch.fixB_zero) (.inr (.inr rfl)) (.inr (.inr rfl)) (by omega) (by omega)) (Nat.zero_le _) (by simp) (by omega) (fun x hx => by cases hx)
theorem float_chk (x : Nat) : chk 1 (.mk 3 0 x ⟨#[]⟩ []) = 0 := Sch.chk_make (by omega) (Sch.own_make (by omega) (.inr (.inr rfl)) (.inl rfl) (.inr (.inr rfl)) (.inr (.inr rfl)) (by omega) (by omega)) (Nat.zero_le _) (by simp) (by omega) (fun x hx => by cases hx)
theorem value_int_float (n : Int) : value (.mk 2 []) (.mk 3 []) (.mk 2 n 0 ⟨#[]⟩ []) = if fromE n = 0 then .ok (.mk 3 0 (fromB n) ⟨#[]⟩ []) else .error 10 := by
  rw [value_make (leaf_ok (by omega)) (leaf_ok (by omega)) (int_chk n) (of_make rfl (fun x hx => by cases hx)) (by rfl)]
  rfl
theorem value_float_int (x : Nat) : value (.mk 3 []) (.mk 2 []) (.mk 3 0 x ⟨#[]⟩ []) = if toE x = 0 then .ok (.mk 2 (toN x) 0 ⟨#[]⟩ []) else .error 10 := by
  rw [value_make (leaf_ok (by omega)) (leaf_ok (by omega)) (float_chk x) (of_make rfl (fun x hx => by cases hx)) (by rfl)]
  rfl
theorem chk_V0 : chk 1 V0 = 60 := by
  unfold V0
  rw [chk_mk, if_neg (by omega), if_pos (by rfl)]
theorem value_zero {k j : Int} (hk : 1 ≤ k ∧ k ≤ 5) (hj : 1 ≤ j ∧ j ≤ 5) : value (.mk k []) (.mk j []) V0 = .error 60 := by
  unfold value
  rw [if_neg (by rw [leaf_ok hk]; omega), if_neg (by rw [leaf_ok hj]; omega)]
  have : Rw.vErr (.mk k []) V0 = 60 := by
    unfold Rw.vErr
    rw [chk_V0, if_pos (by omega)]
  rw [this, if_pos (by omega)]
end Rz
end Go.Proofs.YtdahackmmhcjoaaGreat

/- Plain: rows under other schemas, some columns of a schema (P9.2 to P9.5, P9.7). -/
namespace Go.Proofs.YtdahackmmhcjoaaGreat
theorem Leb.put_small {n : Nat} (h : n < 128) : (Leb.put n).length = 1 := by
  unfold Leb.put
  rw [Leb.putF, if_pos h]
  rfl
namespace Rz

theorem first_at {α : Type} (f : α → Nat) : ∀ (l : List α) (j : Nat) (hj : j < l.length), (∀ m (h : m < l.length), m < j → f l[m] = 0) → f l[j] ≠ 0 → V.first (l.map f) = f l[j]
  | x :: r, 0, _, _, h => by
    rw [List.getElem_cons_zero] at h ⊢
    rw [List.map_cons, V.first, if_neg h]
  | x :: r, j + 1, hj, ha, h => by
    rw [List.getElem_cons_succ] at h ⊢
    have h0 := ha 0 (by simp) (by omega)
    rw [List.getElem_cons_zero] at h0
    rw [List.map_cons, V.first, if_pos h0]
    exact first_at f r j (by simpa using hj) (fun m h1 h2 => by have := ha (m + 1) (by simpa using h1) (by omega); simpa using this) h
theorem first_all {α : Type} (f : α → Nat) : ∀ (l : List α), (∀ x ∈ l, f x = 0) → V.first (l.map f) = 0
  | [], _ => rfl
  | x :: r, h => by
    rw [List.map_cons, V.first, if_pos (h x (by simp))]
    exact first_all f r fun y hy => h y (by simp [hy])
theorem first_zero {α : Type} (f : α → Nat) : ∀ (l : List α), V.first (l.map f) = 0 → ∀ x ∈ l, f x = 0
  | [], _, x, hx => by cases hx
  | y :: r, h, x, hx => by
    rw [List.map_cons, V.first] at h
    by_cases h0 : f y = 0
    · rw [if_pos h0] at h
      rcases List.mem_cons.1 hx with rfl | hx
      · exact h0
      · exact first_zero f r h x hx
    · rw [if_neg h0] at h
      exact absurd h h0

theorem find_some (n : ByteArray) : ∀ (s : List Col) (k j : Nat), Sch.find n s k = some j → ∃ m, j = k + m ∧ ∃ h : m < s.length, s[m].name = n
  | [], k, j, h => by cases h
  | c :: r, k, j, h => by
    rw [Sch.find] at h
    by_cases hc : c.name = n
    · rw [if_pos hc] at h
      cases h
      exact ⟨0, by omega, by simp, by simpa using hc⟩
    · rw [if_neg hc] at h
      obtain ⟨m, hm, h1, h2⟩ := find_some n r (k + 1) j h
      exact ⟨m + 1, by omega, by simpa using h1, by simpa using h2⟩
theorem find_here {n : ByteArray} {s : List Col} {k : Nat} (h : Sch.find n s 0 = some k) : ∃ h : k < s.length, s[k].name = n := by
  obtain ⟨m, hm, h1, h2⟩ := find_some n s 0 k h
  have : m = k := by omega
  subst this
  exact ⟨h1, h2⟩
theorem find_none (n : ByteArray) : ∀ (s : List Col) (k : Nat), Sch.find n s k = none → ∀ c ∈ s, c.name ≠ n
  | [], _, _, c, hc => by cases hc
  | d :: r, k, h, c, hc => by
    rw [Sch.find] at h
    by_cases hd : d.name = n
    · rw [if_pos hd] at h; cases h
    · rw [if_neg hd] at h
      rcases List.mem_cons.1 hc with rfl | hc
      · exact hd
      · exact find_none n r (k + 1) h c hc
theorem find_first : ∀ (s : List Col) (i : Nat) (h : i < s.length) (k : Nat), (∀ m (hm : m < s.length), m < i → s[m].name ≠ s[i].name) → Sch.find s[i].name s k = some (k + i)
  | c :: r, 0, _, k, _ => by
    rw [List.getElem_cons_zero, Sch.find, if_pos rfl]
    rfl
  | c :: r, i + 1, h, k, hm => by
    have h0 := hm 0 (by simp) (by omega)
    rw [List.getElem_cons_zero, List.getElem_cons_succ] at h0
    rw [List.getElem_cons_succ, Sch.find, if_neg h0, find_first r i (by simpa using h) (k + 1) (fun m h1 h2 => by have := hm (m + 1) (by simpa using h1) (by omega); simpa using this)]
    congr 1
    omega
theorem colAt_get {s : List Col} {k : Nat} (h : k < s.length) : colAt s k = s[k] := by
  unfold colAt
  rw [List.getD_eq_getElem?_getD, List.getElem?_eq_getElem h]
  rfl
theorem getD_get {vs : List V} {k : Nat} (h : k < vs.length) : vs.getD k V0 = vs[k] := by
  rw [List.getD_eq_getElem?_getD, List.getElem?_eq_getElem h]
  rfl

/-- columns one by one -/
theorem cols_each {s : List Col} (h : Sch.colsErr [] s = 0) : ∀ i (hi : i < s.length), Sch.colErr (s.take i) s[i] = 0 := by
  have step : ∀ j, j ≤ s.length → Sch.colsErr (s.take j) (s.drop j) = 0 ∧ ∀ i (hi : i < s.length), i < j → Sch.colErr (s.take i) s[i] = 0 := by
    intro j
    induction j with
    | zero => intro _; exact ⟨by simpa using h, fun i _ h => by omega⟩
    | succ j ih =>
      intro hj
      obtain ⟨h1, h2⟩ := ih (by omega)
      rw [List.drop_eq_getElem_cons (show j < s.length by omega), Sch.colsErr] at h1
      by_cases h0 : Sch.colErr (s.take j) s[j] = 0
      · rw [if_pos h0] at h1
        rw [List.take_succ_eq_append_getElem (show j < s.length by omega)]
        refine ⟨h1, fun i hi hij => ?_⟩
        by_cases hc : i = j
        · subst hc; exact h0
        · exact h2 i hi (by omega)
      · rw [if_neg h0] at h1
        exact absurd h1 h0
  intro i hi
  exact (step s.length (Nat.le_refl _)).2 i hi hi
theorem cols_all {s : List Col} (h : ∀ i (hi : i < s.length), Sch.colErr (s.take i) s[i] = 0) : Sch.colsErr [] s = 0 := by
  have step : ∀ n j, j + n = s.length → Sch.colsErr (s.take j) (s.drop j) = 0 := by
    intro n
    induction n with
    | zero => intro j hj; rw [List.drop_eq_nil_of_le (by omega), Sch.colsErr]
    | succ n ih =>
      intro j hj
      have hj' : j < s.length := by omega
      rw [List.drop_eq_getElem_cons hj', Sch.colsErr, if_pos (h j hj')]
      have := ih (j + 1) (by omega)
      rw [List.take_succ_eq_append_getElem hj'] at this
      exact this
  have := step s.length 0 (by omega)
  simpa using this
theorem names_apart {s : List Col} (h : Sch.err s = 0) {i m : Nat} (hi : i < s.length) (hm : m < s.length) (hlt : m < i) : s[m].name ≠ s[i].name := by
  have h1 := cols_each (Sch.err_open h).2.2.1 i hi
  have h2 := (Sch.col_open h1).2.1
  rw [List.any_eq_false] at h2
  have := h2 s[m] (by
    rw [List.mem_take_iff_getElem]
    exact ⟨m, by omega, rfl⟩)
  simpa using this
theorem find_self {s : List Col} (h : Sch.err s = 0) {i : Nat} (hi : i < s.length) : Sch.find s[i].name s 0 = some i := by
  have := find_first s i hi 0 (fun m hm hlt => names_apart h hi hm hlt)
  simpa using this
theorem ty_ok {s : List Col} (h : Sch.err s = 0) {c : Col} (hc : c ∈ s) : Ty.check 1 c.ty = 0 := by
  obtain ⟨l, hl⟩ := Sch.colsErr_mem s [] (Sch.err_open h).2.2.1 c hc
  exact (Sch.col_open hl).2.2.1
theorem dflt_ok {s : List Col} (h : Sch.err s = 0) {c : Col} (hc : c ∈ s) (hh : c.has = true) : chk 1 c.dflt = 0 ∧ Sch.of c.dflt c.ty = true := by
  obtain ⟨l, hl⟩ := Sch.colsErr_mem s [] (Sch.err_open h).2.2.1 c hc
  exact (Sch.col_open hl).2.2.2.2 hh

/-- a row's values one by one -/
theorem vals_each : ∀ (s : List Col) (vs : List V), vs.length = s.length → Rw.colsErr s vs = 0 → ∀ i (h1 : i < s.length) (h2 : i < vs.length), Rw.vErr s[i].ty vs[i] = 0
  | [], _, _, _, i, h1, _ => by simp at h1
  | c :: s, [], h, _, i, _, _ => by simp at h
  | c :: s, v :: vs, h, he, i, h1, h2 => by
    rw [Rw.colsErr] at he
    by_cases h0 : Rw.vErr c.ty v = 0
    · rw [if_pos h0] at he
      cases i with
      | zero => simpa using h0
      | succ i => simpa using vals_each s vs (by simpa using h) he i (by simpa using h1) (by simpa using h2)
    · rw [if_neg h0] at he
      exact absurd he h0
theorem vals_all : ∀ (s : List Col) (vs : List V), vs.length = s.length → (∀ i (h1 : i < s.length) (h2 : i < vs.length), Rw.vErr s[i].ty vs[i] = 0) → Rw.colsErr s vs = 0
  | [], [], _, _ => rfl
  | [], _ :: _, h, _ => by simp at h
  | _ :: _, [], h, _ => by simp at h
  | c :: s, v :: vs, h, ha => by
    have h0 := ha 0 (by simp) (by simp)
    rw [List.getElem_cons_zero, List.getElem_cons_zero] at h0
    rw [Rw.colsErr, if_pos h0]
    exact vals_all s vs (by simpa using h) fun i h1 h2 => by have := ha (i + 1) (by simpa using h1) (by simpa using h2); simpa using this
theorem given_open {s : List Col} {vs : List V} (h : given s vs = 0) : vs.length = s.length ∧ ∀ i (h1 : i < s.length) (h2 : i < vs.length), Rw.vErr s[i].ty vs[i] = 0 := by
  unfold given at h
  by_cases hl : vs.length = s.length
  · rw [if_neg (by simpa using hl)] at h
    exact ⟨hl, vals_each s vs hl h⟩
  · rw [if_pos (by simpa using hl)] at h
    cases h
theorem given_make {s : List Col} {vs : List V} (hl : vs.length = s.length) (h : ∀ i (h1 : i < s.length) (h2 : i < vs.length), Rw.vErr s[i].ty vs[i] = 0) : given s vs = 0 := by
  unfold given
  rw [if_neg (by simpa using hl)]
  exact vals_all s vs hl h
theorem check_open {s t : List Col} (h : check s t = 0) : Sch.err s = 0 ∧ Sch.err t = 0 ∧ ∀ c ∈ t, colErr s c = 0 := by
  unfold check at h
  by_cases h1 : Sch.err s = 0
  · rw [if_neg (by omega)] at h
    by_cases h2 : Sch.err t = 0
    · rw [if_neg (by omega)] at h
      exact ⟨h1, h2, first_zero _ _ h⟩
    · rw [if_pos h2] at h; exact absurd h h2
  · rw [if_pos h1] at h; exact absurd h h1
theorem check_make {s t : List Col} (h1 : Sch.err s = 0) (h2 : Sch.err t = 0) (h3 : ∀ c ∈ t, colErr s c = 0) : check s t = 0 := by
  unfold check
  rw [if_neg (by omega), if_neg (by omega)]
  exact first_all _ _ h3

/-- what a column's value is like -/
theorem one_good {s t : List Col} {vs : List V} (hck : check s t = 0) (hg : given s vs = 0) (hwv : ∀ v ∈ vs, v.wf) (hwt : ∀ c ∈ t, c.wf) {c : Col} (hc : c ∈ t) : Good 1 c.ty (one s vs c) := by
  obtain ⟨h1, h2, h3⟩ := check_open hck
  obtain ⟨hl, hv⟩ := given_open hg
  have h4 := h3 c hc
  unfold one
  unfold colErr at h4
  cases hf : Sch.find c.name s 0 with
  | none =>
    rw [hf] at h4
    have hh : c.has = true := by
      cases h : c.has with
      | true => rfl
      | false => simp [h] at h4
    obtain ⟨d1, d2⟩ := dflt_ok h2 hc hh
    exact ⟨by rw [chk_fix]; exact d1, by rw [of_fix]; exact d2, fix_wf _ (hwt c hc).2.2, fix_idem _⟩
  | some k =>
    rw [hf] at h4
    obtain ⟨hk, -⟩ := find_here hf
    have hk2 : k < vs.length := by omega
    have hv' := Rw.vErr_zero (hv k hk hk2)
    show Good 1 c.ty (read 7 (vs.getD k V0) (colAt s k).ty c.ty)
    have h4' : can 7 (colAt s k).ty c.ty = true := by
      cases h : can 7 (colAt s k).ty c.ty with
      | true => rfl
      | false => simp [h] at h4
    rw [colAt_get hk] at h4' ⊢
    rw [getD_get hk2]
    exact read_good 7 vs[k] s[k].ty c.ty 1 1 1 hv'.1 (ty_ok h2 hc) hv'.2.1 hv'.2.2 (hwv _ (List.getElem_mem hk2)) (by omega) h4'
/-- P9.5: what is told is of the reader's schema -/
theorem row_typed {s t : List Col} {vs ys : List V} (h : row s t vs = .ok ys) (hwv : ∀ v ∈ vs, v.wf) (hwt : ∀ c ∈ t, c.wf) : check s t = 0 ∧ given s vs = 0 ∧ ys.length = t.length ∧ (∀ v ∈ ys, v.wf) ∧ ∀ j (h1 : j < ys.length) (h2 : j < t.length), Sch.is ys[j] t[j].ty = true := by
  unfold row at h
  by_cases h1 : check s t = 0
  · rw [if_neg (by omega)] at h
    by_cases h2 : given s vs = 0
    · rw [if_neg (by omega)] at h
      have hgd := fun c hc => one_good (c := c) h1 h2 hwv hwt hc
      refine ⟨h1, h2, allR_len t h, fun v hv => ?_, fun j hj1 hj2 => ?_⟩
      · obtain ⟨c, hc, hf⟩ := allR_mem t h v hv
        have := hgd c hc
        rw [hf] at this
        exact this.2.2.1
      · have hf := allR_at t h j hj2 hj1
        have := hgd t[j] (List.getElem_mem hj2)
        rw [hf] at this
        unfold Sch.is
        rw [decide_eq_true (ty_ok (check_open h1).2.1 (List.getElem_mem hj2)), decide_eq_true this.1, this.2.1]
        rfl
    · rw [if_pos h2] at h; cases h
  · rw [if_pos h1] at h; cases h
theorem row_ne {s t : List Col} {vs : List V} {e : Nat} (h : row s t vs = .error e) (hwv : ∀ v ∈ vs, v.wf) (hwt : ∀ c ∈ t, c.wf) : e ≠ 0 := by
  unfold row at h
  by_cases h1 : check s t = 0
  · rw [if_neg (by omega)] at h
    by_cases h2 : given s vs = 0
    · rw [if_neg (by omega)] at h
      obtain ⟨c, hc, hf⟩ := allR_bad t h
      have := one_good (c := c) h1 h2 hwv hwt hc
      rw [hf] at this
      exact this
    · rw [if_pos h2] at h; cases h; exact h2
  · rw [if_pos h1] at h; cases h; exact h1
theorem row_make {s t : List Col} {vs : List V} (h1 : check s t = 0) (h2 : given s vs = 0) : row s t vs = allR (one s vs) t := by
  unfold row
  rw [if_neg (by omega), if_neg (by omega)]
/-- a column that both have, of the same type -/
theorem one_self {s : List Col} {vs : List V} (hg : given s vs = 0) {c : Col} {k : Nat} (hk : k < s.length) (hv : k < vs.length) (hn : Sch.find c.name s 0 = some k) (ht : c.ty = s[k].ty) : colErr s c = 0 ∧ one s vs c = .ok (V.fix vs[k]) := by
  obtain ⟨hl, hvs⟩ := given_open hg
  have hv' := Rw.vErr_zero (hvs k hk hv)
  unfold colErr one
  rw [hn]
  constructor
  · show (if can 7 (colAt s k).ty c.ty = true then 0 else 60) = 0
    rw [colAt_get hk, ht, can_self 7 s[k].ty 1 hv'.1 (by omega)]
    rfl
  · show read 7 (vs.getD k V0) (colAt s k).ty c.ty = _
    rw [colAt_get hk, getD_get hv, ht]
    exact read_self 7 s[k].ty vs[k] 1 1 hv'.1 hv'.2.1 hv'.2.2 (by omega)
theorem allR_each {α β : Type} {f : α → Except Nat β} : ∀ (l : List α) (ys : List β), ys.length = l.length → (∀ j (h1 : j < l.length) (h2 : j < ys.length), f l[j] = .ok ys[j]) → allR f l = .ok ys
  | [], [], _, _ => rfl
  | [], _ :: _, h, _ => by simp at h
  | _ :: _, [], h, _ => by simp at h
  | x :: l, y :: ys, h, ha => by
    have h0 := ha 0 (by simp) (by simp)
    rw [List.getElem_cons_zero, List.getElem_cons_zero] at h0
    rw [allR_cons, h0, allR_each l ys (by simpa using h) fun j h1 h2 => by have := ha (j + 1) (by simpa using h1) (by simpa using h2); simpa using this]
/-- P9.5: under its own schema a row is itself -/
theorem row_self {s : List Col} {vs : List V} {ys : List V} (h : row s s vs = .ok ys) : Sch.err s = 0 ∧ given s vs = 0 ∧ ys = vs.map V.fix := by
  unfold row at h
  by_cases h1 : check s s = 0
  · rw [if_neg (by omega)] at h
    by_cases h2 : given s vs = 0
    · rw [if_neg (by omega)] at h
      have he := (check_open h1).1
      have hl := (given_open h2).1
      have h3 : allR (one s vs) s = .ok (vs.map V.fix) := allR_each _ _ (by simpa using hl) fun j h1 h2' => by
        have := (one_self h2 (c := s[j]) h1 (by omega) (find_self he h1) rfl).2
        rw [this, List.getElem_map]
      rw [h3] at h
      cases h
      exact ⟨he, h2, rfl⟩
    · rw [if_pos h2] at h; cases h
  · rw [if_pos h1] at h; cases h

/-- P9.7: what else the columns could hold -/
theorem row_blind {s t : List Col} {vs qs ys : List V} (h : row s t vs = .ok ys) (hl : qs.length = vs.length) (hq : ∀ i (h1 : i < s.length) (h2 : i < vs.length) (h3 : i < qs.length), qs[i] = vs[i] ∨ (Sch.find s[i].name t 0 = none ∧ Sch.is qs[i] s[i].ty = true)) : row s t qs = .ok ys := by
  unfold row at h
  by_cases h1 : check s t = 0
  · rw [if_neg (by omega)] at h
    by_cases h2 : given s vs = 0
    · rw [if_neg (by omega)] at h
      obtain ⟨gl, gv⟩ := given_open h2
      have h3 : given s qs = 0 := given_make (by omega) fun i hi1 hi2 => by
        rcases hq i hi1 (by omega) hi2 with hc | ⟨-, hc⟩
        · rw [hc]; exact gv i hi1 (by omega)
        · unfold Sch.is at hc
          simp only [Bool.and_eq_true, decide_eq_true_eq] at hc
          exact Rw.vErr_make hc.1.1 hc.1.2 hc.2
      rw [row_make h1 h3, ← h]
      refine allR_congr t fun c hc => ?_
      unfold one
      cases hf : Sch.find c.name s 0 with
      | none => rfl
      | some k =>
        obtain ⟨hk, hn⟩ := find_here hf
        show read 7 (qs.getD k V0) _ _ = read 7 (vs.getD k V0) _ _
        rw [getD_get (show k < qs.length by omega), getD_get (show k < vs.length by omega)]
        rcases hq k hk (by omega) (by omega) with he | ⟨he, -⟩
        · rw [he]
        · exact absurd hn.symm (find_none _ t 0 he c hc)
    · rw [if_pos h2] at h; cases h
  · rw [if_pos h1] at h; cases h

/-- the columns that are named -/
theorem proj_open {s : List Col} : ∀ (ns l : List ByteArray) {p : List Col}, proj s l ns = .ok p → p.length = ns.length ∧ (∀ n ∈ ns, n ∉ l) ∧ ns.Nodup ∧ ∀ i (h1 : i < ns.length) (h2 : i < p.length), ∃ k, Sch.find ns[i] s 0 = some k ∧ p[i] = (colAt s k).fix
  | [], l, p, h => by
    rw [proj] at h
    cases h
    exact ⟨rfl, fun n hn => (by cases hn), List.nodup_nil, fun i h1 => by simp at h1⟩
  | n :: r, l, p, h => by
    rw [proj] at h
    by_cases hn : hasN l n = true
    · rw [if_pos hn] at h; cases h
    · rw [if_neg hn] at h
      rw [hasN_iff] at hn
      cases hf : Sch.find n s 0 with
      | none => rw [hf] at h; cases h
      | some k =>
        rw [hf] at h
        cases hr : proj s (l ++ [n]) r with
        | error e => simp only [hr] at h; cases h
        | ok cs =>
          simp only [hr] at h
          cases h
          obtain ⟨h1, h2, h3, h4⟩ := proj_open r (l ++ [n]) hr
          refine ⟨by simp [h1], fun m hm => ?_, ?_, fun i hi1 hi2 => ?_⟩
          · rcases List.mem_cons.1 hm with rfl | hm
            · exact hn
            · intro hc
              exact h2 m hm (by simp [hc])
          · refine List.nodup_cons.2 ⟨fun hc => ?_, h3⟩
            exact h2 n hc (by simp)
          · cases i with
            | zero => exact ⟨k, by simpa using hf, rfl⟩
            | succ i => simpa using h4 i (by simpa using hi1) (by simpa using hi2)

/-- a number of the first column of that name -/
def pick (f : Col → Nat) (n : ByteArray) : List Col → Nat
  | [] => 0
  | c :: r => if c.name = n then f c else pick f n r
theorem sum_swap (a : ByteArray) (x : Nat) (g : ByteArray → Nat) : ∀ ns : List ByteArray, ns.Nodup → (ns.map fun n => if a = n then x else g n).sum ≤ x + ((ns.filter fun n => !decide (a = n)).map g).sum
  | [], _ => by simp
  | n :: r, h => by
    obtain ⟨h1, h2⟩ := List.nodup_cons.1 h
    have ih := sum_swap a x g r h2
    rw [List.map_cons, List.sum_cons]
    by_cases hn : a = n
    · subst hn
      rw [if_pos rfl, List.filter_cons_of_neg (by simp)]
      have h3 : (r.map fun n => if a = n then x else g n) = r.map g := List.map_congr_left fun m hm => by
        rw [if_neg]
        intro hc
        rw [hc] at h1
        exact h1 hm
      have h4 : (r.filter fun n => !decide (a = n)) = r := List.filter_eq_self.2 fun m hm => by
        simp only [Bool.not_eq_true', decide_eq_false_iff_not]
        intro hc
        rw [hc] at h1
        exact h1 hm
      rw [h3, h4]
      omega
    · rw [if_neg hn, List.filter_cons_of_pos (by simpa using hn), List.map_cons, List.sum_cons]
      omega
theorem sum_pick (f : Col → Nat) : ∀ (s : List Col) (ns : List ByteArray), ns.Nodup → (ns.map fun n => pick f n s).sum ≤ (s.map f).sum
  | [], ns, _ => by
    have : (ns.map fun n => pick f n []) = ns.map fun _ => 0 := rfl
    rw [this]
    have h0 : ∀ l : List ByteArray, (l.map fun _ => 0).sum = 0 := fun l => by
      induction l with
      | nil => rfl
      | cons x r ih => rw [List.map_cons, List.sum_cons, ih]
    rw [h0]
    exact Nat.zero_le _
  | c :: r, ns, h => by
    have h1 := sum_swap c.name (f c) (fun n => pick f n r) ns h
    have h2 := sum_pick f r (ns.filter fun n => !decide (c.name = n)) (h.filter _)
    have h3 : (ns.map fun n => pick f n (c :: r)) = ns.map fun n => if c.name = n then f c else pick f n r := rfl
    rw [h3, List.map_cons, List.sum_cons]
    omega
theorem pick_find (f : Col → Nat) (n : ByteArray) : ∀ (s : List Col) (k m : Nat), Sch.find n s k = some m → ∃ h : m - k < s.length, pick f n s = f s[m - k]
  | [], k, m, h => by cases h
  | c :: r, k, m, h => by
    rw [Sch.find] at h
    by_cases hc : c.name = n
    · rw [if_pos hc] at h
      cases h
      refine ⟨by simp, ?_⟩
      rw [pick, if_pos hc]
      simp
    · rw [if_neg hc] at h
      obtain ⟨h1, h2⟩ := pick_find f n r (k + 1) m h
      obtain ⟨q, hq, -⟩ := find_some n r (k + 1) m h
      have e : m - k = m - (k + 1) + 1 := by omega
      refine ⟨by rw [e]; simpa using h1, ?_⟩
      rw [pick, if_neg hc, h2]
      simp only [e, List.getElem_cons_succ]
/-- P9.4: what is told may be -/
theorem proj_err {s p : List Col} {ns : List ByteArray} (hs : Sch.err s = 0) (hn : ns.length ≠ 0) (h : proj s [] ns = .ok p) : Sch.err p = 0 := by
  obtain ⟨h1, -, h3, h4⟩ := proj_open ns [] h
  obtain ⟨s1, s2, s3, s4⟩ := Sch.err_open hs
  have hpick : ∀ f : Col → Nat, (∀ c, f c.fix = f c) → (p.map f).sum ≤ (s.map f).sum := fun f hf => by
    have e : p.map f = ns.map fun n => pick f n s := by
      apply List.ext_getElem
      · simpa using h1
      · intro i hi1 hi2
        rw [List.getElem_map, List.getElem_map]
        obtain ⟨k, hk, hp⟩ := h4 i (by simpa using hi2) (by simpa using hi1)
        obtain ⟨hk1, hk2⟩ := pick_find f _ s 0 k hk
        rw [hp, hf, hk2]
        have : colAt s k = s[k - 0] := colAt_get hk1
        rw [this]
    rw [e]
    exact sum_pick f s ns h3
  have hlen := hpick (fun _ => 1) (fun _ => rfl)
  have e1 : ∀ l : List Col, (l.map fun _ => 1).sum = l.length := fun l => by
    induction l with
    | nil => rfl
    | cons x r ih => rw [List.map_cons, List.sum_cons, ih, List.length_cons]; omega
  rw [e1, e1] at hlen
  have hby := hpick (fun c => (Sch.cB c).length) (fun c => by rw [Sch.cB_fix])
  have e2 : ∀ l : List Col, (l.map Sch.cB).flatten.length = (l.map fun c => (Sch.cB c).length).sum := fun l => by
    induction l with
    | nil => rfl
    | cons x r ih => rw [List.map_cons, List.flatten_cons, List.length_append, ih, List.map_cons, List.sum_cons]
  refine Sch.err_make (by omega) (by omega) (cols_all fun i hi => ?_) ?_
  · obtain ⟨k, hk, hp⟩ := h4 i (by omega) hi
    obtain ⟨hk1, hk2⟩ := find_here hk
    rw [colAt_get hk1] at hp
    obtain ⟨c1, -, c3, c4, c5⟩ := Sch.col_open (cols_each s3 k hk1)
    rw [hp]
    refine Sch.col_make c1 ?_ c3 (fun hh => by show V.fix (V.fix _) = _; rw [fix_idem]; exact c4 hh) (fun hh => ?_)
    · rw [List.any_eq_false]
      intro c hc
      rw [List.mem_take_iff_getElem] at hc
      obtain ⟨m, hm, rfl⟩ := hc
      obtain ⟨k', hk', hp'⟩ := h4 m (by omega) (by omega)
      obtain ⟨hk1', hk2'⟩ := find_here hk'
      rw [colAt_get hk1'] at hp'
      rw [hp']
      simp only [decide_eq_true_eq]
      show ¬ s[k'].name = s[k].name
      rw [hk2', hk2]
      intro hc
      exact List.pairwise_iff_getElem.1 h3 m i (by omega) (by omega) (by omega) hc
    · have := c5 hh
      exact ⟨by show chk 1 (V.fix _) = 0; rw [chk_fix]; exact this.1, by show Sch.of (V.fix _) _ = true; rw [of_fix]; exact this.2⟩
  · rw [Sch.bytes] at s4 ⊢
    rw [List.length_append, e2] at s4 ⊢
    have hp1 : (Leb.put p.length).length = 1 := Leb.put_small (by omega)
    have hp2 : (Leb.put s.length).length = 1 := Leb.put_small (by omega)
    omega
theorem project_open {s p : List Col} {ns : List ByteArray} (h : project s ns = .ok p) : Sch.err s = 0 ∧ Sch.err p = 0 ∧ p.length = ns.length ∧ ∀ i (h1 : i < ns.length) (h2 : i < p.length), ∃ k, Sch.find ns[i] s 0 = some k ∧ p[i] = (colAt s k).fix := by
  unfold project at h
  by_cases h1 : Sch.err s = 0
  · rw [if_neg (by omega)] at h
    by_cases h2 : ns.length = 0
    · rw [if_pos h2] at h; cases h
    · rw [if_neg h2] at h
      obtain ⟨a, -, -, b⟩ := proj_open ns [] h
      exact ⟨h1, proj_err h1 h2 h, a, b⟩
  · rw [if_pos h1] at h; cases h
theorem project_ne {s : List Col} {ns : List ByteArray} {e : Nat} (h : project s ns = .error e) : e ≠ 0 := by
  have hp : ∀ (ns l : List ByteArray) {e : Nat}, proj s l ns = .error e → e ≠ 0 := by
    intro ns
    induction ns with
    | nil => intro l e h; rw [proj] at h; cases h
    | cons n r ih =>
      intro l e h
      rw [proj] at h
      by_cases hn : hasN l n = true
      · rw [if_pos hn] at h; cases h; omega
      · rw [if_neg hn] at h
        cases hf : Sch.find n s 0 with
        | none => rw [hf] at h; cases h; omega
        | some k =>
          rw [hf] at h
          cases hr : proj s (l ++ [n]) r with
          | error e' => simp only [hr] at h; cases h; exact ih _ hr
          | ok cs => simp only [hr] at h; cases h
  unfold project at h
  by_cases h1 : Sch.err s = 0
  · rw [if_neg (by omega)] at h
    by_cases h2 : ns.length = 0
    · rw [if_pos h2] at h; cases h; omega
    · rw [if_neg h2] at h
      exact hp ns [] h
  · rw [if_pos h1] at h; cases h; exact h1
/-- P9.5: under some of its columns a row is just these -/
theorem row_project {s p : List Col} {vs : List V} {ns : List ByteArray} (h : project s ns = .ok p) (hg : given s vs = 0) : ∃ ys, row s p vs = .ok ys ∧ ys.length = ns.length ∧ ∀ i (h1 : i < ns.length) (h2 : i < ys.length), ∃ k, Sch.find ns[i] s 0 = some k ∧ ∃ hk : k < vs.length, ys[i] = V.fix vs[k] := by
  obtain ⟨h1, h2, h3, h4⟩ := project_open h
  obtain ⟨gl, -⟩ := given_open hg
  have hone : ∀ i (hi : i < p.length), ∃ k, ∃ hk : k < vs.length, Sch.find (ns[i]'(by omega)) s 0 = some k ∧ colErr s p[i] = 0 ∧ one s vs p[i] = .ok (V.fix vs[k]) := fun i hi => by
    obtain ⟨k, hk, hp⟩ := h4 i (by omega) hi
    obtain ⟨hk1, hk2⟩ := find_here hk
    rw [colAt_get hk1] at hp
    have := one_self hg (c := p[i]) hk1 (by omega) (by rw [hp]; show Sch.find s[k].name s 0 = _; rw [hk2]; exact hk) (by rw [hp]; rfl)
    exact ⟨k, by omega, hk, this.1, this.2⟩
  have hck : check s p = 0 := check_make h1 h2 fun c hc => by
    obtain ⟨i, hi, rfl⟩ := List.mem_iff_getElem.1 hc
    obtain ⟨k, -, -, he, -⟩ := hone i hi
    exact he
  cases hr : allR (one s vs) p with
  | error e =>
    obtain ⟨c, hc, hf⟩ := allR_bad p hr
    obtain ⟨i, hi, rfl⟩ := List.mem_iff_getElem.1 hc
    obtain ⟨k, hk, -, -, he⟩ := hone i hi
    rw [hf] at he
    cases he
  | ok ys =>
    have hl := allR_len p hr
    refine ⟨ys, by rw [row_make hck hg]; exact hr, by omega, fun i hi1 hi2 => ?_⟩
    obtain ⟨k, hk, hf, -, he⟩ := hone i (by omega)
    have := allR_at p hr i (by omega) hi2
    rw [he] at this
    injection this with this
    exact ⟨k, hf, hk, this.symm⟩
end Rz
end Go.Proofs.YtdahackmmhcjoaaGreat
