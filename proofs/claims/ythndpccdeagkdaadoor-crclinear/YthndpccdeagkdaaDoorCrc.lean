/- Plain facts on the 32 bit check, without any program: the register's step is linear and loses nothing; a list's check is that of its bits read as one number; parts, xors and bursts. -/
namespace Go.Proofs.YthndpccdeagkdaaDoor.Crc

/-- the polynomial, and the register with all bits set -/
def poly : Nat := 3988292384
def full : Nat := 4294967295

/-- one bit shifted out -/
def step (r : Nat) : Nat := if r % 2 = 1 then r / 2 ^^^ poly else r / 2
/-- n bits shifted out -/
def steps : Nat → Nat → Nat
  | 0, r => r
  | n + 1, r => steps n (step r)
/-- a byte taken in -/
def byte (r c : Nat) : Nat := steps 8 (r ^^^ c)
/-- bytes taken in, one by one -/
def take (r : Nat) : List UInt8 → Nat
  | [] => r
  | c :: l => take (byte r c.toNat) l
/-- from a check on -/
def update (s : Nat) (l : List UInt8) : Nat := take (s ^^^ full) l ^^^ full
/-- the check -/
def sum (l : List UInt8) : Nat := update 0 l

theorem poly_lt : poly < 4294967296 := by decide

theorem xor_half (a b : Nat) : (a ^^^ b) / 2 = a / 2 ^^^ b / 2 := by
  have := Nat.shiftRight_xor_distrib (a := a) (b := b) (i := 1)
  simpa [Nat.shiftRight_eq_div_pow] using this

theorem step_xor (a b : Nat) : step (a ^^^ b) = step a ^^^ step b := by
  unfold step
  have h := Nat.testBit_xor a b 0
  simp only [Nat.testBit_zero] at h
  rw [xor_half]
  by_cases ha : a % 2 = 1 <;> by_cases hb : b % 2 = 1 <;> simp only [ha, hb, decide_true, decide_false, Bool.xor_true, Bool.xor_false, Bool.not_true, Bool.not_false, decide_eq_true_eq, decide_eq_false_iff_not] at h
  · rw [if_neg h, if_pos ha, if_pos hb]
    rw [Nat.xor_comm (b / 2) poly, Nat.xor_assoc, ← Nat.xor_assoc poly poly, Nat.xor_self, Nat.zero_xor]
  · rw [if_pos h, if_pos ha, if_neg hb]
    rw [Nat.xor_assoc, Nat.xor_assoc, Nat.xor_comm (b / 2) poly]
  · rw [if_pos h, if_neg ha, if_pos hb, Nat.xor_assoc]
  · rw [if_neg h, if_neg ha, if_neg hb]

theorem steps_xor (n : Nat) : ∀ a b, steps n (a ^^^ b) = steps n a ^^^ steps n b := by
  induction n with
  | zero => intro a b; rfl
  | succ n ih => intro a b; simp only [steps]; rw [step_xor, ih]

theorem steps_zero (n : Nat) : steps n 0 = 0 := by
  induction n with
  | zero => rfl
  | succ n ih => simp only [steps]; rw [show step 0 = 0 by decide, ih]

theorem steps_add (m n r : Nat) : steps (m + n) r = steps n (steps m r) := by
  induction m generalizing r with
  | zero => simp [steps]
  | succ m ih => rw [show m + 1 + n = (m + n) + 1 by omega]; simp only [steps]; exact ih _

theorem step_double (r : Nat) : step (2 * r) = r := by
  unfold step
  rw [if_neg (by omega)]; omega

theorem steps_pow (n r : Nat) : steps n (2 ^ n * r) = r := by
  induction n generalizing r with
  | zero => simp [steps]
  | succ n ih =>
    simp only [steps]
    rw [show 2 ^ (n + 1) * r = 2 * (2 ^ n * r) by rw [Nat.pow_succ, Nat.mul_comm (2 ^ n) 2, Nat.mul_assoc], step_double, ih]

theorem step_lt {r : Nat} (h : r < 4294967296) : step r < 4294967296 := by
  unfold step
  split
  · exact Nat.xor_lt_two_pow (n := 32) (by omega) poly_lt
  · omega

theorem steps_lt (n : Nat) {r : Nat} (h : r < 4294967296) : steps n r < 4294967296 := by
  induction n generalizing r with
  | zero => exact h
  | succ n ih => exact ih (step_lt h)

/-- the register's step loses nothing -/
theorem step_ne {r : Nat} (h : r < 4294967296) (h0 : r ≠ 0) : step r ≠ 0 := by
  unfold step
  split
  · intro hc
    have h1 : r / 2 = poly := by
      have h2 : r / 2 ^^^ poly ^^^ poly = 0 ^^^ poly := by rw [hc]
      rw [Nat.xor_assoc, Nat.xor_self, Nat.xor_zero, Nat.zero_xor] at h2
      exact h2
    unfold poly at h1; omega
  · omega

theorem steps_ne (n : Nat) {r : Nat} (h : r < 4294967296) (h0 : r ≠ 0) : steps n r ≠ 0 := by
  induction n generalizing r with
  | zero => exact h0
  | succ n ih => exact ih (step_lt h) (step_ne h h0)

/-- the bits of a list, the first byte's lowest bit first, as one number -/
def num : List UInt8 → Nat
  | [] => 0
  | c :: l => c.toNat + 256 * num l

theorem add_xor_pow (k c m : Nat) (h : c < 2 ^ k) : c + 2 ^ k * m = c ^^^ 2 ^ k * m := by
  have h1 := Nat.two_pow_add_eq_or_of_lt (i := k) (b := c) h m
  rw [Nat.add_comm, h1]
  apply Nat.eq_of_testBit_eq
  intro i
  rw [Nat.testBit_or, Nat.testBit_xor]
  by_cases hi : i < k
  · have h2 : (2 ^ k * m).testBit i = false := by
      rw [Nat.testBit_two_pow_mul]; simp; omega
    rw [h2]; simp
  · have h2 : c.testBit i = false := by
      apply Nat.testBit_lt_two_pow
      exact Nat.lt_of_lt_of_le h (Nat.pow_le_pow_right (by omega) (by omega))
    rw [h2]; simp
theorem add_xor (c m : Nat) (h : c < 256) : c + 256 * m = c ^^^ 256 * m := add_xor_pow 8 c m h
theorem add_xor16 (c m : Nat) (h : c < 16) : c + 16 * m = c ^^^ 16 * m := add_xor_pow 4 c m h

/-- bytes taken in: so many bits shifted out of the register and their number -/
theorem take_num (l : List UInt8) : ∀ r, take r l = steps (8 * l.length) (r ^^^ num l) := by
  induction l with
  | nil =>
    intro r
    have h : 8 * ([] : List UInt8).length = 0 := rfl
    rw [h]
    show r = r ^^^ 0
    rw [Nat.xor_zero]
  | cons c l ih =>
    intro r
    have hc : c.toNat < 256 := c.toNat_lt
    have e : steps 8 (256 * num l) = num l := steps_pow 8 (num l)
    have h1 : take r (c :: l) = steps (8 * l.length) (byte r c.toNat ^^^ num l) := ih (byte r c.toNat)
    have h2 : byte r c.toNat ^^^ num l = steps 8 (r ^^^ num (c :: l)) := by
      have h3 : num (c :: l) = c.toNat ^^^ 256 * num l := add_xor _ _ hc
      rw [h3, ← Nat.xor_assoc, steps_xor 8 (r ^^^ c.toNat), e]
      rfl
    have h4 : 8 * (c :: l).length = 8 + 8 * l.length := by rw [List.length_cons]; omega
    rw [h1, h2, h4, steps_add]

theorem take_append (a b : List UInt8) : ∀ r, take r (a ++ b) = take (take r a) b := by
  induction a with
  | nil => intro r; rfl
  | cons c a ih => intro r; exact ih _

theorem flip_flip (s : Nat) : s ^^^ full ^^^ full = s := by rw [Nat.xor_assoc, Nat.xor_self, Nat.xor_zero]

/-- P2.3 -/
theorem update_append (s : Nat) (a b : List UInt8) : update s (a ++ b) = update (update s a) b := by
  unfold update
  rw [take_append, flip_flip]
theorem update_nil (s : Nat) : update s [] = s := flip_flip s

theorem byte_lt {r c : Nat} (hr : r < 4294967296) (hc : c < 256) : byte r c < 4294967296 :=
  steps_lt 8 (Nat.xor_lt_two_pow (n := 32) hr (by omega))
theorem take_lt (l : List UInt8) : ∀ {r : Nat}, r < 4294967296 → take r l < 4294967296 := by
  induction l with
  | nil => intro r h; exact h
  | cons c l ih => intro r h; exact ih (byte_lt h c.toNat_lt)
theorem update_lt {s : Nat} (h : s < 4294967296) (l : List UInt8) : update s l < 4294967296 :=
  Nat.xor_lt_two_pow (n := 32) (take_lt l (Nat.xor_lt_two_pow (n := 32) h (by decide))) (by decide)

/-- P2.4: three lists of one length -/
theorem sum_xor (a b c x : List UInt8) (ha : a.length = x.length) (hb : b.length = x.length) (hc : c.length = x.length) (h : num x = num a ^^^ num b ^^^ num c) :
    sum x = sum a ^^^ sum b ^^^ sum c := by
  unfold sum update
  rw [take_num, take_num, take_num, take_num, ha, hb, hc, h, Nat.zero_xor]
  simp only [steps_xor]
  generalize steps (8 * x.length) full = f
  generalize steps (8 * x.length) (num a) = p
  generalize steps (8 * x.length) (num b) = q
  generalize steps (8 * x.length) (num c) = r
  apply Nat.eq_of_testBit_eq
  intro i
  simp only [Nat.testBit_xor]
  cases f.testBit i <;> cases p.testBit i <;> cases q.testBit i <;> cases r.testBit i <;> cases full.testBit i <;> rfl

/-- P2.5: a list whose bits differ by e, read from bit 'first' on and less than 2 ^ 32, has the same check just if e is nothing -/
theorem sum_burst (b x : List UInt8) (hx : x.length = b.length) (first e : Nat) (hf : first ≤ 8 * b.length) (he : e < 4294967296) (h : num x = num b ^^^ 2 ^ first * e) :
    sum x = sum b ↔ e = 0 := by
  have key : sum x = sum b ^^^ steps (8 * b.length - first) e := by
    unfold sum update
    rw [take_num, take_num, hx, h, Nat.zero_xor, ← Nat.xor_assoc, steps_xor _ _ (2 ^ first * e)]
    have e1 : steps (8 * b.length) (2 ^ first * e) = steps (8 * b.length - first) e := by
      have := steps_add first (8 * b.length - first) (2 ^ first * e)
      rw [show first + (8 * b.length - first) = 8 * b.length by omega, steps_pow] at this
      exact this
    rw [e1, Nat.xor_assoc, Nat.xor_assoc, Nat.xor_comm (steps (8 * b.length - first) e) full]
  rw [key]
  constructor
  · intro hs
    have h1 : steps (8 * b.length - first) e = 0 := by
      have h2 : sum b ^^^ (sum b ^^^ steps (8 * b.length - first) e) = sum b ^^^ sum b := by rw [hs]
      rw [← Nat.xor_assoc, Nat.xor_self, Nat.zero_xor] at h2
      exact h2
    by_cases h0 : e = 0
    · exact h0
    · exact absurd h1 (steps_ne _ he h0)
  · intro h0
    rw [h0, steps_zero, Nat.xor_zero]

/-- unlike lists of one length have unlike numbers -/
theorem num_inj : ∀ (a b : List UInt8), a.length = b.length → num a = num b → a = b
  | [], [], _, _ => rfl
  | [], _ :: _, h, _ => by simp at h
  | _ :: _, [], h, _ => by simp at h
  | c :: a, d :: b, h, hn => by
    have hc : c.toNat < 256 := c.toNat_lt
    have hd : d.toNat < 256 := d.toNat_lt
    simp only [num] at hn
    have e1 : c.toNat = d.toNat := by omega
    have e2 : num a = num b := by omega
    rw [UInt8.toNat_inj.1 e1, num_inj a b (by simpa using h) e2]

/-- half a byte at once, out of a table -/
theorem nibble (r : Nat) : steps 4 r = r / 16 ^^^ steps 4 (r % 16) := by
  have h : r = r % 16 ^^^ 16 * (r / 16) := by
    have := add_xor16 (r % 16) (r / 16) (Nat.mod_lt _ (by omega))
    rw [← this]; omega
  have e : steps 4 (16 * (r / 16)) = r / 16 := steps_pow 4 (r / 16)
  calc steps 4 r = steps 4 (r % 16 ^^^ 16 * (r / 16)) := by rw [← h]
    _ = r / 16 ^^^ steps 4 (r % 16) := by rw [steps_xor, e, Nat.xor_comm]

theorem pow_xor (k a b : Nat) : 2 ^ k * (a ^^^ b) = 2 ^ k * a ^^^ 2 ^ k * b := by
  have := Nat.shiftLeft_xor_distrib (a := a) (b := b) (i := k)
  simpa [Nat.shiftLeft_eq, Nat.mul_comm] using this

theorem num_cons (c : UInt8) (l : List UInt8) : num (c :: l) = c.toNat ^^^ 256 * num l := add_xor _ _ c.toNat_lt

/-- byte by byte -/
theorem num_zip : ∀ (a b : List UInt8), a.length = b.length → num (List.zipWith (· ^^^ ·) a b) = num a ^^^ num b
  | [], [], _ => by simp [num]
  | [], _ :: _, h => by simp at h
  | _ :: _, [], h => by simp at h
  | c :: a, d :: b, h => by
    rw [List.zipWith_cons_cons, num_cons, num_cons, num_cons, num_zip a b (by simpa using h), UInt8.toNat_xor]
    have e : 256 * (num a ^^^ num b) = 256 * num a ^^^ 256 * num b := pow_xor 8 (num a) (num b)
    rw [e]
    generalize 256 * num a = p
    generalize 256 * num b = q
    rw [Nat.xor_assoc, Nat.xor_assoc, ← Nat.xor_assoc d.toNat p q, Nat.xor_comm d.toNat p, Nat.xor_assoc p]

/-- one bit of a list turned -/
theorem num_turn : ∀ (l : List UInt8) (i : Nat) (hi : i < l.length) (d : UInt8) (j : Nat), d.toNat = 2 ^ j → num (l.set i (l[i] ^^^ d)) = num l ^^^ 2 ^ (8 * i + j)
  | [], i, hi, _, _, _ => by simp at hi
  | c :: l, 0, _, d, j, hd => by
    rw [List.set_cons_zero, num_cons, num_cons, List.getElem_cons_zero, UInt8.toNat_xor, hd, Nat.mul_zero, Nat.zero_add]
    rw [Nat.xor_assoc, Nat.xor_comm (2 ^ j), Nat.xor_assoc]
  | c :: l, i + 1, hi, d, j, hd => by
    have hi' : i < l.length := by simpa using hi
    have e : (c :: l)[i + 1] = l[i] := List.getElem_cons_succ ..
    rw [List.set_cons_succ, num_cons, num_cons, e, num_turn l i hi' d j hd]
    have e1 : 256 * (num l ^^^ 2 ^ (8 * i + j)) = 256 * num l ^^^ 256 * 2 ^ (8 * i + j) := pow_xor 8 _ _
    have e2 : 256 * 2 ^ (8 * i + j) = 2 ^ (8 * (i + 1) + j) := by
      rw [show (256 : Nat) = 2 ^ 8 from rfl, ← Nat.pow_add]; congr 1; omega
    rw [e1, e2, Nat.xor_assoc]

/-- the lowest k bits of a number, and the next one -/
theorem mod_bit (e k : Nat) : e % 2 ^ (k + 1) = e % 2 ^ k ^^^ (if e / 2 ^ k % 2 = 1 then 2 ^ k else 0) := by
  have h1 : e % 2 ^ k < 2 ^ k := Nat.mod_lt _ (Nat.two_pow_pos _)
  have h2 : e % 2 ^ (k + 1) = e % 2 ^ k + 2 ^ k * (e / 2 ^ k % 2) := by
    rw [Nat.pow_succ, Nat.mod_mul]
  rw [h2, add_xor_pow k _ _ h1]
  rcases Nat.mod_two_eq_zero_or_one (e / 2 ^ k) with h | h <;> simp [h]

/-- a burst laid bit by bit: what has been turned behind k bits, of n that there are from 'first' on -/
theorem burst_step (b first e k n : Nat) (hk : k < n) :
    (b ^^^ 2 ^ first * (e % 2 ^ (min (k + 1) n))) = (b ^^^ 2 ^ first * (e % 2 ^ (min k n))) ^^^ (if e / 2 ^ k % 2 = 1 then 2 ^ (first + k) else 0) := by
  rw [Nat.min_eq_left (show k + 1 ≤ n by omega), Nat.min_eq_left (show k ≤ n by omega), mod_bit, pow_xor, ← Nat.xor_assoc]
  congr 1
  split
  · rw [Nat.pow_add]
  · simp
theorem burst_past (b first e k n : Nat) (hk : n ≤ k) : (b ^^^ 2 ^ first * (e % 2 ^ (min (k + 1) n))) = (b ^^^ 2 ^ first * (e % 2 ^ (min k n))) := by
  rw [Nat.min_eq_right (show n ≤ k + 1 by omega), Nat.min_eq_right hk]

/-- the sixteen words by which half a byte is taken at once -/
def words : List Nat := (List.range 16).map (steps 4)
theorem words_at (n : Nat) (h : n < 16) : words[n]?.getD 0 = steps 4 n := by
  simp [words, h]
theorem byte_nibbles (r : Nat) : steps 8 r = steps 4 (steps 4 r) := steps_add 4 4 r

theorem steps_succ (n r : Nat) : steps (n + 1) r = step (steps n r) := steps_add n 1 r
theorem take_snoc (r : Nat) (l : List UInt8) (c : UInt8) : take r (l ++ [c]) = byte (take r l) c.toNat := take_append l [c] r
theorem byte_eq (r c : Nat) : byte r c = steps 8 (r ^^^ c) := rfl
end Go.Proofs.YthndpccdeagkdaaDoor.Crc
