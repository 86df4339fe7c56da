/- Plain facts on packed bytes, without any program: how tokens are read, and that of tokens laid down one behind the other just their bytes are made. -/
import Derived.Test.YtoojflhafmnggaaLeb
namespace Go.Proofs.Ytoojflhafmnggaa.Blk

/-- so many bytes, each from so far back -/
def copyB : Nat → Nat → List UInt8 → List UInt8
  | 0, _, out => out
  | n + 1, d, out => copyB n d (out ++ [out.getD (out.length - d) 0])
theorem copyB_length (n d : Nat) (out : List UInt8) : (copyB n d out).length = out.length + n := by
  induction n generalizing out with
  | zero => rfl
  | succ n ih => rw [copyB, ih]; simp; omega
theorem copyB_snoc (n d : Nat) (out : List UInt8) : copyB (n + 1) d out = copyB n d out ++ [(copyB n d out).getD ((copyB n d out).length - d) 0] := by
  induction n generalizing out with
  | zero => rfl
  | succ n ih => rw [copyB, ih]; rfl

/-- a token taken: the error, the bytes that there are then, what is left -/
structure Tk where
  err : Nat
  out : List UInt8
  rest : List UInt8

/-- literals -/
def takeL (out t : List UInt8) (n : Nat) : Tk :=
  if n = 0 then ⟨5, [], []⟩ else if 2048 - out.length < n then ⟨2, [], []⟩ else if t.length < n then ⟨30, [], []⟩ else ⟨0, out ++ t.take n, t.drop n⟩
/-- a match -/
def takeM (out t : List UInt8) (n : Nat) : Tk :=
  if n < 4 ∨ 255 < n then ⟨5, [], []⟩
  else if (Leb.get t).err ≠ 0 then ⟨(Leb.get t).err, [], []⟩
  else if (Leb.get t).n = 0 ∨ 1024 < (Leb.get t).n ∨ out.length < (Leb.get t).n then ⟨5, [], []⟩
  else if 2048 - out.length < n then ⟨2, [], []⟩
  else ⟨0, copyB n (Leb.get t).n out, t.drop (Leb.get t).k⟩
def step (out t : List UInt8) : Tk :=
  if (Leb.get t).err ≠ 0 then ⟨(Leb.get t).err, [], []⟩
  else if (Leb.get t).n % 2 = 0 then takeL out (t.drop (Leb.get t).k) ((Leb.get t).n / 2)
  else takeM out (t.drop (Leb.get t).k) ((Leb.get t).n / 2)

/-- what is made: the error and the bytes -/
structure Res where
  err : Nat
  out : List UInt8

def toksF : Nat → List UInt8 → List UInt8 → Res
  | _, out, [] => ⟨0, out⟩
  | 0, _, _ :: _ => ⟨0, []⟩
  | f + 1, out, c :: r => if (step out (c :: r)).err ≠ 0 then ⟨(step out (c :: r)).err, []⟩ else toksF f (step out (c :: r)).out (step out (c :: r)).rest
def toks (out t : List UInt8) : Res := toksF t.length out t

def unpack : List UInt8 → Res
  | [] => ⟨4, []⟩
  | c :: r => if c.toNat = 1 then toks [] r else if c.toNat ≠ 0 then ⟨5, []⟩ else if 2048 < r.length then ⟨2, []⟩ else ⟨0, r⟩

theorem takeL_ok {out t : List UInt8} {n : Nat} (h : (takeL out t n).err = 0) (ho : out.length ≤ 2048) : (takeL out t n).out.length ≤ 2048 ∧ (takeL out t n).rest.length ≤ t.length := by
  unfold takeL at h ⊢
  split at h
  · cases h
  · split at h
    · cases h
    · split at h
      · cases h
      · rename_i h1 h2 h3
        rw [if_neg h1, if_neg h2, if_neg h3]
        simp; omega
theorem takeM_ok {out t : List UInt8} {n : Nat} (h : (takeM out t n).err = 0) (ho : out.length ≤ 2048) : (takeM out t n).out.length ≤ 2048 ∧ (takeM out t n).rest.length ≤ t.length := by
  unfold takeM at h ⊢
  split at h
  · cases h
  · split at h
    · rename_i h1; exact absurd h h1
    · split at h
      · cases h
      · split at h
        · cases h
        · rename_i h1 h2 h3 h4
          rw [if_neg h1, if_neg h2, if_neg h3, if_neg h4]
          refine ⟨?_, by simp⟩
          show (copyB _ _ _).length ≤ _
          rw [copyB_length]; omega
theorem step_ok {out t : List UInt8} (h : (step out t).err = 0) (ho : out.length ≤ 2048) : (step out t).out.length ≤ 2048 ∧ (step out t).rest.length < t.length := by
  unfold step at h ⊢
  split at h
  · rename_i h1; exact absurd h h1
  · rename_i h1
    have h0 : (Leb.get t).err = 0 := by omega
    have hk := Leb.get_ok t h0
    rw [if_neg h1]
    split at h
    · rename_i h2
      rw [if_pos h2]
      have := takeL_ok h ho
      refine ⟨this.1, ?_⟩
      have h3 := this.2
      rw [List.length_drop] at h3
      omega
    · rename_i h2
      rw [if_neg h2]
      have := takeM_ok h ho
      refine ⟨this.1, ?_⟩
      have h3 := this.2
      rw [List.length_drop] at h3
      omega

theorem toksF_more {f g : Nat} {out t : List UInt8} (ho : out.length ≤ 2048) (hf : t.length ≤ f) (hg : t.length ≤ g) : toksF f out t = toksF g out t := by
  induction f generalizing g out t with
  | zero =>
    cases t with
    | nil => cases g <;> rfl
    | cons c r => simp at hf
  | succ f ih =>
    cases t with
    | nil => cases g <;> rfl
    | cons c r =>
      cases g with
      | zero => simp at hg
      | succ g =>
        rw [toksF, toksF]
        split
        · rfl
        · rename_i h
          have h0 : (step out (c :: r)).err = 0 := by omega
          have := step_ok h0 ho
          exact ih this.1 (by have := this.2; omega) (by have := this.2; omega)

theorem toks_nil (out : List UInt8) : toks out [] = ⟨0, out⟩ := rfl
theorem toks_err {out t : List UInt8} (ht : t ≠ []) (h : (step out t).err ≠ 0) : toks out t = ⟨(step out t).err, []⟩ := by
  cases t with
  | nil => exact absurd rfl ht
  | cons c r => show (if _ then _ else _) = _; rw [if_pos h]
theorem toks_step {out t : List UInt8} (ht : t ≠ []) (ho : out.length ≤ 2048) (h : (step out t).err = 0) : toks out t = toks (step out t).out (step out t).rest := by
  cases t with
  | nil => exact absurd rfl ht
  | cons c r =>
    have := step_ok h ho
    show (if _ then _ else _) = _
    rw [if_neg (by omega)]
    exact toksF_more this.1 (by have := this.2; simp at this; omega) (Nat.le_refl _)

theorem toksF_len {f : Nat} {out t : List UInt8} (ho : out.length ≤ 2048) : (toksF f out t).out.length ≤ 2048 ∧ ((toksF f out t).err = 0 ∨ (toksF f out t).out = []) := by
  induction f generalizing out t with
  | zero => cases t <;> simp [toksF, ho]
  | succ f ih =>
    cases t with
    | nil => simp [toksF, ho]
    | cons c r =>
      rw [toksF]
      split
      · simp
      · rename_i h
        exact ih (step_ok (by omega) ho).1
/-- no more than a block is made; where there is an error nothing is -/
theorem unpack_len (p : List UInt8) : (unpack p).out.length ≤ 2048 ∧ ((unpack p).err = 0 ∨ (unpack p).out = []) := by
  cases p with
  | nil => simp [unpack]
  | cons c r =>
    rw [unpack]
    split
    · exact toksF_len (by simp)
    · split
      · simp
      · split
        · simp
        · simp; omega

theorem put_nil (n : Nat) : Leb.put n ≠ [] := by
  unfold Leb.put Leb.putF
  split <;> simp

/-- literals are read as they are -/
theorem toks_lit {out l : List UInt8} (r : List UInt8) (hl : l ≠ []) (h : out.length + l.length ≤ 2048) : toks out (Leb.put (2 * l.length) ++ (l ++ r)) = toks (out ++ l) r := by
  have hg := Leb.get_put (2 * l.length) (l ++ r) (by omega)
  have hl0 : l.length ≠ 0 := fun e => hl (List.length_eq_zero_iff.1 e)
  have hs : step out (Leb.put (2 * l.length) ++ (l ++ r)) = ⟨0, out ++ l, r⟩ := by
    unfold step
    rw [hg]
    simp only [ne_eq, not_true_eq_false, if_false]
    rw [if_pos (by omega), List.drop_left, show 2 * l.length / 2 = l.length by omega]
    unfold takeL
    rw [if_neg hl0, if_neg (by omega), if_neg (by simp), List.take_left, List.drop_left]
  have hne : Leb.put (2 * l.length) ++ (l ++ r) ≠ [] := fun e => put_nil _ (List.append_eq_nil_iff.1 e).1
  rw [toks_step hne (by omega) (by rw [hs]), hs]

/-- a match is read as it is -/
theorem toks_match {out : List UInt8} (r : List UInt8) (n d : Nat) (h4 : 4 ≤ n) (h255 : n ≤ 255) (hd : 1 ≤ d) (hd2 : d ≤ 1024) (hd3 : d ≤ out.length) (h : out.length + n ≤ 2048) : toks out (Leb.put (2 * n + 1) ++ (Leb.put d ++ r)) = toks (copyB n d out) r := by
  have hg := Leb.get_put (2 * n + 1) (Leb.put d ++ r) (by omega)
  have hg2 := Leb.get_put d r (by omega)
  have hs : step out (Leb.put (2 * n + 1) ++ (Leb.put d ++ r)) = ⟨0, copyB n d out, r⟩ := by
    unfold step
    rw [hg]
    simp only [ne_eq, not_true_eq_false, if_false]
    rw [if_neg (by omega), List.drop_left, show (2 * n + 1) / 2 = n by omega]
    unfold takeM
    rw [if_neg (by omega), hg2]
    simp only [ne_eq, not_true_eq_false, if_false]
    rw [if_neg (by omega), if_neg (by omega), List.drop_left]
  have hne : Leb.put (2 * n + 1) ++ (Leb.put d ++ r) ≠ [] := fun e => put_nil _ (List.append_eq_nil_iff.1 e).1
  rw [toks_step hne (by omega) (by rw [hs]), hs]

/-- these tokens make these bytes, whatever follows -/
def Makes (p out : List UInt8) : Prop := ∀ r, toks [] (p ++ r) = toks out r
theorem makes_nil : Makes [] [] := fun _ => rfl
theorem Makes.lit {p out l : List UInt8} (hm : Makes p out) (hl : l ≠ []) (h : out.length + l.length ≤ 2048) : Makes (p ++ (Leb.put (2 * l.length) ++ l)) (out ++ l) := by
  intro r
  rw [List.append_assoc, List.append_assoc, hm]
  exact toks_lit r hl h
theorem Makes.mat {p out : List UInt8} (hm : Makes p out) (n d : Nat) (h4 : 4 ≤ n) (h255 : n ≤ 255) (hd : 1 ≤ d) (hd2 : d ≤ 1024) (hd3 : d ≤ out.length) (h : out.length + n ≤ 2048) : Makes (p ++ (Leb.put (2 * n + 1) ++ Leb.put d)) (copyB n d out) := by
  intro r
  rw [List.append_assoc, List.append_assoc, hm]
  exact toks_match r n d h4 h255 hd hd2 hd3 h
theorem Makes.done {p out : List UInt8} (hm : Makes p out) : unpack (1 :: p) = ⟨0, out⟩ := by
  have := hm []
  rw [List.append_nil] at this
  rw [unpack, if_pos (by decide), this, toks_nil]
end Go.Proofs.Ytoojflhafmnggaa.Blk
