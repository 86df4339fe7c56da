/- Blk, Blk2: put together. -/
import Derived.Test.YtpkbdnilakaakaaGreatM03

/- Plain facts on packed bytes, without any program: how tokens are read, and that of tokens laid down one behind the other just their bytes are made. -/
namespace Go.Proofs.YtpkbdnilakaakaaGreat.Blk

/-- so many bytes, each from so far back -/
def copyB : Nat → Nat → List UInt8 → List UInt8
  | 0, _, out => out
  | n + 1, d, out => copyB n d (out ++ [out.getD (out.length - d) 0])
theorem copyB_length (n d : Nat) (out : List UInt8) : (copyB n d out).length = out.length + n := by
  induction n generalizing out with
  | zero => rfl
  | succ n ih => rw [copyB, ih]; simp; omega
theorem copyB_snoc (n d : Nat) (out : List UInt8) : copyB (n + 1) d out = copyB n d out ++ [(copyB n d out).getD ((copyB n d out).length - d) 0] := by
  induction n generalizing out with
  | zero => rfl
  | succ n ih => rw [copyB, ih]; rfl

/-- a token taken: the error, the bytes that there are then, what is left -/
structure Tk where
  err : Nat
  out : List UInt8
  rest : List UInt8

/-- literals -/
def takeL (out t : List UInt8) (n : Nat) : Tk :=
  if n = 0 then ⟨5, [], []⟩ else if 2048 - out.length < n then ⟨2, [], []⟩ else if t.length < n then ⟨30, [], []⟩ else ⟨0, out ++ t.take n, t.drop n⟩
/-- a match -/
def takeM (out t : List UInt8) (n : Nat) : Tk :=
  if n < 4 ∨ 255 < n then ⟨5, [], []⟩
  else if (Leb.get t).err ≠ 0 then ⟨(Leb.get t).err, [], []⟩
  else if (Leb.get t).n = 0 ∨ 1024 < (Leb.get t).n ∨ out.length < (Leb.get t).n then ⟨5, [], []⟩
  else if 2048 - out.length < n then ⟨2, [], []⟩
  else ⟨0, copyB n (Leb.get t).n out, t.drop (Leb.get t).k⟩
def step (out t : List UInt8) : Tk :=
  if (Leb.get t).err ≠ 0 then ⟨(Leb.get t).err, [], []⟩
  else if (Leb.get t).n % 2 = 0 then takeL out (t.drop (Leb.get t).k) ((Leb.get t).n / 2)
  else takeM out (t.drop (Leb.get t).k) ((Leb.get t).n / 2)

/-- what is made: the error and the bytes -/
structure Res where
  err : Nat
  out : List UInt8

def toksF : Nat → List UInt8 → List UInt8 → Res
  | _, out, [] => ⟨0, out⟩
  | 0, _, _ :: _ => ⟨0, []⟩
  | f + 1, out, c :: r => if (step out (c :: r)).err ≠ 0 then ⟨(step out (c :: r)).err, []⟩ else toksF f (step out (c :: r)).out (step out (c :: r)).rest
def toks (out t : List UInt8) : Res := toksF t.length out t

def unpack : List UInt8 → Res
  | [] => ⟨4, []⟩
  | c :: r => if c.toNat = 1 then toks [] r else if c.toNat ≠ 0 then ⟨5, []⟩ else if 2048 < r.length then ⟨2, []⟩ else ⟨0, r⟩

theorem takeL_ok {out t : List UInt8} {n : Nat} (h : (takeL out t n).err = 0) (ho : out.length ≤ 2048) : (takeL out t n).out.length ≤ 2048 ∧ (takeL out t n).rest.length ≤ t.length := by
  unfold takeL at h ⊢
  split at h
  · cases h
  · split at h
    · cases h
    · split at h
      · cases h
      · rename_i h1 h2 h3
        rw [if_neg h1, if_neg h2, if_neg h3]
        simp; omega
theorem takeM_ok {out t : List UInt8} {n : Nat} (h : (takeM out t n).err = 0) (ho : out.length ≤ 2048) : (takeM out t n).out.length ≤ 2048 ∧ (takeM out t n).rest.length ≤ t.length := by
  unfold takeM at h ⊢
  split at h
  · cases h
  · split at h
    · rename_i h1; exact absurd h h1
    · split at h
      · cases h
      · split at h
        · cases h
        · rename_i h1 h2 h3 h4
          rw [if_neg h1, if_neg h2, if_neg h3, if_neg h4]
          refine ⟨?_, by simp⟩
          show (copyB _ _ _).length ≤ _
          rw [copyB_length]; omega
theorem step_ok {out t : List UInt8} (h : (step out t).err = 0) (ho : out.length ≤ 2048) : (step out t).out.length ≤ 2048 ∧ (step out t).rest.length < t.length := by
  unfold step at h ⊢
  split at h
  · rename_i h1; exact absurd h h1
  · rename_i h1
    have h0 : (Leb.get t).err = 0 := by omega
    have hk := Leb.get_ok t h0
    rw [if_neg h1]
    split at h
    · rename_i h2
      rw [if_pos h2]
      have := takeL_ok h ho
      refine ⟨this.1, ?_⟩
      have h3 := this.2
      rw [List.length_drop] at h3
      omega
    · rename_i h2
      rw [if_neg h2]
      have := takeM_ok h ho
      refine ⟨this.1, ?_⟩
      have h3 := this.2
      rw [List.length_drop] at h3
      omega

theorem toksF_more {f g : Nat} {out t : List UInt8} (ho : out.length ≤ 2048) (hf : t.length ≤ f) (hg : t.length ≤ g) : toksF f out t = toksF g out t := by
  induction f generalizing g out t with
  | zero =>
    cases t with
    | nil => cases g <;> rfl
    | cons c r => simp at hf
  | succ f ih =>
    cases t with
    | nil => cases g <;> rfl
    | cons c r =>
      cases g with
      | zero => simp at hg
      | succ g =>
        rw [toksF, toksF]
        split
        · rfl
        · rename_i h
          have h0 : (step out (c :: r)).err = 0 := by omega
          have := step_ok h0 ho
          exact ih this.1 (by have := this.2; omega) (by have := this.2; omega)

theorem toks_nil (out : List UInt8) : toks out [] = ⟨0, out⟩ := rfl
theorem toks_err {out t : List UInt8} (ht : t ≠ []) (h : (step out t).err ≠ 0) : toks out t = ⟨(step out t).err, []⟩ := by
  cases t with
  | nil => exact absurd rfl ht
  | cons c r => show (if _ then _ else _) = _; rw [if_pos h]
theorem toks_step {out t : List UInt8} (ht : t ≠ []) (ho : out.length ≤ 2048) (h : (step out t).err = 0) : toks out t = toks (step out t).out (step out t).rest := by
  cases t with
  | nil => exact absurd rfl ht
  | cons c r =>
    have := step_ok h ho
    show (if _ then _ else _) = _
    rw [if_neg (by omega)]
    exact toksF_more this.1 (by have := this.2; simp at this; omega) (Nat.le_refl _)

theorem toksF_len {f : Nat} {out t : List UInt8} (ho : out.length ≤ 2048) : (toksF f out t).out.length ≤ 2048 ∧ ((toksF f out t).err = 0 ∨ (toksF f out t).out = []) := by
  induction f generalizing out t with
  | zero => cases t <;> simp [toksF, ho]
  | succ f ih =>
    cases t with
    | nil => simp [toksF, ho]
    | cons c r =>
      rw [toksF]
      split
      · simp
      · rename_i h
        exact ih (step_ok (by omega) ho).1
/-- no more than a block is made; where there is an error nothing is -/
theorem unpack_len (p : List UInt8) : (unpack p).out.length ≤ 2048 ∧ ((unpack p).err = 0 ∨ (unpack p).out = []) := by
  cases p with
  | nil => simp [unpack]
  | cons c r =>
    rw [unpack]
    split
    · exact toksF_len (by simp)
    · split
      · simp
      · split
        · simp
        · simp; omega

theorem put_nil (n : Nat) : Leb.put n ≠ [] := by
  unfold Leb.put Leb.putF
  split <;> simp

/-- literals are read as they are -/
theorem toks_lit {out l : List UInt8} (r : List UInt8) (hl : l ≠ []) (h : out.length + l.length ≤ 2048) : toks out (Leb.put (2 * l.length) ++ (l ++ r)) = toks (out ++ l) r := by
  have hg := Leb.get_put (2 * l.length) (l ++ r) (by omega)
  have hl0 : l.length ≠ 0 := fun e => hl (List.length_eq_zero_iff.1 e)
  have hs : step out (Leb.put (2 * l.length) ++ (l ++ r)) = ⟨0, out ++ l, r⟩ := by
    unfold step
    rw [hg]
    simp only [ne_eq, not_true_eq_false, if_false]
    rw [if_pos (by omega), List.drop_left, show 2 * l.length / 2 = l.length by omega]
    unfold takeL
    rw [if_neg hl0, if_neg (by omega), if_neg (by simp), List.take_left, List.drop_left]
  have hne : Leb.put (2 * l.length) ++ (l ++ r) ≠ [] := fun e => put_nil _ (List.append_eq_nil_iff.1 e).1
  rw [toks_step hne (by omega) (by rw [hs]), hs]

/-- a match is read as it is -/
theorem toks_match {out : List UInt8} (r : List UInt8) (n d : Nat) (h4 : 4 ≤ n) (h255 : n ≤ 255) (hd : 1 ≤ d) (hd2 : d ≤ 1024) (hd3 : d ≤ out.length) (h : out.length + n ≤ 2048) : toks out (Leb.put (2 * n + 1) ++ (Leb.put d ++ r)) = toks (copyB n d out) r := by
  have hg := Leb.get_put (2 * n + 1) (Leb.put d ++ r) (by omega)
  have hg2 := Leb.get_put d r (by omega)
  have hs : step out (Leb.put (2 * n + 1) ++ (Leb.put d ++ r)) = ⟨0, copyB n d out, r⟩ := by
    unfold step
    rw [hg]
    simp only [ne_eq, not_true_eq_false, if_false]
    rw [if_neg (by omega), List.drop_left, show (2 * n + 1) / 2 = n by omega]
    unfold takeM
    rw [if_neg (by omega), hg2]
    simp only [ne_eq, not_true_eq_false, if_false]
    rw [if_neg (by omega), if_neg (by omega), List.drop_left]
  have hne : Leb.put (2 * n + 1) ++ (Leb.put d ++ r) ≠ [] := fun e => put_nil _ (List.append_eq_nil_iff.1 e).1
  rw [toks_step hne (by omega) (by rw [hs]), hs]

/-- these tokens make these bytes, whatever follows -/
def Makes (p out : List UInt8) : Prop := ∀ r, toks [] (p ++ r) = toks out r
theorem makes_nil : Makes [] [] := fun _ => rfl
theorem Makes.lit {p out l : List UInt8} (hm : Makes p out) (hl : l ≠ []) (h : out.length + l.length ≤ 2048) : Makes (p ++ (Leb.put (2 * l.length) ++ l)) (out ++ l) := by
  intro r
  rw [List.append_assoc, List.append_assoc, hm]
  exact toks_lit r hl h
theorem Makes.mat {p out : List UInt8} (hm : Makes p out) (n d : Nat) (h4 : 4 ≤ n) (h255 : n ≤ 255) (hd : 1 ≤ d) (hd2 : d ≤ 1024) (hd3 : d ≤ out.length) (h : out.length + n ≤ 2048) : Makes (p ++ (Leb.put (2 * n + 1) ++ Leb.put d)) (copyB n d out) := by
  intro r
  rw [List.append_assoc, List.append_assoc, hm]
  exact toks_match r n d h4 h255 hd hd2 hd3 h
theorem Makes.done {p out : List UInt8} (hm : Makes p out) : unpack (1 :: p) = ⟨0, out⟩ := by
  have := hm []
  rw [List.append_nil] at this
  rw [unpack, if_pos (by decide), this, toks_nil]
end Go.Proofs.YtpkbdnilakaakaaGreat.Blk

/- Plain facts on packing, without any program: where four bytes stood last, the longest match, the tokens that are laid down, and that just the bytes come of them. -/
namespace Go.Proofs.YtpkbdnilakaakaaGreat.Blk

/-- the four bytes at a place -/
def four (b : List UInt8) (i : Nat) : List UInt8 := (b.drop i).take 4
/-- one more than the last place below n at which these stand; 0: there is none -/
def last (b f : List UInt8) : Nat → Nat
  | 0 => 0
  | i + 1 => if four b i = f then i + 1 else last b f i
/-- one more than the place ahead where the four bytes stood last -/
def ahead (b : List UInt8) (i : Nat) : Nat := if i + 4 ≤ b.length then last b (four b i) i else 0
/-- how many bytes two lists begin with that are the same in both -/
def alike : List UInt8 → List UInt8 → Nat
  | c :: l, d :: s => if c = d then alike l s + 1 else 0
  | _, _ => 0
structure Mt where
  size : Nat
  back : Nat
/-- through the places where the four bytes stood; g: one more than the place -/
def chain (b : List UInt8) (a most : Nat) : Nat → Nat → Mt → Mt
  | 0, _, m => m
  | _ + 1, 0, m => m
  | f + 1, g + 1, m => if 1024 < a - g ∨ most ≤ m.size then m
    else chain b a most f (ahead b g) (if m.size < alike (b.drop g) ((b.drop a).take most) then ⟨alike (b.drop g) ((b.drop a).take most), a - g⟩ else m)
def longest (b : List UInt8) (a : Nat) : Mt := chain b a (min (b.length - a) 255) a (ahead b a) ⟨0, 0⟩

def putL (p l : List UInt8) : List UInt8 := if l = [] then p else p ++ (Leb.put (2 * l.length) ++ l)
def putM (p : List UInt8) (m : Mt) : List UInt8 := p ++ (Leb.put (2 * m.size + 1) ++ Leb.put m.back)
/-- the tokens from a place on; fr: up to there all bytes are in tokens -/
def pk (b : List UInt8) : Nat → Nat → Nat → List UInt8 → List UInt8
  | 0, fr, _, p => putL p (b.drop fr)
  | f + 1, fr, a, p => if a < b.length then
      if (longest b a).size = 0 then pk b f fr (a + 1) p
      else pk b f (a + (longest b a).size) (a + (longest b a).size) (putM (putL p ((b.drop fr).take (a - fr))) (longest b a))
    else putL p (b.drop fr)
def packT (b : List UInt8) : List UInt8 := pk b b.length 0 0 [1]
def pack (b : List UInt8) : Res := if 2048 < b.length then ⟨2, []⟩ else if (packT b).length ≤ b.length then ⟨0, packT b⟩ else ⟨0, 0 :: b⟩

theorem last_le (b f : List UInt8) (n : Nat) : last b f n ≤ n := by
  induction n with
  | zero => exact Nat.le_refl _
  | succ i ih =>
    rw [last]
    split <;> omega
theorem last_some (b f : List UInt8) (n : Nat) : last b f n ≠ 0 → four b (last b f n - 1) = f := by
  induction n with
  | zero => intro h; exact absurd rfl h
  | succ i ih =>
    rw [last]
    split
    · rename_i h; intro _; exact h
    · exact ih
theorem ahead_le (b : List UInt8) (i : Nat) : ahead b i ≤ i := by
  unfold ahead
  split
  · exact last_le _ _ _
  · omega
theorem ahead_some {b : List UInt8} {i : Nat} (h : ahead b i ≠ 0) : i + 4 ≤ b.length ∧ four b (ahead b i - 1) = four b i := by
  unfold ahead at h ⊢
  split at h
  · rename_i h1
    rw [if_pos h1]
    exact ⟨h1, last_some _ _ _ h⟩
  · exact absurd rfl h

theorem alike_le : ∀ l s : List UInt8, alike l s ≤ l.length ∧ alike l s ≤ s.length := by
  intro l
  induction l with
  | nil => intro s; simp [alike]
  | cons c l ih =>
    intro s
    cases s with
    | nil => simp [alike]
    | cons d s =>
      have := ih s
      rw [alike]
      split <;> simp <;> omega
theorem alike_eq : ∀ (l s : List UInt8) (i : Nat), i < alike l s → l[i]? = s[i]? := by
  intro l
  induction l with
  | nil => intro s i h; simp [alike] at h
  | cons c l ih =>
    intro s i h
    cases s with
    | nil => simp [alike] at h
    | cons d s =>
      rw [alike] at h
      split at h
      · rename_i e
        cases i with
        | zero => simp [e]
        | succ i => simp only [List.getElem?_cons_succ]; exact ih s i (by omega)
      · omega
/-- the first bytes that are the same count -/
theorem alike_ge : ∀ (l s : List UInt8) (k : Nat), k ≤ l.length → k ≤ s.length → (∀ i, i < k → l[i]? = s[i]?) → k ≤ alike l s := by
  intro l
  induction l with
  | nil => intro s k h1 _ _; simp at h1; omega
  | cons c l ih =>
    intro s k h1 h2 h3
    cases s with
    | nil => simp at h2; omega
    | cons d s =>
      cases k with
      | zero => omega
      | succ k =>
        have e : c = d := by simpa using h3 0 (by omega)
        rw [alike, if_pos e]
        have := ih s k (by simpa using h1) (by simpa using h2) (fun i hi => by simpa using h3 (i + 1) (by omega))
        omega

/-- a match that may be told at a place -/
structure Good (b : List UInt8) (a : Nat) (m : Mt) : Prop where
  four : 4 ≤ m.size
  most : m.size ≤ 255
  fits : a + m.size ≤ b.length
  one : 1 ≤ m.back
  near : m.back ≤ 1024
  has : m.back ≤ a
  same : ∀ i, i < m.size → b[a + i]? = b[a - m.back + i]?

theorem four_get {b : List UInt8} {i j : Nat} (h : four b i = four b j) (k : Nat) (hk : k < 4) : b[i + k]? = b[j + k]? := by
  have := congrArg (fun l => l[k]?) h
  simp only [four, List.getElem?_take_of_lt hk, List.getElem?_drop] at this
  exact this

theorem good_next {b : List UInt8} {a g most : Nat} (hm : most = min (b.length - a) 255) (ha : a + 4 ≤ b.length) (hg : g < a) (hf : four b g = four b a) (hnear : a - g ≤ 1024) :
    Good b a ⟨alike (b.drop g) ((b.drop a).take most), a - g⟩ := by
  have h1 := alike_le (b.drop g) ((b.drop a).take most)
  have hl : ((b.drop a).take most).length = most := by rw [List.length_take, List.length_drop]; omega
  rw [hl] at h1
  have h4 := alike_ge (b.drop g) ((b.drop a).take most) 4 (by rw [List.length_drop]; omega) (by rw [hl]; omega) (fun i hi => by
    rw [List.getElem?_take_of_lt (by omega), List.getElem?_drop, List.getElem?_drop]
    exact four_get hf i hi)
  refine ⟨h4, by show alike _ _ ≤ 255; omega, by show a + alike _ _ ≤ _; omega, by show 1 ≤ a - g; omega, hnear, by show a - g ≤ a; omega, fun i hi => ?_⟩
  have hi' : i < alike (b.drop g) ((b.drop a).take most) := hi
  have := alike_eq _ _ i hi'
  rw [List.getElem?_take_of_lt (by omega), List.getElem?_drop, List.getElem?_drop] at this
  show b[a + i]? = b[a - (a - g) + i]?
  rw [show a - (a - g) = g by omega]
  exact this.symm

theorem chain_good {b : List UInt8} {a most : Nat} (hm : most = min (b.length - a) 255) (f : Nat) : ∀ (g : Nat) (m : Mt), g ≤ a → (g ≠ 0 → a + 4 ≤ b.length ∧ four b (g - 1) = four b a) → (m.size = 0 ∨ Good b a m) → (chain b a most f g m).size = 0 ∨ Good b a (chain b a most f g m) := by
  induction f with
  | zero => intro g m _ _ h; exact h
  | succ f ih =>
    intro g m hg hf h
    cases g with
    | zero => exact h
    | succ g =>
      rw [chain]
      split
      · exact h
      · rename_i hc
        obtain ⟨ha, hf4⟩ := hf (by omega)
        have e : g + 1 - 1 = g := rfl
        rw [e] at hf4
        refine ih _ _ (by have := ahead_le b g; omega) (fun hne => ⟨ha, ?_⟩) ?_
        · exact (ahead_some hne).2.trans hf4
        · split
          · exact .inr (good_next hm ha (by omega) hf4 (by omega))
          · exact h
theorem longest_good (b : List UInt8) (a : Nat) : (longest b a).size = 0 ∨ Good b a (longest b a) :=
  chain_good rfl a _ _ (ahead_le b a) (fun h => ahead_some h) (.inl rfl)

theorem chain_more {b : List UInt8} {a most : Nat} {f f' : Nat} : ∀ {g : Nat} {m : Mt}, g ≤ f → g ≤ f' → chain b a most f g m = chain b a most f' g m := by
  induction f generalizing f' with
  | zero =>
    intro g m h1 _
    obtain rfl : g = 0 := by omega
    cases f' <;> rfl
  | succ f ih =>
    intro g m h1 h2
    cases g with
    | zero => cases f' <;> rfl
    | succ g =>
      cases f' with
      | zero => omega
      | succ f' =>
        rw [chain, chain]
        split
        · rfl
        · exact ih (by have := ahead_le b g; omega) (by have := ahead_le b g; omega)

theorem pk_more {b : List UInt8} {f f' : Nat} : ∀ {fr a : Nat} {p : List UInt8}, b.length - a ≤ f → b.length - a ≤ f' → pk b f fr a p = pk b f' fr a p := by
  induction f generalizing f' with
  | zero =>
    intro fr a p h1 _
    cases f' with
    | zero => rfl
    | succ f' => rw [pk, pk, if_neg (by omega)]
  | succ f ih =>
    intro fr a p h1 h2
    cases f' with
    | zero => rw [pk, pk, if_neg (by omega)]
    | succ f' =>
      rw [pk, pk]
      split
      · split
        · exact ih (by omega) (by omega)
        · exact ih (by omega) (by omega)
      · rfl
theorem pk_end {b : List UInt8} {fr a : Nat} {p : List UInt8} (h : b.length ≤ a) : pk b (b.length - a) fr a p = putL p (b.drop fr) := by
  rw [show b.length - a = 0 by omega, pk]
theorem pk_skip {b : List UInt8} {fr a : Nat} {p : List UInt8} (h : a < b.length) (h0 : (longest b a).size = 0) : pk b (b.length - a) fr a p = pk b (b.length - (a + 1)) fr (a + 1) p := by
  rw [show b.length - a = b.length - (a + 1) + 1 by omega, pk, if_pos h, if_pos h0]
theorem pk_take {b : List UInt8} {fr a : Nat} {p : List UInt8} (h : a < b.length) (h0 : (longest b a).size ≠ 0) : pk b (b.length - a) fr a p = pk b (b.length - (a + (longest b a).size)) (a + (longest b a).size) (a + (longest b a).size) (putM (putL p ((b.drop fr).take (a - fr))) (longest b a)) := by
  rw [show b.length - a = b.length - (a + 1) + 1 by omega, pk, if_pos h, if_neg h0]
  exact pk_more (by omega) (Nat.le_refl _)

theorem copyB_take {b : List UInt8} {a d : Nat} (hd : 1 ≤ d) (hda : d ≤ a) (n : Nat) (hn : a + n ≤ b.length) (hs : ∀ i, i < n → b[a + i]? = b[a - d + i]?) : copyB n d (b.take a) = b.take (a + n) := by
  induction n with
  | zero => rfl
  | succ n ih =>
    rw [copyB_snoc, ih (by omega) (fun i hi => hs i (by omega))]
    have hl : (b.take (a + n)).length = a + n := by rw [List.length_take]; omega
    rw [hl, List.getD_eq_getElem?_getD, List.getElem?_take_of_lt (by omega)]
    have h1 := hs n (by omega)
    rw [show a - d + n = a + n - d by omega] at h1
    rw [← h1, ← Nat.add_assoc, List.take_add_one, List.getElem?_eq_getElem (show a + n < b.length by omega)]
    rfl

theorem putL_head (p l : List UInt8) (c : UInt8) : putL (c :: p) l = c :: putL p l := by
  unfold putL
  split <;> rfl
theorem putM_head (p : List UInt8) (m : Mt) (c : UInt8) : putM (c :: p) m = c :: putM p m := rfl
theorem makes_putL {p b : List UInt8} {fr a : Nat} (h : Makes p (b.take fr)) (hf : fr ≤ a) (ha : a ≤ b.length) (hb : b.length ≤ 2048) : Makes (putL p ((b.drop fr).take (a - fr))) (b.take a) := by
  unfold putL
  split
  · rename_i h0
    have := congrArg List.length h0
    rw [List.length_take, List.length_drop] at this
    simp only [List.length_nil] at this
    obtain rfl : fr = a := by omega
    exact h
  · rename_i h0
    have h1 := h.lit h0 (by simp only [List.length_take, List.length_drop]; omega)
    have e : b.take fr ++ (b.drop fr).take (a - fr) = b.take a := by
      rw [← List.take_add]; congr 1; omega
    rw [e] at h1
    exact h1
theorem makes_putM {p b : List UInt8} {a : Nat} {m : Mt} (h : Makes p (b.take a)) (g : Good b a m) (hb : b.length ≤ 2048) : Makes (putM p m) (b.take (a + m.size)) := by
  have hl : (b.take a).length = a := by rw [List.length_take]; have := g.fits; omega
  have h1 := h.mat m.size m.back g.four g.most g.one g.near (by rw [hl]; exact g.has) (by rw [hl]; have := g.fits; omega)
  rw [copyB_take g.one g.has m.size g.fits g.same] at h1
  exact h1
/-- the tokens make the bytes -/
theorem pk_makes {b : List UInt8} (hb : b.length ≤ 2048) (f : Nat) : ∀ (fr a : Nat) (p : List UInt8), b.length - a ≤ f → fr ≤ a → a ≤ b.length → Makes p (b.take fr) → ∃ p', pk b f fr a (1 :: p) = 1 :: p' ∧ Makes p' b := by
  induction f with
  | zero =>
    intro fr a p h1 h2 h3 hm
    refine ⟨putL p (b.drop fr), by rw [pk, putL_head], ?_⟩
    have := makes_putL hm (Nat.le_trans h2 h3) (Nat.le_refl _) hb
    rwa [List.take_of_length_le (by rw [List.length_drop]; exact Nat.le_refl _), List.take_of_length_le (Nat.le_refl _)] at this
  | succ f ih =>
    intro fr a p h1 h2 h3 hm
    rw [pk]
    split
    · rename_i hlt
      split
      · exact ih fr (a + 1) p (by omega) (by omega) (by omega) hm
      · rename_i h0
        have hg : Good b a (longest b a) := (longest_good b a).resolve_left h0
        rw [putL_head, putM_head]
        exact ih _ _ _ (by omega) (Nat.le_refl _) hg.fits (makes_putM (makes_putL hm h2 h3 hb) hg hb)
    · refine ⟨putL p (b.drop fr), putL_head _ _ _, ?_⟩
      have := makes_putL hm (show fr ≤ b.length by omega) (Nat.le_refl _) hb
      rwa [List.take_of_length_le (by rw [List.length_drop]; exact Nat.le_refl _), List.take_of_length_le (Nat.le_refl _)] at this

/-- what is packed is unpacked -/
theorem pack_back {b : List UInt8} (hb : b.length ≤ 2048) : (pack b).err = 0 ∧ unpack (pack b).out = ⟨0, b⟩ ∧ (pack b).out.length ≤ b.length + 1 := by
  unfold pack
  rw [if_neg (by omega)]
  split
  · rename_i h
    obtain ⟨p', h1, h2⟩ := pk_makes hb b.length 0 0 [] (by omega) (Nat.le_refl _) (Nat.zero_le _) makes_nil
    refine ⟨rfl, ?_, by show (packT b).length ≤ _; omega⟩
    show unpack (packT b) = _
    rw [show packT b = 1 :: p' from h1]
    exact h2.done
  · refine ⟨rfl, ?_, by simp⟩
    show unpack (0 :: b) = _
    rw [unpack, if_neg (by decide), if_neg (by decide), if_neg (by omega)]
theorem pack_long {b : List UInt8} (hb : 2048 < b.length) : pack b = ⟨2, []⟩ := by
  unfold pack
  rw [if_pos hb]
end Go.Proofs.YtpkbdnilakaakaaGreat.Blk
