/- Plain facts on a file whose power may fail, without any program: what each call makes of it, and what it keeps (P5.9). -/
namespace Go.Proofs.Ytoibeajcepbpjaa.Dv

/-- how a file stands -/
structure St where
  b : List UInt8
  most : Nat
  safe : Nat
  down : Bool
  bound : Bool
  after : Nat
  keep : Nat
  told : Nat
  done : Nat

def new (quota : Nat) : St := ⟨[], quota, 0, false, false, 0, 0, 0, 0⟩

/-- may a deed be done now? -/
def may (s : St) : Bool := !s.bound || decide (0 < s.after)
/-- it is done -/
def did (s : St) : St := { s with after := if s.bound then s.after - 1 else s.after, done := s.done + 1 }
/-- power fails in its place -/
def fails (s : St) : St := { s with b := if s.keep < s.b.length - s.safe then s.b.take (s.safe + s.keep) else s.b, bound := false, down := true }

/-- bytes laid behind the end, one by one; whether power failed -/
def lay : St → List UInt8 → Bool × St
  | s, [] => (false, s)
  | s, c :: r => if may s then lay { did s with b := s.b ++ [c] } r else (true, fails s)

def write (s : St) (l : List UInt8) : Nat × St :=
  if s.down then (50, s) else if l ≠ [] ∧ s.most < s.b.length + l.length then (52, s) else
    let r := lay s l
    (if r.1 then 51 else 0, r.2)
def sync (s : St) : Nat × St := if s.down then (50, s) else (0, { s with safe := s.b.length })
def cut (s : St) (n : Int) : Nat × St :=
  if s.down then (50, s) else if n < 0 ∨ (s.b.length : Int) < n then (7, s) else if may s then (0, { did s with b := s.b.take n.toNat, safe := if n.toNat < s.safe then n.toNat else s.safe }) else (51, fails s)
def read (s : St) (a n : Int) : List UInt8 × Nat × St :=
  if a < 0 ∨ (s.b.length : Int) < a ∨ n < 0 then ([], 7, s) else
    let l := (s.b.drop a.toNat).take n.toNat
    (l, 0, { s with told := s.told + l.length })
def fail (s : St) (after keep : Int) : Nat × St := if s.down then (50, s) else if after < 0 ∨ keep < 0 then (1, s) else (0, { s with bound := true, after := after.toNat, keep := keep.toNat })
def start (s : St) : Nat × St := if s.down then (0, { s with down := false }) else (6, s)
def damage (s : St) (a : Int) (v : UInt8) : Nat × St := if a < 0 ∨ (s.b.length : Int) ≤ a then (7, s) else (0, { s with b := s.b.set a.toNat v })
def tail (s : St) (l : List UInt8) : Nat × St := if 2097152 < s.b.length + l.length then (2, s) else (0, { s with b := s.b ++ l, safe := (s.b ++ l).length })

/-- what holds of every file -/
def Sound (s : St) : Prop := s.safe ≤ s.b.length

theorem sound_new (q : Nat) : Sound (new q) := Nat.le_refl 0

/-- what a call that neither cuts nor damages keeps: what is left is a beginning of what there was and was laid behind it, at least what was synced -/
def Keeps (s t : St) (all : List UInt8) : Prop := s.b.take s.safe <+: t.b ∧ t.b <+: all ∧ Sound t ∧ t.most = s.most

theorem keeps_self {s : St} (h : Sound s) (all : List UInt8) (ha : s.b <+: all) : Keeps s s all := ⟨List.take_prefix _ _, ha, h, rfl⟩

theorem fails_sound {s : St} (h : Sound s) : Sound (fails s) := by
  unfold Sound fails at *
  simp only
  split
  · simp; omega
  · exact h
theorem fails_prefix (s : St) : (fails s).b <+: s.b := by
  unfold fails
  simp only
  split
  · exact List.take_prefix _ _
  · exact List.prefix_refl _
theorem fails_safe (s : St) : s.b.take s.safe <+: (fails s).b := by
  unfold fails
  simp only
  split
  · exact ⟨(s.b.take (s.safe + s.keep)).drop s.safe, by
      have h := List.take_append_drop s.safe (s.b.take (s.safe + s.keep))
      rw [List.take_take, Nat.min_eq_left (by omega)] at h
      exact h⟩
  · exact List.take_prefix _ _
theorem fails_len (s : St) : (fails s).b.length ≤ s.b.length := (fails_prefix s).length_le

theorem lay_keeps : ∀ (l : List UInt8) (s : St), Sound s → Keeps s (lay s l).2 (s.b ++ l) ∧ (lay s l).2.safe = s.safe ∧ (lay s l).2.b.length ≤ s.b.length + l.length ∧ (s.down = false → (lay s l).1 = (lay s l).2.down)
  | [], s, h => by
    refine ⟨keeps_self h _ (List.prefix_append _ _), rfl, by simp [lay], ?_⟩
    intro hd; simp [lay, hd]
  | c :: r, s, h => by
    rw [lay]
    by_cases hm : may s = true
    · rw [if_pos hm]
      obtain ⟨⟨i1, i2, i3, i4⟩, i5, i6, i8⟩ := lay_keeps r { did s with b := s.b ++ [c] } (by unfold Sound at *; simp [did]; omega)
      refine ⟨⟨?_, ?_, i3, i4⟩, i5, ?_, i8⟩
      · have e : ((s.b ++ [c]).take s.safe) = s.b.take s.safe := List.take_append_of_le_length h
        simp only [did] at i1
        rw [e] at i1
        exact i1
      · simp only [List.append_assoc, List.cons_append, List.nil_append] at i2
        exact i2
      · simp only [List.length_append, List.length_cons, List.length_nil] at i6 ⊢
        omega
    · rw [if_neg hm]
      refine ⟨⟨fails_safe s, (fails_prefix s).trans (List.prefix_append _ _), fails_sound h, rfl⟩, rfl, ?_, ?_⟩
      · have := fails_len s; simp; omega
      · intro _; simp [fails]

/-- what the law asks behind a call: e the error, all what there may be at most -/
structure Held (s t : St) (e : Nat) (all : List UInt8) : Prop where
  keeps : Keeps s t all
  room : s.b.length ≤ s.most → t.b.length ≤ t.most
  power : (e = 51) ↔ (s.down = false ∧ t.down = true)
  space : e = 52 → t.b = s.b

theorem held_same {s t : St} {e : Nat} {all : List UInt8} (_ : Sound s) (hb : t.b = s.b) (hm : t.most = s.most) (hs : Sound t) (ha : s.b <+: all) (he : e ≠ 51) (hd : ¬ (s.down = false ∧ t.down = true)) : Held s t e all :=
  ⟨⟨by rw [hb]; exact List.take_prefix _ _, by rw [hb]; exact ha, hs, hm⟩, by rw [hb, hm]; exact id, ⟨fun h => absurd h he, fun h => absurd h hd⟩, fun _ => hb⟩

theorem write_held {s : St} (h : Sound s) (l : List UInt8) : Held s (write s l).2 (write s l).1 (s.b ++ l) := by
  unfold write
  by_cases hd : s.down = true
  · rw [if_pos hd]
    exact held_same h rfl rfl h (List.prefix_append _ _) (by simp) (by simp [hd])
  · rw [if_neg hd]
    by_cases hx : l ≠ [] ∧ s.most < s.b.length + l.length
    · rw [if_pos hx]
      exact held_same h rfl rfl h (List.prefix_append _ _) (by simp) (by simp)
    · rw [if_neg hx]
      obtain ⟨i1, i2, i3, i4⟩ := lay_keeps l s h
      have hd' : s.down = false := by simpa using hd
      refine ⟨i1, fun hr => ?_, ?_, ?_⟩
      · simp only
        rw [i1.2.2.2]
        by_cases hl : l = []
        · rw [hl] at i3
          simp only [List.length_nil] at i3
          rw [hl]; omega
        · have : ¬ s.most < s.b.length + l.length := fun hc => hx ⟨hl, hc⟩
          omega
      · simp only
        rw [← i4 hd']
        cases (lay s l).1 <;> simp [hd']
      · intro he
        simp only at he
        split at he <;> cases he

theorem sync_held {s : St} (h : Sound s) : Held s (sync s).2 (sync s).1 s.b := by
  unfold sync
  by_cases hd : s.down = true
  · rw [if_pos hd]; exact held_same h rfl rfl h (List.prefix_refl _) (by simp) (by simp [hd])
  · rw [if_neg hd]
    exact held_same h rfl rfl (Nat.le_refl _) (List.prefix_refl _) (by simp) (by simp)
theorem fail_held {s : St} (h : Sound s) (a k : Int) : Held s (fail s a k).2 (fail s a k).1 s.b := by
  unfold fail
  by_cases hd : s.down = true
  · rw [if_pos hd]; exact held_same h rfl rfl h (List.prefix_refl _) (by simp) (by simp [hd])
  · rw [if_neg hd]
    split
    · exact held_same h rfl rfl h (List.prefix_refl _) (by simp) (by simp)
    · exact held_same h rfl rfl h (List.prefix_refl _) (by simp) (by simp)
theorem start_held {s : St} (h : Sound s) : Held s (start s).2 (start s).1 s.b := by
  unfold start
  split
  · exact held_same h rfl rfl h (List.prefix_refl _) (by simp) (by simp)
  · exact held_same h rfl rfl h (List.prefix_refl _) (by simp) (by simp)
/-- Tail: the room is as it was only where it is refused -/
theorem tail_held {s : St} (h : Sound s) (l : List UInt8) : Keeps s (tail s l).2 (s.b ++ l) ∧ ((tail s l).1 ≠ 0 → (tail s l).2 = s) ∧ (tail s l).1 ≠ 51 ∧ (tail s l).1 ≠ 52 ∧ (tail s l).2.down = s.down := by
  unfold tail
  split
  · exact ⟨keeps_self h _ (List.prefix_append _ _), fun _ => rfl, by simp, by simp, rfl⟩
  · refine ⟨⟨(List.take_prefix _ _).trans (List.prefix_append _ _), List.prefix_refl _, Nat.le_refl _, rfl⟩, fun h => absurd rfl h, by simp, by simp, rfl⟩
/-- Cut: done, or it keeps -/
theorem cut_held {s : St} (h : Sound s) (n : Int) : ((cut s n).1 ≠ 0 → Held s (cut s n).2 (cut s n).1 s.b) ∧
    ((cut s n).1 = 0 → Sound (cut s n).2 ∧ (cut s n).2.b.length ≤ s.b.length ∧ (cut s n).2.most = s.most ∧ (cut s n).2.down = s.down ∧ s.down = false) := by
  unfold cut
  by_cases hd : s.down = true
  · rw [if_pos hd]; exact ⟨fun _ => held_same h rfl rfl h (List.prefix_refl _) (by simp) (by simp [hd]), fun hc => by cases hc⟩
  · rw [if_neg hd]
    have hd' : s.down = false := by simpa using hd
    by_cases hx : n < 0 ∨ (s.b.length : Int) < n
    · rw [if_pos hx]; exact ⟨fun _ => held_same h rfl rfl h (List.prefix_refl _) (by simp) (by simp), fun hc => by cases hc⟩
    · rw [if_neg hx]
      by_cases hm : may s = true
      · rw [if_pos hm]
        refine ⟨fun hc => absurd rfl hc, fun _ => ⟨?_, ?_, rfl, rfl, hd'⟩⟩
        · unfold Sound at *
          simp only [List.length_take]
          split <;> omega
        · simp only [List.length_take]; omega
      · rw [if_neg hm]
        refine ⟨fun _ => ⟨⟨fails_safe s, fails_prefix s, fails_sound h, rfl⟩, fun hr => ?_, by simp [fails, hd'], fun hc => by cases hc⟩, fun hc => by cases hc⟩
        have := fails_len s
        show (fails s).b.length ≤ s.most
        omega
theorem damage_held {s : St} (h : Sound s) (a : Int) (v : UInt8) : ((damage s a v).1 ≠ 0 → (damage s a v).2 = s) ∧ Sound (damage s a v).2 ∧ (damage s a v).2.b.length = s.b.length ∧ (damage s a v).2.most = s.most ∧ (damage s a v).2.down = s.down ∧ (damage s a v).1 ≠ 51 ∧ (damage s a v).1 ≠ 52 := by
  unfold damage
  split
  · exact ⟨fun _ => rfl, h, rfl, rfl, rfl, by simp, by simp⟩
  · refine ⟨fun hc => absurd rfl hc, ?_, by simp, rfl, rfl, by simp, by simp⟩
    unfold Sound at *
    simpa using h

/-- where power is not bound to fail, all is laid -/
theorem lay_free : ∀ (l : List UInt8) (s : St), s.bound = false → lay s l = (false, { s with b := s.b ++ l, done := s.done + l.length })
  | [], s, _ => by simp [lay]
  | c :: r, s, h => by
    rw [lay, if_pos (by simp [may, h]), lay_free r _ (by simp [did, h])]
    simp only [did, h, Bool.false_eq_true, if_false, List.append_assoc, List.cons_append, List.nil_append, List.length_cons]
    congr 2
    omega
/-- where it is bound to, it fails at just that byte -/
theorem lay_bound : ∀ (l : List UInt8) (s : St), s.bound = true → lay s l = if s.after < l.length then (true, fails { s with b := s.b ++ l.take s.after, after := 0, done := s.done + s.after }) else (false, { s with b := s.b ++ l, after := s.after - l.length, done := s.done + l.length })
  | [], s, _ => by simp [lay]
  | c :: r, s, h => by
    rw [lay]
    by_cases h0 : s.after = 0
    · rw [if_neg (by simp [may, h, h0]), if_pos (by simp [h0]), h0]
      have e : s = { s with after := 0 } := by cases s; simp_all
      rw [List.take_zero, List.append_nil, Nat.add_zero, ← e]
    · rw [if_pos (by simp [may, h]; omega), lay_bound r _ (by simp [did, h])]
      simp only [did, h, if_true, List.length_cons]
      by_cases hx : s.after < r.length + 1
      · obtain ⟨k, hk⟩ : ∃ k, s.after = k + 1 := ⟨s.after - 1, by omega⟩
        rw [if_pos (by omega), if_pos hx, hk]
        simp only [Nat.add_sub_cancel, List.take_succ_cons, List.append_assoc, List.cons_append, List.nil_append]
        congr 3
        omega
      · rw [if_neg (by omega), if_neg hx]
        simp only [List.append_assoc, List.cons_append, List.nil_append]
        congr 2 <;> omega
end Go.Proofs.Ytoibeajcepbpjaa.Dv
