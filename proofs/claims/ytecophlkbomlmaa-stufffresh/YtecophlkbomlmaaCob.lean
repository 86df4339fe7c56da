/- Plain facts on stuffing, without any program: how bytes fall into groups, that the groups tell the bytes and the bytes the groups, how groups are written and read, and how many bytes that takes. -/
namespace Go.Proofs.Ytecophlkbomlmaa.Cob

/-- no zero byte -/
def Nz (l : List UInt8) : Prop := ∀ c, c ∈ l → c ≠ 0

/-- the groups; cur: what the open one has taken -/
def sp : List UInt8 → List UInt8 → List (List UInt8)
  | cur, [] => [cur]
  | cur, c :: r => if c = 0 then cur :: sp [] r else if cur.length + 1 = 254 then (cur ++ [c]) :: (if r = [] then [] else sp [] r) else sp (cur ++ [c]) r
def split (b : List UInt8) : List (List UInt8) := sp [] b

/-- what groups tell -/
def join : List (List UInt8) → List UInt8
  | [] => []
  | [g] => g
  | g :: h :: t => g ++ (if g.length < 254 then [0] else []) ++ join (h :: t)

/-- groups as they are written -/
def enc : List (List UInt8) → List UInt8
  | [] => []
  | g :: t => UInt8.ofNat (g.length + 1) :: (g ++ enc t)

/-- groups that bytes may fall into -/
def Good : List (List UInt8) → Prop
  | [] => False
  | [g] => g.length ≤ 254 ∧ Nz g
  | g :: h :: t => g.length ≤ 254 ∧ Nz g ∧ (g.length = 254 → ¬ (h = [] ∧ t = [])) ∧ Good (h :: t)

def stuff (b : List UInt8) : List UInt8 := enc (split b)

theorem sp_ne (cur b : List UInt8) : sp cur b ≠ [] := by
  induction b generalizing cur with
  | nil => simp [sp]
  | cons c r ih =>
    rw [sp]
    split
    · simp
    · split
      · simp
      · exact ih _

theorem join_cons (g : List UInt8) (gs : List (List UInt8)) (h : gs ≠ []) : join (g :: gs) = g ++ (if g.length < 254 then [0] else []) ++ join gs := by
  cases gs with
  | nil => exact absurd rfl h
  | cons a t => rfl

/-- the groups tell the bytes -/
theorem join_sp (b : List UInt8) : ∀ cur : List UInt8, cur.length < 254 → join (sp cur b) = cur ++ b := by
  induction b with
  | nil => intro cur _; simp [sp, join]
  | cons c r ih =>
    intro cur hc
    rw [sp]
    by_cases h0 : c = 0
    · rw [if_pos h0, join_cons _ _ (sp_ne _ _), if_pos hc, ih [] (by simp), h0]; simp
    · rw [if_neg h0]
      by_cases h1 : cur.length + 1 = 254
      · rw [if_pos h1]
        by_cases h2 : r = []
        · rw [if_pos h2, h2]; rfl
        · rw [if_neg h2, join_cons _ _ (sp_ne _ _), if_neg (by simp; omega), ih [] (by simp)]; simp
      · rw [if_neg h1, ih _ (by simp; omega)]; simp

theorem join_split (b : List UInt8) : join (split b) = b := join_sp b [] (by simp)

theorem good_cons {g : List UInt8} {gs : List (List UInt8)} (h : gs ≠ []) (h1 : g.length ≤ 254) (h2 : Nz g) (h3 : g.length = 254 → gs ≠ [[]]) (h4 : Good gs) : Good (g :: gs) := by
  cases gs with
  | nil => exact absurd rfl h
  | cons a t => exact ⟨h1, h2, fun h5 hc => h3 h5 (by rw [hc.1, hc.2]), h4⟩

theorem good_sp (b : List UInt8) : ∀ cur : List UInt8, cur.length < 254 → Nz cur → Good (sp cur b) := by
  induction b with
  | nil => intro cur h1 h2; exact ⟨by omega, h2⟩
  | cons c r ih =>
    intro cur hc hn
    rw [sp]
    by_cases h0 : c = 0
    · rw [if_pos h0]
      exact good_cons (sp_ne _ _) (by omega) hn (fun h => by omega) (ih [] (by simp) (by intro d hd; simp at hd))
    · rw [if_neg h0]
      have hn2 : Nz (cur ++ [c]) := by
        intro d hd
        rcases List.mem_append.1 hd with h | h
        · exact hn d h
        · simp at h; rw [h]; exact h0
      by_cases h1 : cur.length + 1 = 254
      · rw [if_pos h1]
        by_cases h2 : r = []
        · rw [if_pos h2]; exact ⟨by simp; omega, hn2⟩
        · rw [if_neg h2]
          refine good_cons (sp_ne _ _) (by simp; omega) hn2 (fun _ hc2 => ?_) (ih [] (by simp) (by intro d hd; simp at hd))
          have h3 := join_sp r [] (by simp)
          rw [hc2] at h3
          exact h2 (by simpa [join] using h3.symm)
      · rw [if_neg h1]
        exact ih _ (by simp; omega) hn2

theorem good_split (b : List UInt8) : Good (split b) := good_sp b [] (by simp) (by intro d hd; simp at hd)

theorem sp_run (g : List UInt8) : ∀ (cur r : List UInt8), Nz g → cur.length + g.length < 254 → sp cur (g ++ r) = sp (cur ++ g) r := by
  induction g with
  | nil => intro cur r _ _; simp
  | cons c g ih =>
    intro cur r hn hl
    have hc : c ≠ 0 := hn c (by simp)
    have hn2 : Nz g := fun d hd => hn d (by simp [hd])
    simp only [List.length_cons] at hl
    rw [List.cons_append, sp, if_neg hc, if_neg (by omega), ih _ _ hn2 (by simp; omega)]
    simp

theorem sp_full (g : List UInt8) : ∀ (cur r : List UInt8), Nz g → cur.length < 254 → cur.length + g.length = 254 → sp cur (g ++ r) = (cur ++ g) :: (if r = [] then [] else sp [] r) := by
  induction g with
  | nil => intro cur r _ h1 h2; simp at h2; omega
  | cons c g ih =>
    intro cur r hn h1 h2
    have hc : c ≠ 0 := hn c (by simp)
    have hn2 : Nz g := fun d hd => hn d (by simp [hd])
    simp only [List.length_cons] at h2
    rw [List.cons_append, sp, if_neg hc]
    by_cases h3 : cur.length + 1 = 254
    · have hg : g = [] := by
        cases g with
        | nil => rfl
        | cons _ _ => simp at h2; omega
      subst hg
      rw [if_pos h3]; simp
    · rw [if_neg h3, ih _ _ hn2 (by simp; omega) (by simp; omega)]
      simp

theorem join_nil {g : List UInt8} {t : List (List UInt8)} (h : join (g :: t) = []) : g = [] ∧ t = [] := by
  cases t with
  | nil => exact ⟨h, rfl⟩
  | cons a t =>
    rw [join_cons _ _ (by simp)] at h
    have h1 : g = [] := by simp at h; exact h.1
    subst h1
    simp at h

/-- the bytes tell the groups -/
theorem split_join (gs : List (List UInt8)) (h : Good gs) : split (join gs) = gs := by
  unfold split
  induction gs with
  | nil => exact h.elim
  | cons g t ih =>
    cases t with
    | nil =>
      obtain ⟨h1, h2⟩ := h
      by_cases h3 : g.length < 254
      · have := sp_run g [] [] h2 (by simpa using h3)
        simp only [List.append_nil, List.nil_append] at this
        show sp [] g = [g]
        rw [this]; rfl
      · have := sp_full g [] [] h2 (by simp) (by simp; omega)
        simp only [List.append_nil, List.nil_append, if_true] at this
        exact this
    | cons a t =>
      obtain ⟨h1, h2, h3, h4⟩ := h
      have hi := ih h4
      rw [join_cons _ _ (by simp)]
      by_cases h5 : g.length < 254
      · rw [if_pos h5, List.append_assoc]
        have := sp_run g [] ([0] ++ join (a :: t)) h2 (by simpa using h5)
        rw [this, List.nil_append, List.singleton_append, sp, if_pos rfl, hi]
      · rw [if_neg h5, List.append_nil]
        have := sp_full g [] (join (a :: t)) h2 (by simp) (by simp; omega)
        rw [this, List.nil_append, hi, if_neg]
        intro hc
        exact h3 (by omega) (join_nil hc)

/-- reading groups: none where the bytes end within one; f: as many bytes as there may be -/
def gr : Nat → List UInt8 → Option (List (List UInt8))
  | _, [] => some []
  | 0, _ :: _ => none
  | f + 1, c :: r => if r.length < c.toNat - 1 then none else (gr f (r.drop (c.toNat - 1))).map (r.take (c.toNat - 1) :: ·)

theorem len_byte (n : Nat) (h : n ≤ 254) : (UInt8.ofNat (n + 1)).toNat = n + 1 := by
  rw [UInt8.toNat_ofNat']; omega

theorem gr_enc (gs : List (List UInt8)) : ∀ f, (∀ g, g ∈ gs → g.length ≤ 254) → (enc gs).length ≤ f → gr f (enc gs) = some gs := by
  induction gs with
  | nil => intro f _ _; cases f <;> rfl
  | cons g t ih =>
    intro f hl hf
    have hg := hl g (by simp)
    simp only [enc, List.length_cons, List.length_append] at hf
    cases f with
    | zero => omega
    | succ f =>
      simp only [enc, gr, len_byte _ hg, Nat.add_sub_cancel, List.length_append]
      rw [if_neg (by omega), List.drop_left, List.take_left, ih f (fun x hx => hl x (by simp [hx])) (by omega)]
      rfl

theorem gr_ok (f : Nat) : ∀ (s : List UInt8) (gs : List (List UInt8)), Nz s → gr f s = some gs → enc gs = s ∧ (∀ g, g ∈ gs → g.length ≤ 254 ∧ Nz g) ∧ (s ≠ [] → gs ≠ []) := by
  induction f with
  | zero =>
    intro s gs hn h
    cases s with
    | nil => simp [gr] at h; subst h; exact ⟨rfl, by simp, fun h => absurd rfl h⟩
    | cons c r => simp [gr] at h
  | succ f ih =>
    intro s gs hn h
    cases s with
    | nil => simp [gr] at h; subst h; exact ⟨rfl, by simp, fun h => absurd rfl h⟩
    | cons c r =>
      have hc0 : c ≠ 0 := hn c (by simp)
      have hc1 : 1 ≤ c.toNat := by
        rcases Nat.eq_zero_or_pos c.toNat with h1 | h1
        · exact absurd (UInt8.toNat_inj.1 (by rw [h1]; rfl)) hc0
        · exact h1
      have hc2 : c.toNat < 256 := c.toNat_lt
      have hnr : Nz r := fun d hd => hn d (by simp [hd])
      rw [gr] at h
      by_cases h1 : r.length < c.toNat - 1
      · rw [if_pos h1] at h; cases h
      · rw [if_neg h1] at h
        obtain ⟨gs', h2, rfl⟩ := Option.map_eq_some_iff.1 h
        obtain ⟨i1, i2, _⟩ := ih (r.drop (c.toNat - 1)) gs' (fun d hd => hnr d (List.mem_of_mem_drop hd)) h2
        refine ⟨?_, ?_, fun _ => by simp⟩
        · simp only [enc, i1, List.take_append_drop, List.length_take]
          congr 1
          apply UInt8.toNat_inj.1
          rw [UInt8.toNat_ofNat']; omega
        · intro g hg
          rcases List.mem_cons.1 hg with rfl | hg
          · exact ⟨by rw [List.length_take]; omega, fun d hd => hnr d (List.mem_of_mem_take hd)⟩
          · exact i2 g hg

theorem good_mem {gs : List (List UInt8)} (h : Good gs) : ∀ g, g ∈ gs → g.length ≤ 254 ∧ Nz g := by
  induction gs with
  | nil => intro g hg; simp at hg
  | cons a t ih =>
    cases t with
    | nil => intro g hg; simp at hg; subst hg; exact h
    | cons b t =>
      intro g hg
      rcases List.mem_cons.1 hg with rfl | hg
      · exact ⟨h.1, h.2.1⟩
      · exact ih h.2.2.2 g hg

theorem enc_nz {gs : List (List UInt8)} (h : ∀ g, g ∈ gs → g.length ≤ 254 ∧ Nz g) : Nz (enc gs) := by
  induction gs with
  | nil => intro c hc; simp [enc] at hc
  | cons g t ih =>
    intro c hc
    have hg := h g (by simp)
    simp only [enc] at hc
    rcases List.mem_cons.1 hc with rfl | hc
    · intro h0
      have := congrArg UInt8.toNat h0
      rw [len_byte _ hg.1] at this
      simp at this
    · rcases List.mem_append.1 hc with hc | hc
      · exact hg.2 c hc
      · exact ih (fun x hx => h x (by simp [hx])) c hc

/-- P4.4: no zero byte -/
theorem stuff_nz (b : List UInt8) : Nz (stuff b) := enc_nz (good_mem (good_split b))
/-- P4.4: the stuffed bytes are read as the groups -/
theorem gr_stuff (b : List UInt8) : gr (stuff b).length (stuff b) = some (split b) := gr_enc _ _ (fun g hg => (good_mem (good_split b) g hg).1) (Nat.le_refl _)
/-- P4.5 -/
theorem stuff_inj {a b : List UInt8} (h : stuff a = stuff b) : a = b := by
  have h1 := gr_stuff a
  have h2 := gr_stuff b
  rw [h, h2] at h1
  have h3 : split b = split a := Option.some.inj h1
  rw [← join_split a, ← join_split b, h3]
/-- P4.4: of good groups, what they tell stuffed is what they were read from -/
theorem stuff_join {gs : List (List UInt8)} (h : Good gs) : stuff (join gs) = enc gs := by
  unfold stuff; rw [split_join gs h]

/-- how many bytes more -/
theorem enc_length {gs : List (List UInt8)} (h : Good gs) : (join gs).length + 1 ≤ (enc gs).length ∧ 254 * (enc gs).length ≤ 254 * (join gs).length + 254 + (join gs).length := by
  induction gs with
  | nil => exact h.elim
  | cons g t ih =>
    cases t with
    | nil => simp only [join, enc, List.length_cons, List.length_append, List.length_nil]; omega
    | cons a t =>
      have hi := ih h.2.2.2
      have hg := h.1
      rw [join_cons _ _ (by simp)]
      simp only [enc, List.length_cons, List.length_append] at hi ⊢
      by_cases h5 : g.length < 254
      · rw [if_pos h5]; simp; omega
      · rw [if_neg h5]; simp; omega

theorem stuff_length (b : List UInt8) : b.length + 1 ≤ (stuff b).length ∧ (stuff b).length ≤ b.length + 1 + b.length / 254 := by
  have := enc_length (good_split b)
  rw [join_split] at this
  unfold stuff
  omega

/-- groups that are read are good but for one form: an empty one behind a full one, at the end -/
def badEnd : List (List UInt8) → Bool
  | [] => false
  | [_] => false
  | [g, h] => decide (g.length = 254 ∧ h = [])
  | _ :: t => badEnd t
theorem good_of_read {gs : List (List UInt8)} (h0 : gs ≠ []) (h : ∀ g, g ∈ gs → g.length ≤ 254 ∧ Nz g) (hb : badEnd gs = false) : Good gs := by
  induction gs with
  | nil => exact absurd rfl h0
  | cons g t ih =>
    cases t with
    | nil => exact h g (by simp)
    | cons a t =>
      cases t with
      | nil =>
        refine ⟨(h g (by simp)).1, (h g (by simp)).2, fun h1 h2 => ?_, h a (by simp)⟩
        simp only [badEnd, decide_eq_false_iff_not] at hb
        exact hb ⟨h1, h2.1⟩
      | cons c t =>
        have hb2 : badEnd (a :: c :: t) = false := hb
        exact ⟨(h g (by simp)).1, (h g (by simp)).2, fun _ h2 => by simp at h2, ih (by simp) (fun x hx => h x (by simp [hx])) hb2⟩
theorem bad_of_good {gs : List (List UInt8)} (h : Good gs) : badEnd gs = false := by
  induction gs with
  | nil => rfl
  | cons g t ih =>
    cases t with
    | nil => rfl
    | cons a t =>
      cases t with
      | nil =>
        simp only [badEnd, decide_eq_false_iff_not]
        rintro ⟨h1, h2⟩
        exact h.2.2.1 h1 ⟨h2, rfl⟩
      | cons c t => exact ih h.2.2.2
end Go.Proofs.Ytecophlkbomlmaa.Cob
