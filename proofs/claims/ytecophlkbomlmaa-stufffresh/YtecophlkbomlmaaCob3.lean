/- Plain facts on taking stuffed bytes back, as the document's own loop goes: group by group. -/
import Derived.Test.YtecophlkbomlmaaCob2
namespace Go.Proofs.Ytecophlkbomlmaa.Cob

theorem gr_fuel : ∀ (n f : Nat) (s : List UInt8), s.length ≤ n → s.length ≤ f → gr f s = gr s.length s := by
  intro n
  induction n with
  | zero =>
    intro f s h _
    have : s = [] := List.eq_nil_of_length_eq_zero (by omega)
    subst this
    cases f <;> rfl
  | succ n ih =>
    intro f s h hf
    cases s with
    | nil => cases f <;> rfl
    | cons c r =>
      simp only [List.length_cons] at h hf ⊢
      cases f with
      | zero => omega
      | succ f =>
        simp only [gr]
        by_cases hx : r.length < c.toNat - 1
        · rw [if_pos hx, if_pos hx]
        · rw [if_neg hx, if_neg hx]
          have e1 : (r.drop (c.toNat - 1)).length ≤ r.length := by rw [List.length_drop]; omega
          rw [ih f (r.drop (c.toNat - 1)) (by omega) (by omega), ih r.length (r.drop (c.toNat - 1)) (by omega) (by omega)]

theorem gr_step (s : List UInt8) (a : Nat) (ha : a < s.length) : gr (s.length - a) (s.drop a) =
    if s.length - a - 1 < s[a].toNat - 1 then none else (gr (s.length - (a + (s[a].toNat - 1) + 1)) (s.drop (a + (s[a].toNat - 1) + 1))).map ((s.drop (a + 1)).take (s[a].toNat - 1) :: ·) := by
  have e : s.drop a = s[a] :: s.drop (a + 1) := List.drop_eq_getElem_cons ha
  have el : s.length - a = (s.length - a - 1) + 1 := by omega
  have er : (s.drop (a + 1)).length = s.length - a - 1 := by rw [List.length_drop]; omega
  rw [e, el]
  simp only [gr, er, Nat.add_sub_cancel]
  by_cases hx : s.length - a - 1 < s[a].toNat - 1
  · rw [if_pos hx, if_pos hx]
  · rw [if_neg hx, if_neg hx, List.drop_drop, show a + 1 + (s[a].toNat - 1) = a + (s[a].toNat - 1) + 1 by omega]
    have el2 : (s.drop (a + (s[a].toNat - 1) + 1)).length = s.length - (a + (s[a].toNat - 1) + 1) := by rw [List.length_drop]
    rw [gr_fuel (s.length - a - 1) (s.length - a - 1) (s.drop (a + (s[a].toNat - 1) + 1)) (by omega) (by omega), el2]

/-- one more than how many bytes the last group has; 0: there is none -/
def lastOf (gs : List (List UInt8)) : Nat := match gs.getLast? with
  | none => 0
  | some g => g.length + 1
theorem lastOf_snoc (gs : List (List UInt8)) (g : List UInt8) : lastOf (gs ++ [g]) = g.length + 1 := by simp [lastOf]
theorem badEnd_snoc2 : ∀ (gs : List (List UInt8)) (g h : List UInt8), badEnd (gs ++ [g, h]) = decide (g.length = 254 ∧ h = [])
  | [], _, _ => rfl
  | [_], _, _ => rfl
  | _ :: x :: t, g, h => by
    have := badEnd_snoc2 (x :: t) g h
    rw [← this]
    cases t <;> rfl
theorem badEnd_iff (gs : List (List UInt8)) (g : List UInt8) : badEnd (gs ++ [g]) = (decide (g.length + 1 = 1) && decide (lastOf gs = 255)) := by
  rcases List.eq_nil_or_concat gs with rfl | ⟨gs', h, rfl⟩
  · simp [badEnd, lastOf]
  · rw [List.concat_eq_append, List.append_assoc]
    have := badEnd_snoc2 gs' h g
    simp only [List.cons_append, List.nil_append] at this ⊢
    rw [this, lastOf_snoc, Bool.eq_iff_iff]
    simp [List.length_eq_zero_iff, and_comm]

/-- what stands when the groups up to a place are read -/
def Reading (s : List UInt8) (a last ahead : Nat) (xs : List UInt8) : Prop :=
  a ≤ s.length ∧ xs.length ≤ a ∧ last ≤ 255 ∧ ahead ≤ 255 ∧ ∃ gs : List (List UInt8), gr s.length s = (gr (s.length - a) (s.drop a)).map (gs ++ ·) ∧
    (a < s.length → ∀ rest, rest ≠ [] → join (gs ++ rest) = xs ++ join rest) ∧ (a = s.length → gs ≠ [] → xs = join gs) ∧ (a = 0 ∧ gs = [] ∨ 0 < a ∧ gs ≠ [] ∧ badEnd gs = (decide (last = 1) && decide (ahead = 255))) ∧ last = lastOf gs

theorem reading_start (s : List UInt8) : Reading s 0 0 0 [] := by
  refine ⟨by omega, by simp, by omega, by omega, [], ?_, fun _ rest _ => rfl, fun _ h => absurd rfl h, .inl ⟨rfl, rfl⟩, rfl⟩
  simp

theorem reading_short {s : List UInt8} {a last ahead : Nat} {xs : List UInt8} (hz : Nz s) (h : Reading s a last ahead xs) (ha : a < s.length) (hk : s.length - a - 1 < s[a].toNat - 1) : un s = (30, []) := by
  obtain ⟨-, -, -, -, gs, h1, -⟩ := h
  have hs := gr_step s a ha
  rw [if_pos hk] at hs
  rw [hs] at h1
  have h0 : ¬ (0 : UInt8) ∈ s := fun hc => hz 0 hc rfl
  have hne : s ≠ [] := by intro hc; rw [hc] at ha; simp at ha
  unfold un
  rw [if_neg h0, if_neg hne, h1]
  rfl

theorem reading_next {s : List UInt8} {a last ahead : Nat} {xs : List UInt8} (h : Reading s a last ahead xs) (ha : a < s.length) (k : Nat) (hkv : s[a].toNat = k + 1) (hk : a + k + 1 ≤ s.length) :
    Reading s (a + k + 1) (k + 1) last (xs ++ (s.drop (a + 1)).take k ++ (if k < 254 ∧ a + k + 1 < s.length then [0] else [])) := by
  obtain ⟨h1, h2, h3, h4, gs, h5, h6, h7, h8, h9⟩ := h
  have hc := s[a].toNat_lt
  have hs := gr_step s a ha
  rw [hkv, Nat.add_sub_cancel] at hs
  rw [if_neg (by omega)] at hs
  have hgl : ((s.drop (a + 1)).take k).length = k := by rw [List.length_take, List.length_drop]; omega
  refine ⟨by omega, ?_, by omega, h3, gs ++ [(s.drop (a + 1)).take k], ?_, ?_, ?_, .inr ⟨by omega, by simp, ?_⟩, ?_⟩
  · simp only [List.length_append, hgl]
    split <;> simp <;> omega
  · rw [h5, hs, Option.map_map]
    congr 1
    funext x
    simp
  · intro hlt rest hr
    rw [List.append_assoc, h6 ha ([(s.drop (a + 1)).take k] ++ rest) (by simp)]
    rw [List.cons_append, List.nil_append, join_cons _ _ hr, hgl]
    by_cases h254 : k < 254
    · rw [if_pos h254, if_pos ⟨h254, hlt⟩]; simp
    · rw [if_neg h254, if_neg (fun hh => h254 hh.1)]; simp
  · intro he _
    rw [if_neg (by omega), List.append_nil, h6 ha [(s.drop (a + 1)).take k] (by simp)]
    rfl
  · rw [badEnd_iff, hgl, ← h9]
  · rw [lastOf_snoc, hgl]

theorem reading_end {s : List UInt8} {last ahead : Nat} {xs : List UInt8} (hz : Nz s) (hne : s ≠ []) (h : Reading s s.length last ahead xs) : un s = if last = 1 ∧ ahead = 255 then (5, []) else (0, xs) := by
  obtain ⟨-, -, -, -, gs, h5, -, h7, h8, -⟩ := h
  have hpos : 0 < s.length := List.length_pos_iff.2 hne
  have h0 : ¬ (0 : UInt8) ∈ s := fun hc => hz 0 hc rfl
  rcases h8 with ⟨h8, _⟩ | ⟨_, hgs, hb⟩
  · omega
  · rw [Nat.sub_self, List.drop_length] at h5
    have h5' : gr s.length s = some gs := by rw [h5]; simp [gr]
    unfold un
    rw [if_neg h0, if_neg hne, h5']
    simp only
    rw [hb, ← h7 rfl hgs]
    by_cases h1 : last = 1 <;> by_cases h2 : ahead = 255 <;> simp [h1, h2]
end Go.Proofs.Ytecophlkbomlmaa.Cob
