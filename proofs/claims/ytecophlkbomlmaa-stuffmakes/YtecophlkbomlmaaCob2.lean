/- Plain facts on stuffing, as the document's own loops go: group by group. -/
import Derived.Test.YtecophlkbomlmaaCob
namespace Go.Proofs.Ytecophlkbomlmaa.Cob

theorem nz_take {r : List UInt8} {k : Nat} (h : ∀ j (hj : j < r.length), j < k → r[j] ≠ 0) : Nz (r.take k) := by
  intro c hc
  obtain ⟨j, hj, rfl⟩ := List.getElem_of_mem hc
  rw [List.length_take] at hj
  rw [List.getElem_take]
  exact h j (by omega) (by omega)

/-- a group that a zero byte ends -/
theorem step_zero (r : List UInt8) (k : Nat) (hk : k < 254) (hr : k < r.length) (h : ∀ j (hj : j < r.length), j < k → r[j] ≠ 0) (h0 : r[k] = 0) : split r = r.take k :: split (r.drop (k + 1)) := by
  have e : r = r.take k ++ (0 :: r.drop (k + 1)) := by
    rw [← h0, ← List.drop_eq_getElem_cons hr, List.take_append_drop]
  have h1 := sp_run (r.take k) [] (0 :: r.drop (k + 1)) (nz_take h) (by simp; omega)
  rw [← e, List.nil_append] at h1
  unfold split
  rw [h1, sp, if_pos rfl]
/-- a group that the end ends -/
theorem step_end (r : List UInt8) (hk : r.length < 254) (h : ∀ j (hj : j < r.length), r[j] ≠ 0) : split r = [r] := by
  have hz : Nz r := by
    have := nz_take (r := r) (k := r.length) (fun j hj _ => h j hj)
    rwa [List.take_length] at this
  have h1 := sp_run r [] [] hz (by simpa using hk)
  rw [List.append_nil, List.nil_append] at h1
  unfold split
  rw [h1, sp]
/-- a full group -/
theorem step_full (r : List UInt8) (hr : 254 ≤ r.length) (h : ∀ j (hj : j < r.length), j < 254 → r[j] ≠ 0) : split r = r.take 254 :: (if r.drop 254 = [] then [] else split (r.drop 254)) := by
  have h1 := sp_full (r.take 254) [] (r.drop 254) (nz_take h) (by simp) (by simp; omega)
  rw [List.take_append_drop, List.nil_append] at h1
  exact h1

/-- what stands when the groups up to a place are written -/
def Writing (b : List UInt8) (at_ : Nat) (more : Bool) (xs : List UInt8) : Prop :=
  at_ ≤ b.length ∧ (more = true → stuff b = xs ++ enc (split (b.drop at_))) ∧ (more = false → stuff b = xs)

theorem writing_start (b : List UInt8) : Writing b 0 true [] := ⟨by omega, fun _ => rfl, fun h => by cases h⟩

section
variable {b xs : List UInt8} {a k : Nat}
theorem writing_zero (h : Writing b a true xs) (hk : k < 254) (hr : a + k < b.length) (hz : ∀ j, j < k → ∀ h : a + j < b.length, b[a + j] ≠ 0) (h0 : b[a + k] = 0) :
    Writing b (a + k + 1) true (xs ++ [UInt8.ofNat (k + 1)] ++ (b.drop a).take k) := by
  refine ⟨by omega, fun _ => ?_, fun h => by cases h⟩
  rw [h.2.1 rfl, step_zero (b.drop a) k hk (by rw [List.length_drop]; omega) (fun j hj hjk => by rw [List.getElem_drop]; exact hz j hjk _) (by rw [List.getElem_drop]; exact h0), enc, List.drop_drop]
  have e : ((b.drop a).take k).length = k := by rw [List.length_take, List.length_drop]; omega
  rw [e, List.append_assoc, List.append_assoc]
  rfl
theorem writing_end (h : Writing b a true xs) (hk : k < 254) (hr : a + k = b.length) (hz : ∀ j, j < k → ∀ h : a + j < b.length, b[a + j] ≠ 0) :
    Writing b (a + k) false (xs ++ [UInt8.ofNat (k + 1)] ++ (b.drop a).take k) := by
  refine ⟨by omega, fun h => (by cases h), fun _ => ?_⟩
  have hl : (b.drop a).length = k := by rw [List.length_drop]; omega
  rw [h.2.1 rfl, step_end (b.drop a) (by omega) (fun j hj => by rw [List.getElem_drop]; exact hz j (by omega) _), enc, enc, hl, List.append_nil, List.append_assoc]
  rw [List.take_of_length_le (by omega)]
  rfl
theorem writing_full (h : Writing b a true xs) (hr : a + 254 ≤ b.length) (hz : ∀ j, j < 254 → ∀ h : a + j < b.length, b[a + j] ≠ 0) :
    Writing b (a + 254) (decide (a + 254 < b.length)) (xs ++ [UInt8.ofNat (254 + 1)] ++ (b.drop a).take 254) := by
  have hs := step_full (b.drop a) (by rw [List.length_drop]; omega) (fun j hj hjk => by rw [List.getElem_drop]; exact hz j hjk _)
  rw [List.drop_drop] at hs
  have e : ((b.drop a).take 254).length = 254 := by rw [List.length_take, List.length_drop]; omega
  have hw : stuff b = xs ++ [UInt8.ofNat (254 + 1)] ++ (b.drop a).take 254 ++ enc (if b.drop (a + 254) = [] then [] else split (b.drop (a + 254))) := by
    rw [h.2.1 rfl, hs, enc, e]
    simp
  refine ⟨by omega, fun hm => ?_, fun hm => ?_⟩
  · have : a + 254 < b.length := of_decide_eq_true hm
    rw [hw, if_neg]
    intro hc
    have := congrArg List.length hc
    rw [List.length_drop] at this
    simp at this
    omega
  · have : ¬ a + 254 < b.length := of_decide_eq_false hm
    rw [hw, if_pos (List.drop_eq_nil_of_le (by omega)), enc, List.append_nil]
theorem writing_bound {m : Bool} (h : Writing b a m xs) : xs.length ≤ b.length + 1 + b.length / 254 := by
  have hs := (stuff_length b).2
  cases m with
  | true => have := congrArg List.length (h.2.1 rfl); simp only [List.length_append] at this; omega
  | false => have := congrArg List.length (h.2.2 rfl); omega
end

/-- what bytes are read as: the error, or 0 and the bytes -/
def un (s : List UInt8) : Nat × List UInt8 :=
  if (0 : UInt8) ∈ s then (40, []) else if s = [] then (30, []) else
    match gr s.length s with
    | none => (30, [])
    | some gs => if badEnd gs then (5, []) else (0, join gs)

theorem un_bad {s : List UInt8} (h : (un s).1 ≠ 0) : (un s).2 = [] := by
  unfold un at h ⊢
  split
  · rfl
  · rename_i h1
    rw [if_neg h1] at h
    split
    · rfl
    · rename_i h2
      rw [if_neg h2] at h
      split
      · rfl
      · rename_i gs hg
        rw [hg] at h
        simp only at h ⊢
        split
        · rfl
        · rename_i h3
          rw [if_neg h3] at h
          exact absurd rfl h
theorem un_ok {s : List UInt8} (h : (un s).1 = 0) : stuff (un s).2 = s := by
  unfold un at h ⊢
  split
  · rename_i h1; rw [if_pos h1] at h; cases h
  · rename_i h1
    rw [if_neg h1] at h
    split
    · rename_i h2; rw [if_pos h2] at h; cases h
    · rename_i h2
      rw [if_neg h2] at h
      split
      · rename_i hg; rw [hg] at h; cases h
      · rename_i gs hg
        rw [hg] at h
        simp only at h ⊢
        split
        · rename_i h3; rw [if_pos h3] at h; cases h
        · rename_i h3
          have hz : Nz s := fun c hc h0 => h1 (by rw [← h0]; exact hc)
          obtain ⟨e1, e2, e3⟩ := gr_ok s.length s gs hz hg
          have hgood := good_of_read (e3 h2) e2 (by simpa using h3)
          rw [stuff_join hgood, e1]
theorem un_stuff (b : List UInt8) : un (stuff b) = (0, b) := by
  have h1 : ¬ (0 : UInt8) ∈ stuff b := fun hc => stuff_nz b 0 hc rfl
  have h2 : stuff b ≠ [] := by
    intro hc
    have := (stuff_length b).1
    rw [hc] at this
    simp at this
  unfold un
  rw [if_neg h1, if_neg h2, gr_stuff]
  simp only
  rw [if_neg (by rw [bad_of_good (good_split b)]; simp), join_split]
theorem un_length (s : List UInt8) : (un s).2.length ≤ s.length := by
  by_cases h : (un s).1 = 0
  · have := (stuff_length (un s).2).1
    rw [un_ok h] at this
    omega
  · rw [un_bad h]; simp
end Go.Proofs.Ytecophlkbomlmaa.Cob
