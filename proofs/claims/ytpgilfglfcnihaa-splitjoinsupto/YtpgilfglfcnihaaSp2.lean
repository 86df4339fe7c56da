/- Plain: where a stream's last fence stands. -/
import Derived.Test.YtpgilfglfcnihaaSp
namespace Go.Proofs.Ytpgilfglfcnihaa
namespace Sp

structure In (m : List UInt8) : Prop where
  some_ : ∀ k, (of m).last = some k → k < m.length ∧ m[k]? = some 0 ∧ m.drop (k + 1) = (of m).tail
  none_ : (of m).last = none → m = (of m).tail
  tail : ∀ x ∈ (of m).tail, x ≠ 0
theorem in_nil : In [] := ⟨(fun k h => by cases h), fun _ => rfl, fun x h => by cases h⟩
theorem of_snoc (m : List UInt8) (c : UInt8) : of (m ++ [c]) = (of m).step c := run_snoc _ _ _
theorem in_snoc {m : List UInt8} (h : In m) (c : UInt8) : In (m ++ [c]) := by
  have hn := of_n m
  by_cases hc : c = 0
  · subst hc
    have e : of (m ++ [0]) = ⟨m.length + 1, some m.length, (of m).out ++ (of m).told 0, []⟩ := by rw [of_snoc, step_fence, hn]
    refine ⟨fun k hk => ?_, fun hk => ?_, fun x hx => ?_⟩
    · rw [e] at hk
      simp at hk
      subst hk
      refine ⟨by simp, by simp, ?_⟩
      rw [e]
      simp
    · rw [e] at hk
      cases hk
    · rw [e] at hx
      cases hx
  · have e : of (m ++ [c]) = ⟨(of m).n + 1, (of m).last, (of m).out, (of m).tail ++ [c]⟩ := by rw [of_snoc]; simp [step, hc]
    refine ⟨fun k hk => ?_, fun hk => ?_, fun x hx => ?_⟩
    · rw [e] at hk
      obtain ⟨h1, h2, h3⟩ := h.some_ k hk
      refine ⟨by simp; omega, ?_, ?_⟩
      · rw [List.getElem?_append_left h1]
        exact h2
      · rw [e, List.drop_append_of_le_length (by omega), h3]
    · rw [e] at hk
      rw [e]
      have := h.none_ hk
      simp only
      rw [← this]
    · rw [e] at hx
      rcases List.mem_append.1 hx with h1 | h1
      · exact h.tail x h1
      · rw [List.mem_singleton.1 h1]
        exact hc
theorem in_append (l : List UInt8) : ∀ {m : List UInt8}, In m → In (m ++ l) := by
  induction l with
  | nil => intro m h; rw [List.append_nil]; exact h
  | cons c l ih =>
    intro m h
    have := ih (in_snoc h c)
    rw [List.append_assoc] at this
    exact this
theorem in_all (m : List UInt8) : In m := in_append m in_nil
/-- the last fence is the last zero -/
theorem last_at {m : List UInt8} {t : Nat} (ht : m[t]? = some 0) (hz : ∀ j, t < j → j < m.length → m[j]? ≠ some 0) : (of m).last = some t ∧ (of m).tail.length + t + 1 = m.length := by
  have hi := in_all m
  have htl : t < m.length := (List.getElem?_eq_some_iff.1 ht).1
  cases hl : (of m).last with
  | none =>
    have h1 := hi.none_ hl
    rw [h1] at ht
    exact absurd rfl (hi.tail 0 (List.mem_of_getElem? ht))
  | some k =>
    obtain ⟨h1, h2, h3⟩ := hi.some_ k hl
    have hk : k = t := by
      rcases Nat.lt_trichotomy k t with h4 | h4 | h4
      · have : (of m).tail[t - (k + 1)]? = some 0 := by
          rw [← h3, List.getElem?_drop, show k + 1 + (t - (k + 1)) = t by omega]
          exact ht
        exact absurd rfl (hi.tail 0 (List.mem_of_getElem? this))
      · exact h4
      · exact absurd h2 (hz k h4 h1)
    subst hk
    refine ⟨rfl, ?_⟩
    rw [← h3, List.length_drop]
    omega
theorem last_none {m : List UInt8} (hz : ∀ j, j < m.length → m[j]? ≠ some 0) : (of m).last = none := by
  cases hl : (of m).last with
  | none => rfl
  | some k =>
    obtain ⟨h1, h2, h3⟩ := (in_all m).some_ k hl
    exact absurd h2 (hz k h1)
theorem held_last {d : Sp} {k : Nat} (h : d.last = some k) : d.held.length = if d.tail.length ≤ 2200 then d.tail.length else 0 := by
  unfold held op
  by_cases h1 : d.tail.length ≤ 2200
  · rw [if_pos h1, if_pos h1, h]
  · rw [if_neg h1, if_neg h1]
    rfl
theorem held_nolast {d : Sp} (h : d.last = none) : d.held = [] := by
  apply held_none
  unfold op
  rw [h]
  simp
end Sp
end Go.Proofs.Ytpgilfglfcnihaa
