/- Plain: runs stand between two fences, one behind the other; two streams with a fence between. -/
import Derived.Test.YtpgilfglfcnihaaSp2
namespace Go.Proofs.Ytpgilfglfcnihaa
namespace Sp

/-- a run stands in the bytes -/
structure Stand (m : List UInt8) (r : Run) : Prop where
  pos : 1 ≤ r.2.length
  most : r.2.length ≤ 2200
  fit : r.1 + r.2.length + 1 < m.length
  ahead : m[r.1]? = some 0
  behind : m[r.1 + r.2.length + 1]? = some 0
  bytes : (m.drop (r.1 + 1)).take r.2.length = r.2
  clean : ∀ x ∈ r.2, x ≠ 0
theorem Stand.append {m : List UInt8} {r : Run} (h : Stand m r) (l : List UInt8) : Stand (m ++ l) r := by
  have hf := h.fit
  refine ⟨h.pos, h.most, by simp; omega, ?_, ?_, ?_, h.clean⟩
  · rw [List.getElem?_append_left (by omega)]; exact h.ahead
  · rw [List.getElem?_append_left (by omega)]; exact h.behind
  · rw [List.drop_append_of_le_length (by omega), List.take_append_of_le_length (by simp; omega)]
    exact h.bytes
/-- all runs stand, in order, and the last one ahead of the last fence -/
structure Row (m : List UInt8) : Prop where
  stand : ∀ r ∈ (of m).out, Stand m r
  sorted : (of m).out.Pairwise (fun a b => a.1 < b.1)
  low : ∀ r ∈ (of m).out, ∀ k, (of m).last = some k → r.1 < k
theorem row_nil : Row [] := ⟨fun r h => (by cases h), List.Pairwise.nil, fun r h => (by cases h)⟩
theorem row_snoc {m : List UInt8} (h : Row m) (c : UInt8) : Row (m ++ [c]) := by
  have hn := of_n m
  have hi := in_all m
  have hok := ok_of m
  by_cases hc : c = 0
  · subst hc
    have e : of (m ++ [0]) = ⟨m.length + 1, some m.length, (of m).out ++ (of m).told 0, []⟩ := by rw [of_snoc, step_fence, hn]
    have hold : ∀ r ∈ (of m).out, r.1 < m.length := fun r hr => by have := (h.stand r hr).fit; omega
    have htold : ∀ r ∈ (of m).told 0, ∃ k, (of m).last = some k ∧ (of m).tail.length ≤ 2200 ∧ (of m).tail ≠ [] ∧ r = (k, (of m).tail) := by
      intro r hr
      cases hop : (of m).op with
      | none => rw [told_none hop] at hr; cases hr
      | some k =>
        have hk := hop
        unfold op at hk
        split at hk
        · rename_i hle
          rw [told_some hop, held_op hop] at hr
          by_cases ht : (of m).tail = []
          · rw [if_pos ht] at hr; cases hr
          · rw [if_neg ht] at hr
            exact ⟨k, hk, hle, ht, List.mem_singleton.1 hr⟩
        · cases hk
    refine ⟨fun r hr => ?_, ?_, fun r hr k hk => ?_⟩
    · rw [e] at hr
      rcases List.mem_append.1 hr with h1 | h1
      · exact (h.stand r h1).append _
      · obtain ⟨k, hk, hle, hne, rfl⟩ := htold r h1
        obtain ⟨h2, h3, h4⟩ := hi.some_ k hk
        have h5 : k + 1 + (of m).tail.length = m.length := by rw [← hn]; exact hok.lastn k hk
        refine ⟨List.length_pos_iff.2 hne, hle, by simp; omega, ?_, ?_, ?_, hi.tail⟩
        · rw [List.getElem?_append_left h2]; exact h3
        · simp only
          rw [List.getElem?_append_right (by omega), show k + (of m).tail.length + 1 - m.length = 0 by omega]
          rfl
        · simp only
          rw [List.drop_append_of_le_length (by omega), h4, List.take_append_of_le_length (Nat.le_refl _), List.take_length]
    · rw [e]
      refine List.pairwise_append.2 ⟨h.sorted, ?_, ?_⟩
      · have hl := told_len (of m) 0
        match hx : (of m).told 0, hl with
        | [], _ => exact List.Pairwise.nil
        | [y], _ => exact List.pairwise_singleton _ _
      · intro a ha b hb
        obtain ⟨k, hk, _, _, rfl⟩ := htold b hb
        exact h.low a ha k hk
    · rw [e] at hr hk
      simp at hk
      subst hk
      rcases List.mem_append.1 hr with h1 | h1
      · exact hold r h1
      · obtain ⟨k, hk, _, _, rfl⟩ := htold r h1
        exact (hi.some_ k hk).1
  · have e : of (m ++ [c]) = ⟨(of m).n + 1, (of m).last, (of m).out, (of m).tail ++ [c]⟩ := by rw [of_snoc]; simp [step, hc]
    refine ⟨fun r hr => ?_, by rw [e]; exact h.sorted, fun r hr k hk => ?_⟩
    · rw [e] at hr
      exact (h.stand r hr).append _
    · rw [e] at hr hk
      exact h.low r hr k hk
theorem row_append (l : List UInt8) : ∀ {m : List UInt8}, Row m → Row (m ++ l) := by
  induction l with
  | nil => intro m h; rw [List.append_nil]; exact h
  | cons c l ih =>
    intro m h
    have := ih (row_snoc h c)
    rw [List.append_assoc] at this
    exact this
theorem row_all (m : List UInt8) : Row m := row_append m row_nil

/-- a stream that began later -/
def shift (s : Nat) (rs : List Run) : List Run := rs.map fun r => (r.1 + s, r.2)
structure Twin (s : Nat) (pre : List Run) (d e : Sp) : Prop where
  n : d.n = e.n + s
  last : d.last = e.last.map (· + s)
  tail : d.tail = e.tail
  out : d.out = pre ++ shift s e.out
theorem Twin.step {s : Nat} {pre : List Run} {d e : Sp} (h : Twin s pre d e) (c : UInt8) : Twin s pre (d.step c) (e.step c) := by
  by_cases hc : c = 0
  · subst hc
    have hop : d.op = e.op.map (· + s) := by
      unfold op
      rw [h.tail]
      split
      · exact h.last
      · rfl
    have ht : d.told 0 = shift s (e.told 0) := by
      unfold told
      simp only [if_true, hop, h.tail]
      cases e.op with
      | none => rfl
      | some k =>
        simp only [Option.map_some]
        split <;> simp [shift]
    rw [step_fence, step_fence]
    refine ⟨by have := h.n; simp only; omega, ?_, rfl, ?_⟩
    · simp only [Option.map_some]
      rw [h.n]
    · simp only
      rw [h.out, ht, List.append_assoc]
      simp [shift]
  · simp only [Sp.step, if_neg hc]
    refine ⟨by have := h.n; simp only; omega, h.last, ?_, h.out⟩
    simp only
    rw [h.tail]
theorem Twin.run {s : Nat} {pre : List Run} (l : List UInt8) : ∀ {d e : Sp}, Twin s pre d e → Twin s pre (d.run l) (e.run l) := by
  induction l with
  | nil => intro d e h; exact h
  | cons c l ih => intro d e h; rw [run_cons, run_cons]; exact ih (h.step c)
/-- two streams with a fence between -/
theorem joins (a b : List UInt8) : (of (a ++ [0] ++ b)).out = (of (a ++ [0])).out ++ shift a.length (of (0 :: b)).out := by
  have h0 : Twin a.length (of (a ++ [0])).out (of (a ++ [0])) (of [0]) := by
    have e : of (a ++ [0]) = ⟨a.length + 1, some a.length, (of a).out ++ (of a).told 0, []⟩ := by rw [of_snoc, step_fence, of_n]
    have e2 : of [0] = ⟨1, some 0, [], []⟩ := rfl
    refine ⟨?_, ?_, ?_, ?_⟩
    · rw [e, e2]; simp only; omega
    · rw [e, e2]; simp
    · rw [e, e2]
    · rw [e2]; simp [shift]
  have h1 := (h0.run b).out
  rw [← of_append, ← of_append] at h1
  exact h1
end Sp
end Go.Proofs.Ytpgilfglfcnihaa
