/- Plain: a stream of bytes and its runs, byte by byte. -/
import Derived.Test.YtpgilfglfcnihaaBytes
namespace Go.Proofs.Ytpgilfglfcnihaa

abbrev Run := Nat × List UInt8
/-- what a stream came to: how many bytes, where the last fence stands, the runs, what came behind the last fence -/
structure Sp where
  n : Nat
  last : Option Nat
  out : List Run
  tail : List UInt8
namespace Sp
def start : Sp := ⟨0, none, [], []⟩
/-- the fence whose run may still close -/
def op (d : Sp) : Option Nat := if d.tail.length ≤ 2200 then d.last else none
def held (d : Sp) : List UInt8 := match d.op with | some _ => d.tail | none => []
/-- the run that a byte closes -/
def told (d : Sp) (c : UInt8) : List Run := if c = 0 then (match d.op with | some k => if d.tail = [] then [] else [(k, d.tail)] | none => []) else []
def step (d : Sp) (c : UInt8) : Sp := if c = 0 then ⟨d.n + 1, some d.n, d.out ++ d.told c, []⟩ else ⟨d.n + 1, d.last, d.out, d.tail ++ [c]⟩
def run (d : Sp) (l : List UInt8) : Sp := l.foldl step d
def of (l : List UInt8) : Sp := run start l

theorem step_out (d : Sp) (c : UInt8) : (d.step c).out = d.out ++ d.told c := by
  unfold step
  split
  · rfl
  · rename_i h
    simp [told, h]
theorem step_n (d : Sp) (c : UInt8) : (d.step c).n = d.n + 1 := by unfold step; split <;> rfl
theorem run_nil (d : Sp) : run d [] = d := rfl
theorem run_cons (d : Sp) (c : UInt8) (l : List UInt8) : run d (c :: l) = run (d.step c) l := rfl
theorem run_append (d : Sp) (a b : List UInt8) : run d (a ++ b) = run (run d a) b := by simp [run, List.foldl_append]
theorem run_snoc (d : Sp) (a : List UInt8) (c : UInt8) : run d (a ++ [c]) = (run d a).step c := by simp [run, List.foldl_append]
theorem of_append (a b : List UInt8) : of (a ++ b) = run (of a) b := run_append _ _ _
theorem run_n (l : List UInt8) : ∀ d : Sp, (run d l).n = d.n + l.length := by
  induction l with
  | nil => intro d; rfl
  | cons c l ih =>
    intro d
    rw [run_cons, ih, step_n, List.length_cons]
    omega
theorem of_n (l : List UInt8) : (of l).n = l.length := by
  unfold of
  rw [run_n]
  simp [start]
/-- runs are told one behind the other -/
theorem run_out (l : List UInt8) : ∀ d : Sp, ∃ rs, (run d l).out = d.out ++ rs := by
  induction l with
  | nil => intro d; exact ⟨[], by simp [run_nil]⟩
  | cons c l ih =>
    intro d
    obtain ⟨rs, h⟩ := ih (d.step c)
    exact ⟨d.told c ++ rs, by rw [run_cons, h, step_out, List.append_assoc]⟩
/-- the runs that end in some bytes -/
def tolds (d : Sp) (l : List UInt8) : List Run := (run d l).out.drop d.out.length
theorem tolds_out (d : Sp) (l : List UInt8) : (run d l).out = d.out ++ d.tolds l := by
  obtain ⟨rs, h⟩ := run_out l d
  unfold tolds
  rw [h, List.drop_left]
theorem tolds_nil (d : Sp) : d.tolds [] = [] := by simp [tolds, run_nil]
theorem tolds_snoc (d : Sp) (l : List UInt8) (c : UInt8) : d.tolds (l ++ [c]) = d.tolds l ++ (run d l).told c := by
  have h1 := tolds_out d (l ++ [c])
  rw [run_snoc, step_out, tolds_out, List.append_assoc] at h1
  exact (List.append_cancel_left h1).symm
/-- what all states keep -/
structure Ok (d : Sp) : Prop where
  tail0 : d.last = none → d.out = []
  lastn : ∀ k, d.last = some k → k + 1 + d.tail.length = d.n
  none0 : d.last = none → d.tail.length = d.n
theorem ok_start : Ok start := ⟨fun _ => rfl, (fun k h => by cases h), fun _ => rfl⟩
theorem ok_step {d : Sp} (h : Ok d) (c : UInt8) : Ok (d.step c) := by
  unfold step
  by_cases hc : c = 0
  · rw [if_pos hc]
    refine ⟨(fun h => by cases h), (fun k hk => ?_), (fun h => by cases h)⟩
    simp at hk
    simp [hk]
  · rw [if_neg hc]
    refine ⟨h.tail0, fun k hk => ?_, fun hk => ?_⟩
    · have := h.lastn k hk
      simp
      omega
    · have := h.none0 hk
      simp
      omega
theorem ok_run (l : List UInt8) : ∀ {d : Sp}, Ok d → Ok (run d l) := by
  induction l with
  | nil => intro d h; exact h
  | cons c l ih => intro d h; rw [run_cons]; exact ih (ok_step h c)
theorem ok_of (l : List UInt8) : Ok (of l) := ok_run l ok_start
theorem held_le (d : Sp) : d.held.length ≤ 2200 := by
  unfold held op
  by_cases h : d.tail.length ≤ 2200
  · rw [if_pos h]
    cases d.last <;> simp [h]
  · rw [if_neg h]
    simp
theorem op_lt {d : Sp} (h : Ok d) {k : Nat} (hk : d.op = some k) : k < d.n := by
  unfold op at hk
  split at hk
  · have := h.lastn k hk
    omega
  · cases hk
theorem held_op {d : Sp} {k : Nat} (hk : d.op = some k) : d.held = d.tail := by simp [held, hk]
theorem held_none {d : Sp} (hk : d.op = none) : d.held = [] := by simp [held, hk]
/-- what a fence leaves -/
theorem step_fence (d : Sp) : d.step 0 = ⟨d.n + 1, some d.n, d.out ++ d.told 0, []⟩ := by simp [step]
theorem fence_op (d : Sp) : (d.step 0).op = some d.n := by simp [step, op]
theorem fence_held (d : Sp) : (d.step 0).held = [] := by rw [held_op (fence_op d), step_fence]
theorem told_some {d : Sp} {k : Nat} (hk : d.op = some k) : d.told 0 = if d.held = [] then [] else [(k, d.held)] := by simp [told, hk, held_op hk]
theorem told_none {d : Sp} (hk : d.op = none) (c : UInt8) : d.told c = [] := by simp [told, hk]
theorem told_else {d : Sp} {c : UInt8} (hc : c ≠ 0) : d.told c = [] := by simp [told, hc]
/-- what another byte leaves -/
theorem step_op_none {d : Sp} (hk : d.op = none) {c : UInt8} (hc : c ≠ 0) : (d.step c).op = none := by
  unfold op at hk ⊢
  simp only [step, if_neg hc, List.length_append, List.length_singleton]
  by_cases h : d.tail.length ≤ 2200
  · rw [if_pos h] at hk
    rw [hk]
    split <;> rfl
  · rw [if_neg (by omega)]
theorem step_op_full {d : Sp} {k : Nat} (hk : d.op = some k) {c : UInt8} (hc : c ≠ 0) (hf : d.held.length = 2200) : (d.step c).op = none := by
  rw [held_op hk] at hf
  unfold op
  simp only [step, if_neg hc, List.length_append, List.length_singleton]
  rw [if_neg (by omega)]
theorem step_op_some {d : Sp} {k : Nat} (hk : d.op = some k) {c : UInt8} (hc : c ≠ 0) (hf : d.held.length ≠ 2200) : (d.step c).op = some k ∧ (d.step c).held = d.held ++ [c] := by
  have hl := held_le d
  have h1 := held_op hk
  rw [h1] at hf hl
  have h2 : (d.step c).op = some k := by
    have hk' := hk
    unfold op at hk' ⊢
    rw [if_pos hl] at hk'
    simp only [step, if_neg hc, List.length_append, List.length_singleton]
    rw [if_pos (by omega)]
    exact hk'
  refine ⟨h2, ?_⟩
  rw [held_op h2, h1]
  simp [step, hc]
/-- every run has bytes -/
theorem told_pos {d : Sp} {c : UInt8} : ∀ r ∈ d.told c, r.2 ≠ [] ∧ r.2.length ≤ 2200 := by
  intro r hr
  unfold told at hr
  split at hr
  · cases hk : d.op with
    | none => rw [hk] at hr; simp at hr
    | some k =>
      rw [hk] at hr
      have := held_le d
      rw [held_op hk] at this
      by_cases ht : d.tail = []
      · simp [ht] at hr
      · simp [ht] at hr
        subst hr
        exact ⟨ht, this⟩
  · simp at hr
theorem told_len (d : Sp) (c : UInt8) : (d.told c).length ≤ 1 := by
  unfold told
  split
  · cases d.op with
    | none => simp
    | some k => simp only []; split <;> simp
  · simp
theorem tolds_len (d : Sp) (l : List UInt8) : (d.tolds l).length ≤ l.length := by
  have : ∀ l : List UInt8, ∀ d : Sp, (run d l).out.length ≤ d.out.length + l.length := by
    intro l
    induction l with
    | nil => intro d; simp [run_nil]
    | cons c l ih =>
      intro d
      have h1 := ih (d.step c)
      have h2 := told_len d c
      rw [run_cons]
      rw [step_out, List.length_append] at h1
      rw [List.length_cons]
      omega
  have h := this l d
  unfold tolds
  rw [List.length_drop]
  omega
theorem out_len (l : List UInt8) : (of l).out.length ≤ l.length := by
  have := tolds_len start l
  have h2 := tolds_out start l
  simp [start] at h2
  unfold of
  rw [show (start.run l).out = _ from h2]
  exact this
end Sp
end Go.Proofs.Ytpgilfglfcnihaa
