/- The landed text: what the four parses answer, as it lies. -/
import Derived.Test.YtlgmfeokamegiaaGreatDoorTx10
namespace Go.Proofs.YtlgmfeokamegiaaGreatDoor
open Go.RowKit

theorem tl_zero21 (w : World) : TLies w #[.int .i64 0, .slice none 0 0] (.mk 0 []) := .mk (xs := []) (fun _ => #[]) (by simp) (by simp) (fun hc => absurd rfl hc) (fun j hj => by simp at hj)
theorem vl_zero21 (w : World) : VLies w #[.int .i64 0, .int .i64 0, .float .f64 0, .string ⟨#[]⟩, .slice none 0 0] (.mk 0 0 0 ⟨#[]⟩ []) := .mk (xs := []) (fun _ => #[]) (by simp) (by simp) (fun hc => absurd rfl hc) (fun j hj => by simp at hj)

/-- the error and the place that a parse tells -/
def errOf {α : Type} : Except (Nat × Nat) α → Nat
  | .error (k, _) => k
  | .ok _ => 0
def plOf {α : Type} : Except (Nat × Nat) α → Nat
  | .error (_, a) => a
  | .ok _ => 0
/-- what it tells, or else -/
def thOf {α : Type} (z : α) : Except (Nat × Nat) α → α
  | .error _ => z
  | .ok x => x

theorem ParseTypeL (S : ByteArray) (hS : S.size ≤ 140737488351232) (w : World) (hv : Hv w) : Calls Tryz.prog 13 #[.string S] w fun e w' => ∃ k p n c, e = .returned (.tuple #[.agg #[.int .i64 k, .slice p n c], .int .i64 (errOf (tellR S (Tx.pty 4 S.data.toList) (Ty.check 1)) : Nat), .int .i64 (plOf (tellR S (Tx.pty 4 S.data.toList) (Ty.check 1)) : Nat)]) ∧ TLies w' #[.int .i64 k, .slice p n c] (thOf (.mk 0 []) (tellR S (Tx.pty 4 S.data.toList) (Ty.check 1))) ∧ Below w.heap.size w w' := by
  refine (ParseTypeX S hS w hv).mono ?_
  intro e w' h
  generalize tellR S (Tx.pty 4 S.data.toList) (Ty.check 1) = R at h ⊢
  match R, h with
  | .error (k, a), ⟨he, hb⟩ => exact ⟨0, none, 0, 0, he, tl_zero21 w', hb⟩
  | .ok x, ⟨u, he, ⟨u', hu, ho⟩, hb⟩ =>
    injection hu with hu
    subst hu
    obtain ⟨k, xs⟩ := x
    have hl := ho.lies
    obtain ⟨p, c, rfl, -⟩ := hl.open
    exact ⟨k, p, xs.length, c, he, hl, hb⟩
theorem ParseValueL {rf : Tx.Bs → Option Nat} (hRf : RfOk rf) (S : ByteArray) (hS : S.size ≤ 1099511627776) (w : World) (hv : Hv w) : Calls Tryz.prog 12 #[.string S] w fun e w' => ∃ k i b t p n c, e = .returned (.tuple #[.agg #[.int .i64 k, .int .i64 i, .float .f64 b, .string t, .slice p n c], .int .i64 (errOf (tellR S (Tx.pval rf 4 S.data.toList) (chk 1)) : Nat), .int .i64 (plOf (tellR S (Tx.pval rf 4 S.data.toList) (chk 1)) : Nat)]) ∧ VLies w' #[.int .i64 k, .int .i64 i, .float .f64 b, .string t, .slice p n c] (thOf (.mk 0 0 0 ⟨#[]⟩ []) (tellR S (Tx.pval rf 4 S.data.toList) (chk 1))) ∧ Below w.heap.size w w' := by
  refine (ParseValueX hRf S hS w hv).mono ?_
  intro e w' h
  generalize tellR S (Tx.pval rf 4 S.data.toList) (chk 1) = R at h ⊢
  match R, h with
  | .error (k, a), ⟨he, hb⟩ => exact ⟨0, 0, 0, ⟨#[]⟩, none, 0, 0, he, vl_zero21 w', hb⟩
  | .ok x, ⟨u, he, ⟨u', hu, ho⟩, hb⟩ =>
    injection hu with hu
    subst hu
    obtain ⟨k, i, b, t, xs⟩ := x
    have hl := ho.lies
    obtain ⟨p, c, rfl, -⟩ := hl.open
    exact ⟨k, i, b, t, p, xs.length, c, he, hl, hb⟩
theorem ParseSchemaL {rf : Tx.Bs → Option Nat} (hRf : RfOk rf) (S : ByteArray) (hS : S.size ≤ 1099511627776) (w : World) (hv : Hv w) : Calls Tryz.prog 10 #[.string S] w fun e w' => ∃ q c, e = .returned (.tuple #[.agg #[.slice q (thOf [] (tellR S (Tx.pseq (Tx.pcol rf) (S.data.toList.length + 1) S.data.toList) Sch.err)).length c], .int .i64 (errOf (tellR S (Tx.pseq (Tx.pcol rf) (S.data.toList.length + 1) S.data.toList) Sch.err) : Nat), .int .i64 (plOf (tellR S (Tx.pseq (Tx.pcol rf) (S.data.toList.length + 1) S.data.toList) Sch.err) : Nat)]) ∧ Cols w' q (thOf [] (tellR S (Tx.pseq (Tx.pcol rf) (S.data.toList.length + 1) S.data.toList) Sch.err)) ∧ (thOf [] (tellR S (Tx.pseq (Tx.pcol rf) (S.data.toList.length + 1) S.data.toList) Sch.err)).length * 120 ≤ 140737488351232 ∧ Below w.heap.size w w' := by
  refine (ParseSchemaX hRf S hS w hv).mono ?_
  intro e w' h
  generalize tellR S (Tx.pseq (Tx.pcol rf) (S.data.toList.length + 1) S.data.toList) Sch.err = R at h ⊢
  match R, h with
  | .error (k, a), ⟨he, hb⟩ => exact ⟨none, 0, he, fun j hj => by simp [thOf] at hj, by simp [thOf], hb⟩
  | .ok x, ⟨u, he, ⟨q, c, hu, ⟨us, Fs, hk⟩, hl⟩, hb⟩ =>
    injection hu with hu
    subst hu
    obtain ⟨p2, c2, hv2, -, hc⟩ := hk.cols (by omega)
    injection hv2 with h1 h2 h3
    rw [← h1] at hc
    exact ⟨q, c, he, hc, by show x.length * 120 ≤ _; omega, hb⟩
theorem ParseRowL {rf : Tx.Bs → Option Nat} (hRf : RfOk rf) (S : ByteArray) (hS : S.size ≤ 1099511627776) (w : World) (hv : Hv w) : Calls Tryz.prog 14 #[.string S] w fun e w' => ∃ q c, e = .returned (.tuple #[.agg #[.slice q (thOf [] (tellR S (prow rf S.data.toList) rowErr)).length c], .int .i64 (errOf (tellR S (prow rf S.data.toList) rowErr) : Nat), .int .i64 (plOf (tellR S (prow rf S.data.toList) rowErr) : Nat)]) ∧ Items w' q (thOf [] (tellR S (prow rf S.data.toList) rowErr)) ∧ (thOf [] (tellR S (prow rf S.data.toList) rowErr)).length * 64 ≤ 140737488351232 ∧ Below w.heap.size w w' := by
  refine (ParseRowX hRf S hS w hv).mono ?_
  intro e w' h
  generalize tellR S (prow rf S.data.toList) rowErr = R at h ⊢
  match R, h with
  | .error (k, a), ⟨he, hb⟩ => exact ⟨none, 0, he, fun j hj => by simp [thOf] at hj, by simp [thOf], hb⟩
  | .ok x, ⟨u, he, ⟨q, c, hu, ⟨us, Fs, hk⟩, hl⟩, hb⟩ =>
    injection hu with hu
    subst hu
    obtain ⟨p2, c2, hv2, hown⟩ := hk.done (by omega) 7 0 0 ⟨#[]⟩
    injection hv2 with h1 h2 h3
    obtain ⟨p3, c3, hu3, -, -, hi⟩ := hown.lies.open
    unfold cells5 at hu3
    simp at hu3
    rw [← hu3.1, ← h1] at hi
    exact ⟨q, c, he, hi, by show x.length * 64 ≤ _; omega, hb⟩
end Go.Proofs.YtlgmfeokamegiaaGreatDoor
