/- The rows of stage 3: no variable is listed. -/
import Derived.Test.YthbkmliggdpmoaaRowB
import Derived.Test.YthbkmliggdpmoaaLebK
import Derived.Deep.DeepHandedRow
import Derived.LaidMore
import Derived.Stop.Joined
import Derived.Lib.SmallJoins
namespace Go.Proofs.Ythbkmliggdpmoaa
open Go.ChangeShapes Go.WideShapes Go.ChangeAt Go.RowKit

theorem laid_gives {W : World} (_ : laidMetH Try.prog [] W) : LebI W := trivial
theorem door_met (os : Os) (args : Array Value) : laidMet Try.prog [] ((World.holding Try.prog os ⟨#[], #[], []⟩).forCall (fun _ _ => 0) ⟨#[], args, []⟩).memory :=
  laidMet_of_run' 8 (by kernel_rfl) (by kernel_rfl)

theorem u64_of {a : Int} (h : (Lit.int .u64 a).wf = true) : ∃ n : Nat, a = (n : Int) ∧ n < 18446744073709551616 := by
  have e1 : IntKind.u64.min = 0 := rfl
  have e2 : IntKind.u64.max = 18446744073709551615 := rfl
  simp only [Lit.wf, e1, e2, Bool.and_eq_true, decide_eq_true_eq] at h
  exact ⟨a.toNat, by omega, by omega⟩
theorem i64_bd {a : Int} (h : (Lit.int .i64 a).wf = true) : -9223372036854775808 ≤ a ∧ a ≤ 9223372036854775807 := by
  have e1 : IntKind.i64.min = -9223372036854775808 := rfl
  have e2 : IntKind.i64.max = 9223372036854775807 := rfl
  simp only [Lit.wf, e1, e2, Bool.and_eq_true, decide_eq_true_eq] at h
  exact h

section
variable {H : Type} {enc : TypeId × Value → H} {W : World}
theorem opened_cs {fuel : Nat} {v : Value} {y : DataW H × List MemPlace} (h : DataW.trod enc Try.prog W 0 (fun _ => true) true fuel 26 [v] = some y) :
    ∃ (p : Option Addr) (c : Nat) (l : List UInt8), v = .slice p l.length c ∧ At W p l ∧ l.length ≤ c ∧ Long y.1 l.length := by
  have hv : ∃ a len cap, v = .slice a len cap := by
    rcases open_ints Try.underlying26 Try.underlying5 cells8 h with ⟨hcs, _⟩ | ⟨x, l, c, zs, hcs, _⟩
    · simp at hcs; exact ⟨_, _, _, hcs⟩
    · simp at hcs; exact ⟨_, _, _, hcs⟩
  obtain ⟨a, len, cap, rfl⟩ := hv
  obtain ⟨l, rfl, h1, h2, _, h4⟩ := opened (enc := enc) (W := W) (a0 := a) (len := len) (cap := cap) (d0 := y.1) (p := y.2) ⟨fuel, h⟩
  exact ⟨a, cap, l, rfl, h1, h2, h4⟩

theorem open_back {base : Nat} {v : Value} {d : DataW H} {p : List MemPlace} (hv : Value.okWide Try.prog W .any base 36 v) (h : DataW.Trod enc Try.prog W 0 (fun _ => true) true 36 v d p) :
    ∃ (n : Nat) (p1 : Option Addr) (c1 : Nat) (x : List UInt8) (p2 : Option Addr) (c2 : Nat) (y : List UInt8) (a : Int), v = .agg #[.int .u64 n, .slice p1 x.length c1, .slice p2 y.length c2, .int .i64 a] ∧
      n < 18446744073709551616 ∧ At W p1 x ∧ At W p2 y ∧ y.length ≤ c2 ∧ -9223372036854775808 ≤ a ∧ a ≤ 9223372036854775807 ∧ x.length + y.length ≤ Rows.uptoBulk d := by
  obtain ⟨cs, rfl, hsz⟩ := okWide_struct Try.underlying36 hv
  have hc4 : Try.prog.cellsOf 36 = 4 := by kernel_rfl
  rw [hc4] at hsz
  obtain ⟨v0, v1, v2, v3, rfl⟩ := Joins.array4 hsz
  obtain ⟨fuel, hf⟩ := h
  obtain ⟨y0, y1, y2, y3, m, hx, _, h0, h1, h2, h3⟩ := Joins.trod_struct4 Try.underlying36 hf
  simp only [Prod.mk.injEq] at hx
  obtain ⟨rfl, rfl⟩ := hx
  have c0 : Try.prog.cellsOf 22 = 1 := by kernel_rfl
  have c1 : Try.prog.cellsOf 26 = 1 := by kernel_rfl
  have c3 : Try.prog.cellsOf 3 = 1 := by kernel_rfl
  simp only [c0, c1, c3, Value.cells, List.drop_zero, List.drop_succ_cons, List.take_succ_cons, List.take_zero] at h0 h1 h2 h3
  obtain ⟨n0, hn0, rfl, hw0⟩ := DataW.trod_int Try.underlying22 h0
  obtain ⟨n3, hn3, rfl, hw3⟩ := DataW.trod_int Try.underlying3 h3
  simp only [List.cons.injEq, and_true] at hn0 hn3
  subst hn0 hn3
  obtain ⟨n, rfl, hn⟩ := u64_of hw0
  obtain ⟨a1, a2⟩ := i64_bd hw3
  obtain ⟨p1, e1, x, rfl, hx1, _, hx3⟩ := opened_cs h1
  obtain ⟨p2, e2, y, rfl, hy1, hy2, hy3⟩ := opened_cs h2
  refine ⟨n, p1, e1, x, p2, e2, y, n3, rfl, hn, hx1, hy1, hy2, a1, a2, ?_⟩
  have g1 := long_bulk hx3
  have g2 := long_bulk hy3
  simp only [Rows.uptoBulk, Rows.uptoBulkAll]
  omega
end
end Go.Proofs.Ythbkmliggdpmoaa
