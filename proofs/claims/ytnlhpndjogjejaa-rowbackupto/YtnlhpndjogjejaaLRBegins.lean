/- RowBegins over what the laws ask of package row. -/
import Derived.Test.YtnlhpndjogjejaaM10
import Derived.Test.YtnlhpndjogjejaaM04
namespace Go.Proofs.Ytnlhpndjogjejaa
open Go.RowKit

theorem sameL_iff : ∀ (xs ys : List V), V.sameL xs ys = true ↔ xs.map V.fix = ys.map V.fix
  | [], [] => by simp [V.sameL_nil]
  | [], _ :: _ => by simp [V.sameL_nc]
  | _ :: _, [] => by simp [V.sameL_cn]
  | x :: xs, y :: ys => by
    have ih := sameL_iff xs ys
    have h1 := same_iff x y
    simp only [List.map_cons, List.cons.injEq]
    rw [← h1, ← ih, V.sameL_cons, Bool.and_eq_true]

/-- c[:n] -/
def headP (p : Option Addr) (c : Nat) : Option Addr := if c = 0 then p else p.map (·.add 0)
theorem run_head (p : Option Addr) (len c n : Nat) (h : n ≤ c) (w : World) : (Instr.slice 28 (.slice p len c) none (some (.int .i64 n)) none).run Try.prog w = .ok (.slice (headP p c) n c) w := by
  have hs : (sizeOf (Try.prog.elem 28)).run Try.prog w = .ok 1 w := by kernel_rfl
  rw [run_slice_h w 28 p len c (by kernel_rfl) .i64 (n : Int) (by omega) (by omega), hs]
  simp [sliced, headP, Result.andThen]
theorem at_head {w : World} {p : Option Addr} {l : List UInt8} (h : At w p l) (n c : Nat) : At w (headP p c) (l.take n) := by
  rcases h with rfl | ⟨b, o, rfl, hb, hcs⟩
  · exact .inl (by simp)
  · refine .inr ⟨b, o, ?_, hb, cells_take hcs n⟩
    unfold headP
    split
    · rfl
    · rw [Option.map_some, Lib.add_plain]; rfl

end Go.Proofs.Ytnlhpndjogjejaa
