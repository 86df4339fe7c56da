/- begins(a, b). -/
import Derived.Test.YtoibeajcepbpjaaLDPlay
import Derived.Test.YtoibeajcepbpjaaWide
namespace Go.Proofs.Ytoibeajcepbpjaa
open Go.RowKit

theorem At.take {w : World} {p : Option Addr} {l : List UInt8} (h : At w p l) (n : Nat) : At w p (l.take n) := by
  rcases h with rfl | ⟨b, o, rfl, hlt, hc⟩
  · exact .inl (by simp)
  · exact .inr ⟨b, o, rfl, hlt, cells_take hc n⟩

set_option maxHeartbeats 400000 in
theorem begins_any (p q : Option Addr) (c d : Nat) (x y : List UInt8) (hx : x.length ≤ 140737488351232) (hd : y.length ≤ d) (w : World) (h1 : At w p x) (h2 : At w q y) :
    Calls Try.prog 27 #[.slice p x.length c, .slice q y.length d] w fun e w' => e = .returned (.bool (decide (x <+: y))) ∧ ∃ n, w' = w.drewN n := by
  by_cases hle : x.length ≤ y.length
  · have hl : (y.take x.length).length = x.length := by rw [List.length_take]; omega
    have hS := same_any p q c d x (y.take x.length) hx w h1 (h2.take x.length)
    rw [hl] at hS
    have he : (x == y.take x.length) = decide (x <+: y) := by
      by_cases hp : x <+: y
      · rw [decide_eq_true hp]
        exact beq_iff_eq.2 (List.prefix_iff_eq_take.1 hp)
      · rw [decide_eq_false hp, beq_eq_false_iff_ne]
        exact fun hc => hp (List.prefix_iff_eq_take.2 hc)
    rw [he] at hS
    have HS := Lib.hid hS
    have hb : decide (x.length ≤ y.length) = true := decide_eq_true hle
    have hxd : x.length ≤ d := by omega
    clear hS h1 h2 hl he
    generalize decide (x <+: y) = r at HS ⊢
    cases q with
    | none =>
      go_enter Try.func27, Try.ntmps27
      go_wp2_with fail
      refine HS.out.mono ?_
      rintro e w' ⟨rfl, n, hw⟩
      rw [hw]
      clear hw w' HS
      go_wp2
      go_ret
      exact ⟨rfl, n, rfl⟩
    | some q =>
      go_enter Try.func27, Try.ntmps27
      go_wp2_with fail
      refine HS.out.mono ?_
      rintro e w' ⟨rfl, n, hw⟩
      rw [hw]
      clear hw w' HS
      go_wp2
      go_ret
      exact ⟨rfl, n, rfl⟩
  · have hp : ¬ x <+: y := fun h => hle h.length_le
    have hb : decide (x.length ≤ y.length) = false := decide_eq_false hle
    rw [decide_eq_false hp]
    clear hp hle h1 h2
    go_enter Try.func27, Try.ntmps27
    go_wp2
    go_ret
    exact ⟨rfl, 0, rfl⟩
end Go.Proofs.Ytoibeajcepbpjaa
