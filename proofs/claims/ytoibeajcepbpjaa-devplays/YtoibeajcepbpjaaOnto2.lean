/- append of no bytes onto a slice of the call's own. -/
import Derived.Test.YtoibeajcepbpjaaFree
namespace Go.Proofs.Ytoibeajcepbpjaa
open Go.RowKit

theorem onto_run_nil (B g cap : Nat) (xs : List UInt8) (p : Option Addr) (c : Nat) (w : World) (hown : Mine w B g cap xs) (h : At w p []) :
    ∃ (g' cap' : Nat) (W : World), (Builtin.append_ #[32, 32] 32 #[.slice (some ⟨g, 0, none⟩) xs.length cap, .slice p ([] : List UInt8).length c]).run Try.prog w = .ok (.slice (some ⟨g', 0, none⟩) (xs ++ []).length cap') W ∧ Mine W B g' cap' (xs ++ []) ∧ Below B w W := by
  obtain ⟨i, hi, hz, hsz, hby⟩ := info_parts info8
  have hcap : xs.length ≤ cap := by
    rcases hown.2 with ⟨h1, _⟩ | ⟨_, _, _, h1, _, _, h2, _⟩
    · cases h1
    · cases h1; exact h2
  have hr := run_append_room_src (P := Try.prog) w 32 32 32 5 i Try.underlying32 hi g 0 xs.length cap (.slice p 0 c) 0 [] (by rw [hsz]; exact src_bytes c h) (by omega) (fun j hj => by simp at hj) (fun j hj => by simp at hj)
  refine ⟨g, cap, w, ?_, by rw [List.append_nil]; exact hown, Below.refl _ _⟩
  rw [List.append_nil]
  exact hr

end Go.Proofs.Ytoibeajcepbpjaa
