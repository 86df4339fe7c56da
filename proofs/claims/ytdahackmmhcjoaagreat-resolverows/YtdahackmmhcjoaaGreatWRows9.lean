/- The law's own rows(a, b), of stage 9. -/
import Derived.Test.YtdahackmmhcjoaaGreatM21
import Derived.Test.YtdahackmmhcjoaaGreatM11
namespace Go.Proofs.YtdahackmmhcjoaaGreat
open Go.RowKit

/-- the law's own rows(a, b) -/
theorem rows9 (xs ys : List V) (p q : Option Addr) (c d : Nat) (w : World) (hx : VLies w (cells5 0 0 0 ⟨#[]⟩ p xs.length c) (.mk 0 0 0 ⟨#[]⟩ xs)) (hy : VLies w (cells5 0 0 0 ⟨#[]⟩ q ys.length d) (.mk 0 0 0 ⟨#[]⟩ ys)) :
    Calls Tryz.prog 6 #[.agg #[.slice p xs.length c], .agg #[.slice q ys.length d]] w fun e w' => e = .returned (.bool (V.exact (.mk 0 0 0 ⟨#[]⟩ xs) (.mk 0 0 0 ⟨#[]⟩ ys))) ∧ Below w.heap.size w w' := by
  obtain ⟨W0, hW0⟩ : ∃ W0, W0 = (w.alloc (.cells #[.slice p xs.length c] 27)).alloc (.cells #[.slice q ys.length d] 27) := ⟨_, rfl⟩
  obtain ⟨l0, l1, lb, ls⟩ := al2 w (.cells #[.slice p xs.length c] 27) (.cells #[.slice q ys.length d] 27)
  rw [← hW0] at l0 l1 lb ls
  have HW0 := Lib.hid hW0
  have HB0 := Lib.hid lb
  have HX := Lib.hid (exact9 _ _ W0 _ _ (hx.on lb) (hy.on lb))
  unfold cells5 at HX
  generalize V.exact (.mk 0 0 0 ⟨#[]⟩ xs) (.mk 0 0 0 ⟨#[]⟩ ys) = b at *
  generalize xs.length = n at *
  generalize ys.length = m at *
  clear hW0 l0 l1 lb ls hx hy
  go_enter Tryz.func6, Tryz.ntmps6
  go_wp2_with fail
  rw [← HW0.out]
  refine HX.out.mono ?_
  rintro e w1 ⟨rfl, hb1⟩
  have HB1 := Lib.hid (HB0.out.trans (hb1.mono HB0.out.size))
  clear hb1
  go_wp2
  go_ret
  exact ⟨rfl, HB1.out⟩
end Go.Proofs.YtdahackmmhcjoaaGreat
