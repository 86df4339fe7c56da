/- What the rows' condition on the two variables gives the walks, and that the door's own run meets it. -/
import Derived.Test.YtmgcfkpmknogaaaGreatDoorTie
import Derived.Test.YtmgcfkpmknogaaaGreatDoorCards
import Derived.Test.YtmgcfkpmknogaaaGreatDoorRowB
import Derived.Test.YtmgcfkpmknogaaaGreatDoorB03
import Derived.Test.YtmgcfkpmknogaaaGreatDoorK15A
import Derived.Deep.DeepHandedRow
import Derived.LaidMore
import Derived.Lib.LaidTab
import Derived.LaidHandle
import Derived.Stop.Joined
namespace Go.Proofs.YtmgcfkpmknogaaaGreatDoor
open Go.ChangeShapes Go.WideShapes Go.ChangeAt Go.RowKit

def words12 : List Int := [0, 498536548, 997073096, 651767980, 1994146192, 1802195444, 1303535960, 1342533948, 3988292384, 4027552580, 3604390888, 3412177804, 2607071920, 2262029012, 2685067896, 3183342108]
theorem words12_steps : ∀ n, n < 16 → words12.getD n 0 = (Crc.steps 4 n : Nat) := by decide
theorem et15 : Tryz.prog.globalNamed "errors.errorType" = some 0 := by kernel_rfl
theorem rt15 : (Tryz.prog.cutTypes.find? (·.1 == "internal/reflectlite.rtype")).map (·.2) = some 235 := by kernel_rfl
theorem oneRow15 : ((List.range 331).filter fun t => Tryz.prog.rowNamed t [101, 114, 114, 111, 114]) = [84] := by kernel_rfl
theorem size15 : Tryz.prog.types.size = 331 := by kernel_rfl

theorem laid_gives {W : World} (h : laidMetH Tryz.prog [("gabion/crc.halves", Rows.laid_gabion_crc_halves), ("errors.errorType", Rows.laid_errors_errorType)] W) : Hv W ∧ He W := by
  have h' : laidMet Tryz.prog [("gabion/crc.halves", Lib.tabData .u32 words12)] W ∧ handlesMet Tryz.prog [("errors.errorType", Rows.laid_errors_errorType)] W := h
  refine ⟨?_, ?_⟩
  · have h2 := Lib.tabIs_of_head (rest := []) (g := 3) (t := 295) (e := 157) (n := 16) (by kernel_rfl) (by kernel_rfl) (by kernel_rfl) (by kernel_rfl) (by kernel_rfl) (by kernel_rfl) h'.1
    intro n hn
    rw [h2.cell (g := 3) (by kernel_rfl) n hn, words12_steps n hn]
  · obtain ⟨name, u, ty, e1, e2, e3, e4, e5⟩ := h'.2 _ (List.mem_singleton.2 rfl)
    have en : name = [101, 114, 114, 111, 114] := (Option.some.inj e1).symm
    subst en
    obtain rfl := Option.some.inj (rt15.symm.trans e2)
    have hm : ty ∈ (List.range 331).filter fun t => Tryz.prog.rowNamed t [101, 114, 114, 111, 114] := List.mem_filter.2 ⟨List.mem_range.2 (by rw [← size15]; exact e3), e4⟩
    rw [oneRow15] at hm
    obtain rfl := List.mem_singleton.1 hm
    have hh : typeHandle Tryz.prog 84 = .pointer (some ⟨4, 84, none⟩) := by kernel_rfl
    rw [hh] at e5
    have := World.var?_cell et15 e5 0
    unfold He
    simpa using this

theorem door_met (os : Os) (args : Array Value) : laidMetH Tryz.prog [("gabion/crc.halves", Rows.laid_gabion_crc_halves), ("errors.errorType", Rows.laid_errors_errorType)] ((World.doorLaid Tryz.prog 309 os).forCall (fun _ _ => 0) ⟨#[], args, []⟩).memory :=
  laidMetH_of_parts (laidMet_of_run' 8 (by kernel_rfl) (by kernel_rfl)) (by kernel_rfl)
end Go.Proofs.YtmgcfkpmknogaaaGreatDoor
