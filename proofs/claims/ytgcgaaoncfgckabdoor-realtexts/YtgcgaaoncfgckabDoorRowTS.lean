/- What the rows' condition gives on the library's two errors; the bound on a text that came in. -/
import Derived.Test.YtgcgaaoncfgckabDoorRowT
import Derived.Test.YtgcgaaoncfgckabDoorWErr
import Derived.SizedLaws
namespace Go.Proofs.YtgcgaaoncfgckabDoor
open Go.ChangeShapes Go.WideShapes Go.ChangeAt Go.RowKit

theorem star : "*" ++ "errors.errorString" = "*errors.errorString" := by decide
theorem rowErr (u : TypeId) (h : Tryd.prog.typeName? 3 u = some "*errors.errorString") : u = 100 :=
  typeName_ptr_named (nm := "errors.errorString") (by rw [star]; kernel_rfl) (by kernel_rfl) (by decide) u (by rw [star]; exact h)
theorem tSyn : (Tryd.prog.globals[2]?).map (·.type) = some 47 := by kernel_rfl
theorem tRan : (Tryd.prog.globals[3]?).map (·.type) = some 47 := by kernel_rfl
theorem cellsE : Tryd.prog.cellsOf 102 = 1 := by kernel_rfl
theorem cellsS : Tryd.prog.cellsOf 9 = 1 := by kernel_rfl

theorem sen_of_laid {W : World} (h : laidMetH Tryd.prog Rows.realTextsRow.laid W) : Sen W := by
  rw [MakeChecks.laidMetH_plain _ _ _ (by kernel_rfl)] at h
  have h3 := h.tail.tail.tail
  obtain ⟨a0, s0, hv0, -, -, -⟩ := laid_sentinel h3 gRan tRan Tryd.underlying47 rowErr Tryd.underlying100 Tryd.underlying102 rfl rfl Tryd.underlying9 cellsE cellsS
  obtain ⟨a1, s1, hv1, -, -, -⟩ := laid_sentinel h3.tail gSyn tSyn Tryd.underlying47 rowErr Tryd.underlying100 Tryd.underlying102 rfl rfl Tryd.underlying9 cellsE cellsS
  exact ⟨⟨_, _, hv1⟩, ⟨_, _, hv0⟩⟩
end Go.Proofs.YtgcgaaoncfgckabDoor
