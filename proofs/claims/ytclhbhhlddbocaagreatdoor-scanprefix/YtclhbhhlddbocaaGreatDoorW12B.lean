/- The law's own live(). -/
import Derived.Test.YtclhbhhlddbocaaGreatDoorW12A
import Derived.Test.YtclhbhhlddbocaaGreatDoorK12G
import Derived.Test.YtclhbhhlddbocaaGreatDoorK12Q
import Derived.Test.YtclhbhhlddbocaaGreatDoorA10
namespace Go.Proofs.YtclhbhhlddbocaaGreatDoor
open Go.RowKit

attribute [local go_sem] run_store_float

theorem smallA_err : Sch.colErr [] ⟨⟨#[97]⟩, ⟨2, []⟩, false, V0⟩ = 0 := Sch.col_make (by kernel_rfl) rfl (Sch.ty_leaf (by omega) (by omega) (by omega)) (fun _ => Sch.v0_fix) (fun h => by cases h)
theorem small_bytes : Sch.bytes smallF.cols = [1, 1, 97, 2, 0] := by
  unfold Sch.bytes smallF Sch.cB
  simp only [List.map_cons, List.map_nil, Sch.tyB_mk]
  kernel_rfl
theorem small_sch : Sch.err smallF.cols = 0 := Sch.err_make (by decide) (by decide) (by
  show Sch.colsErr [] [⟨⟨#[97]⟩, ⟨2, []⟩, false, V0⟩] = 0
  rw [Sch.colsErr, if_pos smallA_err, Sch.colsErr]) (by rw [small_bytes]; decide)
theorem small_err0 : Fr.err0 smallF = 0 := by
  unfold Fr.err0
  rw [if_pos (show smallF.kind = 1 from rfl), if_neg (by decide)]
  exact small_sch
theorem small_head : Fr.head smallF = [1, 0, 1, 1, 97, 2, 0] := by
  unfold Fr.head Fr.fields
  rw [if_pos (show smallF.kind = 1 from rfl), small_bytes]
  kernel_rfl
theorem small_len : (Fr.run smallF).length = 12 := by
  unfold Fr.run
  rw [small_head]
  kernel_rfl
theorem small_err : Fr.err smallF = 0 := by
  unfold Fr.err
  rw [small_err0, if_neg (by decide), if_neg (by rw [small_len]; decide)]
theorem small_dec : Fr.dec (Fr.run smallF) = .ok (Fr.norm smallF) := Fr.dec_run small_err small_wf.2.2.1
end Go.Proofs.YtclhbhhlddbocaaGreatDoor
