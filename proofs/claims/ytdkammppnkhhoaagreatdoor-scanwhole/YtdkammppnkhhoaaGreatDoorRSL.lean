import Derived.Test.YtdkammppnkhhoaaGreatDoorTie
import Derived.Test.YtdkammppnkhhoaaGreatDoorCards
import Derived.Test.YtdkammppnkhhoaaGreatDoorRowB
import Derived.Test.YtdkammppnkhhoaaGreatDoorB03
import Derived.Deep.DeepHandedRow
import Derived.LaidMore
namespace Go.Proofs.YtdkammppnkhhoaaGreatDoor
open Go.ChangeShapes Go.WideShapes Go.ChangeAt Go.RowKit
def oI:List Int:=[0,498536548,997073096,651767980,1994146192,1802195444,1303535960,1342533948,3988292384,4027552580,3604390888,3412177804,2607071920,2262029012,2685067896,3183342108]
theorem jt:∀n,n<16->oI.getD n 0=(Crc.steps 4 n:Nat):=by decide
theorem nX{W : World}(h : laidMetH Tryz.prog [("gabion/crc.halves", Rows.laid_gabion_crc_halves)] W): Hv W := by
 have y : laidMet Tryz.prog [("gabion/crc.halves", Lib.tabData .u32 oI)] W := h;have z:=Lib.tabIs_of_head (rest:=[]) (g:=2) (t:=213) (e:=134) (n:=16) (by kernel_rfl) (by kernel_rfl) (by kernel_rfl) (by kernel_rfl) (by kernel_rfl) (by kernel_rfl) y;intro n o;rw[z.cell (g:=2) (by kernel_rfl) n o,jt n o]
theorem tb(o : Os)(args : AV): laidMet Tryz.prog [("gabion/crc.halves", Rows.laid_gabion_crc_halves)] ((World.doorLaid Tryz.prog 230 o).forCall (fun _ _=>0) ⟨#[], args, []⟩).memory :=
 laidMet_of_run' 8 (by kernel_rfl) (by kernel_rfl)
end Go.Proofs.YtdkammppnkhhoaaGreatDoor
