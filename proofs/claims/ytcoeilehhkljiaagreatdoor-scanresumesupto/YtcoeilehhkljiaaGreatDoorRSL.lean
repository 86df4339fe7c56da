import Derived.Test.YtcoeilehhkljiaaGreatDoorTie
import Derived.Test.YtcoeilehhkljiaaGreatDoorCards
import Derived.Test.YtcoeilehhkljiaaGreatDoorRowB
import Derived.Test.YtcoeilehhkljiaaGreatDoorB03
import Derived.Deep.DeepHandedRow
import Derived.LaidMore
namespace Go.Proofs.YtcoeilehhkljiaaGreatDoor
open Go.ChangeShapes Go.WideShapes Go.ChangeAt Go.RowKit
def nw:List Int:=[0,498536548,997073096,651767980,1994146192,1802195444,1303535960,1342533948,3988292384,4027552580,3604390888,3412177804,2607071920,2262029012,2685067896,3183342108]
theorem iK:∀n,n<16->nw.getD n 0=(Crc.steps 4 n:Nat):=by decide
theorem mO{W : World}(h : laidMetH Tryz.prog [("gabion/crc.halves", Rows.laid_gabion_crc_halves)] W): Hv W := by
 have h1 : laidMet Tryz.prog [("gabion/crc.halves", Lib.tabData .u32 nw)] W := h
 have h2:=Lib.tabIs_of_head (rest:=[]) (g:=2) (t:=226) (e:=155) (n:=16) (by kernel_rfl) (by kernel_rfl) (by kernel_rfl) (by kernel_rfl) (by kernel_rfl) (by kernel_rfl) h1
 intro n hn
 rw[h2.cell (g:=2) (by kernel_rfl) n hn,iK n hn]
theorem rv(os : Os)(args : AV): laidMet Tryz.prog [("gabion/crc.halves", Rows.laid_gabion_crc_halves)] ((World.doorLaid Tryz.prog 242 os).forCall (fun _ _=>0) ⟨#[], args, []⟩).memory :=
 laidMet_of_run' 8 (by kernel_rfl) (by kernel_rfl)
end Go.Proofs.YtcoeilehhkljiaaGreatDoor
