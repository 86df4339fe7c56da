import Derived.Test.YtceomhodhmcknaaGreatDoorTie
import Derived.Test.YtceomhodhmcknaaGreatDoorCards
import Derived.Test.YtceomhodhmcknaaGreatDoorRowB
import Derived.Test.YtceomhodhmcknaaGreatDoorB03
import Derived.Deep.DeepHandedRow
import Derived.LaidMore
namespace Go.Proofs.YtceomhodhmcknaaGreatDoor
open Go.ChangeShapes Go.WideShapes Go.ChangeAt Go.RowKit
def oe:List Int:=[0,498536548,997073096,651767980,1994146192,1802195444,1303535960,1342533948,3988292384,4027552580,3604390888,3412177804,2607071920,2262029012,2685067896,3183342108]
theorem iW:∀n,n<16->oe.getD n 0=(Crc.steps 4 n:Nat):=by decide
theorem nh{W : World}(h : laidMetH Tryz.prog [("gabion/crc.halves", Rows.laid_gabion_crc_halves)] W): Hv W := by
 have h1 : laidMet Tryz.prog [("gabion/crc.halves", Lib.tabData .u32 oe)] W := h
 have h2:=Lib.tabIs_of_head (rest:=[]) (g:=1) (t:=247) (e:=160) (n:=16) (by kernel_rfl) (by kernel_rfl) (by kernel_rfl) (by kernel_rfl) (by kernel_rfl) (by kernel_rfl) h1
 intro n hn
 rw[h2.cell (g:=1) (by kernel_rfl) n hn,iW n hn]
theorem sd(os : Os)(args : AV): laidMet Tryz.prog [("gabion/crc.halves", Rows.laid_gabion_crc_halves)] ((World.doorLaid Tryz.prog 237 os).forCall (fun _ _=>0) ⟨#[], args, []⟩).memory :=
 laidMet_of_run' 8 (by kernel_rfl) (by kernel_rfl)
end Go.Proofs.YtceomhodhmcknaaGreatDoor
