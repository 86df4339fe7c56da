import Derived.Test.YtlgfdgdlaahpfaaGreatDoorTie
import Derived.Test.YtlgfdgdlaahpfaaGreatDoorCards
import Derived.Test.YtlgfdgdlaahpfaaGreatDoorRowB
import Derived.Test.YtlgfdgdlaahpfaaGreatDoorB03
import Derived.Deep.DeepHandedRow
import Derived.LaidMore
namespace Go.Proofs.YtlgfdgdlaahpfaaGreatDoor
open Go.ChangeShapes Go.WideShapes Go.ChangeAt Go.RowKit
def m7:List Int:=[0,498536548,997073096,651767980,1994146192,1802195444,1303535960,1342533948,3988292384,4027552580,3604390888,3412177804,2607071920,2262029012,2685067896,3183342108]
theorem iG:∀n,n<16->m7.getD n 0=(Crc.steps 4 n:Nat):=by decide
theorem mB{W : World}(h : laidMetH Tryz.prog [("gabion/crc.halves", Rows.laid_gabion_crc_halves)] W): Hv W := by
 have h1 : laidMet Tryz.prog [("gabion/crc.halves", Lib.tabData .u32 m7)] W := h
 have h2:=Lib.tabIs_of_head (rest:=[]) (g:=2) (t:=199) (e:=160) (n:=16) (by kernel_rfl) (by kernel_rfl) (by kernel_rfl) (by kernel_rfl) (by kernel_rfl) (by kernel_rfl) h1
 intro n hn
 rw[h2.cell (g:=2) (by kernel_rfl) n hn,iG n hn]
theorem qZ(os : Os)(args : AV): laidMet Tryz.prog [("gabion/crc.halves", Rows.laid_gabion_crc_halves)] ((World.doorLaid Tryz.prog 211 os).forCall (fun _ _=>0) ⟨#[], args, []⟩).memory :=
 laidMet_of_run' 8 (by kernel_rfl) (by kernel_rfl)
end Go.Proofs.YtlgfdgdlaahpfaaGreatDoor
