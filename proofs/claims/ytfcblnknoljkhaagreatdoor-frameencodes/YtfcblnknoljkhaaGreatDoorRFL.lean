import Derived.Test.YtfcblnknoljkhaaGreatDoorTie
import Derived.Test.YtfcblnknoljkhaaGreatDoorCards
import Derived.Test.YtfcblnknoljkhaaGreatDoorRowB
import Derived.Test.YtfcblnknoljkhaaGreatDoorRF8
import Derived.Test.YtfcblnknoljkhaaGreatDoorB03
import Derived.Deep.DeepHandedRow
import Derived.LaidMore
import Derived.Lib.LaidTab
import Derived.Stop.Joined
namespace Go.Proofs.YtfcblnknoljkhaaGreatDoor
open Go.ChangeShapes Go.WideShapes Go.ChangeAt Go.RowKit
def words12:List Int:=[0,498536548,997073096,651767980,1994146192,1802195444,1303535960,1342533948,3988292384,4027552580,3604390888,3412177804,2607071920,2262029012,2685067896,3183342108]
theorem words12_steps:∀ n,n < 16 → words12.getD n 0 = (Crc.steps 4 n:Nat):=by decide
theorem laid_gives {W : World} (h : laidMetH Tryz.prog [("gabion/crc.halves", Rows.laid_gabion_crc_halves)] W) : Hv W := by
 have h1 : laidMet Tryz.prog [("gabion/crc.halves", Lib.tabData .u32 words12)] W := h
 have h2:=Lib.tabIs_of_head (rest:=[]) (g:=0) (t:=119) (e:=80) (n:=16) (by kernel_rfl) (by kernel_rfl) (by kernel_rfl) (by kernel_rfl) (by kernel_rfl) (by kernel_rfl) h1
 intro n hn
 rw [h2.cell (g:=0) (by kernel_rfl) n hn,words12_steps n hn]
theorem door_met (os : Os) (args : Array Value) : laidMet Tryz.prog [("gabion/crc.halves", Rows.laid_gabion_crc_halves)] ((World.doorLaid Tryz.prog 154 os).forCall (fun _ _ => 0) ⟨#[], args, []⟩).memory :=
 laidMet_of_run' 8 (by kernel_rfl) (by kernel_rfl)
end Go.Proofs.YtfcblnknoljkhaaGreatDoor
