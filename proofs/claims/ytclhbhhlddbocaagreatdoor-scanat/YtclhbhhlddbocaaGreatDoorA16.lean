import Derived.Test.YtclhbhhlddbocaaGreatDoorTie
import Derived.Test.YtclhbhhlddbocaaGreatDoorCards
import Derived.Test.YtclhbhhlddbocaaGreatDoorRowB
import Derived.Test.YtclhbhhlddbocaaGreatDoorB03
import Derived.Deep.DeepHandedRow
import Derived.LaidMore
import Derived.Lib.LaidTab
import Derived.Stop.Joined
import Derived.Test.YtclhbhhlddbocaaGreatDoorA15
namespace Go.Proofs.YtclhbhhlddbocaaGreatDoor
open Go.ChangeShapes Go.WideShapes Go.ChangeAt Go.RowKit
def words12:List Int:=[0,498536548,997073096,651767980,1994146192,1802195444,1303535960,1342533948,3988292384,4027552580,3604390888,3412177804,2607071920,2262029012,2685067896,3183342108]
theorem words12_steps:∀ n,n < 16 → words12.getD n 0 = (Crc.steps 4 n:Nat):=by decide
theorem laid_gives {W : World} (h : laidMetH Tryz.prog [("gabion/crc.halves", Rows.laid_gabion_crc_halves)] W) : Hv W := by
 have h1 : laidMet Tryz.prog [("gabion/crc.halves", Lib.tabData .u32 words12)] W := h
 have h2:=Lib.tabIs_of_head (rest:=[]) (g:=1) (t:=229) (e:=38) (n:=16) (by kernel_rfl) (by kernel_rfl) (by kernel_rfl) (by kernel_rfl) (by kernel_rfl) (by kernel_rfl) h1
 intro n hn
 rw [h2.cell (g:=1) (by kernel_rfl) n hn,words12_steps n hn]
theorem door_met (os : Os) (args : Array Value) : laidMet Tryz.prog [("gabion/crc.halves", Rows.laid_gabion_crc_halves)] ((World.doorLaid Tryz.prog 255 os).forCall (fun _ _ => 0) ⟨#[], args, []⟩).memory :=
 laidMet_of_run' 8 (by kernel_rfl) (by kernel_rfl)
end Go.Proofs.YtclhbhhlddbocaaGreatDoor
namespace Go.Proofs.YtclhbhhlddbocaaGreatDoor
open Go.ChangeShapes Go.WideShapes Go.ChangeAt Go.RowKit
theorem open_nums14 {H:Type} {enc:TypeId × Value → H} {W:World} {ts:List TypeId} {ds:List (DataW H)} {j:Nat} {a0:Option Addr} {len cap:Nat} {d:DataW H} {p:List MemPlace} (h:DataW.Trod enc Tryz.prog W 0 (fun _ => true) true 45 (.slice a0 len cap) d p)
  (_:(DataW.weightsEach Tryz.prog ts ds).all (· ≤ reachBytes) = true) (_:ts[j]? = some 45) (_:ds[j]? = some d) :
  ∃ l:List Int,len = l.length ∧ Nums14 W a0 l:=by
 obtain ⟨fuel,hf⟩:=h
 have hc1:Tryz.prog.cellsOf 3 = 1:=by kernel_rfl
 rcases open_ints Tryz.underlying45 Tryz.underlying3 hc1 hf with ⟨hcs,_⟩ | ⟨x,l,c,zs,hcs,_,hl,hm,hz,hx,hcell,hwz⟩
 ·simp [Value.cells] at hcs
  obtain ⟨rfl,rfl,rfl⟩:=hcs
  exact ⟨[],rfl,fun i hi => by cases hi⟩
 ·simp [Value.cells] at hcs
  obtain ⟨rfl,rfl,rfl⟩:=hcs
  simp only [if_true] at hz
  have hlen:(zs.take len).length = len:=by rw [List.length_take];omega
  refine ⟨zs.take len,hlen.symm,fun i hi => ?_⟩
  have hi2:i < len:=by rw [hlen] at hi;exact hi
  have hi3:i < zs.length:=by omega
  obtain ⟨b,off,spot⟩:=x
  have hc0:=hcell 0 (by omega)
  have hspot:spot = none:=by simpa [Addr.add] using World.cell?_spot hc0
  subst hspot
  refine ⟨b,off,rfl,?_,?_⟩
  ·have:=World.block_lt_of_cell? _ _ hc0
   simpa [block_add] using this
  ·have h1:=hcell i hi3
   rw [add_off] at h1
   rw [h1]
   simp [List.getD_eq_getElem?_getD,List.getElem?_eq_getElem hi3]
end Go.Proofs.YtclhbhhlddbocaaGreatDoor
