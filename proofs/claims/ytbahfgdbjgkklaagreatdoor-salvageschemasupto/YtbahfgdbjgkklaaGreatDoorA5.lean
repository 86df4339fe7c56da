import Derived.ProofKit
import Derived.OpenShut
import Derived.ShutString
import Derived.Test.YtbahfgdbjgkklaaGreatDoorTie
import Derived.Test.YtbahfgdbjgkklaaGreatDoorCards
import Derived.Test.YtbahfgdbjgkklaaGreatDoorB03
import Derived.Deep.DeepHandedRow
import Derived.LaidMore
namespace Go.Proofs.YtbahfgdbjgkklaaGreatDoor
variable{W:World}
section
open Go.ChangeShapes Go.WideShapes Go.ChangeAt Go.RowKit
theorem own:ownKnob Tryz.prog.godebug=none:=by kernel_rfl
theorem laidOut:laidOutB Tryz.prog=true:=by kernel_rfl
theorem yL:Tryz.prog.cellsOf 5=1:=by kernel_rfl
theorem yM:Tryz.prog.bytesOf 5=1:=by kernel_rfl
theorem xx(b o j:Nat):(⟨b,o,none⟩:Addr).add j=⟨b,o+j,none⟩:=by unfold Addr.add;split <;> simp_all
def yS{H:Type}(d:DataW H)(n:Nat):Prop:=n=0∨∃elems spare,d=.slice elems spare∧elems.length=n
theorem opened{H:Type}{enc:TypeId×Value->H}{z:OA}{len cap:Nat}{I:DataW H}{p:List MemPlace}(D:DataW.Trod enc Tryz.prog W 0 (fun _=>true) true 22 (.slice z len cap) I p):
  ∃l:L8,len=l.length∧At W z l∧len<=cap∧(z=none->cap=0)∧yS I l.length:=by
 obtain⟨fuel,X⟩:=D;rcases open_ints Tryz.underlying22 Tryz.underlying5 yL X with ⟨o,_⟩ | ⟨x,l,c,zs,o,_,Y,a1,aj,Q,L,ah⟩
 ·simp[Value.cells] at o;obtain⟨rfl,rfl,rfl⟩:=o;exact⟨[],rfl,.inl rfl,gQx,fun _=>rfl,.inl rfl⟩
 ·simp[Value.cells] at o;obtain⟨rfl,rfl,rfl⟩:=o;simp only[Prod.mk.injEq] at Q;obtain⟨rfl,rfl⟩:=Q;simp only[if_true] at aj;have O:((zs.take len).map fun y=>UInt8.ofNat y.toNat).length=len:=by simp;omega
  refine⟨(zs.take len).map fun y=>UInt8.ofNat y.toNat,O.symm,?_,Y,(fun h=>by cases h),.inr ⟨_,_,rfl,by simp[lits]⟩⟩;by_cases D:len=0
  ·subst D;exact .inl (by simp)
  ·obtain⟨b,off,ak⟩:=x;have K:=L 0 (by omega);have Z:ak=none:=(by simpa[Addr.add] using World.cell?_spot K);subst Z;refine .inr ⟨b,off,rfl,?_,fun j M=>?_⟩
   ·have:=World.block_lt_of_cell? _ _ K;simpa[block_add] using this
   ·have a0:j<len:=(by rw[O] at M;exact M);have E:j<zs.length:=(by omega);have J:=L j E;rw[xx] at J;rw[J];have ab:=ah (zs.getD j 0) (by rw[List.getD_eq_getElem?_getD,List.getElem?_eq_getElem E];simp);have S:IntKind.u8.min=0:=rfl;have U:IntKind.u8.max=255:=rfl;simp only[Lit.wf,S,U,Bool.and_eq_true,decide_eq_true_eq] at ab;have V:((zs.take len).map fun y=>UInt8.ofNat y.toNat)[j]=UInt8.ofNat (zs.getD j 0).toNat:=by
     simp[List.getD_eq_getElem?_getD,List.getElem?_eq_getElem E]
    rw[V,UInt8.toNat_ofNat'];congr 2;omega
theorem pW{H:Type}{y:List TypeId}{o:List (DataW H)}(h:(DataW.weightsEach Tryz.prog y o).all (·<=reachBytes)=true){j:Nat}{d:DataW H}{n:Nat}(E:y[j]?=some 22)(hd:o[j]?=some d)(D:yS d n):n<=140737488351232:=by
 rcases D with rfl | ⟨I,J,rfl,rfl⟩
 ·omega
 ·have z:=sized_slice h E hd Tryz.underlying22;rw[yM] at z;have e:reachBytes=140737488351232:=by decide
  omega
theorem vJ{H:Type}(d:DataW H):1<=Rows.uptoBulk d:=by
 cases d with
 |lit x=>cases x <;> simp[Rows.uptoBulk]
 |_=>simp[Rows.uptoBulk]
theorem oJ{H:Type}:∀l:List (DataW H),l.length<=Rows.uptoBulkAll l
 | []=>by simp
 |d::r=>by
  have o:=vJ d;have y:=oJ r;simp only[List.length_cons,Rows.uptoBulkAll];omega
theorem su{H:Type}{d:DataW H}{n:Nat}(y:yS d n):n<=Rows.uptoBulk d:=by
 rcases y with rfl | ⟨o,z,rfl,rfl⟩
 ·omega
 ·have:=oJ o;simp only[Rows.uptoBulk];omega
end
section
open Go.ChangeShapes Go.WideShapes Go.ChangeAt Go.RowKit
def qG:List Int:=[0,498536548,997073096,651767980,1994146192,1802195444,1303535960,1342533948,3988292384,4027552580,3604390888,3412177804,2607071920,2262029012,2685067896,3183342108]
theorem kM:∀n,n<16->qG.getD n 0=(Crc.steps 4 n:Nat):=by decide
theorem p7(h : laidMetH Tryz.prog [("gabion/crc.halves", Rows.laid_gabion_crc_halves)] W): Hv W := by
 have y : laidMet Tryz.prog [("gabion/crc.halves", Lib.tabData .u32 qG)] W := h;have z:=Lib.tabIs_of_head (rest:=[]) (g:=2) (t:=304) (e:=111) (n:=16) (by kernel_rfl) (by kernel_rfl) (by kernel_rfl) (by kernel_rfl) (by kernel_rfl) (by kernel_rfl) y;intro n o;rw[z.cell (g:=2) (by kernel_rfl) n o,kM n o]
theorem vu(os : Os)(args : AV): laidMet Tryz.prog [("gabion/crc.halves", Rows.laid_gabion_crc_halves)] ((World.doorLaid Tryz.prog 297 os).forCall (fun _ _=>0) ⟨#[], args, []⟩).memory :=
 laidMet_of_run' 8 (by kernel_rfl) (by kernel_rfl)
end
end Go.Proofs.YtbahfgdbjgkklaaGreatDoor
