import Derived.Test.YtdkammppnkhhoaaGreatDoorB01
import Derived.ProofKit
import Derived.OpenShut
import Derived.ShutString
namespace Go.Proofs.YtdkammppnkhhoaaGreatDoor
open Go.ChangeShapes Go.WideShapes Go.ChangeAt Go.RowKit
theorem own:ownKnob Tryz.prog.godebug=none:=by kernel_rfl
theorem laidOut:laidOutB Tryz.prog=true:=by kernel_rfl
theorem wO:Tryz.prog.cellsOf 5=1:=by kernel_rfl
theorem wP:Tryz.prog.bytesOf 5=1:=by kernel_rfl
theorem uS(b o j:Nat):(⟨b,o,none⟩:Addr).add j=⟨b,o+j,none⟩:=by unfold Addr.add;split <;> simp_all
def xL{H:Type}(d:DataW H)(n:Nat):Prop:=n=0∨∃elems spare,d=.slice elems spare∧elems.length=n
theorem opened{H:Type}{enc:TypeId×Value->H}{W:World}{z:OA}{len cap:Nat}{E:DataW H}{p:List MemPlace}(A:DataW.Trod enc Tryz.prog W 0 (fun _=>true) true 22 (.slice z len cap) E p):
  ∃l:L8,len=l.length∧At W z l∧len<=cap∧(z=none->cap=0)∧xL E l.length:=by
 obtain⟨fuel,X⟩:=A;rcases open_ints Tryz.underlying22 Tryz.underlying5 wO X with ⟨o,_⟩ | ⟨x,l,c,zs,o,_,Y,a3,ak,O,K,aj⟩
 ·simp[Value.cells] at o;obtain⟨rfl,rfl,rfl⟩:=o;exact⟨[],rfl,.inl rfl,xZ,fun _=>rfl,.inl rfl⟩
 ·simp[Value.cells] at o;obtain⟨rfl,rfl,rfl⟩:=o;simp only[Prod.mk.injEq] at O;obtain⟨rfl,rfl⟩:=O;simp only[if_true] at ak;have M:((zs.take len).map fun y=>UInt8.ofNat y.toNat).length=len:=by simp;omega
  refine⟨(zs.take len).map fun y=>UInt8.ofNat y.toNat,M.symm,?_,Y,(fun h=>by cases h),.inr ⟨_,_,rfl,by simp[lits]⟩⟩;by_cases A:len=0
  ·subst A;exact .inl (by simp)
  ·obtain⟨b,a0,a1⟩:=x;have J:=K 0 (by omega);have Z:a1=none:=(by simpa[Addr.add] using World.cell?_spot J);subst Z;refine .inr ⟨b,a0,rfl,?_,fun j L=>?_⟩
   ·have:=World.block_lt_of_cell? _ _ J;simpa[block_add] using this
   ·have a2:j<len:=(by rw[M] at L;exact L);have D:j<zs.length:=(by omega);have I:=K j D;rw[uS] at I;rw[I];have ah:=aj (zs.getD j 0) (by rw[List.getD_eq_getElem?_getD,List.getElem?_eq_getElem D];simp);have R:IntKind.u8.min=0:=rfl;have U:IntKind.u8.max=255:=rfl;simp only[Lit.wf,R,U,Bool.and_eq_true,decide_eq_true_eq] at ah;have V:((zs.take len).map fun y=>UInt8.ofNat y.toNat)[j]=UInt8.ofNat (zs.getD j 0).toNat:=by
     simp[List.getD_eq_getElem?_getD,List.getElem?_eq_getElem D]
    rw[V,UInt8.toNat_ofNat'];congr 2;omega
theorem nR{H:Type}{y:List TypeId}{o:List (DataW H)}(h:(DataW.weightsEach Tryz.prog y o).all (·<=reachBytes)=true){j:Nat}{d:DataW H}{n:Nat}(D:y[j]?=some 22)(hd:o[j]?=some d)(A:xL d n):n<=140737488351232:=by
 rcases A with rfl | ⟨E,I,rfl,rfl⟩
 ·omega
 ·have z:=sized_slice h D hd Tryz.underlying22;rw[wP] at z;have e:reachBytes=140737488351232:=by decide
  omega
end Go.Proofs.YtdkammppnkhhoaaGreatDoor
