import Derived.Test.YtlgfdgdlaahpfaaGreatDoorB01
import Derived.ProofKit
import Derived.OpenShut
import Derived.ShutString
namespace Go.Proofs.YtlgfdgdlaahpfaaGreatDoor
open Go.ChangeShapes Go.WideShapes Go.ChangeAt Go.RowKit
theorem own:ownKnob Tryz.prog.godebug=none:=by kernel_rfl
theorem laidOut:laidOutB Tryz.prog=true:=by kernel_rfl
theorem ua:Tryz.prog.cellsOf 5=1:=by kernel_rfl
theorem ud:Tryz.prog.bytesOf 5=1:=by kernel_rfl
theorem jZ(b o j:Nat):(⟨b,o,none⟩:Addr).add j=⟨b,o+j,none⟩:=by unfold Addr.add;split <;> simp_all
def uW{H:Type}(d:DataW H)(n:Nat):Prop:=n=0∨∃elems spare,d=.slice elems spare∧elems.length=n
theorem opened{H:Type}{enc:TypeId×Value->H}{W:World}{a0:OA}{len cap:Nat}{d0:DataW H}{p:List MemPlace}(h0:DataW.Trod enc Tryz.prog W 0 (fun _=>true) true 31 (.slice a0 len cap) d0 p):
  ∃l:L8,len=l.length∧At W a0 l∧len<=cap∧(a0=none->cap=0)∧uW d0 l.length:=by
 obtain⟨fuel,hf⟩:=h0
 rcases open_ints Tryz.underlying31 Tryz.underlying5 ua hf with ⟨hcs,_⟩ | ⟨x,l,c,zs,hcs,_,hl,hm,hz,hx,hcell,hwz⟩
 ·simp[Value.cells] at hcs
  obtain⟨rfl,rfl,rfl⟩:=hcs
  exact⟨[],rfl,.inl rfl,vX,fun _=>rfl,.inl rfl⟩
 ·simp[Value.cells] at hcs
  obtain⟨rfl,rfl,rfl⟩:=hcs
  simp only[Prod.mk.injEq] at hx
  obtain⟨rfl,rfl⟩:=hx
  simp only[if_true] at hz
  have hlen:((zs.take len).map fun z=>UInt8.ofNat z.toNat).length=len:=by simp;omega
  refine⟨(zs.take len).map fun z=>UInt8.ofNat z.toNat,hlen.symm,?_,hl,(fun h=>by cases h),.inr ⟨_,_,rfl,by simp[lits]⟩⟩
  by_cases h0:len=0
  ·subst h0
   exact .inl (by simp)
  ·obtain⟨b,off,spot⟩:=x
   have hc0:=hcell 0 (by omega)
   have hspot:spot=none:=by simpa[Addr.add] using World.cell?_spot hc0
   subst hspot
   refine .inr ⟨b,off,rfl,?_,fun j hj=>?_⟩
   ·have:=World.block_lt_of_cell? _ _ hc0
    simpa[block_add] using this
   ·have hj2:j<len:=by rw[hlen] at hj;exact hj
    have hj3:j<zs.length:=by omega
    have h1:=hcell j hj3
    rw[jZ] at h1
    rw[h1]
    have hwf:=hwz (zs.getD j 0) (by rw[List.getD_eq_getElem?_getD,List.getElem?_eq_getElem hj3];simp)
    have e1:IntKind.u8.min=0:=rfl
    have e2:IntKind.u8.max=255:=rfl
    simp only[Lit.wf,e1,e2,Bool.and_eq_true,decide_eq_true_eq] at hwf
    have e3:((zs.take len).map fun z=>UInt8.ofNat z.toNat)[j]=UInt8.ofNat (zs.getD j 0).toNat:=by
     simp[List.getD_eq_getElem?_getD,List.getElem?_eq_getElem hj3]
    rw[e3,UInt8.toNat_ofNat']
    congr 2
    omega
theorem rv{H:Type}(d:DataW H):1<=Rows.uptoBulk d:=by
 cases d with
 |lit x=>cases x <;> simp[Rows.uptoBulk]
 |_=>simp[Rows.uptoBulk]
theorem lk{H:Type}:∀l:List (DataW H),l.length<=Rows.uptoBulkAll l
 | []=>by simp
 |d::r=>by
  have h1:=rv d
  have h2:=lk r
  simp only[List.length_cons,Rows.uptoBulkAll]
  omega
end Go.Proofs.YtlgfdgdlaahpfaaGreatDoor
