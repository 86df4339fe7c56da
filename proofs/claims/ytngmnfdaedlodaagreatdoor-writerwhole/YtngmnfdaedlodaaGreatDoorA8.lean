import Derived.Test.YtngmnfdaedlodaaGreatDoorTie
import Derived.Test.YtngmnfdaedlodaaGreatDoorCards
import Derived.Deep.DeepHandedRow
import Derived.LaidMore
import Derived.Test.YtngmnfdaedlodaaGreatDoorA6
import Derived.Lib.SmallJoins
set_option maxRecDepth 100000
namespace Go.Proofs.YtngmnfdaedlodaaGreatDoor
variable{W:World}
section
open Go.ChangeShapes Go.WideShapes Go.ChangeAt Go.RowKit
theorem own:ownKnob Tryz.prog.godebug=none:=by kernel_rfl
theorem laidOut:laidOutB Tryz.prog=true:=by kernel_rfl
theorem yR:Tryz.prog.cellsOf 5=1:=by kernel_rfl
theorem xf(b o j:Nat):(⟨b,o,none⟩:Addr).add j=⟨b,o+j,none⟩:=by unfold Addr.add;split <;> simp_all
def As{H:Type}(d:DataW H)(n:Nat):Prop:=n=0∨∃elems spare,d=.slice elems spare∧elems.length=n
theorem opened{H:Type}{enc:TypeId×Value->H}{y:OA}{len cap:Nat}{E:DataW H}{p:List MemPlace}(A:DataW.Trod enc Tryz.prog W 0 (fun _=>true) true 40 (.slice y len cap) E p):
  ∃l:L8,len=l.length∧At W y l∧len<=cap∧(y=none->cap=0)∧As E l.length:=by
 obtain⟨fuel,ab⟩:=A;rcases open_ints Tryz.underlying40 Tryz.underlying5 yR ab with ⟨o,_⟩ | ⟨x,l,c,zs,o,_,ah,a3,aw,S,L,ak⟩
 ·simp[Value.cells] at o;obtain⟨rfl,rfl,rfl⟩:=o;exact⟨[],rfl,.inl rfl,gQx,fun _=>rfl,.inl rfl⟩
 ·simp[Value.cells] at o;obtain⟨rfl,rfl,rfl⟩:=o;simp only[Prod.mk.injEq] at S;obtain⟨rfl,rfl⟩:=S;simp only[if_true] at aw;have Q:((zs.take len).map fun z=>UInt8.ofNat z.toNat).length=len:=by simp;omega
  refine⟨(zs.take len).map fun z=>UInt8.ofNat z.toNat,Q.symm,?_,ah,(fun h=>by cases h),.inr ⟨_,_,rfl,by simp[lits]⟩⟩;by_cases A:len=0
  ·subst A;exact .inl (by simp)
  ·obtain⟨b,a0,a1⟩:=x;have K:=L 0 (by omega);have ai:a1=none:=(by simpa[Addr.add] using World.cell?_spot K);subst ai;refine .inr ⟨b,a0,rfl,?_,fun j M=>?_⟩
   ·have:=World.block_lt_of_cell? _ _ K;simpa[block_add] using this
   ·have a2:j<len:=(by rw[Q] at M;exact M);have D:j<zs.length:=(by omega);have J:=L j D;rw[xf] at J;rw[J];have aj:=ak (zs.getD j 0) (by rw[List.getD_eq_getElem?_getD,List.getElem?_eq_getElem D];simp);have V:IntKind.u8.min=0:=rfl;have X:IntKind.u8.max=255:=rfl;simp only[Lit.wf,V,X,Bool.and_eq_true,decide_eq_true_eq] at aj;have Z:((zs.take len).map fun z=>UInt8.ofNat z.toNat)[j]=UInt8.ofNat (zs.getD j 0).toNat:=by
     simp[List.getD_eq_getElem?_getD,List.getElem?_eq_getElem D]
    rw[Z,UInt8.toNat_ofNat'];congr 2;omega
end
section
open Go.ChangeShapes Go.WideShapes Go.ChangeAt Go.RowKit
def p6:List Int:=[0,498536548,997073096,651767980,1994146192,1802195444,1303535960,1342533948,3988292384,4027552580,3604390888,3412177804,2607071920,2262029012,2685067896,3183342108]
theorem j7:∀n,n<16->p6.getD n 0=(Crc.steps 4 n:Nat):=by decide
theorem Ak: Tryz.prog.globalNamed "errors.errorType"=some 1 := by kernel_rfl
theorem Ad: (Tryz.prog.cutTypes.find? (·.1== "internal/reflectlite.rtype")).map (·.2)=some 244 := by kernel_rfl
theorem tI:((List.range 342).filter fun t=>Tryz.prog.rowNamed t [101,114,114,111,114])=[123]:=by kernel_rfl
theorem xQ:Tryz.prog.types.size=342:=by kernel_rfl
theorem oY(h : laidMetH Tryz.prog [("gabion/crc.halves", Rows.laid_gabion_crc_halves), ("errors.errorType", Rows.laid_errors_errorType)] W): Hv W∧He W := by
 have y : laidMet Tryz.prog [("gabion/crc.halves", Lib.tabData .u32 p6)] W∧handlesMet Tryz.prog [("errors.errorType", Rows.laid_errors_errorType)] W := h;refine⟨?_,?_⟩
 ·have Q:=Lib.tabIs_of_head (rest:=[]) (g:=2) (t:=282) (e:=178) (n:=16) (by kernel_rfl) (by kernel_rfl) (by kernel_rfl) (by kernel_rfl) (by kernel_rfl) (by kernel_rfl) y.1;intro n D;rw[Q.cell (g:=2) (by kernel_rfl) n D,j7 n D]
 ·obtain⟨name,u,V,E,J,K,L,o⟩:=y.2 _ (List.mem_singleton.2 rfl);have M:name=[101,114,114,111,114]:=(Option.some.inj E).symm;subst M;obtain rfl:=Option.some.inj (Ad.symm.trans J);have A:V∈(List.range 342).filter fun t=>Tryz.prog.rowNamed t [101,114,114,111,114]:=List.mem_filter.2 ⟨List.mem_range.2 (by rw[<-xQ];exact K),L⟩;rw[tI] at A;obtain rfl:=List.mem_singleton.1 A;have S:typeHandle Tryz.prog 123=.pointer (some ⟨4,123,none⟩):=by kernel_rfl
  rw[S] at o;have:=World.var?_cell Ak o 0;unfold He;simpa using this
theorem uF(o : Os)(args : AV): laidMetH Tryz.prog [("gabion/crc.halves", Rows.laid_gabion_crc_halves), ("errors.errorType", Rows.laid_errors_errorType)] ((World.doorLaid Tryz.prog 272 o).forCall (fun _ _=>0) ⟨#[], args, []⟩).memory :=
 laidMetH_of_parts (laidMet_of_run' 8 (by kernel_rfl) (by kernel_rfl)) (by kernel_rfl)
end
section
open Go.ChangeShapes Go.WideShapes Go.ChangeAt Go.RowKit Go.Deep
section
variable {H:Type} {enc:TypeId×Value->H} {W:World} {n:Nat} {t:TypeId} {cs:List Value} {v:Value}
theorem eQ{P:Program}{e:TypeId}:∀{l:List (DataW H)} {i:Nat} {d:DataW H},l[i]?=some d->∀n∈d.weights P e,n∈DataW.weightsAll P e l
 | [],_,_,h=>by simp at h
 |x::r,0,d,h=>by
  intro n o;simp at h;subst h;simp[DataW.weightsAll,o]
 |x::r,i+1,d,h=>by
  intro n o;have:=eQ (l:=r) (i:=i) (d:=d) (by simpa using h) n o;simp[DataW.weightsAll,this]
def Rd(enc:TypeId×Value->H)(W:World)(n:Nat)(t:TypeId)(cs:List Value):Prop:=∃D Pl,DataW.trod enc Tryz.prog W 0 (fun _=>true) true n t cs=some (D,Pl)∧∀k∈D.weights Tryz.prog t,k<=140737488351232
theorem dD{o:Array Field}{ks:List Nat}(L:Tryz.prog.underlying t=some (.struct o))(D:o.toList.map (fun f=>Tryz.prog.cellsOf f.type)=ks)(h:Rd enc W n t cs):∃m,n=m+1∧cs.length=Tryz.prog.cellsOf t∧∀(i:Nat) (f:Field) (k:Nat),o[i]?=some f->ks[i]?=some k->Rd enc W m f.type ((cs.drop f.offset).take k):=by
 obtain⟨M,ab,h,X⟩:=h;obtain⟨xs,m,rfl,Z,S,V,Q⟩:=DataW.trod_struct L h;refine⟨m,rfl,S,fun i f k A y=>?_⟩;have E:=Q i f A;have K:i<xs.length:=by rw[V];exact(Array.getElem?_eq_some_iff.1 A).1
 have J:o.toList[i]?=some f:=by rw[Array.getElem?_toList,A]
 rw[<-D,List.getElem?_map,J] at y;have y:Tryz.prog.cellsOf f.type=k:=Option.some.inj y;rw[List.getElem?_eq_getElem K,y] at E;refine⟨xs[i].1,xs[i].2,E,fun k D=>X k ?_⟩;rw[show M=.agg (xs.map (·.1)) from congrArg Prod.fst Z];simp only[DataW.weights,L];exact DataW.weights_mem_each (j:=i) (by rw[List.getElem?_map,J];rfl) (by simp[K]) k D
theorem um{i:Int}(h:(Lit.int .i64 i).wf=true):-9223372036854775808<=i∧i<=9223372036854775807:=by
 have o:(decide (IntKind.i64.min<=i)&&decide (i<=IntKind.i64.max))=true:=h;rw[Bool.and_eq_true,decide_eq_true_eq,decide_eq_true_eq,show IntKind.i64.min=-9223372036854775808 by decide,show IntKind.i64.max=9223372036854775807 by decide] at o;exact o
theorem g9(A:Tryz.prog.underlying t=some (.int .i64))(h:Rd enc W n t [v]):∃i,v=.int .i64 i∧-9223372036854775808<=i∧i<=9223372036854775807:=by
 obtain⟨D,E,h,-⟩:=h;obtain⟨i,o,-,y⟩:=DataW.trod_int A h;exact⟨i,(List.cons.inj o).1,um y⟩
theorem tm(D:Tryz.prog.underlying t=some (.float .f64))(h:Rd enc W n t [v]):∃i,v=.float .f64 i∧i<18446744073709551616:=by
 obtain⟨E,J,h,-⟩:=h;have o:∃i,v=.float .f64 i∧(Lit.float .f64 i).wf=true:=by
  cases n with
  |zero=>simp[DataW.trod] at h
  |succ n=>
   unfold DataW.trod at h;rw[D] at h;split at h <;> simp_all
 obtain⟨i,y,A⟩:=o;exact⟨i,y,of_decide_eq_true A⟩
theorem tk(A:Tryz.prog.underlying t=some .string)(h:Rd enc W n t [v]):∃s:ByteArray,v=.string s∧s.size<=140737488351232:=by
 obtain⟨E,J,h,D⟩:=h;obtain⟨s,y,o,-⟩:=DataW.trod_string A h;injection o with o;subst o;exact⟨s,(List.cons.inj y).1,by simpa[DataW.weights] using D⟩
theorem vV(y:Tryz.prog.underlying t=some .bool)(h:Rd enc W n t [v]):∃b,v=.bool b:=by
 obtain⟨A,D,h,-⟩:=h;obtain⟨b,o,-⟩:=DataW.trod_bool y h;exact⟨b,(List.cons.inj o).1⟩
theorem fp{T:Type} [Inhabited T] {e:TypeId} {c z:Nat} (R:AV->T->Prop) (ab:Tryz.prog.underlying t=some (.slice e)) (a0:Tryz.prog.cellsOf e=c) (be:Tryz.prog.bytesOf e=z) (bl:0<c) (each:∀m,m<n->∀cs,Rd enc W m e cs->∃x,R cs.toArray x) (h:Rd enc W n t [v]) :
  ∃q cap,∃l:List T,∃us:Nat->AV,v=.slice q l.length cap∧l.length*z<=140737488351232∧l.length<=cap∧(l≠[]->∃b y,q=some ⟨b,y,none⟩∧b<W.1.size∧∀j,j<l.length->∀m,m<c->W.cell? ⟨b,y+j*c+m,none⟩=(us j)[m]?)∧∀j (A:j<l.length),R (us j) l[j]:=by
 obtain⟨D,bj,h,hw⟩:=h;subst a0 be;rcases DataW.trod_slice ab h with ⟨J,_⟩ | ⟨a,len,cap,bk,rest,m,rfl,J,bc,_,a5,_,a3,aw,_⟩
 ·exact⟨none,0,[],fun _=>#[],(List.cons.inj J).1,by simp,by simp,fun K=>absurd rfl K,fun j A=>absurd A (Nat.not_lt_zero _)⟩
 rw[show D=_ from congrArg Prod.fst bc] at hw;simp only[DataW.weights,ab] at hw;have S:=hw _ List.mem_cons_self;simp only[List.length_map] at S;have ai:∀i,i<len->∃z:List Value×T,W.cells? 0 (a.add (i*Tryz.prog.cellsOf e)) (Tryz.prog.cellsOf e)=some z.1∧R z.1.toArray z.2:=fun i X=>by
  have Q:=aw i X;rw[List.getElem?_eq_getElem (by omega)] at Q;obtain⟨M,aj,ak⟩:=Option.bind_eq_some_iff.1 Q;obtain⟨x,bb⟩:=each m (by omega) M ⟨_,_,ak,fun k a4=>hw k (List.mem_cons_of_mem _ (List.mem_append_left _ (eQ (i:=i) (by simp[a3,X]) k a4)))⟩;exact⟨⟨M,x⟩,aj,bb⟩
 haveI:Inhabited (List Value×T):=⟨⟨[],default⟩⟩;obtain⟨z,L⟩:=choose_lt ai;have o:((List.range len).map fun i=>(z i).2).length=len:=by simp
 refine⟨some a,cap,(List.range len).map fun i=>(z i).2,fun j=>(z j).1.toArray,by rw[o];exact(List.cons.inj J).1,by rw[o];exact Nat.le_trans (Nat.mul_le_mul_right _ (by omega)) S,by rw[o];exact a5,fun K=>?_,fun j A=>?_⟩
 ·have a7:0<len:=by rw[<-o];exact List.length_pos_iff.2 K
  obtain⟨b,y,bi⟩:=a;obtain⟨_,bn,a1⟩:=World.cells?_some (L 0 a7).1;have E:=a1 0 (by omega);rw[List.getElem?_eq_getElem (by omega)] at E;have a9:bi=none:=by simpa[Addr.add] using World.cell?_spot E
  subst a9;refine⟨b,y,rfl,?_,fun j Z m a8=>?_⟩
  ·have:=World.block_lt_of_cell? _ _ E;simpa[block_add] using this
  ·rw[o] at Z;obtain⟨_,a6,a2⟩:=World.cells?_some (L j Z).1;have V:=a2 m (by omega);rw[add_add,show ∀k,(⟨b,y,none⟩:Addr).add k=⟨b,y+k,none⟩ from fun k=>by unfold Addr.add;split <;> simp_all,<-Nat.add_assoc] at V;rw[V];simp[a6,a8]
 ·rw[o] at A;simp only[List.getElem_map,List.getElem_range];exact(L j A).2
theorem fA{T:Type}{P:T->Prop}{l:List T}(h:∀j (o:j<l.length),P l[j]):∀x∈l,P x:=fun x y=>by
 obtain⟨j,o,rfl⟩:=List.mem_iff_getElem.1 y;exact h j o
theorem mU:∀(n:Nat) (cs:List Value),Rd enc W n 102 cs->∃x,aK W cs.toArray x∧x.wf:=by
 intro n;induction n using Nat.strongRecOn with
 |_ n ih=>
  intro cs h;obtain⟨m,rfl,A,o⟩:=dD (ks:=[1,1,1,1,1]) Tryz.underlying102 (by kernel_rfl) h;rw[show Tryz.prog.cellsOf 102=5 by kernel_rfl] at A;match cs,A with
  | [v0,v1,v2,v3,v4],_=>
   haveI:Inhabited V:=⟨V0⟩;obtain⟨D,rfl,w0⟩:=g9 Tryz.underlying3 (o 0 _ _ rfl rfl);obtain⟨E,rfl,w1⟩:=g9 Tryz.underlying2 (o 1 _ _ rfl rfl);obtain⟨J,rfl,L⟩:=tm Tryz.underlying100 (o 2 _ _ rfl rfl);obtain⟨K,rfl,M⟩:=tk Tryz.underlying9 (o 3 _ _ rfl rfl);obtain⟨q,cap,l,us,rfl,z1,z2,z3,z4⟩:=fp (c:=5) (z:=64) (fun u (x:V)=>aK W u x∧x.wf) Tryz.underlying62 (by kernel_rfl) (by kernel_rfl) (by decide) (fun k Q cs h=>ih k (by omega) cs h) (o 4 _ _ rfl rfl);exact⟨.mk D E J K l,.mk us z1 z2 z3 (fun j y=>(z4 j y).1),V.wf_mk.2 ⟨w0,w1,L,M,fA fun j y=>(z4 j y).2⟩⟩
theorem vT:∀(n:Nat) (cs:List Value),Rd enc W n 99 cs->∃x,aN W cs.toArray x∧x.wf:=by
 intro n;induction n using Nat.strongRecOn with
 |_ n ih=>
  intro cs h;obtain⟨m,rfl,A,y⟩:=dD (ks:=[1,1]) Tryz.underlying99 (by kernel_rfl) h;rw[show Tryz.prog.cellsOf 99=2 by kernel_rfl] at A;match cs,A with
  | [v0,v1],_=>
   haveI:Inhabited Ty:=⟨.mk 0 []⟩;obtain⟨D,rfl,w0⟩:=g9 Tryz.underlying3 (y 0 _ _ rfl rfl);obtain⟨q,cap,l,us,rfl,z1,z2,z3,z4⟩:=fp (c:=2) (z:=32) (fun u (x:Ty)=>aN W u x∧x.wf) Tryz.underlying97 (by kernel_rfl) (by kernel_rfl) (by decide) (fun k E cs h=>ih k (by omega) cs h) (y 1 _ _ rfl rfl);exact⟨.mk D l,.mk us z1 z2 z3 (fun j o=>(z4 j o).1),Ty.wf_mk.2 ⟨w0,fA fun j o=>(z4 j o).2⟩⟩
theorem xU(h:Rd enc W n 104 cs):∃x,fk W cs.toArray x∧x.wf:=by
 obtain⟨m,rfl,E,o⟩:=dD (ks:=[1,2,1,5]) Tryz.underlying104 (by kernel_rfl) h;rw[show Tryz.prog.cellsOf 104=9 by kernel_rfl] at E;match cs,E with
 | [v0,v1,v2,v3,v4,v5,v6,v7,v8],_=>
  obtain⟨X,rfl,w0⟩:=tk Tryz.underlying9 (o 0 _ _ rfl rfl);obtain⟨ak,J,w1⟩:=vT m [v1,v2] (o 1 _ _ rfl rfl);obtain⟨Z,rfl⟩:=vV Tryz.underlying4 (o 2 _ _ rfl rfl);obtain⟨aj,D,ai⟩:=mU m [v4,v5,v6,v7,v8] (o 3 _ _ rfl rfl);obtain⟨k,p,c,K,_,y,rfl,_⟩:=J.inv;obtain⟨Q,M,L,V,ah,ab,S,_,A,rfl,_⟩:=D.inv;simp only[au] at y;simp only[cells5] at A;obtain⟨rfl,rfl⟩:=y;obtain⟨rfl,rfl,rfl,rfl,rfl⟩:=A;exact⟨⟨X,.mk k K,Z,.mk Q M L V S⟩,⟨k,p,K.length,c,Q,M,L,V,ah,S.length,ab,rfl,J,D⟩,w0,w1,ai⟩
theorem re(h:Rd enc W n 35 [v]):∃p c s,v=.slice p s.length c∧ef W p c s:=by
 obtain⟨m,rfl,a1,ai⟩:=dD (ks:=[1]) Tryz.underlying35 (by kernel_rfl) h;haveI:Inhabited Col:=⟨⟨⟨#[]⟩,.mk 0 [],false,V0⟩⟩;obtain⟨q,cap,l,us,rfl,z1,z2,z3,z4⟩:=fp (c:=9) (z:=120) (fun u (x:Col)=>fk W u x∧x.wf) Tryz.underlying33 (by kernel_rfl) (by kernel_rfl) (by decide) (fun k a0 cs h=>xU h) (ai 0 _ _ rfl rfl);refine⟨q,cap,l,rfl,z1,z2,fun j y=>⟨us j,(z4 j y).1,?_⟩,fA fun j y=>(z4 j y).2⟩;obtain⟨b,D,rfl,ab,ah⟩:=z3 (List.length_pos_iff.1 (by omega));obtain⟨k,K,J,E,S,Q,L,Z,X,V,M,A,ak,aw⟩:=(z4 j y).1.out;have o:∀m,m<9->W.cell? ⟨b,D+j*9+m,none⟩=(aB l[j].name k K J E l[j].has S Q L Z X V M)[m]?:=fun m aj=>by rw[ah j y m aj,A]
 exact⟨b,D,_,k,K,J,E,_,S,Q,L,Z,X,V,M,rfl,ab,A,o 0 (by decide),o 1 (by decide),o 2 (by decide),o 3 (by decide),o 4 (by decide),o 5 (by decide),o 6 (by decide),o 7 (by decide),o 8 (by decide)⟩
theorem xT(h:Rd enc W n 64 cs):∃s p c,cs.toArray=#[.slice p s.length c]∧dN W p c s:=by
 obtain⟨m,rfl,y,A⟩:=dD (ks:=[1]) Tryz.underlying64 (by kernel_rfl) h;rw[show Tryz.prog.cellsOf 64=1 by kernel_rfl] at y;match cs,y with
 | [v0],_=>
  haveI:Inhabited V:=⟨V0⟩;obtain⟨q,cap,l,us,rfl,z1,z2,z3,z4⟩:=fp (c:=5) (z:=64) (fun u (x:V)=>aK W u x∧x.wf) Tryz.underlying62 (by kernel_rfl) (by kernel_rfl) (by decide) (fun k D cs h=>mU k cs h) (A 0 _ _ rfl rfl);exact⟨l,q,cap,rfl,.mk us z1 z2 z3 (fun j o=>(z4 j o).1),fA fun j o=>(z4 j o).2⟩
theorem vU(h:Rd enc W n 36 [v]):∃p c l,v=.slice p l.length c∧cQ W p c l:=by
 obtain⟨q,cap,l,us,rfl,z1,z2,z3,z4⟩:=fp (c:=1) (z:=24) (fun u (x:List V)=>∃p c,u=#[.slice p x.length c]∧dN W p c x) Tryz.underlying36 (by kernel_rfl) (by kernel_rfl) (by decide) (fun k J cs h=>xT h) h;refine⟨q,cap,l,rfl,z1,z2,fun j o=>?_⟩;obtain⟨b,E,rfl,y,A⟩:=z3 (List.length_pos_iff.1 (by omega));obtain⟨p,c,e,D⟩:=z4 j o;have:=A j o 0 (by decide);rw[e] at this;exact⟨b,E,p,c,rfl,y,by simpa using this,D⟩
theorem oM{M:List TypeId}{E:List (DataW H)}{j:Nat}{D:OA}{len cap:Nat}{d:DataW H}{p:List MemPlace}(h:DataW.Trod enc Tryz.prog W 0 (fun _=>true) true 22 (.slice D len cap) d p)(ah:(DataW.weightsEach Tryz.prog M E).all (·<=reachBytes)=true)(ai:M[j]?=some 22)(hd:E[j]?=some d):∃l:List Op,len=l.length∧vv W D l∧l.length<=2000000000000:=by
 obtain⟨n,o⟩:=h;have h:Rd enc W n 22 [.slice D len cap]:=⟨d,p,by simpa[Value.cells] using o,fun k K=>by
  exact Nat.le_trans (of_decide_eq_true (List.all_eq_true.1 ah k (DataW.weights_mem_each ai hd k K))) (by decide)⟩
 haveI:Inhabited Op:=⟨⟨0,[],[],0,0⟩⟩;obtain⟨q,cap,l,us,e,z1,z2,z3,z4⟩:=fp (c:=5) (z:=72) (fun u (A:Op)=>∃p c y rd,u=(opC A p c y rd).toArray∧ef W p c A.c∧cQ W y rd A.l∧Fr.i64 A.n∧Fr.i64 A.m) Tryz.underlying22 (by kernel_rfl) (by kernel_rfl) (by decide) (fun k K cs h=>by
  obtain⟨m,rfl,L,o⟩:=dD (ks:=[1,1,1,1,1]) Tryz.underlying38 (by kernel_rfl) h;rw[show Tryz.prog.cellsOf 38=5 by kernel_rfl] at L;match cs,L with
  | [v0,v1,v2,v3,v4],_=>
   obtain⟨aj,rfl,w0⟩:=g9 Tryz.underlying3 (o 0 _ _ rfl rfl);obtain⟨p,c,s,rfl,ab⟩:=re (o 1 _ _ rfl rfl);obtain⟨y,rd,r,rfl,Z⟩:=vU (o 2 _ _ rfl rfl);obtain⟨ak,rfl,a0⟩:=g9 Tryz.underlying3 (o 3 _ _ rfl rfl);obtain⟨n4,rfl,w4⟩:=g9 Tryz.underlying3 (o 4 _ _ rfl rfl)
   exact⟨⟨aj,s,r,ak,n4⟩,p,c,y,rd,rfl,ab,Z,a0,w4⟩) h
 injection e with e1 e2 e3;subst e1;refine⟨l,e2,fun j J=>?_,by omega⟩;obtain⟨b,aw,rfl,Q,S⟩:=z3 (List.length_pos_iff.1 (by omega));obtain⟨p,c,y,rd,e,V⟩:=z4 j J;refine⟨b,aw,p,c,y,rd,rfl,Q,fun m X=>?_,V⟩;rw[S j J m X,e];simp
end
end
end Go.Proofs.YtngmnfdaedlodaaGreatDoor
