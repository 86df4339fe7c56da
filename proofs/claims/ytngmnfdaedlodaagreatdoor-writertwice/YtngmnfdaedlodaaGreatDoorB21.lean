import Derived.Test.YtngmnfdaedlodaaGreatDoorB20
import Derived.Test.YtngmnfdaedlodaaGreatDoorB03
import Derived.Test.YtngmnfdaedlodaaGreatDoorB15
set_option maxRecDepth 100000
set_option maxHeartbeats 4000000
namespace Go.Proofs.YtngmnfdaedlodaaGreatDoor
open Go.Proofs.Tryz
open Go.Value renaming int->I,slice->O
open Go.IntKind renaming i64->U
open Go.RowKit renaming Hid->Y,Below->AX
open Option renaming none->F,some->tO
open Go.Obj renaming cells->qj
open Go renaming World->wv
open Go.Proofs.Tryz renaming prog->AW
open Bool renaming false->wx
open Go.Ending renaming returned->qz
variable{B:Nat}{w w':wv}{l xs:L8}{v:Value}
section
open Go.RowKit
def Ints(w:wv)(b:Nat)(l:List Int):Prop:=b<w.1.size∧∀j (h:j<l.length),w.cell? ⟨b,j,F⟩=tO (I U l[j])
theorem Ints.on{b:Nat}{l:List Int}(h:Ints w b l)(hb:AX w.1.size w w'):Ints w' b l :=
 ⟨AF h.1 hb.size,fun j o=>by rw[hb.cell (p:=⟨b,j,F⟩) h.1];exact h.2 j o⟩
theorem fb(w:wv)(l:List Int){C:AV}(h:C=(l.map fun n=>I U n).toArray):Ints (w.alloc (qj C 2)) w.1.size l:=by
 subst h;refine⟨by simp,fun j o=>?_⟩;rw[World.cell?_alloc_new];simp[o]
theorem jM(o:Int)(b:Nat)(l:List Int)(ak:l.length<=100)(w:wv)(h:Ints w b l):
  Calls AW 244 #[I U o,O (tO ⟨b,0,F⟩) l.length l.length] w fun e w'=>e=qz (.bool (l.all (Fr.within o)))∧w'=w:=by
 have H:=gQq h;clear h;obtain⟨R,K⟩:∃R,R=l.all (Fr.within o):=⟨_,rfl⟩;rw[<-K];have V:=gQq K;clear K;go_enter func244,ntmps244;go_wp2;go_loop [9] (fun Q=>∃k:Nat,k<=l.length∧Q=I U k∧Y ((l.take k).all (Fr.within o)=true)) (fun Q=>l.length-(intOf Q).toNat);case atStart=>exact⟨0,by omega,rfl,rfl⟩
 case round=>
  obtain⟨k,aj,rfl,D⟩:=hrel;by_cases M:k<l.length
  ·have aw:(k:Int)<(l.length:Int):=(by omega);have Z:=H.out.2 k M;obtain⟨n,E⟩:∃n,n=l[k]:=⟨_,rfl⟩;rw[<-E] at Z;have S:Y (n∈l):=(by show n∈l;rw[E];exact AL M);have y:Y (Fr.within o n=true->(l.take (k+1)).all (Fr.within o)=true):=fun L=>by
    rw[List.take_succ_eq_append_getElem M,List.all_append,D.out,<-E];simp[L]
   have A:Y (Fr.within o n=wx->R=wx):=fun L=>by
    rw[V.out,List.all_eq_false];exact⟨n,S.out,by rw[L];decide⟩
   clear E S D;by_cases a0:n<0
   ·have J:Y (R=wx):=A.out (AD (by omega));clear A y;go_wp2;go_ret;exact⟨by rw[J.out];rfl,rfl⟩
   ·by_cases ah:o<=n
    ·have J:Y (R=wx):=A.out (AD (by omega));clear A y;go_wp2;go_ret;exact⟨by rw[J.out];rfl,rfl⟩
    ·have X:Y ((l.take (k+1)).all (Fr.within o)=true):=y.out (AE (by omega));clear A y;go_wp2;go_round;case rel=>exact⟨k+1,by omega,by go_num,X⟩
     case measure=>simp[intOf];omega
  ·have ab:k=l.length:=(by omega);subst ab;have y:Y (R=true):=by
    show _=_;rw[V.out,<-D.out,List.take_length]
   clear D;go_wp2;go_ret;exact⟨by rw[y.out];rfl,rfl⟩
theorem jp(l:List Int)(k:Nat)(h:k<l.length):Fr.nums (l.take (k+1))=Fr.nums (l.take k)++Leb.put l[k].toNat:=by
 unfold Fr.nums;rw[List.take_succ_eq_append_getElem h,List.map_append,List.flatten_append];simp
theorem pV(b:Nat)(l:List Int)(bl:l.length<=100)(aj:∀n∈l,0<=n∧n<=9223372036854775807)(w:wv)(h:Ints w b l):
    Calls AW 245 #[O (tO ⟨b,0,F⟩) l.length l.length] w fun e w'=>∃p cap,e=qz (O p (Fr.nums l).length cap)∧Has w' w.1.size (O p (Fr.nums l).length cap) (Fr.nums l)∧AX w.1.size w w':=by
  have H:=gQq h;have a2:=gQq aj;clear h aj;go_enter func245,ntmps245;go_wp2;go_loopw [3,8] (fun bc M wr=>∃(k:Nat) (xs:L8),k<=l.length∧M=I U k∧xs.length<=10*k∧Y (xs=Fr.nums (l.take k)∧Has wr w.1.size bc xs∧AX w.1.size w wr)) (fun _ M _=>l.length-(intOf M).toNat);case atStart=>exact⟨0,[],by omega,rfl,by simp,rfl,bF _ _,gQz⟩
  case round=>
    obtain⟨k,xs,bk,rfl,bq,o⟩:=hrel;have a4:=o.out.2.2.size;have y:=gQq o.out.2.1;by_cases L:k<l.length
    · have bn:(k:Int)<(l.length:Int):=(by omega);have a5:wr.cell? ⟨b,k,F⟩=tO (I U l[k]):=(o.out.2.2.cell (p:=⟨b,k,F⟩) H.out.1).trans (H.out.2 k L);have K:=a2.out l[k] (AL L);have E:=gQq (jp l k L);obtain⟨m,Z⟩:∃m:Nat,(m:Int)=l[k]:=⟨l[k].toNat,by omega⟩;rw[<-Z] at a5 K E;have bp:(m:Int)<=9223372036854775807:=K.2;have D:Y (∀z:Int,z=(m:Int)->Calls AW 86 #[I .u64 z] wr fun e w'=>∃g cap,e=qz (O (tO ⟨g,0,F⟩) (Leb.put m).length cap)∧bo w' wr.1.size g cap (Leb.put m)∧AX wr.1.size wr w'):=fun z bb=>by
        subst bb;exact dA _ (by omega) wr
      have a8:=Leb.put_length_le m;have Q:Y (Fr.nums (l.take (k+1))=Fr.nums (l.take k)++Leb.put m):=by
        show _=_;rw[E.out,Int.toNat_natCast]
      clear Z K E;obtain⟨u,ah⟩:∃u,u=Leb.put m:=⟨_,rfl⟩;rw[<-ah] at D a8 Q;clear ah;go_wp2_with fail;refine(D.out _ (by omega)).mono ?_;rintro e w1 ⟨g,be,rfl,ab,J⟩;have a1:=gQq ab;have A:=gQq J;have bj:=J.size;clear ab J D
      go_wp2_with (first|(at_builtin;refine aC (y.out.on A.out) a1.out.at (by omega) (by omega) rfl rfl rfl rfl rfl ?_;intro ak bs bi W S X V a6;have aw:=gQq (aB V (y.out.on A.out) (by omega));have a0:=gQq X;have a9:ak.length<=10*(k+1):=(by rw[S.out,AU];omega);clear V a6 X)|fail)
      go_roundw;case rel=>exact⟨k+1,ak,by omega,by go_num,a9,by rw[S.out,Q.out,o.out.1],a0.out,(o.out.2.2.trans (A.out.mono a4)).trans aw.out⟩
      case measure=>simp[intOf];omega
    · have a7:k=l.length:=(by omega);subst a7;have a3:Y (xs=Fr.nums l):=by
        show _=_;rw[o.out.1,List.take_length]
      obtain⟨p,cap,rfl,-,-⟩:=y.out.at;go_wp2;go_ret;rw[<-a3.out];exact⟨p,cap,rfl,y.out,o.out.2.2⟩
end
section
open Go.RowKit
theorem Hv.on(h:Hv w)(hb:AX B w w')(o:2<B):Hv w':=fun n y=>by
 rw[hb.cell (p:=⟨2,n,F⟩) o];exact h n y
theorem Hv.lt(h:Hv w):2<w.1.size:=World.block_lt_of_cell? _ _ (h 0 (by omega))
theorem Hv.next(h:Hv w)(hb:AX w.1.size w w'):Hv w':=h.on hb h.lt
theorem rz(s:Nat)(a b c d:Int)(o:a=((s % 256:Nat):Int))(hb:b=((s / 256 % 256:Nat):Int))(y:c=((s / 256 / 256 % 256:Nat):Int))(hd:d=((s / 256 / 256 / 256 % 256:Nat):Int)):
  (#[I .u8 a,I .u8 b,I .u8 c,I .u8 d]:AV)=(cellsOf (Sch.le 4 s)).toArray:=by
 subst o hb y hd;simp only[Sch.le,cellsOf,List.map_cons,List.map_nil,UInt8.toNat_ofNat'];simp
theorem sT(p:OA)(c:Nat)(l:L8)(E:l.length<=140737488351232)(w:wv)(A:Hv w)(h:At w p l):
  Calls AW 74 #[O p l.length c] w fun e w'=>e=qz (O (tO ⟨w.1.size,0,F⟩) 4 4)∧w'=w.alloc (qj (cellsOf (Sch.le 4 (Crc.sum l))).toArray 5):=by
 have o:=gQq (vD p c l E w A h);have J:Crc.sum l<4294967296:=Crc.update_lt (by omega) l;obtain⟨s,y⟩:∃s,s=Crc.sum l:=⟨_,rfl⟩;rw[<-y] at o J ⊢;clear y A h;go_enter func74,ntmps74;go_wp2_with fail;refine o.out.mono ?_;rintro e w1 ⟨rfl,D⟩;rw[D];clear D w1 o;go_wp2;go_ret;refine⟨rfl,congrArg (fun C=>w.alloc (qj C 5)) (rz s _ _ _ _ ?_ ?_ ?_ ?_)⟩ <;> omega
theorem sW(B:Nat)(p:OA)(c:Nat)(l:L8)(bj:l.length<=10000000)(w:wv)(aj:Hv w)(h:Has w B (O p l.length c) l)(a6:B<=w.1.size):
    Calls AW 66 #[O p l.length c] w fun e w'=>∃g E cap,e=qz (O (tO ⟨g,E,F⟩) (Cob.stuff (Fr.check l)).length cap)∧fA w' g E (Cob.stuff (Fr.check l))∧w.1.size<=g∧(Cob.stuff (Fr.check l)).length<=cap∧AX B w w':=by
  have aw:Y (At w p l):=by
    obtain⟨bp,bc,K,A,-⟩:=h.at;injection K with e1;subst e1;exact A
  have Q:=gQq h;have y:=gQq (sT p c l (by omega) w aj aw.out);have J:Y (At (w.alloc (qj (cellsOf (Sch.le 4 (Crc.sum l))).toArray 5)) (tO ⟨w.1.size,0,F⟩) (Sch.le 4 (Crc.sum l))):=uQ w _ _ rfl;have o:Y (AX w.1.size w (w.alloc (qj (cellsOf (Sch.le 4 (Crc.sum l))).toArray 5))):=gQy;obtain⟨k,D⟩:∃k,k=Sch.le 4 (Crc.sum l):=⟨_,rfl⟩;have bb:k.length=4:=by rw[D,Sch.le_len]
  have a1:Y (Fr.check l=l++k):=by show _=_;rw[D];rfl
  rw[<-D] at y J o;obtain⟨V,ab⟩:∃V,V=w.alloc (qj (cellsOf k).toArray 5):=⟨_,rfl⟩;rw[<-ab] at y J o;have bk:=o.out.size;clear ab D aj h;go_enter func66,ntmps66;go_wp2_with fail;refine y.out.mono ?_;rintro e w1 ⟨rfl,ak⟩;rw[ak];clear ak w1 y
  go_wp2_with (first|(at_builtin;refine aC (c:=4) (Q.out.on o.out) J.out (by omega) (by omega) rfl rfl rfl rfl (by rw[bb];rfl) ?_;intro L q cap W S ah A a9;have M:=gQq (aB A (Q.out.on o.out) (by omega));have a4:=gQq ah;have bn:L.length<=10000010:=(by rw[S.out,AU];omega);clear A a9 ah)|fail)
  obtain⟨bq,be,K,X,a8⟩:=a4.out.at;injection K with e1 _ e2;subst e1 e2;have bl:=M.out.size;refine(k6 q cap L W (by omega) a8 X).mono ?_;rintro e bs ⟨g,E,a5,rfl,Z,bi,a7,hb⟩;have a3:=gQq Z;have a0:=gQq hb;clear Z hb X;have a2:Y (Fr.check l=L):=by show _=_;rw[a1.out,S.out]
  go_wp2;go_ret;rw[a2.out];exact⟨g,E,a5,rfl,a3.out,by omega,a7,((o.out.mono a6).trans M.out).trans (a0.out.mono (by omega))⟩
theorem yx(p q:OA)(c d:Nat)(a b:L8)(w:wv)(y:At w p a)(hb:At w q b):
  Calls AW 73 #[O p a.length c,O q b.length d] w fun e w'=>e=qz (.bool (a==b))∧w'=w:=by
 have A:=dp y c;have D:=dp hb d;have o:Y (((textOf a).toList==(textOf b).toList)=(a==b)):=by
  show _=_;rw[ByteArray.toList_eq,ByteArray.toList_eq,iw,iw]
 clear y hb;generalize textOf a=x at A o;generalize textOf b=E at D o;go_enter func73,ntmps73;go_wp2;go_ret;exact⟨by rw[<-o.out];rfl,rfl⟩
theorem tE(n c:Nat)(w:wv):(binOp .eql 40 (O F n c) (O F 0 0)).run AW w=.ok (.bool true) w:=by kernel_rfl
theorem tD(a:Addr)(n c:Nat)(w:wv):(binOp .eql 40 (O (tO a) n c) (O F 0 0)).run AW w=.ok (.bool wx) w:=by kernel_rfl
theorem yC(p:OA)(c:Nat)(l:L8)(Z:l.length<=140737488351232)(w:wv)(h:At w p l):
    Calls AW 105 #[O p l.length c] w fun e w'=>∃q cap,e=qz (O q l.length cap)∧Has w' w.1.size (O q l.length cap) l∧AX w.1.size w w':=by
  cases p with
  |none=>
    have M:l=[]:=by
      rcases h with rfl | ⟨b,o,S,_,_⟩
      · rfl
      · cases S
    subst M;have V:=tE 0 c w;go_enter func105,ntmps105;go_wp2;go_ret;exact⟨F,0,rfl,bF _ _,gQz⟩
  |some a=>
    have E:=gQq (h.on ((Below.refl _ w).alloc gQx (qj #[] 5)));have HM:=gQq (mV w).has;have J:Y (AX w.1.size w (w.alloc (qj #[] 5))):=gQy;have V:=tD a l.length c w;clear h;go_enter func105,ntmps105
    go_wp2_with (first|(at_builtin;refine aC (xs:=[]) HM.out E.out (by simp;omega) (by simp) rfl rfl rfl rfl rfl ?_;intro X q cap W L D A Q;have K:=gQq (aB A HM.out (by simp));have y:=gQq D;clear A Q D)|fail)
    go_ret;have e:X=l:=L.out;rw[e] at y;rw[e];exact⟨q,cap,rfl,y.out,J.out.trans K.out⟩
end
section
open Go.RowKit
theorem ints_at{H:Nat}(o:w.1.size=H)(l:List Int){C:AV}(h:C=(l.map fun n=>I U n).toArray):Ints (w.alloc (qj C 2)) H l:=by
 subst o;exact fb w l h
def ko(w:wv)(er:Nat)(l:L8)(e:Ending)(w':wv):Prop :=
 (er=0∧∃q cap,e=qz (.tuple #[O q l.length cap,I U 0])∧Has w' w.1.size (O q l.length cap) l∧AX w.1.size w w')∨(er≠0∧e=qz (.tuple #[O F 0 0,I U (er:Nat)])∧AX w.1.size w w')
theorem aV{o:Nat}(h:o≠0)(hb:AX w.1.size w w'):ko w o l (qz (.tuple #[O F 0 0,I U (o:Nat)])) w':=.inr ⟨h,rfl,hb⟩
def dF(n:Int)(s:List Col):Nat:=if Fr.within Fr.N n=wx then 7 else Sch.err s
theorem oj(n:Int)(bk:Fr.i64 n)(s:List Col)(sp:OA)(S:Nat)(w:wv)(ci:s.length*120<=140737488351232)(bp:cT w sp s)(bn:∀x∈s,x.wf):
    Calls AW 242 #[.agg #[I U n,O sp s.length S]] w (ko w (dF n s) (Fr.nums [n]++Sch.bytes s)):=by
  obtain⟨w0,Q⟩:∃w0,w0=w.alloc (qj #[I U n,O sp s.length S] 143):=⟨_,rfl⟩;have bq:w0.1.size=w.1.size+1:=by rw[Q];simp
  have bO:Y (AX w.1.size w w0):=by rw[Q];exact gQy
  have c0:w0.cell? ⟨w.1.size,0,F⟩=tO (I U n):=by rw[Q];simp
  have c1:w0.cell? ⟨w.1.size,1,F⟩=tO (O sp s.length S):=by rw[Q];simp
  obtain⟨w1,X⟩:∃w1,w1=w0.alloc (qj #[I U n] 2):=⟨_,rfl⟩;have a7:Y (Ints w1 (w.1.size+1) [n]):=by rw[X];exact ints_at bq [n] rfl
  have Z:Y (AX w0.1.size w0 w1):=by rw[X];exact gQy
  have ab:Y (AX w.1.size w w1):=bO.out.trans (Z.out.mono (by omega));have cr:w1.1.size=w.1.size+2:=by rw[X];simp[bq]
  have bb:w1.cell? ⟨w.1.size,0,F⟩=tO (I U n):=ae Z.out c0;have b7:w1.cell? ⟨w.1.size,1,F⟩=tO (O sp s.length S):=ae Z.out c1;have y:=gQq (jM 2147483648 (w.1.size+1) [n] (by simp) w1 a7.out);have bc:[n].all (Fr.within 2147483648)=Fr.within Fr.N n:=by simp[Fr.N]
  rw[bc] at y;have L:Y ((w.alloc (qj #[I U n,O sp s.length S] 143)).alloc (qj #[I U n] 2)=w1):=by rw[X,Q];exact rfl
  have b0:=gQq bk;obtain⟨K,a4⟩:∃K,K=dF n s:=⟨_,rfl⟩;have ak:=gQq a4;rw[<-a4];have b3:=gQq bp;have b2:=gQq bn;clear bc Q X bk a4 bp bn c0 c1 a7 Z;by_cases M:Fr.within Fr.N n=true
  · rw[M] at y;have J:Y (K=Sch.err s):=by
      show _=_;rw[ak.out,dF,M];rfl
    have b8:=(Fr.within_iff.1 M).1;have E:=gQq (i8 s sp S w1 ci (b3.out.on ab.out) b2.out);clear ak M;by_cases D:Sch.err s=0
    · have bX:Y (K=0):=J.out.trans D;have b9:(Sch.bytes s).length<=1024:=(Sch.err_open D).2.2.2;rw[show encB s=Sch.bytes s from AK D,D] at E;obtain⟨a2,bi⟩:∃a2,a2=Sch.bytes s:=⟨_,rfl⟩;rw[<-bi] at E b9 ⊢;clear D J bi;go_enter func242,ntmps242;go_wp2_with fail;rw[L.out];refine y.out.mono ?_;rintro e o ⟨rfl,A⟩;rw[A];clear A o y L;go_wp2_with fail;refine E.out.mono ?_;rintro e o ⟨q,cap,rfl,aw,a3,hb⟩;have co:o.cell? ⟨w.1.size,0,F⟩=tO (I U n):=ae hb bb;have bv:=gQq aw;have ah:=gQq (ab.out.trans (hb.mono (by omega)));have cq:=ah.out.size;clear aw a3 hb E bb b7;have a8:Y (Ints (o.alloc (qj #[I U n] 2)) o.1.size [n]):=fb o [n] rfl;have aj:Y (AX o.1.size o (o.alloc (qj #[I U n] 2))):=gQy;have a9:=gQq (pV o.1.size [n] (by simp) (fun m bj=>by simp at bj;subst bj;exact⟨b8,b0.out.2⟩) _ a8.out);go_wp2_with fail;refine a9.out.mono ?_;rintro e cs ⟨p3,cn,rfl,V,hb⟩;have a1:=gQq (V.lower (B':=o.1.size) aj.out.size);have a0:=gQq (aj.out.trans (hb.mono aj.out.size));have bN:=gQq (bv.out.on a0.out);have bl:=a0.out.size;clear V hb a9 a8 aj;have cd:(Fr.nums [n]).length<=10:=by
        have:=Leb.put_length_le n.toNat;rw[Fr.nums_cons,Fr.nums_nil,AH];exact this
      obtain⟨bs,a6⟩:∃bs,bs=Fr.nums [n]:=⟨_,rfl⟩;rw[<-a6] at a1 cd ⊢;have b1:=gQq a6;clear a6
      go_wp2_with (first|(at_builtin;refine aC a1.out bN.out (by omega) bl rfl rfl rfl rfl rfl ?_;intro ck cj b6 W b4 V be cb;have bT:=gQq (aB be a1.out bl);have b5:=gQq V;clear be cb V)|fail)
      go_ret2;have e:Fr.nums [n]++a2=ck:=(by rw[b4.out,b1.out]);rw[e];exact .inl ⟨bX.out,cj,b6,rfl,b5.out.lower (by omega),(ah.out.trans (a0.out.mono (by omega))).trans (bT.out.mono (by omega))⟩
    · have cc:K≠0:=(by rw[J.out];exact D);have cp:((K:Int) != 0)=true:=(by rw[bne_iff_ne];omega);rw[show encB s=[] from AJ D,<-J.out] at E;clear D J;go_enter func242,ntmps242;go_wp2_with fail;rw[L.out];refine y.out.mono ?_;rintro e o ⟨rfl,A⟩;rw[A];clear A o y L;go_wp2_with fail;refine E.out.mono ?_;rintro e o ⟨q,cap,rfl,aw,a3,hb⟩;have ah:=gQq (ab.out.trans (hb.mono (by omega)));clear aw a3 hb E;go_wp2;go_ret2;exact aV cc ah.out
  · have a5:Fr.within Fr.N n=false:=(by simpa using M);rw[a5] at y;have J:Y (K=7):=by
      show _=_;rw[ak.out,dF,a5];rfl
    clear ak M a5;go_enter func242,ntmps242;go_wp2_with fail;rw[L.out];refine y.out.mono ?_;rintro e o ⟨rfl,A⟩;rw[A];clear A o y L;go_wp2;go_ret2;rw[J.out];exact aV (by omega) ab.out
end
section
open Go.RowKit
theorem oa{p:OA}{c:Nat}(ah:Has w B v xs)(h:At w p l)(X:xs.length+l.length<=140737488355328)(K:B<=w.1.size){D:Array Oper}{o:Oper}{a:Act}{A:Act->wv->Prop}{J:Exit->Act->wv->Prop}{E:Prop}(s x:Operand)(aw:o.type=40)(V:o.guard=F)(ab:o.op=Op.call { callee:=Callee.builtin Builtin.append,args:=#[s,x],argTypes:=#[40,40] })(ak:a.eval s=v)(a1:a.eval x=O p l.length c)(L:∀q cap W y,Y (y=xs++l)->bD w B v W (O q y.length cap) y->A (a.put o.dst (O q y.length cap)) W):
  if Region.wanted o (yielded D a.tmps)=true then Oper.wp AW o a w A J else E:=by
 have a0:Region.wanted o (yielded D a.tmps)=true:=by simp[Region.wanted,V]
 rw[AK a0];obtain⟨q,cap,W,⟨aj⟩,Z,M,-,Q⟩:=eU B v xs l p c w ah h X K;unfold Oper.wp;have S:(execOp a.eval o).run AW w=.ok (.value (O q (xs++l).length cap)) W:=by
  simp only[execOp,ab,resolve,invoke,builtin];simp[ak,a1,aw,aj,Result.andThen]
 rw[S];exact L q cap W (xs++l) (gQq rfl) ⟨Z,M,Q⟩
theorem Ints.drew{b:Nat}{l:List Int}(h:Ints w b l):Ints w.drew b l:=⟨h.1,fun j o=>h.2 j o⟩
theorem dW{W:wv}{q:Value}{E:L8}(A:bD w B v W q E)(D:Has w B v xs){b o:Nat}{u:Value}(hb:b<B)(y:B<=w.1.size)(h:w.cell? ⟨b,o,F⟩=tO u):W.cell? ⟨b,o,F⟩=tO u :=
 ((aB A.aside D y).cell (p:=⟨b,o,F⟩) hb).trans h
def eE(n q f r:Int)(b:L8):Nat:=if (Fr.within Fr.N n&&Fr.within Fr.S q&&Fr.within Fr.S f&&decide (1<=r∧r<=64))=wx then 7 else if 2200<b.length then 2 else 0
theorem uG(n q f r:Int)(b1:Fr.i64 n)(b2:Fr.i64 q)(b0:Fr.i64 f)(bj:Fr.i64 r)(b:L8)(Z:OA)(aj:Nat)(w:wv)(d2:b.length<=140737488351232)(bX:At w Z b):
    Calls AW 246 #[.agg #[I U n,I U q,I U f,I U r,O Z b.length aj]] w (ko w (eE n q f r b) (Fr.nums [n,q,f,r]++b)):=by
  obtain⟨w0,E⟩:∃w0,w0=w.alloc (qj #[I U n,I U q,I U f,I U r,O Z b.length aj] 145):=⟨_,rfl⟩;have b3:w0.1.size=w.1.size+1:=by rw[E];simp
  have b7:Y (AX w.1.size w w0):=by rw[E];exact gQy
  have c0:w0.cell? ⟨w.1.size,0,F⟩=tO (I U n):=by rw[E];simp
  have c1:w0.cell? ⟨w.1.size,1,F⟩=tO (I U q):=by rw[E];simp
  have c2:w0.cell? ⟨w.1.size,2,F⟩=tO (I U f):=by rw[E];simp
  have c3:w0.cell? ⟨w.1.size,3,F⟩=tO (I U r):=by rw[E];simp
  have c4:w0.cell? ⟨w.1.size,4,F⟩=tO (O Z b.length aj):=by rw[E];simp
  obtain⟨w1,a2⟩:∃w1,w1=w0.alloc (qj #[I U n] 2):=⟨_,rfl⟩;have bp:Y (Ints w1 (w.1.size+1) [n]):=by rw[a2];exact ints_at b3 [n] rfl
  have L:Y (AX w0.1.size w0 w1):=by rw[a2];exact gQy
  have bl:Y (AX w.1.size w w1):=b7.out.trans (L.out.mono (by omega));have b4:w1.1.size=w.1.size+1+1:=by rw[a2];simp[b3]
  have cn:=ae L.out c0;have co:=ae L.out c1;have cp:=ae L.out c2;have cq:=ae L.out c3;have cr:=ae L.out c4;have a4:=gQq (jM 2147483648 (w.1.size+1) [n] (by simp) w1 bp.out);have bO:[n].all (Fr.within 2147483648)=Fr.within Fr.N n:=by simp[Fr.N]
  rw[bO] at a4;have bv:Y ((w.alloc (qj #[I U n,I U q,I U f,I U r,O Z b.length aj] 145)).alloc (qj #[I U n] 2)=w1):=by rw[a2,E];exact rfl
  obtain⟨o,a3⟩:∃o,o=w1.alloc (qj #[I U q,I U f] 2):=⟨_,rfl⟩;have V:Y (AX w1.1.size w1 o):=by rw[a3];exact gQy
  have X:Y (AX w.1.size w o):=bl.out.trans (V.out.mono (by omega));have a5:=gQq (jM 1099511627776 w1.1.size [q,f] (by simp) o (by rw[a3];exact fb w1 [q,f] rfl));have bT:[q,f].all (Fr.within 1099511627776)=(Fr.within Fr.S q&&Fr.within Fr.S f):=by simp[Fr.S]
  rw[bT] at a5;have cx:o.1.size=w.1.size+1+1+1:=by rw[a3];simp[b4]
  have c5:=ae V.out cn;have c6:=ae V.out co;have c7:=ae V.out cp;have c8:=ae V.out cq;have c9:=ae V.out cr;have bN:Y (w1.alloc (qj #[I U q,I U f] 2)=o):=by rw[a3];exact rfl
  obtain⟨A,be⟩:∃A,A=eE n q f r b:=⟨_,rfl⟩;have bn:=gQq be;rw[<-be];have b6:=gQq bX;have cc:=gQq (And.intro b1 (And.intro b2 (And.intro b0 bj)));obtain⟨ak,a6⟩:∃ak,ak=Fr.within Fr.N n:=⟨_,rfl⟩;obtain⟨aw,a7⟩:∃aw,aw=(Fr.within Fr.S q&&Fr.within Fr.S f):=⟨_,rfl⟩;rw[<-a6] at a4;rw[<-a7] at a5;have J:Y (A=if (ak&&aw&&decide (1<=r∧r<=64))=wx then 7 else if 2200<b.length then 2 else 0):=by
    show _=_;rw[bn.out,a6,a7,eE,<-Bool.and_assoc]
  have bq:Y (ak=true->aw=true->(0<=n∧0<=q∧0<=f)):=by
    intro ab ah;rw[a6] at ab;rw[a7,Bool.and_eq_true] at ah;exact⟨(Fr.within_iff.1 ab).1,(Fr.within_iff.1 ah.1).1,(Fr.within_iff.1 ah.2).1⟩
  have cw:=bj;unfold Fr.i64 at cw;clear bO bT E a2 a3 b1 b2 b0 bj be bX c0 c1 c2 c3 c4 bp L bn a6 a7;go_enter func246,ntmps246;go_wp2_with fail;rw[bv.out];refine a4.out.mono ?_;rintro e v ⟨rfl,a1⟩;rw[a1];clear a1 v a4 bv;cases ak with
  |false=>
    have y:Y (A=7):=J.out;go_wp2;go_ret2;rw[y.out];exact aV (by omega) bl.out
  |true=>
    go_wp2_with fail;rw[<-b4];rw[bN.out];refine a5.out.mono ?_;rintro e v ⟨rfl,a1⟩;rw[a1];clear a1 v a5 bN;cases aw with
    |false=>
      have y:Y (A=7):=J.out;go_wp2;go_ret2;rw[y.out];exact aV (by omega) X.out
    |true=>
      have cb:=gQq (bq.out (by simp) (by simp));clear bq;by_cases ab:r<1
      · have y:Y (A=7):=by
          show _=_;rw[J.out,AD (show ¬(1<=r∧r<=64) by omega)];rfl
        clear J;go_wp2;go_ret2;rw[y.out];exact aV (by omega) X.out
      by_cases ah:64<r
      · have y:Y (A=7):=by
          show _=_;rw[J.out,AD (show ¬(1<=r∧r<=64) by omega)];rfl
        clear J;go_wp2;go_ret2;rw[y.out];exact aV (by omega) X.out
      have y:Y (A=if 2200<b.length then 2 else 0):=by
        show _=_;rw[J.out,AE (show(1<=r∧r<=64) by omega)];rfl
      clear J;by_cases a0:2200<b.length
      · have cs:(2200:Int)<(b.length:Int):=(by omega);have bb:Y (A=2):=y.out.trans (AK a0);clear y a0;go_wp2;go_ret2;rw[bb.out];exact aV (by omega) X.out
      · have cs:¬(2200:Int)<(b.length:Int):=(by omega);have bb:Y (A=0):=y.out.trans (AJ a0);clear y a0;have cv:(Fr.nums [n,q,f,r]).length<=40:=by
          have ab:=Leb.put_length_le n.toNat;have ah:=Leb.put_length_le q.toNat;have a0:=Leb.put_length_le f.toNat;have d1:=Leb.put_length_le r.toNat;simp only[Fr.nums_cons,Fr.nums_nil,AH,AU];omega
        have bs:Y (Calls AW 245 #[O (tO ⟨w.1.size+1+1+1,0,F⟩) 4 4] (o.alloc (qj #[I U n,I U q,I U f,I U r] 2)).drew fun e bk=>∃p cap,e=qz (O p (Fr.nums [n,q,f,r]).length cap)∧Has bk o.1.size (O p (Fr.nums [n,q,f,r]).length cap) (Fr.nums [n,q,f,r])∧AX o.1.size o bk):=by
          refine(pV (w.1.size+1+1+1) [n,q,f,r] (by simp) (fun m cu=>?_) _ (ints_at cx [n,q,f,r] rfl).drew).mono ?_
          · have ab:=cc.out;have ah:=cb.out;unfold Fr.i64 at ab;simp only[List.mem_cons,List.not_mem_nil,or_false] at cu;omega
          · rintro e bk ⟨p,cap,rfl,a8,hb⟩;have bc:AX o.1.size o (o.alloc (qj #[I U n,I U q,I U f,I U r] 2)).drew:=gQy.drew;exact⟨p,cap,rfl,a8.lower bc.size,bc.trans (hb.mono bc.size)⟩
        obtain⟨a9,bi⟩:∃a9,a9=Fr.nums [n,q,f,r]:=⟨_,rfl⟩;rw[<-bi] at bs cv;have cd:=gQq bi;clear bi;have ct:a9.length+b.length<=140737488355328:=(by omega);go_wp2_with fail
        go_region_held3 (fun w'=>w'.cell? ⟨w.1.size,0,F⟩=tO (I U n)∧w'.cell? ⟨w.1.size,1,F⟩=tO (I U q)∧w'.cell? ⟨w.1.size,2,F⟩=tO (I U f)∧w'.cell? ⟨w.1.size,3,F⟩=tO (I U r)∧w'.cell? ⟨w.1.size,4,F⟩=tO (O Z b.length aj)) (go_keep) (first|(go_at_call 245;refine bs.out.mono ?_;rintro e d3 ⟨p3,d0,rfl,a8,D⟩;have df:=ae D c5;have dj:=ae D c6;have dr:=ae D c7;have ds:=ae D c8;have du:=ae D c9;have M:=gQq a8;have b8:=gQq D;have b5:=gQq ((b6.out.on X.out).on D);have Q:=D.size;clear a8 D)|(refine oa (B:=o.1.size) (xs:=a9) (l:=b) M.out b5.out ct Q (.tmp 41) (.tmp 43) (by rfl) (by rfl) (by rfl) (by rfl) (by rfl) ?_;intro cy ck W dv ci K;have z0:=dW K M.out (by omega) Q df;have z1:=dW K M.out (by omega) Q dj;have z2:=dW K M.out (by omega) Q dr;have z3:=dW K M.out (by omega) Q ds;have z4:=dW K M.out (by omega) Q du;have cj:=gQq K.has;have b9:=gQq (aB K.aside M.out Q);clear K))
        go_wp2;go_ret2;have e:Fr.nums [n,q,f,r]++b=dv:=(by rw[ci.out,cd.out]);rw[e];exact .inl ⟨bb.out,cy,ck,rfl,cj.out.lower (by omega),(X.out.trans (b8.out.mono (by omega))).trans (b9.out.mono (by omega))⟩
end
section
open Go.RowKit
theorem kn{o:Type}(p:o->Bool)(l:List o)(k:Nat)(h:k<l.length):(l.take (k+1)).all p=((l.take k).all p&&p l[k]):=by
 rw[List.take_succ_eq_append_getElem h,List.all_append];simp
theorem jA(es:List Ent)(k:Nat)(h:k<es.length):((es.take (k+1)).map Fr.entB).flatten=((es.take k).map Fr.entB).flatten++Fr.entB es[k]:=Sch.flatten_take Fr.entB es k h
theorem rN(x:Idx)(cq:Fr.i64 x.at_∧Fr.i64 x.frames∧Fr.i64 x.rows)(cj:∀e∈x.entries,Fr.i64 e.at_∧Fr.i64 e.row∧Fr.i64 e.sch)(X:OA)(aw:Nat)(w:wv)(e8:x.entries.length*24<=140737488351232)(cn:iQ w X x.entries):
    Calls AW 248 #[.agg #[I U x.at_,I U x.frames,I U x.rows,O X x.entries.length aw]] w (ko w (Fr.idxErr x) (Fr.nums [x.at_,x.frames,x.rows,(x.entries.length:Int)]++(x.entries.map Fr.entB).flatten)):=by
  obtain⟨a,b,c,es⟩:=x;dsimp only at *
  obtain⟨w0,V⟩:∃w0,w0=(w.alloc (qj #[I U a,I U b,I U c,O X es.length aw] 147)).alloc (qj #[I U a,I U b,I U c,O X es.length aw] 50):=⟨_,rfl⟩;have cr:w0.1.size=w.1.size+1+1:=by rw[V];simp
  have cy:Y (AX w.1.size w w0):=by rw[V];exact gQy.alloc (by simp) _
  have c0:w0.cell? ⟨w.1.size+1,0,F⟩=tO (I U a):=by rw[V];simp
  have c1:w0.cell? ⟨w.1.size+1,1,F⟩=tO (I U b):=by rw[V];simp
  have c2:w0.cell? ⟨w.1.size+1,2,F⟩=tO (I U c):=by rw[V];simp
  have c3:w0.cell? ⟨w.1.size+1,3,F⟩=tO (O X es.length aw):=by rw[V];simp
  obtain⟨w1,a5⟩:∃w1,w1=w0.alloc (qj #[I U a,I U b,I U c] 2):=⟨_,rfl⟩;have ab:Y (AX w0.1.size w0 w1):=by rw[a5];exact gQy
  have ah:Y (AX w.1.size w w1):=cy.out.trans (ab.out.mono (by omega));have er:w1.1.size=w.1.size+1+1+1:=by rw[a5];simp[cr]
  have d6:=ae ab.out c0;have d7:=ae ab.out c1;have d8:=ae ab.out c2;have ci:=ae ab.out c3;have K:=gQq (jM 1099511627776 (w.1.size+1+1) [a,b,c] (by simp) w1 (by rw[a5];exact ints_at cr [a,b,c] rfl));have bi:[a,b,c].all (Fr.within 1099511627776)=(Fr.within Fr.S a&&Fr.within Fr.S b&&Fr.within Fr.S c):=by simp[Fr.S,Bool.and_assoc]
  rw[bi] at K;have a1:Y (((w.alloc (qj #[I U a,I U b,I U c,O X es.length aw] 147)).alloc (qj #[I U a,I U b,I U c,O X es.length aw] 50)).alloc (qj #[I U a,I U b,I U c] 2)=w1):=by rw[a5,V];exact rfl
  obtain⟨J,b2⟩:∃J,J=Fr.idxErr ⟨a,b,c,es⟩:=⟨_,rfl⟩;rw[<-b2];obtain⟨a2,bl⟩:∃a2,a2=(Fr.within Fr.S a&&Fr.within Fr.S b&&Fr.within Fr.S c):=⟨_,rfl⟩;rw[<-bl] at K;have bO:Y (J=if a2=wx then 7 else if 64<es.length then 3 else if es.all Fr.entOk=wx then 7 else 0):=by
    show _=_;rw[b2,bl];rfl
  have cb:Y (a2=true->(0<=a∧0<=b∧0<=c)):=by
    intro M;rw[bl,Bool.and_eq_true,Bool.and_eq_true] at M;exact⟨(Fr.within_iff.1 M.1.1).1,(Fr.within_iff.1 M.1.2).1,(Fr.within_iff.1 M.2).1⟩
  have dv:=gQq cq;have c9:=gQq cn;have df:=gQq cj;clear bi V a5 b2 cq cn cj c0 c1 c2 c3 ab bl;go_enter func248,ntmps248;go_wp2_with fail;rw[a1.out];refine K.out.mono ?_;rintro e v ⟨rfl,a4⟩;rw[a4];clear a4 v K a1;cases a2 with
  |false=>
    have aj:Y (J=7):=bO.out;go_wp2;go_ret2;rw[aj.out];exact aV (by omega) ah.out
  |true=>
    have ds:=gQq (cb.out (by simp));have aj:Y (J=if 64<es.length then 3 else if es.all Fr.entOk=wx then 7 else 0):=bO.out;clear cb bO;by_cases bj:64<es.length
    · have d9:(64:Int)<(es.length:Int):=(by omega);have bc:Y (J=3):=aj.out.trans (AK bj);clear aj bj;go_wp2;go_ret2;rw[bc.out];exact aV (by omega) ah.out
    have d9:¬(64:Int)<(es.length:Int):=(by omega);have e6:es.length<=64:=(by omega);have bc:Y (J=if es.all Fr.entOk=wx then 7 else 0):=aj.out.trans (AJ bj);clear aj bj;obtain⟨L,eb⟩:∃L:Int,L=(es.length:Int):=⟨_,rfl⟩;have HP:=gQq (pV w1.1.size [a,b,c,(es.length:Int)] (by simp) (fun m b3=>by
      have M:=dv.out;have b1:=ds.out;unfold Fr.i64 at M;simp only[List.mem_cons,List.not_mem_nil,or_false] at b3
      omega) (w1.alloc (qj #[I U a,I U b,I U c,I U (es.length:Int)] 2)) (fb w1 [a,b,c,(es.length:Int)] rfl))
    have en:(Fr.nums [a,b,c,(es.length:Int)]).length<=40:=by
      have M:=Leb.put_length_le a.toNat;have b1:=Leb.put_length_le b.toNat;have ea:=Leb.put_length_le c.toNat;have e4:=Leb.put_length_le (es.length:Int).toNat;simp only[Fr.nums_cons,Fr.nums_nil,AH,AU];omega
    obtain⟨a6,b4⟩:∃a6,a6=Fr.nums [a,b,c,(es.length:Int)]:=⟨_,rfl⟩;rw[<-b4] at HP en ⊢;rw[er] at HP;have du:=gQq b4;clear b4 eb L;have a7:Y (AX w1.1.size w1 (w1.alloc (qj #[I U a,I U b,I U c,I U (es.length:Int)] 2))):=gQy;go_wp2_with fail;refine HP.out.mono ?_;rintro e fy ⟨p2,e1,rfl,Q,hb⟩;have a8:=gQq (a7.out.trans (hb.mono a7.out.size));have f0:=ae a8.out ci;have dj:=gQq (Q.lower (B':=w1.1.size) a7.out.size);have eC:=gQq (ah.out.trans (a8.out.mono (by omega)));have fc:=a8.out.size;clear Q hb HP a7 d6 d7 d8 ci;go_wp2_with fail;go_loopw [5,37] (fun ez b6 wr=>∃(k:Nat) (xs:L8),k<=es.length∧b6=I U k∧xs.length<=40+30*k∧Y (xs=a6++((es.take k).map Fr.entB).flatten∧(es.take k).all Fr.entOk=true∧Has wr w1.1.size ez xs∧AX w1.1.size w1 wr)) (fun _ b6 _=>es.length-(intOf b6).toNat);case atStart=>exact⟨0,a6,by omega,rfl,by omega,by simp,rfl,dj.out,a8.out⟩
    case round=>
      obtain⟨k,xs,e7,rfl,fq,ak⟩:=hrel;have be:=gQq ak.out.2.2.1;have a0:=gQq ak.out.2.2.2;have cc:=gQq ak.out.1;have b7:=gQq ak.out.2.1;have co:=a0.out.size;by_cases a3:k<es.length
      · have e9:(k:Int)<(es.length:Int):=(by omega);obtain⟨eL,fs,eg,e5,d2,d3,d4⟩:=(c9.out.on (ah.out.trans (a0.out.mono (by omega)))) k a3;obtain⟨u0,u1,u2⟩:=df.out es[k] (AL a3);subst eg;obtain⟨y,bn⟩:∃y,y=es[k].at_:=⟨_,rfl⟩;obtain⟨A,bp⟩:∃A,A=es[k].row:=⟨_,rfl⟩;obtain⟨o,bq⟩:∃o,o=es[k].sch:=⟨_,rfl⟩;rw[<-bn] at d2 u0;rw[<-bp] at d3 u1;rw[<-bq] at d4 u2;unfold Fr.i64 at u0 u1 u2;have cw:=gQq (kn Fr.entOk es k a3);have c8:=gQq (jA es k a3);have bX:Y (Fr.entOk es[k]=[y,A,o].all (Fr.within 1099511627776)):=by
          show _=_;unfold Fr.entOk;rw[bn,bp,bq];simp[Fr.S,Bool.and_assoc]
        have b8:Y (Fr.entB es[k]=Fr.nums [y,A,o]):=by
          show _=_;rw[bn,bp,bq];rfl
        obtain⟨E,Z⟩:∃E,E=wr.alloc (qj #[I U y,I U A,I U o] 139):=⟨_,rfl⟩;have ev:E.1.size=wr.1.size+1:=(by rw[Z];simp);have c7:Y (AX wr.1.size wr E):=(by rw[Z];exact gQy);have cs:E.cell? ⟨wr.1.size,0,F⟩=tO (I U y):=(by rw[Z];simp);have ct:E.cell? ⟨wr.1.size,1,F⟩=tO (I U A):=(by rw[Z];simp);have cu:E.cell? ⟨wr.1.size,2,F⟩=tO (I U o):=(by rw[Z];simp);obtain⟨D,bs⟩:∃D,D=E.alloc (qj #[I U y,I U A,I U o] 2):=⟨_,rfl⟩;have a9:Y (AX E.1.size E D):=(by rw[bs];exact gQy);have bN:Y (AX wr.1.size wr D):=c7.out.trans (a9.out.mono (by omega));have z0:=ae a9.out cs;have z1:=ae a9.out ct;have z2:=ae a9.out cu;have K:=gQq (jM 1099511627776 (wr.1.size+1) [y,A,o] (by simp) D (by rw[bs];exact ints_at ev [y,A,o] rfl));have a1:Y ((wr.alloc (qj #[I U y,I U A,I U o] 139)).alloc (qj #[I U y,I U A,I U o] 2)=D):=(by rw[bs,Z];exact rfl);obtain⟨ok,b5⟩:∃ok,ok=[y,A,o].all (Fr.within 1099511627776):=⟨_,rfl⟩;have b9:Y (ok=true->0<=y∧0<=A∧0<=o):=by
          intro h;rw[b5] at h;simp only[List.all_cons,List.all_nil,Bool.and_eq_true,Fr.within_iff] at h;omega
        rw[<-b5] at K bX;clear Z bs cs ct cu bn bp bq b5 ak;go_wp2_with fail;rw[a1.out];refine K.out.mono ?_;rintro e v ⟨rfl,a4⟩;rw[a4];clear a4 v K a1;cases ok with
        |false=>
          have bT:Y (J=7):=by
            show _=_;rw[bc.out,AK];rw[List.all_eq_false];exact⟨es[k],AL a3,by rw[bX.out];decide⟩
          go_wp2;go_ret2;rw[bT.out];exact aV (by omega) (ah.out.trans ((a0.out.trans (bN.out.mono co)).mono (by omega)))
        |true=>
          have dr:=gQq (b9.out (by simp));clear b9;have fo:=bN.out.size;have HP:=gQq (pV D.1.size [y,A,o] (by simp) (fun m b3=>by
            have b1:=dr.out;simp only[List.mem_cons,List.not_mem_nil,or_false] at b3
            omega) (D.alloc (qj #[I U y,I U A,I U o] 2)) (fb D [y,A,o] rfl))
          have bv:Y (AX D.1.size D (D.alloc (qj #[I U y,I U A,I U o] 2))):=gQy;have ep:(Fr.nums [y,A,o]).length<=30:=by
            have M:=Leb.put_length_le y.toNat;have b1:=Leb.put_length_le A.toNat;have ea:=Leb.put_length_le o.toNat;simp only[Fr.nums_cons,Fr.nums_nil,AH,AU];omega
          obtain⟨u,cp⟩:∃u,u=Fr.nums [y,A,o]:=⟨_,rfl⟩;rw[<-cp] at HP ep b8;clear cp;go_wp2_with fail;refine HP.out.mono ?_;rintro e w4 ⟨p4,e2,rfl,Q,hb⟩;have c5:=gQq (bv.out.trans (hb.mono bv.out.size));have bb:=gQq (bN.out.trans (c5.out.mono (by omega)));have cx:Y (At w4 p4 u):=by
            obtain⟨fv,e0,ec,bk,-⟩:=Q.at;injection ec with bi;subst bi;exact bk
          have fi:=bb.out.size;clear Q hb HP bv
          go_wp2_with (first|(at_builtin;refine aC (be.out.on bb.out) cx.out (by omega) (by omega) rfl rfl rfl rfl rfl ?_;intro cv fx e3 W cd Q bk el;have c6:=gQq (aB bk (be.out.on bb.out) (by omega));have d1:=gQq Q;have eq:cv.length<=40+30*(k+1):=(by rw[cd.out,AU];omega);clear bk el Q)|fail)
          go_roundw;case rel=>
            refine⟨k+1,cv,by omega,by go_num,eq,?_,?_,d1.out,(a0.out.trans (bb.out.mono co)).trans c6.out⟩
            · rw[cd.out,cc.out,c8.out,b8.out,AB]
            · rw[cw.out,b7.out,bX.out];rfl
          case measure=>simp[intOf];omega
      · have em:k=es.length:=(by omega);subst em;have bT:Y (J=0):=by
          show _=_;have ck:=b7.out;rw[List.take_length] at ck;rw[bc.out,ck];rfl
        have d0:Y (a6++(es.map Fr.entB).flatten=xs):=by
          show _=_;rw[cc.out,List.take_length]
        obtain⟨ew,d5,rfl,-,-⟩:=be.out.at;clear ak;go_wp2;go_ret2;have e:Fr.nums [a,b,c,(es.length:Int)]++(es.map Fr.entB).flatten=xs:=(by rw[<-du.out,d0.out]);rw[e];exact .inl ⟨bT.out,ew,d5,rfl,be.out.lower (by omega),ah.out.trans (a0.out.mono (by omega))⟩
end
end Go.Proofs.YtngmnfdaedlodaaGreatDoor
