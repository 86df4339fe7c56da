import Derived.Test.YtngmnfdaedlodaaGreatDoorB20
import Derived.Test.YtngmnfdaedlodaaGreatDoorB03
import Derived.Test.YtngmnfdaedlodaaGreatDoorB15
set_option maxRecDepth 100000
set_option maxHeartbeats 4000000
namespace Go.Proofs.YtngmnfdaedlodaaGreatDoor
open Go.Proofs.Tryz
open Go.Value renaming int->I,slice->O
open Go.IntKind renaming i64->U
open Go.RowKit renaming Hid->Y,Below->AC
open Option renaming none->F,some->AW
open Go.Obj renaming cells->wx
open Go renaming World->AU
open Go.Proofs.Tryz renaming prog->AE
open Bool renaming false->AK
open Go.Ending renaming returned->wv
variable{B:Nat}{w w':AU}{l xs:L8}{v:Value}
section
open Go.RowKit
def Ints(w:AU)(b:Nat)(l:List Int):Prop:=b<w.1.size∧∀j (h:j<l.length),w.cell? ⟨b,j,F⟩=AW (I U l[j])
theorem Ints.on{b:Nat}{l:List Int}(h:Ints w b l)(hb:AC w.1.size w w'):Ints w' b l :=
 ⟨AS h.1 hb.size,fun j o=>by rw[hb.cell (p:=⟨b,j,F⟩) h.1];exact h.2 j o⟩
theorem ff(w:AU)(l:List Int){C:AV}(h:C=(l.map fun n=>I U n).toArray):Ints (w.alloc (wx C 2)) w.1.size l:=by
 subst h;refine⟨by simp,fun j o=>?_⟩;rw[World.cell?_alloc_new];simp[o]
theorem jQ(o:Int)(b:Nat)(l:List Int)(aj:l.length<=100)(w:AU)(h:Ints w b l):
  Calls AE 244 #[I U o,O (AW ⟨b,0,F⟩) l.length l.length] w fun e w'=>e=wv (.bool (l.all (Fr.within o)))∧w'=w:=by
 have H:=gQq h;clear h;obtain⟨R,K⟩:∃R,R=l.all (Fr.within o):=⟨_,rfl⟩;rw[<-K];have V:=gQq K;clear K;go_enter func244,ntmps244;go_wp2;go_loop [9] (fun Q=>∃k:Nat,k<=l.length∧Q=I U k∧Y ((l.take k).all (Fr.within o)=true)) (fun Q=>l.length-(intOf Q).toNat);case atStart=>exact⟨0,by omega,rfl,rfl⟩
 case round=>
  obtain⟨k,ai,rfl,D⟩:=hrel;by_cases M:k<l.length
  ·have ak:(k:Int)<(l.length:Int):=(by omega);have Z:=H.out.2 k M;obtain⟨n,E⟩:∃n,n=l[k]:=⟨_,rfl⟩;rw[<-E] at Z;have S:Y (n∈l):=(by show n∈l;rw[E];exact Aw M);have y:Y (Fr.within o n=true->(l.take (k+1)).all (Fr.within o)=true):=fun L=>by
    rw[List.take_succ_eq_append_getElem M,List.all_append,D.out,<-E];simp[L]
   have A:Y (Fr.within o n=AK->R=AK):=fun L=>by
    rw[V.out,List.all_eq_false];exact⟨n,S.out,by rw[L];decide⟩
   clear E S D;by_cases aw:n<0
   ·have J:Y (R=AK):=A.out (AP (by omega));clear A y;go_wp2;go_ret;exact⟨by rw[J.out];rfl,rfl⟩
   ·by_cases ah:o<=n
    ·have J:Y (R=AK):=A.out (AP (by omega));clear A y;go_wp2;go_ret;exact⟨by rw[J.out];rfl,rfl⟩
    ·have X:Y ((l.take (k+1)).all (Fr.within o)=true):=y.out (AR (by omega));clear A y;go_wp2;go_round;case rel=>exact⟨k+1,by omega,by go_num,X⟩
     case measure=>simp[intOf];omega
  ·have ab:k=l.length:=(by omega);subst ab;have y:Y (R=true):=by
    show _=_;rw[V.out,<-D.out,List.take_length]
   clear D;go_wp2;go_ret;exact⟨by rw[y.out];rfl,rfl⟩
theorem jt(l:List Int)(k:Nat)(h:k<l.length):Fr.nums (l.take (k+1))=Fr.nums (l.take k)++Leb.put l[k].toNat:=by
 unfold Fr.nums;rw[List.take_succ_eq_append_getElem h,List.map_append,List.flatten_append];simp
theorem qd(b:Nat)(l:List Int)(bk:l.length<=100)(ai:∀n∈l,0<=n∧n<=9223372036854775807)(w:AU)(h:Ints w b l):
    Calls AE 245 #[O (AW ⟨b,0,F⟩) l.length l.length] w fun e w'=>∃p cap,e=wv (O p (Fr.nums l).length cap)∧Has w' w.1.size (O p (Fr.nums l).length cap) (Fr.nums l)∧AC w.1.size w w':=by
  have H:=gQq h;have a1:=gQq ai;clear h ai;go_enter func245,ntmps245;go_wp2;go_loopw [3,8] (fun bb M wr=>∃(k:Nat) (xs:L8),k<=l.length∧M=I U k∧xs.length<=10*k∧Y (xs=Fr.nums (l.take k)∧Has wr w.1.size bb xs∧AC w.1.size w wr)) (fun _ M _=>l.length-(intOf M).toNat);case atStart=>exact⟨0,[],by omega,rfl,by simp,rfl,bG _ _,gQz⟩
  case round=>
    obtain⟨k,xs,bj,rfl,bp,o⟩:=hrel;have a3:=o.out.2.2.size;have y:=gQq o.out.2.1;by_cases L:k<l.length
    · have bl:(k:Int)<(l.length:Int):=(by omega);have a4:wr.cell? ⟨b,k,F⟩=AW (I U l[k]):=(o.out.2.2.cell (p:=⟨b,k,F⟩) H.out.1).trans (H.out.2 k L);have K:=a1.out l[k] (Aw L);have E:=gQq (jt l k L);obtain⟨m,Z⟩:∃m:Nat,(m:Int)=l[k]:=⟨l[k].toNat,by omega⟩;rw[<-Z] at a4 K E;have bn:(m:Int)<=9223372036854775807:=K.2;have D:Y (∀z:Int,z=(m:Int)->Calls AE 86 #[I .u64 z] wr fun e w'=>∃g cap,e=wv (O (AW ⟨g,0,F⟩) (Leb.put m).length cap)∧br w' wr.1.size g cap (Leb.put m)∧AC wr.1.size wr w'):=fun z a9=>by
        subst a9;exact dA _ (by omega) wr
      have a7:=Leb.put_length_le m;have Q:Y (Fr.nums (l.take (k+1))=Fr.nums (l.take k)++Leb.put m):=by
        show _=_;rw[E.out,Int.toNat_natCast]
      clear Z K E;obtain⟨u,ah⟩:∃u,u=Leb.put m:=⟨_,rfl⟩;rw[<-ah] at D a7 Q;clear ah;go_wp2_with fail;refine(D.out _ (by omega)).mono ?_;rintro e w1 ⟨g,bc,rfl,ab,J⟩;have a0:=gQq ab;have A:=gQq J;have bi:=J.size;clear ab J D
      go_wp2_with (first|(at_builtin;refine aD (y.out.on A.out) a0.out.at (by omega) (by omega) rfl rfl rfl rfl rfl ?_;intro aj bq be W S X V a5;have ak:=gQq (aC V (y.out.on A.out) (by omega));have aw:=gQq X;have a8:aj.length<=10*(k+1):=(by rw[S.out,AH];omega);clear V a5 X)|fail)
      go_roundw;case rel=>exact⟨k+1,aj,by omega,by go_num,a8,by rw[S.out,Q.out,o.out.1],aw.out,(o.out.2.2.trans (A.out.mono a3)).trans ak.out⟩
      case measure=>simp[intOf];omega
    · have a6:k=l.length:=(by omega);subst a6;have a2:Y (xs=Fr.nums l):=by
        show _=_;rw[o.out.1,List.take_length]
      obtain⟨p,cap,rfl,-,-⟩:=y.out.at;go_wp2;go_ret;rw[<-a2.out];exact⟨p,cap,rfl,y.out,o.out.2.2⟩
end
section
open Go.RowKit
theorem Hv.on(h:Hv w)(hb:AC B w w')(o:2<B):Hv w':=fun n y=>by
 rw[hb.cell (p:=⟨2,n,F⟩) o];exact h n y
theorem Hv.lt(h:Hv w):2<w.1.size:=World.block_lt_of_cell? _ _ (h 0 (by omega))
theorem Hv.next(h:Hv w)(hb:AC w.1.size w w'):Hv w':=h.on hb h.lt
theorem rF(s:Nat)(a b c d:Int)(o:a=((s % 256:Nat):Int))(hb:b=((s / 256 % 256:Nat):Int))(y:c=((s / 256 / 256 % 256:Nat):Int))(hd:d=((s / 256 / 256 / 256 % 256:Nat):Int)):
  (#[I .u8 a,I .u8 b,I .u8 c,I .u8 d]:AV)=(cellsOf (Sch.le 4 s)).toArray:=by
 subst o hb y hd;simp only[Sch.le,cellsOf,List.map_cons,List.map_nil,UInt8.toNat_ofNat'];simp
theorem s7(p:OA)(c:Nat)(l:L8)(E:l.length<=140737488351232)(w:AU)(A:Hv w)(h:At w p l):
  Calls AE 74 #[O p l.length c] w fun e w'=>e=wv (O (AW ⟨w.1.size,0,F⟩) 4 4)∧w'=w.alloc (wx (cellsOf (Sch.le 4 (Crc.sum l))).toArray 5):=by
 have o:=gQq (vO p c l E w A h);have J:Crc.sum l<4294967296:=Crc.update_lt (by omega) l;obtain⟨s,y⟩:∃s,s=Crc.sum l:=⟨_,rfl⟩;rw[<-y] at o J ⊢;clear y A h;go_enter func74,ntmps74;go_wp2_with fail;refine o.out.mono ?_;rintro e w1 ⟨rfl,D⟩;rw[D];clear D w1 o;go_wp2;go_ret;refine⟨rfl,congrArg (fun C=>w.alloc (wx C 5)) (rF s _ _ _ _ ?_ ?_ ?_ ?_)⟩ <;> omega
theorem tb(B:Nat)(p:OA)(c:Nat)(l:L8)(bi:l.length<=10000000)(w:AU)(ai:Hv w)(h:Has w B (O p l.length c) l)(a5:B<=w.1.size):
    Calls AE 66 #[O p l.length c] w fun e w'=>∃g E cap,e=wv (O (AW ⟨g,E,F⟩) (Cob.stuff (Fr.check l)).length cap)∧fD w' g E (Cob.stuff (Fr.check l))∧w.1.size<=g∧(Cob.stuff (Fr.check l)).length<=cap∧AC B w w':=by
  have ak:Y (At w p l):=by
    obtain⟨bn,bb,K,A,-⟩:=h.at;injection K with e1;subst e1;exact A
  have Q:=gQq h;have y:=gQq (s7 p c l (by omega) w ai ak.out);have J:Y (At (w.alloc (wx (cellsOf (Sch.le 4 (Crc.sum l))).toArray 5)) (AW ⟨w.1.size,0,F⟩) (Sch.le 4 (Crc.sum l))):=uX w _ _ rfl;have o:Y (AC w.1.size w (w.alloc (wx (cellsOf (Sch.le 4 (Crc.sum l))).toArray 5))):=gQy;obtain⟨k,D⟩:∃k,k=Sch.le 4 (Crc.sum l):=⟨_,rfl⟩;have a9:k.length=4:=by rw[D,Sch.le_len]
  have a0:Y (Fr.check l=l++k):=by show _=_;rw[D];rfl
  rw[<-D] at y J o;obtain⟨V,ab⟩:∃V,V=w.alloc (wx (cellsOf k).toArray 5):=⟨_,rfl⟩;rw[<-ab] at y J o;have bj:=o.out.size;clear ab D ai h;go_enter func66,ntmps66;go_wp2_with fail;refine y.out.mono ?_;rintro e w1 ⟨rfl,aj⟩;rw[aj];clear aj w1 y
  go_wp2_with (first|(at_builtin;refine aD (c:=4) (Q.out.on o.out) J.out (by omega) (by omega) rfl rfl rfl rfl (by rw[a9];rfl) ?_;intro L q cap W S ah A a8;have M:=gQq (aC A (Q.out.on o.out) (by omega));have a3:=gQq ah;have bl:L.length<=10000010:=(by rw[S.out,AH];omega);clear A a8 ah)|fail)
  obtain⟨bp,bc,K,X,a7⟩:=a3.out.at;injection K with e1 _ e2;subst e1 e2;have bk:=M.out.size;refine(ll q cap L W (by omega) a7 X).mono ?_;rintro e bq ⟨g,E,a4,rfl,Z,be,a6,hb⟩;have a2:=gQq Z;have aw:=gQq hb;clear Z hb X;have a1:Y (Fr.check l=L):=by show _=_;rw[a0.out,S.out]
  go_wp2;go_ret;rw[a1.out];exact⟨g,E,a4,rfl,a2.out,by omega,a6,((o.out.mono a5).trans M.out).trans (aw.out.mono (by omega))⟩
theorem yK(p q:OA)(c d:Nat)(a b:L8)(w:AU)(y:At w p a)(hb:At w q b):
  Calls AE 73 #[O p a.length c,O q b.length d] w fun e w'=>e=wv (.bool (a==b))∧w'=w:=by
 have A:=cP y c;have D:=cP hb d;have o:Y (((textOf a).toList==(textOf b).toList)=(a==b)):=by
  show _=_;rw[ByteArray.toList_eq,ByteArray.toList_eq,iC,iC]
 clear y hb;generalize textOf a=x at A o;generalize textOf b=E at D o;go_enter func73,ntmps73;go_wp2;go_ret;exact⟨by rw[<-o.out];rfl,rfl⟩
theorem tL(n c:Nat)(w:AU):(binOp .eql 40 (O F n c) (O F 0 0)).run AE w=.ok (.bool true) w:=by kernel_rfl
theorem tK(a:Addr)(n c:Nat)(w:AU):(binOp .eql 40 (O (AW a) n c) (O F 0 0)).run AE w=.ok (.bool AK) w:=by kernel_rfl
theorem yQ(p:OA)(c:Nat)(l:L8)(Z:l.length<=140737488351232)(w:AU)(h:At w p l):
    Calls AE 105 #[O p l.length c] w fun e w'=>∃q cap,e=wv (O q l.length cap)∧Has w' w.1.size (O q l.length cap) l∧AC w.1.size w w':=by
  cases p with
  |none=>
    have M:l=[]:=by
      rcases h with rfl | ⟨b,o,S,_,_⟩
      · rfl
      · cases S
    subst M;have V:=tL 0 c w;go_enter func105,ntmps105;go_wp2;go_ret;exact⟨F,0,rfl,bG _ _,gQz⟩
  |some a=>
    have E:=gQq (h.on ((Below.refl _ w).alloc gQx (wx #[] 5)));have HM:=gQq (nc w).has;have J:Y (AC w.1.size w (w.alloc (wx #[] 5))):=gQy;have V:=tK a l.length c w;clear h;go_enter func105,ntmps105
    go_wp2_with (first|(at_builtin;refine aD (xs:=[]) HM.out E.out (by simp;omega) (by simp) rfl rfl rfl rfl rfl ?_;intro X q cap W L D A Q;have K:=gQq (aC A HM.out (by simp));have y:=gQq D;clear A Q D)|fail)
    go_ret;have e:X=l:=L.out;rw[e] at y;rw[e];exact⟨q,cap,rfl,y.out,J.out.trans K.out⟩
end
section
open Go.RowKit
theorem ints_at{H:Nat}(o:w.1.size=H)(l:List Int){C:AV}(h:C=(l.map fun n=>I U n).toArray):Ints (w.alloc (wx C 2)) H l:=by
 subst o;exact ff w l h
def kt(w:AU)(er:Nat)(l:L8)(e:Ending)(w':AU):Prop :=
 (er=0∧∃q cap,e=wv (.tuple #[O q l.length cap,I U 0])∧Has w' w.1.size (O q l.length cap) l∧AC w.1.size w w')∨(er≠0∧e=wv (.tuple #[O F 0 0,I U (er:Nat)])∧AC w.1.size w w')
theorem aW{o:Nat}(h:o≠0)(hb:AC w.1.size w w'):kt w o l (wv (.tuple #[O F 0 0,I U (o:Nat)])) w':=.inr ⟨h,rfl,hb⟩
def dH(n:Int)(s:List Col):Nat:=if Fr.within Fr.N n=AK then 7 else Sch.err s
theorem oC(n:Int)(bj:Fr.i64 n)(s:List Col)(sp:OA)(S:Nat)(w:AU)(cd:s.length*120<=140737488351232)(bn:cU w sp s)(bl:∀x∈s,x.wf):
    Calls AE 242 #[.agg #[I U n,O sp s.length S]] w (kt w (dH n s) (Fr.nums [n]++Sch.bytes s)):=by
  obtain⟨w0,Q⟩:∃w0,w0=w.alloc (wx #[I U n,O sp s.length S] 143):=⟨_,rfl⟩;have bp:w0.1.size=w.1.size+1:=by rw[Q];simp
  have bN:Y (AC w.1.size w w0):=by rw[Q];exact gQy
  have c0:w0.cell? ⟨w.1.size,0,F⟩=AW (I U n):=by rw[Q];simp
  have c1:w0.cell? ⟨w.1.size,1,F⟩=AW (O sp s.length S):=by rw[Q];simp
  obtain⟨w1,X⟩:∃w1,w1=w0.alloc (wx #[I U n] 2):=⟨_,rfl⟩;have a6:Y (Ints w1 (w.1.size+1) [n]):=by rw[X];exact ints_at bp [n] rfl
  have Z:Y (AC w0.1.size w0 w1):=by rw[X];exact gQy
  have ab:Y (AC w.1.size w w1):=bN.out.trans (Z.out.mono (by omega));have cq:w1.1.size=w.1.size+2:=by rw[X];simp[bp]
  have a9:w1.cell? ⟨w.1.size,0,F⟩=AW (I U n):=ae Z.out c0;have b6:w1.cell? ⟨w.1.size,1,F⟩=AW (O sp s.length S):=ae Z.out c1;have y:=gQq (jQ 2147483648 (w.1.size+1) [n] (by simp) w1 a6.out);have bb:[n].all (Fr.within 2147483648)=Fr.within Fr.N n:=by simp[Fr.N]
  rw[bb] at y;have L:Y ((w.alloc (wx #[I U n,O sp s.length S] 143)).alloc (wx #[I U n] 2)=w1):=by rw[X,Q];exact rfl
  have bX:=gQq bj;obtain⟨K,a3⟩:∃K,K=dH n s:=⟨_,rfl⟩;have aj:=gQq a3;rw[<-a3];have b2:=gQq bn;have b1:=gQq bl;clear bb Q X bj a3 bn bl c0 c1 a6 Z;by_cases M:Fr.within Fr.N n=true
  · rw[M] at y;have J:Y (K=Sch.err s):=by
      show _=_;rw[aj.out,dH,M];rfl
    have b7:=(Fr.within_iff.1 M).1;have E:=gQq (jd s sp S w1 cd (b2.out.on ab.out) b1.out);clear aj M;by_cases D:Sch.err s=0
    · have bT:Y (K=0):=J.out.trans D;have b8:(Sch.bytes s).length<=1024:=(Sch.err_open D).2.2.2;rw[show encB s=Sch.bytes s from AG D,D] at E;obtain⟨a1,be⟩:∃a1,a1=Sch.bytes s:=⟨_,rfl⟩;rw[<-be] at E b8 ⊢;clear D J be;go_enter func242,ntmps242;go_wp2_with fail;rw[L.out];refine y.out.mono ?_;rintro e o ⟨rfl,A⟩;rw[A];clear A o y L;go_wp2_with fail;refine E.out.mono ?_;rintro e o ⟨q,cap,rfl,ak,a2,hb⟩;have cn:o.cell? ⟨w.1.size,0,F⟩=AW (I U n):=ae hb a9;have bs:=gQq ak;have ah:=gQq (ab.out.trans (hb.mono (by omega)));have cp:=ah.out.size;clear ak a2 hb E a9 b6;have a7:Y (Ints (o.alloc (wx #[I U n] 2)) o.1.size [n]):=ff o [n] rfl;have ai:Y (AC o.1.size o (o.alloc (wx #[I U n] 2))):=gQy;have a8:=gQq (qd o.1.size [n] (by simp) (fun m bi=>by simp at bi;subst bi;exact⟨b7,bX.out.2⟩) _ a7.out);go_wp2_with fail;refine a8.out.mono ?_;rintro e cr ⟨p3,ck,rfl,V,hb⟩;have a0:=gQq (V.lower (B':=o.1.size) ai.out.size);have aw:=gQq (ai.out.trans (hb.mono ai.out.size));have bv:=gQq (bs.out.on aw.out);have bk:=aw.out.size;clear V hb a8 a7 ai;have cc:(Fr.nums [n]).length<=10:=by
        have:=Leb.put_length_le n.toNat;rw[Fr.nums_cons,Fr.nums_nil,Az];exact this
      obtain⟨bq,a5⟩:∃bq,bq=Fr.nums [n]:=⟨_,rfl⟩;rw[<-a5] at a0 cc ⊢;have b0:=gQq a5;clear a5
      go_wp2_with (first|(at_builtin;refine aD a0.out bv.out (by omega) bk rfl rfl rfl rfl rfl ?_;intro cj ci b5 W b3 V bc b9;have bO:=gQq (aC bc a0.out bk);have b4:=gQq V;clear bc b9 V)|fail)
      go_ret2;have e:Fr.nums [n]++a1=cj:=(by rw[b3.out,b0.out]);rw[e];exact .inl ⟨bT.out,ci,b5,rfl,b4.out.lower (by omega),(ah.out.trans (aw.out.mono (by omega))).trans (bO.out.mono (by omega))⟩
    · have cb:K≠0:=(by rw[J.out];exact D);have co:((K:Int) != 0)=true:=(by rw[bne_iff_ne];omega);rw[show encB s=[] from AF D,<-J.out] at E;clear D J;go_enter func242,ntmps242;go_wp2_with fail;rw[L.out];refine y.out.mono ?_;rintro e o ⟨rfl,A⟩;rw[A];clear A o y L;go_wp2_with fail;refine E.out.mono ?_;rintro e o ⟨q,cap,rfl,ak,a2,hb⟩;have ah:=gQq (ab.out.trans (hb.mono (by omega)));clear ak a2 hb E;go_wp2;go_ret2;exact aW cb ah.out
  · have a4:Fr.within Fr.N n=false:=(by simpa using M);rw[a4] at y;have J:Y (K=7):=by
      show _=_;rw[aj.out,dH,a4];rfl
    clear aj M a4;go_enter func242,ntmps242;go_wp2_with fail;rw[L.out];refine y.out.mono ?_;rintro e o ⟨rfl,A⟩;rw[A];clear A o y L;go_wp2;go_ret2;rw[J.out];exact aW (by omega) ab.out
end
section
open Go.RowKit
theorem ou{p:OA}{c:Nat}(ah:Has w B v xs)(h:At w p l)(X:xs.length+l.length<=140737488355328)(K:B<=w.1.size){D:Array Oper}{o:Oper}{a:Act}{A:Act->AU->Prop}{J:Exit->Act->AU->Prop}{E:Prop}(s x:Operand)(ak:o.type=40)(V:o.guard=F)(ab:o.op=Op.call { callee:=Callee.builtin Builtin.append,args:=#[s,x],argTypes:=#[40,40] })(aj:a.eval s=v)(a0:a.eval x=O p l.length c)(L:∀q cap W y,Y (y=xs++l)->bE w B v W (O q y.length cap) y->A (a.put o.dst (O q y.length cap)) W):
  if Region.wanted o (yielded D a.tmps)=true then Oper.wp AE o a w A J else E:=by
 have aw:Region.wanted o (yielded D a.tmps)=true:=by simp[Region.wanted,V]
 rw[AG aw];obtain⟨q,cap,W,⟨ai⟩,Z,M,-,Q⟩:=eW B v xs l p c w ah h X K;unfold Oper.wp;have S:(execOp a.eval o).run AE w=.ok (.value (O q (xs++l).length cap)) W:=by
  simp only[execOp,ab,resolve,invoke,builtin];simp[aj,a0,ak,ai,Result.andThen]
 rw[S];exact L q cap W (xs++l) (gQq rfl) ⟨Z,M,Q⟩
theorem Ints.drew{b:Nat}{l:List Int}(h:Ints w b l):Ints w.drew b l:=⟨h.1,fun j o=>h.2 j o⟩
theorem dZ{W:AU}{q:Value}{E:L8}(A:bE w B v W q E)(D:Has w B v xs){b o:Nat}{u:Value}(hb:b<B)(y:B<=w.1.size)(h:w.cell? ⟨b,o,F⟩=AW u):W.cell? ⟨b,o,F⟩=AW u :=
 ((aC A.aside D y).cell (p:=⟨b,o,F⟩) hb).trans h
def eG(n q f r:Int)(b:L8):Nat:=if (Fr.within Fr.N n&&Fr.within Fr.S q&&Fr.within Fr.S f&&decide (1<=r∧r<=64))=AK then 7 else if 2200<b.length then 2 else 0
theorem uM(n q f r:Int)(b0:Fr.i64 n)(b1:Fr.i64 q)(bX:Fr.i64 f)(bi:Fr.i64 r)(b:L8)(Z:OA)(ai:Nat)(w:AU)(d1:b.length<=140737488351232)(bT:At w Z b):
    Calls AE 246 #[.agg #[I U n,I U q,I U f,I U r,O Z b.length ai]] w (kt w (eG n q f r b) (Fr.nums [n,q,f,r]++b)):=by
  obtain⟨w0,E⟩:∃w0,w0=w.alloc (wx #[I U n,I U q,I U f,I U r,O Z b.length ai] 145):=⟨_,rfl⟩;have b2:w0.1.size=w.1.size+1:=by rw[E];simp
  have b6:Y (AC w.1.size w w0):=by rw[E];exact gQy
  have c0:w0.cell? ⟨w.1.size,0,F⟩=AW (I U n):=by rw[E];simp
  have c1:w0.cell? ⟨w.1.size,1,F⟩=AW (I U q):=by rw[E];simp
  have c2:w0.cell? ⟨w.1.size,2,F⟩=AW (I U f):=by rw[E];simp
  have c3:w0.cell? ⟨w.1.size,3,F⟩=AW (I U r):=by rw[E];simp
  have c4:w0.cell? ⟨w.1.size,4,F⟩=AW (O Z b.length ai):=by rw[E];simp
  obtain⟨w1,a1⟩:∃w1,w1=w0.alloc (wx #[I U n] 2):=⟨_,rfl⟩;have bn:Y (Ints w1 (w.1.size+1) [n]):=by rw[a1];exact ints_at b2 [n] rfl
  have L:Y (AC w0.1.size w0 w1):=by rw[a1];exact gQy
  have bk:Y (AC w.1.size w w1):=b6.out.trans (L.out.mono (by omega));have b3:w1.1.size=w.1.size+1+1:=by rw[a1];simp[b2]
  have ck:=ae L.out c0;have cn:=ae L.out c1;have co:=ae L.out c2;have cp:=ae L.out c3;have cq:=ae L.out c4;have a3:=gQq (jQ 2147483648 (w.1.size+1) [n] (by simp) w1 bn.out);have bN:[n].all (Fr.within 2147483648)=Fr.within Fr.N n:=by simp[Fr.N]
  rw[bN] at a3;have bs:Y ((w.alloc (wx #[I U n,I U q,I U f,I U r,O Z b.length ai] 145)).alloc (wx #[I U n] 2)=w1):=by rw[a1,E];exact rfl
  obtain⟨o,a2⟩:∃o,o=w1.alloc (wx #[I U q,I U f] 2):=⟨_,rfl⟩;have V:Y (AC w1.1.size w1 o):=by rw[a2];exact gQy
  have X:Y (AC w.1.size w o):=bk.out.trans (V.out.mono (by omega));have a4:=gQq (jQ 1099511627776 w1.1.size [q,f] (by simp) o (by rw[a2];exact ff w1 [q,f] rfl));have bO:[q,f].all (Fr.within 1099511627776)=(Fr.within Fr.S q&&Fr.within Fr.S f):=by simp[Fr.S]
  rw[bO] at a4;have cw:o.1.size=w.1.size+1+1+1:=by rw[a2];simp[b3]
  have cy:=ae V.out ck;have c5:=ae V.out cn;have c6:=ae V.out co;have c7:=ae V.out cp;have c8:=ae V.out cq;have bv:Y (w1.alloc (wx #[I U q,I U f] 2)=o):=by rw[a2];exact rfl
  obtain⟨A,bc⟩:∃A,A=eG n q f r b:=⟨_,rfl⟩;have bl:=gQq bc;rw[<-bc];have b5:=gQq bT;have cb:=gQq (And.intro b0 (And.intro b1 (And.intro bX bi)));obtain⟨aj,a5⟩:∃aj,aj=Fr.within Fr.N n:=⟨_,rfl⟩;obtain⟨ak,a6⟩:∃ak,ak=(Fr.within Fr.S q&&Fr.within Fr.S f):=⟨_,rfl⟩;rw[<-a5] at a3;rw[<-a6] at a4;have J:Y (A=if (aj&&ak&&decide (1<=r∧r<=64))=AK then 7 else if 2200<b.length then 2 else 0):=by
    show _=_;rw[bl.out,a5,a6,eG,<-Bool.and_assoc]
  have bp:Y (aj=true->ak=true->(0<=n∧0<=q∧0<=f)):=by
    intro ab ah;rw[a5] at ab;rw[a6,Bool.and_eq_true] at ah;exact⟨(Fr.within_iff.1 ab).1,(Fr.within_iff.1 ah.1).1,(Fr.within_iff.1 ah.2).1⟩
  have cv:=bi;unfold Fr.i64 at cv;clear bN bO E a1 a2 b0 b1 bX bi bc bT c0 c1 c2 c3 c4 bn L bl a5 a6;go_enter func246,ntmps246;go_wp2_with fail;rw[bs.out];refine a3.out.mono ?_;rintro e v ⟨rfl,a0⟩;rw[a0];clear a0 v a3 bs;cases aj with
  |false=>
    have y:Y (A=7):=J.out;go_wp2;go_ret2;rw[y.out];exact aW (by omega) bk.out
  |true=>
    go_wp2_with fail;rw[<-b3];rw[bv.out];refine a4.out.mono ?_;rintro e v ⟨rfl,a0⟩;rw[a0];clear a0 v a4 bv;cases ak with
    |false=>
      have y:Y (A=7):=J.out;go_wp2;go_ret2;rw[y.out];exact aW (by omega) X.out
    |true=>
      have b9:=gQq (bp.out (by simp) (by simp));clear bp;by_cases ab:r<1
      · have y:Y (A=7):=by
          show _=_;rw[J.out,AP (show ¬(1<=r∧r<=64) by omega)];rfl
        clear J;go_wp2;go_ret2;rw[y.out];exact aW (by omega) X.out
      by_cases ah:64<r
      · have y:Y (A=7):=by
          show _=_;rw[J.out,AP (show ¬(1<=r∧r<=64) by omega)];rfl
        clear J;go_wp2;go_ret2;rw[y.out];exact aW (by omega) X.out
      have y:Y (A=if 2200<b.length then 2 else 0):=by
        show _=_;rw[J.out,AR (show(1<=r∧r<=64) by omega)];rfl
      clear J;by_cases aw:2200<b.length
      · have cr:(2200:Int)<(b.length:Int):=(by omega);have a9:Y (A=2):=y.out.trans (AG aw);clear y aw;go_wp2;go_ret2;rw[a9.out];exact aW (by omega) X.out
      · have cr:¬(2200:Int)<(b.length:Int):=(by omega);have a9:Y (A=0):=y.out.trans (AF aw);clear y aw;have cu:(Fr.nums [n,q,f,r]).length<=40:=by
          have ab:=Leb.put_length_le n.toNat;have ah:=Leb.put_length_le q.toNat;have aw:=Leb.put_length_le f.toNat;have d0:=Leb.put_length_le r.toNat;simp only[Fr.nums_cons,Fr.nums_nil,Az,AH];omega
        have bq:Y (Calls AE 245 #[O (AW ⟨w.1.size+1+1+1,0,F⟩) 4 4] (o.alloc (wx #[I U n,I U q,I U f,I U r] 2)).drew fun e bj=>∃p cap,e=wv (O p (Fr.nums [n,q,f,r]).length cap)∧Has bj o.1.size (O p (Fr.nums [n,q,f,r]).length cap) (Fr.nums [n,q,f,r])∧AC o.1.size o bj):=by
          refine(qd (w.1.size+1+1+1) [n,q,f,r] (by simp) (fun m ct=>?_) _ (ints_at cw [n,q,f,r] rfl).drew).mono ?_
          · have ab:=cb.out;have ah:=b9.out;unfold Fr.i64 at ab;simp only[List.mem_cons,List.not_mem_nil,or_false] at ct;omega
          · rintro e bj ⟨p,cap,rfl,a7,hb⟩;have bb:AC o.1.size o (o.alloc (wx #[I U n,I U q,I U f,I U r] 2)).drew:=gQy.drew;exact⟨p,cap,rfl,a7.lower bb.size,bb.trans (hb.mono bb.size)⟩
        obtain⟨a8,be⟩:∃a8,a8=Fr.nums [n,q,f,r]:=⟨_,rfl⟩;rw[<-be] at bq cu;have cc:=gQq be;clear be;have cs:a8.length+b.length<=140737488355328:=(by omega);go_wp2_with fail
        go_region_held3 (fun w'=>w'.cell? ⟨w.1.size,0,F⟩=AW (I U n)∧w'.cell? ⟨w.1.size,1,F⟩=AW (I U q)∧w'.cell? ⟨w.1.size,2,F⟩=AW (I U f)∧w'.cell? ⟨w.1.size,3,F⟩=AW (I U r)∧w'.cell? ⟨w.1.size,4,F⟩=AW (O Z b.length ai)) (go_keep) (first|(go_at_call 245;refine bq.out.mono ?_;rintro e d2 ⟨p3,dv,rfl,a7,D⟩;have c9:=ae D cy;have df:=ae D c5;have dj:=ae D c6;have dr:=ae D c7;have ds:=ae D c8;have M:=gQq a7;have b7:=gQq D;have b4:=gQq ((b5.out.on X.out).on D);have Q:=D.size;clear a7 D)|(refine ou (B:=o.1.size) (xs:=a8) (l:=b) M.out b4.out cs Q (.tmp 41) (.tmp 43) (by rfl) (by rfl) (by rfl) (by rfl) (by rfl) ?_;intro cx cj W du cd K;have z0:=dZ K M.out (by omega) Q c9;have z1:=dZ K M.out (by omega) Q df;have z2:=dZ K M.out (by omega) Q dj;have z3:=dZ K M.out (by omega) Q dr;have z4:=dZ K M.out (by omega) Q ds;have ci:=gQq K.has;have b8:=gQq (aC K.aside M.out Q);clear K))
        go_wp2;go_ret2;have e:Fr.nums [n,q,f,r]++b=du:=(by rw[cd.out,cc.out]);rw[e];exact .inl ⟨a9.out,cx,cj,rfl,ci.out.lower (by omega),(X.out.trans (b7.out.mono (by omega))).trans (b8.out.mono (by omega))⟩
end
section
open Go.RowKit
theorem kr{o:Type}(p:o->Bool)(l:List o)(k:Nat)(h:k<l.length):(l.take (k+1)).all p=((l.take k).all p&&p l[k]):=by
 rw[List.take_succ_eq_append_getElem h,List.all_append];simp
theorem jE(es:List Ent)(k:Nat)(h:k<es.length):((es.take (k+1)).map Fr.entB).flatten=((es.take k).map Fr.entB).flatten++Fr.entB es[k]:=Sch.flatten_take Fr.entB es k h
theorem rT(x:Idx)(cp:Fr.i64 x.at_∧Fr.i64 x.frames∧Fr.i64 x.rows)(ci:∀e∈x.entries,Fr.i64 e.at_∧Fr.i64 e.row∧Fr.i64 e.sch)(X:OA)(ak:Nat)(w:AU)(e7:x.entries.length*24<=140737488351232)(ck:iV w X x.entries):
    Calls AE 248 #[.agg #[I U x.at_,I U x.frames,I U x.rows,O X x.entries.length ak]] w (kt w (Fr.idxErr x) (Fr.nums [x.at_,x.frames,x.rows,(x.entries.length:Int)]++(x.entries.map Fr.entB).flatten)):=by
  obtain⟨a,b,c,es⟩:=x;dsimp only at *
  obtain⟨w0,V⟩:∃w0,w0=(w.alloc (wx #[I U a,I U b,I U c,O X es.length ak] 147)).alloc (wx #[I U a,I U b,I U c,O X es.length ak] 50):=⟨_,rfl⟩;have cq:w0.1.size=w.1.size+1+1:=by rw[V];simp
  have cx:Y (AC w.1.size w w0):=by rw[V];exact gQy.alloc (by simp) _
  have c0:w0.cell? ⟨w.1.size+1,0,F⟩=AW (I U a):=by rw[V];simp
  have c1:w0.cell? ⟨w.1.size+1,1,F⟩=AW (I U b):=by rw[V];simp
  have c2:w0.cell? ⟨w.1.size+1,2,F⟩=AW (I U c):=by rw[V];simp
  have c3:w0.cell? ⟨w.1.size+1,3,F⟩=AW (O X es.length ak):=by rw[V];simp
  obtain⟨w1,a4⟩:∃w1,w1=w0.alloc (wx #[I U a,I U b,I U c] 2):=⟨_,rfl⟩;have ab:Y (AC w0.1.size w0 w1):=by rw[a4];exact gQy
  have ah:Y (AC w.1.size w w1):=cx.out.trans (ab.out.mono (by omega));have eq:w1.1.size=w.1.size+1+1+1:=by rw[a4];simp[cq]
  have d5:=ae ab.out c0;have d6:=ae ab.out c1;have d7:=ae ab.out c2;have cd:=ae ab.out c3;have K:=gQq (jQ 1099511627776 (w.1.size+1+1) [a,b,c] (by simp) w1 (by rw[a4];exact ints_at cq [a,b,c] rfl));have be:[a,b,c].all (Fr.within 1099511627776)=(Fr.within Fr.S a&&Fr.within Fr.S b&&Fr.within Fr.S c):=by simp[Fr.S,Bool.and_assoc]
  rw[be] at K;have a0:Y (((w.alloc (wx #[I U a,I U b,I U c,O X es.length ak] 147)).alloc (wx #[I U a,I U b,I U c,O X es.length ak] 50)).alloc (wx #[I U a,I U b,I U c] 2)=w1):=by rw[a4,V];exact rfl
  obtain⟨J,b1⟩:∃J,J=Fr.idxErr ⟨a,b,c,es⟩:=⟨_,rfl⟩;rw[<-b1];obtain⟨a1,bk⟩:∃a1,a1=(Fr.within Fr.S a&&Fr.within Fr.S b&&Fr.within Fr.S c):=⟨_,rfl⟩;rw[<-bk] at K;have bN:Y (J=if a1=AK then 7 else if 64<es.length then 3 else if es.all Fr.entOk=AK then 7 else 0):=by
    show _=_;rw[b1,bk];rfl
  have b9:Y (a1=true->(0<=a∧0<=b∧0<=c)):=by
    intro M;rw[bk,Bool.and_eq_true,Bool.and_eq_true] at M;exact⟨(Fr.within_iff.1 M.1.1).1,(Fr.within_iff.1 M.1.2).1,(Fr.within_iff.1 M.2).1⟩
  have du:=gQq cp;have c8:=gQq ck;have c9:=gQq ci;clear be V a4 b1 cp ck ci c0 c1 c2 c3 ab bk;go_enter func248,ntmps248;go_wp2_with fail;rw[a0.out];refine K.out.mono ?_;rintro e v ⟨rfl,a3⟩;rw[a3];clear a3 v K a0;cases a1 with
  |false=>
    have ai:Y (J=7):=bN.out;go_wp2;go_ret2;rw[ai.out];exact aW (by omega) ah.out
  |true=>
    have dr:=gQq (b9.out (by simp));have ai:Y (J=if 64<es.length then 3 else if es.all Fr.entOk=AK then 7 else 0):=bN.out;clear b9 bN;by_cases bi:64<es.length
    · have d8:(64:Int)<(es.length:Int):=(by omega);have bb:Y (J=3):=ai.out.trans (AG bi);clear ai bi;go_wp2;go_ret2;rw[bb.out];exact aW (by omega) ah.out
    have d8:¬(64:Int)<(es.length:Int):=(by omega);have e5:es.length<=64:=(by omega);have bb:Y (J=if es.all Fr.entOk=AK then 7 else 0):=ai.out.trans (AF bi);clear ai bi;obtain⟨L,ea⟩:∃L:Int,L=(es.length:Int):=⟨_,rfl⟩;have HP:=gQq (qd w1.1.size [a,b,c,(es.length:Int)] (by simp) (fun m b2=>by
      have M:=du.out;have b0:=dr.out;unfold Fr.i64 at M;simp only[List.mem_cons,List.not_mem_nil,or_false] at b2
      omega) (w1.alloc (wx #[I U a,I U b,I U c,I U (es.length:Int)] 2)) (ff w1 [a,b,c,(es.length:Int)] rfl))
    have em:(Fr.nums [a,b,c,(es.length:Int)]).length<=40:=by
      have M:=Leb.put_length_le a.toNat;have b0:=Leb.put_length_le b.toNat;have d9:=Leb.put_length_le c.toNat;have e3:=Leb.put_length_le (es.length:Int).toNat;simp only[Fr.nums_cons,Fr.nums_nil,Az,AH];omega
    obtain⟨a5,b3⟩:∃a5,a5=Fr.nums [a,b,c,(es.length:Int)]:=⟨_,rfl⟩;rw[<-b3] at HP em ⊢;rw[eq] at HP;have ds:=gQq b3;clear b3 ea L;have a6:Y (AC w1.1.size w1 (w1.alloc (wx #[I U a,I U b,I U c,I U (es.length:Int)] 2))):=gQy;go_wp2_with fail;refine HP.out.mono ?_;rintro e fx ⟨p2,e0,rfl,Q,hb⟩;have a7:=gQq (a6.out.trans (hb.mono a6.out.size));have fy:=ae a7.out cd;have df:=gQq (Q.lower (B':=w1.1.size) a6.out.size);have ez:=gQq (ah.out.trans (a7.out.mono (by omega)));have e9:=a7.out.size;clear Q hb HP a6 d5 d6 d7 cd;go_wp2_with fail;go_loopw [5,37] (fun ew b5 wr=>∃(k:Nat) (xs:L8),k<=es.length∧b5=I U k∧xs.length<=40+30*k∧Y (xs=a5++((es.take k).map Fr.entB).flatten∧(es.take k).all Fr.entOk=true∧Has wr w1.1.size ew xs∧AC w1.1.size w1 wr)) (fun _ b5 _=>es.length-(intOf b5).toNat);case atStart=>exact⟨0,a5,by omega,rfl,by omega,by simp,rfl,df.out,a7.out⟩
    case round=>
      obtain⟨k,xs,e6,rfl,fo,aj⟩:=hrel;have bc:=gQq aj.out.2.2.1;have aw:=gQq aj.out.2.2.2;have cb:=gQq aj.out.1;have b6:=gQq aj.out.2.1;have cn:=aw.out.size;by_cases a2:k<es.length
      · have e8:(k:Int)<(es.length:Int):=(by omega);obtain⟨eC,fq,ec,e4,d1,d2,d3⟩:=(c8.out.on (ah.out.trans (aw.out.mono (by omega)))) k a2;obtain⟨u0,u1,u2⟩:=c9.out es[k] (Aw a2);subst ec;obtain⟨y,bl⟩:∃y,y=es[k].at_:=⟨_,rfl⟩;obtain⟨A,bn⟩:∃A,A=es[k].row:=⟨_,rfl⟩;obtain⟨o,bp⟩:∃o,o=es[k].sch:=⟨_,rfl⟩;rw[<-bl] at d1 u0;rw[<-bn] at d2 u1;rw[<-bp] at d3 u2;unfold Fr.i64 at u0 u1 u2;have cv:=gQq (kr Fr.entOk es k a2);have c7:=gQq (jE es k a2);have bT:Y (Fr.entOk es[k]=[y,A,o].all (Fr.within 1099511627776)):=by
          show _=_;unfold Fr.entOk;rw[bl,bn,bp];simp[Fr.S,Bool.and_assoc]
        have b7:Y (Fr.entB es[k]=Fr.nums [y,A,o]):=by
          show _=_;rw[bl,bn,bp];rfl
        obtain⟨E,Z⟩:∃E,E=wr.alloc (wx #[I U y,I U A,I U o] 139):=⟨_,rfl⟩;have er:E.1.size=wr.1.size+1:=(by rw[Z];simp);have c6:Y (AC wr.1.size wr E):=(by rw[Z];exact gQy);have cr:E.cell? ⟨wr.1.size,0,F⟩=AW (I U y):=(by rw[Z];simp);have cs:E.cell? ⟨wr.1.size,1,F⟩=AW (I U A):=(by rw[Z];simp);have ct:E.cell? ⟨wr.1.size,2,F⟩=AW (I U o):=(by rw[Z];simp);obtain⟨D,bq⟩:∃D,D=E.alloc (wx #[I U y,I U A,I U o] 2):=⟨_,rfl⟩;have a8:Y (AC E.1.size E D):=(by rw[bq];exact gQy);have bv:Y (AC wr.1.size wr D):=c6.out.trans (a8.out.mono (by omega));have z0:=ae a8.out cr;have z1:=ae a8.out cs;have z2:=ae a8.out ct;have K:=gQq (jQ 1099511627776 (wr.1.size+1) [y,A,o] (by simp) D (by rw[bq];exact ints_at er [y,A,o] rfl));have a0:Y ((wr.alloc (wx #[I U y,I U A,I U o] 139)).alloc (wx #[I U y,I U A,I U o] 2)=D):=(by rw[bq,Z];exact rfl);obtain⟨ok,b4⟩:∃ok,ok=[y,A,o].all (Fr.within 1099511627776):=⟨_,rfl⟩;have b8:Y (ok=true->0<=y∧0<=A∧0<=o):=by
          intro h;rw[b4] at h;simp only[List.all_cons,List.all_nil,Bool.and_eq_true,Fr.within_iff] at h;omega
        rw[<-b4] at K bT;clear Z bq cr cs ct bl bn bp b4 aj;go_wp2_with fail;rw[a0.out];refine K.out.mono ?_;rintro e v ⟨rfl,a3⟩;rw[a3];clear a3 v K a0;cases ok with
        |false=>
          have bO:Y (J=7):=by
            show _=_;rw[bb.out,AG];rw[List.all_eq_false];exact⟨es[k],Aw a2,by rw[bT.out];decide⟩
          go_wp2;go_ret2;rw[bO.out];exact aW (by omega) (ah.out.trans ((aw.out.trans (bv.out.mono cn)).mono (by omega)))
        |true=>
          have dj:=gQq (b8.out (by simp));clear b8;have fi:=bv.out.size;have HP:=gQq (qd D.1.size [y,A,o] (by simp) (fun m b2=>by
            have b0:=dj.out;simp only[List.mem_cons,List.not_mem_nil,or_false] at b2
            omega) (D.alloc (wx #[I U y,I U A,I U o] 2)) (ff D [y,A,o] rfl))
          have bs:Y (AC D.1.size D (D.alloc (wx #[I U y,I U A,I U o] 2))):=gQy;have en:(Fr.nums [y,A,o]).length<=30:=by
            have M:=Leb.put_length_le y.toNat;have b0:=Leb.put_length_le A.toNat;have d9:=Leb.put_length_le o.toNat;simp only[Fr.nums_cons,Fr.nums_nil,Az,AH];omega
          obtain⟨u,co⟩:∃u,u=Fr.nums [y,A,o]:=⟨_,rfl⟩;rw[<-co] at HP en b7;clear co;go_wp2_with fail;refine HP.out.mono ?_;rintro e w4 ⟨p4,e1,rfl,Q,hb⟩;have cy:=gQq (bs.out.trans (hb.mono bs.out.size));have a9:=gQq (bv.out.trans (cy.out.mono (by omega)));have cw:Y (At w4 p4 u):=by
            obtain⟨fs,eL,eb,bj,-⟩:=Q.at;injection eb with be;subst be;exact bj
          have fc:=a9.out.size;clear Q hb HP bs
          go_wp2_with (first|(at_builtin;refine aD (bc.out.on a9.out) cw.out (by omega) (by omega) rfl rfl rfl rfl rfl ?_;intro cu fv e2 W cc Q bj eg;have c5:=gQq (aC bj (bc.out.on a9.out) (by omega));have d0:=gQq Q;have ep:cu.length<=40+30*(k+1):=(by rw[cc.out,AH];omega);clear bj eg Q)|fail)
          go_roundw;case rel=>
            refine⟨k+1,cu,by omega,by go_num,ep,?_,?_,d0.out,(aw.out.trans (a9.out.mono cn)).trans c5.out⟩
            · rw[cc.out,cb.out,c7.out,b7.out,AN]
            · rw[cv.out,b6.out,bT.out];rfl
          case measure=>simp[intOf];omega
      · have el:k=es.length:=(by omega);subst el;have bO:Y (J=0):=by
          show _=_;have cj:=b6.out;rw[List.take_length] at cj;rw[bb.out,cj];rfl
        have dv:Y (a5++(es.map Fr.entB).flatten=xs):=by
          show _=_;rw[cb.out,List.take_length]
        obtain⟨ev,d4,rfl,-,-⟩:=bc.out.at;clear aj;go_wp2;go_ret2;have e:Fr.nums [a,b,c,(es.length:Int)]++(es.map Fr.entB).flatten=xs:=(by rw[<-ds.out,dv.out]);rw[e];exact .inl ⟨bO.out,ev,d4,rfl,bc.out.lower (by omega),ah.out.trans (aw.out.mono (by omega))⟩
end
end Go.Proofs.YtngmnfdaedlodaaGreatDoor
