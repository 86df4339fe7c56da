import Derived.Test.YtngmnfdaedlodaaGreatDoorB20
import Derived.Test.YtngmnfdaedlodaaGreatDoorB03
import Derived.Test.YtngmnfdaedlodaaGreatDoorB15
set_option maxRecDepth 100000
set_option maxHeartbeats 4000000
namespace Go.Proofs.YtngmnfdaedlodaaGreatDoor
open Go.Proofs.Tryz
open Go.Value renaming int->I,slice->O
open Go.IntKind renaming i64->U
open Go.RowKit renaming Hid->Y,Below->AX
open Option renaming none->F,some->tO
open Go.Obj renaming cells->qj
open Go renaming World->wv
open Go.Proofs.Tryz renaming prog->AW
open Bool renaming false->wx
open Go.Ending renaming returned->qz
variable{B:Nat}{w w':wv}{l xs:L8}{v:Value}
section
open Go.RowKit
def Ints(w:wv)(b:Nat)(l:List Int):Prop:=b<w.1.size∧∀j (h:j<l.length),w.cell? ⟨b,j,F⟩=tO (I U l[j])
theorem Ints.on{b:Nat}{l:List Int}(h:Ints w b l)(hb:AX w.1.size w w'):Ints w' b l :=
 ⟨AF h.1 hb.size,fun j o=>by rw[hb.cell (p:=⟨b,j,F⟩) h.1];exact h.2 j o⟩
theorem fb(w:wv)(l:List Int){C:AV}(h:C=(l.map fun n=>I U n).toArray):Ints (w.alloc (qj C 2)) w.1.size l:=by
 subst h;refine⟨by simp,fun j o=>?_⟩;rw[World.cell?_alloc_new];simp[o]
theorem jN(o:Int)(b:Nat)(l:List Int)(ak:l.length<=100)(w:wv)(h:Ints w b l):
  Calls AW 244 #[I U o,O (tO ⟨b,0,F⟩) l.length l.length] w fun e w'=>e=qz (.bool (l.all (Fr.within o)))∧w'=w:=by
 have H:=gQq h;clear h;obtain⟨R,K⟩:∃R,R=l.all (Fr.within o):=⟨_,rfl⟩;rw[<-K];have V:=gQq K;clear K;go_enter func244,ntmps244;go_wp2;go_loop [9] (fun Q=>∃k:Nat,k<=l.length∧Q=I U k∧Y ((l.take k).all (Fr.within o)=true)) (fun Q=>l.length-(intOf Q).toNat);case atStart=>exact⟨0,by omega,rfl,rfl⟩
 case round=>
  obtain⟨k,aj,rfl,D⟩:=hrel;by_cases M:k<l.length
  ·have an:(k:Int)<(l.length:Int):=(by omega);have Z:=H.out.2 k M;obtain⟨n,E⟩:∃n,n=l[k]:=⟨_,rfl⟩;rw[<-E] at Z;have S:Y (n∈l):=(by show n∈l;rw[E];exact AL M);have y:Y (Fr.within o n=true->(l.take (k+1)).all (Fr.within o)=true):=fun L=>by
    rw[List.take_succ_eq_append_getElem M,List.all_append,D.out,<-E];simp[L]
   have A:Y (Fr.within o n=wx->R=wx):=fun L=>by
    rw[V.out,List.all_eq_false];exact⟨n,S.out,by rw[L];decide⟩
   clear E S D;by_cases aw:n<0
   ·have J:Y (R=wx):=A.out (AD (by omega));clear A y;go_wp2;go_ret;exact⟨by rw[J.out];rfl,rfl⟩
   ·by_cases ah:o<=n
    ·have J:Y (R=wx):=A.out (AD (by omega));clear A y;go_wp2;go_ret;exact⟨by rw[J.out];rfl,rfl⟩
    ·have X:Y ((l.take (k+1)).all (Fr.within o)=true):=y.out (AE (by omega));clear A y;go_wp2;go_round;case rel=>exact⟨k+1,by omega,by go_num,X⟩
     case measure=>simp[intOf];omega
  ·have ab:k=l.length:=(by omega);subst ab;have y:Y (R=true):=by
    show _=_;rw[V.out,<-D.out,List.take_length]
   clear D;go_wp2;go_ret;exact⟨by rw[y.out];rfl,rfl⟩
theorem jq(l:List Int)(k:Nat)(h:k<l.length):Fr.nums (l.take (k+1))=Fr.nums (l.take k)++Leb.put l[k].toNat:=by
 unfold Fr.nums;rw[List.take_succ_eq_append_getElem h,List.map_append,List.flatten_append];simp
theorem pV(b:Nat)(l:List Int)(bk:l.length<=100)(aj:∀n∈l,0<=n∧n<=9223372036854775807)(w:wv)(h:Ints w b l):
    Calls AW 245 #[O (tO ⟨b,0,F⟩) l.length l.length] w fun e w'=>∃p cap,e=qz (O p (Fr.nums l).length cap)∧Has w' w.1.size (O p (Fr.nums l).length cap) (Fr.nums l)∧AX w.1.size w w':=by
  have H:=gQq h;have a1:=gQq aj;clear h aj;go_enter func245,ntmps245;go_wp2;go_loopw [3,8] (fun bb M wr=>∃(k:Nat) (xs:L8),k<=l.length∧M=I U k∧xs.length<=10*k∧Y (xs=Fr.nums (l.take k)∧Has wr w.1.size bb xs∧AX w.1.size w wr)) (fun _ M _=>l.length-(intOf M).toNat);case atStart=>exact⟨0,[],by omega,rfl,by simp,rfl,bG _ _,gQz⟩
  case round=>
    obtain⟨k,xs,bj,rfl,bp,o⟩:=hrel;have a3:=o.out.2.2.size;have y:=gQq o.out.2.1;by_cases L:k<l.length
    · have bl:(k:Int)<(l.length:Int):=(by omega);have a4:wr.cell? ⟨b,k,F⟩=tO (I U l[k]):=(o.out.2.2.cell (p:=⟨b,k,F⟩) H.out.1).trans (H.out.2 k L);have K:=a1.out l[k] (AL L);have E:=gQq (jq l k L);obtain⟨m,Z⟩:∃m:Nat,(m:Int)=l[k]:=⟨l[k].toNat,by omega⟩;rw[<-Z] at a4 K E;have bn:(m:Int)<=9223372036854775807:=K.2;have D:Y (∀z:Int,z=(m:Int)->Calls AW 86 #[I .u64 z] wr fun e w'=>∃g cap,e=qz (O (tO ⟨g,0,F⟩) (Leb.put m).length cap)∧br w' wr.1.size g cap (Leb.put m)∧AX wr.1.size wr w'):=fun z a9=>by
        subst a9;exact dz _ (by omega) wr
      have a7:=Leb.put_length_le m;have Q:Y (Fr.nums (l.take (k+1))=Fr.nums (l.take k)++Leb.put m):=by
        show _=_;rw[E.out,Int.toNat_natCast]
      clear Z K E;obtain⟨u,ah⟩:∃u,u=Leb.put m:=⟨_,rfl⟩;rw[<-ah] at D a7 Q;clear ah;go_wp2_with fail;refine(D.out _ (by omega)).mono ?_;rintro e w1 ⟨g,bc,rfl,ab,J⟩;have a0:=gQq ab;have A:=gQq J;have bi:=J.size;clear ab J D
      go_wp2_with (first|(at_builtin;refine aD (y.out.on A.out) a0.out.at (by omega) (by omega) rfl rfl rfl rfl rfl ?_;intro ak bq be W S X V a5;have an:=gQq (aC V (y.out.on A.out) (by omega));have aw:=gQq X;have a8:ak.length<=10*(k+1):=(by rw[S.out,AU];omega);clear V a5 X)|fail)
      go_roundw;case rel=>exact⟨k+1,ak,by omega,by go_num,a8,by rw[S.out,Q.out,o.out.1],aw.out,(o.out.2.2.trans (A.out.mono a3)).trans an.out⟩
      case measure=>simp[intOf];omega
    · have a6:k=l.length:=(by omega);subst a6;have a2:Y (xs=Fr.nums l):=by
        show _=_;rw[o.out.1,List.take_length]
      obtain⟨p,cap,rfl,-,-⟩:=y.out.at;go_wp2;go_ret;rw[<-a2.out];exact⟨p,cap,rfl,y.out,o.out.2.2⟩
end
section
open Go.RowKit
theorem Hv.on(h:Hv w)(hb:AX B w w')(o:2<B):Hv w':=fun n y=>by
 rw[hb.cell (p:=⟨2,n,F⟩) o];exact h n y
theorem Hv.lt(h:Hv w):2<w.1.size:=World.block_lt_of_cell? _ _ (h 0 (by omega))
theorem Hv.next(h:Hv w)(hb:AX w.1.size w w'):Hv w':=h.on hb h.lt
theorem rz(s:Nat)(a b c d:Int)(o:a=((s % 256:Nat):Int))(hb:b=((s / 256 % 256:Nat):Int))(y:c=((s / 256 / 256 % 256:Nat):Int))(hd:d=((s / 256 / 256 / 256 % 256:Nat):Int)):
  (#[I .u8 a,I .u8 b,I .u8 c,I .u8 d]:AV)=(cellsOf (Sch.le 4 s)).toArray:=by
 subst o hb y hd;simp only[Sch.le,cellsOf,List.map_cons,List.map_nil,UInt8.toNat_ofNat'];simp
theorem sT(p:OA)(c:Nat)(l:L8)(E:l.length<=140737488351232)(w:wv)(A:Hv w)(h:At w p l):
  Calls AW 74 #[O p l.length c] w fun e w'=>e=qz (O (tO ⟨w.1.size,0,F⟩) 4 4)∧w'=w.alloc (qj (cellsOf (Sch.le 4 (Crc.sum l))).toArray 5):=by
 have o:=gQq (vC p c l E w A h);have J:Crc.sum l<4294967296:=Crc.update_lt (by omega) l;obtain⟨s,y⟩:∃s,s=Crc.sum l:=⟨_,rfl⟩;rw[<-y] at o J ⊢;clear y A h;go_enter func74,ntmps74;go_wp2_with fail;refine o.out.mono ?_;rintro e w1 ⟨rfl,D⟩;rw[D];clear D w1 o;go_wp2;go_ret;refine⟨rfl,congrArg (fun C=>w.alloc (qj C 5)) (rz s _ _ _ _ ?_ ?_ ?_ ?_)⟩ <;> omega
theorem sW(B:Nat)(p:OA)(c:Nat)(l:L8)(bi:l.length<=10000000)(w:wv)(aj:Hv w)(h:Has w B (O p l.length c) l)(a5:B<=w.1.size):
    Calls AW 66 #[O p l.length c] w fun e w'=>∃g E cap,e=qz (O (tO ⟨g,E,F⟩) (Cob.stuff (Fr.check l)).length cap)∧fA w' g E (Cob.stuff (Fr.check l))∧w.1.size<=g∧(Cob.stuff (Fr.check l)).length<=cap∧AX B w w':=by
  have an:Y (At w p l):=by
    obtain⟨bn,bb,K,A,-⟩:=h.at;injection K with e1;subst e1;exact A
  have Q:=gQq h;have y:=gQq (sT p c l (by omega) w aj an.out);have J:Y (At (w.alloc (qj (cellsOf (Sch.le 4 (Crc.sum l))).toArray 5)) (tO ⟨w.1.size,0,F⟩) (Sch.le 4 (Crc.sum l))):=uP w _ _ rfl;have o:Y (AX w.1.size w (w.alloc (qj (cellsOf (Sch.le 4 (Crc.sum l))).toArray 5))):=gQy;obtain⟨k,D⟩:∃k,k=Sch.le 4 (Crc.sum l):=⟨_,rfl⟩;have a9:k.length=4:=by rw[D,Sch.le_len]
  have a0:Y (Fr.check l=l++k):=by show _=_;rw[D];rfl
  rw[<-D] at y J o;obtain⟨V,ab⟩:∃V,V=w.alloc (qj (cellsOf k).toArray 5):=⟨_,rfl⟩;rw[<-ab] at y J o;have bj:=o.out.size;clear ab D aj h;go_enter func66,ntmps66;go_wp2_with fail;refine y.out.mono ?_;rintro e w1 ⟨rfl,ak⟩;rw[ak];clear ak w1 y
  go_wp2_with (first|(at_builtin;refine aD (c:=4) (Q.out.on o.out) J.out (by omega) (by omega) rfl rfl rfl rfl (by rw[a9];rfl) ?_;intro L q cap W S ah A a8;have M:=gQq (aC A (Q.out.on o.out) (by omega));have a3:=gQq ah;have bl:L.length<=10000010:=(by rw[S.out,AU];omega);clear A a8 ah)|fail)
  obtain⟨bp,bc,K,X,a7⟩:=a3.out.at;injection K with e1 _ e2;subst e1 e2;have bk:=M.out.size;refine(k6 q cap L W (by omega) a7 X).mono ?_;rintro e bq ⟨g,E,a4,rfl,Z,be,a6,hb⟩;have a2:=gQq Z;have aw:=gQq hb;clear Z hb X;have a1:Y (Fr.check l=L):=by show _=_;rw[a0.out,S.out]
  go_wp2;go_ret;rw[a1.out];exact⟨g,E,a4,rfl,a2.out,by omega,a6,((o.out.mono a5).trans M.out).trans (aw.out.mono (by omega))⟩
theorem yv(p q:OA)(c d:Nat)(a b:L8)(w:wv)(y:At w p a)(hb:At w q b):
  Calls AW 73 #[O p a.length c,O q b.length d] w fun e w'=>e=qz (.bool (a==b))∧w'=w:=by
 have A:=dX y c;have D:=dX hb d;have o:Y (((textOf a).toList==(textOf b).toList)=(a==b)):=by
  show _=_;rw[ByteArray.toList_eq,ByteArray.toList_eq,iA,iA]
 clear y hb;generalize textOf a=x at A o;generalize textOf b=E at D o;go_enter func73,ntmps73;go_wp2;go_ret;exact⟨by rw[<-o.out];rfl,rfl⟩
theorem tE(n c:Nat)(w:wv):(binOp .eql 40 (O F n c) (O F 0 0)).run AW w=.ok (.bool true) w:=by kernel_rfl
theorem tD(a:Addr)(n c:Nat)(w:wv):(binOp .eql 40 (O (tO a) n c) (O F 0 0)).run AW w=.ok (.bool wx) w:=by kernel_rfl
theorem yA(p:OA)(c:Nat)(l:L8)(Z:l.length<=140737488351232)(w:wv)(h:At w p l):
    Calls AW 105 #[O p l.length c] w fun e w'=>∃q cap,e=qz (O q l.length cap)∧Has w' w.1.size (O q l.length cap) l∧AX w.1.size w w':=by
  cases p with
  |none=>
    have M:l=[]:=by
      rcases h with rfl | ⟨b,o,S,_,_⟩
      · rfl
      · cases S
    subst M;have V:=tE 0 c w;go_enter func105,ntmps105;go_wp2;go_ret;exact⟨F,0,rfl,bG _ _,gQz⟩
  |some a=>
    have E:=gQq (h.on ((Below.refl _ w).alloc gQx (qj #[] 5)));have HM:=gQq (mV w).has;have J:Y (AX w.1.size w (w.alloc (qj #[] 5))):=gQy;have V:=tD a l.length c w;clear h;go_enter func105,ntmps105
    go_wp2_with (first|(at_builtin;refine aD (xs:=[]) HM.out E.out (by simp;omega) (by simp) rfl rfl rfl rfl rfl ?_;intro X q cap W L D A Q;have K:=gQq (aC A HM.out (by simp));have y:=gQq D;clear A Q D)|fail)
    go_ret;have e:X=l:=L.out;rw[e] at y;rw[e];exact⟨q,cap,rfl,y.out,J.out.trans K.out⟩
end
section
open Go.RowKit
theorem ints_at{H:Nat}(o:w.1.size=H)(l:List Int){C:AV}(h:C=(l.map fun n=>I U n).toArray):Ints (w.alloc (qj C 2)) H l:=by
 subst o;exact fb w l h
def kp(w:wv)(er:Nat)(l:L8)(e:Ending)(w':wv):Prop :=
 (er=0∧∃q cap,e=qz (.tuple #[O q l.length cap,I U 0])∧Has w' w.1.size (O q l.length cap) l∧AX w.1.size w w')∨(er≠0∧e=qz (.tuple #[O F 0 0,I U (er:Nat)])∧AX w.1.size w w')
theorem aW{o:Nat}(h:o≠0)(hb:AX w.1.size w w'):kp w o l (qz (.tuple #[O F 0 0,I U (o:Nat)])) w':=.inr ⟨h,rfl,hb⟩
def dE(n:Int)(s:List Col):Nat:=if Fr.within Fr.N n=wx then 7 else Sch.err s
theorem oi(n:Int)(bj:Fr.i64 n)(s:List Col)(sp:OA)(S:Nat)(w:wv)(cd:s.length*120<=140737488351232)(bn:cT w sp s)(bl:∀x∈s,x.wf):
    Calls AW 242 #[.agg #[I U n,O sp s.length S]] w (kp w (dE n s) (Fr.nums [n]++Sch.bytes s)):=by
  obtain⟨w0,Q⟩:∃w0,w0=w.alloc (qj #[I U n,O sp s.length S] 143):=⟨_,rfl⟩;have bp:w0.1.size=w.1.size+1:=by rw[Q];simp
  have bN:Y (AX w.1.size w w0):=by rw[Q];exact gQy
  have c0:w0.cell? ⟨w.1.size,0,F⟩=tO (I U n):=by rw[Q];simp
  have c1:w0.cell? ⟨w.1.size,1,F⟩=tO (O sp s.length S):=by rw[Q];simp
  obtain⟨w1,X⟩:∃w1,w1=w0.alloc (qj #[I U n] 2):=⟨_,rfl⟩;have a6:Y (Ints w1 (w.1.size+1) [n]):=by rw[X];exact ints_at bp [n] rfl
  have Z:Y (AX w0.1.size w0 w1):=by rw[X];exact gQy
  have ab:Y (AX w.1.size w w1):=bN.out.trans (Z.out.mono (by omega));have cq:w1.1.size=w.1.size+2:=by rw[X];simp[bp]
  have a9:w1.cell? ⟨w.1.size,0,F⟩=tO (I U n):=ae Z.out c0;have b6:w1.cell? ⟨w.1.size,1,F⟩=tO (O sp s.length S):=ae Z.out c1;have y:=gQq (jN 2147483648 (w.1.size+1) [n] (by simp) w1 a6.out);have bb:[n].all (Fr.within 2147483648)=Fr.within Fr.N n:=by simp[Fr.N]
  rw[bb] at y;have L:Y ((w.alloc (qj #[I U n,O sp s.length S] 143)).alloc (qj #[I U n] 2)=w1):=by rw[X,Q];exact rfl
  have bX:=gQq bj;obtain⟨K,a3⟩:∃K,K=dE n s:=⟨_,rfl⟩;have ak:=gQq a3;rw[<-a3];have b2:=gQq bn;have b1:=gQq bl;clear bb Q X bj a3 bn bl c0 c1 a6 Z;by_cases M:Fr.within Fr.N n=true
  · rw[M] at y;have J:Y (K=Sch.err s):=by
      show _=_;rw[ak.out,dE,M];rfl
    have b7:=(Fr.within_iff.1 M).1;have E:=gQq (ja s sp S w1 cd (b2.out.on ab.out) b1.out);clear ak M;by_cases D:Sch.err s=0
    · have bT:Y (K=0):=J.out.trans D;have b8:(Sch.bytes s).length<=1024:=(Sch.err_open D).2.2.2;rw[show encB s=Sch.bytes s from AK D,D] at E;obtain⟨a1,be⟩:∃a1,a1=Sch.bytes s:=⟨_,rfl⟩;rw[<-be] at E b8 ⊢;clear D J be;go_enter func242,ntmps242;go_wp2_with fail;rw[L.out];refine y.out.mono ?_;rintro e o ⟨rfl,A⟩;rw[A];clear A o y L;go_wp2_with fail;refine E.out.mono ?_;rintro e o ⟨q,cap,rfl,an,a2,hb⟩;have cn:o.cell? ⟨w.1.size,0,F⟩=tO (I U n):=ae hb a9;have bs:=gQq an;have ah:=gQq (ab.out.trans (hb.mono (by omega)));have cp:=ah.out.size;clear an a2 hb E a9 b6;have a7:Y (Ints (o.alloc (qj #[I U n] 2)) o.1.size [n]):=fb o [n] rfl;have aj:Y (AX o.1.size o (o.alloc (qj #[I U n] 2))):=gQy;have a8:=gQq (pV o.1.size [n] (by simp) (fun m bi=>by simp at bi;subst bi;exact⟨b7,bX.out.2⟩) _ a7.out);go_wp2_with fail;refine a8.out.mono ?_;rintro e cr ⟨p3,ck,rfl,V,hb⟩;have a0:=gQq (V.lower (B':=o.1.size) aj.out.size);have aw:=gQq (aj.out.trans (hb.mono aj.out.size));have bv:=gQq (bs.out.on aw.out);have bk:=aw.out.size;clear V hb a8 a7 aj;have cc:(Fr.nums [n]).length<=10:=by
        have:=Leb.put_length_le n.toNat;rw[Fr.nums_cons,Fr.nums_nil,AH];exact this
      obtain⟨bq,a5⟩:∃bq,bq=Fr.nums [n]:=⟨_,rfl⟩;rw[<-a5] at a0 cc ⊢;have b0:=gQq a5;clear a5
      go_wp2_with (first|(at_builtin;refine aD a0.out bv.out (by omega) bk rfl rfl rfl rfl rfl ?_;intro cj ci b5 W b3 V bc b9;have bO:=gQq (aC bc a0.out bk);have b4:=gQq V;clear bc b9 V)|fail)
      go_ret2;have e:Fr.nums [n]++a1=cj:=(by rw[b3.out,b0.out]);rw[e];exact .inl ⟨bT.out,ci,b5,rfl,b4.out.lower (by omega),(ah.out.trans (aw.out.mono (by omega))).trans (bO.out.mono (by omega))⟩
    · have cb:K≠0:=(by rw[J.out];exact D);have co:((K:Int) != 0)=true:=(by rw[bne_iff_ne];omega);rw[show encB s=[] from AJ D,<-J.out] at E;clear D J;go_enter func242,ntmps242;go_wp2_with fail;rw[L.out];refine y.out.mono ?_;rintro e o ⟨rfl,A⟩;rw[A];clear A o y L;go_wp2_with fail;refine E.out.mono ?_;rintro e o ⟨q,cap,rfl,an,a2,hb⟩;have ah:=gQq (ab.out.trans (hb.mono (by omega)));clear an a2 hb E;go_wp2;go_ret2;exact aW cb ah.out
  · have a4:Fr.within Fr.N n=false:=(by simpa using M);rw[a4] at y;have J:Y (K=7):=by
      show _=_;rw[ak.out,dE,a4];rfl
    clear ak M a4;go_enter func242,ntmps242;go_wp2_with fail;rw[L.out];refine y.out.mono ?_;rintro e o ⟨rfl,A⟩;rw[A];clear A o y L;go_wp2;go_ret2;rw[J.out];exact aW (by omega) ab.out
end
section
open Go.RowKit
theorem nZ{p:OA}{c:Nat}(ah:Has w B v xs)(h:At w p l)(X:xs.length+l.length<=140737488355328)(K:B<=w.1.size){D:Array Oper}{o:Oper}{a:Act}{A:Act->wv->Prop}{J:Exit->Act->wv->Prop}{E:Prop}(s x:Operand)(an:o.type=40)(V:o.guard=F)(ab:o.op=Op.call { callee:=Callee.builtin Builtin.append,args:=#[s,x],argTypes:=#[40,40] })(ak:a.eval s=v)(a0:a.eval x=O p l.length c)(L:∀q cap W y,Y (y=xs++l)->bE w B v W (O q y.length cap) y->A (a.put o.dst (O q y.length cap)) W):
  if Region.wanted o (yielded D a.tmps)=true then Oper.wp AW o a w A J else E:=by
 have aw:Region.wanted o (yielded D a.tmps)=true:=by simp[Region.wanted,V]
 rw[AK aw];obtain⟨q,cap,W,⟨aj⟩,Z,M,-,Q⟩:=eU B v xs l p c w ah h X K;unfold Oper.wp;have S:(execOp a.eval o).run AW w=.ok (.value (O q (xs++l).length cap)) W:=by
  simp only[execOp,ab,resolve,invoke,builtin];simp[ak,a0,an,aj,Result.andThen]
 rw[S];exact L q cap W (xs++l) (gQq rfl) ⟨Z,M,Q⟩
theorem Ints.drew{b:Nat}{l:List Int}(h:Ints w b l):Ints w.drew b l:=⟨h.1,fun j o=>h.2 j o⟩
theorem dW{W:wv}{q:Value}{E:L8}(A:bE w B v W q E)(D:Has w B v xs){b o:Nat}{u:Value}(hb:b<B)(y:B<=w.1.size)(h:w.cell? ⟨b,o,F⟩=tO u):W.cell? ⟨b,o,F⟩=tO u :=
 ((aC A.aside D y).cell (p:=⟨b,o,F⟩) hb).trans h
def eE(n q f r:Int)(b:L8):Nat:=if (Fr.within Fr.N n&&Fr.within Fr.S q&&Fr.within Fr.S f&&decide (1<=r∧r<=64))=wx then 7 else if 2200<b.length then 2 else 0
theorem uF(n q f r:Int)(b0:Fr.i64 n)(b1:Fr.i64 q)(bX:Fr.i64 f)(bi:Fr.i64 r)(b:L8)(Z:OA)(aj:Nat)(w:wv)(d1:b.length<=140737488351232)(bT:At w Z b):
    Calls AW 246 #[.agg #[I U n,I U q,I U f,I U r,O Z b.length aj]] w (kp w (eE n q f r b) (Fr.nums [n,q,f,r]++b)):=by
  obtain⟨w0,E⟩:∃w0,w0=w.alloc (qj #[I U n,I U q,I U f,I U r,O Z b.length aj] 145):=⟨_,rfl⟩;have b2:w0.1.size=w.1.size+1:=by rw[E];simp
  have b6:Y (AX w.1.size w w0):=by rw[E];exact gQy
  have c0:w0.cell? ⟨w.1.size,0,F⟩=tO (I U n):=by rw[E];simp
  have c1:w0.cell? ⟨w.1.size,1,F⟩=tO (I U q):=by rw[E];simp
  have c2:w0.cell? ⟨w.1.size,2,F⟩=tO (I U f):=by rw[E];simp
  have c3:w0.cell? ⟨w.1.size,3,F⟩=tO (I U r):=by rw[E];simp
  have c4:w0.cell? ⟨w.1.size,4,F⟩=tO (O Z b.length aj):=by rw[E];simp
  obtain⟨w1,a1⟩:∃w1,w1=w0.alloc (qj #[I U n] 2):=⟨_,rfl⟩;have bn:Y (Ints w1 (w.1.size+1) [n]):=by rw[a1];exact ints_at b2 [n] rfl
  have L:Y (AX w0.1.size w0 w1):=by rw[a1];exact gQy
  have bk:Y (AX w.1.size w w1):=b6.out.trans (L.out.mono (by omega));have b3:w1.1.size=w.1.size+1+1:=by rw[a1];simp[b2]
  have ck:=ae L.out c0;have cn:=ae L.out c1;have co:=ae L.out c2;have cp:=ae L.out c3;have cq:=ae L.out c4;have a3:=gQq (jN 2147483648 (w.1.size+1) [n] (by simp) w1 bn.out);have bN:[n].all (Fr.within 2147483648)=Fr.within Fr.N n:=by simp[Fr.N]
  rw[bN] at a3;have bs:Y ((w.alloc (qj #[I U n,I U q,I U f,I U r,O Z b.length aj] 145)).alloc (qj #[I U n] 2)=w1):=by rw[a1,E];exact rfl
  obtain⟨o,a2⟩:∃o,o=w1.alloc (qj #[I U q,I U f] 2):=⟨_,rfl⟩;have V:Y (AX w1.1.size w1 o):=by rw[a2];exact gQy
  have X:Y (AX w.1.size w o):=bk.out.trans (V.out.mono (by omega));have a4:=gQq (jN 1099511627776 w1.1.size [q,f] (by simp) o (by rw[a2];exact fb w1 [q,f] rfl));have bO:[q,f].all (Fr.within 1099511627776)=(Fr.within Fr.S q&&Fr.within Fr.S f):=by simp[Fr.S]
  rw[bO] at a4;have cw:o.1.size=w.1.size+1+1+1:=by rw[a2];simp[b3]
  have cy:=ae V.out ck;have c5:=ae V.out cn;have c6:=ae V.out co;have c7:=ae V.out cp;have c8:=ae V.out cq;have bv:Y (w1.alloc (qj #[I U q,I U f] 2)=o):=by rw[a2];exact rfl
  obtain⟨A,bc⟩:∃A,A=eE n q f r b:=⟨_,rfl⟩;have bl:=gQq bc;rw[<-bc];have b5:=gQq bT;have cb:=gQq (And.intro b0 (And.intro b1 (And.intro bX bi)));obtain⟨ak,a5⟩:∃ak,ak=Fr.within Fr.N n:=⟨_,rfl⟩;obtain⟨an,a6⟩:∃an,an=(Fr.within Fr.S q&&Fr.within Fr.S f):=⟨_,rfl⟩;rw[<-a5] at a3;rw[<-a6] at a4;have J:Y (A=if (ak&&an&&decide (1<=r∧r<=64))=wx then 7 else if 2200<b.length then 2 else 0):=by
    show _=_;rw[bl.out,a5,a6,eE,<-Bool.and_assoc]
  have bp:Y (ak=true->an=true->(0<=n∧0<=q∧0<=f)):=by
    intro ab ah;rw[a5] at ab;rw[a6,Bool.and_eq_true] at ah;exact⟨(Fr.within_iff.1 ab).1,(Fr.within_iff.1 ah.1).1,(Fr.within_iff.1 ah.2).1⟩
  have cv:=bi;unfold Fr.i64 at cv;clear bN bO E a1 a2 b0 b1 bX bi bc bT c0 c1 c2 c3 c4 bn L bl a5 a6;go_enter func246,ntmps246;go_wp2_with fail;rw[bs.out];refine a3.out.mono ?_;rintro e v ⟨rfl,a0⟩;rw[a0];clear a0 v a3 bs;cases ak with
  |false=>
    have y:Y (A=7):=J.out;go_wp2;go_ret2;rw[y.out];exact aW (by omega) bk.out
  |true=>
    go_wp2_with fail;rw[<-b3];rw[bv.out];refine a4.out.mono ?_;rintro e v ⟨rfl,a0⟩;rw[a0];clear a0 v a4 bv;cases an with
    |false=>
      have y:Y (A=7):=J.out;go_wp2;go_ret2;rw[y.out];exact aW (by omega) X.out
    |true=>
      have b9:=gQq (bp.out (by simp) (by simp));clear bp;by_cases ab:r<1
      · have y:Y (A=7):=by
          show _=_;rw[J.out,AD (show ¬(1<=r∧r<=64) by omega)];rfl
        clear J;go_wp2;go_ret2;rw[y.out];exact aW (by omega) X.out
      by_cases ah:64<r
      · have y:Y (A=7):=by
          show _=_;rw[J.out,AD (show ¬(1<=r∧r<=64) by omega)];rfl
        clear J;go_wp2;go_ret2;rw[y.out];exact aW (by omega) X.out
      have y:Y (A=if 2200<b.length then 2 else 0):=by
        show _=_;rw[J.out,AE (show(1<=r∧r<=64) by omega)];rfl
      clear J;by_cases aw:2200<b.length
      · have cr:(2200:Int)<(b.length:Int):=(by omega);have a9:Y (A=2):=y.out.trans (AK aw);clear y aw;go_wp2;go_ret2;rw[a9.out];exact aW (by omega) X.out
      · have cr:¬(2200:Int)<(b.length:Int):=(by omega);have a9:Y (A=0):=y.out.trans (AJ aw);clear y aw;have cu:(Fr.nums [n,q,f,r]).length<=40:=by
          have ab:=Leb.put_length_le n.toNat;have ah:=Leb.put_length_le q.toNat;have aw:=Leb.put_length_le f.toNat;have d0:=Leb.put_length_le r.toNat;simp only[Fr.nums_cons,Fr.nums_nil,AH,AU];omega
        have bq:Y (Calls AW 245 #[O (tO ⟨w.1.size+1+1+1,0,F⟩) 4 4] (o.alloc (qj #[I U n,I U q,I U f,I U r] 2)).drew fun e bj=>∃p cap,e=qz (O p (Fr.nums [n,q,f,r]).length cap)∧Has bj o.1.size (O p (Fr.nums [n,q,f,r]).length cap) (Fr.nums [n,q,f,r])∧AX o.1.size o bj):=by
          refine(pV (w.1.size+1+1+1) [n,q,f,r] (by simp) (fun m ct=>?_) _ (ints_at cw [n,q,f,r] rfl).drew).mono ?_
          · have ab:=cb.out;have ah:=b9.out;unfold Fr.i64 at ab;simp only[List.mem_cons,List.not_mem_nil,or_false] at ct;omega
          · rintro e bj ⟨p,cap,rfl,a7,hb⟩;have bb:AX o.1.size o (o.alloc (qj #[I U n,I U q,I U f,I U r] 2)).drew:=gQy.drew;exact⟨p,cap,rfl,a7.lower bb.size,bb.trans (hb.mono bb.size)⟩
        obtain⟨a8,be⟩:∃a8,a8=Fr.nums [n,q,f,r]:=⟨_,rfl⟩;rw[<-be] at bq cu;have cc:=gQq be;clear be;have cs:a8.length+b.length<=140737488355328:=(by omega);go_wp2_with fail
        go_region_held3 (fun w'=>w'.cell? ⟨w.1.size,0,F⟩=tO (I U n)∧w'.cell? ⟨w.1.size,1,F⟩=tO (I U q)∧w'.cell? ⟨w.1.size,2,F⟩=tO (I U f)∧w'.cell? ⟨w.1.size,3,F⟩=tO (I U r)∧w'.cell? ⟨w.1.size,4,F⟩=tO (O Z b.length aj)) (go_keep) (first|(go_at_call 245;refine bq.out.mono ?_;rintro e d2 ⟨p3,dv,rfl,a7,D⟩;have c9:=ae D cy;have df:=ae D c5;have dj:=ae D c6;have dr:=ae D c7;have ds:=ae D c8;have M:=gQq a7;have b7:=gQq D;have b4:=gQq ((b5.out.on X.out).on D);have Q:=D.size;clear a7 D)|(refine nZ (B:=o.1.size) (xs:=a8) (l:=b) M.out b4.out cs Q (.tmp 41) (.tmp 43) (by rfl) (by rfl) (by rfl) (by rfl) (by rfl) ?_;intro cx cj W du cd K;have z0:=dW K M.out (by omega) Q c9;have z1:=dW K M.out (by omega) Q df;have z2:=dW K M.out (by omega) Q dj;have z3:=dW K M.out (by omega) Q dr;have z4:=dW K M.out (by omega) Q ds;have ci:=gQq K.has;have b8:=gQq (aC K.aside M.out Q);clear K))
        go_wp2;go_ret2;have e:Fr.nums [n,q,f,r]++b=du:=(by rw[cd.out,cc.out]);rw[e];exact .inl ⟨a9.out,cx,cj,rfl,ci.out.lower (by omega),(X.out.trans (b7.out.mono (by omega))).trans (b8.out.mono (by omega))⟩
end
section
open Go.RowKit
theorem ko{o:Type}(p:o->Bool)(l:List o)(k:Nat)(h:k<l.length):(l.take (k+1)).all p=((l.take k).all p&&p l[k]):=by
 rw[List.take_succ_eq_append_getElem h,List.all_append];simp
theorem jB(es:List Ent)(k:Nat)(h:k<es.length):((es.take (k+1)).map Fr.entB).flatten=((es.take k).map Fr.entB).flatten++Fr.entB es[k]:=Sch.flatten_take Fr.entB es k h
theorem rN(x:Idx)(cp:Fr.i64 x.at_∧Fr.i64 x.frames∧Fr.i64 x.rows)(ci:∀e∈x.entries,Fr.i64 e.at_∧Fr.i64 e.row∧Fr.i64 e.sch)(X:OA)(an:Nat)(w:wv)(e7:x.entries.length*24<=140737488351232)(ck:iS w X x.entries):
    Calls AW 248 #[.agg #[I U x.at_,I U x.frames,I U x.rows,O X x.entries.length an]] w (kp w (Fr.idxErr x) (Fr.nums [x.at_,x.frames,x.rows,(x.entries.length:Int)]++(x.entries.map Fr.entB).flatten)):=by
  obtain⟨a,b,c,es⟩:=x;dsimp only at *
  obtain⟨w0,V⟩:∃w0,w0=(w.alloc (qj #[I U a,I U b,I U c,O X es.length an] 147)).alloc (qj #[I U a,I U b,I U c,O X es.length an] 50):=⟨_,rfl⟩;have cq:w0.1.size=w.1.size+1+1:=by rw[V];simp
  have cx:Y (AX w.1.size w w0):=by rw[V];exact gQy.alloc (by simp) _
  have c0:w0.cell? ⟨w.1.size+1,0,F⟩=tO (I U a):=by rw[V];simp
  have c1:w0.cell? ⟨w.1.size+1,1,F⟩=tO (I U b):=by rw[V];simp
  have c2:w0.cell? ⟨w.1.size+1,2,F⟩=tO (I U c):=by rw[V];simp
  have c3:w0.cell? ⟨w.1.size+1,3,F⟩=tO (O X es.length an):=by rw[V];simp
  obtain⟨w1,a4⟩:∃w1,w1=w0.alloc (qj #[I U a,I U b,I U c] 2):=⟨_,rfl⟩;have ab:Y (AX w0.1.size w0 w1):=by rw[a4];exact gQy
  have ah:Y (AX w.1.size w w1):=cx.out.trans (ab.out.mono (by omega));have eq:w1.1.size=w.1.size+1+1+1:=by rw[a4];simp[cq]
  have d5:=ae ab.out c0;have d6:=ae ab.out c1;have d7:=ae ab.out c2;have cd:=ae ab.out c3;have K:=gQq (jN 1099511627776 (w.1.size+1+1) [a,b,c] (by simp) w1 (by rw[a4];exact ints_at cq [a,b,c] rfl));have be:[a,b,c].all (Fr.within 1099511627776)=(Fr.within Fr.S a&&Fr.within Fr.S b&&Fr.within Fr.S c):=by simp[Fr.S,Bool.and_assoc]
  rw[be] at K;have a0:Y (((w.alloc (qj #[I U a,I U b,I U c,O X es.length an] 147)).alloc (qj #[I U a,I U b,I U c,O X es.length an] 50)).alloc (qj #[I U a,I U b,I U c] 2)=w1):=by rw[a4,V];exact rfl
  obtain⟨J,b1⟩:∃J,J=Fr.idxErr ⟨a,b,c,es⟩:=⟨_,rfl⟩;rw[<-b1];obtain⟨a1,bk⟩:∃a1,a1=(Fr.within Fr.S a&&Fr.within Fr.S b&&Fr.within Fr.S c):=⟨_,rfl⟩;rw[<-bk] at K;have bN:Y (J=if a1=wx then 7 else if 64<es.length then 3 else if es.all Fr.entOk=wx then 7 else 0):=by
    show _=_;rw[b1,bk];rfl
  have b9:Y (a1=true->(0<=a∧0<=b∧0<=c)):=by
    intro M;rw[bk,Bool.and_eq_true,Bool.and_eq_true] at M;exact⟨(Fr.within_iff.1 M.1.1).1,(Fr.within_iff.1 M.1.2).1,(Fr.within_iff.1 M.2).1⟩
  have du:=gQq cp;have c8:=gQq ck;have c9:=gQq ci;clear be V a4 b1 cp ck ci c0 c1 c2 c3 ab bk;go_enter func248,ntmps248;go_wp2_with fail;rw[a0.out];refine K.out.mono ?_;rintro e v ⟨rfl,a3⟩;rw[a3];clear a3 v K a0;cases a1 with
  |false=>
    have aj:Y (J=7):=bN.out;go_wp2;go_ret2;rw[aj.out];exact aW (by omega) ah.out
  |true=>
    have dr:=gQq (b9.out (by simp));have aj:Y (J=if 64<es.length then 3 else if es.all Fr.entOk=wx then 7 else 0):=bN.out;clear b9 bN;by_cases bi:64<es.length
    · have d8:(64:Int)<(es.length:Int):=(by omega);have bb:Y (J=3):=aj.out.trans (AK bi);clear aj bi;go_wp2;go_ret2;rw[bb.out];exact aW (by omega) ah.out
    have d8:¬(64:Int)<(es.length:Int):=(by omega);have e5:es.length<=64:=(by omega);have bb:Y (J=if es.all Fr.entOk=wx then 7 else 0):=aj.out.trans (AJ bi);clear aj bi;obtain⟨L,ea⟩:∃L:Int,L=(es.length:Int):=⟨_,rfl⟩;have HP:=gQq (pV w1.1.size [a,b,c,(es.length:Int)] (by simp) (fun m b2=>by
      have M:=du.out;have b0:=dr.out;unfold Fr.i64 at M;simp only[List.mem_cons,List.not_mem_nil,or_false] at b2
      omega) (w1.alloc (qj #[I U a,I U b,I U c,I U (es.length:Int)] 2)) (fb w1 [a,b,c,(es.length:Int)] rfl))
    have em:(Fr.nums [a,b,c,(es.length:Int)]).length<=40:=by
      have M:=Leb.put_length_le a.toNat;have b0:=Leb.put_length_le b.toNat;have d9:=Leb.put_length_le c.toNat;have e3:=Leb.put_length_le (es.length:Int).toNat;simp only[Fr.nums_cons,Fr.nums_nil,AH,AU];omega
    obtain⟨a5,b3⟩:∃a5,a5=Fr.nums [a,b,c,(es.length:Int)]:=⟨_,rfl⟩;rw[<-b3] at HP em ⊢;rw[eq] at HP;have ds:=gQq b3;clear b3 ea L;have a6:Y (AX w1.1.size w1 (w1.alloc (qj #[I U a,I U b,I U c,I U (es.length:Int)] 2))):=gQy;go_wp2_with fail;refine HP.out.mono ?_;rintro e fx ⟨p2,e0,rfl,Q,hb⟩;have a7:=gQq (a6.out.trans (hb.mono a6.out.size));have fy:=ae a7.out cd;have df:=gQq (Q.lower (B':=w1.1.size) a6.out.size);have ez:=gQq (ah.out.trans (a7.out.mono (by omega)));have e9:=a7.out.size;clear Q hb HP a6 d5 d6 d7 cd;go_wp2_with fail;go_loopw [5,37] (fun ew b5 wr=>∃(k:Nat) (xs:L8),k<=es.length∧b5=I U k∧xs.length<=40+30*k∧Y (xs=a5++((es.take k).map Fr.entB).flatten∧(es.take k).all Fr.entOk=true∧Has wr w1.1.size ew xs∧AX w1.1.size w1 wr)) (fun _ b5 _=>es.length-(intOf b5).toNat);case atStart=>exact⟨0,a5,by omega,rfl,by omega,by simp,rfl,df.out,a7.out⟩
    case round=>
      obtain⟨k,xs,e6,rfl,fo,ak⟩:=hrel;have bc:=gQq ak.out.2.2.1;have aw:=gQq ak.out.2.2.2;have cb:=gQq ak.out.1;have b6:=gQq ak.out.2.1;have cn:=aw.out.size;by_cases a2:k<es.length
      · have e8:(k:Int)<(es.length:Int):=(by omega);obtain⟨eC,fq,ec,e4,d1,d2,d3⟩:=(c8.out.on (ah.out.trans (aw.out.mono (by omega)))) k a2;obtain⟨u0,u1,u2⟩:=c9.out es[k] (AL a2);subst ec;obtain⟨y,bl⟩:∃y,y=es[k].at_:=⟨_,rfl⟩;obtain⟨A,bn⟩:∃A,A=es[k].row:=⟨_,rfl⟩;obtain⟨o,bp⟩:∃o,o=es[k].sch:=⟨_,rfl⟩;rw[<-bl] at d1 u0;rw[<-bn] at d2 u1;rw[<-bp] at d3 u2;unfold Fr.i64 at u0 u1 u2;have cv:=gQq (ko Fr.entOk es k a2);have c7:=gQq (jB es k a2);have bT:Y (Fr.entOk es[k]=[y,A,o].all (Fr.within 1099511627776)):=by
          show _=_;unfold Fr.entOk;rw[bl,bn,bp];simp[Fr.S,Bool.and_assoc]
        have b7:Y (Fr.entB es[k]=Fr.nums [y,A,o]):=by
          show _=_;rw[bl,bn,bp];rfl
        obtain⟨E,Z⟩:∃E,E=wr.alloc (qj #[I U y,I U A,I U o] 139):=⟨_,rfl⟩;have er:E.1.size=wr.1.size+1:=(by rw[Z];simp);have c6:Y (AX wr.1.size wr E):=(by rw[Z];exact gQy);have cr:E.cell? ⟨wr.1.size,0,F⟩=tO (I U y):=(by rw[Z];simp);have cs:E.cell? ⟨wr.1.size,1,F⟩=tO (I U A):=(by rw[Z];simp);have ct:E.cell? ⟨wr.1.size,2,F⟩=tO (I U o):=(by rw[Z];simp);obtain⟨D,bq⟩:∃D,D=E.alloc (qj #[I U y,I U A,I U o] 2):=⟨_,rfl⟩;have a8:Y (AX E.1.size E D):=(by rw[bq];exact gQy);have bv:Y (AX wr.1.size wr D):=c6.out.trans (a8.out.mono (by omega));have z0:=ae a8.out cr;have z1:=ae a8.out cs;have z2:=ae a8.out ct;have K:=gQq (jN 1099511627776 (wr.1.size+1) [y,A,o] (by simp) D (by rw[bq];exact ints_at er [y,A,o] rfl));have a0:Y ((wr.alloc (qj #[I U y,I U A,I U o] 139)).alloc (qj #[I U y,I U A,I U o] 2)=D):=(by rw[bq,Z];exact rfl);obtain⟨ok,b4⟩:∃ok,ok=[y,A,o].all (Fr.within 1099511627776):=⟨_,rfl⟩;have b8:Y (ok=true->0<=y∧0<=A∧0<=o):=by
          intro h;rw[b4] at h;simp only[List.all_cons,List.all_nil,Bool.and_eq_true,Fr.within_iff] at h;omega
        rw[<-b4] at K bT;clear Z bq cr cs ct bl bn bp b4 ak;go_wp2_with fail;rw[a0.out];refine K.out.mono ?_;rintro e v ⟨rfl,a3⟩;rw[a3];clear a3 v K a0;cases ok with
        |false=>
          have bO:Y (J=7):=by
            show _=_;rw[bb.out,AK];rw[List.all_eq_false];exact⟨es[k],AL a2,by rw[bT.out];decide⟩
          go_wp2;go_ret2;rw[bO.out];exact aW (by omega) (ah.out.trans ((aw.out.trans (bv.out.mono cn)).mono (by omega)))
        |true=>
          have dj:=gQq (b8.out (by simp));clear b8;have fi:=bv.out.size;have HP:=gQq (pV D.1.size [y,A,o] (by simp) (fun m b2=>by
            have b0:=dj.out;simp only[List.mem_cons,List.not_mem_nil,or_false] at b2
            omega) (D.alloc (qj #[I U y,I U A,I U o] 2)) (fb D [y,A,o] rfl))
          have bs:Y (AX D.1.size D (D.alloc (qj #[I U y,I U A,I U o] 2))):=gQy;have en:(Fr.nums [y,A,o]).length<=30:=by
            have M:=Leb.put_length_le y.toNat;have b0:=Leb.put_length_le A.toNat;have d9:=Leb.put_length_le o.toNat;simp only[Fr.nums_cons,Fr.nums_nil,AH,AU];omega
          obtain⟨u,co⟩:∃u,u=Fr.nums [y,A,o]:=⟨_,rfl⟩;rw[<-co] at HP en b7;clear co;go_wp2_with fail;refine HP.out.mono ?_;rintro e w4 ⟨p4,e1,rfl,Q,hb⟩;have cy:=gQq (bs.out.trans (hb.mono bs.out.size));have a9:=gQq (bv.out.trans (cy.out.mono (by omega)));have cw:Y (At w4 p4 u):=by
            obtain⟨fs,eL,eb,bj,-⟩:=Q.at;injection eb with be;subst be;exact bj
          have fc:=a9.out.size;clear Q hb HP bs
          go_wp2_with (first|(at_builtin;refine aD (bc.out.on a9.out) cw.out (by omega) (by omega) rfl rfl rfl rfl rfl ?_;intro cu fv e2 W cc Q bj eg;have c5:=gQq (aC bj (bc.out.on a9.out) (by omega));have d0:=gQq Q;have ep:cu.length<=40+30*(k+1):=(by rw[cc.out,AU];omega);clear bj eg Q)|fail)
          go_roundw;case rel=>
            refine⟨k+1,cu,by omega,by go_num,ep,?_,?_,d0.out,(aw.out.trans (a9.out.mono cn)).trans c5.out⟩
            · rw[cc.out,cb.out,c7.out,b7.out,AB]
            · rw[cv.out,b6.out,bT.out];rfl
          case measure=>simp[intOf];omega
      · have el:k=es.length:=(by omega);subst el;have bO:Y (J=0):=by
          show _=_;have cj:=b6.out;rw[List.take_length] at cj;rw[bb.out,cj];rfl
        have dv:Y (a5++(es.map Fr.entB).flatten=xs):=by
          show _=_;rw[cb.out,List.take_length]
        obtain⟨ev,d4,rfl,-,-⟩:=bc.out.at;clear ak;go_wp2;go_ret2;have e:Fr.nums [a,b,c,(es.length:Int)]++(es.map Fr.entB).flatten=xs:=(by rw[<-ds.out,dv.out]);rw[e];exact .inl ⟨bO.out,ev,d4,rfl,bc.out.lower (by omega),ah.out.trans (aw.out.mono (by omega))⟩
end
end Go.Proofs.YtngmnfdaedlodaaGreatDoor
