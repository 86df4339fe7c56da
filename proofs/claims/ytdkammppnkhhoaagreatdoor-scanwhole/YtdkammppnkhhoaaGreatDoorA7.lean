import Derived.Test.YtdkammppnkhhoaaGreatDoorB20
import Derived.Test.YtdkammppnkhhoaaGreatDoorB03
import Derived.Test.YtdkammppnkhhoaaGreatDoorB15
import Derived.Handy
set_option maxRecDepth 100000
set_option maxHeartbeats 4000000
namespace Go.Proofs.YtdkammppnkhhoaaGreatDoor
variable{B b c:Nat}{w w':World}{l xs:L8}{v:Value}{p:OA}{f:Fr}
section
open Go.RowKit
def Ints(w:World)(b:Nat)(l:List Int):Prop:=b<w.1.size∧∀j (h:j<l.length),w.cell? ⟨b,j,none⟩=some (.int .i64 l[j])
theorem Ints.on{l:List Int}(h:Ints w b l)(hb:Below w.1.size w w'):Ints w' b l :=
 ⟨Nat.lt_of_lt_of_le h.1 hb.size,fun j o=>by rw[hb.cell (p:=⟨b,j,none⟩) h.1];exact h.2 j o⟩
theorem cH(w:World)(l:List Int){C:AV}(h:C=(l.map fun n=>Value.int .i64 n).toArray):Ints (w.alloc (.cells C 2)) w.1.size l:=by
 subst h;refine⟨by simp,fun j o=>?_⟩;rw[World.cell?_alloc_new];simp[o]
theorem jm(o:Int)(b:Nat)(l:List Int)(Z:l.length<=100)(w:World)(h:Ints w b l):
  Calls Tryz.prog 220 #[.int .i64 o,.slice (some ⟨b,0,none⟩) l.length l.length] w fun e w'=>e=.returned (.bool (l.all (Fr.within o)))∧w'=w:=by
 have H:=xX h;clear h;obtain⟨z,J⟩:∃z,z=l.all (Fr.within o):=⟨_,rfl⟩;rw[<-J];have R:=xX J;clear J;go_enter Tryz.func220,Tryz.ntmps220;go_wp2;go_loop [9] (fun M=>∃k:Nat,k<=l.length∧M=.int .i64 k∧Hid ((l.take k).all (Fr.within o)=true)) (fun M=>l.length-(intOf M).toNat);case atStart=>exact⟨0,by omega,rfl,rfl⟩
 case round=>
  obtain⟨k,Y,rfl,D⟩:=hrel;by_cases L:k<l.length
  ·have ah:(k:Int)<(l.length:Int):=(by omega);have V:=H.out.2 k L;obtain⟨n,E⟩:∃n,n=l[k]:=⟨_,rfl⟩;rw[<-E] at V;have O:Hid (n∈l):=(by show n∈l;rw[E];exact List.getElem_mem L);have y:Hid (Fr.within o n=true->(l.take (k+1)).all (Fr.within o)=true):=fun K=>by
    rw[List.take_succ_eq_append_getElem L,List.all_append,D.out,<-E];simp[K]
   have A:Hid (Fr.within o n=false->z=false):=fun K=>by
    rw[R.out,List.all_eq_false];exact⟨n,O.out,by rw[K];decide⟩
   clear E O D;by_cases aj:n<0
   ·have I:Hid (z=false):=A.out (decide_eq_false (by omega));clear A y;go_wp2;go_ret;exact⟨by rw[I.out];rfl,rfl⟩
   ·by_cases X:o<=n
    ·have I:Hid (z=false):=A.out (decide_eq_false (by omega));clear A y;go_wp2;go_ret;exact⟨by rw[I.out];rfl,rfl⟩
    ·have U:Hid ((l.take (k+1)).all (Fr.within o)=true):=y.out (decide_eq_true (by omega));clear A y;go_wp2;go_round;case rel=>exact⟨k+1,by omega,by go_num,U⟩
     case measure=>simp[intOf];omega
  ·have W:k=l.length:=(by omega);subst W;have y:Hid (z=true):=by
    show _=_;rw[R.out,<-D.out,List.take_length]
   clear D;go_wp2;go_ret;exact⟨by rw[y.out];rfl,rfl⟩
theorem eB(l:List Int)(k:Nat)(h:k<l.length):Fr.nums (l.take (k+1))=Fr.nums (l.take k)++Leb.put l[k].toNat:=by
 unfold Fr.nums;rw[List.take_succ_eq_append_getElem h,List.map_append,List.flatten_append];simp
theorem oQ(b:Nat)(l:List Int)(bk:l.length<=100)(Z:∀n∈l,0<=n∧n<=9223372036854775807)(w:World)(h:Ints w b l):
    Calls Tryz.prog 221 #[.slice (some ⟨b,0,none⟩) l.length l.length] w fun e w'=>∃p cap,e=.returned (.slice p (Fr.nums l).length cap)∧Has w' w.1.size (.slice p (Fr.nums l).length cap) (Fr.nums l)∧Below w.1.size w w':=by
  have H:=xX h;have a1:=xX Z;clear h Z;go_enter Tryz.func221,Tryz.ntmps221;go_wp2;go_loopw [3,8] (fun bb K wr=>∃(k:Nat) (xs:L8),k<=l.length∧K=.int .i64 k∧xs.length<=10*k∧Hid (xs=Fr.nums (l.take k)∧Has wr w.1.size bb xs∧Below w.1.size w wr)) (fun _ K _=>l.length-(intOf K).toNat);case atStart=>exact⟨0,[],by omega,rfl,by simp,rfl,aI _ _,xY⟩
  case round=>
    obtain⟨k,xs,bj,rfl,bp,o⟩:=hrel;have a3:=o.out.2.2.size;have y:=xX o.out.2.1;by_cases J:k<l.length
    · have bl:(k:Int)<(l.length:Int):=(by omega);have a4:wr.cell? ⟨b,k,none⟩=some (.int .i64 l[k]):=(o.out.2.2.cell (p:=⟨b,k,none⟩) H.out.1).trans (H.out.2 k J);have I:=a1.out l[k] (List.getElem_mem J);have D:=xX (eB l k J);obtain⟨m,V⟩:∃m:Nat,(m:Int)=l[k]:=⟨l[k].toNat,by omega⟩;rw[<-V] at a4 I D;have bn:(m:Int)<=9223372036854775807:=I.2;have A:Hid (∀L:Int,L=(m:Int)->Calls Tryz.prog 94 #[.int .u64 L] wr fun e w'=>∃g cap,e=.returned (.slice (some ⟨g,0,none⟩) (Leb.put m).length cap)∧bA w' wr.1.size g cap (Leb.put m)∧Below wr.1.size wr w'):=fun L a9=>by
        subst a9;exact fN _ (by omega) wr
      have a7:=Leb.put_length_le m;have M:Hid (Fr.nums (l.take (k+1))=Fr.nums (l.take k)++Leb.put m):=by
        show _=_;rw[D.out,Int.toNat_natCast]
      clear V I D;obtain⟨u,Y⟩:∃u,u=Leb.put m:=⟨_,rfl⟩;rw[<-Y] at A a7 M;clear Y;go_wp2_with fail;refine(A.out _ (by omega)).mono ?_;rintro e w1 ⟨g,bc,rfl,X,E⟩;have a0:=xX X;have z:=xX E;have be:=E.size;clear X E A
      go_wp2_with (first|(at_builtin;refine aw (y.out.on z.out) a0.out.at (by omega) (by omega) rfl rfl rfl rfl rfl ?_;intro ah bq bd W O U R a5;have aj:=xX (au R (y.out.on z.out) (by omega));have ak:=xX U;have a8:ah.length<=10*(k+1):=(by rw[O.out,List.length_append];omega);clear R a5 U)|fail)
      go_roundw;case rel=>exact⟨k+1,ah,by omega,by go_num,a8,by rw[O.out,M.out,o.out.1],ak.out,(o.out.2.2.trans (z.out.mono a3)).trans aj.out⟩
      case measure=>simp[intOf];omega
    · have a6:k=l.length:=(by omega);subst a6;have a2:Hid (xs=Fr.nums l):=by
        show _=_;rw[o.out.1,List.take_length]
      obtain⟨p,cap,rfl,-,-⟩:=y.out.at;go_wp2;go_ret;rw[<-a2.out];exact⟨p,cap,rfl,y.out,o.out.2.2⟩
end
section
open Go.RowKit
theorem Hv.on(h:Hv w)(hb:Below B w w')(o:2<B):Hv w':=fun n y=>by
 rw[hb.cell (p:=⟨2,n,none⟩) o];exact h n y
theorem Hv.lt(h:Hv w):2<w.1.size:=World.block_lt_of_cell? _ _ (h 0 (by omega))
theorem Hv.next(h:Hv w)(hb:Below w.1.size w w'):Hv w':=h.on hb h.lt
theorem qa(s:Nat)(a b c d:Int)(o:a=((s % 256:Nat):Int))(hb:b=((s / 256 % 256:Nat):Int))(y:c=((s / 256 / 256 % 256:Nat):Int))(hd:d=((s / 256 / 256 / 256 % 256:Nat):Int)):
  (#[.int .u8 a,.int .u8 b,.int .u8 c,.int .u8 d]:AV)=(cellsOf (Sch.le 4 s)).toArray:=by
 subst o hb y hd;simp only[Sch.le,cellsOf,List.map_cons,List.map_nil,UInt8.toNat_ofNat'];simp
theorem rp(p:OA)(c:Nat)(l:L8)(D:l.length<=140737488351232)(w:World)(z:Hv w)(h:At w p l):
  Calls Tryz.prog 73 #[.slice p l.length c] w fun e w'=>e=.returned (.slice (some ⟨w.1.size,0,none⟩) 4 4)∧w'=w.alloc (.cells (cellsOf (Sch.le 4 (Crc.sum l))).toArray 5):=by
 have o:=xX (tW p c l D w z h);have E:Crc.sum l<4294967296:=Crc.update_lt (by omega) l;obtain⟨s,y⟩:∃s,s=Crc.sum l:=⟨_,rfl⟩;rw[<-y] at o E ⊢;clear y z h;go_enter Tryz.func73,Tryz.ntmps73;go_wp2_with fail;refine o.out.mono ?_;rintro e w1 ⟨rfl,A⟩;rw[A];clear A w1 o;go_wp2;go_ret;refine⟨rfl,congrArg (fun C=>w.alloc (.cells C 5)) (qa s _ _ _ _ ?_ ?_ ?_ ?_)⟩ <;> omega
theorem rs(B:Nat)(p:OA)(c:Nat)(l:L8)(bd:l.length<=10000000)(w:World)(Y:Hv w)(h:Has w B (.slice p l.length c) l)(a4:B<=w.1.size):
    Calls Tryz.prog 50 #[.slice p l.length c] w fun e w'=>∃g D cap,e=.returned (.slice (some ⟨g,D,none⟩) (Cob.stuff (Fr.check l)).length cap)∧eW w' g D (Cob.stuff (Fr.check l))∧w.1.size<=g∧(Cob.stuff (Fr.check l)).length<=cap∧Below B w w':=by
  have ah:Hid (At w p l):=by
    obtain⟨bl,a9,I,z,-⟩:=h.at;injection I with e1;subst e1;exact z
  have L:=xX h;have y:=xX (rp p c l (by omega) w Y ah.out);have E:Hid (At (w.alloc (.cells (cellsOf (Sch.le 4 (Crc.sum l))).toArray 5)) (some ⟨w.1.size,0,none⟩) (Sch.le 4 (Crc.sum l))):=tw w _ _ rfl;have o:Hid (Below w.1.size w (w.alloc (.cells (cellsOf (Sch.le 4 (Crc.sum l))).toArray 5))):=xV;obtain⟨k,A⟩:∃k,k=Sch.le 4 (Crc.sum l):=⟨_,rfl⟩;have a8:k.length=4:=by rw[A,Sch.le_len]
  have ak:Hid (Fr.check l=l++k):=by show _=_;rw[A];rfl
  rw[<-A] at y E o;obtain⟨O,V⟩:∃O,O=w.alloc (.cells (cellsOf k).toArray 5):=⟨_,rfl⟩;rw[<-V] at y E o;have be:=o.out.size;clear V A Y h;go_enter Tryz.func50,Tryz.ntmps50;go_wp2_with fail;refine y.out.mono ?_;rintro e w1 ⟨rfl,Z⟩;rw[Z];clear Z w1 y
  go_wp2_with (first|(at_builtin;refine aw (c:=4) (L.out.on o.out) E.out (by omega) (by omega) rfl rfl rfl rfl (by rw[a8];rfl) ?_;intro J q cap W M X z a7;have K:=xX (au z (L.out.on o.out) (by omega));have a2:=xX X;have bk:J.length<=10000010:=(by rw[M.out,List.length_append];omega);clear z a7 X)|fail)
  obtain⟨bn,bb,I,R,a6⟩:=a2.out.at;injection I with e1 _ e2;subst e1 e2;have bj:=K.out.size;refine(kv q cap J W (by omega) a6 R).mono ?_;rintro e bp ⟨g,D,a3,rfl,U,bc,a5,hb⟩;have a1:=xX U;have aj:=xX hb;clear U hb R;have a0:Hid (Fr.check l=J):=by show _=_;rw[ak.out,M.out]
  go_wp2;go_ret;rw[a0.out];exact⟨g,D,a3,rfl,a1.out,by omega,a5,((o.out.mono a4).trans K.out).trans (aj.out.mono (by omega))⟩
theorem wL(p q:OA)(c d:Nat)(a b:L8)(w:World)(y:At w p a)(hb:At w q b):
  Calls Tryz.prog 107 #[.slice p a.length c,.slice q b.length d] w fun e w'=>e=.returned (.bool (a==b))∧w'=w:=by
 have z:=dO y c;have A:=dO hb d;have o:Hid (((textOf a).toList==(textOf b).toList)=(a==b)):=by
  show _=_;rw[ByteArray.toList_eq,ByteArray.toList_eq,gJ,gJ]
 clear y hb;generalize textOf a=x at z o;generalize textOf b=D at A o;go_enter Tryz.func107,Tryz.ntmps107;go_wp2;go_ret;exact⟨by rw[<-o.out];rfl,rfl⟩
theorem so(n c:Nat)(w:World):(binOp .eql 22 (.slice none n c) (.slice none 0 0)).run Tryz.prog w=.ok (.bool true) w:=by kernel_rfl
theorem sg(a:Addr)(n c:Nat)(w:World):(binOp .eql 22 (.slice (some a) n c) (.slice none 0 0)).run Tryz.prog w=.ok (.bool false) w:=by kernel_rfl
theorem wM(p:OA)(c:Nat)(l:L8)(U:l.length<=140737488351232)(w:World)(h:At w p l):
    Calls Tryz.prog 141 #[.slice p l.length c] w fun e w'=>∃q cap,e=.returned (.slice q l.length cap)∧Has w' w.1.size (.slice q l.length cap) l∧Below w.1.size w w':=by
  cases p with
  |none=>
    have K:l=[]:=by
      rcases h with rfl | ⟨b,V,M,_,_⟩
      · rfl
      · cases M
    subst K;have O:=so 0 c w;go_enter Tryz.func141,Tryz.ntmps141;go_wp2;go_ret;exact⟨none,0,rfl,aI _ _,xY⟩
  |some a=>
    have D:=xX (h.on ((Below.refl _ w).alloc xZ (.cells #[] 5)));have o:=xX (sy w).has;have E:Hid (Below w.1.size w (w.alloc (.cells #[] 5))):=xV;have O:=sg a l.length c w;clear h;go_enter Tryz.func141,Tryz.ntmps141
    go_wp2_with (first|(at_builtin;refine aw (xs:=[]) o.out D.out (by simp;omega) (by simp) rfl rfl rfl rfl rfl ?_;intro R q cap W J A z L;have I:=xX (au z o.out (by simp));have y:=xX A;clear z L A)|fail)
    go_ret;have e:R=l:=J.out;rw[e] at y;rw[e];exact⟨q,cap,rfl,y.out,E.out.trans I.out⟩
end
section
open Go.RowKit
theorem ints_at{H:Nat}(o:w.1.size=H)(l:List Int){C:AV}(h:C=(l.map fun n=>Value.int .i64 n).toArray):Ints (w.alloc (.cells C 2)) H l:=by
 subst o;exact cH w l h
def jO(w:World)(er:Nat)(l:L8)(e:Ending)(w':World):Prop :=
 (er=0∧∃q cap,e=.returned (.tuple #[.slice q l.length cap,.int .i64 0])∧Has w' w.1.size (.slice q l.length cap) l∧Below w.1.size w w')∨(er≠0∧e=.returned (.tuple #[.slice none 0 0,.int .i64 (er:Nat)])∧Below w.1.size w w')
theorem aR{o:Nat}(h:o≠0)(hb:Below w.1.size w w'):jO w o l (.returned (.tuple #[.slice none 0 0,.int .i64 (o:Nat)])) w':=.inr ⟨h,rfl,hb⟩
def dl(n:Int)(s:List Col):Nat:=if Fr.within Fr.N n=false then 7 else Sch.err s
theorem m7(n:Int)(be:Fr.i64 n)(s:List Col)(sp:OA)(M:Nat)(w:World)(ci:s.length*120<=140737488351232)(bl:bw w sp s)(bk:∀x∈s,x.wf):
    Calls Tryz.prog 218 #[.agg #[.int .i64 n,.slice sp s.length M]] w (jO w (dl n s) (Fr.nums [n]++Sch.bytes s)):=by
  obtain⟨w0,L⟩:∃w0,w0=w.alloc (.cells #[.int .i64 n,.slice sp s.length M] 122):=⟨_,rfl⟩;have bn:w0.1.size=w.1.size+1:=by rw[L];simp
  have bN:Hid (Below w.1.size w w0):=by rw[L];exact xV
  have c0:w0.cell? ⟨w.1.size,0,none⟩=some (.int .i64 n):=by rw[L];simp
  have c1:w0.cell? ⟨w.1.size,1,none⟩=some (.slice sp s.length M):=by rw[L];simp
  obtain⟨w1,R⟩:∃w1,w1=w0.alloc (.cells #[.int .i64 n] 2):=⟨_,rfl⟩;have a5:Hid (Ints w1 (w.1.size+1) [n]):=by rw[R];exact ints_at bn [n] rfl
  have U:Hid (Below w0.1.size w0 w1):=by rw[R];exact xV
  have V:Hid (Below w.1.size w w1):=bN.out.trans (U.out.mono (by omega));have cs:w1.1.size=w.1.size+2:=by rw[R];simp[bn]
  have a8:w1.cell? ⟨w.1.size,0,none⟩=some (.int .i64 n):=ac U.out c0;have b6:w1.cell? ⟨w.1.size,1,none⟩=some (.slice sp s.length M):=ac U.out c1;have y:=xX (jm 2147483648 (w.1.size+1) [n] (by simp) w1 a5.out);have a9:[n].all (Fr.within 2147483648)=Fr.within Fr.N n:=by simp[Fr.N]
  rw[a9] at y;have J:Hid ((w.alloc (.cells #[.int .i64 n,.slice sp s.length M] 122)).alloc (.cells #[.int .i64 n] 2)=w1):=by rw[R,L];exact rfl
  have bX:=xX be;obtain⟨I,a2⟩:∃I,I=dl n s:=⟨_,rfl⟩;have Z:=xX a2;rw[<-a2];have b2:=xX bl;have b1:=xX bk;clear a9 L R be a2 bl bk c0 c1 a5 U;by_cases K:Fr.within Fr.N n=true
  · rw[K] at y;have E:Hid (I=Sch.err s):=by
      show _=_;rw[Z.out,dl,K];rfl
    have b7:=(Fr.within_iff.1 K).1;have D:=xX (pe s sp M w1 ci (b2.out.on V.out) b1.out);clear Z K;by_cases A:Sch.err s=0
    · have bT:Hid (I=0):=E.out.trans A;have b8:(Sch.bytes s).length<=1024:=(Sch.err_open A).2.2.2;rw[show kR s=Sch.bytes s from if_pos A,A] at D;obtain⟨a0,bc⟩:∃a0,a0=Sch.bytes s:=⟨_,rfl⟩;rw[<-bc] at D b8 ⊢;clear A E bc;go_enter Tryz.func218,Tryz.ntmps218;go_wp2_with fail;rw[J.out];refine y.out.mono ?_;rintro e o ⟨rfl,z⟩;rw[z];clear z o y J;go_wp2_with fail;refine D.out.mono ?_;rintro e o ⟨q,cap,rfl,ah,a1,hb⟩;have co:o.cell? ⟨w.1.size,0,none⟩=some (.int .i64 n):=ac hb a8;have bq:=xX ah;have X:=xX (V.out.trans (hb.mono (by omega)));have cq:=X.out.size;clear ah a1 hb D a8 b6;have a6:Hid (Ints (o.alloc (.cells #[.int .i64 n] 2)) o.1.size [n]):=cH o [n] rfl;have Y:Hid (Below o.1.size o (o.alloc (.cells #[.int .i64 n] 2))):=xV;have a7:=xX (oQ o.1.size [n] (by simp) (fun m bd=>by simp at bd;subst bd;exact⟨b7,bX.out.2⟩) _ a6.out);go_wp2_with fail;refine a7.out.mono ?_;rintro e ct ⟨p3,cn,rfl,O,hb⟩;have ak:=xX (O.lower (B':=o.1.size) Y.out.size);have aj:=xX (Y.out.trans (hb.mono Y.out.size));have bs:=xX (bq.out.on aj.out);have bj:=aj.out.size;clear O hb a7 a6 Y;have cc:(Fr.nums [n]).length<=10:=by
        have:=Leb.put_length_le n.toNat;rw[Fr.nums_cons,Fr.nums_nil,List.append_nil];exact this
      obtain⟨bp,a4⟩:∃bp,bp=Fr.nums [n]:=⟨_,rfl⟩;rw[<-a4] at ak cc ⊢;have b0:=xX a4;clear a4
      go_wp2_with (first|(at_builtin;refine aw ak.out bs.out (by omega) bj rfl rfl rfl rfl rfl ?_;intro ck cj b5 W b3 O bb b9;have bO:=xX (au bb ak.out bj);have b4:=xX O;clear bb b9 O)|fail)
      go_ret2;have e:Fr.nums [n]++a0=ck:=(by rw[b3.out,b0.out]);rw[e];exact .inl ⟨bT.out,cj,b5,rfl,b4.out.lower (by omega),(X.out.trans (aj.out.mono (by omega))).trans (bO.out.mono (by omega))⟩
    · have cb:I≠0:=(by rw[E.out];exact A);have cp:((I:Int) != 0)=true:=(by rw[bne_iff_ne];omega);rw[show kR s=[] from if_neg A,<-E.out] at D;clear A E;go_enter Tryz.func218,Tryz.ntmps218;go_wp2_with fail;rw[J.out];refine y.out.mono ?_;rintro e o ⟨rfl,z⟩;rw[z];clear z o y J;go_wp2_with fail;refine D.out.mono ?_;rintro e o ⟨q,cap,rfl,ah,a1,hb⟩;have X:=xX (V.out.trans (hb.mono (by omega)));clear ah a1 hb D;go_wp2;go_ret2;exact aR cb X.out
  · have a3:Fr.within Fr.N n=false:=(by simpa using K);rw[a3] at y;have E:Hid (I=7):=by
      show _=_;rw[Z.out,dl,a3];rfl
    clear Z K a3;go_enter Tryz.func218,Tryz.ntmps218;go_wp2_with fail;rw[J.out];refine y.out.mono ?_;rintro e o ⟨rfl,z⟩;rw[z];clear z o y J;go_wp2;go_ret2;rw[E.out];exact aR (by omega) V.out
end
section
open Go.RowKit
theorem mT(U:Has w B v xs)(h:At w p l)(M:xs.length+l.length<=140737488355328)(D:B<=w.1.size){ops:Array Oper}{o:Oper}{a:Act}{z:Act->World->Prop}{Q:Exit->Act->World->Prop}{A:Prop}(s x:Operand)(Y:o.type=22)(L:o.guard=none)(R:o.op=Op.call { callee:=Callee.builtin Builtin.append,args:=#[s,x],argTypes:=#[22,22] })(X:a.eval s=v)(ah:a.eval x=.slice p l.length c)(E:∀q cap W y,Hid (y=xs++l)->bI w B v W (.slice q y.length cap) y->z (a.put o.dst (.slice q y.length cap)) W):
  if Region.wanted o (yielded ops a.tmps)=true then Oper.wp Tryz.prog o a w z Q else A:=by
 have Z:Region.wanted o (yielded ops a.tmps)=true:=by simp[Region.wanted,L]
 rw[if_pos Z];obtain⟨q,cap,W,⟨V⟩,O,I,-,J⟩:=i8 B v xs l p c w U h M D;unfold Oper.wp;have K:(execOp a.eval o).run Tryz.prog w=.ok (.value (.slice q (xs++l).length cap)) W:=by
  simp only[execOp,R,resolve,invoke,builtin];simp[X,ah,Y,V,Result.andThen]
 rw[K];exact E q cap W (xs++l) (xX rfl) ⟨O,I,J⟩
theorem Ints.drew{l:List Int}(h:Ints w b l):Ints w.drew b l:=⟨h.1,fun j o=>h.2 j o⟩
theorem dN{W:World}{q:Value}{D:L8}(z:bI w B v W q D)(A:Has w B v xs){b o:Nat}{u:Value}(hb:b<B)(y:B<=w.1.size)(h:w.cell? ⟨b,o,none⟩=some u):W.cell? ⟨b,o,none⟩=some u :=
 ((au z.aside A y).cell (p:=⟨b,o,none⟩) hb).trans h
def ed(n q f r:Int)(b:L8):Nat:=if (Fr.within Fr.N n&&Fr.within Fr.S q&&Fr.within Fr.S f&&decide (1<=r∧r<=64))=false then 7 else if 2200<b.length then 2 else 0
theorem tg(n q f r:Int)(bX:Fr.i64 n)(b0:Fr.i64 q)(bT:Fr.i64 f)(bc:Fr.i64 r)(b:L8)(R:OA)(X:Nat)(w:World)(d3:b.length<=140737488351232)(bO:At w R b):
    Calls Tryz.prog 222 #[.agg #[.int .i64 n,.int .i64 q,.int .i64 f,.int .i64 r,.slice R b.length X]] w (jO w (ed n q f r b) (Fr.nums [n,q,f,r]++b)):=by
  obtain⟨w0,D⟩:∃w0,w0=w.alloc (.cells #[.int .i64 n,.int .i64 q,.int .i64 f,.int .i64 r,.slice R b.length X] 124):=⟨_,rfl⟩;have b1:w0.1.size=w.1.size+1:=by rw[D];simp
  have b5:Hid (Below w.1.size w w0):=by rw[D];exact xV
  have c0:w0.cell? ⟨w.1.size,0,none⟩=some (.int .i64 n):=by rw[D];simp
  have c1:w0.cell? ⟨w.1.size,1,none⟩=some (.int .i64 q):=by rw[D];simp
  have c2:w0.cell? ⟨w.1.size,2,none⟩=some (.int .i64 f):=by rw[D];simp
  have c3:w0.cell? ⟨w.1.size,3,none⟩=some (.int .i64 r):=by rw[D];simp
  have c4:w0.cell? ⟨w.1.size,4,none⟩=some (.slice R b.length X):=by rw[D];simp
  obtain⟨w1,ak⟩:∃w1,w1=w0.alloc (.cells #[.int .i64 n] 2):=⟨_,rfl⟩;have bk:Hid (Ints w1 (w.1.size+1) [n]):=by rw[ak];exact ints_at b1 [n] rfl
  have J:Hid (Below w0.1.size w0 w1):=by rw[ak];exact xV
  have be:Hid (Below w.1.size w w1):=b5.out.trans (J.out.mono (by omega));have b2:w1.1.size=w.1.size+1+1:=by rw[ak];simp[b1]
  have ck:=ac J.out c0;have cn:=ac J.out c1;have co:=ac J.out c2;have cp:=ac J.out c3;have cq:=ac J.out c4;have a1:=xX (jm 2147483648 (w.1.size+1) [n] (by simp) w1 bk.out);have bs:[n].all (Fr.within 2147483648)=Fr.within Fr.N n:=by simp[Fr.N]
  rw[bs] at a1;have bp:Hid ((w.alloc (.cells #[.int .i64 n,.int .i64 q,.int .i64 f,.int .i64 r,.slice R b.length X] 124)).alloc (.cells #[.int .i64 n] 2)=w1):=by rw[ak,D];exact rfl
  obtain⟨o,a0⟩:∃o,o=w1.alloc (.cells #[.int .i64 q,.int .i64 f] 2):=⟨_,rfl⟩;have M:Hid (Below w1.1.size w1 o):=by rw[a0];exact xV
  have O:Hid (Below w.1.size w o):=be.out.trans (M.out.mono (by omega));have a2:=xX (jm 1099511627776 w1.1.size [q,f] (by simp) o (by rw[a0];exact cH w1 [q,f] rfl));have bN:[q,f].all (Fr.within 1099511627776)=(Fr.within Fr.S q&&Fr.within Fr.S f):=by simp[Fr.S]
  rw[bN] at a2;have cy:o.1.size=w.1.size+1+1+1:=by rw[a0];simp[b2]
  have c6:=ac M.out ck;have c7:=ac M.out cn;have c8:=ac M.out co;have c9:=ac M.out cp;have dd:=ac M.out cq;have bq:Hid (w1.alloc (.cells #[.int .i64 q,.int .i64 f] 2)=o):=by rw[a0];exact rfl
  obtain⟨z,a9⟩:∃z,z=ed n q f r b:=⟨_,rfl⟩;have bj:=xX a9;rw[<-a9];have b4:=xX bO;have b9:=xX (And.intro bX (And.intro b0 (And.intro bT bc)));obtain⟨Y,a3⟩:∃Y,Y=Fr.within Fr.N n:=⟨_,rfl⟩;obtain⟨Z,a4⟩:∃Z,Z=(Fr.within Fr.S q&&Fr.within Fr.S f):=⟨_,rfl⟩;rw[<-a3] at a1;rw[<-a4] at a2;have E:Hid (z=if (Y&&Z&&decide (1<=r∧r<=64))=false then 7 else if 2200<b.length then 2 else 0):=by
    show _=_;rw[bj.out,a3,a4,ed,<-Bool.and_assoc]
  have bl:Hid (Y=true->Z=true->(0<=n∧0<=q∧0<=f)):=by
    intro U V;rw[a3] at U;rw[a4,Bool.and_eq_true] at V;exact⟨(Fr.within_iff.1 U).1,(Fr.within_iff.1 V.1).1,(Fr.within_iff.1 V.2).1⟩
  have cx:=bc;unfold Fr.i64 at cx;clear bs bN D ak a0 bX b0 bT bc a9 bO c0 c1 c2 c3 c4 bk J bj a3 a4;go_enter Tryz.func222,Tryz.ntmps222;go_wp2_with fail;rw[bp.out];refine a1.out.mono ?_;rintro e v ⟨rfl,aj⟩;rw[aj];clear aj v a1 bp;cases Y with
  |false=>
    have y:Hid (z=7):=E.out;go_wp2;go_ret2;rw[y.out];exact aR (by omega) be.out
  |true=>
    go_wp2_with fail;rw[<-b2];rw[bq.out];refine a2.out.mono ?_;rintro e v ⟨rfl,aj⟩;rw[aj];clear aj v a2 bq;cases Z with
    |false=>
      have y:Hid (z=7):=E.out;go_wp2;go_ret2;rw[y.out];exact aR (by omega) O.out
    |true=>
      have b8:=xX (bl.out (by simp) (by simp));clear bl;by_cases U:r<1
      · have y:Hid (z=7):=by
          show _=_;rw[E.out,decide_eq_false (show ¬(1<=r∧r<=64) by omega)];rfl
        clear E;go_wp2;go_ret2;rw[y.out];exact aR (by omega) O.out
      by_cases V:64<r
      · have y:Hid (z=7):=by
          show _=_;rw[E.out,decide_eq_false (show ¬(1<=r∧r<=64) by omega)];rfl
        clear E;go_wp2;go_ret2;rw[y.out];exact aR (by omega) O.out
      have y:Hid (z=if 2200<b.length then 2 else 0):=by
        show _=_;rw[E.out,decide_eq_true (show(1<=r∧r<=64) by omega)];rfl
      clear E;by_cases ah:2200<b.length
      · have cs:(2200:Int)<(b.length:Int):=(by omega);have a7:Hid (z=2):=y.out.trans (if_pos ah);clear y ah;go_wp2;go_ret2;rw[a7.out];exact aR (by omega) O.out
      · have cs:¬(2200:Int)<(b.length:Int):=(by omega);have a7:Hid (z=0):=y.out.trans (if_neg ah);clear y ah;have cw:(Fr.nums [n,q,f,r]).length<=40:=by
          have U:=Leb.put_length_le n.toNat;have V:=Leb.put_length_le q.toNat;have ah:=Leb.put_length_le f.toNat;have d2:=Leb.put_length_le r.toNat;simp only[Fr.nums_cons,Fr.nums_nil,List.append_nil,List.length_append];omega
        have bn:Hid (Calls Tryz.prog 221 #[.slice (some ⟨w.1.size+1+1+1,0,none⟩) 4 4] (o.alloc (.cells #[.int .i64 n,.int .i64 q,.int .i64 f,.int .i64 r] 2)).drew fun e bd=>∃p cap,e=.returned (.slice p (Fr.nums [n,q,f,r]).length cap)∧Has bd o.1.size (.slice p (Fr.nums [n,q,f,r]).length cap) (Fr.nums [n,q,f,r])∧Below o.1.size o bd):=by
          refine(oQ (w.1.size+1+1+1) [n,q,f,r] (by simp) (fun m cv=>?_) _ (ints_at cy [n,q,f,r] rfl).drew).mono ?_
          · have U:=b9.out;have V:=b8.out;unfold Fr.i64 at U;simp only[List.mem_cons,List.not_mem_nil,or_false] at cv;omega
          · rintro e bd ⟨p,cap,rfl,a5,hb⟩;have a8:Below o.1.size o (o.alloc (.cells #[.int .i64 n,.int .i64 q,.int .i64 f,.int .i64 r] 2)).drew:=xV.drew;exact⟨p,cap,rfl,a5.lower a8.size,a8.trans (hb.mono a8.size)⟩
        obtain⟨a6,bb⟩:∃a6,a6=Fr.nums [n,q,f,r]:=⟨_,rfl⟩;rw[<-bb] at bn cw;have cb:=xX bb;clear bb;have ct:a6.length+b.length<=140737488355328:=(by omega);go_wp2_with fail
        go_region_held3 (fun w'=>w'.cell? ⟨w.1.size,0,none⟩=some (.int .i64 n)∧w'.cell? ⟨w.1.size,1,none⟩=some (.int .i64 q)∧w'.cell? ⟨w.1.size,2,none⟩=some (.int .i64 f)∧w'.cell? ⟨w.1.size,3,none⟩=some (.int .i64 r)∧w'.cell? ⟨w.1.size,4,none⟩=some (.slice R b.length X)) (go_keep) (first|(go_at_call 221;refine bn.out.mono ?_;rintro e d4 ⟨p3,d1,rfl,a5,A⟩;have df:=ac A c6;have dp:=ac A c7;have dr:=ac A c8;have ds:=ac A c9;have dv:=ac A dd;have K:=xX a5;have b6:=xX A;have b3:=xX ((b4.out.on O.out).on A);have L:=A.size;clear a5 A)|(refine mT (B:=o.1.size) (xs:=a6) (l:=b) K.out b3.out ct L (.tmp 41) (.tmp 43) (by rfl) (by rfl) (by rfl) (by rfl) (by rfl) ?_;intro c5 cj W d0 cc I;have d5:=dN I K.out (by omega) L df;have d6:=dN I K.out (by omega) L dp;have d7:=dN I K.out (by omega) L dr;have d8:=dN I K.out (by omega) L ds;have d9:=dN I K.out (by omega) L dv;have ci:=xX I.has;have b7:=xX (au I.aside K.out L);clear I))
        go_wp2;go_ret2;have e:Fr.nums [n,q,f,r]++b=d0:=(by rw[cc.out,cb.out]);rw[e];exact .inl ⟨a7.out,c5,cj,rfl,ci.out.lower (by omega),(O.out.trans (b6.out.mono (by omega))).trans (b7.out.mono (by omega))⟩
end
section
open Go.RowKit
theorem jN{o:Type}(p:o->Bool)(l:List o)(k:Nat)(h:k<l.length):(l.take (k+1)).all p=((l.take k).all p&&p l[k]):=by
 rw[List.take_succ_eq_append_getElem h,List.all_append];simp
theorem eH(es:List Ent)(k:Nat)(h:k<es.length):((es.take (k+1)).map Fr.entB).flatten=((es.take k).map Fr.entB).flatten++Fr.entB es[k]:=Sch.flatten_take Fr.entB es k h
theorem qk(x:Idx)(cp:Fr.i64 x.at_∧Fr.i64 x.frames∧Fr.i64 x.rows)(ci:∀e∈x.entries,Fr.i64 e.at_∧Fr.i64 e.row∧Fr.i64 e.sch)(O:OA)(Z:Nat)(w:World)(e8:x.entries.length*24<=140737488351232)(ck:di w O x.entries):
    Calls Tryz.prog 224 #[.agg #[.int .i64 x.at_,.int .i64 x.frames,.int .i64 x.rows,.slice O x.entries.length Z]] w (jO w (Fr.idxErr x) (Fr.nums [x.at_,x.frames,x.rows,(x.entries.length:Int)]++(x.entries.map Fr.entB).flatten)):=by
  obtain⟨a,b,c,es⟩:=x;dsimp only at *
  obtain⟨w0,M⟩:∃w0,w0=(w.alloc (.cells #[.int .i64 a,.int .i64 b,.int .i64 c,.slice O es.length Z] 126)).alloc (.cells #[.int .i64 a,.int .i64 b,.int .i64 c,.slice O es.length Z] 45):=⟨_,rfl⟩;have cq:w0.1.size=w.1.size+1+1:=by rw[M];simp
  have c5:Hid (Below w.1.size w w0):=by rw[M];exact xV.alloc (by simp) _
  have c0:w0.cell? ⟨w.1.size+1,0,none⟩=some (.int .i64 a):=by rw[M];simp
  have c1:w0.cell? ⟨w.1.size+1,1,none⟩=some (.int .i64 b):=by rw[M];simp
  have c2:w0.cell? ⟨w.1.size+1,2,none⟩=some (.int .i64 c):=by rw[M];simp
  have c3:w0.cell? ⟨w.1.size+1,3,none⟩=some (.slice O es.length Z):=by rw[M];simp
  obtain⟨w1,a2⟩:∃w1,w1=w0.alloc (.cells #[.int .i64 a,.int .i64 b,.int .i64 c] 2):=⟨_,rfl⟩;have U:Hid (Below w0.1.size w0 w1):=by rw[a2];exact xV
  have V:Hid (Below w.1.size w w1):=c5.out.trans (U.out.mono (by omega));have ew:w1.1.size=w.1.size+1+1+1:=by rw[a2];simp[cq]
  have d7:=ac U.out c0;have d8:=ac U.out c1;have d9:=ac U.out c2;have cc:=ac U.out c3;have I:=xX (jm 1099511627776 (w.1.size+1+1) [a,b,c] (by simp) w1 (by rw[a2];exact ints_at cq [a,b,c] rfl));have bb:[a,b,c].all (Fr.within 1099511627776)=(Fr.within Fr.S a&&Fr.within Fr.S b&&Fr.within Fr.S c):=by simp[Fr.S,Bool.and_assoc]
  rw[bb] at I;have aj:Hid (((w.alloc (.cells #[.int .i64 a,.int .i64 b,.int .i64 c,.slice O es.length Z] 126)).alloc (.cells #[.int .i64 a,.int .i64 b,.int .i64 c,.slice O es.length Z] 45)).alloc (.cells #[.int .i64 a,.int .i64 b,.int .i64 c] 2)=w1):=by rw[a2,M];exact rfl
  obtain⟨E,b0⟩:∃E,E=Fr.idxErr ⟨a,b,c,es⟩:=⟨_,rfl⟩;rw[<-b0];obtain⟨ak,be⟩:∃ak,ak=(Fr.within Fr.S a&&Fr.within Fr.S b&&Fr.within Fr.S c):=⟨_,rfl⟩;rw[<-be] at I;have bs:Hid (E=if ak=false then 7 else if 64<es.length then 3 else if es.all Fr.entOk=false then 7 else 0):=by
    show _=_;rw[b0,be];rfl
  have b8:Hid (ak=true->(0<=a∧0<=b∧0<=c)):=by
    intro K;rw[be,Bool.and_eq_true,Bool.and_eq_true] at K;exact⟨(Fr.within_iff.1 K.1.1).1,(Fr.within_iff.1 K.1.2).1,(Fr.within_iff.1 K.2).1⟩
  have d0:=xX cp;have dd:=xX ck;have df:=xX ci;clear bb M a2 b0 cp ck ci c0 c1 c2 c3 U be;go_enter Tryz.func224,Tryz.ntmps224;go_wp2_with fail;rw[aj.out];refine I.out.mono ?_;rintro e v ⟨rfl,a1⟩;rw[a1];clear a1 v I aj;cases ak with
  |false=>
    have X:Hid (E=7):=bs.out;go_wp2;go_ret2;rw[X.out];exact aR (by omega) V.out
  |true=>
    have ds:=xX (b8.out (by simp));have X:Hid (E=if 64<es.length then 3 else if es.all Fr.entOk=false then 7 else 0):=bs.out;clear b8 bs;by_cases bc:64<es.length
    · have ea:(64:Int)<(es.length:Int):=(by omega);have a8:Hid (E=3):=X.out.trans (if_pos bc);clear X bc;go_wp2;go_ret2;rw[a8.out];exact aR (by omega) V.out
    have ea:¬(64:Int)<(es.length:Int):=(by omega);have e6:es.length<=64:=(by omega);have a8:Hid (E=if es.all Fr.entOk=false then 7 else 0):=X.out.trans (if_neg bc);clear X bc;obtain⟨L,ec⟩:∃L:Int,L=(es.length:Int):=⟨_,rfl⟩;have J:=xX (oQ w1.1.size [a,b,c,(es.length:Int)] (by simp) (fun m b1=>by
      have K:=d0.out;have bX:=ds.out;unfold Fr.i64 at K;simp only[List.mem_cons,List.not_mem_nil,or_false] at b1
      omega) (w1.alloc (.cells #[.int .i64 a,.int .i64 b,.int .i64 c,.int .i64 (es.length:Int)] 2)) (cH w1 [a,b,c,(es.length:Int)] rfl))
    have eq:(Fr.nums [a,b,c,(es.length:Int)]).length<=40:=by
      have K:=Leb.put_length_le a.toNat;have bX:=Leb.put_length_le b.toNat;have eb:=Leb.put_length_le c.toNat;have e4:=Leb.put_length_le (es.length:Int).toNat;simp only[Fr.nums_cons,Fr.nums_nil,List.append_nil,List.length_append];omega
    obtain⟨a3,b2⟩:∃a3,a3=Fr.nums [a,b,c,(es.length:Int)]:=⟨_,rfl⟩;rw[<-b2] at J eq ⊢;rw[ew] at J;have dv:=xX b2;clear b2 ec L;have a4:Hid (Below w1.1.size w1 (w1.alloc (.cells #[.int .i64 a,.int .i64 b,.int .i64 c,.int .i64 (es.length:Int)] 2))):=xV;go_wp2_with fail;refine J.out.mono ?_;rintro e f0 ⟨p2,e1,rfl,hh,hb⟩;have a5:=xX (a4.out.trans (hb.mono a4.out.size));have f2:=ac a5.out cc;have dp:=xX (hh.lower (B':=w1.1.size) a4.out.size);have eS:=xX (V.out.trans (a5.out.mono (by omega)));have fi:=a5.out.size;clear hh hb J a4 d7 d8 d9 cc;go_wp2_with fail;go_loopw [5,37] (fun eL b4 wr=>∃(k:Nat) (xs:L8),k<=es.length∧b4=.int .i64 k∧xs.length<=40+30*k∧Hid (xs=a3++((es.take k).map Fr.entB).flatten∧(es.take k).all Fr.entOk=true∧Has wr w1.1.size eL xs∧Below w1.1.size w1 wr)) (fun _ b4 _=>es.length-(intOf b4).toNat);case atStart=>exact⟨0,a3,by omega,rfl,by omega,by simp,rfl,dp.out,a5.out⟩
    case round=>
      obtain⟨k,xs,e7,rfl,fs,Y⟩:=hrel;have a9:=xX Y.out.2.2.1;have ah:=xX Y.out.2.2.2;have b9:=xX Y.out.1;have b5:=xX Y.out.2.1;have cn:=ah.out.size;by_cases a0:k<es.length
      · have e9:(k:Int)<(es.length:Int):=(by omega);obtain⟨eU,fv,em,e5,d3,d4,d5⟩:=(dd.out.on (V.out.trans (ah.out.mono (by omega)))) k a0;obtain⟨u0,u1,u2⟩:=df.out es[k] (List.getElem_mem a0);subst em;obtain⟨y,bj⟩:∃y,y=es[k].at_:=⟨_,rfl⟩;obtain⟨z,bk⟩:∃z,z=es[k].row:=⟨_,rfl⟩;obtain⟨o,bl⟩:∃o,o=es[k].sch:=⟨_,rfl⟩;rw[<-bj] at d3 u0;rw[<-bk] at d4 u1;rw[<-bl] at d5 u2;unfold Fr.i64 at u0 u1 u2;have cx:=xX (jN Fr.entOk es k a0);have c9:=xX (eH es k a0);have bO:Hid (Fr.entOk es[k]=[y,z,o].all (Fr.within 1099511627776)):=by
          show _=_;unfold Fr.entOk;rw[bj,bk,bl];simp[Fr.S,Bool.and_assoc]
        have b6:Hid (Fr.entB es[k]=Fr.nums [y,z,o]):=by
          show _=_;rw[bj,bk,bl];rfl
        obtain⟨D,R⟩:∃D,D=wr.alloc (.cells #[.int .i64 y,.int .i64 z,.int .i64 o] 61):=⟨_,rfl⟩;have ez:D.1.size=wr.1.size+1:=(by rw[R];simp);have c8:Hid (Below wr.1.size wr D):=(by rw[R];exact xV);have cs:D.cell? ⟨wr.1.size,0,none⟩=some (.int .i64 y):=(by rw[R];simp);have ct:D.cell? ⟨wr.1.size,1,none⟩=some (.int .i64 z):=(by rw[R];simp);have cv:D.cell? ⟨wr.1.size,2,none⟩=some (.int .i64 o):=(by rw[R];simp);obtain⟨A,bn⟩:∃A,A=D.alloc (.cells #[.int .i64 y,.int .i64 z,.int .i64 o] 2):=⟨_,rfl⟩;have a6:Hid (Below D.1.size D A):=(by rw[bn];exact xV);have bq:Hid (Below wr.1.size wr A):=c8.out.trans (a6.out.mono (by omega));have f3:=ac a6.out cs;have f4:=ac a6.out ct;have f5:=ac a6.out cv;have I:=xX (jm 1099511627776 (wr.1.size+1) [y,z,o] (by simp) A (by rw[bn];exact ints_at ez [y,z,o] rfl));have aj:Hid ((wr.alloc (.cells #[.int .i64 y,.int .i64 z,.int .i64 o] 61)).alloc (.cells #[.int .i64 y,.int .i64 z,.int .i64 o] 2)=A):=(by rw[bn,R];exact rfl);obtain⟨ok,b3⟩:∃ok,ok=[y,z,o].all (Fr.within 1099511627776):=⟨_,rfl⟩;have b7:Hid (ok=true->0<=y∧0<=z∧0<=o):=by
          intro h;rw[b3] at h;simp only[List.all_cons,List.all_nil,Bool.and_eq_true,Fr.within_iff] at h;omega
        rw[<-b3] at I bO;clear R bn cs ct cv bj bk bl b3 Y;go_wp2_with fail;rw[aj.out];refine I.out.mono ?_;rintro e v ⟨rfl,a1⟩;rw[a1];clear a1 v I aj;cases ok with
        |false=>
          have bN:Hid (E=7):=by
            show _=_;rw[a8.out,if_pos];rw[List.all_eq_false];exact⟨es[k],List.getElem_mem a0,by rw[bO.out];decide⟩
          go_wp2;go_ret2;rw[bN.out];exact aR (by omega) (V.out.trans ((ah.out.trans (bq.out.mono cn)).mono (by omega)))
        |true=>
          have dr:=xX (b7.out (by simp));clear b7;have fr:=bq.out.size;have J:=xX (oQ A.1.size [y,z,o] (by simp) (fun m b1=>by
            have bX:=dr.out;simp only[List.mem_cons,List.not_mem_nil,or_false] at b1
            omega) (A.alloc (.cells #[.int .i64 y,.int .i64 z,.int .i64 o] 2)) (cH A [y,z,o] rfl))
          have bp:Hid (Below A.1.size A (A.alloc (.cells #[.int .i64 y,.int .i64 z,.int .i64 o] 2))):=xV;have er:(Fr.nums [y,z,o]).length<=30:=by
            have K:=Leb.put_length_le y.toNat;have bX:=Leb.put_length_le z.toNat;have eb:=Leb.put_length_le o.toNat;simp only[Fr.nums_cons,Fr.nums_nil,List.append_nil,List.length_append];omega
          obtain⟨u,co⟩:∃u,u=Fr.nums [y,z,o]:=⟨_,rfl⟩;rw[<-co] at J er b6;clear co;go_wp2_with fail;refine J.out.mono ?_;rintro e w4 ⟨p4,e2,rfl,hh,hb⟩;have c6:=xX (bp.out.trans (hb.mono bp.out.size));have a7:=xX (bq.out.trans (c6.out.mono (by omega)));have cy:Hid (At w4 p4 u):=by
            obtain⟨fx,e0,el,bd,-⟩:=hh.at;injection el with bb;subst bb;exact bd
          have fo:=a7.out.size;clear hh hb J bp
          go_wp2_with (first|(at_builtin;refine aw (a9.out.on a7.out) cy.out (by omega) (by omega) rfl rfl rfl rfl rfl ?_;intro cw fy e3 W cb hh bd en;have c7:=xX (au bd (a9.out.on a7.out) (by omega));have d2:=xX hh;have eu:cw.length<=40+30*(k+1):=(by rw[cb.out,List.length_append];omega);clear bd en hh)|fail)
          go_roundw;case rel=>
            refine⟨k+1,cw,by omega,by go_num,eu,?_,?_,d2.out,(ah.out.trans (a7.out.mono cn)).trans c7.out⟩
            · rw[cb.out,b9.out,c9.out,b6.out,List.append_assoc]
            · rw[cx.out,b5.out,bO.out];rfl
          case measure=>simp[intOf];omega
      · have ep:k=es.length:=(by omega);subst ep;have bN:Hid (E=0):=by
          show _=_;have cj:=b5.out;rw[List.take_length] at cj;rw[a8.out,cj];rfl
        have d1:Hid (a3++(es.map Fr.entB).flatten=xs):=by
          show _=_;rw[b9.out,List.take_length]
        obtain⟨eC,d6,rfl,-,-⟩:=a9.out.at;clear Y;go_wp2;go_ret2;have e:Fr.nums [a,b,c,(es.length:Int)]++(es.map Fr.entB).flatten=xs:=(by rw[<-dv.out,d1.out]);rw[e];exact .inl ⟨bN.out,eC,d6,rfl,a9.out.lower (by omega),V.out.trans (ah.out.mono (by omega))⟩
end
section
open Go.RowKit
theorem og(n:Int)(sp:OA)(z y:Nat)(q M r:Int)(I:OA)(E D:Nat)(O R U:Int)(L:OA)(K J:Nat)(w:World):
  Calls Tryz.prog 49 #[.agg #[.int .i64 1,.int .i64 n,.slice sp z y,.int .i64 q,.int .i64 M,.int .i64 r,.slice I E D,.int .i64 O,.int .i64 R,.int .i64 U,.slice L K J]] w fun e w'=>e=.returned (.tuple #[.iface 122 (.agg #[.int .i64 n,.slice sp z y]),.bool true])∧Below w.1.size w w':=by
 have A:Hid (∀o,Below w.1.size w (w.alloc o)):=fun o=>xV;go_enter Tryz.func49,Tryz.ntmps49;go_wp2;go_ret2;exact⟨rfl,A.out _⟩
theorem oe(n:Int)(sp:OA)(U R:Nat)(q A r:Int)(z:OA)(y o:Nat)(L M O:Int)(K:OA)(J I:Nat)(w:World):
  Calls Tryz.prog 49 #[.agg #[.int .i64 2,.int .i64 n,.slice sp U R,.int .i64 q,.int .i64 A,.int .i64 r,.slice z y o,.int .i64 L,.int .i64 M,.int .i64 O,.slice K J I]] w fun e w'=>e=.returned (.tuple #[.iface 124 (.agg #[.int .i64 n,.int .i64 q,.int .i64 A,.int .i64 r,.slice z y o]),.bool true])∧Below w.1.size w w':=by
 have E:Hid (∀D,Below w.1.size w (w.alloc D)):=fun D=>xV;go_enter Tryz.func49,Tryz.ntmps49;go_wp2;go_ret2;exact⟨rfl,E.out _⟩
theorem od(n:Int)(sp:OA)(U R:Nat)(q O r:Int)(M:OA)(L K:Nat)(A D E:Int)(z:OA)(y o:Nat)(w:World):
  Calls Tryz.prog 49 #[.agg #[.int .i64 3,.int .i64 n,.slice sp U R,.int .i64 q,.int .i64 O,.int .i64 r,.slice M L K,.int .i64 A,.int .i64 D,.int .i64 E,.slice z y o]] w fun e w'=>e=.returned (.tuple #[.iface 126 (.agg #[.int .i64 A,.int .i64 D,.int .i64 E,.slice z y o]),.bool true])∧Below w.1.size w w':=by
 have J:Hid (∀I,Below w.1.size w (w.alloc I)):=fun I=>xV;go_enter Tryz.func49,Tryz.ntmps49;go_wp2;go_ret2;exact⟨rfl,J.out _⟩
theorem oh(k:Int)(o:k≠1)(y:k≠2)(z:k≠3)(n:Int)(sp:OA)(X W:Nat)(q O r:Int)(J:OA)(I E:Nat)(R U V:Int)(M:OA)(L K:Nat)(w:World):
  Calls Tryz.prog 49 #[.agg #[.int .i64 k,.int .i64 n,.slice sp X W,.int .i64 q,.int .i64 O,.int .i64 r,.slice J I E,.int .i64 R,.int .i64 U,.int .i64 V,.slice M L K]] w fun e w'=>e=.returned (.tuple #[.nilIface,.bool false])∧Below w.1.size w w':=by
 have D:Hid (∀A,Below w.1.size w (w.alloc A)):=fun A=>xV;have Y:(k==1)=false:=aK o;have Z:(k==2)=false:=aK y;have ah:(k==3)=false:=aK z;clear o y z;go_enter Tryz.func49,Tryz.ntmps49;go_wp2;go_ret2;exact⟨rfl,D.out _⟩
end
section
open Go.RowKit
def ce(f:Fr):Nat:=if f.kind=1 then dl f.number f.cols else if f.kind=2 then ed f.number f.seq f.first f.rows f.block else Fr.idxErr f.index
theorem fO(l:List Int):(Fr.nums l).length<=10*l.length:=by
 induction l with
 |nil=>simp[Fr.nums_nil]
 |cons n l ih=>
  rw[Fr.nums_cons,List.length_append,List.length_cons];have:=Leb.put_length_le n.toNat;omega
theorem s9(es:List Ent):(es.map Fr.entB).flatten.length<=es.length*30:=Sch.flatten_le Fr.entB 30 es (fun e _=>fO [e.at_,e.row,e.sch])
theorem kw(y:f.kind=2):f.block.length<(Fr.run f).length:=by
 have o:=(Cob.stuff_length (Fr.check (Fr.head f))).1;have z:f.block.length<=(Fr.head f).length:=by
  unfold Fr.head Fr.fields;rw[if_neg (by omega),if_pos y,List.length_cons,List.length_append];omega
 rw[Fr.check_length] at o;unfold Fr.run;omega
theorem kQ(o:f.kind=1∨f.kind=2∨f.kind=3)(h:ce f≠0):Fr.err f=ce f:=by
 rcases o with o | o | o
 ·have e:Fr.err0 f=dl f.number f.cols:=by unfold Fr.err0;rw[if_pos o];rfl
  have y:ce f=dl f.number f.cols:=by unfold ce;rw[if_pos o]
  rw[y] at h ⊢;unfold Fr.err;rw[e,if_pos h]
 ·have e:Fr.err0 f=if (Fr.within Fr.N f.number&&Fr.within Fr.S f.seq&&Fr.within Fr.S f.first&&decide (1<=f.rows∧f.rows<=64))=false then 7 else 0:=by unfold Fr.err0;rw[if_neg (by omega),if_pos o]
  have y:ce f=ed f.number f.seq f.first f.rows f.block:=by unfold ce;rw[if_neg (by omega),if_pos o]
  rw[y] at h ⊢;unfold Fr.err;unfold ed at h ⊢;by_cases z:(Fr.within Fr.N f.number&&Fr.within Fr.S f.seq&&Fr.within Fr.S f.first&&decide (1<=f.rows∧f.rows<=64))=false
  ·rw[e,if_pos z,if_pos z,if_pos (by omega)]
  ·rw[if_neg z] at h ⊢;by_cases A:2200<f.block.length
   ·have:=kw o;rw[e,if_neg z,if_neg (by omega),if_pos A,if_pos (by omega)]
   ·rw[if_neg A] at h;omega
 ·have e:Fr.err0 f=Fr.idxErr f.index:=by unfold Fr.err0;rw[if_neg (by omega),if_neg (by omega),if_pos o]
  have y:ce f=Fr.idxErr f.index:=by unfold ce;rw[if_neg (by omega),if_neg (by omega)]
  rw[y] at h ⊢;unfold Fr.err;rw[e,if_pos h]
theorem ot(o:f.kind=1∨f.kind=2∨f.kind=3)(h:ce f=0):Fr.err f=(if 2200<(Fr.run f).length then 2 else 0)∧(Fr.fields f).length<=5000:=by
 unfold ce at h;unfold Fr.err;rcases o with o | o | o
 ·have e:Fr.err0 f=dl f.number f.cols:=by unfold Fr.err0;rw[if_pos o];rfl
  rw[if_pos o] at h;refine⟨by rw[e,if_neg (by omega)],?_⟩;unfold dl at h;split at h
  ·omega
  ·have D:=(Sch.err_open h).2.2.2;have y:=fO [f.number];unfold Fr.fields;rw[if_pos o,List.length_append];simp at y;omega
 ·rw[if_neg (by omega),if_pos o] at h;have e:Fr.err0 f=if (Fr.within Fr.N f.number&&Fr.within Fr.S f.seq&&Fr.within Fr.S f.first&&decide (1<=f.rows∧f.rows<=64))=false then 7 else 0:=by unfold Fr.err0;rw[if_neg (by omega),if_pos o]
  unfold ed at h;by_cases A:(Fr.within Fr.N f.number&&Fr.within Fr.S f.seq&&Fr.within Fr.S f.first&&decide (1<=f.rows∧f.rows<=64))=false
  ·rw[if_pos A] at h;omega
  ·rw[if_neg A] at h;by_cases y:2200<f.block.length
   ·rw[if_pos y] at h;omega
   ·refine⟨by rw[e,if_neg A,if_neg (by omega)],?_⟩;have z:=fO [f.number,f.seq,f.first,f.rows];unfold Fr.fields;rw[if_neg (by omega),if_pos o,List.length_append];simp at z;omega
 ·have e:Fr.err0 f=Fr.idxErr f.index:=by unfold Fr.err0;rw[if_neg (by omega),if_neg (by omega),if_pos o]
  rw[if_neg (by omega),if_neg (by omega)] at h;refine⟨by rw[e,if_neg (by omega)],?_⟩;have I:f.index.entries.length<=64:=by
   unfold Fr.idxErr at h;split at h
   ·omega
   ·split at h
    ·omega
    ·omega
  have z:=fO [f.index.at_,f.index.frames,f.index.rows,(f.index.entries.length:Int)];have E:=s9 f.index.entries;unfold Fr.fields;rw[if_neg (by omega),if_neg (by omega),List.length_append];simp at z;omega
theorem oa{n:Nat}(h:Has w B (.slice p n c) l):At w p l∧l.length<=c:=by
 obtain⟨D,A,z,o,y⟩:=h.at;injection z with e1 e2 e3;subst e1 e3;exact⟨o,y⟩
theorem qJ(f:Fr)(I:f.kind=1)(cn:f.wf)(u:AV)(w:World)(ck:Hv w)(h:aP w u f):
    Calls Tryz.prog 17 #[.agg u] w (jO w (Fr.err f) (0::(Fr.run f++[0]))):=by
  obtain⟨sp,Y,a3,a2,a5,a4,rfl,b6,dp,b7,d9,ea,b8,eb,ec,b9⟩:=h.out;unfold aB;obtain⟨E,a9⟩:∃E,E=Fr.err f:=⟨_,rfl⟩;obtain⟨y,be⟩:∃y,y=Fr.run f:=⟨_,rfl⟩;rw[<-a9,<-be];have bs:=xX a9;have b0:=xX be;have bO:=xX I;have b2:=xX cn;have cs:=xX b7;have d2:=xX b8;have d3:=xX b9;have cv:=xX ck;have A:Hid (ce f=dl f.number f.cols):=by show _=_;unfold ce;rw[if_pos I]
  have U:Hid (Fr.head f=1::(Fr.nums [f.number]++Sch.bytes f.cols)):=by
    show _=_;unfold Fr.head Fr.fields;rw[if_pos I];rw[I];rfl
  rw[I];obtain⟨w0,O⟩:∃w0,w0=w.alloc (.cells #[.int .i64 1,.int .i64 f.number,.slice sp f.cols.length Y,.int .i64 f.seq,.int .i64 f.first,.int .i64 f.rows,.slice a3 f.block.length a2,.int .i64 f.index.at_,.int .i64 f.index.frames,.int .i64 f.index.rows,.slice a5 f.index.entries.length a4] 47):=⟨_,rfl⟩;have ep:w0.1.size=w.1.size+1:=by rw[O];simp
  have cp:Hid (Below w.1.size w w0):=by rw[O];exact xV
  have c0:w0.cell? ⟨w.1.size,0,none⟩=some (.int .i64 1):=by rw[O];simp
  have b1:Hid (w.alloc (.cells #[.int .i64 1,.int .i64 f.number,.slice sp f.cols.length Y,.int .i64 f.seq,.int .i64 f.first,.int .i64 f.rows,.slice a3 f.block.length a2,.int .i64 f.index.at_,.int .i64 f.index.frames,.int .i64 f.index.rows,.slice a5 f.index.entries.length a4] 47)=w0):=by rw[O];exact rfl
  have bN:=xX (og f.number sp f.cols.length Y f.seq f.first f.rows a3 f.block.length a2 f.index.at_ f.index.frames f.index.rows a5 f.index.entries.length a4 w0);clear a9 be I cn b7 b8 b9 ck h O;go_enter Tryz.func17,Tryz.ntmps17;go_wp2_with fail;rw[b1.out];refine bN.out.mono ?_;rintro e w1 ⟨rfl,hb⟩;have ah:=xX (cp.out.trans (hb.mono (by omega)));have c1:=ac hb c0;have ds:=hb.size;clear hb bN b1 c0;have R:=xX (m7 f.number b2.out.2.1 f.cols sp Y w1 b6 (cs.out.on ah.out) b2.out.2.2.1);obtain⟨V,a8⟩:∃V,V=dl f.number f.cols:=⟨_,rfl⟩;obtain⟨X,bc⟩:∃X,X=(Fr.nums [f.number]++Sch.bytes f.cols):=⟨_,rfl⟩;rw[<-a8,<-bc] at R;rw[<-a8] at A;rw[<-bc] at U;clear a8 bc;go_wp2_with fail;refine R.out.mono ?_;rintro e z (⟨J,q,cap,rfl,o,hb⟩ | ⟨J,rfl,hb⟩)
  · have K:=xX (ah.out.trans (hb.mono (by omega)));have c2:=ac hb c1;have bj:=K.out.size;have bl:=xX (oa o).1;have bd:=ot (f:=f) (by have:=bO.out;omega) (A.out.trans J);have em:X.length<=5000:=by
      have b6:(Fr.head f).length=X.length+1:=(by rw[U.out];rfl);have dp:(Fr.head f).length=(Fr.fields f).length+1:=rfl;have:=bd.2;omega
    have bX:=xX bd.1;have a0:Hid (Has (z.alloc (.cells #[.int .u8 1] 5)) z.1.size (.slice (some ⟨z.1.size,0,none⟩) 1 1) [1]):=bP (B:=z.1.size) [1] rfl xZ (by decide);have ak:Hid (Below z.1.size z (z.alloc (.cells #[.int .u8 1] 5))):=xV;have bn:=xX (bl.out.on ak.out);clear o hb R J bd A c1 ds
    go_wp2_with (first|(at_builtin;refine aw (xs:=[1]) a0.out bn.out (by simp;omega) (by simp) rfl rfl rfl rfl rfl ?_;intro Z d1 c7 W c5 o M bb;have L:=xX (ak.out.trans (au M a0.out (by simp)));have b3:=xX o;clear M bb o)|fail)
    have bk:Z=Fr.head f:=(by rw[c5.out,U.out];rfl);have en:Z.length<=5001:=(by rw[bk,U.out,List.length_cons];omega);have cy:Hid (y=Cob.stuff (Fr.check Z)):=(by show _=_;rw[b0.out,bk];rfl);have dv:=L.out.size;have c4:=ac L.out c2;refine(rs z.1.size d1 c7 Z (by omega) W (cv.out.next (K.out.trans (L.out.mono bj))) b3.out dv).mono ?_;rintro e w5 ⟨d8,er,d6,rfl,a7,el,dr,hb⟩;rw[<-cy.out] at a7 dr ⊢;have aj:=xX ((K.out.trans (L.out.mono bj)).trans (hb.mono bj));have cj:=aj.out.size;have ct:=xX a7;have D:Hid (E=if 2200<y.length then 2 else 0):=(by show _=_;rw[bs.out,bX.out,b0.out]);clear bk a7 hb c2 c4 b3 bX bl bn a0 ak L;by_cases a6:2200<y.length
    · have b5:(2200:Int)<(y.length:Int):=(by omega);have a1:Hid (E=2):=D.out.trans (if_pos a6);clear D a6;go_wp2;go_ret2;rw[a1.out];exact aR (by omega) aj.out
    · have b5:¬(2200:Int)<(y.length:Int):=(by omega);have a1:Hid (E=0):=D.out.trans (if_neg a6);clear D;have bT:Hid (Has (w5.alloc (.cells #[.int .u8 0] 5)) w5.1.size (.slice (some ⟨w5.1.size,0,none⟩) 1 1) [0]):=bP (B:=w5.1.size) [0] rfl xZ (by decide);have bq:Hid (Below w5.1.size w5 (w5.alloc (.cells #[.int .u8 0] 5))):=xV;have co:=xX (ct.out.at.on bq.out)
      go_wp2_with (first|(at_builtin;refine aw (xs:=[0]) bT.out co.out (by simp;omega) (by simp) rfl rfl rfl rfl rfl ?_;intro zs eu d7 d4 b4 o M bb;have bp:=xX (bq.out.trans (au M bT.out (by simp)));have c6:=xX o;have d0:=bp.out.size;have eq:zs.length<=2300:=(by rw[b4.out,List.length_append,List.length_singleton];omega);clear M bb o)|(at_builtin;refine aW c6.out 0 (by omega) d0 rfl rfl rfl rfl rfl rfl ?_;intro df c8 d5 ci cb;have cw:=xX ci;have cq:=xX cb;clear ci cb)|fail)
      go_ret2;have dd:0::(y++[0])=zs++[0]:=(by rw[b4.out];rfl);have c9:(zs++[0]).length=zs.length+1:=(by simp);rw[dd];refine .inl ⟨a1.out,some ⟨df,0,none⟩,c8,by rw[c9];rfl,(bA.has cw.out).lower cj,aj.out.trans ((bp.out.trans cq.out).mono cj)⟩
  · have K:=xX (ah.out.trans (hb.mono (by omega)));have cc:=kQ (f:=f) (by have:=bO.out;omega) (by rw[A.out];exact J);have D:Hid (E=V):=(by show _=_;rw[bs.out,cc,A.out]);have b5:((V:Int) != 0)=true:=(by rw[bne_iff_ne];omega);have cx:=xX J;clear hb cc R A J;go_wp2;go_ret2;rw[D.out];exact aR cx.out K.out
theorem qI(f:Fr)(I:f.kind=2)(ck:f.wf)(u:AV)(w:World)(cj:Hv w)(h:aP w u f):
    Calls Tryz.prog 17 #[.agg u] w (jO w (Fr.err f) (0::(Fr.run f++[0]))):=by
  obtain⟨sp,bl,Y,X,a5,a4,rfl,df,dp,b6,dr,ea,b7,eb,ec,b8⟩:=h.out;unfold aB;obtain⟨E,a9⟩:∃E,E=Fr.err f:=⟨_,rfl⟩;obtain⟨y,be⟩:∃y,y=Fr.run f:=⟨_,rfl⟩;rw[<-a9,<-be];have bN:=xX a9;have b1:=xX be;have bT:=xX I;have V:=xX ck;have d3:=xX b6;have co:=xX b7;have d4:=xX b8;have ct:=xX cj;have A:Hid (ce f=ed f.number f.seq f.first f.rows f.block):=by show _=_;unfold ce;rw[if_neg (by omega),if_pos I]
  have U:Hid (Fr.head f=2::(Fr.nums [f.number,f.seq,f.first,f.rows]++f.block)):=by
    show _=_;unfold Fr.head Fr.fields;rw[if_neg (by omega),if_pos I];rw[I];rfl
  rw[I];obtain⟨w0,O⟩:∃w0,w0=w.alloc (.cells #[.int .i64 2,.int .i64 f.number,.slice sp f.cols.length bl,.int .i64 f.seq,.int .i64 f.first,.int .i64 f.rows,.slice Y f.block.length X,.int .i64 f.index.at_,.int .i64 f.index.frames,.int .i64 f.index.rows,.slice a5 f.index.entries.length a4] 47):=⟨_,rfl⟩;have ep:w0.1.size=w.1.size+1:=by rw[O];simp
  have cp:Hid (Below w.1.size w w0):=by rw[O];exact xV
  have c0:w0.cell? ⟨w.1.size,0,none⟩=some (.int .i64 2):=by rw[O];simp
  have b2:Hid (w.alloc (.cells #[.int .i64 2,.int .i64 f.number,.slice sp f.cols.length bl,.int .i64 f.seq,.int .i64 f.first,.int .i64 f.rows,.slice Y f.block.length X,.int .i64 f.index.at_,.int .i64 f.index.frames,.int .i64 f.index.rows,.slice a5 f.index.entries.length a4] 47)=w0):=by rw[O];exact rfl
  have bO:=xX (oe f.number sp f.cols.length bl f.seq f.first f.rows Y f.block.length X f.index.at_ f.index.frames f.index.rows a5 f.index.entries.length a4 w0);clear a9 be I ck b6 b7 b8 cj h O;go_enter Tryz.func17,Tryz.ntmps17;go_wp2_with fail;rw[b2.out];refine bO.out.mono ?_;rintro e w1 ⟨rfl,hb⟩;have ak:=xX (cp.out.trans (hb.mono (by omega)));have c1:=ac hb c0;have dv:=hb.size;clear hb bO b2 c0;have R:=xX (tg f.number f.seq f.first f.rows V.out.2.1 V.out.2.2.2.1 V.out.2.2.2.2.1 V.out.2.2.2.2.2.1 f.block Y X w1 dr (co.out.on ak.out));obtain⟨Z,a8⟩:∃Z,Z=ed f.number f.seq f.first f.rows f.block:=⟨_,rfl⟩;obtain⟨ah,bc⟩:∃ah,ah=(Fr.nums [f.number,f.seq,f.first,f.rows]++f.block):=⟨_,rfl⟩;rw[<-a8,<-bc] at R;rw[<-a8] at A;rw[<-bc] at U;clear a8 bc;go_wp2_with fail;refine R.out.mono ?_;rintro e z (⟨J,q,cap,rfl,o,hb⟩ | ⟨J,rfl,hb⟩)
  · have K:=xX (ak.out.trans (hb.mono (by omega)));have c2:=ac hb c1;have bj:=K.out.size;have bn:=xX (oa o).1;have bd:=ot (f:=f) (by have:=bT.out;omega) (A.out.trans J);have em:ah.length<=5000:=by
      have df:(Fr.head f).length=ah.length+1:=(by rw[U.out];rfl);have dp:(Fr.head f).length=(Fr.fields f).length+1:=rfl;have:=bd.2;omega
    have b0:=xX bd.1;have a2:Hid (Has (z.alloc (.cells #[.int .u8 2] 5)) z.1.size (.slice (some ⟨z.1.size,0,none⟩) 1 1) [2]):=bP (B:=z.1.size) [2] rfl xZ (by decide);have a1:Hid (Below z.1.size z (z.alloc (.cells #[.int .u8 2] 5))):=xV;have bp:=xX (bn.out.on a1.out);clear o hb R J bd A c1 dv
    go_wp2_with (first|(at_builtin;refine aw (xs:=[2]) a2.out bp.out (by simp;omega) (by simp) rfl rfl rfl rfl rfl ?_;intro aj d2 c6 W cy o M bb;have L:=xX (a1.out.trans (au M a2.out (by simp)));have b3:=xX o;clear M bb o)|fail)
    have bk:aj=Fr.head f:=(by rw[cy.out,U.out];rfl);have en:aj.length<=5001:=(by rw[bk,U.out,List.length_cons];omega);have cx:Hid (y=Cob.stuff (Fr.check aj)):=(by show _=_;rw[b1.out,bk];rfl);have d0:=L.out.size;have c4:=ac L.out c2;refine(rs z.1.size d2 c6 aj (by omega) W (ct.out.next (K.out.trans (L.out.mono bj))) b3.out d0).mono ?_;rintro e w5 ⟨d9,er,d7,rfl,a7,el,ds,hb⟩;rw[<-cx.out] at a7 ds ⊢;have a0:=xX ((K.out.trans (L.out.mono bj)).trans (hb.mono bj));have ci:=a0.out.size;have cs:=xX a7;have D:Hid (E=if 2200<y.length then 2 else 0):=(by show _=_;rw[bN.out,b0.out,b1.out]);clear bk a7 hb c2 c4 b3 b0 bn bp a2 a1 L;by_cases a6:2200<y.length
    · have b5:(2200:Int)<(y.length:Int):=(by omega);have a3:Hid (E=2):=D.out.trans (if_pos a6);clear D a6;go_wp2;go_ret2;rw[a3.out];exact aR (by omega) a0.out
    · have b5:¬(2200:Int)<(y.length:Int):=(by omega);have a3:Hid (E=0):=D.out.trans (if_neg a6);clear D;have bX:Hid (Has (w5.alloc (.cells #[.int .u8 0] 5)) w5.1.size (.slice (some ⟨w5.1.size,0,none⟩) 1 1) [0]):=bP (B:=w5.1.size) [0] rfl xZ (by decide);have bs:Hid (Below w5.1.size w5 (w5.alloc (.cells #[.int .u8 0] 5))):=xV;have cn:=xX (cs.out.at.on bs.out)
      go_wp2_with (first|(at_builtin;refine aw (xs:=[0]) bX.out cn.out (by simp;omega) (by simp) rfl rfl rfl rfl rfl ?_;intro zs eu d8 d5 b4 o M bb;have bq:=xX (bs.out.trans (au M bX.out (by simp)));have c5:=xX o;have d1:=bq.out.size;have eq:zs.length<=2300:=(by rw[b4.out,List.length_append,List.length_singleton];omega);clear M bb o)|(at_builtin;refine aW c5.out 0 (by omega) d1 rfl rfl rfl rfl rfl rfl ?_;intro dd c7 d6 cc b9;have cv:=xX cc;have cq:=xX b9;clear cc b9)|fail)
      go_ret2;have c9:0::(y++[0])=zs++[0]:=(by rw[b4.out];rfl);have c8:(zs++[0]).length=zs.length+1:=(by simp);rw[c9];refine .inl ⟨a3.out,some ⟨dd,0,none⟩,c7,by rw[c8];rfl,(bA.has cv.out).lower ci,a0.out.trans ((bq.out.trans cq.out).mono ci)⟩
  · have K:=xX (ak.out.trans (hb.mono (by omega)));have cb:=kQ (f:=f) (by have:=bT.out;omega) (by rw[A.out];exact J);have D:Hid (E=Z):=(by show _=_;rw[bN.out,cb,A.out]);have b5:((Z:Int) != 0)=true:=(by rw[bne_iff_ne];omega);have cw:=xX J;clear hb cb R A J;go_wp2;go_ret2;rw[D.out];exact aR cw.out K.out
theorem qH(f:Fr)(Y:f.kind=3)(ck:f.wf)(u:AV)(w:World)(cj:Hv w)(h:aP w u f):
    Calls Tryz.prog 17 #[.agg u] w (jO w (Fr.err f) (0::(Fr.run f++[0]))):=by
  obtain⟨sp,bk,a4,a3,X,V,rfl,df,dp,b6,ea,eb,b7,dr,ec,b8⟩:=h.out;unfold aB;obtain⟨E,a8⟩:∃E,E=Fr.err f:=⟨_,rfl⟩;obtain⟨y,bd⟩:∃y,y=Fr.run f:=⟨_,rfl⟩;rw[<-a8,<-bd];have bs:=xX a8;have b0:=xX bd;have bO:=xX Y;have b2:=xX ck;have d4:=xX b6;have d3:=xX b7;have cq:=xX b8;have ct:=xX cj;have A:Hid (ce f=Fr.idxErr f.index):=by show _=_;unfold ce;rw[if_neg (by omega),if_neg (by omega)]
  have R:Hid (Fr.head f=3::(Fr.nums [f.index.at_,f.index.frames,f.index.rows,(f.index.entries.length:Int)]++(f.index.entries.map Fr.entB).flatten)):=by
    show _=_;unfold Fr.head Fr.fields;rw[if_neg (by omega),if_neg (by omega)];rw[Y];rfl
  rw[Y];obtain⟨w0,M⟩:∃w0,w0=w.alloc (.cells #[.int .i64 3,.int .i64 f.number,.slice sp f.cols.length bk,.int .i64 f.seq,.int .i64 f.first,.int .i64 f.rows,.slice a4 f.block.length a3,.int .i64 f.index.at_,.int .i64 f.index.frames,.int .i64 f.index.rows,.slice X f.index.entries.length V] 47):=⟨_,rfl⟩;have ep:w0.1.size=w.1.size+1:=by rw[M];simp
  have co:Hid (Below w.1.size w w0):=by rw[M];exact xV
  have c0:w0.cell? ⟨w.1.size,0,none⟩=some (.int .i64 3):=by rw[M];simp
  have b1:Hid (w.alloc (.cells #[.int .i64 3,.int .i64 f.number,.slice sp f.cols.length bk,.int .i64 f.seq,.int .i64 f.first,.int .i64 f.rows,.slice a4 f.block.length a3,.int .i64 f.index.at_,.int .i64 f.index.frames,.int .i64 f.index.rows,.slice X f.index.entries.length V] 47)=w0):=by rw[M];exact rfl
  have bN:=xX (od f.number sp f.cols.length bk f.seq f.first f.rows a4 f.block.length a3 f.index.at_ f.index.frames f.index.rows X f.index.entries.length V w0);clear a8 bd Y ck b6 b7 b8 cj h M;go_enter Tryz.func17,Tryz.ntmps17;go_wp2_with fail;rw[b1.out];refine bN.out.mono ?_;rintro e w1 ⟨rfl,hb⟩;have aj:=xX (co.out.trans (hb.mono (by omega)));have c1:=ac hb c0;have dv:=hb.size;clear hb bN b1 c0;have O:=xX (qk f.index b2.out.2.2.2.2.2.2.1 b2.out.2.2.2.2.2.2.2 X V w1 dr (cq.out.on aj.out));obtain⟨U,a7⟩:∃U,U=Fr.idxErr f.index:=⟨_,rfl⟩;obtain⟨Z,bb⟩:∃Z,Z=(Fr.nums [f.index.at_,f.index.frames,f.index.rows,(f.index.entries.length:Int)]++(f.index.entries.map Fr.entB).flatten):=⟨_,rfl⟩;rw[<-a7,<-bb] at O;rw[<-a7] at A;rw[<-bb] at R;clear a7 bb;go_wp2_with fail;refine O.out.mono ?_;rintro e z (⟨I,q,cap,rfl,o,hb⟩ | ⟨I,rfl,hb⟩)
  · have J:=xX (aj.out.trans (hb.mono (by omega)));have c2:=ac hb c1;have be:=J.out.size;have bl:=xX (oa o).1;have bc:=ot (f:=f) (by have:=bO.out;omega) (A.out.trans I);have em:Z.length<=5000:=by
      have df:(Fr.head f).length=Z.length+1:=(by rw[R.out];rfl);have dp:(Fr.head f).length=(Fr.fields f).length+1:=rfl;have:=bc.2;omega
    have bX:=xX bc.1;have a1:Hid (Has (z.alloc (.cells #[.int .u8 3] 5)) z.1.size (.slice (some ⟨z.1.size,0,none⟩) 1 1) [3]):=bP (B:=z.1.size) [3] rfl xZ (by decide);have a0:Hid (Below z.1.size z (z.alloc (.cells #[.int .u8 3] 5))):=xV;have bn:=xX (bl.out.on a0.out);clear o hb O I bc A c1 dv
    go_wp2_with (first|(at_builtin;refine aw (xs:=[3]) a1.out bn.out (by simp;omega) (by simp) rfl rfl rfl rfl rfl ?_;intro ah d2 c6 W cy o L a9;have K:=xX (a0.out.trans (au L a1.out (by simp)));have b3:=xX o;clear L a9 o)|fail)
    have bj:ah=Fr.head f:=(by rw[cy.out,R.out];rfl);have en:ah.length<=5001:=(by rw[bj,R.out,List.length_cons];omega);have cx:Hid (y=Cob.stuff (Fr.check ah)):=(by show _=_;rw[b0.out,bj];rfl);have d0:=K.out.size;have c4:=ac K.out c2;refine(rs z.1.size d2 c6 ah (by omega) W (ct.out.next (J.out.trans (K.out.mono be))) b3.out d0).mono ?_;rintro e w5 ⟨d9,er,d7,rfl,a6,el,ds,hb⟩;rw[<-cx.out] at a6 ds ⊢;have ak:=xX ((J.out.trans (K.out.mono be)).trans (hb.mono be));have ci:=ak.out.size;have cs:=xX a6;have D:Hid (E=if 2200<y.length then 2 else 0):=(by show _=_;rw[bs.out,bX.out,b0.out]);clear bj a6 hb c2 c4 b3 bX bl bn a1 a0 K;by_cases a5:2200<y.length
    · have b5:(2200:Int)<(y.length:Int):=(by omega);have a2:Hid (E=2):=D.out.trans (if_pos a5);clear D a5;go_wp2;go_ret2;rw[a2.out];exact aR (by omega) ak.out
    · have b5:¬(2200:Int)<(y.length:Int):=(by omega);have a2:Hid (E=0):=D.out.trans (if_neg a5);clear D;have bT:Hid (Has (w5.alloc (.cells #[.int .u8 0] 5)) w5.1.size (.slice (some ⟨w5.1.size,0,none⟩) 1 1) [0]):=bP (B:=w5.1.size) [0] rfl xZ (by decide);have bq:Hid (Below w5.1.size w5 (w5.alloc (.cells #[.int .u8 0] 5))):=xV;have cn:=xX (cs.out.at.on bq.out)
      go_wp2_with (first|(at_builtin;refine aw (xs:=[0]) bT.out cn.out (by simp;omega) (by simp) rfl rfl rfl rfl rfl ?_;intro zs eu d8 d5 b4 o L a9;have bp:=xX (bq.out.trans (au L bT.out (by simp)));have c5:=xX o;have d1:=bp.out.size;have eq:zs.length<=2300:=(by rw[b4.out,List.length_append,List.length_singleton];omega);clear L a9 o)|(at_builtin;refine aW c5.out 0 (by omega) d1 rfl rfl rfl rfl rfl rfl ?_;intro dd c7 d6 cc b9;have cv:=xX cc;have cp:=xX b9;clear cc b9)|fail)
      go_ret2;have c9:0::(y++[0])=zs++[0]:=(by rw[b4.out];rfl);have c8:(zs++[0]).length=zs.length+1:=(by simp);rw[c9];refine .inl ⟨a2.out,some ⟨dd,0,none⟩,c7,by rw[c8];rfl,(bA.has cv.out).lower ci,ak.out.trans ((bp.out.trans cp.out).mono ci)⟩
  · have J:=xX (aj.out.trans (hb.mono (by omega)));have cb:=kQ (f:=f) (by have:=bO.out;omega) (by rw[A.out];exact I);have D:Hid (E=U):=(by show _=_;rw[bs.out,cb,A.out]);have b5:((U:Int) != 0)=true:=(by rw[bne_iff_ne];omega);have cw:=xX I;clear hb cb O A I;go_wp2;go_ret2;rw[D.out];exact aR cw.out J.out
theorem qK(f:Fr)(o:f.kind≠1)(y:f.kind≠2)(z:f.kind≠3)(u:AV)(w:World)(h:aP w u f):
  Calls Tryz.prog 17 #[.agg u] w (jO w (Fr.err f) (0::(Fr.run f++[0]))):=by
 obtain⟨sp,O,I,E,K,J,rfl,-⟩:=h.out;unfold aB;have L:Fr.err f=60:=by
  have U:Fr.err0 f=60:=by unfold Fr.err0;rw[if_neg o,if_neg y,if_neg z]
  unfold Fr.err;rw[U];rfl
 rw[L];have A:Hid (∀M,Below w.1.size w (w.alloc M)):=fun M=>xV;have D:=xX (oh f.kind o y z f.number sp f.cols.length O f.seq f.first f.rows I f.block.length E f.index.at_ f.index.frames f.index.rows K f.index.entries.length J (w.alloc (.cells #[.int .i64 f.kind,.int .i64 f.number,.slice sp f.cols.length O,.int .i64 f.seq,.int .i64 f.first,.int .i64 f.rows,.slice I f.block.length E,.int .i64 f.index.at_,.int .i64 f.index.frames,.int .i64 f.index.rows,.slice K f.index.entries.length J] 47)));clear h o y z L;go_enter Tryz.func17,Tryz.ntmps17;go_wp2_with fail;refine D.out.mono ?_;rintro e w1 ⟨rfl,hb⟩;have R:=xX ((A.out _).trans (hb.mono (A.out _).size));clear hb D;go_wp2;go_ret2;exact aR (by omega) R.out
theorem pf(f:Fr)(y:f.wf)(u:AV)(w:World)(o:Hv w)(h:aP w u f):
  Calls Tryz.prog 17 #[.agg u] w (jO w (Fr.err f) (0::(Fr.run f++[0]))):=by
 by_cases z:f.kind=1
 ·exact qJ f z y u w o h
 by_cases A:f.kind=2
 ·exact qI f A y u w o h
 by_cases D:f.kind=3
 ·exact qH f D y u w o h
 exact qK f z A D u w h
end
end Go.Proofs.YtdkammppnkhhoaaGreatDoor
