import Derived.Test.YtbahfgdbjgkklaaGreatDoorB20
import Derived.Test.YtbahfgdbjgkklaaGreatDoorB03
import Derived.Test.YtbahfgdbjgkklaaGreatDoorB15
set_option maxRecDepth 100000
set_option maxHeartbeats 4000000
namespace Go.Proofs.YtbahfgdbjgkklaaGreatDoor
variable{B b:Nat}{w w':World}{l xs:L8}{v:Value}
section
open Go.RowKit
def Ints(w:World)(b:Nat)(l:List Int):Prop:=b<w.1.size∧∀j (h:j<l.length),w.cell? ⟨b,j,none⟩=some (.int .i64 l[j])
theorem Ints.on{l:List Int}(h:Ints w b l)(hb:Below w.1.size w w'):Ints w' b l :=
 ⟨Nat.lt_of_lt_of_le h.1 hb.size,fun j o=>by rw[hb.cell (p:=⟨b,j,none⟩) h.1];exact h.2 j o⟩
theorem gW(w:World)(l:List Int){C:AV}(h:C=(l.map fun n=>Value.int .i64 n).toArray):Ints (w.alloc (.cells C 2)) w.1.size l:=by
 subst h;refine⟨by simp,fun j o=>?_⟩;rw[World.cell?_alloc_new];simp[o]
theorem qw(o:Int)(b:Nat)(l:List Int)(Y:l.length<=100)(w:World)(h:Ints w b l):
  Calls Tryz.prog 287 #[.int .i64 o,.slice (some ⟨b,0,none⟩) l.length l.length] w fun e w'=>e=.returned (.bool (l.all (Fr.within o)))∧w'=w:=by
 have H:=gQq h;clear h;obtain⟨R,J⟩:∃R,R=l.all (Fr.within o):=⟨_,rfl⟩;rw[<-J];have Q:=gQq J;clear J;go_enter Tryz.func287,Tryz.ntmps287;go_wp2;go_loop [9] (fun M=>∃k:Nat,k<=l.length∧M=.int .i64 k∧Hid ((l.take k).all (Fr.within o)=true)) (fun M=>l.length-(intOf M).toNat);case atStart=>exact⟨0,by omega,rfl,rfl⟩
 case round=>
  obtain⟨k,X,rfl,D⟩:=hrel;by_cases L:k<l.length
  ·have Z:(k:Int)<(l.length:Int):=(by omega);have U:=H.out.2 k L;obtain⟨n,E⟩:∃n,n=l[k]:=⟨_,rfl⟩;rw[<-E] at U;have O:Hid (n∈l):=(by show n∈l;rw[E];exact List.getElem_mem L);have y:Hid (Fr.within o n=true->(l.take (k+1)).all (Fr.within o)=true):=fun K=>by
    rw[List.take_succ_eq_append_getElem L,List.all_append,D.out,<-E];simp[K]
   have z:Hid (Fr.within o n=false->R=false):=fun K=>by
    rw[Q.out,List.all_eq_false];exact⟨n,O.out,by rw[K];decide⟩
   clear E O D;by_cases ab:n<0
   ·have I:Hid (R=false):=z.out (decide_eq_false (by omega));clear z y;go_wp2;go_ret;exact⟨by rw[I.out];rfl,rfl⟩
   ·by_cases W:o<=n
    ·have I:Hid (R=false):=z.out (decide_eq_false (by omega));clear z y;go_wp2;go_ret;exact⟨by rw[I.out];rfl,rfl⟩
    ·have S:Hid ((l.take (k+1)).all (Fr.within o)=true):=y.out (decide_eq_true (by omega));clear z y;go_wp2;go_round;case rel=>exact⟨k+1,by omega,by go_num,S⟩
     case measure=>simp[intOf];omega
  ·have V:k=l.length:=(by omega);subst V;have y:Hid (R=true):=by
    show _=_;rw[Q.out,<-D.out,List.take_length]
   clear D;go_wp2;go_ret;exact⟨by rw[y.out];rfl,rfl⟩
theorem jZ(l:List Int)(k:Nat)(h:k<l.length):Fr.nums (l.take (k+1))=Fr.nums (l.take k)++Leb.put l[k].toNat:=by
 unfold Fr.nums;rw[List.take_succ_eq_append_getElem h,List.map_append,List.flatten_append];simp
theorem xG(b:Nat)(l:List Int)(bj:l.length<=100)(Z:∀n∈l,0<=n∧n<=9223372036854775807)(w:World)(h:Ints w b l):
    Calls Tryz.prog 288 #[.slice (some ⟨b,0,none⟩) l.length l.length] w fun e w'=>∃p cap,e=.returned (.slice p (Fr.nums l).length cap)∧Has w' w.1.size (.slice p (Fr.nums l).length cap) (Fr.nums l)∧Below w.1.size w w':=by
  have H:=gQq h;have a0:=gQq Z;clear h Z;go_enter Tryz.func288,Tryz.ntmps288;go_wp2;go_loopw [3,8] (fun a9 L wr=>∃(k:Nat) (xs:L8),k<=l.length∧L=.int .i64 k∧xs.length<=10*k∧Hid (xs=Fr.nums (l.take k)∧Has wr w.1.size a9 xs∧Below w.1.size w wr)) (fun _ L _=>l.length-(intOf L).toNat);case atStart=>exact⟨0,[],by omega,rfl,by simp,rfl,aM _ _,gQz⟩
  case round=>
    obtain⟨k,xs,bi,rfl,bp,o⟩:=hrel;have a2:=o.out.2.2.size;have y:=gQq o.out.2.1;by_cases K:k<l.length
    · have bk:(k:Int)<(l.length:Int):=(by omega);have a3:wr.cell? ⟨b,k,none⟩=some (.int .i64 l[k]):=(o.out.2.2.cell (p:=⟨b,k,none⟩) H.out.1).trans (H.out.2 k K);have J:=a0.out l[k] (List.getElem_mem K);have E:=gQq (jZ l k K);obtain⟨m,V⟩:∃m:Nat,(m:Int)=l[k]:=⟨l[k].toNat,by omega⟩;rw[<-V] at a3 J E;have bn:(m:Int)<=9223372036854775807:=J.2;have D:Hid (∀M:Int,M=(m:Int)->Calls Tryz.prog 107 #[.int .u64 M] wr fun e w'=>∃g cap,e=.returned (.slice (some ⟨g,0,none⟩) (Leb.put m).length cap)∧bh w' wr.1.size g cap (Leb.put m)∧Below wr.1.size wr w'):=fun M a8=>by
        subst a8;exact dT _ (by omega) wr
      have a6:=Leb.put_length_le m;have O:Hid (Fr.nums (l.take (k+1))=Fr.nums (l.take k)++Leb.put m):=by
        show _=_;rw[E.out,Int.toNat_natCast]
      clear V J E;obtain⟨u,Y⟩:∃u,u=Leb.put m:=⟨_,rfl⟩;rw[<-Y] at D a6 O;clear Y;go_wp2_with fail;refine(D.out _ (by omega)).mono ?_;rintro e w1 ⟨g,bb,rfl,X,I⟩;have ak:=gQq X;have z:=gQq I;have be:=I.size;clear X I D
      go_wp2_with (first|(at_builtin;refine aE (y.out.on z.out) ak.out.at (by omega) (by omega) rfl rfl rfl rfl rfl ?_;intro ab bq bc W Q U S a4;have ah:=gQq (aB S (y.out.on z.out) (by omega));have aj:=gQq U;have a7:ab.length<=10*(k+1):=(by rw[Q.out,List.length_append];omega);clear S a4 U)|fail)
      go_roundw;case rel=>exact⟨k+1,ab,by omega,by go_num,a7,by rw[Q.out,O.out,o.out.1],aj.out,(o.out.2.2.trans (z.out.mono a2)).trans ah.out⟩
      case measure=>simp[intOf];omega
    · have a5:k=l.length:=(by omega);subst a5;have a1:Hid (xs=Fr.nums l):=by
        show _=_;rw[o.out.1,List.take_length]
      obtain⟨p,cap,rfl,-,-⟩:=y.out.at;go_wp2;go_ret;rw[<-a1.out];exact⟨p,cap,rfl,y.out,o.out.2.2⟩
end
section
open Go.RowKit
theorem Hv.on(h:Hv w)(hb:Below B w w')(o:2<B):Hv w':=fun n y=>by
 rw[hb.cell (p:=⟨2,n,none⟩) o];exact h n y
theorem Hv.lt(h:Hv w):2<w.1.size:=World.block_lt_of_cell? _ _ (h 0 (by omega))
theorem Hv.next(h:Hv w)(hb:Below w.1.size w w'):Hv w':=h.on hb h.lt
theorem sy(s:Nat)(a b c d:Int)(o:a=((s % 256:Nat):Int))(hb:b=((s / 256 % 256:Nat):Int))(y:c=((s / 256 / 256 % 256:Nat):Int))(hd:d=((s / 256 / 256 / 256 % 256:Nat):Int)):
  (#[.int .u8 a,.int .u8 b,.int .u8 c,.int .u8 d]:AV)=(cellsOf (Sch.le 4 s)).toArray:=by
 subst o hb y hd;simp only[Sch.le,cellsOf,List.map_cons,List.map_nil,UInt8.toNat_ofNat'];simp
theorem tI(p:OA)(c:Nat)(l:L8)(E:l.length<=140737488351232)(w:World)(z:Hv w)(h:At w p l):
  Calls Tryz.prog 93 #[.slice p l.length c] w fun e w'=>e=.returned (.slice (some ⟨w.1.size,0,none⟩) 4 4)∧w'=w.alloc (.cells (cellsOf (Sch.le 4 (Crc.sum l))).toArray 5):=by
 have o:=gQq (wE p c l E w z h);have I:Crc.sum l<4294967296:=Crc.update_lt (by omega) l;obtain⟨s,y⟩:∃s,s=Crc.sum l:=⟨_,rfl⟩;rw[<-y] at o I ⊢;clear y z h;go_enter Tryz.func93,Tryz.ntmps93;go_wp2_with fail;refine o.out.mono ?_;rintro e w1 ⟨rfl,D⟩;rw[D];clear D w1 o;go_wp2;go_ret;refine⟨rfl,congrArg (fun C=>w.alloc (.cells C 5)) (sy s _ _ _ _ ?_ ?_ ?_ ?_)⟩ <;> omega
theorem xE(B:Nat)(p:OA)(c:Nat)(l:L8)(bc:l.length<=10000000)(w:World)(Y:Hv w)(h:Has w B (.slice p l.length c) l)(a3:B<=w.1.size):
    Calls Tryz.prog 57 #[.slice p l.length c] w fun e w'=>∃g E cap,e=.returned (.slice (some ⟨g,E,none⟩) (Cob.stuff (Fr.check l)).length cap)∧fZ w' g E (Cob.stuff (Fr.check l))∧w.1.size<=g∧(Cob.stuff (Fr.check l)).length<=cap∧Below B w w':=by
  have ab:Hid (At w p l):=by
    obtain⟨bk,a8,J,z,-⟩:=h.at;injection J with e1;subst e1;exact z
  have M:=gQq h;have y:=gQq (tI p c l (by omega) w Y ab.out);have I:Hid (At (w.alloc (.cells (cellsOf (Sch.le 4 (Crc.sum l))).toArray 5)) (some ⟨w.1.size,0,none⟩) (Sch.le 4 (Crc.sum l))):=vO w _ _ rfl;have o:Hid (Below w.1.size w (w.alloc (.cells (cellsOf (Sch.le 4 (Crc.sum l))).toArray 5))):=gQy;obtain⟨k,D⟩:∃k,k=Sch.le 4 (Crc.sum l):=⟨_,rfl⟩;have a7:k.length=4:=by rw[D,Sch.le_len]
  have aj:Hid (Fr.check l=l++k):=by show _=_;rw[D];rfl
  rw[<-D] at y I o;obtain⟨Q,V⟩:∃Q,Q=w.alloc (.cells (cellsOf k).toArray 5):=⟨_,rfl⟩;rw[<-V] at y I o;have be:=o.out.size;clear V D Y h;go_enter Tryz.func57,Tryz.ntmps57;go_wp2_with fail;refine y.out.mono ?_;rintro e w1 ⟨rfl,Z⟩;rw[Z];clear Z w1 y
  go_wp2_with (first|(at_builtin;refine aE (c:=4) (M.out.on o.out) I.out (by omega) (by omega) rfl rfl rfl rfl (by rw[a7];rfl) ?_;intro K q cap W O X z a6;have L:=gQq (aB z (M.out.on o.out) (by omega));have a1:=gQq X;have bj:K.length<=10000010:=(by rw[O.out,List.length_append];omega);clear z a6 X)|fail)
  obtain⟨bn,a9,J,S,a5⟩:=a1.out.at;injection J with e1 _ e2;subst e1 e2;have bi:=L.out.size;refine(l7 q cap K W (by omega) a5 S).mono ?_;rintro e bp ⟨g,E,a2,rfl,U,bb,a4,hb⟩;have a0:=gQq U;have ah:=gQq hb;clear U hb S;have ak:Hid (Fr.check l=K):=by show _=_;rw[aj.out,O.out]
  go_wp2;go_ret;rw[ak.out];exact⟨g,E,a2,rfl,a0.out,by omega,a4,((o.out.mono a3).trans L.out).trans (ah.out.mono (by omega))⟩
theorem yJ(p q:OA)(c d:Nat)(a b:L8)(w:World)(y:At w p a)(hb:At w q b):
  Calls Tryz.prog 96 #[.slice p a.length c,.slice q b.length d] w fun e w'=>e=.returned (.bool (a==b))∧w'=w:=by
 have z:=dL y c;have D:=dL hb d;have o:Hid (((textOf a).toList==(textOf b).toList)=(a==b)):=by
  show _=_;rw[ByteArray.toList_eq,ByteArray.toList_eq,iQ,iQ]
 clear y hb;generalize textOf a=x at z o;generalize textOf b=E at D o;go_enter Tryz.func96,Tryz.ntmps96;go_wp2;go_ret;exact⟨by rw[<-o.out];rfl,rfl⟩
theorem uw(n c:Nat)(w:World):(binOp .eql 22 (.slice none n c) (.slice none 0 0)).run Tryz.prog w=.ok (.bool true) w:=by kernel_rfl
theorem uu(a:Addr)(n c:Nat)(w:World):(binOp .eql 22 (.slice (some a) n c) (.slice none 0 0)).run Tryz.prog w=.ok (.bool false) w:=by kernel_rfl
theorem yK(p:OA)(c:Nat)(l:L8)(U:l.length<=140737488351232)(w:World)(h:At w p l):
    Calls Tryz.prog 160 #[.slice p l.length c] w fun e w'=>∃q cap,e=.returned (.slice q l.length cap)∧Has w' w.1.size (.slice q l.length cap) l∧Below w.1.size w w':=by
  cases p with
  |none=>
    have L:l=[]:=by
      rcases h with rfl | ⟨b,V,O,_,_⟩
      · rfl
      · cases O
    subst L;have Q:=uw 0 c w;go_enter Tryz.func160,Tryz.ntmps160;go_wp2;go_ret;exact⟨none,0,rfl,aM _ _,gQz⟩
  |some a=>
    have E:=gQq (h.on ((Below.refl _ w).alloc gQx (.cells #[] 5)));have o:=gQq (oc w).has;have I:Hid (Below w.1.size w (w.alloc (.cells #[] 5))):=gQy;have Q:=uu a l.length c w;clear h;go_enter Tryz.func160,Tryz.ntmps160
    go_wp2_with (first|(at_builtin;refine aE (xs:=[]) o.out E.out (by simp;omega) (by simp) rfl rfl rfl rfl rfl ?_;intro S q cap W K D z M;have J:=gQq (aB z o.out (by simp));have y:=gQq D;clear z M D)|fail)
    go_ret;have e:S=l:=K.out;rw[e] at y;rw[e];exact⟨q,cap,rfl,y.out,I.out.trans J.out⟩
end
section
open Go.RowKit
theorem ints_at{H:Nat}(o:w.1.size=H)(l:List Int){C:AV}(h:C=(l.map fun n=>Value.int .i64 n).toArray):Ints (w.alloc (.cells C 2)) H l:=by
 subst o;exact gW w l h
def tq(w:World)(er:Nat)(l:L8)(e:Ending)(w':World):Prop :=
 (er=0∧∃q cap,e=.returned (.tuple #[.slice q l.length cap,.int .i64 0])∧Has w' w.1.size (.slice q l.length cap) l∧Below w.1.size w w')∨(er≠0∧e=.returned (.tuple #[.slice none 0 0,.int .i64 (er:Nat)])∧Below w.1.size w w')
theorem cC{o:Nat}(h:o≠0)(hb:Below w.1.size w w'):tq w o l (.returned (.tuple #[.slice none 0 0,.int .i64 (o:Nat)])) w':=.inr ⟨h,rfl,hb⟩
def dW(n:Int)(s:List Col):Nat:=if Fr.within Fr.N n=false then 7 else Sch.err s
theorem pA(n:Int)(be:Fr.i64 n)(s:List Col)(sp:OA)(O:Nat)(w:World)(cb:s.length*120<=140737488351232)(bk:et w sp s)(bj:∀x∈s,x.wf):
    Calls Tryz.prog 285 #[.agg #[.int .i64 n,.slice sp s.length O]] w (tq w (dW n s) (Fr.nums [n]++Sch.bytes s)):=by
  obtain⟨w0,M⟩:∃w0,w0=w.alloc (.cells #[.int .i64 n,.slice sp s.length O] 165):=⟨_,rfl⟩;have bn:w0.1.size=w.1.size+1:=by rw[M];simp
  have bs:Hid (Below w.1.size w w0):=by rw[M];exact gQy
  have c0:w0.cell? ⟨w.1.size,0,none⟩=some (.int .i64 n):=by rw[M];simp
  have c1:w0.cell? ⟨w.1.size,1,none⟩=some (.slice sp s.length O):=by rw[M];simp
  obtain⟨w1,S⟩:∃w1,w1=w0.alloc (.cells #[.int .i64 n] 2):=⟨_,rfl⟩;have a4:Hid (Ints w1 (w.1.size+1) [n]):=by rw[S];exact ints_at bn [n] rfl
  have U:Hid (Below w0.1.size w0 w1):=by rw[S];exact gQy
  have V:Hid (Below w.1.size w w1):=bs.out.trans (U.out.mono (by omega));have cj:w1.1.size=w.1.size+2:=by rw[S];simp[bn]
  have a7:w1.cell? ⟨w.1.size,0,none⟩=some (.int .i64 n):=ae U.out c0;have b5:w1.cell? ⟨w.1.size,1,none⟩=some (.slice sp s.length O):=ae U.out c1;have y:=gQq (qw 2147483648 (w.1.size+1) [n] (by simp) w1 a4.out);have a8:[n].all (Fr.within 2147483648)=Fr.within Fr.N n:=by simp[Fr.N]
  rw[a8] at y;have K:Hid ((w.alloc (.cells #[.int .i64 n,.slice sp s.length O] 165)).alloc (.cells #[.int .i64 n] 2)=w1):=by rw[S,M];exact rfl
  have bT:=gQq be;obtain⟨J,a1⟩:∃J,J=dW n s:=⟨_,rfl⟩;have Z:=gQq a1;rw[<-a1];have b1:=gQq bk;have b0:=gQq bj;clear a8 M S be a1 bk bj c0 c1 a4 U;by_cases L:Fr.within Fr.N n=true
  · rw[L] at y;have I:Hid (J=Sch.err s):=by
      show _=_;rw[Z.out,dW,L];rfl
    have b6:=(Fr.within_iff.1 L).1;have E:=gQq (mE s sp O w1 cb (b1.out.on V.out) b0.out);clear Z L;by_cases D:Sch.err s=0
    · have bO:Hid (J=0):=I.out.trans D;have b7:(Sch.bytes s).length<=1024:=(Sch.err_open D).2.2.2;rw[show encB s=Sch.bytes s from if_pos D,D] at E;obtain⟨ak,bb⟩:∃ak,ak=Sch.bytes s:=⟨_,rfl⟩;rw[<-bb] at E b7 ⊢;clear D I bb;go_enter Tryz.func285,Tryz.ntmps285;go_wp2_with fail;rw[K.out];refine y.out.mono ?_;rintro e o ⟨rfl,z⟩;rw[z];clear z o y K;go_wp2_with fail;refine E.out.mono ?_;rintro e o ⟨q,cap,rfl,ab,a0,hb⟩;have cf:o.cell? ⟨w.1.size,0,none⟩=some (.int .i64 n):=ae hb a7;have bq:=gQq ab;have X:=gQq (V.out.trans (hb.mono (by omega)));have ci:=X.out.size;clear ab a0 hb E a7 b5;have a5:Hid (Ints (o.alloc (.cells #[.int .i64 n] 2)) o.1.size [n]):=gW o [n] rfl;have Y:Hid (Below o.1.size o (o.alloc (.cells #[.int .i64 n] 2))):=gQy;have a6:=gQq (xG o.1.size [n] (by simp) (fun m bc=>by simp at bc;subst bc;exact⟨b6,bT.out.2⟩) _ a5.out);go_wp2_with fail;refine a6.out.mono ?_;rintro e ck ⟨p3,ce,rfl,Q,hb⟩;have aj:=gQq (Q.lower (B':=o.1.size) Y.out.size);have ah:=gQq (Y.out.trans (hb.mono Y.out.size));have br:=gQq (bq.out.on ah.out);have bi:=ah.out.size;clear Q hb a6 a5 Y;have ca:(Fr.nums [n]).length<=10:=by
        have:=Leb.put_length_le n.toNat;rw[Fr.nums_cons,Fr.nums_nil,List.append_nil];exact this
      obtain⟨bp,a3⟩:∃bp,bp=Fr.nums [n]:=⟨_,rfl⟩;rw[<-a3] at aj ca ⊢;have bX:=gQq a3;clear a3
      go_wp2_with (first|(at_builtin;refine aE aj.out br.out (by omega) bi rfl rfl rfl rfl rfl ?_;intro cd cc b4 W b2 Q a9 b8;have bN:=gQq (aB a9 aj.out bi);have b3:=gQq Q;clear a9 b8 Q)|fail)
      go_ret2;have e:Fr.nums [n]++ak=cd:=(by rw[b2.out,bX.out]);rw[e];exact .inl ⟨bO.out,cc,b4,rfl,b3.out.lower (by omega),(X.out.trans (ah.out.mono (by omega))).trans (bN.out.mono (by omega))⟩
    · have b9:J≠0:=(by rw[I.out];exact D);have cg:((J:Int) != 0)=true:=(by rw[bne_iff_ne];omega);rw[show encB s=[] from if_neg D,<-I.out] at E;clear D I;go_enter Tryz.func285,Tryz.ntmps285;go_wp2_with fail;rw[K.out];refine y.out.mono ?_;rintro e o ⟨rfl,z⟩;rw[z];clear z o y K;go_wp2_with fail;refine E.out.mono ?_;rintro e o ⟨q,cap,rfl,ab,a0,hb⟩;have X:=gQq (V.out.trans (hb.mono (by omega)));clear ab a0 hb E;go_wp2;go_ret2;exact cC b9 X.out
  · have a2:Fr.within Fr.N n=false:=(by simpa using L);rw[a2] at y;have I:Hid (J=7):=by
      show _=_;rw[Z.out,dW,a2];rfl
    clear Z L a2;go_enter Tryz.func285,Tryz.ntmps285;go_wp2_with fail;rw[K.out];refine y.out.mono ?_;rintro e o ⟨rfl,z⟩;rw[z];clear z o y K;go_wp2;go_ret2;rw[I.out];exact cC (by omega) V.out
end
section
open Go.RowKit
theorem pn{p:OA}{c:Nat}(X:Has w B v xs)(h:At w p l)(S:xs.length+l.length<=140737488355328)(J:B<=w.1.size){D:Array Oper}{o:Oper}{a:Act}{z:Act->World->Prop}{I:Exit->Act->World->Prop}{E:Prop}(s x:Operand)(ab:o.type=22)(Q:o.guard=none)(V:o.op=Op.call { callee:=Callee.builtin Builtin.append,args:=#[s,x],argTypes:=#[22,22] })(Z:a.eval s=v)(aj:a.eval x=.slice p l.length c)(K:∀q cap W y,Hid (y=xs++l)->bA w B v W (.slice q y.length cap) y->z (a.put o.dst (.slice q y.length cap)) W):
  if Region.wanted o (yielded D a.tmps)=true then Oper.wp Tryz.prog o a w z I else E:=by
 have ah:Region.wanted o (yielded D a.tmps)=true:=by simp[Region.wanted,Q]
 rw[if_pos ah];obtain⟨q,cap,W,⟨Y⟩,U,L,-,M⟩:=eL B v xs l p c w X h S J;unfold Oper.wp;have O:(execOp a.eval o).run Tryz.prog w=.ok (.value (.slice q (xs++l).length cap)) W:=by
  simp only[execOp,V,resolve,invoke,builtin];simp[Z,aj,ab,Y,Result.andThen]
 rw[O];exact K q cap W (xs++l) (gQq rfl) ⟨U,L,M⟩
theorem Ints.drew{l:List Int}(h:Ints w b l):Ints w.drew b l:=⟨h.1,fun j o=>h.2 j o⟩
theorem eR{W:World}{q:Value}{E:L8}(z:bA w B v W q E)(D:Has w B v xs){b o:Nat}{u:Value}(hb:b<B)(y:B<=w.1.size)(h:w.cell? ⟨b,o,none⟩=some u):W.cell? ⟨b,o,none⟩=some u :=
 ((aB z.aside D y).cell (p:=⟨b,o,none⟩) hb).trans h
def ft(n q f r:Int)(b:L8):Nat:=if (Fr.within Fr.N n&&Fr.within Fr.S q&&Fr.within Fr.S f&&decide (1<=r∧r<=64))=false then 7 else if 2200<b.length then 2 else 0
theorem vz(n q f r:Int)(bX:Fr.i64 n)(b0:Fr.i64 q)(bT:Fr.i64 f)(bc:Fr.i64 r)(b:L8)(U:OA)(Y:Nat)(w:World)(dc:b.length<=140737488351232)(bO:At w U b):
    Calls Tryz.prog 289 #[.agg #[.int .i64 n,.int .i64 q,.int .i64 f,.int .i64 r,.slice U b.length Y]] w (tq w (ft n q f r b) (Fr.nums [n,q,f,r]++b)):=by
  obtain⟨w0,E⟩:∃w0,w0=w.alloc (.cells #[.int .i64 n,.int .i64 q,.int .i64 f,.int .i64 r,.slice U b.length Y] 167):=⟨_,rfl⟩;have b1:w0.1.size=w.1.size+1:=by rw[E];simp
  have b5:Hid (Below w.1.size w w0):=by rw[E];exact gQy
  have c0:w0.cell? ⟨w.1.size,0,none⟩=some (.int .i64 n):=by rw[E];simp
  have c1:w0.cell? ⟨w.1.size,1,none⟩=some (.int .i64 q):=by rw[E];simp
  have c2:w0.cell? ⟨w.1.size,2,none⟩=some (.int .i64 f):=by rw[E];simp
  have c3:w0.cell? ⟨w.1.size,3,none⟩=some (.int .i64 r):=by rw[E];simp
  have c4:w0.cell? ⟨w.1.size,4,none⟩=some (.slice U b.length Y):=by rw[E];simp
  obtain⟨w1,ak⟩:∃w1,w1=w0.alloc (.cells #[.int .i64 n] 2):=⟨_,rfl⟩;have bk:Hid (Ints w1 (w.1.size+1) [n]):=by rw[ak];exact ints_at b1 [n] rfl
  have K:Hid (Below w0.1.size w0 w1):=by rw[ak];exact gQy
  have bi:Hid (Below w.1.size w w1):=b5.out.trans (K.out.mono (by omega));have b2:w1.1.size=w.1.size+1+1:=by rw[ak];simp[b1]
  have ce:=ae K.out c0;have cf:=ae K.out c1;have cg:=ae K.out c2;have ci:=ae K.out c3;have cj:=ae K.out c4;have a1:=gQq (qw 2147483648 (w.1.size+1) [n] (by simp) w1 bk.out);have bs:[n].all (Fr.within 2147483648)=Fr.within Fr.N n:=by simp[Fr.N]
  rw[bs] at a1;have bq:Hid ((w.alloc (.cells #[.int .i64 n,.int .i64 q,.int .i64 f,.int .i64 r,.slice U b.length Y] 167)).alloc (.cells #[.int .i64 n] 2)=w1):=by rw[ak,E];exact rfl
  obtain⟨o,a0⟩:∃o,o=w1.alloc (.cells #[.int .i64 q,.int .i64 f] 2):=⟨_,rfl⟩;have O:Hid (Below w1.1.size w1 o):=by rw[a0];exact gQy
  have Q:Hid (Below w.1.size w o):=bi.out.trans (O.out.mono (by omega));have a2:=gQq (qw 1099511627776 w1.1.size [q,f] (by simp) o (by rw[a0];exact gW w1 [q,f] rfl));have bN:[q,f].all (Fr.within 1099511627776)=(Fr.within Fr.S q&&Fr.within Fr.S f):=by simp[Fr.S]
  rw[bN] at a2;have cr:o.1.size=w.1.size+1+1+1:=by rw[a0];simp[b2]
  have ct:=ae O.out ce;have cu:=ae O.out cf;have cv:=ae O.out cg;have cw:=ae O.out ci;have cx:=ae O.out cj;have br:Hid (w1.alloc (.cells #[.int .i64 q,.int .i64 f] 2)=o):=by rw[a0];exact rfl
  obtain⟨z,a9⟩:∃z,z=ft n q f r b:=⟨_,rfl⟩;have bj:=gQq a9;rw[<-a9];have b4:=gQq bO;have b9:=gQq (And.intro bX (And.intro b0 (And.intro bT bc)));obtain⟨Z,a3⟩:∃Z,Z=Fr.within Fr.N n:=⟨_,rfl⟩;obtain⟨ab,a4⟩:∃ab,ab=(Fr.within Fr.S q&&Fr.within Fr.S f):=⟨_,rfl⟩;rw[<-a3] at a1;rw[<-a4] at a2;have I:Hid (z=if (Z&&ab&&decide (1<=r∧r<=64))=false then 7 else if 2200<b.length then 2 else 0):=by
    show _=_;rw[bj.out,a3,a4,ft,<-Bool.and_assoc]
  have bn:Hid (Z=true->ab=true->(0<=n∧0<=q∧0<=f)):=by
    intro V X;rw[a3] at V;rw[a4,Bool.and_eq_true] at X;exact⟨(Fr.within_iff.1 V).1,(Fr.within_iff.1 X.1).1,(Fr.within_iff.1 X.2).1⟩
  have cq:=bc;unfold Fr.i64 at cq;clear bs bN E ak a0 bX b0 bT bc a9 bO c0 c1 c2 c3 c4 bk K bj a3 a4;go_enter Tryz.func289,Tryz.ntmps289;go_wp2_with fail;rw[bq.out];refine a1.out.mono ?_;rintro e v ⟨rfl,aj⟩;rw[aj];clear aj v a1 bq;cases Z with
  |false=>
    have y:Hid (z=7):=I.out;go_wp2;go_ret2;rw[y.out];exact cC (by omega) bi.out
  |true=>
    go_wp2_with fail;rw[<-b2];rw[br.out];refine a2.out.mono ?_;rintro e v ⟨rfl,aj⟩;rw[aj];clear aj v a2 br;cases ab with
    |false=>
      have y:Hid (z=7):=I.out;go_wp2;go_ret2;rw[y.out];exact cC (by omega) Q.out
    |true=>
      have b8:=gQq (bn.out (by simp) (by simp));clear bn;by_cases V:r<1
      · have y:Hid (z=7):=by
          show _=_;rw[I.out,decide_eq_false (show ¬(1<=r∧r<=64) by omega)];rfl
        clear I;go_wp2;go_ret2;rw[y.out];exact cC (by omega) Q.out
      by_cases X:64<r
      · have y:Hid (z=7):=by
          show _=_;rw[I.out,decide_eq_false (show ¬(1<=r∧r<=64) by omega)];rfl
        clear I;go_wp2;go_ret2;rw[y.out];exact cC (by omega) Q.out
      have y:Hid (z=if 2200<b.length then 2 else 0):=by
        show _=_;rw[I.out,decide_eq_true (show(1<=r∧r<=64) by omega)];rfl
      clear I;by_cases ah:2200<b.length
      · have ck:(2200:Int)<(b.length:Int):=(by omega);have a7:Hid (z=2):=y.out.trans (if_pos ah);clear y ah;go_wp2;go_ret2;rw[a7.out];exact cC (by omega) Q.out
      · have ck:¬(2200:Int)<(b.length:Int):=(by omega);have a7:Hid (z=0):=y.out.trans (if_neg ah);clear y ah;have cp:(Fr.nums [n,q,f,r]).length<=40:=by
          have V:=Leb.put_length_le n.toNat;have X:=Leb.put_length_le q.toNat;have ah:=Leb.put_length_le f.toNat;have db:=Leb.put_length_le r.toNat;simp only[Fr.nums_cons,Fr.nums_nil,List.append_nil,List.length_append];omega
        have bp:Hid (Calls Tryz.prog 288 #[.slice (some ⟨w.1.size+1+1+1,0,none⟩) 4 4] (o.alloc (.cells #[.int .i64 n,.int .i64 q,.int .i64 f,.int .i64 r] 2)).drew fun e be=>∃p cap,e=.returned (.slice p (Fr.nums [n,q,f,r]).length cap)∧Has be o.1.size (.slice p (Fr.nums [n,q,f,r]).length cap) (Fr.nums [n,q,f,r])∧Below o.1.size o be):=by
          refine(xG (w.1.size+1+1+1) [n,q,f,r] (by simp) (fun m co=>?_) _ (ints_at cr [n,q,f,r] rfl).drew).mono ?_
          · have V:=b9.out;have X:=b8.out;unfold Fr.i64 at V;simp only[List.mem_cons,List.not_mem_nil,or_false] at co;omega
          · rintro e be ⟨p,cap,rfl,a5,hb⟩;have a8:Below o.1.size o (o.alloc (.cells #[.int .i64 n,.int .i64 q,.int .i64 f,.int .i64 r] 2)).drew:=gQy.drew;exact⟨p,cap,rfl,a5.lower a8.size,a8.trans (hb.mono a8.size)⟩
        obtain⟨a6,bb⟩:∃a6,a6=Fr.nums [n,q,f,r]:=⟨_,rfl⟩;rw[<-bb] at bp cp;have ca:=gQq bb;clear bb;have cn:a6.length+b.length<=140737488355328:=(by omega);go_wp2_with fail
        go_region_held3 (fun w'=>w'.cell? ⟨w.1.size,0,none⟩=some (.int .i64 n)∧w'.cell? ⟨w.1.size,1,none⟩=some (.int .i64 q)∧w'.cell? ⟨w.1.size,2,none⟩=some (.int .i64 f)∧w'.cell? ⟨w.1.size,3,none⟩=some (.int .i64 r)∧w'.cell? ⟨w.1.size,4,none⟩=some (.slice U b.length Y)) (go_keep) (first|(go_at_call 288;refine bp.out.mono ?_;rintro e dd ⟨p3,da,rfl,a5,D⟩;have cy:=ae D ct;have c5:=ae D cu;have c6:=ae D cv;have c7:=ae D cw;have c8:=ae D cx;have L:=gQq a5;have b6:=gQq D;have b3:=gQq ((b4.out.on Q.out).on D);have M:=D.size;clear a5 D)|(refine pn (B:=o.1.size) (xs:=a6) (l:=b) L.out b3.out cn M (.tmp 41) (.tmp 43) (by rfl) (by rfl) (by rfl) (by rfl) (by rfl) ?_;intro cs cd W c9 cb J;have z0:=eR J L.out (by omega) M cy;have z1:=eR J L.out (by omega) M c5;have z2:=eR J L.out (by omega) M c6;have z3:=eR J L.out (by omega) M c7;have z4:=eR J L.out (by omega) M c8;have cc:=gQq J.has;have b7:=gQq (aB J.aside L.out M);clear J))
        go_wp2;go_ret2;have e:Fr.nums [n,q,f,r]++b=c9:=(by rw[cb.out,ca.out]);rw[e];exact .inl ⟨a7.out,cs,cd,rfl,cc.out.lower (by omega),(Q.out.trans (b6.out.mono (by omega))).trans (b7.out.mono (by omega))⟩
end
section
open Go.RowKit
end
end Go.Proofs.YtbahfgdbjgkklaaGreatDoor
