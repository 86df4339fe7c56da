import Derived.Handy
import Derived.Test.YtngmnfdaedlodaaGreatDoorB24
set_option maxRecDepth 100000
set_option maxHeartbeats 4000000
namespace Go.Proofs.YtngmnfdaedlodaaGreatDoor
open Go.Proofs.Tryz
open Option renaming none->I,some->C
open Go.Value renaming int->U,slice->O,agg->qx,tuple->qv,pointer->qq
open Go.IntKind renaming i64->Y
open Go renaming World->F,Value->AA
open Go.Obj renaming cells->N
open Go.Proofs.Tryz renaming prog->AE
open Go.RowKit renaming Below->AC
open Except renaming error->AQ
open Go.Ending renaming returned->wv
variable{R:Nat}{W W' w w':F}{y:Int}{e:Ending}
section
open Go.RowKit
def Ar(w:F)(r:Except Nat L8)(e:Ending)(w':F):Prop:=match r with
 |AQ k=>e=wv (qv #[O I 0 0,U Y (k:Nat)])∧AC w.1.size w w'
 |.ok b=>∃g o cap,e=wv (qv #[O (C ⟨g,o,I⟩) b.length cap,U Y 0])∧At w' (C ⟨g,o,I⟩) b∧b.length<=cap∧w.1.size<=g∧AC w.1.size w w'
theorem xt(p:OA)(c:Nat)(l:L8)(ck:l.length<=140737488351232)(cn:l.length<=c)(w:F)(b0:Hv w)(h:At w p l):
  Calls AE 50 #[O p l.length c] w (Ar w (Fr.open_ l)):=by
 obtain⟨r,a4⟩:∃r,r=Fr.open_ l:=⟨_,rfl⟩
 have Z:Hid (r=if 2200<l.length then AQ 2 else if (Cob.un l).1≠0 then AQ (Cob.un l).1
  else if (Cob.un l).2.length<5 then AQ 30
  else if (Cob.un l).2.drop ((Cob.un l).2.length-4)=Sch.le 4 (Crc.sum ((Cob.un l).2.take ((Cob.un l).2.length-4))) then .ok ((Cob.un l).2.take ((Cob.un l).2.length-4)) else AQ 120):=a4
 rw[<-a4];clear a4;have S:=gQq (sX p c l w ck cn h);have b6:=gQq b0;clear h b0;by_cases ak:2200<l.length
 ·have b7:(2200:Int)<(l.length:Int):=by omega
  have E:Hid (r=AQ 2):=Z.out.trans (AG ak);clear Z ak;go_enter func50,ntmps50;go_wp2;go_ret2;rw[E.out];exact⟨rfl,gQz⟩
 have b7:¬(2200:Int)<(l.length:Int):=by omega
 have L:=gQq (Z.out.trans (AF ak));have cp:=Cob.un_length l;unfold iv at S;obtain⟨X,bX⟩:∃X,X=(Cob.un l).1:=⟨_,rfl⟩;obtain⟨D,bT⟩:∃D,D=(Cob.un l).2:=⟨_,rfl⟩;rw[<-bT] at S cp L;rw[<-bX] at S L;clear Z bX bT;go_enter func50,ntmps50;go_wp2_with fail;refine S.out.mono ?_;rintro e w1 ⟨q,cap,rfl,bs,cd,bO,hb⟩;have Q:=gQq hb;have b3:=gQq bs;have bi:=gQq bO;clear bs bO hb S;by_cases a2:X=0
 ·subst a2;have E:=gQq (L.out.trans (AF (by omega)));clear L;by_cases M:D.length<5
  ·have aj:(D.length:Int)<5:=(by omega);have K:Hid (r=AQ 30):=E.out.trans (AG M);clear E M;go_wp2;go_ret2;rw[K.out];exact⟨rfl,Q.out⟩
  have aj:¬(D.length:Int)<5:=by omega
  have K:=gQq (E.out.trans (AF M));clear E;obtain⟨g,A,rfl,ci,V⟩:=bi.out (fun a1=>by rw[a1] at M;simp at M);obtain⟨o,aw⟩:∃o,D.length=o+4:=⟨D.length-4,by omega⟩;have bp:D.length-4=o:=by omega
  rw[bp] at K;obtain⟨b,hb⟩:∃b,b=D.take o:=⟨_,rfl⟩;obtain⟨s,ab⟩:∃s,s=D.drop o:=⟨_,rfl⟩;have a0:b.length=o:=by rw[hb,AM];omega
  have co:s.length=4:=by rw[ab,AL];omega
  have a9:Hid (At w1 (C ⟨g,A,I⟩) b):=by rw[hb];exact .inr ⟨g,A,rfl,V.1,cF V.2.1 o⟩
  have b5:Hid (At w1 (C ⟨g,A+o,I⟩) s):=by rw[ab];exact .inr ⟨g,A+o,rfl,V.1,dL V.2.1 o⟩
  rw[<-hb,<-ab] at K;have cr:(o:Int)<=2200:=by omega
  have b8:(o:Int)<=(D.length:Int):=by omega
  have cq:(o:Int)<=(cap:Int):=by omega
  have b9:((D.length:Nat):Int)-4=(o:Int):=by omega
  have bv:io (C ⟨g,A,I⟩) cap=C ⟨g,A,I⟩:=by
   unfold io;split
   ·rfl
   ·rw[Option.map_some,Lib.add_plain];rfl
  have bN:dp (C ⟨g,A,I⟩) o cap=C ⟨g,A+o,I⟩:=by
   unfold dp;rw[AF (by omega),Option.map_some,Lib.add_plain]
  have cs:∀w',(Instr.slice 40 (O (C ⟨g,A,I⟩) (o+4) cap) I (C (U Y (o:Int))) I).run AE w'=.ok (O (C ⟨g,A,I⟩) o cap) w':=fun w'=>by
   have:=kA (C ⟨g,A,I⟩) (o+4) cap o (by omega) w';rw[bv] at this;exact this
  have ct:∀w',(Instr.slice 40 (O (C ⟨g,A,I⟩) (o+4) cap) (C (U Y (o:Int))) I I).run AE w'=.ok (O (C ⟨g,A+o,I⟩) 4 (cap-o)) w':=fun w'=>by
   have:=dC (C ⟨g,A,I⟩) (o+4) cap o (by omega) w';rw[bN,Nat.add_sub_cancel_left] at this;exact this
  have bk:Hid (∀w',AC w1.1.size w1 w'->Calls AE 74 #[O (C ⟨g,A,I⟩) o cap] w' fun e a7=>e=wv (O (C ⟨w'.1.size,0,I⟩) 4 4)∧a7=w'.alloc (N (cellsOf (Sch.le 4 (Crc.sum b))).toArray 5)):=fun w' J=>by
   have:=s7 (C ⟨g,A,I⟩) cap b (by omega) w' ((b6.out.next Q.out).next J) (a9.out.on J);rw[a0] at this;exact this
  obtain⟨k,a3⟩:∃k,k=Sch.le 4 (Crc.sum b):=⟨_,rfl⟩;rw[<-a3] at bk K;have cj:k.length=4:=by rw[a3,Sch.le_len]
  have be:Hid (∀w' W,AC w1.1.size w1 w'->W=w'.alloc (N (cellsOf k).toArray 5)->Calls AE 73 #[O (C ⟨w'.1.size,0,I⟩) 4 4,O (C ⟨g,A+o,I⟩) 4 (cap-o)] W fun e a7=>e=wv (.bool (k==s))∧a7=W):=fun w' W J bq=>by
   have cc:AC w1.1.size w1 W:=(by rw[bq];exact J.alloc J.size _);have:=yK (C ⟨w'.1.size,0,I⟩) (C ⟨g,A+o,I⟩) 4 (cap-o) k s W (by rw[bq];exact uX w' _ k rfl) (b5.out.on cc);rw[cj,co] at this;exact this
  have bb:Hid (∀w' a6,AC w1.1.size w1 w'->AC w1.1.size w1 (w'.alloc a6)):=fun w' a6 J=>J.alloc J.size a6;obtain⟨t,a5⟩:∃t,t=(k==s):=⟨_,rfl⟩;rw[<-a5] at be;have bl:=gQq a5;have bj:=gQq a0;rw[aw];rw[aw] at cd aj b8;clear a3 hb ab V M bi b3 a5 bp b9 bv bN aw a0;go_wp2_with fail
  go_region_held3 (fun _=>True) (trivial) (first|(go_at_call 74;refine(bk.out _ (gQz.drew)).mono ?_;rintro e cu ⟨rfl,b1⟩;have ai:=gQq b1;clear b1)|(go_at_call 73;refine(be.out w1.drew _ (gQz.drew) ai.out).mono ?_;rintro e a8 ⟨rfl,b2⟩;have bn:=gQq b2;clear b2)|fail)
  have bc:Hid (AC w.1.size w a8):=by
   rw[bn.out,ai.out];exact Q.out.trans ((bb.out _ _ (gQz.drew)).mono Q.out.size)
  have b4:Hid (At a8 (C ⟨g,A,I⟩) b):=by
   have cb:AC w1.1.size w1 a8:=(by rw[bn.out,ai.out];exact bb.out _ _ (gQz.drew));exact a9.out.on cb
  cases t with
  |false=>
   have ah:Hid (r=AQ 120):=by
    show _=_;rw[K.out,AF];intro a1;have:=bl.out;rw[a1,beq_self_eq_true] at this;cases this
   go_wp2;go_ret2;rw[ah.out];exact⟨rfl,bc.out⟩
  |true=>
   have ah:Hid (r=.ok b):=by
    show _=_;have:=bl.out.symm;rw[beq_iff_eq] at this;rw[K.out,AG this.symm]
   go_wp2;go_ret2;rw[ah.out];exact⟨g,A,cap,by rw[bj.out];rfl,b4.out,by rw[bj.out];omega,ci,bc.out⟩
 ·have aj:((X:Int) != 0)=true:=by rw[bne_iff_ne];omega
  have E:Hid (r=AQ X):=L.out.trans (AG a2);clear L a2;go_wp2;go_ret2;rw[E.out];exact⟨rfl,Q.out⟩
end
section
open Go.RowKit
theorem zj(x:AA)(w:F):(Instr.typeAssert (.iface 143 x) 115 143 true).run AE w=.ok (qv #[x,.bool true]) w:=by kernel_rfl
theorem zi(x:AA)(w:F):(Instr.typeAssert (.iface 143 x) 115 145 true).run AE w=.ok (qv #[qx #[U Y 0,U Y 0,U Y 0,U Y 0,O I 0 0],.bool false]) w:=by kernel_rfl
theorem zh(x:AA)(w:F):(Instr.typeAssert (.iface 143 x) 115 147 true).run AE w=.ok (qv #[qx #[U Y 0,U Y 0,U Y 0,O I 0 0],.bool false]) w:=by kernel_rfl
theorem zf(x:AA)(w:F):(Instr.typeAssert (.iface 145 x) 115 143 true).run AE w=.ok (qv #[qx #[U Y 0,O I 0 0],.bool false]) w:=by kernel_rfl
theorem ze(x:AA)(w:F):(Instr.typeAssert (.iface 145 x) 115 145 true).run AE w=.ok (qv #[x,.bool true]) w:=by kernel_rfl
theorem zc(x:AA)(w:F):(Instr.typeAssert (.iface 145 x) 115 147 true).run AE w=.ok (qv #[qx #[U Y 0,U Y 0,U Y 0,O I 0 0],.bool false]) w:=by kernel_rfl
theorem za(x:AA)(w:F):(Instr.typeAssert (.iface 147 x) 115 143 true).run AE w=.ok (qv #[qx #[U Y 0,O I 0 0],.bool false]) w:=by kernel_rfl
theorem yZ(x:AA)(w:F):(Instr.typeAssert (.iface 147 x) 115 145 true).run AE w=.ok (qv #[qx #[U Y 0,U Y 0,U Y 0,U Y 0,O I 0 0],.bool false]) w:=by kernel_rfl
theorem yY(x:AA)(w:F):(Instr.typeAssert (.iface 147 x) 115 147 true).run AE w=.ok (qv #[x,.bool true]) w:=by kernel_rfl
theorem rY(n:Int)(sp:OA)(A o:Nat)(w:F):Calls AE 52 #[.iface 143 (qx #[U Y n,O sp A o])] w fun e w'=>e=wv (qx #[U Y 1,U Y n,O sp A o,U Y 0,U Y 0,U Y 0,O I 0 0,U Y 0,U Y 0,U Y 0,O I 0 0])∧AC w.1.size w w':=by
 have K:=zj (qx #[U Y n,O sp A o]);have L:=zi (qx #[U Y n,O sp A o]);have M:=zh (qx #[U Y n,O sp A o]);have J:Hid (∀D E,AC w.1.size w ((w.alloc D).alloc E)):=fun D E=>gQy.alloc (by simp) _;go_enter func52,ntmps52;go_wp2;refine bodyPost_ret (v:=qx #[U Y 1,U Y n,O sp A o,U Y 0,U Y 0,U Y 0,O I 0 0,U Y 0,U Y 0,U Y 0,O I 0 0]) (results_cell_row rfl _ _ w.1.size _ _ _ _ rfl (fw w _ _) underlying52 rfl (by kernel_rfl)) rfl ?_;exact⟨rfl,J.out _ _⟩
theorem rX(n q E r:Int)(D:OA)(A o:Nat)(w:F):Calls AE 52 #[.iface 145 (qx #[U Y n,U Y q,U Y E,U Y r,O D A o])] w fun e w'=>e=wv (qx #[U Y 2,U Y n,O I 0 0,U Y q,U Y E,U Y r,O D A o,U Y 0,U Y 0,U Y 0,O I 0 0])∧AC w.1.size w w':=by
 have M:=zf (qx #[U Y n,U Y q,U Y E,U Y r,O D A o]);have Q:=ze (qx #[U Y n,U Y q,U Y E,U Y r,O D A o]);have S:=zc (qx #[U Y n,U Y q,U Y E,U Y r,O D A o]);have L:Hid (∀J K,AC w.1.size w ((w.alloc J).alloc K)):=fun J K=>gQy.alloc (by simp) _;go_enter func52,ntmps52;go_wp2;refine bodyPost_ret (v:=qx #[U Y 2,U Y n,O I 0 0,U Y q,U Y E,U Y r,O D A o,U Y 0,U Y 0,U Y 0,O I 0 0]) (results_cell_row rfl _ _ w.1.size _ _ _ _ rfl (fw w _ _) underlying52 rfl (by kernel_rfl)) rfl ?_;exact⟨rfl,L.out _ _⟩
theorem rW(E J K:Int)(D:OA)(A o:Nat)(w:F):Calls AE 52 #[.iface 147 (qx #[U Y E,U Y J,U Y K,O D A o])] w fun e w'=>e=wv (qx #[U Y 3,U Y 0,O I 0 0,U Y 0,U Y 0,U Y 0,O I 0 0,U Y E,U Y J,U Y K,O D A o])∧AC w.1.size w w':=by
 have S:=za (qx #[U Y E,U Y J,U Y K,O D A o]);have V:=yZ (qx #[U Y E,U Y J,U Y K,O D A o]);have X:=yY (qx #[U Y E,U Y J,U Y K,O D A o]);have Q:Hid (∀L M,AC w.1.size w ((w.alloc L).alloc M)):=fun L M=>gQy.alloc (by simp) _;go_enter func52,ntmps52;go_wp2;refine bodyPost_ret (v:=qx #[U Y 3,U Y 0,O I 0 0,U Y 0,U Y 0,U Y 0,O I 0 0,U Y E,U Y J,U Y K,O D A o]) (results_cell_row rfl _ _ w.1.size _ _ _ _ rfl (fw w _ _) underlying52 rfl (by kernel_rfl)) rfl ?_;exact⟨rfl,Q.out _ _⟩
end
section
open Go.RowKit
def uk(B:Nat)(f:Fr)(v:AA)(w:F):Prop:=(f.kind=1∧∃x,v=.iface 143 x∧zI B f x w)∨(f.kind=2∧∃x,v=.iface 145 x∧zJ B f x w)∨(f.kind=3∧∃x,v=.iface 147 x∧uj B f x w)
theorem ga.good{f:Fr}{V:Fr->AA->F->Prop}(h:ga w R (.ok f) V e w'):∃v,e=wv v∧V f v w'∧Aside (fun i=>i=R) w w':=h
theorem ga.bad{k:Nat}{V:Fr->AA->F->Prop}(h:ga w R (AQ k) V e w'):e=.panicked (dm k)∧Aside (fun i=>i=R) w w':=h
theorem r8(l:L8)(L R:Nat)(w:F)(h:cz w L R l):Calls AE 53 #[qq (C ⟨R,0,I⟩),U Y 1] w (ga w R (Fr.rdS l) (uk w.1.size)):=by
 have o:=gQq (j9 l L R w h);obtain⟨r,E⟩:∃r,r=Fr.rdS l:=⟨_,rfl⟩;rw[<-E] at o ⊢;clear h;cases r with
 |error er=>
  clear E;go_enter func53,ntmps53;go_wp2_with fail;refine o.out.mono ?_;intro e w1 D;obtain⟨K,A⟩:=D.bad;subst K;have J:=gQq A;clear D A o;go_wp2;exact⟨rfl,rfl,J.out⟩
 |ok f=>
  have Q:Hid (f.kind=1):=by
   have:=(Fr.rdF_ok (k:=1) (l:=l) (f:=f) (by rw[E];rfl)).1;exact this
  clear E;go_enter func53,ntmps53;go_wp2_with fail;refine o.out.mono ?_;intro e w1 D;obtain⟨v,K,M,A⟩:=D.good;subst K;have J:=gQq A;have S:=gQq M;obtain⟨p,c,rfl,-⟩:=M;clear D A o;go_wp2;go_ret;exact⟨_,rfl,.inl ⟨Q.out,_,rfl,S.out⟩,J.out⟩
theorem r7(l:L8)(L R:Nat)(w:F)(h:cz w L R l):Calls AE 53 #[qq (C ⟨R,0,I⟩),U Y 2] w (ga w R (Fr.rdD l) (uk w.1.size)):=by
 have o:=gQq (nL l L R w h);obtain⟨r,E⟩:∃r,r=Fr.rdD l:=⟨_,rfl⟩;rw[<-E] at o ⊢;clear h;cases r with
 |error er=>
  clear E;go_enter func53,ntmps53;go_wp2_with fail;refine o.out.mono ?_;intro e w1 D;obtain⟨K,A⟩:=D.bad;subst K;have J:=gQq A;clear D A o;go_wp2;exact⟨rfl,rfl,J.out⟩
 |ok f=>
  have Q:Hid (f.kind=2):=by
   have:=(Fr.rdF_ok (k:=2) (l:=l) (f:=f) (by rw[E];rfl)).1;exact this
  clear E;go_enter func53,ntmps53;go_wp2_with fail;refine o.out.mono ?_;intro e w1 D;obtain⟨v,K,M,A⟩:=D.good;subst K;have J:=gQq A;have S:=gQq M;obtain⟨p,c,rfl,-⟩:=M;clear D A o;go_wp2;go_ret;exact⟨_,rfl,.inr (.inl ⟨Q.out,_,rfl,S.out⟩),J.out⟩
theorem r6(l:L8)(L R:Nat)(w:F)(h:cz w L R l):Calls AE 53 #[qq (C ⟨R,0,I⟩),U Y 3] w (ga w R (Fr.rdI l) (uk w.1.size)):=by
 have o:=gQq (lI l L R w h);obtain⟨r,E⟩:∃r,r=Fr.rdI l:=⟨_,rfl⟩;rw[<-E] at o ⊢;clear h;cases r with
 |error er=>
  clear E;go_enter func53,ntmps53;go_wp2_with fail;refine o.out.mono ?_;intro e w1 D;obtain⟨K,A⟩:=D.bad;subst K;have J:=gQq A;clear D A o;go_wp2;exact⟨rfl,rfl,J.out⟩
 |ok f=>
  have Q:Hid (f.kind=3):=by
   have:=(Fr.rdF_ok (k:=3) (l:=l) (f:=f) (by rw[E];rfl)).1;exact this
  clear E;go_enter func53,ntmps53;go_wp2_with fail;refine o.out.mono ?_;intro e w1 D;obtain⟨v,K,M,A⟩:=D.good;subst K;have J:=gQq A;have S:=gQq M;obtain⟨p,c,rfl,-⟩:=M;clear D A o;go_wp2;go_ret;exact⟨_,rfl,.inr (.inr ⟨Q.out,_,rfl,S.out⟩),J.out⟩
theorem r9(k:Int)(o:k≠1)(A:k≠2)(D:k≠3)(R:Nat)(w:F):Calls AE 53 #[qq (C ⟨R,0,I⟩),U Y k] w (ga w R (AQ 60) (uk w.1.size)):=by
 have E:(k==1)=false:=bg o;have J:(k==2)=false:=bg A;have K:(k==3)=false:=bg D;clear o A D;go_enter func53,ntmps53;go_wp2;exact⟨rfl,rfl,Aside.refl _ _⟩
theorem wJ(k:Nat)(l:L8)(o R:Nat)(w:F)(h:cz w o R l):Calls AE 53 #[qq (C ⟨R,0,I⟩),U Y k] w (ga w R (Fr.rdF k l) (uk w.1.size)):=by
 unfold Fr.rdF;by_cases A:k=1
 ·subst A;rw[AG rfl];exact r8 l o R w h
 rw[AF A];by_cases D:k=2
 ·subst D;rw[AG rfl];exact r7 l o R w h
 rw[AF D];by_cases E:k=3
 ·subst E;rw[AG rfl];exact r6 l o R w h
 rw[AF E];exact r9 k (by omega) (by omega) (by omega) R w
end
section
open Go.RowKit
theorem dU(w:F):w.drew.1=w.1:=rfl
def fP:AV:=#[U Y 0,U Y 0,O I 0 0,U Y 0,U Y 0,U Y 0,O I 0 0,U Y 0,U Y 0,U Y 0,O I 0 0]
def gw(w:F)(g:Nat)(c0 c1 c2 c3 c4 c5 c6 c7 c8 c9 c10:AA):World:=((((((((((w.setCell ⟨g,0,I⟩ c0).setCell ⟨g,1,I⟩ c1).setCell ⟨g,2,I⟩ c2).setCell ⟨g,3,I⟩ c3).setCell ⟨g,4,I⟩ c4).setCell ⟨g,5,I⟩ c5).setCell ⟨g,6,I⟩ c6).setCell ⟨g,7,I⟩ c7).setCell ⟨g,8,I⟩ c8).setCell ⟨g,9,I⟩ c9).setCell ⟨g,10,I⟩ c10
theorem dR{g:Nat}{T:TypeId}{a8 ai ah ab X V Q M K J D:AA}(h:w.1[g]?=C (N #[a8,ai,ah,ab,X,V,Q,M,K,J,D] T (0,0)))(c0 c1 c2 c3 c4 o A E L S Z:AA):(gw w g c0 c1 c2 c3 c4 o A E L S Z).1[g]?=C (N #[c0,c1,c2,c3,c4,o,A,E,L,S,Z] T (0,0)):=by
 have aj:(w.setCell ⟨g,0,I⟩ c0).1[g]?=C (N #[c0,ai,ah,ab,X,V,Q,M,K,J,D] T (0,0)):=ao h 0 _;have ak:((w.setCell ⟨g,0,I⟩ c0).setCell ⟨g,1,I⟩ c1).1[g]?=C (N #[c0,c1,ah,ab,X,V,Q,M,K,J,D] T (0,0)):=ao aj 1 _;have a0:(((w.setCell ⟨g,0,I⟩ c0).setCell ⟨g,1,I⟩ c1).setCell ⟨g,2,I⟩ c2).1[g]?=C (N #[c0,c1,c2,ab,X,V,Q,M,K,J,D] T (0,0)):=ao ak 2 _;have a1:((((w.setCell ⟨g,0,I⟩ c0).setCell ⟨g,1,I⟩ c1).setCell ⟨g,2,I⟩ c2).setCell ⟨g,3,I⟩ c3).1[g]?=C (N #[c0,c1,c2,c3,X,V,Q,M,K,J,D] T (0,0)):=ao a0 3 _;have a2:(((((w.setCell ⟨g,0,I⟩ c0).setCell ⟨g,1,I⟩ c1).setCell ⟨g,2,I⟩ c2).setCell ⟨g,3,I⟩ c3).setCell ⟨g,4,I⟩ c4).1[g]?=C (N #[c0,c1,c2,c3,c4,V,Q,M,K,J,D] T (0,0)):=ao a1 4 _;have a3:((((((w.setCell ⟨g,0,I⟩ c0).setCell ⟨g,1,I⟩ c1).setCell ⟨g,2,I⟩ c2).setCell ⟨g,3,I⟩ c3).setCell ⟨g,4,I⟩ c4).setCell ⟨g,5,I⟩ o).1[g]?=C (N #[c0,c1,c2,c3,c4,o,Q,M,K,J,D] T (0,0)):=ao a2 5 _;have a4:(((((((w.setCell ⟨g,0,I⟩ c0).setCell ⟨g,1,I⟩ c1).setCell ⟨g,2,I⟩ c2).setCell ⟨g,3,I⟩ c3).setCell ⟨g,4,I⟩ c4).setCell ⟨g,5,I⟩ o).setCell ⟨g,6,I⟩ A).1[g]?=C (N #[c0,c1,c2,c3,c4,o,A,M,K,J,D] T (0,0)):=ao a3 6 _;have a5:((((((((w.setCell ⟨g,0,I⟩ c0).setCell ⟨g,1,I⟩ c1).setCell ⟨g,2,I⟩ c2).setCell ⟨g,3,I⟩ c3).setCell ⟨g,4,I⟩ c4).setCell ⟨g,5,I⟩ o).setCell ⟨g,6,I⟩ A).setCell ⟨g,7,I⟩ E).1[g]?=C (N #[c0,c1,c2,c3,c4,o,A,E,K,J,D] T (0,0)):=ao a4 7 _
 have a6:(((((((((w.setCell ⟨g,0,I⟩ c0).setCell ⟨g,1,I⟩ c1).setCell ⟨g,2,I⟩ c2).setCell ⟨g,3,I⟩ c3).setCell ⟨g,4,I⟩ c4).setCell ⟨g,5,I⟩ o).setCell ⟨g,6,I⟩ A).setCell ⟨g,7,I⟩ E).setCell ⟨g,8,I⟩ L).1[g]?=C (N #[c0,c1,c2,c3,c4,o,A,E,L,J,D] T (0,0)):=ao a5 8 _;have a7:((((((((((w.setCell ⟨g,0,I⟩ c0).setCell ⟨g,1,I⟩ c1).setCell ⟨g,2,I⟩ c2).setCell ⟨g,3,I⟩ c3).setCell ⟨g,4,I⟩ c4).setCell ⟨g,5,I⟩ o).setCell ⟨g,6,I⟩ A).setCell ⟨g,7,I⟩ E).setCell ⟨g,8,I⟩ L).setCell ⟨g,9,I⟩ S).1[g]?=C (N #[c0,c1,c2,c3,c4,o,A,E,L,S,D] T (0,0)):=ao a6 9 _;have aw:(((((((((((w.setCell ⟨g,0,I⟩ c0).setCell ⟨g,1,I⟩ c1).setCell ⟨g,2,I⟩ c2).setCell ⟨g,3,I⟩ c3).setCell ⟨g,4,I⟩ c4).setCell ⟨g,5,I⟩ o).setCell ⟨g,6,I⟩ A).setCell ⟨g,7,I⟩ E).setCell ⟨g,8,I⟩ L).setCell ⟨g,9,I⟩ S).setCell ⟨g,10,I⟩ Z).1[g]?=C (N #[c0,c1,c2,c3,c4,o,A,E,L,S,Z] T (0,0)):=ao a7 10 _;exact aw
theorem dh(w:F)(g:Nat)(c0 c1 c2 c3 c4 A D E J K o:AA):Aside (fun i=>i=g) w (gw w g c0 c1 c2 c3 c4 A D E J K o):=(((((((((((am w g 0 _).trans (am _ g 1 _) (fun _ _ h=>h)).trans (am _ g 2 _) (fun _ _ h=>h)).trans (am _ g 3 _) (fun _ _ h=>h)).trans (am _ g 4 _) (fun _ _ h=>h)).trans (am _ g 5 _) (fun _ _ h=>h)).trans (am _ g 6 _) (fun _ _ h=>h)).trans (am _ g 7 _) (fun _ _ h=>h)).trans (am _ g 8 _) (fun _ _ h=>h)).trans (am _ g 9 _) (fun _ _ h=>h)).trans (am _ g 10 _) (fun _ _ h=>h))
structure bw(w W:F)(y:Int):Prop where
 b0:W.1[w.1.size]?=C (N #[U Y 0,U Y 0,O I 0 0,U Y 0,U Y 0,U Y 0,O I 0 0,U Y 0,U Y 0,U Y 0,O I 0 0] 52 (0,0))
 b1:W.1[w.1.size+1]?=C (N #[U Y y] 25 (0,0))
 size:w.1.size+2<=W.1.size
 below:AC w.1.size w W
theorem fJ(w:F):bw w ((w.alloc (N #[U Y 0,U Y 0,O I 0 0,U Y 0,U Y 0,U Y 0,O I 0 0,U Y 0,U Y 0,U Y 0,O I 0 0] 52)).alloc (N #[U Y 0] 25)) 0 :=
 ⟨fw w _ _,pN w _ _,by simp,gQy.alloc (by simp) _⟩
theorem bw.on(h:bw w W y)(hb:AC W.1.size W W'):bw w W' y:=by
 have o:=h.size;exact⟨(hb.block _ (by omega)).trans h.b0,(hb.block _ (by omega)).trans h.b1,AT o hb.size,h.below.trans (hb.mono (by omega))⟩
theorem bw.step(h:bw w W y)(o:Aside (fun i=>i=R) W W')(D:w.1.size+2<=R):bw w W' y:=by
 have A:=h.size;exact⟨(o.block _ (by omega) (by omega)).trans h.b0,(o.block _ (by omega) (by omega)).trans h.b1,AT A o.size,h.below.trans (o.below (by omega) (fun k E=>by omega))⟩
theorem bw.setE(h:bw w W y)(A:Int):bw w (W.setCell ⟨w.1.size+1,0,I⟩ (U Y A)) A:=by
 have D:=h.size;have o:Aside (fun i=>i=w.1.size+1) W (W.setCell ⟨w.1.size+1,0,I⟩ (U Y A)):=am _ _ _ _;exact⟨(o.block _ (by omega) (by omega)).trans h.b0,ao h.b1 0 _,AT D o.size,h.below.trans (o.below (by omega) (fun k E=>by omega))⟩
theorem bw.drew(h:bw w W y):bw w W.drew y:=⟨h.b0,h.b1,h.size,h.below.drew⟩
theorem lu(k:Int)(w:F):(Instr.typeAssert (.iface 25 (U Y k)) 20 25 false).run AE w=.ok (U Y k) w:=by kernel_rfl
theorem gI(G A:Nat)(k:Int)(y:Int)(w:F)(o:w.1[G]?=C (N #[U Y 0,U Y 0,O I 0 0,U Y 0,U Y 0,U Y 0,O I 0 0,U Y 0,U Y 0,U Y 0,O I 0 0] 52 (0,0)))(D:w.1[A]?=C (N #[U Y y] 25 (0,0)))(M:G≠A):
  CallsD AE 51 #[qq (C ⟨G,0,I⟩),qq (C ⟨A,0,I⟩)] (.panicking [{ v:=.iface 25 (U Y k),recovered:=false }]) w fun e aj w'=>
   e=wv (qv #[])∧aj=.panicking [{ v:=.iface 25 (U Y k),recovered:=true }]∧w'.1[G]?=C (N #[U Y 0,U Y 0,O I 0 0,U Y 0,U Y 0,U Y 0,O I 0 0,U Y 0,U Y 0,U Y 0,O I 0 0] 52 (0,0))∧w'.1[A]?=C (N #[U Y k] 25 (0,0))∧Aside (fun i=>i=G∨i=A) w w':=by
 have ak:=lu k;have aw:w.cell? ⟨G,0,I⟩=C (U Y 0):=aa o 0;have bb:=ac o 0;have a0:w.cell? ⟨G,1,I⟩=C (U Y 0):=aa o 1;have bc:=ac o 1;have a2:w.cell? ⟨G,2,I⟩=C (O I 0 0):=aa o 2;have bi:=ac o 2;have a3:w.cell? ⟨G,3,I⟩=C (U Y 0):=aa o 3;have bj:=ac o 3;have a4:w.cell? ⟨G,4,I⟩=C (U Y 0):=aa o 4;have bk:=ac o 4;have a5:w.cell? ⟨G,5,I⟩=C (U Y 0):=aa o 5;have bl:=ac o 5;have a6:w.cell? ⟨G,6,I⟩=C (O I 0 0):=aa o 6;have bn:=ac o 6;have a7:w.cell? ⟨G,7,I⟩=C (U Y 0):=aa o 7;have bp:=ac o 7;have a8:w.cell? ⟨G,8,I⟩=C (U Y 0):=aa o 8;have bq:=ac o 8;have a9:w.cell? ⟨G,9,I⟩=C (U Y 0):=aa o 9;have bs:=ac o 9;have a1:w.cell? ⟨G,10,I⟩=C (O I 0 0):=aa o 10;have be:=ac o 10;have bv:w.cell? ⟨A,0,I⟩=C (U Y y):=aa D 0;have bN:=ac D 0;have ah:A≠G:=fun h=>M h.symm;obtain⟨W,E⟩:∃W,W=((((((((((((w.setCell ⟨G,0,I⟩ (U Y 0)).setCell ⟨G,1,I⟩ (U Y 0)).setCell ⟨G,2,I⟩ (O I 0 0)).setCell ⟨G,3,I⟩ (U Y 0)).setCell ⟨G,4,I⟩ (U Y 0)).setCell ⟨G,5,I⟩ (U Y 0)).setCell ⟨G,6,I⟩ (O I 0 0)).setCell ⟨G,7,I⟩ (U Y 0)).setCell ⟨G,8,I⟩ (U Y 0)).setCell ⟨G,9,I⟩ (U Y 0)).setCell ⟨G,10,I⟩ (O I 0 0)).setCell ⟨A,0,I⟩ (U Y k)).drew:=⟨_,rfl⟩
 have J:Aside (fun i=>i=G) w (((((((((((w.setCell ⟨G,0,I⟩ (U Y 0)).setCell ⟨G,1,I⟩ (U Y 0)).setCell ⟨G,2,I⟩ (O I 0 0)).setCell ⟨G,3,I⟩ (U Y 0)).setCell ⟨G,4,I⟩ (U Y 0)).setCell ⟨G,5,I⟩ (U Y 0)).setCell ⟨G,6,I⟩ (O I 0 0)).setCell ⟨G,7,I⟩ (U Y 0)).setCell ⟨G,8,I⟩ (U Y 0)).setCell ⟨G,9,I⟩ (U Y 0)).setCell ⟨G,10,I⟩ (O I 0 0)):=dh w G (U Y 0) (U Y 0) (O I 0 0) (U Y 0) (U Y 0) (U Y 0) (O I 0 0) (U Y 0) (U Y 0) (U Y 0) (O I 0 0);have K:(((((((((((w.setCell ⟨G,0,I⟩ (U Y 0)).setCell ⟨G,1,I⟩ (U Y 0)).setCell ⟨G,2,I⟩ (O I 0 0)).setCell ⟨G,3,I⟩ (U Y 0)).setCell ⟨G,4,I⟩ (U Y 0)).setCell ⟨G,5,I⟩ (U Y 0)).setCell ⟨G,6,I⟩ (O I 0 0)).setCell ⟨G,7,I⟩ (U Y 0)).setCell ⟨G,8,I⟩ (U Y 0)).setCell ⟨G,9,I⟩ (U Y 0)).setCell ⟨G,10,I⟩ (O I 0 0)).1[G]?=C (N #[U Y 0,U Y 0,O I 0 0,U Y 0,U Y 0,U Y 0,O I 0 0,U Y 0,U Y 0,U Y 0,O I 0 0] 52 (0,0)):=dR o (U Y 0) (U Y 0) (O I 0 0) (U Y 0) (U Y 0) (U Y 0) (O I 0 0) (U Y 0) (U Y 0) (U Y 0) (O I 0 0)
 have L:(((((((((((w.setCell ⟨G,0,I⟩ (U Y 0)).setCell ⟨G,1,I⟩ (U Y 0)).setCell ⟨G,2,I⟩ (O I 0 0)).setCell ⟨G,3,I⟩ (U Y 0)).setCell ⟨G,4,I⟩ (U Y 0)).setCell ⟨G,5,I⟩ (U Y 0)).setCell ⟨G,6,I⟩ (O I 0 0)).setCell ⟨G,7,I⟩ (U Y 0)).setCell ⟨G,8,I⟩ (U Y 0)).setCell ⟨G,9,I⟩ (U Y 0)).setCell ⟨G,10,I⟩ (O I 0 0)).1[A]?=C (N #[U Y y] 25 (0,0)):=(J.block A (ap D) ah).trans D;have Q:Hid (W.1[G]?=C (N #[U Y 0,U Y 0,O I 0 0,U Y 0,U Y 0,U Y 0,O I 0 0,U Y 0,U Y 0,U Y 0,O I 0 0] 52 (0,0))):=by
  show _=_;rw[E,dU];exact((am (((((((((((w.setCell ⟨G,0,I⟩ (U Y 0)).setCell ⟨G,1,I⟩ (U Y 0)).setCell ⟨G,2,I⟩ (O I 0 0)).setCell ⟨G,3,I⟩ (U Y 0)).setCell ⟨G,4,I⟩ (U Y 0)).setCell ⟨G,5,I⟩ (U Y 0)).setCell ⟨G,6,I⟩ (O I 0 0)).setCell ⟨G,7,I⟩ (U Y 0)).setCell ⟨G,8,I⟩ (U Y 0)).setCell ⟨G,9,I⟩ (U Y 0)).setCell ⟨G,10,I⟩ (O I 0 0)) A 0 (U Y k)).block G (ap K) M).trans K
 have S:Hid (W.1[A]?=C (N #[U Y k] 25 (0,0))):=by
  show _=_;rw[E,dU];exact ao L 0 _
 have V:Hid (Aside (fun i=>i=G∨i=A) w W):=by
  rw[E];exact((J.mono (fun _ _ h=>.inl h)).trans (am _ A 0 _) (fun _ _ h=>.inr h)).drew
 have X:Hid (((((((((((((w.setCell ⟨G,0,I⟩ (U Y 0)).setCell ⟨G,1,I⟩ (U Y 0)).setCell ⟨G,2,I⟩ (O I 0 0)).setCell ⟨G,3,I⟩ (U Y 0)).setCell ⟨G,4,I⟩ (U Y 0)).setCell ⟨G,5,I⟩ (U Y 0)).setCell ⟨G,6,I⟩ (O I 0 0)).setCell ⟨G,7,I⟩ (U Y 0)).setCell ⟨G,8,I⟩ (U Y 0)).setCell ⟨G,9,I⟩ (U Y 0)).setCell ⟨G,10,I⟩ (O I 0 0)).setCell ⟨A,0,I⟩ (U Y k)).drew=W):=by rw[E];exact rfl
 clear o D E J K L;refine callsD_of_wpS func51 rfl fun ab Z ai=>?_;apply wpS_seq;apply wpS_region;simp[wpOpsS,go_sem,recoverD,ai,ntmps51,Exit.thenS];refine wpS_of_wp ?_;go_wp2_with fail;go_region_law (fail)
 all_goals
  show bodyPostS AE Tryz.f51 ab Z _ Exit.normal _ _ _;rw[X.out];simp[bodyPostS,results,Tryz.results51];exact⟨Q.out,S.out,V.out⟩
theorem lY(p q:Addr)(w:F):
  CallsD AE 51 #[qq (C p),qq (C q)] .returning w fun e D w'=>e=wv (qv #[])∧D=.returning∧w'=w:=by
 refine callsD_of_wpS func51 rfl fun o E A=>?_;apply wpS_seq;apply wpS_region;simp[wpOpsS,go_sem,recoverD,A,ntmps51,Exit.thenS];refine wpS_of_wp ?_;go_wp2_with fail;cases o
 simp_all [bodyPostS,results,Tryz.results51]
end
end Go.Proofs.YtngmnfdaedlodaaGreatDoor
