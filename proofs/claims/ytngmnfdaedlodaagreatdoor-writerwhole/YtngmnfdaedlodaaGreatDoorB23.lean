import Derived.Test.YtngmnfdaedlodaaGreatDoorB21
import Derived.Test.YtngmnfdaedlodaaGreatDoorB19
set_option maxRecDepth 100000
set_option maxHeartbeats 4000000
namespace Go.Proofs.YtngmnfdaedlodaaGreatDoor
open Go.Proofs.Tryz
open Go.Value renaming int->I,slice->O
open Go.IntKind renaming i64->U
open Option renaming none->Y,some->N
open Go.RowKit renaming Hid->C
open Go.Obj renaming cells->wx
open Go renaming World->AU
open Except renaming error->AQ
variable{A B R:Nat}{w w':AU}{l:L8}{u:AV}
section
open Go.RowKit
structure cz(w:AU)(A R:Nat)(l:L8):Prop where
 out:∃p c,w.1[R]?=N (wx #[O p l.length c] 112 (0,0))∧At w p l∧l.length<=c∧(l≠[]->∀a,p=N a->a.block<A)
 small:l.length<=2200
 low:A<=R
theorem cz.lt(h:cz w A R l):R<w.1.size:=by
 obtain⟨p,c,o,_⟩:=h.out;exact ap o
theorem cz.keep(h:cz w A R l)(y:∀k,k<=R->w'.1[k]?=w.1[k]?)(K:w.1.size<=w'.1.size):cz w' A R l:=by
 obtain⟨p,c,D,E,J,o⟩:=h.out;have M:=h.low;exact⟨⟨p,c,(y R gQx).trans D,E.keep o (fun k L=>y k (by omega)) K,J,o⟩,h.small,h.low⟩
theorem cz.on(h:cz w A R l)(hb:Below w.1.size w w'):cz w' A R l:=h.keep (fun k o=>hb.block k (by have:=h.lt;omega)) hb.size
theorem cz.aside{F:Nat->Prop}(h:cz w A R l)(o:Aside F w w')(y:∀k,F k->R<k):cz w' A R l :=
 h.keep (fun k E=>o.block k (by have:=h.lt;omega) (fun D=>by have:=y k D;omega)) o.size
theorem cz.drew(h:cz w A R l):cz w.drew A R l:=h.keep (fun _ _=>rfl) gQx
theorem cz.cut{p:OA}{c:Nat}(h:cz w A R l)(y:w.1[R]?=N (wx #[O p l.length c] 112 (0,0)))(D:At w p l)(E:l.length<=c)(J:l≠[]->∀a,p=N a->a.block<A)(n:Nat)(S:n<=l.length):
  cz (w.setCell ⟨R,0,Y⟩ (O (dp p n c) (l.length-n) (c-n))) A R (l.drop n):=by
 have L:=h.low;have o:l.drop n≠[]->∀a,dp p n c=N a->a.block<A:=fun M=>fY (J (fun K=>M (by rw[K];simp)));refine⟨⟨dp p n c,c-n,?_,?_,by rw[AL];omega,o⟩,by rw[AL];have:=h.small;omega,L⟩
 ·rw[ao y 0,AL];rfl
 ·refine(D.cut n c E).keep o (fun k Q=>?_) (by simp[World.setCell]);exact Below.heap_setCell _ _ _ _ (by show k≠R;omega)
def RdB{α:Type}(w:AU)(A R:Nat)(l:L8)(r:Except Nat (α×Nat))(V:α->Value->AU->Prop)(e:Ending)(w':AU):Prop:=match r with
 |AQ k=>e=.panicked (dm k)∧Aside (fun i=>i=R) w w'
 |.ok (a,j)=>∃v,e=.returned v∧V a v w'∧cz w' A R (l.drop j)∧Aside (fun i=>i=R) w w'
theorem RdB.good{o:Type}{w w':AU}{A R:Nat}{l:L8}{a:o}{j:Nat}{V:o->Value->AU->Prop}{e:Ending}(h:RdB w A R l (.ok (a,j)) V e w'):∃v,e=.returned v∧V a v w'∧cz w' A R (l.drop j)∧Aside (fun i=>i=R) w w':=h
theorem RdB.bad{o:Type}{w w':AU}{A R:Nat}{l:L8}{k:Nat}{V:o->Value->AU->Prop}{e:Ending}(h:RdB w A R l (AQ k) V e w'):e=.panicked (dm k)∧Aside (fun i=>i=R) w w':=h
theorem i6(a:Value)(k:Int)(w:AU):Calls Tryz.prog 103 #[a,.bool true,I U k] w fun e w'=>e=.returned (.tuple #[])∧w'=w:=by
 go_enter func103,ntmps103;go_wp2;go_end0;exact⟨rfl,rfl⟩
theorem gF(a:Value)(k:Nat)(w:AU):Calls Tryz.prog 103 #[a,.bool false,I U k] w fun e w'=>e=.panicked (dm k)∧w'=w:=by
 go_enter func103,ntmps103;go_wp2;exact⟨rfl,rfl,rfl⟩
theorem gE(D:Nat)(a1:D<=1099511627776)(l:L8)(A R:Nat)(w:AU)(h:cz w A R l):Calls Tryz.prog 102 #[.pointer (N ⟨R,0,Y⟩),I .u64 D] w (RdB w A R l (Fr.nb D l) isI):=by
 obtain⟨p,c,J,L,M,Q⟩:=h.out;have a3:=h.small;have c0:w.cell? ⟨R,0,Y⟩=N (O p l.length c):=aa J 0;have ak:=ac J 0;have y:=gQq (lJ p c l 0 (by omega) M w L);obtain⟨r,V⟩:∃r,r=Fr.nb D l:=⟨_,rfl⟩;have E:=gQq V;rw[<-V];clear V;cases hm:Sch.num l with
 |error er=>
  have K:C (r=AQ 5):=by show _=_;rw[E.out,Fr.nb,hm]
  obtain⟨ai,m,Z⟩:=kP hm;rw[Z] at y;have aw:((er:Int)==0)=false:=bg (by omega);clear hm E Z J L M Q h ai;go_enter func102,ntmps102;go_wp2_with fail;refine y.out.mono ?_;rintro e w1 ⟨rfl,o⟩;rw[o];clear o w1 y;go_wp2_with fail;refine(gF _ 5 _).mono ?_;rintro e w1 ⟨rfl,o⟩;rw[o];clear o w1;go_wp2;rw[K.out];exact⟨rfl,rfl,Aside.refl _ _⟩
 |ok nk=>
  obtain⟨n,k⟩:=nk;rw[nE hm] at y;obtain⟨S,a2⟩:=eY hm;have aj:=dC p l.length c k S w;have X:=gQq (h.cut J L M Q k S);by_cases ab:n<D
  ·have K:C (r=.ok (n,k)):=(by show _=_;rw[E.out,Fr.nb,hm];exact AG ab);have ah:(n:Int)<(D:Int):=(by omega);have a0:(n:Int)<=1099511627776:=(by omega);clear hm E J L M Q h S;go_enter func102,ntmps102;go_wp2_with fail;refine y.out.mono ?_;rintro e w1 ⟨rfl,o⟩;rw[o];clear o w1 y;go_wp2_with fail;refine(i6 _ 5 _).mono ?_;rintro e w1 ⟨rfl,o⟩;rw[o];clear o w1;go_wp2;go_ret;rw[K.out];exact⟨_,rfl,rfl,X.out,am _ _ _ _⟩
  ·have K:C (r=AQ 5):=(by show _=_;rw[E.out,Fr.nb,hm];exact AF ab);have ah:¬(n:Int)<(D:Int):=(by omega);clear hm E J L M Q h S aj X;go_enter func102,ntmps102;go_wp2_with fail;refine y.out.mono ?_;rintro e w1 ⟨rfl,o⟩;rw[o];clear o w1 y;go_wp2_with fail;refine(gF _ 5 _).mono ?_;rintro e w1 ⟨rfl,o⟩;rw[o];clear o w1;go_wp2;rw[K.out];exact⟨rfl,rfl,Aside.refl _ _⟩
theorem fb(l:L8)(A R:Nat)(w:AU)(h:cz w A R l):Calls Tryz.prog 104 #[.pointer (N ⟨R,0,Y⟩)] w (RdB w A R l (Fr.nb 1099511627776 l) isI):=by
 have o:=gQq (gE 1099511627776 (by omega) l A R w h);clear h;obtain⟨r,L⟩:∃r,r=Fr.nb 1099511627776 l:=⟨_,rfl⟩;rw[<-L] at o ⊢;clear L;cases r with
 |error er=>
  go_enter func104,ntmps104;go_wp2_with fail;refine o.out.mono ?_;intro e w1 D;obtain⟨J,y⟩:=D.bad;subst J;have E:=gQq y;clear D y o;go_wp2;exact⟨rfl,rfl,E.out⟩
 |ok nk=>
  obtain⟨n,k⟩:=nk;go_enter func104,ntmps104;go_wp2_with fail;refine o.out.mono ?_;intro e w1 D;obtain⟨v,J,K,M,y⟩:=D.good
  replace K:v=I U (n:Nat):=K
  subst K;subst J;have E:=gQq y;have Q:=gQq M;clear D y M o;go_wp2;go_ret;exact⟨_,rfl,rfl,Q.out,E.out⟩
end
section
open Go.RowKit
def ga(w:AU)(R:Nat)(r:Except Nat Fr)(V:Fr->Value->AU->Prop)(e:Ending)(w':AU):Prop:=match r with
 |AQ k=>e=.panicked (dm k)∧Aside (fun i=>i=R) w w'
 |.ok f=>∃v,e=.returned v∧V f v w'∧Aside (fun i=>i=R) w w'
def zI(B:Nat)(f:Fr)(v:Value)(w:AU):Prop:=∃sp sc,v=.agg #[I U f.number,O sp f.cols.length sc]∧dt w B #[O sp f.cols.length sc] f.cols
def zJ(B:Nat)(f:Fr)(v:Value)(w:AU):Prop:=∃bp bc,v=.agg #[I U f.number,I U f.seq,I U f.first,I U f.rows,O bp f.block.length bc]∧Has w B (O bp f.block.length bc) f.block
def uj(B:Nat)(f:Fr)(v:Value)(w:AU):Prop:=∃ep ec,v=.agg #[I U f.index.at_,I U f.index.frames,I U f.index.rows,O ep f.index.entries.length ec]∧bL w B (O ep f.index.entries.length ec) f.index.entries
theorem gY{W:AU}{s:List Col}{G:Nat->Prop}(h:dt w B u s)(Q:Aside G w W)(y:∀k,B<=k->k<w.1.size->¬G k):dt W B u s:=by
 obtain⟨v,us,K,L,o,M⟩:=h.out;exact⟨v,us,K,L,o.aside Q (fun g D=>y g (o.lt g D).1 (o.lt g D).2) (fun j E k J=>y k (o.range j E k J).1 (o.range j E k J).2),M⟩
theorem jl{B':Nat}{s:List Col}(h:dt w B u s)(J:B'<=B):dt w B' u s:=by
 obtain⟨v,us,o,y,D,E⟩:=h.out;exact⟨v,us,o,y,D.low J,E⟩
theorem j9(l:L8)(A R:Nat)(w:AU)(h:cz w A R l):Calls Tryz.prog 75 #[.pointer (N ⟨R,0,Y⟩)] w (ga w R (Fr.rdS l) (zI w.1.size)):=by
 obtain⟨w0,V⟩:∃w0,w0=w.alloc (wx #[I U 0,O Y 0 0] 143):=⟨_,rfl⟩;have cd:w0.1.size=w.1.size+1:=by rw[V];simp
 have a6:C (Below w.1.size w w0):=by rw[V];exact gQy
 have bs:C (w0.1[w.1.size]?=N (wx #[I U 0,O Y 0 0] 143 (0,0))):=by show _=_;rw[V];exact an w _
 have a7:C (w.alloc (wx #[I U 0,O Y 0 0] 143)=w0):=by rw[V];exact rfl
 have bT:=gQq (h.on a6.out);have b7:=h.lt;have M:=gQq (gE 2147483648 (by omega) l A R w0 bT.out);obtain⟨r,ak⟩:∃r,r=Fr.rdS l:=⟨_,rfl⟩
 have Z:C (r=match Fr.nb 2147483648 l with
  |AQ e=>AQ e
  |.ok (n,k)=>match Sch.read (l.drop k) with
   |AQ e=>AQ e
   |.ok s=>.ok { Fr0 with kind:=1,number:=n,cols:=s }):=ak
 rw[<-ak];have a5:C (Aside (fun i=>i=R) w w0):=af a6.out _;clear ak h V;cases hm:Fr.nb 2147483648 l with
 |error er=>
  rw[hm] at M;have E:C (r=AQ er):=by show _=_;rw[Z.out,hm]
  clear hm Z;go_enter func75,ntmps75;go_wp2_with fail;rw[a7.out];refine M.out.mono ?_;intro e w1 S;obtain⟨aj,J⟩:=S.bad;subst aj;have X:=gQq (a5.out.trans J (fun _ _ h=>h));clear S J M;go_wp2;rw[E.out];exact⟨rfl,rfl,X.out⟩
 |ok nk=>
  obtain⟨n,k⟩:=nk;rw[hm] at M
  have E:C (r=match Sch.read (l.drop k) with
   |AQ e=>AQ e
   |.ok s=>.ok { Fr0 with kind:=1,number:=n,cols:=s }):=by show _=_;rw[Z.out,hm]
  clear hm Z;go_enter func75,ntmps75;go_wp2_with fail;rw[a7.out];refine M.out.mono ?_;intro e w1 S;obtain⟨v,aj,a2,aw,J⟩:=S.good
  replace a2:v=I U (n:Nat):=a2
  subst a2;subst aj;have X:=gQq (a5.out.trans J (fun _ _ h=>h));obtain⟨bl,c1,bi,be,bj,-⟩:=aw.out;have b2:w1.cell? ⟨R,0,Y⟩=N (O bl (l.drop k).length c1):=aa bi 0;have cc:=aw.small;have bv:C (w1.1[w.1.size]?=N (wx #[I U 0,O Y 0 0] 143 (0,0))):=(J.block _ (by omega) (by omega)).trans bs.out;have b9:w.1.size+1<=w1.1.size:=by have:=J.size;omega
  have HD:=gQq (lN bl (l.drop k) c1 (by omega) bj w1 be);clear S J aw M bi be bj;obtain⟨L,bc⟩:∃L,L=(l.drop k).length:=⟨_,rfl⟩;rw[<-bc] at HD b2;clear bc;obtain⟨a4,a1⟩:∃a4,a4=Sch.read (l.drop k):=⟨_,rfl⟩;rw[<-a1] at HD E;have ai:=gQq a1;clear a1;cases a4 with
  |error er=>
   have ah:C (r=AQ er):=E.out;have b1:er≠0:=Sch.read_ne ai.out.symm;have b3:((er:Int)==0)=false:=bg (by omega);go_wp2_with fail;refine HD.out.mono ?_;rintro e K ⟨rfl,hb⟩;have bq:=gQq hb;have ab:C (∀o,Aside (fun i=>i=R) w (K.alloc o)):=fun o=>(X.out.trans (af hb (fun i=>i=R)) (fun _ _ h=>h)).alloc o;clear hb HD E b1 ai;go_wp2_with fail;refine(gF _ er _).mono ?_;rintro e w3 ⟨rfl,y⟩;rw[y];clear y w3;go_wp2;rw[ah.out];exact⟨rfl,rfl,ab.out _⟩
  |ok s=>
   have ah:C (r=.ok { Fr0 with kind:=1,number:=n,cols:=s }):=E.out;go_wp2_with fail;refine HD.out.mono ?_;rintro e K ⟨u,rfl,a0,hb⟩;have bb:K.1[w.1.size]?=N (wx #[I U 0,O Y 0 0] 143 (0,0)):=(hb.block _ (by omega)).trans bv.out;obtain⟨sp,D,rfl,-,-,-⟩:=a0.lies.out;have bX:=gQq a0;have bq:=gQq hb;have cb:=hb.size;have ab:=gQq (X.out.trans (af hb (fun i=>i=R)) (fun _ _ h=>h));obtain⟨w3,y⟩:∃w3,w3=K.alloc (wx #[O sp s.length D] 35):=⟨_,rfl⟩;have Q:w3.1[w.1.size]?=N (wx #[I U 0,O Y 0 0] 143 (0,0)):=(by rw[y,ay _ _ (by omega)];exact bb);have bN:=gQq Q;have ci:w3.cell? ⟨w.1.size,0,Y⟩=N (I U 0):=aa Q 0;have cj:w3.cell? ⟨w.1.size,1,Y⟩=N (O Y 0 0):=aa Q 1;have ck:=ac Q 0;have cn:=ac Q 1;have co:w3.cell? ⟨K.1.size,0,Y⟩=N (O sp s.length D):=(by rw[y];simp);have bp:C (Aside (fun i=>i=R) w w3):=(by rw[y];exact ab.out.alloc _);have bn:C (Aside (fun i=>i=w.1.size) K w3):=(by rw[y];exact(Aside.refl _ _).alloc _);have b0:C (K.alloc (wx #[O sp s.length D] 35)=w3):=(by rw[y];exact rfl);clear hb HD E ai a0 bb Q y;go_wp2_with fail;rw[b0.out];refine(i6 _ _ _).mono ?_;rintro e w4 ⟨rfl,bk⟩;rw[bk];clear bk w4;go_wp2;have bO:C (((w3.setCell ⟨w.1.size,0,Y⟩ (I U n)).setCell ⟨w.1.size,1,Y⟩ (O sp s.length D)).1[w.1.size]?=N (wx #[I U n,O sp s.length D] 143 (0,0))):=ao (ao bN.out 0 _) 1 _
   have a9:Aside (fun i=>i=w.1.size) w3 ((w3.setCell ⟨w.1.size,0,Y⟩ (I U n)).setCell ⟨w.1.size,1,Y⟩ (O sp s.length D)):=(am w3 w.1.size 0 _).trans (am _ w.1.size 1 _) (fun _ _ h=>h);refine bodyPost_ret (v:=.agg #[I U n,O sp s.length D]) (results_cell_row rfl _ _ w.1.size _ _ _ _ rfl bO.out underlying143 rfl (by kernel_rfl)) rfl ?_;rw[ah.out];refine⟨_,rfl,⟨sp,D,rfl,?_⟩,?_⟩
   ·exact jl (gY bX.out (bn.out.trans a9 (fun _ _ h=>h)) (fun k b4 b5 b6=>by omega)) (by omega)
   ·exact bp.out.trans a9 (fun i b8 h=>by omega)
end
section
open Go.RowKit
theorem zu(a b c d:Nat)(l:L8):Fr.nbs [a,b,c,d] l=ar (Fr.nb a l) fun x k=>ar (Fr.nb b (l.drop k)) fun D o=>ar (Fr.nb c ((l.drop k).drop o)) fun z y=>ar (Fr.nb d (((l.drop k).drop o).drop y)) fun t E=>.ok ([x,D,z,t],k+(o+(y+(E+0)))):=by
 unfold Fr.nbs;cases Fr.nb a l with
 |error e=>rfl
 |ok p=>
  obtain⟨x,k⟩:=p;dsimp only[ar];unfold Fr.nbs;cases Fr.nb b (l.drop k) with
  |error e=>rfl
  |ok p=>
   obtain⟨D,o⟩:=p;dsimp only[ar];unfold Fr.nbs;cases Fr.nb c ((l.drop k).drop o) with
   |error e=>rfl
   |ok p=>
    obtain⟨z,y⟩:=p;dsimp only[ar];unfold Fr.nbs;cases Fr.nb d (((l.drop k).drop o).drop y) with
    |error e=>rfl
    |ok p=>rfl
theorem xG(l:L8)(k o y D:Nat):l.drop (k+(o+(y+(D+0))))=(((l.drop k).drop o).drop y).drop D:=by
 rw[Ax,Ax,Ax,Nat.add_zero]
def zU(n q f r:Nat)(b:L8):Fr:={ Fr0 with kind:=2,number:=n,seq:=q,first:=f,rows:=r,block:=b }
theorem xW(l:L8):Fr.rdD l=ar (Fr.nb 2147483648 l) fun n k=>ar (Fr.nb 1099511627776 (l.drop k)) fun q o=>ar (Fr.nb 1099511627776 ((l.drop k).drop o)) fun f y=>ar (Fr.nb 65 (((l.drop k).drop o).drop y)) fun r D=>if r<1 then AQ 5 else .ok (zU n q f r ((((l.drop k).drop o).drop y).drop D)):=by
 unfold Fr.rdD;rw[zu];cases Fr.nb 2147483648 l with
 |error e=>rfl
 |ok p=>
  obtain⟨x,k⟩:=p;dsimp only[ar];cases Fr.nb 1099511627776 (l.drop k) with
  |error e=>rfl
  |ok p=>
   obtain⟨E,o⟩:=p;dsimp only[ar];cases Fr.nb 1099511627776 ((l.drop k).drop o) with
   |error e=>rfl
   |ok p=>
    obtain⟨z,y⟩:=p;dsimp only[ar];cases Fr.nb 65 (((l.drop k).drop o).drop y) with
    |error e=>rfl
    |ok p=>
     obtain⟨t,D⟩:=p;dsimp only[ar];rw[xG];rfl
theorem nL(l:L8)(A R:Nat)(w:AU)(h:cz w A R l):Calls Tryz.prog 76 #[.pointer (N ⟨R,0,Y⟩)] w (ga w R (Fr.rdD l) (zJ w.1.size)):=by
 obtain⟨w0,aw⟩:∃w0,w0=w.alloc (wx #[I U 0,I U 0,I U 0,I U 0,O Y 0 0] 145):=⟨_,rfl⟩;have d3:w0.1.size=w.1.size+1:=by rw[aw];simp
 have bj:C (Below w.1.size w w0):=by rw[aw];exact gQy
 have bn:C (w0.1[w.1.size]?=N (wx #[I U 0,I U 0,I U 0,I U 0,O Y 0 0] 145 (0,0))):=by show _=_;rw[aw];exact an w _
 have cq:C (w.alloc (wx #[I U 0,I U 0,I U 0,I U 0,O Y 0 0] 145)=w0):=by rw[aw];exact rfl
 have bv:=gQq (h.on bj.out);have dv:=h.lt;obtain⟨r,bb⟩:∃r,r=Fr.rdD l:=⟨_,rfl⟩;have ai:=gQq (bb.trans (xW l));rw[<-bb];have a3:C (Aside (fun i=>i=R) w w0):=af bj.out _;obtain⟨aj,bT⟩:∃aj,aj=l:=⟨_,rfl⟩;rw[<-bT] at bv ai;clear bb h aw bT;go_enter func76,ntmps76;have D:=gQq (gE 2147483648 (by omega) aj A R w0 bv.out);obtain⟨df,b5⟩:∃m,m=Fr.nb 2147483648 aj:=⟨_,rfl⟩;rw[<-b5] at D ai;clear b5;go_wp2_with fail;rw[cq.out];refine D.out.mono ?_;intro e w1 y;cases df with
 |error er=>
  have L:C (r=AQ er):=ai.out;obtain⟨E,o⟩:=y.bad;subst E;have Q:=gQq (a3.out.trans o (fun _ _ h=>h));clear y o D;go_wp2;rw[L.out];exact⟨rfl,rfl,Q.out⟩
 |ok nk=>
  obtain⟨n,c6⟩:=nk;obtain⟨v,E,K,J,o⟩:=y.good
  replace K:v=I U (n:Nat):=K
  subst K;subst E;have a4:=gQq (a3.out.trans o (fun _ _ h=>h));have bp:C (w1.1[w.1.size]?=N (wx #[I U 0,I U 0,I U 0,I U 0,O Y 0 0] 145 (0,0))):=(o.block _ (by omega) (by omega)).trans bn.out;have d4:w.1.size+1<=w1.1.size:=by have:=o.size;omega
  have X:=gQq (show r=_ from ai.out);dsimp only[ar] at X;obtain⟨a7,bX⟩:∃S,S=aj.drop c6:=⟨_,rfl⟩;rw[<-bX] at X J;have ck:=gQq J;clear y o J D bX ai a3 bn;have D:=gQq (fb a7 A R w1 ck.out);obtain⟨dj,b6⟩:∃m,m=Fr.nb 1099511627776 a7:=⟨_,rfl⟩;rw[<-b6] at D X;clear b6;go_wp2_with fail;refine D.out.mono ?_;intro e bc y;cases dj with
  |error er=>
   have L:C (r=AQ er):=X.out;obtain⟨E,o⟩:=y.bad;subst E;have Q:=gQq (a4.out.trans o (fun _ _ h=>h));clear y o D;go_wp2;rw[L.out];exact⟨rfl,rfl,Q.out⟩
  |ok nk=>
   obtain⟨q,c7⟩:=nk;obtain⟨v,E,K,J,o⟩:=y.good
   replace K:v=I U (q:Nat):=K
   subst K;subst E;have a5:=gQq (a4.out.trans o (fun _ _ h=>h));have bq:C (bc.1[w.1.size]?=N (wx #[I U 0,I U 0,I U 0,I U 0,O Y 0 0] 145 (0,0))):=(o.block _ (by omega) (by omega)).trans bp.out;have d5:w.1.size+1<=bc.1.size:=(by have:=o.size;omega);have Z:=gQq (show r=_ from X.out);dsimp only[ar] at Z;obtain⟨a8,b0⟩:∃S,S=a7.drop c7:=⟨_,rfl⟩;rw[<-b0] at Z J;have cn:=gQq J;clear y o J D b0 X a4 bp;have D:=gQq (fb a8 A R bc cn.out);obtain⟨dr,b7⟩:∃m,m=Fr.nb 1099511627776 a8:=⟨_,rfl⟩;rw[<-b7] at D Z;clear b7;go_wp2_with fail;refine D.out.mono ?_;intro e be y;cases dr with
   |error er=>
    have L:C (r=AQ er):=Z.out;obtain⟨E,o⟩:=y.bad;subst E;have Q:=gQq (a5.out.trans o (fun _ _ h=>h));clear y o D;go_wp2;rw[L.out];exact⟨rfl,rfl,Q.out⟩
   |ok nk=>
    obtain⟨f,c8⟩:=nk;obtain⟨v,E,K,J,o⟩:=y.good
    replace K:v=I U (f:Nat):=K
    subst K;subst E;have a6:=gQq (a5.out.trans o (fun _ _ h=>h));have bs:C (be.1[w.1.size]?=N (wx #[I U 0,I U 0,I U 0,I U 0,O Y 0 0] 145 (0,0))):=(o.block _ (by omega) (by omega)).trans bq.out;have d6:w.1.size+1<=be.1.size:=(by have:=o.size;omega);have ab:=gQq (show r=_ from Z.out);dsimp only[ar] at ab;obtain⟨a9,b1⟩:∃S,S=a8.drop c8:=⟨_,rfl⟩;rw[<-b1] at ab J;have co:=gQq J;clear y o J D b1 Z a5 bq;have D:=gQq (gE 65 (by omega) a9 A R be co.out);obtain⟨ds,b8⟩:∃m,m=Fr.nb 65 a9:=⟨_,rfl⟩;rw[<-b8] at D ab;clear b8;go_wp2_with fail;refine D.out.mono ?_;intro e w4 y;cases ds with
    |error er=>
     have L:C (r=AQ er):=ab.out;obtain⟨E,o⟩:=y.bad;subst E;have Q:=gQq (a6.out.trans o (fun _ _ h=>h));clear y o D;go_wp2;rw[L.out];exact⟨rfl,rfl,Q.out⟩
    |ok nk=>
     obtain⟨t,c9⟩:=nk;obtain⟨v,E,K,J,o⟩:=y.good
     replace K:v=I U (t:Nat):=K
     subst K;subst E;have bi:=gQq (a6.out.trans o (fun _ _ h=>h));have cd:C (w4.1[w.1.size]?=N (wx #[I U 0,I U 0,I U 0,I U 0,O Y 0 0] 145 (0,0))):=(o.block _ (by omega) (by omega)).trans bs.out;have d7:w.1.size+1<=w4.1.size:=(by have:=o.size;omega);have ah:=gQq (show r=_ from ab.out);dsimp only[ar] at ah;obtain⟨V,b2⟩:∃S,S=a9.drop c9:=⟨_,rfl⟩;rw[<-b2] at ah J;have bN:=gQq J;clear y o J D b2 ab a6 bs;obtain⟨b9,c1,b4,b3,cy,-⟩:=bN.out.out;have d8:w4.cell? ⟨R,0,Y⟩=N (O b9 V.length c1):=aa b4 0;have d2:=bN.out.small;have cc:=gQq b3;clear b4 b3 cy;by_cases a2:t<1
     ·have L:C (r=AQ 5):=ah.out.trans (AG a2);have cx:t=0:=(by omega);subst cx;clear ah a2;go_wp2_with fail;refine(gF _ 5 _).mono ?_;rintro e w5 ⟨rfl,a0⟩;rw[a0];clear a0 w5;go_wp2;rw[L.out];exact⟨rfl,rfl,bi.out⟩
     ·have cp:C (r=.ok (zU n q f t V)):=ah.out.trans (AF a2);have cw:0<t:=(by omega);have du:decide (0<t)=true:=AR cw;have bk:=gQq (yQ b9 c1 V (by omega) w4 cc.out);clear ah a2;go_wp2_with fail;refine(i6 _ 5 _).mono ?_;rintro e w5 ⟨rfl,a0⟩;rw[a0];clear a0 w5;go_wp2_with fail;refine bk.out.mono ?_;rintro e w5 ⟨a1,ak,rfl,y,hb⟩;have M:w5.1[w.1.size]?=N (wx #[I U 0,I U 0,I U 0,I U 0,O Y 0 0] 145 (0,0)):=(hb.block _ (by omega)).trans cd.out;have ci:=gQq M;obtain⟨d9,ea,eb,ec,eg⟩:=cQ5 M;have el:=ac M 0;have em:=ac M 1;have en:=ac M 2;have ep:=ac M 3;have eq:=ac M 4;have bl:=gQq y;have cb:=gQq (bi.out.trans (af hb (fun i=>i=R)) (fun _ _ h=>h));clear M y hb bk;go_wp2;have cr:(w5.setCell ⟨w.1.size,0,Y⟩ (I U n)).1[w.1.size]?=N (wx #[I U n,I U 0,I U 0,I U 0,O Y 0 0] 145 (0,0)):=ao ci.out 0 _;have cs:((w5.setCell ⟨w.1.size,0,Y⟩ (I U n)).setCell ⟨w.1.size,1,Y⟩ (I U q)).1[w.1.size]?=N (wx #[I U n,I U q,I U 0,I U 0,O Y 0 0] 145 (0,0)):=ao cr 1 _;have ct:(((w5.setCell ⟨w.1.size,0,Y⟩ (I U n)).setCell ⟨w.1.size,1,Y⟩ (I U q)).setCell ⟨w.1.size,2,Y⟩ (I U f)).1[w.1.size]?=N (wx #[I U n,I U q,I U f,I U 0,O Y 0 0] 145 (0,0)):=ao cs 2 _
      have cu:((((w5.setCell ⟨w.1.size,0,Y⟩ (I U n)).setCell ⟨w.1.size,1,Y⟩ (I U q)).setCell ⟨w.1.size,2,Y⟩ (I U f)).setCell ⟨w.1.size,3,Y⟩ (I U t)).1[w.1.size]?=N (wx #[I U n,I U q,I U f,I U t,O Y 0 0] 145 (0,0)):=ao ct 3 _;have cv:(((((w5.setCell ⟨w.1.size,0,Y⟩ (I U n)).setCell ⟨w.1.size,1,Y⟩ (I U q)).setCell ⟨w.1.size,2,Y⟩ (I U f)).setCell ⟨w.1.size,3,Y⟩ (I U t)).setCell ⟨w.1.size,4,Y⟩ (O a1 V.length ak)).1[w.1.size]?=N (wx #[I U n,I U q,I U f,I U t,O a1 V.length ak] 145 (0,0)):=ao cu 4 _;have cj:=gQq cv;have bO:Aside (fun i=>i=w.1.size) w5 (((((w5.setCell ⟨w.1.size,0,Y⟩ (I U n)).setCell ⟨w.1.size,1,Y⟩ (I U q)).setCell ⟨w.1.size,2,Y⟩ (I U f)).setCell ⟨w.1.size,3,Y⟩ (I U t)).setCell ⟨w.1.size,4,Y⟩ (O a1 V.length ak)):=((((am w5 w.1.size 0 _).trans (am _ w.1.size 1 _) (fun _ _ h=>h)).trans (am _ w.1.size 2 _) (fun _ _ h=>h)).trans (am _ w.1.size 3 _) (fun _ _ h=>h)).trans (am _ w.1.size 4 _) (fun _ _ h=>h);refine bodyPost_ret (v:=.agg #[I U n,I U q,I U f,I U t,O a1 V.length ak]) (results_cell_row rfl _ _ w.1.size _ _ _ _ rfl cj.out underlying145 rfl (by kernel_rfl)) rfl ?_;rw[cp.out];refine⟨_,rfl,⟨a1,ak,rfl,?_⟩,?_⟩
      ·exact(bl.out.aside bO (fun k c5 d0=>by have:=(bl.out.lt k c5).1;omega)).lower (by omega)
      ·exact cb.out.trans bO (fun i d1 h=>by omega)
end
end Go.Proofs.YtngmnfdaedlodaaGreatDoor
