import Derived.Test.YtngmnfdaedlodaaGreatDoorB30
import Derived.Test.YtngmnfdaedlodaaGreatDoorB27
set_option maxRecDepth 100000
set_option maxHeartbeats 2000000
namespace Go.Proofs.YtngmnfdaedlodaaGreatDoor
open Go.Proofs.Tryz
open Option renaming none->I,some->U
open Go.Value renaming int->Y,slice->pv,string->qj,float->sq,pointer->qq
open Go.IntKind renaming i64->O
open Go.Obj renaming cells->wx
open Go renaming World->AU
open Go.Proofs.Tryz renaming prog->AE
open Except renaming error->AQ
variable{A R m n:Nat}{w w':AU}{l:L8}{k:Int}{u:AV}{t:Ty}
section
open Go.RowKit
attribute [local go_sem] al
section
variable {L:L8}
theorem oF(l:L8)(A R:Nat)(w:AU)(p:OA)(n c:Nat)(h:aA L w A R l):Calls AE 210 #[qq (U ⟨R,0,I⟩),.agg #[Y O 3,pv p n c]] w (bJ L w A R l (Sch.scalar 3 l) (isV w)):=by
 have bi:=h.lt;obtain⟨W,a0⟩:∃W,W=(w.alloc (wx #[Y O 3,pv p n c] 99)).alloc (wx #[Y O 0,Y O 0,sq .f64 0,qj ⟨#[]⟩,pv I 0 0] 102):=⟨_,rfl⟩;have ab:Hid (ba L w W A R #[Y O 3,pv p n c] l):=by rw[a0];exact bh _ h
 have aw:=gQq a0;obtain⟨r,a6⟩:∃r,r=Sch.scalar 3 l:=⟨_,rfl⟩;have ah:=gQq (a6.trans (mL l));rw[<-a6];have D:=gQq (lk 8 l A R W ab.out.rd);clear h a6 a0;by_cases K:l.length<8
 ·have S:aT 8 l=AQ 30:=by rw[aT,AG K]
  have Q:Hid (r=AQ 30):=by show _=_;rw[ah.out,Sch.float,AG K];rfl
  rw[S] at D;clear S K ah;go_enter func210,ntmps210;go_wp2_with fail;rw[<-aw.out];refine D.out.mono ?_;intro e w1 X;obtain⟨a2,V⟩:=X.bad;subst a2;clear X;have bq:=gQq (ab.out.aside.trans V (fun _ _ h=>h));clear V D;go_wp2;rw[Q.out];exact⟨rfl,rfl,bq.out⟩
 ·have S:aT 8 l=.ok (l.take 8,8):=by rw[aT,AF K]
  have Q:Hid (r=if aH (Sch.un (l.take 8))=Sch.un (l.take 8) then .ok (.mk 3 0 (Sch.un (l.take 8)) ⟨#[]⟩ [],8) else AQ 5):=by
   show _=_;rw[ah.out,Sch.float,AF K];split
   ·rw[aI]
   ·rfl
  rw[S] at D;have a1:(l.take 8).length=8:=by rw[AM];omega
  obtain⟨b,hb⟩:∃b,b=l.take 8:=⟨_,rfl⟩;rw[<-hb] at D Q a1;have Z:=gQq a1;have bN:Hid (Sch.un (b.take 0)=0):=by show _=_;simp[Sch.un]
  clear S K ah hb a1;go_enter func210,ntmps210;go_wp2_with fail;rw[<-aw.out];refine D.out.mono ?_;intro e w1 X;obtain⟨v,a2,bn,bl,V⟩:=X.good;obtain⟨q,cc,b8,bj,-⟩:=bn.open;clear X bn;subst b8;subst a2;rw[Z.out];have o:=gQq (ab.out.step V bl bi);obtain⟨cb,cr,b7,-,bk⟩:=aP bj (by rw[Z.out];decide);subst b7;have bs:=gQq bk;clear V D bj bl bk ab aw;go_wp2_with fail;go_loop [5,12] (fun b9 a8=>∃(k m:Nat),k<=8∧a8=Y O k∧b9=Y .u64 m∧m<18446744073709551616∧Hid (m=Sch.un (b.take k))) (fun _ a8=>8-(intOf a8).toNat);case atStart=>exact⟨0,0,by omega,rfl,rfl,by omega,bN.out.symm⟩
  case round=>
   obtain⟨k,m,cj,rfl,rfl,co,J⟩:=hrel;by_cases b3:k<8
   ·have ck:(k:Int)<8:=(by omega);have a4:k<b.length:=(by rw[Z.out];exact b3);have bO:=bs.out k a4;have aj:=gp b k a4;have b5:=ei b (k+1) (by omega);obtain⟨x,a7⟩:∃x,x=b[k].toNat:=⟨_,rfl⟩;rw[<-a7] at bO aj;have cp:x<256:=(by rw[a7];exact b[k].toNat_lt);have a5:m+x*256 ^ k<18446744073709551616:=by
     rw[J.out,<-aj];have e:(256:Nat) ^ (k+1)<=256 ^ 8:=Nat.pow_le_pow_right (by decide) (by omega);have cd:(256:Nat) ^ 8=18446744073709551616:=(by decide);omega
    have b6:=mY m x k (by rw[J.out];exact ei b k (by omega)) a5;have M:Hid (m+x*256 ^ k=Sch.un (b.take (k+1))):=(by show _=_;rw[aj,J.out]);clear aj b5 a7 J a4;obtain⟨y,bp⟩:∃y,y=m+x*256 ^ k:=⟨_,rfl⟩;rw[<-bp] at b6 M a5;clear bp;go_wp2;go_round;case rel=>exact⟨k+1,y,by omega,by go_num,rfl,a5,M.out⟩
    case measure=>simp[intOf];omega
   ·have cn:¬(k:Int)<8:=(by omega);have b4:k=8:=(by omega);subst b4;have M:Hid (m=Sch.un b):=by
     show _=_;rw[J.out,List.take_of_length_le (by rw[Z.out];exact gQx)]
    clear J;have bc:=gQq (jq (m:Int));have be:((m:Int)).toNat=m:=(by omega);rw[be] at bc;have bb:=gQq (cN (aH m));rw[fu] at bb;have ai:Hid (r=if aH m=m then .ok (.mk 3 0 m ⟨#[]⟩ [],8) else AQ 5):=(by show _=_;rw[Q.out,M.out]);clear Q M be;have cq:w1.cell? ⟨w.1.size,0,I⟩=U (Y O 3):=aa o.out.b0 0;have cs:w1.cell? ⟨w.1.size+1,0,I⟩=U (Y O 0):=aa o.out.b1 0;have cx:w1.frozen? ⟨w.1.size+1,0,I⟩=false:=ac o.out.b1 0;have ct:w1.cell? ⟨w.1.size+1,1,I⟩=U (Y O 0):=aa o.out.b1 1;have cy:w1.frozen? ⟨w.1.size+1,1,I⟩=false:=ac o.out.b1 1;have cu:w1.cell? ⟨w.1.size+1,2,I⟩=U (sq .f64 0):=aa o.out.b1 2;have c5:w1.frozen? ⟨w.1.size+1,2,I⟩=false:=ac o.out.b1 2;have cv:w1.cell? ⟨w.1.size+1,3,I⟩=U (qj ⟨#[]⟩):=aa o.out.b1 3;have c6:w1.frozen? ⟨w.1.size+1,3,I⟩=false:=ac o.out.b1 3;have cw:w1.cell? ⟨w.1.size+1,4,I⟩=U (pv I 0 0):=aa o.out.b1 4;have c7:w1.frozen? ⟨w.1.size+1,4,I⟩=false:=ac o.out.b1 4;go_wp2_with fail;refine(bc.out _).mono ?_;rintro e E ⟨rfl,hw2⟩;rw[hw2];clear hw2 E;go_wp2_with fail;refine(bb.out _).mono ?_;rintro e E ⟨rfl,hw2⟩;rw[hw2];clear hw2 E;by_cases a3:aH m=m
    ·have ak:Hid (r=.ok (.mk 3 0 m ⟨#[]⟩ [],8)):=ai.out.trans (AG a3);have bv:=gQq (o.out.fin bi 3 0 m ⟨#[]⟩);rw[a3];clear ai;go_wp2_with fail;refine(dk _ 5 _).mono ?_;rintro e E ⟨rfl,hw2⟩;rw[hw2];clear hw2 E;go_wp2;obtain⟨f1,bT,bX,b2⟩:=bv.out;refine bodyPost_ret (v:=.agg (cells5 3 0 m ⟨#[]⟩ I 0 0)) (results_cell_row rfl _ _ (w.1.size+1) _ _ _ _ rfl f1 underlying102 rfl (by kernel_rfl)) rfl ?_;rw[ak.out];exact⟨_,rfl,bT,bX,b2⟩
    ·have ak:Hid (r=AQ 5):=ai.out.trans (AF a3);have ci:((aH m:Int)==(m:Int))=false:=bg (by omega);clear ai;go_wp2_with fail;refine(cO _ 5 _).mono ?_;rintro e E ⟨rfl,hw2⟩;rw[hw2];clear hw2 E;go_wp2;rw[ak.out];exact⟨rfl,rfl,o.out.aside⟩
end
end
section
open Go.RowKit
attribute [local go_sem] al
structure cf(w:AU)(R:Nat)(u:AV)(t:Ty):Prop where
 out:∃w0:AU,aN w0 u t∧Below w0.1.size w0 w∧w0.1.size<=R
theorem cf.aside(h:cf w R u t)(E:Aside (fun i=>i=R) w w'):cf w' R u t:=by
 obtain⟨w0,y,o,D⟩:=h.out;exact⟨w0,y,o.trans (E.below o.size (fun k K J=>by omega)),D⟩
theorem cf.on(h:cf w R u t)(hb:Below w.1.size w w'):cf w' R u t:=by
 obtain⟨w0,y,o,D⟩:=h.out;exact⟨w0,y,o.trans (hb.mono o.size),D⟩
theorem cf.one{x:Ty}(h:cf w R u (.mk k [x])):∃g y c k' q n' D,u=au k (U ⟨g,y,I⟩) 1 c∧cf w R (au k' q n' D) x∧g<R∧g<w.1.size∧w.cell? ⟨g,y,I⟩=U (Y O k')∧w.cell? ⟨g,y+1,I⟩=U (pv q n' D):=by
 obtain⟨w0,Q,E,S⟩:=h.out;obtain⟨p,c,rfl,-,-,ah⟩:=Q.open;obtain⟨a6,ab,hit⟩:=ah 0 (by simp);obtain⟨a0,a4,a2,a5,a3,c0,o,a1,-⟩:=hit.lies;obtain⟨bx,ak,ai,aw,aj,M,X,V,Z,J,K⟩:=(hit.on E).lies;subst X Z;injection o with o;injection o with e1 e2;subst e1 e2;refine⟨bx,ak,c,ai,aw,aj,M,rfl,⟨w0,ab,E,S⟩,by omega,V,by simpa using J,by simpa using K⟩
theorem cf.shape(h:cf w R u t):∃k p n c,u=au k p n c:=by
 obtain⟨w0,o,_⟩:=h.out;obtain⟨k,D⟩:=t;obtain⟨p,c,y,-⟩:=o.open;exact⟨k,p,_,c,y⟩
def gP(t:Ty):Prop:=∀(L l:L8) (A R:Nat) (w:AU) (u:AV),cf w R u t->aA L w A R l->Calls AE 186 #[qq (U ⟨R,0,I⟩),.agg u] w (bJ L w A R l (Sch.rdV t l) (isV w))
structure gS(L:L8)(w wr:AU)(A R:Nat)(u:AV)(t:Ty)(m:Nat)(l:L8)(r:Except Nat (List V×Nat))(ys:List V)(v:Value):Prop where
 built:∃us Fs,bd wr (w.1.size+1) v ys.length us Fs ys
 b0:wr.1[w.1.size]?=U (wx u 99 (0,0))
 far:cf w R u t
 left:∃n,aA L wr A R (l.drop n)∧r=glue ys n (Sch.rdN (Sch.rdV t) (m-ys.length) (l.drop n))
 aside:Aside (fun i=>i=R) w wr
 low:R<w.1.size
 size:w.1.size+1<=wr.1.size
 len:ys.length<=m
section
variable {L:L8}
theorem kg(o:cf w R u t)(h:aA L w A R l):gS L w (w.alloc (wx u 99)) A R u t m l (Sch.rdN (Sch.rdV t) m l) [] (pv I 0 0):=by
 have hb:Below w.1.size w (w.alloc (wx u 99)):=gQy;refine⟨⟨_,_,ir _ _⟩,an w _,o,⟨0,h.on hb,?_⟩,af hb _,h.lt,by simp,Nat.zero_le _⟩;rw[List.drop_zero,List.length_nil,Nat.sub_zero];cases Sch.rdN (Sch.rdV t) m l with
 |error e=>rfl
 |ok p=>simp[glue]
theorem gS.next{wr D w4:AU}{r:Except Nat (List V×Nat)}{o:List V}{v:Value}(h:gS L w wr A R u t m l r o v){us:Nat->AV}{ah:Nat->Nat->Prop}(X:bd wr (w.1.size+1) v o.length us ah o){n j:Nat}{x:V}{J:AV}(bj:o.length<m)(a2:r=glue o n (Sch.rdN (Sch.rdV t) (m-o.length) (l.drop n)))(bc:Sch.rdV t (l.drop n)=.ok (x,j))(M:Aside (fun i=>i=R) wr D)(a6:aY D (fun k=>wr.1.size<=k∧k<D.1.size) J x)(a8:aA L D A R ((l.drop n).drop j)):
  (D.alloc (wx J 102)).ownsRow (w.1.size+1) 102 5 v o.length (flat us o.length) ∧
  ∀g cap,w4.ownsRow (w.1.size+1) 102 5 (pv (U ⟨g,0,I⟩) (o.length+1) cap) (o.length+1) (flat us o.length++J.toList)->(D.alloc (wx J 102)).grownBy w4 v.ownBlock->(v.ownBlock=U g∨g=(D.alloc (wx J 102)).1.size) ->
   gS L w w4 A R u t m l r (o++[x]) (pv (U ⟨g,0,I⟩) (o.length+1) cap):=by
 have a9:=h.size;have a3:=h.low;have bk:=M.size;have Q:Below D.1.size D (D.alloc (wx J 102)):=gQy;have bl:=Q.size;obtain⟨bi,be,aj,ak⟩:=M.split (by omega);have Z:bd bi (w.1.size+1) v o.length us ah o:=X.aside be (fun g E a0=>by have:=(X.lt g E).1;omega) (fun i ai k y a0=>by have:=(X.range i ai k y).1;omega);refine⟨((Z.on ak).on Q).row,fun g cap a7 E a4=>?_⟩;have bb:=Z.step ak a6 (fun k y=>⟨by rw[aj];exact y.1,y.2⟩) Q (by rw[aj];exact a9) a7 E a4;have bn:=E.size;have ab:=fun k (y:v.ownBlock=U k)=>(Z.lt k y);have S:Aside (fun k=>v.ownBlock=U k) D w4:=(af Q _).trans (G:=fun k=>v.ownBlock=U k) ⟨E.os,E.tape,E.output,E.size,fun k y a1=>E.block k y (fun K=>a1 K.symm)⟩ (fun _ _ h=>h);have keep:∀k,k<=w.1.size->k≠R->w4.1[k]?=wr.1[k]?:=fun k y a5=>by
  rw[S.block k (by omega) (fun K=>by have:=(ab k K).1;omega),M.block k (by omega) a5]
 have aw:Aside (fun i=>i=R) w w4:=by
  refine(h.aside.trans M (fun _ _ h=>h)).trans S (fun i ai K=>?_);have:=(ab i K).1;omega
 refine⟨⟨_,_,by rw[AH,AO];exact bb⟩,(keep _ gQx (by omega)).trans h.b0,?_,⟨n+j,?_,?_⟩,aw,a3,by omega,by rw[AH,AO];omega⟩
 ·exact h.far
 ·rw[<-Ax];exact a8.aside S (fun k y=>by have:=(ab k y).1;omega)
 ·rw[a2,show m-o.length=(m-(o++[x]).length)+1 by rw[AH,AO];omega,gC,bc,qb,il,Ax]
theorem nz(t:Ty)(Z:gP t)(m:Nat)(ci:m<=256)(l:L8)(A R:Nat)(w:AU)(u:AV)(aj:cf w R u t)(h:aA L w A R l):Calls AE 220 #[qq (U ⟨R,0,I⟩),Y O m,.agg u] w (bJ L w A R l (Sch.rdN (Sch.rdV t) m l) (kM w)):=by
  obtain⟨bb,be,bc,c0,b3⟩:=aj.shape;have ai:=gQq (kg (m:=m) aj h);have bv:=gQq Z;have cd:=h.lt;obtain⟨r,a8⟩:∃r,r=Sch.rdN (Sch.rdV t) m l:=⟨_,rfl⟩;rw[<-a8] at ai ⊢;subst b3;unfold au at ai ⊢;clear a8 aj h Z;go_enter func220,ntmps220;go_wp2_with fail;go_loopw [7,9] (fun b9 aw wr=>∃(o:List V) (q:OA) (c:Nat),aw=Y O o.length∧b9=pv q o.length c∧o.length<=m∧Hid (gS L w wr A R #[Y O bb,pv be bc c0] t m l r o (pv q o.length c))) (fun _ aw _=>m-(intOf aw).toNat);case atStart=>exact⟨[],I,0,rfl,rfl,Nat.zero_le _,ai.out⟩
  case round=>
    obtain⟨o,q,c,rfl,rfl,cj,y⟩:=hrel;by_cases b1:o.length<m
    · have cb:(o.length:Int)<(m:Int):=(by omega);have bO:wr.cell? ⟨w.1.size,0,I⟩=U (Y O bb):=aa y.out.b0 0;have bT:wr.cell? ⟨w.1.size,1,I⟩=U (pv be bc c0):=aa y.out.b0 1;obtain⟨n,D,X⟩:=y.out.left;obtain⟨us,bi,M⟩:=y.out.built;have K:=gQq (bv.out L (l.drop n) A R wr _ (y.out.far.aside y.out.aside) D);have a2:=gQq X;have bj:=gQq M;obtain⟨b7,ak⟩:∃x,x=Sch.rdV t (l.drop n):=⟨_,rfl⟩;rw[<-ak] at K;have a0:=gQq ak;clear D X M ak;cases b7 with
      |error er=>
        have bq:Hid (r=AQ er):=by
          show _=_;rw[a2.out,show m-o.length=(m-o.length-1)+1 by omega,gC,<-a0.out];rfl
        go_wp2_with fail;refine K.out.mono ?_;intro e w1 S;obtain⟨Q,J⟩:=S.bad;subst Q;clear S;have ah:=gQq (y.out.aside.trans J (fun _ _ h=>h));clear J K;go_wp2;rw[bq.out];exact⟨rfl,rfl,ah.out⟩
      |ok xj=>
        obtain⟨x,j⟩:=xj;go_wp2_with fail;refine K.out.mono ?_;intro e ab S;obtain⟨v,Q,Z,D,J⟩:=S.good;obtain⟨ck,b5,E⟩:=Z.open;clear S Z;obtain⟨k',b6,bN,t',b8,n',bX,b4⟩:=E.shape;subst b4;subst b5;subst Q;unfold cells5 at E ⊢;have a1:=gQq (fun w4=>y.out.next (w4:=w4) bj.out b1 a2.out a0.out.symm J E D);have bn:=gQq E;have b2:w.1.size+1<=ab.1.size+1:=(by have:=y.out.size;have:=J.size;omega);clear J D E K bO bT
        go_wp2_with (first|(at_builtin;refine pY (B:=w.1.size+1) (us:=us) (v:=pv q o.length c) (n:=o.length) (a1.out ab).1 (u:=#[Y O k',Y O b6,sq .f64 bN,qj t',pv b8 n' bX]) rfl (zt bn.out) (ad:=ab.1.size) (an ab _) (by omega) (by simpa using b2) (H:=ab.1.size+1) (by simp) rfl rfl rfl rfl ?_;intro a4 a3 w4 a9 a5 a7;have bk:=gQq ((a1.out w4).2 a4 a3 a9 a5 (by simpa using a7));clear a9 a5 a7))
        go_roundw;case rel=>
          refine⟨o++[x],U ⟨a4,0,I⟩,a3,by simp,by simp,by simp;omega,?_⟩;have:=bk.out;rw[AH,AO];exact this
        case measure=>simp[intOf];omega
    · have cc:¬(o.length:Int)<(m:Int):=(by omega);have a6:m-o.length=0:=(by omega);obtain⟨n,D,X⟩:=y.out.left;obtain⟨us,bi,M⟩:=y.out.built;have bs:Hid (r=.ok (o,n)):=by
        show _=_;rw[X,a6,Sch.rdN,glue,Az,Nat.add_zero]
      have bl:Hid (kM w o (pv q o.length c) wr):=by
        refine⟨q,c,rfl,fun k=>?_⟩;obtain⟨p2,c2,Q,E⟩:=M.done (by omega) k 0 0 ⟨#[]⟩;injection Q with e1 e2 e3;subst e1 e3;exact E.mono (fun i b0=>⟨by omega,b0.2⟩)
      have bp:=gQq D;have ah:=gQq y.out.aside;clear D X M y a6;go_wp2;go_ret;rw[bs.out];exact⟨_,rfl,bl.out,bp.out,ah.out⟩
end
end
section
open Go.RowKit
attribute [local go_sem] al
section
variable {L:L8}
theorem bJ.undrew{E:Type}{w w':AU}{A R:Nat}{l:L8}{r:Except Nat (E×Nat)}{V:E->Value->AU->Prop}{e:Ending}(h:bJ L w.drew A R l r V e w'):bJ L w A R l r V e w':=by
 cases r with
 |error k=>
  obtain⟨D,o⟩:=h.bad;exact⟨D,⟨o.os,o.tape,o.output,o.size,o.block⟩⟩
 |ok aj=>
  obtain⟨a,j⟩:=aj;obtain⟨v,D,o,J,y⟩:=h.good;exact⟨v,D,o,J,⟨y.os,y.tape,y.output,y.size,y.block⟩⟩
theorem tg(x:Ty)(bv:gP x)(l:L8)(A R:Nat)(w:AU)(u:AV)(bk:cf w R u (.mk 6 [x]))(h:aA L w A R l):Calls AE 213 #[qq (U ⟨R,0,I⟩),.agg u] w (bJ L w A R l (Sch.rdV (.mk 6 [x]) l) (isV w)):=by
  have a1:=h.lt;obtain⟨g,ai,c,k',cn,n',b8,rfl,bl,cs,bp,b3,b4⟩:=bk.one;unfold au;obtain⟨W,a6⟩:∃W,W=(w.alloc (wx #[Y O 6,pv (U ⟨g,ai,I⟩) 1 c] 99)).alloc (wx #[Y O 0,Y O 0,sq .f64 0,qj ⟨#[]⟩,pv I 0 0] 102):=⟨_,rfl⟩;have D:Hid (ba L w W A R #[Y O 6,pv (U ⟨g,ai,I⟩) 1 c] l):=by rw[a6];exact bh _ h
  have a5:=gQq a6;obtain⟨r,a8⟩:∃r,r=Sch.rdV (.mk 6 [x]) l:=⟨_,rfl⟩;have be:=gQq (a8.trans (lv 6 (by omega) x l));rw[<-a8];have Z:Hid (r=ar (Sch.bit l) fun m j=>ar (Sch.rdN (Sch.rdV x) m (l.drop j)) fun V ah=>.ok (.mk 6 0 0 ⟨#[]⟩ V,j+ah)):=by show _=_;rw[be.out,tT]
  have ak:Hid (Calls AE 216 #[qq (U ⟨R,0,I⟩)] W.drew (bJ L W A R l (Sch.bit l) isI)):=(qC l A R W.drew D.out.rd.drew).mono fun _ _ h=>h.undrew;have bb:=gQq bl;have bi:=gQq bv
  -- the cells that are read,wherever only the reader has changed
  have a2:Hid (∀X,Aside (fun i=>i=R) W X->X.cell? ⟨w.1.size,0,I⟩=U (Y O 6)∧X.cell? ⟨w.1.size,1,I⟩=U (pv (U ⟨g,ai,I⟩) 1 c)∧X.cell? ⟨g,ai,I⟩=U (Y O k')∧X.cell? ⟨g,ai+1,I⟩=U (pv cn n' b8)):=fun X o=>by
    have cu:=D.out.size;have bn:g<W.1.size:=(by omega);refine⟨?_,?_,?_,?_⟩
    · rw[o.cell (show w.1.size<W.1.size by omega) (show ¬w.1.size=R by omega)];exact aa D.out.b0 0
    · rw[o.cell (show w.1.size<W.1.size by omega) (show ¬w.1.size=R by omega)];exact aa D.out.b0 1
    · rw[o.cell (show g<W.1.size from bn) (show ¬g=R by omega),D.out.aside.cell bp (show ¬g=R by omega)];exact b3
    · rw[o.cell (show g<W.1.size from bn) (show ¬g=R by omega),D.out.aside.cell bp (show ¬g=R by omega)];exact b4
  obtain⟨co,cp,cq,cr⟩:=a2.out W (Aside.refl _ _);have cy:W.cell? ⟨w.1.size+1,0,I⟩=U (Y O 0):=aa D.out.b1 0;have c9:W.frozen? ⟨w.1.size+1,0,I⟩=false:=ac D.out.b1 0;have c5:W.cell? ⟨w.1.size+1,1,I⟩=U (Y O 0):=aa D.out.b1 1;have df:W.frozen? ⟨w.1.size+1,1,I⟩=false:=ac D.out.b1 1;have c6:W.cell? ⟨w.1.size+1,2,I⟩=U (sq .f64 0):=aa D.out.b1 2;have dj:W.frozen? ⟨w.1.size+1,2,I⟩=false:=ac D.out.b1 2;have c7:W.cell? ⟨w.1.size+1,3,I⟩=U (qj ⟨#[]⟩):=aa D.out.b1 3;have dr:W.frozen? ⟨w.1.size+1,3,I⟩=false:=ac D.out.b1 3;have c8:W.cell? ⟨w.1.size+1,4,I⟩=U (pv I 0 0):=aa D.out.b1 4;have ds:W.frozen? ⟨w.1.size+1,4,I⟩=false:=ac D.out.b1 4;obtain⟨ck,a7⟩:∃m,m=Sch.bit l:=⟨_,rfl⟩;rw[<-a7] at Z ak;have bc:=gQq a7;clear a8 a7 h a6 bl bv b3 b4 bk be;cases ck with
  |error er=>
    have a3:Hid (∀y,Aside (fun i=>i=R) W y->bJ L w A R l r (isV w) (.panicked (dm er)) y):=fun y o=>by
      have e:r=AQ er:=Z.out;rw[e];exact⟨rfl,D.out.aside.trans o (fun _ _ h=>h)⟩
    clear Z;go_enter func213,ntmps213;go_wp2_with fail;rw[<-a5.out]
    go_region_law (first|(refine bU (.tmp 8) 283 (by rfl) (by rfl) (by rfl) func216 (by kernel_rfl) (by rfl) ak.out (fun e y J=>⟨_,J.bad.1,rfl,a3.out y J.bad.2⟩) (Y O 0) ?_;intro a0)|(refine bm a0 (pv I 0 0) ?_))
    all_goals exact a0.out.elim
  |ok mj=>
    obtain⟨m,j⟩:=mj;have ci:m<=256:=(by have:=(Sch.bit_ok bc.out.symm).1;omega);have ab:Hid (r=ar (Sch.rdN (Sch.rdV x) m (l.drop j)) fun V ah=>.ok (.mk 6 0 0 ⟨#[]⟩ V,j+ah)):=Z.out;have aw:=gQq (fun w1 (o:Aside (fun i=>i=R) W w1) (M:aA L w1 A R (l.drop j))=>nz x bi.out m ci (l.drop j) A R w1 _ ((bb.out.aside D.out.aside).aside o) M);unfold au at aw;obtain⟨a9,bq⟩:∃a9,a9=Sch.rdN (Sch.rdV x) m (l.drop j):=⟨_,rfl⟩;rw[<-bq] at ab aw;clear Z bq bc bi bb;cases a9 with
    |error er=>
      have a3:Hid (∀w1 y,Aside (fun i=>i=R) W w1->Aside (fun i=>i=R) w1 y->bJ L w A R l r (isV w) (.panicked (dm er)) y):=fun w1 y o cd=>by
        have e:r=AQ er:=ab.out;rw[e];exact⟨rfl,(D.out.aside.trans o (fun _ _ h=>h)).trans cd (fun _ _ h=>h)⟩
      clear ab;go_enter func213,ntmps213;go_wp2_with fail;rw[<-a5.out]
      go_region_law (first
        | (refine aO (.tmp 8) 283 (by rfl) (by rfl) (by rfl) func216 (by kernel_rfl) (by rfl) ak.out ?_;intro e w1 J;obtain⟨v,S,Q,M,o⟩:=J.good;clear J
           replace Q:v=Y O (m:Nat):=Q
           subst Q;refine⟨_,S,?_⟩;clear S;have aj:=gQq o;have a4:=gQq M;obtain⟨bO,bT,bX,b2⟩:=a2.out w1 o;have K:=gQq (D.out.step o M a1);have du:w1.cell? ⟨w.1.size+1,0,I⟩=U (Y O 0):=aa K.out.b1 0;have d3:w1.frozen? ⟨w.1.size+1,0,I⟩=false:=ac K.out.b1 0;have dv:w1.cell? ⟨w.1.size+1,1,I⟩=U (Y O 0):=aa K.out.b1 1;have d4:w1.frozen? ⟨w.1.size+1,1,I⟩=false:=ac K.out.b1 1;have d0:w1.cell? ⟨w.1.size+1,2,I⟩=U (sq .f64 0):=aa K.out.b1 2;have d5:w1.frozen? ⟨w.1.size+1,2,I⟩=false:=ac K.out.b1 2;have d1:w1.cell? ⟨w.1.size+1,3,I⟩=U (qj ⟨#[]⟩):=aa K.out.b1 3;have d6:w1.frozen? ⟨w.1.size+1,3,I⟩=false:=ac K.out.b1 3;have d2:w1.cell? ⟨w.1.size+1,4,I⟩=U (pv I 0 0):=aa K.out.b1 4;have d7:w1.frozen? ⟨w.1.size+1,4,I⟩=false:=ac K.out.b1 4;clear o M)
        | (refine cH (.tmp 7) (.tmp 9) (.tmp 13) 283 3 99 (by rfl) (by rfl) (by rfl) (by rfl) (by rfl) func220 (by kernel_rfl) (by rfl) (aw.out w1 aj.out a4.out) (fun e y J=>⟨_,J.bad.1,rfl,a3.out w1 y aj.out J.bad.2⟩) (pv I 0 0) ?_;intro a0))
      all_goals exact a0.out.elim
    |ok vj=>
      obtain⟨V,ah⟩:=vj;have b7:Hid (r=.ok (.mk 6 0 0 ⟨#[]⟩ V,j+ah)):=ab.out;clear ab;go_enter func213,ntmps213;go_wp2_with fail;rw[<-a5.out]
      go_region_law (first
        | (refine aO (.tmp 8) 283 (by rfl) (by rfl) (by rfl) func216 (by kernel_rfl) (by rfl) ak.out ?_;intro e w1 J;obtain⟨v,S,Q,M,o⟩:=J.good;clear J
           replace Q:v=Y O (m:Nat):=Q
           subst Q;refine⟨_,S,?_⟩;clear S;have aj:=gQq o;have a4:=gQq M;obtain⟨bO,bT,bX,b2⟩:=a2.out w1 o;have K:=gQq (D.out.step o M a1);clear o M)
        | (refine bS (.tmp 7) (.tmp 9) (.tmp 13) 283 3 99 (by rfl) (by rfl) (by rfl) (by rfl) (by rfl) func220 (by kernel_rfl) (by rfl) (aw.out w1 aj.out a4.out) ?_;intro e y J;obtain⟨v,S,Q,M,o⟩:=J.good;obtain⟨bN,bj,cj,bs⟩:=Q.open;clear J Q;subst cj;refine⟨_,S,?_⟩;clear S;have E:=gQq (K.out.step o M a1);have b6:=gQq bs;have cv:=K.out.size;have cw:=o.size;have cx:y.cell? ⟨w.1.size,0,I⟩=U (Y O 6):=aa E.out.b0 0;have d8:y.cell? ⟨w.1.size+1,0,I⟩=U (Y O 0):=aa E.out.b1 0;have eg:y.frozen? ⟨w.1.size+1,0,I⟩=false:=ac E.out.b1 0;have d9:y.cell? ⟨w.1.size+1,1,I⟩=U (Y O 0):=aa E.out.b1 1;have el:y.frozen? ⟨w.1.size+1,1,I⟩=false:=ac E.out.b1 1;have ea:y.cell? ⟨w.1.size+1,2,I⟩=U (sq .f64 0):=aa E.out.b1 2;have em:y.frozen? ⟨w.1.size+1,2,I⟩=false:=ac E.out.b1 2;have eb:y.cell? ⟨w.1.size+1,3,I⟩=U (qj ⟨#[]⟩):=aa E.out.b1 3;have en:y.frozen? ⟨w.1.size+1,3,I⟩=false:=ac E.out.b1 3;have ec:y.cell? ⟨w.1.size+1,4,I⟩=U (pv I 0 0):=aa E.out.b1 4;have ep:y.frozen? ⟨w.1.size+1,4,I⟩=false:=ac E.out.b1 4;clear o M bs))
      all_goals
        have b5:=gQq (jC (k:=6) (i:=0) (b:=0) (t:=⟨#[]⟩) (q:=bN) (n:=V.length) (c:=bj) (x:=.mk 6 0 0 ⟨#[]⟩ V) (N:=w.1.size+1) a1 (by omega) E.out.b1 (b6.out 6) (fun i ct=>⟨by omega,by omega⟩) E.out.rd E.out.aside);clear co cp cq cr bO bT bX b2;go_wp2;obtain⟨f1,b9,cb,cc⟩:=b5.out;refine bodyPost_ret (v:=.agg (cells5 6 0 0 ⟨#[]⟩ bN V.length bj)) (results_cell_row rfl _ _ (w.1.size+1) _ _ _ _ rfl f1 underlying102 rfl (by kernel_rfl)) rfl ?_;rw[b7.out];refine⟨_,rfl,b9,?_,cc⟩;rw[<-Ax];exact cb
theorem qX(x:Ty)(bp:gP x)(l:L8)(A R:Nat)(w:AU)(u:AV)(bc:cf w R u (.mk 7 [x]))(h:aA L w A R l):Calls AE 214 #[qq (U ⟨R,0,I⟩),.agg u] w (bJ L w A R l (Sch.rdV (.mk 7 [x]) l) (isV w)):=by
  have a0:=h.lt;obtain⟨g,aj,c,k',cc,n',b4,rfl,be,cd,bj,bs,bv⟩:=bc.one;unfold au;obtain⟨W,a1⟩:∃W,W=(w.alloc (wx #[Y O 7,pv (U ⟨g,aj,I⟩) 1 c] 99)).alloc (wx #[Y O 0,Y O 0,sq .f64 0,qj ⟨#[]⟩,pv I 0 0] 102):=⟨_,rfl⟩;have K:Hid (ba L w W A R #[Y O 7,pv (U ⟨g,aj,I⟩) 1 c] l):=by rw[a1];exact bh _ h
  have aw:=gQq a1;obtain⟨r,a3⟩:∃r,r=Sch.rdV (.mk 7 [x]) l:=⟨_,rfl⟩;have a8:=gQq (a3.trans (lv 7 (by omega) x l));rw[<-a3];have ah:Hid (r=ar (aR 256 3 l) fun m j=>ar (Sch.rdN (Sch.rdV x) m (l.drop j)) fun M ai=>.ok (.mk 7 0 0 ⟨#[]⟩ M,j+ai)):=by show _=_;rw[a8.out,tS]
  have ab:=gQq (nM 256 3 (by omega) l A R W K.out.rd);have a6:=gQq be;have a9:=gQq bp;have a5:Hid (∀S,Aside (fun i=>i=R) W S->S.cell? ⟨w.1.size,0,I⟩=U (Y O 7)∧S.cell? ⟨w.1.size,1,I⟩=U (pv (U ⟨g,aj,I⟩) 1 c)∧S.cell? ⟨g,aj,I⟩=U (Y O k')∧S.cell? ⟨g,aj+1,I⟩=U (pv cc n' b4)):=fun S o=>by
    have ci:=K.out.size;have bi:g<W.1.size:=(by omega);refine⟨?_,?_,?_,?_⟩
    · rw[o.cell (show w.1.size<W.1.size by omega) (show ¬w.1.size=R by omega)];exact aa K.out.b0 0
    · rw[o.cell (show w.1.size<W.1.size by omega) (show ¬w.1.size=R by omega)];exact aa K.out.b0 1
    · rw[o.cell (show g<W.1.size from bi) (show ¬g=R by omega),K.out.aside.cell bj (show ¬g=R by omega)];exact bs
    · rw[o.cell (show g<W.1.size from bi) (show ¬g=R by omega),K.out.aside.cell bj (show ¬g=R by omega)];exact bv
  obtain⟨cb,a2⟩:∃m,m=aR 256 3 l:=⟨_,rfl⟩;rw[<-a2] at ah ab;have a7:=gQq a2;clear a3 a2 h a1 be bp bs bv bc a8;cases cb with
  |error er=>
    have Q:Hid (r=AQ er):=ah.out;clear ah;go_enter func214,ntmps214;go_wp2_with fail;rw[<-aw.out];refine ab.out.mono ?_;intro e w1 J;obtain⟨V,o⟩:=J.bad;subst V;clear J;have bN:=gQq (K.out.aside.trans o (fun _ _ h=>h));clear o ab;go_wp2;rw[Q.out];exact⟨rfl,rfl,bN.out⟩
  |ok mj=>
    obtain⟨m,j⟩:=mj;have b8:m<=256:=count_le a7.out.symm;have Q:Hid (r=ar (Sch.rdN (Sch.rdV x) m (l.drop j)) fun M ai=>.ok (.mk 7 0 0 ⟨#[]⟩ M,j+ai)):=ah.out;clear ah a7;go_enter func214,ntmps214;go_wp2_with fail;rw[<-aw.out];refine ab.out.mono ?_;intro e w1 J;obtain⟨v,V,Z,X,o⟩:=J.good;clear J
    replace Z:v=Y O (m:Nat):=Z
    subst Z;subst V;obtain⟨du,dv,d0,d1⟩:=a5.out w1 o;have D:=gQq (K.out.step o X a0);have ak:=gQq (nz x a9.out m b8 (l.drop j) A R w1.drew _ (((a6.out.aside K.out.aside).aside o).on gQz.drew) X.drew);unfold au at ak;have co:w1.cell? ⟨w.1.size+1,0,I⟩=U (Y O 0):=aa D.out.b1 0;have ct:w1.frozen? ⟨w.1.size+1,0,I⟩=false:=ac D.out.b1 0;have cp:w1.cell? ⟨w.1.size+1,1,I⟩=U (Y O 0):=aa D.out.b1 1;have cu:w1.frozen? ⟨w.1.size+1,1,I⟩=false:=ac D.out.b1 1;have cq:w1.cell? ⟨w.1.size+1,2,I⟩=U (sq .f64 0):=aa D.out.b1 2;have cv:w1.frozen? ⟨w.1.size+1,2,I⟩=false:=ac D.out.b1 2;have cr:w1.cell? ⟨w.1.size+1,3,I⟩=U (qj ⟨#[]⟩):=aa D.out.b1 3;have cw:w1.frozen? ⟨w.1.size+1,3,I⟩=false:=ac D.out.b1 3;have cs:w1.cell? ⟨w.1.size+1,4,I⟩=U (pv I 0 0):=aa D.out.b1 4;have cx:w1.frozen? ⟨w.1.size+1,4,I⟩=false:=ac D.out.b1 4;clear o X ab aw a5 a6 a9;obtain⟨a4,bl⟩:∃a4,a4=Sch.rdN (Sch.rdV x) m (l.drop j):=⟨_,rfl⟩;rw[<-bl] at Q ak;clear bl;cases a4 with
    |error er=>
      have bO:Hid (r=AQ er):=Q.out;clear Q;go_wp2_with fail
      go_region_law (first|(refine cH (.tmp 10) (.tmp 11) (.tmp 15) 283 3 99 (by rfl) (by rfl) (by rfl) (by rfl) (by rfl) func220 (by kernel_rfl) (by rfl) ak.out (fun e E J=>⟨_,J.bad.1,rfl,by rw[bO.out];exact⟨rfl,D.out.aside.drew.trans J.bad.2 (fun _ _ h=>h)⟩⟩) (pv I 0 0) ?_;intro bT)|fail)
      all_goals exact bT.out.elim
    |ok vj=>
      obtain⟨M,ai⟩:=vj;have b3:Hid (r=.ok (.mk 7 0 0 ⟨#[]⟩ M,j+ai)):=Q.out;clear Q;go_wp2_with fail
      go_region_law (first|(refine bS (.tmp 10) (.tmp 11) (.tmp 15) 283 3 99 (by rfl) (by rfl) (by rfl) (by rfl) (by rfl) func220 (by kernel_rfl) (by rfl) ak.out ?_;intro e E J;obtain⟨v,V,Z,X,o⟩:=J.good;obtain⟨bq,bb,b9,bn⟩:=Z.open;clear J Z;subst b9;refine⟨_,V,?_⟩;clear V;have y:=gQq (D.out.drew.step o X a0);have b2:=gQq bn;have cj:=D.out.size;have ck:=o.size;have cn:E.cell? ⟨w.1.size,0,I⟩=U (Y O 7):=aa y.out.b0 0;have cy:E.cell? ⟨w.1.size+1,0,I⟩=U (Y O 0):=aa y.out.b1 0;have c9:E.frozen? ⟨w.1.size+1,0,I⟩=false:=ac y.out.b1 0;have c5:E.cell? ⟨w.1.size+1,1,I⟩=U (Y O 0):=aa y.out.b1 1;have df:E.frozen? ⟨w.1.size+1,1,I⟩=false:=ac y.out.b1 1;have c6:E.cell? ⟨w.1.size+1,2,I⟩=U (sq .f64 0):=aa y.out.b1 2;have dj:E.frozen? ⟨w.1.size+1,2,I⟩=false:=ac y.out.b1 2;have c7:E.cell? ⟨w.1.size+1,3,I⟩=U (qj ⟨#[]⟩):=aa y.out.b1 3;have dr:E.frozen? ⟨w.1.size+1,3,I⟩=false:=ac y.out.b1 3;have c8:E.cell? ⟨w.1.size+1,4,I⟩=U (pv I 0 0):=aa y.out.b1 4;have ds:E.frozen? ⟨w.1.size+1,4,I⟩=false:=ac y.out.b1 4;clear o X bn)|fail)
      all_goals
        have bX:=gQq (jC (k:=7) (i:=0) (b:=0) (t:=⟨#[]⟩) (q:=bq) (n:=M.length) (c:=bb) (x:=.mk 7 0 0 ⟨#[]⟩ M) (N:=w.1.size+1) a0 (by omega) y.out.b1 (b2.out 7) (fun i bk=>⟨by have:=bk.1;have:w1.drew.1.size=w1.1.size:=rfl;omega,bk.2⟩) y.out.rd y.out.aside);go_wp2;obtain⟨f1,b5,b6,b7⟩:=bX.out;refine bodyPost_ret (v:=.agg (cells5 7 0 0 ⟨#[]⟩ bq M.length bb)) (results_cell_row rfl _ _ (w.1.size+1) _ _ _ _ rfl f1 underlying102 rfl (by kernel_rfl)) rfl ?_;rw[b3.out];refine⟨_,rfl,b5,?_,b7⟩;rw[<-Ax];exact b6
end
end
section
open Go.RowKit
attribute [local go_sem] al
theorem pL{F:Nat->Prop}{i:Int}{b:Nat}{t:ByteArray}{p:OA}{c:Nat}{x:V}(h:aY w F #[Y O k,Y O i,sq .f64 b,qj t,pv p n c] x):aY w F (cells5 k i b t p n c) x:=h
section
variable {L:L8}
theorem cX(k:Nat)(f:FuncId)(bp:k<8)(aw:ku[k]?=U (.func (.func f) #[] #[]))(l:L8)(A R:Nat)(w:AU)(p:OA)(n c:Nat)(h:aA L w A R l)(Z:Except Nat (V×Nat))(ai:∀(args:AV) (w:AU),(callFunc f args).run AE w=.ok (.enter f args) w)(ak:∀w',Below w.1.size w w'->aA L w' A R l->Calls AE f #[qq (U ⟨R,0,I⟩),.agg #[Y O k,pv p n c]] w' (bJ L w' A R l Z (isV w'))):
    Calls AE 186 #[qq (U ⟨R,0,I⟩),.agg #[Y O k,pv p n c]] w (bJ L w A R l Z (isV w)):=by
  have aj:=h.lt;obtain⟨W,J⟩:∃W,W=(w.alloc (wx #[Y O k,pv p n c] 99)).alloc (wx #[Y O 0,Y O 0,sq .f64 0,qj ⟨#[]⟩,pv I 0 0] 102):=⟨_,rfl⟩;have o:Hid (ba L w W A R #[Y O k,pv p n c] l):=by rw[J];exact bh _ h
  have a2:Hid (Below w.1.size w W):=by rw[J];exact gQy.alloc (by simp) _
  obtain⟨T,bX,bl,a,M,-⟩:=o.out.rd.out;have c0:W.cell? ⟨R,0,I⟩=U (pv (U ⟨T,0,I⟩) 8 8):=aa M.b0 0;have bn:W.cell? ⟨T,k,I⟩=U (.func (.func f) #[] #[]):=(aa M.b1 k).trans aw;have bO:W.cell? ⟨w.1.size,0,I⟩=U (Y O k):=aa o.out.b0 0;have bT:W.cell? ⟨w.1.size,1,I⟩=U (pv p n c):=aa o.out.b0 1;have bq:(k:Int)<8:=by omega
  have ab:=gQq (ak W.drew a2.out.drew o.out.rd.drew);have ah:=gQq ai;have E:=gQq J;obtain⟨b2,b3,b4,b5,b6⟩:=cQ5 o.out.b1;have b7:=ac o.out.b1 0;have b8:=ac o.out.b1 1;have b9:=ac o.out.b1 2;have cb:=ac o.out.b1 3;have cc:=ac o.out.b1 4;clear h J ak ai M aw;cases Z with
  |error er=>
    go_enter func186,ntmps186;go_wp2_with fail;rw[<-E.out];clear E
    go_region_law (first|(refine lm (.tmp 12) (.tmp 13) (.tmp 14) 283 99 (by rfl) (by rfl) (by rfl) (by rfl) (by rfl) ah.out ab.out (fun e w1 D=>⟨_,D.bad.1,rfl,rfl,o.out.aside.drew.trans D.bad.2 (fun _ _ h=>h)⟩) (.agg #[Y O 0,Y O 0,sq .f64 0,qj ⟨#[]⟩,pv I 0 0]) ?_;intro a3)|fail)
    all_goals exact a3.out.elim
  |ok xj=>
    obtain⟨x,j⟩:=xj;go_enter func186,ntmps186;go_wp2_with fail;rw[<-E.out];clear E
    go_region_law (first|(refine iD (.tmp 12) (.tmp 13) (.tmp 14) 283 99 (by rfl) (by rfl) (by rfl) (by rfl) (by rfl) ah.out ab.out ?_;intro e w1 D;obtain⟨v,S,X,a1,Q⟩:=D.good;obtain⟨u,X,K⟩:=X.open;clear D;obtain⟨bi,be,a6,bk,bj,n9,a7,bc⟩:=K.shape;subst bc;subst X;unfold cells5 at S K;refine⟨_,S,?_⟩;clear S;have y:=gQq (o.out.drew.step Q a1 aj);have a5:=gQq K;have bv:=o.out.size;have bs:=Q.size;obtain⟨cd,ci,cj,ck,cn⟩:=cQ5 y.out.b1;have co:=ac y.out.b1 0;have cp:=ac y.out.b1 1;have cq:=ac y.out.b1 2;have cr:=ac y.out.b1 3;have cs:=ac y.out.b1 4;clear Q a1 K)|fail)
    all_goals
      have bN:W.drew.1.size=W.1.size:=rfl;have a4:=gQq (jC (N:=w.1.size+1) aj (by omega) y.out.b1 (pL a5.out) (fun i a0=>⟨by have:=a0.1;omega,a0.2⟩) y.out.rd y.out.aside);go_wp2;obtain⟨f1,a8,a9,bb⟩:=a4.out;refine bodyPost_ret (v:=.agg (cells5 bi be a6 bk bj n9 a7)) (results_cell_row rfl _ _ (w.1.size+1) _ _ _ _ rfl f1 underlying102 rfl (by kernel_rfl)) rfl ?_;exact⟨_,rfl,a8,a9,bb⟩
theorem xN:∀(t:Ty) (d:Nat),Ty.check d t=0->gP t:=by
 intro t;refine Ty.ind (P:=fun t=>∀(d:Nat),Ty.check d t=0->gP t) ?_ t;rintro k a1 ah d hd L l A R w u y o;obtain⟨aj,ak,Z⟩:=Sch.ty_open hd;rcases Z with ⟨K,rfl⟩ | ⟨K,J,rfl,ab⟩
 ·obtain⟨k',p,n,c,D⟩:=y.shape;have X:k'=k:=by
   obtain⟨w0,S,-⟩:=y.out;obtain⟨p2,c2,E,-⟩:=S.open;rw[D] at E;unfold au at E;simp only[Array.mk.injEq,List.cons.injEq,Value.int.injEq,true_and] at E;exact E.1
  subst X D;unfold au;have V:k'=1∨k'=2∨k'=3∨k'=4∨k'=5:=by omega
  have e:Sch.rdV (.mk k' []) l=Sch.scalar k' l:=by rw[Sch.rdV_mk,AG (by omega)]
  rw[e];rcases V with h | h | h | h | h <;> subst h
  ·exact cX 1 208 (by omega) rfl l A R w p n c o _ (enters func208 (by kernel_rfl) rfl) (fun w' _ h=>qZ l A R w' p n c h)
  ·exact cX 2 209 (by omega) rfl l A R w p n c o _ (enters func209 (by kernel_rfl) rfl) (fun w' _ h=>ti l A R w' p n c h)
  ·exact cX 3 210 (by omega) rfl l A R w p n c o _ (enters func210 (by kernel_rfl) rfl) (fun w' _ h=>oF l A R w' p n c h)
  ·exact cX 4 211 (by omega) rfl l A R w p n c o _ (enters func211 (by kernel_rfl) rfl) (fun w' _ h=>qW l A R w' p n c h)
  ·have Q:Sch.scalar 5 l=iq 5 l:=mH l;rw[Q];exact cX 5 212 (by omega) rfl l A R w p n c o _ (enters func212 (by kernel_rfl) rfl) (fun w' _ h=>jr 5 l A R w' p n c h)
 ·obtain⟨g,aw,c,k',a0,n',ai,D,-⟩:=y.one;have M:=ah J (by simp) (d+1) ab;subst D;unfold au at y ⊢;rcases K with h | h <;> subst h
  ·exact cX 6 213 (by omega) rfl l A R w _ _ c o _ (enters func213 (by kernel_rfl) rfl) (fun w' hb h=>tg J M l A R w' _ (y.on hb) h)
  ·exact cX 7 214 (by omega) rfl l A R w _ _ c o _ (enters func214 (by kernel_rfl) rfl) (fun w' hb h=>qX J M l A R w' _ (y.on hb) h)
end
end
section
open Go.RowKit
attribute [local go_sem] al
theorem eR(w:AU):Calls AE 201 #[] w fun e w'=>e=.returned (pv (U ⟨w.1.size,0,I⟩) 8 8)∧w'=w.alloc (wx ku 299):=by
 go_enter func201,ntmps201;go_wp2_with fail;go_ret;exact⟨rfl,rfl⟩
theorem aA.set{L:L8}{w:AU}(h:aA L w A R l){j:Nat}{C:AV}{ai:TypeId}{fr:Nat×Nat}(ab:w.1[j]?=U (wx C ai fr))(E:C.size≠8)(ak:j≠R)(aj:A<=j)(m:Nat)(u:Value):aA L (w.setCell ⟨j,m,I⟩ u) A R l:=by
 obtain⟨T,p,c,a,h1,J⟩:=h.out;have aw:T≠j:=by
  intro X;have:=h1.b1;rw[X,ab] at this;injection this with this;injection this with this;rw[this] at E;exact E rfl
 have y:Aside (fun i=>i=j) w (w.setCell ⟨j,m,I⟩ u):=am _ _ _ _;have M:=ap h1.b0;have Q:=ap h1.b1;refine⟨⟨T,p,c,a,⟨(y.block R M (by omega)).trans h1.b0,(y.block T Q (by omega)).trans h1.b1,?_,h1.cap,h1.far,h1.tab,h1.pos⟩,J⟩,h.small,h.low⟩;rcases h1.lies with K | ⟨b,o,rfl,hb,V⟩
 ·exact .inl K
 ·by_cases D:L=[]
  ·exact .inl D
  ·have S:=h1.far D _ rfl;refine .inr ⟨b,o,rfl,AS hb y.size,fun i Z=>?_⟩;rw[World.cell?_of_block (w:=w) (y.block b hb (by show ¬b=j;simp only at S;omega))];exact V i Z
def lg(w:AU)(A:Nat)(l:L8)(a:Int)(e:Ending)(w':AU):Prop :=
 if a<0∨(l.length:Int)<a then e=.panicked (dm 30)∧Below w.1.size w w'
 else e=.returned (qq (U ⟨w.1.size+1,0,I⟩))∧aA l w' A (w.1.size+1) (l.drop a.toNat)∧Below w.1.size w w'∧w.1.size+2<=w'.1.size
theorem qY(l:L8)(q:OA)(c:Nat)(a:Int)(A:Nat)(w:AU)(ak:l.length<=140737488351232)(aw:l.length<=c)(V:At w q l)(a1:A<=w.1.size)(X:l≠[]->∀d,q=U d->d.block<A)(a2:-9223372036854775808<=a)(a3:a<=9223372036854775807):
  Calls AE 185 #[pv q l.length c,Y O a] w (lg w A l a):=by
 obtain⟨W,D⟩:∃W,W=(w.alloc (wx ku 299)).alloc (wx #[pv (U ⟨w.1.size,0,I⟩) 8 8,pv q l.length c,Y O a] 287):=⟨_,rfl⟩;have E:Hid (Below w.1.size w W):=by rw[D];exact gQy.alloc (by simp) _
 have Z:W.1.size=w.1.size+2:=by rw[D];simp
 have M:W.1[w.1.size+1]?=U (wx #[pv (U ⟨w.1.size,0,I⟩) 8 8,pv q l.length c,Y O a] 287 (0,0)):=by
  have:=an (w.alloc (wx ku 299)) (wx #[pv (U ⟨w.1.size,0,I⟩) 8 8,pv q l.length c,Y O a] 287);rw[D];simpa using this
 have Q:W.1[w.1.size]?=U (wx ku 299 (0,0)):=by
  rw[D,ay _ _ (by simp)];exact an w _
 have J:Hid (¬(a<0∨(l.length:Int)<a)->aA l W A (w.1.size+1) (l.drop a.toNat)):=fun y=>by
  have ai:((a.toNat:Nat):Int)=a:=by omega
  exact⟨⟨w.1.size,q,c,a.toNat,⟨by rw[ai];exact M,Q,V.on E.out,aw,X,by omega,by omega⟩,rfl⟩,ak,by omega⟩
 have ah:=gQq Z;have K:=gQq D;clear D M Q V X Z;by_cases y:a<0∨(l.length:Int)<a
 ·have e:lg w A l a=fun e w'=>e=.panicked (dm 30)∧Below w.1.size w w':=by
   funext e w';unfold lg;rw[AG y]
  rw[e];clear e;by_cases a0:a<0
  ·have S:decide (0<=a)=false:=AP (by omega);clear y J;go_enter func185,ntmps185;go_wp2_with fail;refine(eR _).mono ?_;rintro e w1 ⟨rfl,o⟩;rw[o];clear o w1;go_wp2_with fail;rw[<-K.out];refine(cO _ 30 _).mono ?_;rintro e w1 ⟨rfl,o⟩;rw[o];clear o w1;go_wp2;exact⟨rfl,rfl,E.out⟩
  ·have S:decide (0<=a)=true:=AR (by omega);have aj:decide (a<=(l.length:Int))=false:=AP (by omega);clear y J;go_enter func185,ntmps185;go_wp2_with fail;refine(eR _).mono ?_;rintro e w1 ⟨rfl,o⟩;rw[o];clear o w1;go_wp2_with fail;rw[<-K.out];refine(cO _ 30 _).mono ?_;rintro e w1 ⟨rfl,o⟩;rw[o];clear o w1;go_wp2;exact⟨rfl,rfl,E.out⟩
 ·have e:lg w A l a=fun e w'=>e=.returned (qq (U ⟨w.1.size+1,0,I⟩))∧aA l w' A (w.1.size+1) (l.drop a.toNat)∧Below w.1.size w w'∧w.1.size+2<=w'.1.size:=by
   funext e w';unfold lg;rw[AF y]
  rw[e];clear e;have S:decide (0<=a)=true:=AR (by omega);have aj:decide (a<=(l.length:Int))=true:=AR (by omega);have ab:=gQq (J.out y);clear J y;go_enter func185,ntmps185;go_wp2_with fail;refine(eR _).mono ?_;rintro e w1 ⟨rfl,o⟩;rw[o];clear o w1;go_wp2_with fail;rw[<-K.out];refine(dk _ 30 _).mono ?_;rintro e w1 ⟨rfl,o⟩;rw[o];clear o w1;go_wp2;go_ret;exact⟨rfl,ab.out,E.out,by rw[ah.out];exact gQx⟩
def fa(w:AU)(g o:Nat)(k i:Int)(b:Nat)(t:ByteArray)(s:Value):World:=((((w.setCell ⟨g,o,I⟩ (Y O k)).setCell ⟨g,o+1,I⟩ (Y O i)).setCell ⟨g,o+2,I⟩ (sq .f64 b)).setCell ⟨g,o+3,I⟩ (qj t)).setCell ⟨g,o+4,I⟩ s
theorem nh(w:AU)(g o:Nat)(k i:Int)(b:Nat)(t:ByteArray)(s:Value):Aside (fun j=>j=g) w (fa w g o k i b t s):=by
 have y:Aside (fun j=>j=g) w (w.setCell ⟨g,o,I⟩ (Y O k)):=am _ _ _ _;have D:=y.trans (am _ g (o+1) (Y O i)) (fun _ _ h=>h);have E:=D.trans (am _ g (o+2) (sq .f64 b)) (fun _ _ h=>h);have J:=E.trans (am _ g (o+3) (qj t)) (fun _ _ h=>h);exact J.trans (am _ g (o+4) s) (fun _ _ h=>h)
theorem oT(w:AU)(g o:Nat)(k i:Int)(b:Nat)(t:ByteArray)(s:Value):(fa w g o k i b t s).1.size=w.1.size:=by simp[fa,World.setCell]
theorem oU{B g cap:Nat}{xs:List Value}{z0 z1 z2 z3 z4:Value}(E:xs.length=n*5)(h:w.ownsRow B 102 5 (pv (U ⟨g,0,I⟩) (n+1) cap) (n+1) (xs++[z0,z1,z2,z3,z4]))(k i:Int)(b:Nat)(t:ByteArray)(q:OA)(m c:Nat):
  (∀j,j<5->∃z,w.cell? ⟨g,n*5+j,I⟩=U z)∧(∀j,w.frozen? ⟨g,j,I⟩=false) ∧
  (fa w g (n*5) k i b t (pv q m c)).ownsRow B 102 5 (pv (U ⟨g,0,I⟩) (n+1) cap) (n+1) (xs++(cells5 k i b t q m c).toList):=by
 rcases h.2 with ⟨S,_⟩ | ⟨aw,ak,y,aj,hb,J,Z,V,ah,ai⟩
 ·cases S
 ·injection aj with hv1 _ hv2;injection hv1 with hv1;injection hv1 with hv1;subst hv1 hv2;have D:y.toList=xs++(z0::z1::z2::z3::z4::y.toList.drop ((n+1)*5)):=by
   have Q:=(List.take_append_drop ((n+1)*5) y.toList).symm;rw[ai,AN] at Q;exact Q
  obtain⟨C⟩:=y;simp only at D;obtain⟨rest,ab⟩:∃r,r=C.drop ((n+1)*5):=⟨_,rfl⟩;rw[<-ab] at D;have o:∀(K:List Value) (j:Nat) (v:Value),(xs++K).set (n*5+j) v=xs++K.set j v:=fun K j v=>by
   rw[<-E,List.set_append_right _ _ (by omega),Nat.add_sub_cancel_left]
  refine⟨fun j a0=>?_,fun j=>ac J j,?_,.inr ⟨g,cap,_,rfl,hb,ao (ao (ao (ao (ao J (n*5) (Y O k)) (n*5+1) (Y O i)) (n*5+2) (sq .f64 b)) (n*5+3) (qj t)) (n*5+4) (pv q m c),Z,V,by simpa using ah,?_⟩⟩
  ·have X:n*5+j<C.length:=(by rw[D,AH,E];simp;omega);exact⟨C[n*5+j],by rw[cell_of_row w g (n*5+j) ⟨C⟩ 102 (0,0) J];simp[X]⟩
  ·rw[AH,E];unfold cells5;simp;omega
  ·have M:=o (z0::z1::z2::z3::z4::rest) 0;simp only[Nat.add_zero] at M;simp only[Array.set!_eq_setIfInBounds,Array.toList_setIfInBounds];rw[D,M,o,o,o,o];unfold cells5;have e:(n+1)*5=xs.length+5:=(by rw[E];omega);rw[e,List.take_append,List.take_of_length_le (by omega),Nat.add_sub_cancel_left];simp
end
end Go.Proofs.YtngmnfdaedlodaaGreatDoor
