import Derived.Test.YtngmnfdaedlodaaGreatDoorB41
import Derived.Test.YtngmnfdaedlodaaGreatDoorB20
set_option maxRecDepth 100000
set_option maxHeartbeats 4000000
namespace Go.Proofs.YtngmnfdaedlodaaGreatDoor
open Go.Proofs.Tryz
open Option renaming some->I,none->Y
open Go.Value renaming slice->U,int->O,pointer->qq
open Go.IntKind renaming i64->C
open Go.Obj renaming cells->F
open Or renaming inl->N
open Go.Ending renaming returned->wv
open Go.Proofs.Tryz renaming prog->AE
variable{c:Nat}{w:World}{l xs:L8}{v:Value}{p:OA}
section
open Go.RowKit
attribute [local go_sem] bf bo
theorem qt(q:Nat)(h:q<=1048576)(w:World):Calls AE 7 #[O C q] w fun e w'=>e=wv (.tuple #[qq (I ⟨w.1.size,0,Y⟩),O C 0])∧ax w' w.1.size w.1.size (U Y 0 0) (Dv.new q) 0 0∧Below w.1.size w w':=by
 have y:Hid (ax (w.alloc (F (aJ (U Y 0 0) (Dv.new q) 0 0 .nilFunc) 70)) w.1.size w.1.size (U Y 0 0) (Dv.new q) 0 0) :=
  ⟨aV w _,bG _ _,gQx,fun _=>⟨rfl,rfl⟩,by omega,by omega⟩
 have o:Hid (Below w.1.size w (w.alloc (F (aJ (U Y 0 0) (Dv.new q) 0 0 .nilFunc) 70))):=gQy;have A:(q:Int)<=1048576:=by omega
 have D:decide ((q:Int)<0)=false:=AP (by omega);go_enter func7,ntmps7;go_wp2;go_ret2;exact⟨rfl,y.out,o.out⟩
section
variable {B g:Nat} {v:Value} {s:Dv.St} {x k:Nat} {w:World}
theorem xC(h:ax w B g v s x k)(a n:Int)(b4:-9223372036854775808<=a)(b5:a<=9223372036854775807)(ck:n<=9223372036854775807)(cd:s.b.length<=2097152)(co:s.told+s.b.length<=9223372036854775807):
  Calls AE 48 #[qq (I ⟨g,0,Y⟩),O C a,O C n] w fun e w'=>∃q cap,e=wv (.tuple #[U q (Dv.read s a n).1.length cap,O C ((Dv.read s a n).2.1:Nat)])∧Has w' w.1.size (U q (Dv.read s a n).1.length cap) (Dv.read s a n).1∧ax w' B g v (Dv.read s a n).2.2 x k∧Aside (fun k=>k=g) w w':=by
 have c0:w.cell? ⟨g,0,Y⟩=I v:=h.cell 0;have a4:=gQq h;obtain⟨p,cap,a3,ak,b8⟩:=h.has.at;subst a3;by_cases V:a<0∨(s.b.length:Int)<a∨n<0
 ·have M:Hid (Dv.read s a n=([],7,s)):=by show _=_;unfold Dv.read;rw[AG V]
  clear h ak;have bc:∃q Z,wv (.tuple #[U Y 0 0,O C 7])=wv (.tuple #[U q (Dv.read s a n).1.length Z,O C ((Dv.read s a n).2.1:Nat)])∧Has w w.1.size (U q (Dv.read s a n).1.length Z) (Dv.read s a n).1∧ax w B g (U p s.b.length cap) (Dv.read s a n).2.2 x k∧Aside (fun k=>k=g) w w:=by
   rw[M.out];exact⟨Y,0,rfl,bG _ _,a4.out,Aside.refl _ _⟩
  have A:=gQq bc;clear bc M;by_cases a6:a<0
  ·clear V;have a8:decide (a<0)=true:=AR a6;go_enter func48,ntmps48;go_wp2;go_ret2;exact A.out
  ·have a8:decide (a<0)=false:=AP a6;by_cases bN:(s.b.length:Int)<a
   ·clear V;go_enter func48,ntmps48;go_wp2;go_ret2;exact A.out
   ·have b3:n<0:=(by omega);have a9:decide ((s.b.length:Int)<a)=false:=AP bN;clear V;go_enter func48,ntmps48;go_wp2;go_ret2;exact A.out
 ·obtain⟨i,rfl⟩:∃i:Nat,a=(i:Int):=⟨a.toNat,by omega⟩;obtain⟨m,rfl⟩:∃m:Nat,n=(m:Int):=⟨n.toNat,by omega⟩;have be:i<=s.b.length:=by omega
  obtain⟨o,J⟩:∃o,o=(s.b.drop i).take m:=⟨_,rfl⟩;have M:Hid (Dv.read s i m=(o,0,{ s with told:=s.told+o.length })):=by show _=_;unfold Dv.read;rw[AF V,J];rfl
  have aw:o.length=min m (s.b.length-i):=by rw[J,AM,AL]
  have a8:decide ((i:Int)<0)=false:=AP (by omega);have a9:decide (s.b.length<i)=false:=AP (by omega);have b6:decide ((m:Int)<0)=false:=AP (by omega);have cb:=h.lt;clear V;have c3:w.cell? ⟨g,3,Y⟩=I (O C s.told):=h.cell 3;have X:Hid (∀w1 q c1,Has w1 w.1.size (U q o.length c1) o->Below w.1.size w w1->w1.cell? ⟨g,3,Y⟩=I (O C s.told)∧w1.frozen? ⟨g,3,Y⟩=false∧∃bq Z,wv (.tuple #[U q o.length c1,O C 0])=wv (.tuple #[U bq (Dv.read s i m).1.length Z,O C ((Dv.read s i m).2.1:Nat)])∧Has (w1.setCell ⟨g,3,Y⟩ (O C ((s.told:Int)+(o.length:Int)))) w.1.size (U bq (Dv.read s i m).1.length Z) (Dv.read s i m).1∧ax (w1.setCell ⟨g,3,Y⟩ (O C ((s.told:Int)+(o.length:Int)))) B g (U p s.b.length cap) (Dv.read s i m).2.2 x k∧Aside (fun k=>k=g) w (w1.setCell ⟨g,3,Y⟩ (O C ((s.told:Int)+(o.length:Int))))):=by
   intro w1 q c1 y hb;have S:=a4.out.below hb;refine⟨S.cell 3,S.thawed 3,q,c1,?_,?_,?_,?_⟩
   ·rw[M.out];rfl
   ·rw[M.out];exact y.aside ((Aside.refl (·=g) w1).setCell (p:=⟨g,3,Y⟩) (N rfl) _) (fun j a0 b7=>by have:=(y.lt j a0).1;omega)
   ·rw[M.out];exact S.put 3 _ (by simp[aJ]) rfl S.due S.left S.keep
   ·exact(af hb (fun k=>k=g)).setCell (p:=⟨g,3,Y⟩) (N rfl) _
  have bi:(s.told:Int)+(o.length:Int)<=9223372036854775807:=by omega
  obtain⟨r,a1⟩:∃r,r=s.b.length-i:=⟨_,rfl⟩;have b1:IntKind.i64.wrap ((s.b.length:Int)-(i:Int))=(r:Int):=by rw[IntKind.wrap_i64];omega
  rcases h.has.form with ⟨b0,bl⟩ | ⟨E,b2,a3,bj⟩
  ·have bT:i=0:=(by rw[bl] at be;simpa using be);have ab:o=[]:=(by rw[J,bl];simp);injection b0 with e1 e2 e3;subst e1 e3 bT ab;have L:=gQq (fun w'=>lH Y 0 [] (by simp) w' (N rfl));rw[e2] at c0 a9;clear h ak a1 b1 J aw bi;by_cases cj:0<m
   ·have bk:(0:Int)<(m:Int):=(by omega);go_enter func48,ntmps48;go_wp2_with fail
    go_region_with (go_at_call 27;refine(L.out _).mono ?_;rintro e w1 ⟨K,c1,rfl,y,hb⟩;obtain⟨ai,aj,D⟩:=X.out w1 K c1 (by exact y) ((Below.refl w.1.size w).drew.trans hb);have A:=gQq D;clear y hb D)
    all_goals
     go_wp2;go_ret2;exact A.out
   ·have bk:m=0:=(by omega);subst bk;go_enter func48,ntmps48;go_wp2_with fail
    go_region_with (go_at_call 27;refine(L.out _).mono ?_;rintro e w1 ⟨K,c1,rfl,y,hb⟩;obtain⟨ai,aj,D⟩:=X.out w1 K c1 (by exact y) ((Below.refl w.1.size w).drew.trans hb);have A:=gQq D;clear y hb D)
    all_goals
     go_wp2;go_ret2;exact A.out
  ·injection a3 with e1 _ e2;subst e1 e2;obtain⟨t,ah⟩:∃t,t=o.length:=⟨_,rfl⟩;obtain⟨Q,bb⟩:∃Q,Q=i+t:=⟨_,rfl⟩;have cp:Q-i=t:=(by omega);have cc:i<=Q:=(by omega);have b9:Q<=cap:=(by omega);have cq:IntKind.i64.wrap ((i:Int)+(t:Int))=(Q:Int):=(by rw[IntKind.wrap_i64];omega);have L:Hid (∀w',w'.1=w.1->Calls AE 27 #[U (if cap=i then I ⟨E,0,Y⟩ else I ⟨E,i,Y⟩) t (cap-i)] w' fun bv bs=>∃q a5,bv=wv (U q t a5)∧Has bs w'.1.size (U q t a5) o∧Below w'.1.size w' bs):=by
    intro w' bn;have bO:At w' (if cap=i then I ⟨E,0,Y⟩ else I ⟨E,i,Y⟩) o:=by
     by_cases ab:o=[]
     ·exact N ab
     ·have cn:=List.length_pos_iff.2 ab;rw[AF (by omega)];refine .inr ⟨E,i,rfl,?_,?_⟩
      ·rw[bn];exact bj.base.2.1
      ·have a7:=cF (dL bj.free.2.1 i) m;rw[<-J,Nat.zero_add] at a7;intro j a0;rw[World.cell?_of_block (w:=w) (by rw[bn])];exact a7 j a0
    have:=lH _ (cap-i) o (by omega) w' bO;rw[<-ah] at this;exact this
   obtain⟨bp,bX⟩:∃bp,(if cap=i then I (⟨E,0,Y⟩:Addr) else I ⟨E,i,Y⟩)=bp:=⟨_,rfl⟩;rw[bX] at L;clear h ak;rw[<-ah] at X bi;by_cases ci:r<m
   ·have a2:r=t:=(by omega);subst a2;clear a1 J bb ah aw;go_enter func48,ntmps48;go_wp2_with fail
    go_region_with (go_at_call 27;refine(L.out _ (by rfl)).mono ?_;rintro e w1 ⟨K,c1,rfl,y,hb⟩;obtain⟨ai,aj,D⟩:=X.out w1 K c1 (by exact y) ((Below.refl w.1.size w).drew.trans hb);have A:=gQq D;clear y hb D)
    all_goals
     go_wp2;go_ret2;exact A.out
   ·have a2:m=t:=(by omega);subst a2;clear a1 J bb ah aw;go_enter func48,ntmps48;go_wp2_with fail
    go_region_with (go_at_call 27;refine(L.out _ (by rfl)).mono ?_;rintro e w1 ⟨K,c1,rfl,y,hb⟩;obtain⟨ai,aj,D⟩:=X.out w1 K c1 (by exact y) ((Below.refl w.1.size w).drew.trans hb);have A:=gQq D;clear y hb D)
    all_goals
     go_wp2;go_ret2;exact A.out
end
end
section
open Go.RowKit
attribute [local go_sem] bf bo
theorem wW{b:Nat}{T:TypeId}(h:w.1[b]?=I (F #[v] T))(u:Value):(w.setCell ⟨b,0,Y⟩ u).1[b]?=I (F #[u] T):=by
 simp[World.setCell,Array.getElem?_modify,h]
theorem sQ{B:Nat}(aw:Has w B v xs)(c:UInt8)(aj:xs.length+1<=140737488355328)(M:B<=w.1.size){z:Int}{J:Array Oper}{rest:List Oper}{y:Oper}{a:Act}{E:Exit->Act->World->Prop}{K x:Operand}{ad:Nat}(a3:z=(c.toNat:Int))(a1:y.type=40)(ab:y.guard=Y)(ak:y.op=Op.call { callee:=Callee.builtin Builtin.append,args:=#[K,x],argTypes:=#[40,40] })(a0:a.eval K=v)(a2:a.eval x=U (I ⟨ad,0,Y⟩) 1 1)(X:ad=w.1.size)(S:∀o q cap W,Hid (o=xs++[c])->Has W B (U q o.length cap) o->Aside (fun k=>v.ownBlock=I k) w W->(∀k,(U q o.length cap).ownBlock=I k->v.ownBlock=I k∨w.1.size<=k)->wpList AE J E rest (a.put y.dst (U q o.length cap)) W):
  wpList AE J E (y::rest) a (w.alloc (F #[O .u8 z] 5)):=by
 subst X;have Z:At (w.alloc (F #[O .u8 z] 5)) (I ⟨w.1.size,0,Y⟩) [c]:=by
  refine .inr ⟨_,_,rfl,by simp,fun j D=>?_⟩;have ah:j=0:=by simp at D;omega
  subst ah;rw[World.cell?_alloc_new,a3];rfl
 have A:Aside (fun k=>v.ownBlock=I k) w (w.alloc (F #[O .u8 z] 5)):=(Aside.refl _ _).alloc _;refine mr (l:=[c]) (c:=1) (aw.alloc _) Z (by simpa using aj) (AT M A.size) a1 ab ak a0 a2 ?_;intro o q cap W L Q V ai;refine S o q cap W L Q (A.trans V (fun _ _ h=>h)) (fun j D=>?_);rcases ai j D with h | h
 ·exact N h
 ·exact .inr (AT A.size h)
section
variable {B g:Nat} {v:Value} {s:Dv.St} {x k:Nat} {w:World}
theorem wl{o K n:Nat}{p:OA}(D:Has w B v xs)(y:w.1[o]?=I (F #[O C n] 3))(M:w.1[K]?=I (F #[U p l.length c] 40))(V:At w p l)(ai:∀b J,p=I ⟨b,J,Y⟩->b≠o)(a6:n<l.length)(bj:l.length<=2097152)(bi:xs.length<=2097152)(a2:B<=w.1.size)(A:UInt8)(ah:A=l[n]):
  Calls AE 83 #[v,qq (I ⟨o,0,Y⟩),qq (I ⟨K,0,Y⟩)] w fun e w'=>∃q cap,e=wv (U q (xs++[A]).length cap)∧Has w' B (U q (xs++[A]).length cap) (xs++[A])∧Aside (fun k=>k=o∨v.ownBlock=I k) w w'∧w'.1[o]?=I (F #[O C ((n:Int)+1)] 3)∧∀k,(U q (xs++[A]).length cap).ownBlock=I k->v.ownBlock=I k∨w.1.size<=k:=by
 have bb:=fj y;have fn:=uW y;have a9:=fj M;have bl:K≠o:=by
  rintro rfl;rw[M] at y;injection y with h1;injection h1 with h2 h3
  revert h3
  decide
 have S:v.ownBlock≠I o:=dY D y (by decide);have L:Aside (·=o) w (w.setCell ⟨o,0,Y⟩ (O C ((n:Int)+1))):=(Aside.refl (·=o) w).setCell (p:=⟨o,0,Y⟩) (N rfl) _;have X:=D.aside L (fun j Q E=>S (by rw[Q,E]));have ab:=wW y (O C ((n:Int)+1));obtain⟨b,J,rfl,bc,E⟩:=aP V (by omega);have be:w.cell? ⟨b,J+n,Y⟩=I (O .u8 (A.toNat:Int)):=by rw[ah];exact E n a6
 have bn:=ai b J rfl;have aw:=gQq X;have aj:=gQq L;have ak:=gQq ab;have a0:=gQq S;have a5:=dW y;obtain⟨bp,a8,a7,-,-⟩:=D.at;subst a7;have bk:(n:Int)<(l.length:Int):=by omega
 clear V D y M E ah ai L X ab S;go_enter func83,ntmps83;go_wp2_with (at_builtin;refine sQ aw.out A (by omega) (by simpa[World.setCell] using a2) rfl rfl rfl rfl rfl rfl (by simp[World.setCell]) ?_;intro bq q cap W a1 a3 Z a4);go_ret;rw[<-a1.out];refine⟨q,cap,rfl,a3,?_,?_,fun j Q=>?_⟩
 ·exact(aj.out.mono (fun _ _ h=>N h)).trans Z (fun _ _ h=>.inr h)
 ·rw[Z.block o (by simpa[World.setCell] using a5) a0.out];exact ak.out
 ·rcases a4 j Q with h | h
  ·exact N h
  ·exact .inr (by simpa[World.setCell] using h)
def WrI(w:World)(B g:Nat)(v:Value)(s:Dv.St)(p:OA)(c:Nat)(l:L8)(i:Nat)(wr:World):Prop :=
 ∃t v' x' k',ax wr B g v' t x' k'∧Dv.lay s l=Dv.lay t (l.drop i)∧wr.1[w.1.size+1]?=I (F #[O C (i:Int)] 3)∧wr.1[w.1.size]?=I (F #[U p l.length c] 40)∧Aside (fun j=>j=g∨v.ownBlock=I j) w wr ∧
  (∀j,v'.ownBlock=I j->v.ownBlock=I j∨w.1.size<=j)∧t.safe<=t.b.length∧t.b.length<=s.b.length+i∧t.done<=s.done+i
theorem ml{wr:World}{i:Nat}(h:WrI w B g v s p c l i wr)(a2:i<l.length)(bT:g<w.1.size)(aj:At w p l)(a4:∀b Z,p=I ⟨b,Z,Y⟩->¬(b=g∨v.ownBlock=I b))(b0:s.b.length+l.length<=2097152)(bO:s.done+l.length<4611686018427387904)(bs:B<=w.1.size):
  Calls AE 84 #[qq (I ⟨g,0,Y⟩),.func (.func 83) #[] #[qq (I ⟨w.1.size+1,0,Y⟩),qq (I ⟨w.1.size,0,Y⟩)]] wr fun e w'=>
   (e=wv (O C 0)∧WrI w B g v s p c l (i+1) w')∨(e=wv (O C 51)∧(Dv.lay s l).1=true∧cV w B g v (51,(Dv.lay s l).2) (wv (O C 51)) w'):=by
 obtain⟨t,v',b3,k',J,E,a1,aw,K,ai,bj,bX,bN⟩:=h;have bb:l.drop i=l[i]::l.drop (i+1):=List.drop_eq_getElem_cons a2;rw[bb,Dv.lay] at E;have a6:At wr p l:=aj.aside K a4;obtain⟨b,Z,bi,bv,-⟩:=aP aj (by omega);cases hm:Dv.may t with
 |true=>
  rw[AG (by rw[hm])] at E;refine(nJ 83 #[qq (I ⟨w.1.size+1,0,Y⟩),qq (I ⟨w.1.size,0,Y⟩)] (fun u l' ab=>∃q cap,u=U q (t.b++[l[i]]).length cap∧l'=t.b++[l[i]]∧Aside (fun j=>j=g∨j=w.1.size+1∨v'.ownBlock=I j) wr ab∧ab.1[w.1.size+1]?=I (F #[O C ((i:Int)+1)] 3)∧ab.1[w.1.size]?=I (F #[U p l.length c] 40)∧∀j,u.ownBlock=I j->v'.ownBlock=I j∨wr.1.size<=j) J hm (by omega) (fun args w=>eD func83 (by kernel_rfl) rfl args w) (fun w' b4 a3 D=>?_)).mono ?_
  ·have a9:w'.1[w.1.size+1]?=I (F #[O C (i:Int)] 3):=(by rw[D.block _ (dW a1) (by omega)];exact a1);have S:w'.1[w.1.size]?=I (F #[U p l.length c] 40):=(by rw[D.block _ (dW aw) (by omega)];exact aw);have ak:=J.has.aside D (fun j A o=>J.apart (by rw[A,o]));have a5:At w' p l:=a6.aside D (fun b Z X o=>a4 b Z X (N o));have a7:B<=w'.1.size:=(by have:=K.size;have:=D.size;omega);refine(wl ak a9 S a5 (fun bq b1 X=>by rw[bi] at X;cases X;omega) a2 (by omega) (by omega) a7 l[i] rfl).mono ?_;rintro e ab ⟨q,cap,rfl,a8,L,V,ah⟩;have bk:v'.ownBlock≠I w.1.size:=dY ak S (by decide);refine⟨_,t.b++[l[i]],rfl,a8,?_,q,cap,rfl,rfl,?_,V,?_,fun j A=>?_⟩
   ·rw[L.block g (dW a3) (fun o=>by
     rcases o with o | o
     ·omega
     ·exact J.apart o)]
    exact a3
   ·exact(D.mono (fun _ _ h=>N h)).trans L (fun _ _ h=>.inr h)
   ·rw[L.block w.1.size (dW S) (fun o=>by
     rcases o with o | o
     ·omega
     ·exact bk o)]
    exact S
   ·rcases ah j A with y | y
    ·exact N y
    ·exact .inr (AT D.size y)
  ·rintro e bn ⟨rfl,u,l',b2,bp,⟨q,cap,rfl,rfl,L,V,a0,ah⟩,M,Q⟩;refine N ⟨rfl,{ Dv.did t with b:=t.b++[l[i]] },U q (t.b++[l[i]]).length cap,bp,k',?_,E,?_,?_,?_,fun j A=>?_,?_,?_,?_⟩
   ·have bc:min t.safe (t.b++[l[i]]).length=t.safe:=(by rw[AH];omega);rw[bc] at Q;exact Q
   ·rw[M.block _ (dW V) (by omega),V]
    push_cast
    rfl
   ·rw[M.block _ (dW a0) (by omega)];exact a0
   ·refine K.trans (L.trans M (fun _ _ h=>N h)) (fun j A o=>?_);rcases o with o | o | o
    ·exact N o
    ·omega
    ·rcases ai j o with y | y
     ·exact .inr y
     ·omega
   ·rcases ah j A with y | y
    ·exact ai j y
    ·exact .inr (by have:=K.size;omega)
   ·show t.safe<=(t.b++[l[i]]).length;rw[AH];omega
   ·show(t.b++[l[i]]).length<=_;rw[AH];simp;omega
   ·show t.done+1<=_;omega
 |false=>
  rw[AF (by rw[hm];simp)] at E;refine(jH _ J hm bj (by omega)).mono ?_;rintro e bn ⟨rfl,bl,Q,M,be⟩;refine .inr ⟨rfl,by rw[E],rfl,bl,0,0,?_,K.trans M (fun _ _ h=>N h),fun j A=>ai j (by rw[<-be];exact A)⟩;rw[E];exact Q
theorem mi(h:ax w B g v s x k)(A:s.safe<=s.b.length)(j:Nat):
  WrI w B g v s p c l 0 (((w.alloc (F #[U p l.length c] 40)).drewN j).alloc (F #[O C 0] 3)):=by
 have hb:Below w.1.size w (((w.alloc (F #[U p l.length c] 40)).drewN j).alloc (F #[O C 0] 3)):=(below_drewN gQy j).alloc (by simp) _;refine⟨s,v,x,k,h.below hb,by rw[List.drop_zero],?_,?_,af hb _,fun _ h=>N h,A,by omega,by omega⟩
 ·have:=aV ((w.alloc (F #[U p l.length c] 40)).drewN j) (F #[O C 0] 3);simpa using this
 ·have o:=aV w (F #[U p l.length c] 40);have y:(((w.alloc (F #[U p l.length c] 40)).drewN j).alloc (F #[O C 0] 3)).1[w.1.size]?=(w.alloc (F #[U p l.length c] 40)).1[w.1.size]?:=by
   show((w.alloc (F #[U p l.length c] 40)).1.push _)[w.1.size]?=_;rw[Array.getElem?_push,AF (by simp)]
  exact y.trans o
theorem yg(h:ax w B g v s x k)(p:OA)(c:Nat)(l:L8)(bN:l.length<=140737488351232)(y:At w p l)(A:l≠[]->∀b o,p=I ⟨b,o,Y⟩->¬(b=g∨v.ownBlock=I b))(bk:s.safe<=s.b.length)(bO:s.b.length<=2097152)(bT:s.most<=1048576)(bv:s.done<4611686018425290752)(a9:B<=w.1.size):
  Calls AE 59 #[qq (I ⟨g,0,Y⟩),U p l.length c] w (cV w B g v (Dv.write s l)):=by
 have bc:=h.lt;have ab:Below w.1.size w (w.alloc (F #[U p l.length c] 40)):=gQy;have Z:=gQq (h.below ab);have V:Hid (Aside (fun i=>i=g∨v.ownBlock=I i) w (w.alloc (F #[U p l.length c] 40))):=af ab _;have aj:=gQq (fun j=>mi (p:=p) (c:=c) (l:=l) h bk j);have c0:w.cell? ⟨g,0,Y⟩=I v:=h.cell 0;have c1:w.cell? ⟨g,1,Y⟩=I (O C s.most):=h.cell 1;have ak:w.cell? ⟨g,5,Y⟩=I (.bool s.down):=h.cell 5;obtain⟨q,cap,bn,-,bs⟩:=h.has.at;subst bn;clear h ab;by_cases hd:s.down=true
 ·have HE:Hid (Dv.write s l=(50,s)):=by show _=_;unfold Dv.write;rw[AG hd]
  rw[hd] at ak;clear hd y A;go_enter func59,ntmps59;go_wp2;go_ret;unfold cV;rw[HE.out];exact⟨rfl,_,_,_,Z.out,V.out,fun _ h=>N h⟩
 ·have L:s.down=false:=by simpa using hd
  rw[L] at ak;by_cases J:l=[]
  ·subst J;have HE:Hid (Dv.write s []=(0,s)):=(by show _=_;unfold Dv.write;rw[AF hd,AF (by simp)];simp[Dv.lay]);clear hd L y A;go_enter func59,ntmps59;go_wp2;go_quiet (fail);go_wp2;go_loopw [35] (fun D wr=>D=O C 0∧Hid (WrI w B g (U q s.b.length cap) s p c [] 0 wr)) (fun _ _=>0);case atStart=>exact⟨rfl,aj.out _⟩
   case round=>
    obtain⟨rfl,E⟩:=hrel;have X:Hid (cV w B g (U q s.b.length cap) (Dv.write s []) (wv (O C 0)) wr):=by
     obtain⟨t,v',ai,k',ah,Q,-,-,K,S,-⟩:=E.out;have M:s=t:=(by simpa[Dv.lay] using Q);show cV _ _ _ _ _ _ _;rw[HE.out,M];rw[M] at K S;exact⟨rfl,v',ai,k',ah,K,S⟩
    go_wp2;go_ret;exact X.out
  ·have bX:=List.length_pos_iff.2 J;have bj:(0:Int)<(l.length:Int):=(by omega);have bq:decide ((0:Int)<(l.length:Int))=true:=AR bj;by_cases a4:s.most<s.b.length+l.length
   ·have HE:Hid (Dv.write s l=(52,s)):=(by show _=_;unfold Dv.write;rw[AF hd,AG ⟨J,a4⟩]);have bl:(s.most:Int)-(s.b.length:Int)<(l.length:Int):=(by omega);clear hd L y A;go_enter func59,ntmps59;go_wp2;go_quiet (fail);go_wp2;go_ret;unfold cV;rw[HE.out];exact⟨rfl,_,_,_,Z.out.drewN _,V.out.drewN _,fun _ h=>N h⟩
   ·have HE:Hid (Dv.write s l=(if (Dv.lay s l).1 then 51 else 0,(Dv.lay s l).2)):=(by show _=_;unfold Dv.write;rw[AF hd,AF (fun h=>a4 h.2)]);have bl:¬(s.most:Int)-(s.b.length:Int)<(l.length:Int):=(by omega);have a8:=gQq (fun i wr (bb:WrI w B g (U q s.b.length cap) s p c l i wr) (a1:i<l.length)=>ml bb a1 bc y (A J) (by omega) (by omega) a9);clear hd L y A Z V;go_enter func59,ntmps59;go_wp2;go_quiet (fail);go_wp2;go_loopw [35] (fun D wr=>∃i:Nat,i<=l.length∧D=O C i∧Hid (WrI w B g (U q s.b.length cap) s p c l i wr)) (fun D _=>l.length-(intOf D).toNat);case atStart=>exact⟨0,by omega,rfl,aj.out _⟩
    case round=>
     obtain⟨i,a1,rfl,E⟩:=hrel;by_cases be:i<l.length
     ·have bi:(i:Int)<(l.length:Int):=(by omega);go_wp2_with fail;refine(a8.out i wr E.out be).mono ?_;rintro e w1 (⟨rfl,aw⟩ | ⟨rfl,a3,a0⟩)
      ·have a5:=gQq aw;clear aw;go_wp2;go_roundw;case rel=>exact⟨i+1,by omega,by go_num,a5.out⟩
       case measure=>simp[intOf];omega
      ·have a6:=gQq a3;have a7:=gQq a0;clear a3 a0;go_wp2;go_ret;rw[HE.out,a6.out];exact a7.out
     ·have a2:i=l.length:=(by omega);have bi:¬(i:Int)<(l.length:Int):=(by omega);have X:Hid (cV w B g (U q s.b.length cap) (Dv.write s l) (wv (O C 0)) wr):=by
       obtain⟨t,v',ai,k',ah,Q,-,-,K,S,-⟩:=E.out;rw[a2,List.drop_length] at Q;have M:Dv.lay s l=(false,t):=Q.trans (by simp[Dv.lay]);show cV _ _ _ _ _ _ _;rw[HE.out,M];exact⟨rfl,v',ai,k',ah,K,S⟩
      clear a2;go_wp2;go_ret;exact X.out
end
end
section
open Go.RowKit
theorem j8(es o:List Ent)(i:Nat)(y:i<es.length)(A:i<o.length)(h:(es.take i).map Ent.tup=(o.take i).map Ent.tup)(D:es[i].tup=o[i].tup):(es.take (i+1)).map Ent.tup=(o.take (i+1)).map Ent.tup:=by
 rw[List.take_succ_eq_append_getElem y,List.take_succ_eq_append_getElem A,List.map_append,List.map_append,h];simp[D]
theorem wK(p q:OA)(c d:Nat)(es o:List Ent)(bs:es.length*24<=140737488351232)(w:World)(y:iV w p es)(D:iV w q o):
  Calls AE 68 #[U p es.length c,U q o.length d] w fun e w'=>e=wv (.bool (decide (es.map Ent.tup=o.map Ent.tup)))∧∃n,w'=w.drewN n:=by
 obtain⟨R,S⟩:∃R,R=decide (es.map Ent.tup=o.map Ent.tup):=⟨_,rfl⟩;rw[<-S];have M:=gQq S;have a7:=gQq y;have a8:=gQq D;clear S y D;by_cases L:es.length=o.length
 ·have Q:((es.length:Int) != (o.length:Int))=false:=by rw[bne_eq_false_iff_eq];omega
  have ai:=gQq L;obtain⟨m,a3⟩:∃m,m=o.length:=⟨_,rfl⟩;rw[<-a3] at Q ⊢;have be:m=es.length:=by omega
  subst be;clear a3 Q L;go_enter func68,ntmps68;go_wp2;go_loopw [13] (fun X wr=>∃i n:Nat,i<=es.length∧X=O C i∧wr=w.drewN n∧Hid ((es.take i).map Ent.tup=(o.take i).map Ent.tup)) (fun X _=>es.length-(intOf X).toNat);case atStart=>exact⟨0,0,by omega,rfl,rfl,rfl⟩
  case round=>
   obtain⟨i,n,bq,rfl,rfl,K⟩:=hrel;by_cases a1:i<es.length
   ·have bv:(i:Int)<(es.length:Int):=(by omega);have a2:i<o.length:=(by have:=ai.out;omega);obtain⟨bl,bN,bi,-,a4,a5,a6⟩:=a7.out i a1;obtain⟨bn,bO,bj,-,Z,ab,ah⟩:=a8.out i a2;subst bi bj;by_cases E:es[i].tup=o[i].tup
    ·have a9:=gQq (j8 es o i a1 a2 K.out E);simp only[Ent.tup,Prod.mk.injEq] at E;obtain⟨aj,ak,aw⟩:=E;rw[<-aj] at Z;rw[<-ak] at ab;rw[<-aw] at ah;generalize es[i].at_=a at a4 Z;generalize es[i].row=b at a5 ab;generalize es[i].sch=c' at a6 ah;clear aj ak aw K;go_wp2;go_quiet (fail);go_wp2;go_roundw;case rel=>exact⟨i+1,_,by omega,by go_num,rfl,a9⟩
     case measure=>simp[intOf];omega
    ·have J:Hid (R=false):=by
      show _=_;rw[M.out,AP];intro V;have bb:=eT V;subst bb;exact E rfl
     have A:(¬es[i].at_=o[i].at_)∨(es[i].at_=o[i].at_∧¬es[i].row=o[i].row)∨(es[i].at_=o[i].at_∧es[i].row=o[i].row∧¬es[i].sch=o[i].sch):=by
      by_cases y:es[i].at_=o[i].at_
      ·by_cases D:es[i].row=o[i].row
       ·by_cases a0:es[i].sch=o[i].sch
        ·exact absurd (by simp only[Ent.tup,y,D,a0]) E
        ·exact .inr (.inr ⟨y,D,a0⟩)
       ·exact .inr (N ⟨y,D⟩)
      ·exact N y
     generalize es[i].at_=a at a4 A;generalize es[i].row=b at a5 A;generalize es[i].sch=c' at a6 A;generalize o[i].at_=bk at Z A;generalize o[i].row=b2' at ab A;generalize o[i].sch=c2' at ah A;clear E K;rcases A with y | ⟨rfl,y⟩ | ⟨rfl,rfl,y⟩
     all_goals
      have bp:=bg y;clear y;go_wp2;go_quiet (fail);go_wp2;go_ret;exact⟨by rw[J.out];rfl,_,World.drewN_drewN ..⟩
   ·have bc:i=es.length:=(by omega);subst bc;have J:Hid (R=true):=by
     show _=_;rw[M.out,decide_eq_true_iff];have:=K.out;rw[List.take_length,ai.out,List.take_length] at this;exact this
    clear K;go_wp2;go_ret;exact⟨by rw[J.out];rfl,n,rfl⟩
 ·have Q:((es.length:Int) != (o.length:Int))=true:=by rw[bne_iff_ne];omega
  have J:Hid (R=false):=by
   show _=_;rw[M.out,AP];intro V;have:=congrArg List.length V;simp at this;exact L this
  clear L;go_enter func68,ntmps68;go_wp2;go_ret;exact⟨by rw[J.out];rfl,0,rfl⟩
end
end Go.Proofs.YtngmnfdaedlodaaGreatDoor
