import Derived.Test.YtngmnfdaedlodaaGreatDoorA6
set_option maxRecDepth 100000
set_option maxHeartbeats 4000000
namespace Go.Proofs.YtngmnfdaedlodaaGreatDoor
open Go.Proofs.Tryz
open Option renaming none->I,some->U
open Go.Value renaming slice->Y,int->px,string->qj
open Bool renaming true->O,false->C
open Go.Obj renaming cells->F
open Go.IntKind renaming i64->sw
open Go.RowKit renaming Below->AC
open Go.Ending renaming returned->wv
open Go.Proofs.Tryz renaming prog->AE
variable{a g n x:Nat}{W w w' w0:World}{v:Value}{i:Int}{c:List Col}{k:Wk}
section
namespace Sc
theorem at_mk19{f:Fr}(y:Fr.err f=0)(E:∀c∈f.cols,c.wf)(pre post:L8):at_ (pre++(0::(Fr.run f++0::post))) (pre.length:Nat)=.ok (Fr.norm f,pre.length+(Fr.run f).length+2):=by
 have K:=(Fr.err_open y).2;have o:=Fr.run_ge (f:=f);have J:((pre++(0::(Fr.run f++0::post))).drop ((pre.length:Nat):Int).toNat).take 2202=0::(Fr.run f++0::(post.take (2200-(Fr.run f).length))):=by
  rw[Int.toNat_natCast,List.drop_left,List.take_succ_cons,List.take_append,List.take_of_length_le (by omega),show 2201-(Fr.run f).length=(2200-(Fr.run f).length)+1 by omega,List.take_succ_cons]
 have D:(pre++(0::(Fr.run f++0::post))).length=pre.length+((Fr.run f).length+(post.length+1)+1):=by simp
 unfold at_;rw[D,AF (by omega),AF (by omega),J,runOf_mk (fun A=>by rw[A] at o;simp at o) (Fr.run_nz f)];simp only[Fr.dec_run y E];rw[Int.toNat_natCast]
theorem at_more{b:L8}{p:Nat}{f:Fr}(h:at_ b (p:Nat)=.ok (f,n))(post:L8):at_ (b++post) (p:Nat)=.ok (f,n):=by
 obtain⟨-,X,y,A,Q,Z,D⟩:=at_ok h;rw[Int.toNat_natCast] at Q D;have hb:b=b.take p++(0::(Fr.run f++0::b.drop n)):=by
  have E:b.drop p=(b.drop p).take ((Fr.run f).length+2)++(b.drop p).drop ((Fr.run f).length+2):=(List.take_append_drop _ _).symm;rw[D,Ax,show p+((Fr.run f).length+2)=n by omega] at E;have J:=List.take_append_drop p b;rw[E] at J;simpa using J.symm
 have M:(b.take p).length=p:=by rw[AM];omega
 have K:=at_mk19 y (fun c o=>A.2.2.1 c o) (b.take p) (b.drop n);have L:=at_mk19 y (fun c o=>A.2.2.1 c o) (b.take p) (b.drop n++post);rw[<-hb,M] at K;rw[M] at L;have V:b++post=b.take p++(0::(Fr.run f++0::(b.drop n++post))):=by
  conv=>lhs;rw[hb]
  simp
 rw[V,L];exact K.symm.trans h
theorem goes_more{b:L8}(post:L8):∀{k:Nat} {x:Pos},goes b k=U x->∃r,goes (b++post) k=U ⟨x.at_,x.wk,r⟩
 |0,x,h=>by
  injection h with h;subst h;exact⟨0,rfl⟩
 |k+1,y,h=>by
  obtain⟨x,K,J⟩:=goes_pred h;obtain⟨f,o,A,D,L⟩:=step_ok J;obtain⟨r,E⟩:=goes_more post K;refine⟨r+reads (b++post) x.at_,goes_succ E ?_⟩;unfold step;simp only[at_more o post];rw[AG A,D]
def Up19(b:L8)(k:Wk)(t:Prop):Prop:=∃j r,goes b j=U ⟨b.length,k,r⟩∧(t->Rp.kept b j=b.length)
theorem up_nil:Up19 [] new True:=⟨0,0,rfl,fun _=>rfl⟩
theorem up_more{b:L8}{t:Prop}(h:Up19 b k t){f:Fr}(Q:∀c∈f.cols,c.wf)(M:Fr.norm f=f)(o:may k f (b.length:Nat)=O):Up19 (b++Fr.out f) (take k f (b.length:Nat)) (f.kind≠1):=by
 obtain⟨j,r,K,-⟩:=h;have A:Fr.err f=0:=by
  unfold may at o;simp only[Bool.and_eq_true,decide_eq_true_eq] at o;exact o.1.2
 have J:Fr.out f=0::(Fr.run f++0::[]):=AG A;obtain⟨V,D⟩:=goes_more (Fr.out f) K;have y:=at_mk19 A Q b [];rw[<-J,M] at y;have E:b.length+(Fr.run f).length+2=(b++Fr.out f).length:=by rw[J];simp;omega
 refine⟨j+1,V+reads (b++Fr.out f) (b.length:Nat),goes_succ D ?_,fun L=>?_⟩
 ·unfold step;simp only[y];rw[AG o,E]
 ·rw[Rp.kept_succ D y,AF L,E]
theorem up_whole{b:L8}(h:Up19 b k True):∃j r,goes b j=U ⟨b.length,k,r⟩∧step b ⟨b.length,k,r⟩=.error 140∧Rp.kept b j=b.length:=by
 obtain⟨j,r,o,y⟩:=h;refine⟨j,r,o,?_,y trivial⟩;unfold step;have:at_ b (b.length:Nat)=.error 140:=by
  unfold at_;rw[AF (by omega),AG rfl]
 simp only[this]
end Sc
end
section
theorem vY(f:Fr)(h:(Fr.head f).length<=2150):(Fr.run f).length<=(Fr.head f).length+15∧(Fr.out f).length<=(Fr.head f).length+17:=by
 have y:=(Cob.stuff_length (Fr.check (Fr.head f))).2;have A:(Fr.check (Fr.head f)).length=(Fr.head f).length+4:=by
  unfold Fr.check;rw[AH,Sch.le_len]
 have o:(Fr.run f).length<=(Fr.head f).length+15:=by
  show(Cob.stuff (Fr.check (Fr.head f))).length<=_;omega
 refine⟨o,?_⟩;unfold Fr.out;split
 ·simp;omega
 ·simp
theorem py{f:Fr}(o:Fr.err0 f=0){n:Nat}(h:(Fr.head f).length<=n)(A:n<=2150):Fr.err f=0∧(Fr.out f).length<=n+17:=by
 have y:=vY f (by omega);refine⟨?_,by omega⟩;unfold Fr.err;rw[AF (by rw[o];decide),AF (by omega)]
theorem yO{n q f r:Int}{b:L8}(J:0<=n∧n<2147483648)(K:0<=q∧q<1099511627776)(E:0<=f∧f<1099511627776)(L:1<=r∧r<=64)(hb:b.length<=2049):Fr.err (Wr.dFr n q f r b)=0∧(Fr.out (Wr.dFr n q f r b)).length<=b.length+58:=by
 refine py (n:=b.length+41) ?_ ?_ (by omega)
 ·unfold Fr.err0;rw[AF (show ¬(Wr.dFr n q f r b).kind=1 from (by decide:¬(2:Int)=1)),AG (show(Wr.dFr n q f r b).kind=2 from rfl),AF];have o:Fr.within Fr.N n=true:=AR J;have y:Fr.within Fr.S q=true:=AR K;have A:Fr.within Fr.S f=true:=AR E;have D:decide (1<=r∧r<=64)=true:=AR L;show ¬(Fr.within Fr.N n&&Fr.within Fr.S q&&Fr.within Fr.S f&&decide (1<=r∧r<=64))=C;rw[o,y,A,D];decide
 ·show(_::(Fr.nums [n,q,f,r]++b)).length<=_;have:=dJ [n,q,f,r];rw[AI,AH];simp only[AI,List.length_nil] at this;omega
theorem zk{n:Int}(A:0<=n∧n<2147483648)(o:Sch.err c=0):Fr.err (Wr.sFr n c)=0∧(Fr.out (Wr.sFr n c)).length<=(Sch.bytes c).length+28:=by
 have hb:=(Sch.err_open o).2.2.2;refine py (n:=(Sch.bytes c).length+11) ?_ ?_ (by omega)
 ·unfold Fr.err0;have y:Fr.within Fr.N n=true:=AR A;rw[AG (show(Wr.sFr n c).kind=1 from rfl),AF (show ¬Fr.within Fr.N (Wr.sFr n c).number=C from fun h=>by rw[show Fr.within Fr.N (Wr.sFr n c).number=O from y] at h;cases h)];exact o
 ·show(_::(Fr.nums [n]++Sch.bytes c)).length<=_;have:=dJ [n];rw[AI,AH];simp only[AI,List.length_nil] at this;omega
theorem yW{x:Idx}(y:Fr.idxErr x=0)(hb:x.entries.length<=64):Fr.err (Wr.xFr x)=0∧(Fr.out (Wr.xFr x)).length<=30*x.entries.length+58:=by
 refine py (n:=30*x.entries.length+41) ?_ ?_ (by omega)
 ·unfold Fr.err0;rw[AF (show ¬(Wr.xFr x).kind=1 from (by decide:¬(3:Int)=1)),AF (show ¬(Wr.xFr x).kind=2 from (by decide:¬(3:Int)=2)),AG (show(Wr.xFr x).kind=3 from rfl)];exact y
 ·show(_::(Fr.nums [x.at_,x.frames,x.rows,(x.entries.length:Int)]++(x.entries.map Fr.entB).flatten)).length<=_;have o:=dJ [x.at_,x.frames,x.rows,(x.entries.length:Int)];have A:=nI x.entries;rw[AI,AH];simp only[AI,List.length_nil] at o;omega
theorem lay_free:∀(l:L8) (s:Dv.St),s.bound=C->Dv.lay s l=(C,{ s with b:=s.b++l,done:=s.done+l.length })
 | [],s,_=>by
  show(C,s)=_;simp
 |c::l,s,h=>by
  unfold Dv.lay;have o:Dv.may s=true:=by unfold Dv.may;rw[h];rfl
  rw[AG o,lay_free l { Dv.did s with b:=s.b++[c] } h];unfold Dv.did;rw[h];simp;omega
theorem jf{s:Dv.St}{l:L8}(hd:s.down=C)(hb:s.bound=C)(y:s.b.length+l.length<=s.most):Dv.write s l=(0,{ s with b:=s.b++l,done:=s.done+l.length }):=by
 unfold Dv.write;rw[AF (by rw[hd];decide),AF (fun o=>by omega),lay_free l s hb];rfl
end
section
structure Lz(c:List Col)(N R S:Int)(z:Wr):Prop where
 up:z.up=O
 col:z.c=c
 whole:Sc.Up19 z.s.b z.k True
 alive:z.s.down=C∧z.s.bound=C
 most:z.s.most=10000
 safe:z.s.safe<=z.s.b.length
 told:z.s.told<=30000000000
 len:(z.s.b.length:Int)<=400*N∧(z.s.done:Int)<=400*N
 frames:z.k.frames=N
 rows:z.k.rows=R
 since:z.k.since=S
 low:z.k.closed=C
 ents:(z.k.ents.length:Int)<=N
 entOk:∀e∈z.k.ents,Fr.entOk e=O
def iz(c:List Col)(k:Wk):Prop:=k.number=0∧∃p,0<=p∧p<1099511627776∧k.sch 0=U ⟨c,p⟩
section
variable {c:List Col} {N R S:Int} {z:Wr}
theorem qm(h:iz z.c z.k):z.number=0:=by
 obtain⟨o,p,-,-,y⟩:=h;unfold Wr.number;rw[o,y];dsimp only;rw[AG (Fr.sameS_refl z.c)]
theorem wN(h:iz z.c z.k):z.due=decide (8<=z.k.since):=by
 have y:=qm h;obtain⟨-,p,-,-,o⟩:=h;unfold Wr.due;rw[y,o];rfl
theorem lz(h:z.k=Sc.new):z.number=0∧z.due=true:=by
 have o:z.number=0:=by
  unfold Wr.number;rw[h];rfl
 refine⟨o,?_⟩;unfold Wr.due;rw[h];rfl
theorem sC(E:iz c k){b:L8}{t:Prop}(L:Sc.Up19 b k t)(Q:b.length<=100000)(J:0<=k.frames∧k.frames<1000)(K:0<=k.rows∧k.rows<1000){m:Int}(D:1<=m∧m<=64){blk:L8}(hb:blk.length<=100):
  Sc.next k (Wr.dFr 0 k.frames k.rows m blk) (b.length:Nat)=Sc.take k (Wr.dFr 0 k.frames k.rows m blk) (b.length:Nat)∧Sc.Up19 (b++Fr.out (Wr.dFr 0 k.frames k.rows m blk)) (Sc.take k (Wr.dFr 0 k.frames k.rows m blk) (b.length:Nat)) True:=by
 have hd:=yO (n:=0) (q:=k.frames) (f:=k.rows) (r:=m) (b:=blk) ⟨by decide,by decide⟩ ⟨J.1,by omega⟩ ⟨K.1,by omega⟩ D (by omega);have A:Sc.may k (Wr.dFr 0 k.frames k.rows m blk) (b.length:Nat)=true:=by
  unfold Sc.may;have o:Fr.within Fr.S ((b.length:Nat):Int)=true:=AR ⟨by omega,by show((b.length:Nat):Int)<1099511627776;omega⟩;rw[o,hd.1];unfold Sc.follows;rw[AF (show ¬(Wr.dFr 0 k.frames k.rows m blk).kind=1 from (by decide:¬(2:Int)=1)),AG (show(Wr.dFr 0 k.frames k.rows m blk).kind=2 from rfl)];have y:((Wr.dFr 0 k.frames k.rows m blk).number=k.number∧(Wr.dFr 0 k.frames k.rows m blk).seq=k.frames∧(Wr.dFr 0 k.frames k.rows m blk).first=k.rows):=⟨E.1.symm,rfl,rfl⟩;simp[y]
 obtain⟨j,r,o,y⟩:=Sc.up_more L (f:=Wr.dFr 0 k.frames k.rows m blk) (fun x M=>by cases M) rfl A;refine⟨?_,j,r,o,fun _=>y (by show ¬(2:Int)=1;decide)⟩;unfold Sc.next;rw[AG A]
theorem kv{n:Int}(m:Int)(blk:L8)(p:Int):∃k',Sc.take k (Wr.dFr n k.frames k.rows m blk) p=k'∧k'.number=k.number∧k'.sch=k.sch∧k'.frames=k.frames+1∧k'.rows=k.rows+m∧k'.since=k.since+1∧k'.closed=C∧k'.ents.length<=k.ents.length+1∧∀e∈k'.ents,e∈k.ents∨e=⟨p,k.rows,Sc.placeAt k k.number⟩:=by
 refine⟨_,rfl,?_⟩;unfold Sc.take;rw[AF (show ¬(Wr.dFr n k.frames k.rows m blk).kind=1 from (by decide:¬(2:Int)=1)),AG (show(Wr.dFr n k.frames k.rows m blk).kind=2 from rfl)];unfold Sc.count Sc.enter;split
 ·refine⟨rfl,rfl,rfl,rfl,rfl,rfl,by simp,fun e o=>?_⟩;rcases List.mem_append.1 o with o | o
  ·exact .inl o
  ·exact .inr (List.mem_singleton.1 o)
 ·exact⟨rfl,rfl,rfl,rfl,rfl,rfl,Nat.le_succ _,fun e o=>.inl o⟩
theorem tB(D:Sch.err c=0)(ai:(Sch.bytes c).length<=100)(E:c.map Col.fix=c)(V:∀x∈c,x.wf){b:L8}(K:Sc.Up19 b k True)(aj:b.length<=10000)(u:Bool)(o:iz c k∨(u=O∧k.number=-1)){P:List Fr}(A:P=if u=O then [Wr.sFr 0 c] else []):
  ∃y t,Sc.Up19 (b++Wr.bytes P) y t∧iz c y∧y.frames=k.frames∧y.rows=k.rows∧y.ents=k.ents∧y.since=(if u=O then 0 else k.since)∧(Wr.bytes P).length<=200∧∀d,Wr.takes k (b.length:Nat) (P++[d])=Sc.next y d ((b++Wr.bytes P).length:Nat):=by
 cases u
 ·subst A;have o:iz c k:=by
   rcases o with h | ⟨h,-⟩
   ·exact h
   ·cases h
  exact⟨k,True,by simpa[Wr.bytes] using K,o,rfl,rfl,rfl,rfl,by simp[Wr.bytes],fun d=>by simp[Wr.bytes,Wr.takes]⟩
 have A:P=[Wr.sFr 0 c]:=A;subst A;have hd:=zk (n:=0) ⟨by decide,by decide⟩ D;have J:Sc.may k (Wr.sFr 0 c) (b.length:Nat)=true:=by
  unfold Sc.may;have L:Fr.within Fr.S ((b.length:Nat):Int)=true:=AR ⟨by omega,by show((b.length:Nat):Int)<1099511627776;omega⟩;have M:Sc.follows k (Wr.sFr 0 c) (b.length:Nat)=true:=by
   unfold Sc.follows;rw[AG (show(Wr.sFr 0 c).kind=1 from rfl)];rcases o with ⟨o,p,-,-,ab⟩ | ⟨-,o⟩
   ·rw[AG (show(Wr.sFr 0 c).number=k.number from o.symm)];unfold Sc.schAt;rw[o,ab];exact Fr.sameS_refl c
   ·rw[AF (show ¬(Wr.sFr 0 c).number=k.number from fun D=>by rw[o] at D;exact absurd (show(0:Int)=-1 from D) (by decide))];exact AR (show(0:Int)=k.number+1 by omega)
  rw[L,hd.1,M];rfl
 have X:Fr.norm (Wr.sFr 0 c)=Wr.sFr 0 c:=by
  show({ Fr0 with kind:=1,number:=0,cols:=c.map Col.fix }:Fr)=_;rw[E];rfl
 have Q:Wr.bytes [Wr.sFr 0 c]=Fr.out (Wr.sFr 0 c):=by simp[Wr.bytes]
 have ah:(Sc.take k (Wr.sFr 0 c) (b.length:Nat)).sch 0=U ⟨c,((b.length:Nat):Int)⟩:=by
  show U (Kn.mk (c.map Col.fix) _)=_;rw[E]
 rw[Q];refine⟨_,_,Sc.up_more K V X J,⟨rfl,((b.length:Nat):Int),by omega,by omega,?_⟩,rfl,rfl,rfl,rfl,by omega,fun d=>?_⟩
 ·exact ah
 ·have Z:Sc.next k (Wr.sFr 0 c) (b.length:Nat)=Sc.take k (Wr.sFr 0 c) (b.length:Nat):=AG J;rw[List.cons_append,List.nil_append,Wr.takes,Z,AH,Int.natCast_add];rfl
theorem jS(h:Lz c N R S z)(M:Sch.err c=0)(bc:(Sch.bytes c).length<=100)(bi:c.map Col.fix=c)(be:∀x∈c,x.wf)(A:iz c z.k∨z.k=Sc.new)(b0:0<=N∧N<20)(b1:0<=R∧R<900){o:List (List V)}{blk:L8}(bl:Bt.pack c o=⟨0,blk⟩)(hb:blk.length<=100)(b4:1<=o.length∧o.length<=64):
  (z.append o).1=0∧Lz c (N+1) (R+(o.length:Nat)) (if z.due=O then 1 else S+1) (z.append o).2∧iz c (z.append o).2.k∧(z.append o).2.s.b.length=z.s.b.length+(z.need o).1∧(z.need o).2=0:=by
 have b3:=h.len;have bk:z.number=0:=by
  rcases A with A | A
  ·exact qm (by rw[h.col];exact A)
  ·exact(lz A).1
 obtain⟨P,ab⟩:∃P,P=if z.due=O then [Wr.sFr 0 c] else []:=⟨_,rfl⟩;have K:z.piece o=.ok (P++[Wr.dFr 0 z.k.frames z.k.rows (o.length:Nat) blk]):=by
  unfold Wr.piece;rw[h.col,bl,bk,ab];rfl
 obtain⟨D,t,a0,X,a1,a2,Z,a3,bX,a4⟩:=tB M bc bi be h.whole (by omega) z.due (A.imp id (fun A=>⟨(lz A).2,by rw[A];rfl⟩)) ab;rw[<-a1,<-a2] at K;have b2:=h.frames;have b5:=h.rows;obtain⟨L,E⟩:=sC X a0 (by rw[AH];omega) (by omega) (by omega) (m:=(o.length:Nat)) (by omega) hb;have hd:=yO (n:=0) (q:=D.frames) (f:=D.rows) (r:=(o.length:Nat)) (b:=blk) ⟨by decide,by decide⟩ (by omega) (by omega) (by omega) (by omega);obtain⟨y,a8⟩:∃y,y=Wr.dFr 0 D.frames D.rows (o.length:Nat) blk:=⟨_,rfl⟩;obtain⟨Q,bq,b8,bs,b9,cb,bv,bN,bO,bT⟩:=kv (k:=D) (o.length:Nat) blk ((z.s.b++Wr.bytes P).length:Nat);rw[bq] at L E;rw[<-a8] at L E hd K;have ah:Wr.bytes (P++[y])=Wr.bytes P++Fr.out y:=by simp[Wr.bytes]
 have bb:(Wr.bytes P++Fr.out y).length<=400:=by rw[AH];omega
 rw[AN] at E;have bn:z.write (P++[y])=(0,⟨{ z.s with b:=z.s.b++(Wr.bytes P++Fr.out y),done:=z.s.done+(Wr.bytes P++Fr.out y).length },Q,z.c,z.up⟩):=by
  unfold Wr.write;rw[ah,jf h.alive.1 h.alive.2 (by rw[h.most];omega)];dsimp only;rw[AF (fun M=>M rfl),a4,L]
 have a9:z.append o=(0,⟨{ z.s with b:=z.s.b++(Wr.bytes P++Fr.out y),done:=z.s.done+(Wr.bytes P++Fr.out y).length },Q,z.c,z.up⟩):=by
  unfold Wr.append;rw[AF (by rw[h.up];decide),K];dsimp only;rw[bn];rfl
 have bj:z.need o=((Wr.bytes P++Fr.out y).length,0):=by
  unfold Wr.need;rw[AF (by rw[h.up];decide),K];dsimp only;rw[ah]
 have b6:=h.since;have ai:=h.ents;have b7:=h.safe;rw[a9,bj];obtain⟨bp,p,aj,ak,aw⟩:=X;refine⟨rfl,⟨h.up,h.col,E,h.alive,h.most,by simp;omega,h.told,⟨by simp only[AH] at bb ⊢;omega,by dsimp only;omega⟩,by dsimp only;omega,by dsimp only;omega,?_,bN,by dsimp only;rw[Z] at bO;omega,fun e ai=>?_⟩,⟨by dsimp only;omega,p,aj,ak,(congrFun bs 0).trans aw⟩,by simp,rfl⟩
 ·show Q.since=_;rw[bv,a3,h.since];split <;> rfl
 ·rcases bT e ai with J | J
  ·rw[Z] at J;exact h.entOk e J
  ·rw[J];unfold Fr.entOk;have a5:Fr.within Fr.S (((z.s.b++Wr.bytes P).length:Nat):Int)=true:=AR ⟨by omega,by show(((z.s.b++Wr.bytes P).length:Nat):Int)<1099511627776;rw[AH];omega⟩;have a6:Fr.within Fr.S D.rows=true:=AR ⟨by omega,by show D.rows<1099511627776;omega⟩;have a7:Fr.within Fr.S (Sc.placeAt D D.number)=true:=by
    unfold Sc.placeAt;rw[bp,aw];exact AR ⟨aj,ak⟩
   dsimp only;rw[a5,a6,a7];rfl
theorem sF(h:Lz c N R S z)(ah:0<=N∧N<20)(ai:0<=R∧R<900):z.close.1=O∧z.close.2.1=0∧z.close.2.2.up=C∧z.close.2.2.s.down=C∧z.close.2.2.s.told=z.s.told∧z.close.2.2.s.safe=z.close.2.2.s.b.length∧(z.close.2.2.s.b.length<=20000∧z.close.2.2.s.done<=20000∧z.close.2.2.s.most=10000)∧Sc.Up19 z.close.2.2.s.b { z.k with closed:=O } True:=by
 have aw:=h.len;have aj:=h.ents;have ak:=h.frames;have a0:=h.rows;obtain⟨x,o⟩:∃x,x=(⟨(z.s.b.length:Nat),z.k.frames,z.k.rows,z.k.ents⟩:Idx):=⟨_,rfl⟩;have h1:Fr.within Fr.S ((z.s.b.length:Nat):Int)=true:=AR ⟨by omega,by show((z.s.b.length:Nat):Int)<1099511627776;omega⟩;have Z:Fr.idxErr x=0:=by
  rw[o];unfold Fr.idxErr;have A:Fr.within Fr.S z.k.frames=true:=AR ⟨by omega,by show z.k.frames<1099511627776;omega⟩;have D:Fr.within Fr.S z.k.rows=true:=AR ⟨by omega,by show z.k.rows<1099511627776;omega⟩;have E:z.k.ents.all Fr.entOk=true:=List.all_eq_true.2 h.entOk;dsimp only;rw[h1,A,D,E,AF (by decide),AF (by omega),AF (by decide)]
 have a1:x.entries.length<=20:=by rw[o];dsimp only;omega
 have Q:=yW Z (by omega);have M:Sc.may z.k (Wr.xFr x) (z.s.b.length:Nat)=true:=by
  unfold Sc.may;rw[h1,Q.1];unfold Sc.follows;rw[AF (show ¬(Wr.xFr x).kind=1 from (by decide:¬(3:Int)=1)),AF (show ¬(Wr.xFr x).kind=2 from (by decide:¬(3:Int)=2))];show(O&&decide ((0:Nat)=0)&&Idx.same x _)=O;rw[o,(Idx.same_iff _ _).2 rfl];rfl
 obtain⟨j,r,u1,u2⟩:=Sc.up_more h.whole (f:=Wr.xFr x) (fun y ab=>by cases ab) rfl M;have V:Sc.take z.k (Wr.xFr x) (z.s.b.length:Nat)={ z.k with closed:=O }:=rfl;rw[V] at u1;have X:z.write [Wr.xFr x]=(0,⟨{ z.s with b:=z.s.b++Fr.out (Wr.xFr x),done:=z.s.done+(Fr.out (Wr.xFr x)).length },Wr.takes z.k (z.s.b.length:Nat) [Wr.xFr x],z.c,z.up⟩):=by
  unfold Wr.write;rw[show Wr.bytes [Wr.xFr x]=Fr.out (Wr.xFr x) by simp[Wr.bytes],jf h.alive.1 h.alive.2 (by rw[h.most];omega)];dsimp only;rw[AF (fun J=>J rfl)]
 have L:z.index=(O,0,⟨{ z.s with b:=z.s.b++Fr.out (Wr.xFr x),done:=z.s.done+(Fr.out (Wr.xFr x)).length },Wr.takes z.k (z.s.b.length:Nat) [Wr.xFr x],z.c,z.up⟩):=by
  unfold Wr.index;rw[AF (by rw[h.low];decide),<-o,X];rfl
 have K:z.close=(O,0,⟨{ z.s with b:=z.s.b++Fr.out (Wr.xFr x),done:=z.s.done+(Fr.out (Wr.xFr x)).length,safe:=(z.s.b++Fr.out (Wr.xFr x)).length },Wr.takes z.k (z.s.b.length:Nat) [Wr.xFr x],z.c,C⟩):=by
  unfold Wr.close;rw[AF (by rw[h.up];decide),L];unfold Dv.sync;simp only[h.alive.1];rfl
 rw[K];exact⟨rfl,rfl,rfl,h.alive.1,rfl,rfl,⟨by simp;omega,by dsimp only;omega,h.most⟩,j,r,u1,fun _=>u2 (by show ¬(3:Int)=1;decide)⟩
end
theorem mZ{s:Dv.St}(o:Sch.err c=0)(hd:s.down=C)(h:Sc.Up19 s.b k True):Wr.opens s c=(0,U ⟨s,k,c.map Col.fix,O⟩,s):=by
 obtain⟨j,r,y,A,D⟩:=Sc.up_whole h;unfold Wr.opens;rw[AF (by rw[o];decide),AF (by rw[hd];decide),Sc.whole_of y A];have E:Rp.do_ s (Rp.look s.b j s.b.length 140)=(0,0,s):=by
  unfold Rp.look;rw[AF (fun o=>o.1 rfl),D];show(if s.b.length=s.b.length then _ else _)=_;rw[AG rfl]
 dsimp only;rw[E];dsimp only;rw[AF (fun o=>o rfl),Sc.whole_of y A]
theorem pG{z:Wr}(y:z.up=O)(hd:z.s.down=C)(o:z.k.closed=O):z.close=(C,0,{ z with s:={ z.s with safe:=z.s.b.length },up:=C }):=by
 unfold Wr.close;rw[AF (by rw[y];decide)];unfold Wr.index;rw[AG o];unfold Dv.sync;simp only[hd];rfl
def aG:List Col:=[⟨⟨#[97]⟩,.mk 2 [],C,V0⟩]
def aE(i:Int):List V:=[.mk 2 i 0 ⟨#[]⟩ []]
theorem gD:∀c∈aG,c.wf:=by
 intro c o;rcases List.mem_cons.1 o with rfl | o
 ·exact⟨by decide,Ty.wf_mk.2 ⟨by omega,fun x y=>by cases y⟩,Sch.v0_wf⟩
 ·cases o
theorem eX:Sch.bytes aG=[1,1,97,2,0]:=by
 unfold Sch.bytes aG Sch.cB;simp only[List.map_cons,List.map_nil,Sch.tyB_mk]
 kernel_rfl
theorem cJ:Sch.err aG=0:=Sch.err_make (by decide) (by decide) (by
 unfold aG
 rw[Sch.colsErr,AG (Sch.col_make (by kernel_rfl) rfl (Sch.ty_leaf (by omega) (by omega) (by omega)) (fun _=>Sch.v0_fix) (fun h=>by cases h)),Sch.colsErr]) (by rw[eX];decide)
theorem ig:aG.map Col.fix=aG:=by
 unfold aG Col.fix;simp[V0,V.fix_mk,Sch.fixB_zero,V.fixL]
theorem te(i:Int)(h:0<=i∧i<10):∀v∈aE i,v.wf:=by
 intro v o;rcases List.mem_cons.1 o with rfl | o
 ·exact V.wf_mk.2 ⟨by omega,by omega,by omega,Nat.zero_le _,fun x y=>by cases y⟩
 ·cases o
theorem mT(i:Int):(Rw.bytes (aE i)).length<=10∧Rw.err aG (aE i)=0:=by
 have hb:(Rw.bytes (aE i)).length<=10:=by
  unfold Rw.bytes aE;simp only[List.map_cons,List.map_nil,Sch.vB_mk];simp[Sch.vH];exact Leb.put_length_le _
 refine⟨hb,Rw.err_make cJ rfl ?_ (by omega)⟩;have o:Rw.vErr (.mk 2 []) (.mk 2 i 0 ⟨#[]⟩ [])=0:=Rw.vErr_make (Sch.ty_leaf (by omega) (by omega) (by omega)) (Sch.chk_make (by omega) (by unfold V.ownB;simp[Sch.fixB_zero]) (Nat.zero_le _) (by simp) (fun h=>by cases h) (fun x y=>by cases y)) (by rw[Sch.of_mk];rfl);unfold aG aE;rw[Rw.colsErr,AG o,Rw.colsErr];intro c s v r h;cases h
theorem kE{l:List Int}(h:l.length=1∨l.length=2):∃blk,Bt.pack aG (l.map aE)=⟨0,blk⟩∧blk.length<=100:=by
 have o:∀l:List Int,(Bt.bytes (l.map aE)).length<=10*l.length∧Bt.rowsErr aG (l.map aE)=0:=by
  intro l;induction l with
  |nil=>exact⟨by simp[Bt.bytes],rfl⟩
  |cons x l ih=>
   rw[List.map_cons,Bt.bytes,Bt.rowsErr,AG (mT x).2,AH,AI];have:=(mT x).1;exact⟨by omega,ih.2⟩
 have hb:=(o l).1;have y:Bt.err aG (l.map aE)=0:=Bt.err_make (Bt.numErr_make cJ (by rw[List.length_map];omega) (by rw[List.length_map];omega)) (o l).2 (by omega);unfold Bt.pack Blk.pack;rw[AG y,AF (by omega)];split
 ·exact⟨_,rfl,by omega⟩
 ·exact⟨_,rfl,by rw[AI];omega⟩
theorem qU{z:Wr}(D:z.up=O)(A:z.c=aG):z.append []=(4,z)∧z.append [[]]=(80,z):=by
 have o:Bt.err aG []=4:=by
  unfold Bt.err Bt.numErr;rw[cJ];rfl
 have y:Bt.err aG [[]]=80:=by
  unfold Bt.err;rw[Bt.numErr_make cJ (by decide) (by decide)];have:Rw.err aG []=80:=by
   unfold Rw.err;rw[cJ];rfl
  unfold Bt.rowsErr;rw[this];rfl
 constructor
 all_goals
  unfold Wr.append Wr.piece Bt.pack;rw[AF (by rw[D];decide),A];simp[o,y]
theorem vR{z:Wr}(y:0<=i∧i<8)(h:Lz aG (1+i) (2+i) (if i<8 then 1+i else 1) z)(A:iz aG z.k):(z.append [aE i]).1=0∧Lz aG (1+(i+1)) (2+(i+1)) (if i+1<8 then 1+(i+1) else 1) (z.append [aE i]).2∧iz aG (z.append [aE i]).2.k:=by
 obtain⟨blk,V,hb⟩:=kE (l:=[i]) (.inl rfl);obtain⟨E,o,J,-⟩:=jS h cJ (by rw[eX];decide) ig gD (.inl A) (by omega) (by omega) V hb ⟨by simp,by simp⟩;refine⟨E,?_,J⟩;have hd:=wN (z:=z) (by rw[h.col];exact A);have D:=h.since;rw[AG y.2] at D;rw[hd,D] at o;have K:(if decide (8<=1+i)=O then (1:Int) else (if i<8 then 1+i else 1)+1)=if i+1<8 then 1+(i+1) else 1:=by
  by_cases Q:i=7
  ·subst Q;decide
  ·rw[AF (by simp;omega),AG y.2,AG (by omega)];omega
 rw[K] at o;have L:(2:Int)+i+(([i].map aE).length:Nat)=2+(i+1):=by simp;omega
 have M:(1:Int)+i+1=1+(i+1):=by omega
 rw[L,M] at o;exact o
theorem wY:Lz aG 0 0 0 ⟨Dv.new 10000,Sc.new,aG,O⟩:=⟨rfl,rfl,Sc.up_nil,⟨rfl,rfl⟩,rfl,Nat.zero_le _,Nat.zero_le _,⟨by decide,by decide⟩,rfl,rfl,rfl,rfl,by decide,fun e o=>by cases o⟩
theorem Lz.tl{N R S:Int}{z:Wr}(h:Lz c N R S z){t:Nat}(o:t<=30000000000):Lz c N R S { z with s:={ z.s with told:=t } }:=⟨h.up,h.col,h.whole,h.alive,h.most,h.safe,o,h.len,h.frames,h.rows,h.since,h.low,h.ents,h.entOk⟩
theorem wH{z:Wr}(h:Lz aG 0 0 0 z)(o:z.k=Sc.new):(z.append [aE 1,aE 2]).1=0∧Lz aG 1 2 1 (z.append [aE 1,aE 2]).2∧iz aG (z.append [aE 1,aE 2]).2.k∧(z.append [aE 1,aE 2]).2.s.b.length=z.s.b.length+(z.need [aE 1,aE 2]).1∧(z.need [aE 1,aE 2]).2=0:=by
 obtain⟨blk,y,hb⟩:=kE (l:=[1,2]) (.inr rfl);have:=jS h cJ (by rw[eX];decide) ig gD (.inr o) (by omega) (by omega) y hb ⟨by simp,by simp⟩;rw[(lz o).2] at this;exact this
end
section
open Go.RowKit Go.Maps
attribute [local go_sem] al
def ii:AV:=#[qj ⟨#[97]⟩,px sw 2,Y I 0 0,.bool C,px sw 0,px sw 0,.float .f64 0,qj ⟨#[]⟩,Y I 0 0]
theorem js{b:Nat}(D:W.1[b]?=U (F ii 104 (0,0))):ef W (U ⟨b,0,I⟩) 1 aG:=by
 refine⟨by decide,by decide,?_,gD⟩;have o:=aa D;intro j y;have E:j<1:=y;obtain rfl:j=0:=by omega
 refine⟨aB ⟨#[97]⟩ 2 I 0 0 C 0 0 0 ⟨#[]⟩ I 0 0,⟨2,I,0,0,0,0,0,⟨#[]⟩,I,0,0,rfl,.mk (xs:=[]) (fun _=>#[]) (by simp) (by simp) (fun A=>absurd rfl A) (fun j y=>by simp at y),.mk (xs:=[]) (fun _=>#[]) (by simp) (by simp) (fun A=>absurd rfl A) (fun j y=>by simp at y)⟩,⟨b,0,⟨#[97]⟩,2,I,0,0,C,0,0,0,⟨#[]⟩,I,0,0,rfl,ap D,rfl,?_⟩⟩;exact⟨o 0,o 1,o 2,o 3,o 4,o 5,o 6,o 7,o 8⟩
theorem xu(w:World):Calls AE 17 #[] w fun e w'=>∃b,e=wv (.agg #[Y (U ⟨b,0,I⟩) 1 1])∧w.1.size<=b∧w'.1[b]?=U (F ii 104 (0,0))∧AC w.1.size w w':=by
 obtain⟨W,o⟩:∃W,W=(w.alloc (F #[Y (U ⟨w.1.size+1,0,I⟩) 1 1] 35)).alloc (F ii 104):=⟨_,rfl⟩;have y:W.1[w.1.size]?=U (F #[Y (U ⟨w.1.size+1,0,I⟩) 1 1] 35 (0,0)):=by rw[o,ay _ _ (by simp)];exact an w _
 have A:W.1[w.1.size+1]?=U (F ii 104 (0,0)):=by
  rw[o];have:=an (w.alloc (F #[Y (U ⟨w.1.size+1,0,I⟩) 1 1] 35)) (F ii 104);simpa using this
 have J:Hid (AC w.1.size w W):=by rw[o];exact gQy.alloc (by simp) _
 have E:=gQq A;have D:=gQq y;have K:Hid ((w.alloc (F #[Y (U ⟨w.1.size+1,0,I⟩) 1 1] 35)).alloc (F #[qj ⟨#[97]⟩,px sw 2,Y I 0 0,.bool C,px sw 0,px sw 0,.float .f64 0,qj ⟨#[]⟩,Y I 0 0] 104)=W):=o.symm;clear y A o;go_enter func17,ntmps17;go_wp2;rw[K.out];refine bodyPost_ret (results_cell_row rfl _ _ w.1.size _ _ _ _ rfl D.out underlying35 rfl (by kernel_rfl)) rfl ?_;exact⟨_,rfl,Nat.le_succ _,E.out,J.out⟩
theorem oE{b:Nat}(A:0<=i∧i<10){T:TypeId}(h:W.1[b]?=U (F #[px sw 2,px sw i,.float .f64 0,qj ⟨#[]⟩,Y I 0 0] T (0,0))):dN W (U ⟨b,0,I⟩) 1 (aE i):=by
 refine⟨.mk (xs:=aE i) (fun _=>cells5 2 i 0 ⟨#[]⟩ I 0 0) (by show 1*64<=140737488351232;decide) (by show 1<=1;decide) (fun _=>⟨b,0,rfl,ap h,fun j o m D=>?_⟩) (fun j o=>?_),te i A⟩
 ·have:j=0:=by have:j<1:=o;omega
  subst this;rw[aa h];simp[cells5]
 ·have:j=0:=by have:j<1:=o;omega
  subst this;exact .mk (xs:=[]) (fun _=>#[]) (by simp) (by simp) (fun y=>absurd rfl y) (fun j o=>by simp at o)
theorem jo(i:Int)(L:0<=i∧i<10)(w:World):Calls AE 18 #[px sw i] w fun e w'=>∃p,e=wv (.agg #[Y p 1 1])∧dN w' p 1 (aE i)∧AC w.1.size w w':=by
 obtain⟨W,o⟩:∃W,W=(w.alloc (F #[Y (U ⟨w.1.size+1,0,I⟩) 1 1] 64)).alloc (F #[px sw 2,px sw i,.float .f64 0,qj ⟨#[]⟩,Y I 0 0] 102):=⟨_,rfl⟩;have y:W.1[w.1.size]?=U (F #[Y (U ⟨w.1.size+1,0,I⟩) 1 1] 64 (0,0)):=by rw[o,ay _ _ (by simp)];exact an w _
 have A:W.1[w.1.size+1]?=U (F #[px sw 2,px sw i,.float .f64 0,qj ⟨#[]⟩,Y I 0 0] 102 (0,0)):=by
  rw[o];have:=an (w.alloc (F #[Y (U ⟨w.1.size+1,0,I⟩) 1 1] 64)) (F #[px sw 2,px sw i,.float .f64 0,qj ⟨#[]⟩,Y I 0 0] 102);simpa using this
 have J:Hid (AC w.1.size w W):=by rw[o];exact gQy.alloc (by simp) _
 have E:=gQq (oE L A);have D:=gQq y;have K:=gQq o.symm;clear y A o;go_enter func18,ntmps18;go_wp2;rw[K.out];refine bodyPost_ret (results_cell_row rfl _ _ w.1.size _ _ _ _ rfl D.out underlying64 rfl (by kernel_rfl)) rfl ?_;exact⟨_,rfl,E.out,J.out⟩
def fE(w0 w:World)(a g N:Nat)(z:Wr):Prop:=∃m M n v e x k gm q cap,KWr w w0.1.size a g m M n v e x k gm q cap z (fun _=>False)∧n<=N∧AC w0.1.size w0 w
theorem fE.on{N:Nat}{z:Wr}(h:fE w0 w a g N z)(hb:AC w.1.size w w'):fE w0 w' a g N z:=by
 obtain⟨m,y,n,v,e,x,k,A,q,cap,D,E,o⟩:=h;exact⟨m,y,n,v,e,x,k,A,q,cap,D.on hb,E,o.trans (hb.mono o.size)⟩
theorem fE.below{N:Nat}{z:Wr}(h:fE w0 w a g N z):AC w0.1.size w0 w:=by
 obtain⟨m,y,n,v,e,x,k,A,q,cap,D,E,o⟩:=h;exact o
theorem Apd.ex19{m y N:Nat}{e:Value}{k:Nat}{K:Int->Option Value}{q:OA}{cap:Nat}{z E:Wr}(h:KWr w w0.1.size a g m y n v e x k K q cap z (fun _=>False))(V:n<=N)(A:AC w0.1.size w0 w)(D:Apd w w0.1.size a g m y n v e q cap E (fun _=>False) w'):fE w0 w' a g (N+2) E:=by
 obtain⟨v',J,Q,k',L,M,-⟩:=D.out;refine⟨m,y,n+2,v',J,Q,k',L,q,cap,M,by omega,A.trans (D.aside.below A.size fun i X o=>?_)⟩;rcases o with o | (o | o) | o
 ·have:=h.base;omega
 ·have:=h.dev.base;omega
 ·have:=(h.dev.has.lt i o).1;omega
 ·rcases o with o | o | o
  ·have:=h.walk.base;omega
  ·have:=h.walk.base;omega
  ·have:=(h.walk.ents.lt i o).1;omega
theorem dV{N:Nat}{z:Wr}(h:fE w0 w a g N z)(E:Hv w0)(ai:N<900000000)(Z:z.s.safe<=z.s.b.length)(hl:z.s.b.length<=2097152)(Q:z.s.most<=1048576)(hd:z.s.done<4000000000000000000){o:List (List V)}{J:OA}{rd:Nat}(L:cQ w J rd o):
  Calls AE 15 #[.pointer (U ⟨a,0,I⟩),Y J o.length rd] w fun y w'=>y=wv (px sw ((z.append o).1:Nat))∧fE w0 w' a g (N+2) (z.append o).2:=by
 obtain⟨m,M,n,v,e,x,k,ah,q,cap,A,K,D⟩:=h;refine(kJ A ⟨id,id,fun _ _=>id⟩ L (E.next D) E.lt (by omega) Z hl Q (by omega)).mono ?_;rintro y w' ⟨rfl,X⟩;exact⟨rfl,X.ex19 A K D⟩
theorem fX{N:Nat}{z:Wr}(h:fE w0 w a g N z)(D:Hv w0)(X:N<900000000)(M:z.s.safe<=z.s.b.length)(J:z.s.b.length<=2097152)(K:z.s.most<=1048576)(hd:z.s.done<4000000000000000000):
  Calls AE 19 #[.pointer (U ⟨a,0,I⟩)] w fun o w'=>o=wv (.tuple #[.bool z.close.1,px sw (z.close.2.1:Nat)])∧fE w0 w' a g (N+2) z.close.2.2:=by
 obtain⟨m,Q,n,v,e,x,k,V,q,cap,y,E,A⟩:=h;refine(nv y ⟨id,id,fun _ _=>id⟩ (D.next A) D.lt (by omega) M J K (by omega)).mono ?_;rintro o w' ⟨rfl,L⟩;exact⟨rfl,L.ex19 y E A⟩
theorem kW{s:Dv.St}{k:Nat}(h:ax w w0.1.size g v s x k)(hb:AC w0.1.size w0 w)(E:Hv w0)(X:He w0){u:Wk}(aj:Sc.Up19 s.b u True)(Z:s.b.length<=2097152)(ab:s.safe<=s.b.length)(V:s.done<4611686018427387904)(ah:s.told<=100000000000000)(hd:s.down=C){b:Nat}(o:w.1[b]?=U (F ii 104 (0,0)))(ak:∀i,i=g∨v.ownBlock=U i->i≠b):
  Calls AE 16 #[.pointer (U ⟨g,0,I⟩),.agg #[Y (U ⟨b,0,I⟩) 1 1]] w fun e w'=>∃a t,e=wv (.tuple #[.pointer (U ⟨a,0,I⟩),px sw 0])∧t<=s.told+8000000000∧fE w0 w' a g 2097153 ⟨{ s with told:=t },u,aG,O⟩:=by
 refine(qs h (fun _=>False) (fun i y=>y.elim) aG _ 1 (by decide) (js o).cols gD (fun w' A=>(js ((A.block b (ap o) (fun y=>ak b y rfl)).trans o)).cols) Z ab V ah (E.next hb) (X.on hb) E.lt hb.size).mono ?_;rintro e w' ⟨t,v',aw,k',ai,a0,A,a1,D⟩;rw[mZ cJ hd aj,ig] at D;obtain⟨a,m,J,n,K,L,q,cap,rfl,M,Q,-⟩:=D;refine⟨a,t,rfl,ai,m,J,n,v',K,aw,k',L,q,cap,M,Q,hb.trans (A.below hb.size fun i y o=>?_)⟩;rcases o with o | o
 ·have:=h.base;omega
 ·have:=(h.has.lt i o).1;omega
theorem sf{N:Nat}{z:Wr}(h:fE w0 w a g N z)(K:Hv w0){o:List (List V)}{y:OA}{rd:Nat}(J:cQ w y rd o):
  Calls AE 14 #[.pointer (U ⟨a,0,I⟩),Y y o.length rd] w fun A w'=>A=wv (.tuple #[px sw ((z.need o).1:Nat),px sw ((z.need o).2:Nat)])∧AC w.1.size w w':=by
 obtain⟨m,L,n,v,e,x,k,M,q,cap,D,Q,E⟩:=h;exact wy D J (K.next E)
theorem uC{N:Nat}{z:Wr}(h:fE w0 w a g N z):Calls AE 11 #[.pointer (U ⟨g,0,I⟩)] w fun e w'=>e=wv (px sw (z.s.b.length:Nat))∧w'=w:=by
 obtain⟨m,y,n,v,e,x,k,A,q,cap,o,D,E⟩:=h;exact lG o.dev
theorem dS{b:Nat}{T:TypeId}(l:List (OA×List V))(A:l.length<=2)(h:W.1[b]?=U (F (l.map fun x=>Y x.1 x.2.length x.2.length).toArray T (0,0)))(y:∀x∈l,dN W x.1 x.2.length x.2):cQ W (U ⟨b,0,I⟩) l.length (l.map (·.2)) :=
 ⟨by rw[List.length_map];omega,by rw[List.length_map];exact gQx,fun j o=>by
  rw[List.length_map] at o;refine⟨b,0,l[j].1,l[j].2.length,rfl,ap h,?_,?_⟩
  ·rw[Nat.zero_add,aa h];simp[o]
  ·rw[List.getElem_map]
   exact y _ (Aw o)⟩
theorem rl(W:World):cQ W I 0 []:=⟨by decide,by decide,fun j o=>absurd o (Nat.not_lt_zero _)⟩
theorem tJ(W:World):dN W I 0 []:=⟨.mk (xs:=[]) (fun _=>#[]) (by simp) (by simp) (fun o=>absurd rfl o) (fun j y=>by simp at y),fun v A=>by cases A⟩
theorem yb(w:World)(ew:Hv w)(eb:He w):Calls AE 6 #[] w fun e w'=>e=wv (.bool O)∧AC w.1.size w w':=by
 have J:=gQq ew;have cs:=gQq eb;have ct:=gQq (qt 10000 (by decide) w);clear ew eb;go_enter func6,ntmps6;go_wp2_with fail;refine ct.out.mono ?_;rintro e w1 ⟨rfl,ea,d3⟩;have bq:=gQq ea;have bl:=gQq d3;clear ea d3 ct;go_wp2_with fail;refine(xu w1).mono ?_;rintro e g8 ⟨gb,rfl,e8,a1,b3⟩;have cw:=gQq (kW (bq.out.below b3) (bl.out.trans (b3.mono bl.out.size)) J.out cs.out Sc.up_nil (by show 0<=_;decide) gQx (by show 0<_;decide) (Nat.zero_le _) rfl a1 (fun i A=>by
  rcases A with A | A
  ·have:=bq.out.lt;omega
  ·cases A))
 clear e8 a1 b3 bq bl;go_wp2_with fail;refine cw.out.mono ?_;rintro e f0 ⟨a,t,rfl,er,cd⟩;obtain⟨z,o⟩:∃z,z=(⟨{ Dv.new 10000 with told:=t },Sc.new,aG,O⟩:Wr):=⟨_,rfl⟩;rw[<-o] at cd;have dr:=gQq cd;have a9:Hid (Lz aG 0 0 0 z∧z.k=Sc.new):=by rw[o];exact⟨wY.tl (by have:t<=0+8000000000:=er;omega),rfl⟩
 have ah:=gQq (wH a9.out.1 a9.out.2);clear er cd o cw;go_wp2_with fail;refine(jo 1 (by decide) f0).mono ?_;rintro e w4 ⟨p4,rfl,el,d6⟩;have cy:=gQq el;have ds:=gQq (dr.out.on d6);clear el d6 dr;go_wp2_with fail;refine(jo 2 (by decide) w4).mono ?_;rintro e w5 ⟨be,rfl,em,b4⟩;have bv:=gQq (And.intro (cy.out.on b4) em);have bT:=gQq (ds.out.on b4);clear em b4 ds cy;have a0:∀D,AC w5.1.size w5 (w5.alloc D):=fun D=>gQz.alloc gQx D;have a8:=gQq (sf (bT.out.on (a0 _)) J.out (dS (W:=w5.alloc (F #[Y p4 1 1,Y be 1 1] 64)) [(p4,aE 1),(be,aE 2)] gQx (an w5 _) (fun x hx=>by
  rcases List.mem_cons.1 hx with rfl | hx
  ·exact bv.out.1.on (a0 _)
  ·rw[List.mem_singleton.1 hx];exact bv.out.2.on (a0 _))))
 have du:=gQq (bT.out.on (a0 (F #[Y p4 1 1,Y be 1 1] 64)));rw[show([(p4,aE 1),(be,aE 2)].map (·.2))=[aE 1,aE 2] from rfl,ah.out.2.2.2.2] at a8;obtain⟨ci,ak⟩:∃ci,ci=(z.need [aE 1,aE 2]).1:=⟨_,rfl⟩;rw[<-ak] at a8;have cu:=gQq ak;clear a0 bT bv ak;go_wp2_with fail;refine a8.out.mono ?_;rintro e f2 ⟨rfl,d7⟩;have dv:=gQq (du.out.on d7);clear d7 a8 du;go_wp2_with fail;refine(jo 1 (by decide) f2).mono ?_;rintro e f3 ⟨ck,rfl,en,d8⟩;have c5:=gQq en;have d0:=gQq (dv.out.on d8);clear en d8 dv;go_wp2_with fail;refine(jo 2 (by decide) f3).mono ?_;rintro e a4 ⟨cn,rfl,ep,b5⟩;have bN:=gQq (And.intro (c5.out.on b5) ep);have d1:=gQq (d0.out.on b5);clear ep b5 d0 c5;have bb:∀D,AC a4.1.size a4 (a4.alloc D):=fun D=>gQz.alloc gQx D;have o:=a9.out.1;have Z:=o.len;have a5:=gQq (dV (d1.out.on (bb _)) J.out (by decide) o.safe (by omega) (by rw[o.most];decide) (by omega) (dS (W:=a4.alloc (F #[Y ck 1 1,Y cn 1 1] 64)) [(ck,aE 1),(cn,aE 2)] gQx (an a4 _) (fun x hx=>by
  rcases List.mem_cons.1 hx with rfl | hx
  ·exact bN.out.1.on (bb _)
  ·rw[List.mem_singleton.1 hx];exact bN.out.2.on (bb _))))
 rw[show([(ck,aE 1),(cn,aE 2)].map (·.2))=[aE 1,aE 2] from rfl,ah.out.1] at a5;obtain⟨y,bc⟩:∃y,y=(z.append [aE 1,aE 2]).2:=⟨_,rfl⟩;rw[<-bc] at a5;have aw:Hid (Lz aG 1 2 1 y∧iz aG y.k):=by rw[bc];exact⟨ah.out.2.1,ah.out.2.2.1⟩
 have ak:y.s.b.length=ci:=by
  rw[bc,ah.out.2.2.2.1,cu.out];omega
 clear bb d1 bN bc ah a9 cu o Z;go_wp2_with fail;refine a5.out.mono ?_;rintro e fo ⟨rfl,b9⟩;have c9:=gQq b9;have bs:=gQq (uC b9);rw[ak] at bs;have bX:=gQq (qU aw.out.1.up aw.out.1.col);have o:=aw.out.1;have Z:=o.len;clear b9 a5 ak;go_wp2_with fail;refine bs.out.mono ?_;rintro e fq ⟨rfl,E⟩;rw[E];clear E fq;have bj:=gQq (dV c9.out J.out (by decide) o.safe (by omega) (by rw[o.most];decide) (by omega) (rl fo));rw[bX.out.1] at bj;clear bs c9;go_wp2_with fail;refine bj.out.mono ?_;rintro e a2 ⟨rfl,ez⟩;have d4:∀D,AC a2.1.size a2 (a2.alloc D):=fun D=>gQz.alloc gQx D;have bk:=gQq (dV (ez.on (d4 _)) J.out (by decide) o.safe (by omega) (by rw[o.most];decide) (by omega) (dS (W:=a2.alloc (F #[Y I 0 0] 64)) [(I,[])] (by decide) (an a2 _) (fun x hx=>by
  rw[List.mem_singleton.1 hx];exact tJ _)))
 rw[show([((I:OA),([]:List V))].map (·.2))=[[]] from rfl,bX.out.2] at bk;clear ez d4 o Z bj bX;go_wp2_with fail;refine bk.out.mono ?_;rintro e fs ⟨rfl,eC⟩;have df:Hid (fE w fs a w.1.size 2097159 y):=gQq eC;clear eC bk;go_wp2_with fail;go_loopw [11] (fun co wr=>∃(i:Int) (u:Wr),0<=i∧i<=8∧co=px sw i∧Hid (fE w wr a w.1.size (2097159+2*i.toNat) u∧Lz aG (1+i) (2+i) (if i<8 then 1+i else 1) u∧iz aG u.k)) (fun co _=>8-(intOf co).toNat);case atStart=>exact⟨0,y,by decide,by decide,rfl,df.out,aw.out⟩
 case round=>
  obtain⟨i,u,e9,gt,rfl,Q⟩:=hrel;clear df aw;by_cases A:i<8
  ·go_wp2_with fail;refine(jo i (by omega) _).mono ?_;rintro e a3 ⟨cj,rfl,eg,d5⟩;have b1:∀D,AC a3.1.size a3 (a3.alloc D):=fun D=>gQz.alloc gQx D;have o:=Q.out.2.1;have Z:=o.len;have bi:=gQq (dV ((Q.out.1.on d5).on (b1 _)) J.out (by omega) o.safe (by omega) (by rw[o.most];decide) (by omega) (dS (W:=a3.alloc (F #[Y cj 1 1] 64)) [(cj,aE i)] (Nat.le_succ 1) (an a3 _) (fun x hx=>by
    rw[List.mem_singleton.1 hx];exact eg.on (b1 _))))
   have b8:=vR ⟨e9,A⟩ o Q.out.2.2;rw[show([(cj,aE i)].map (·.2))=[aE i] from rfl,b8.1] at bi;have e3:=gQq b8.2;clear b1 o Z eg d5 b8 Q;go_wp2_with fail;refine bi.out.mono ?_;rintro e fv ⟨rfl,eL⟩;have e4:Hid (fE w fv a w.1.size (2097159+2*(i+1).toNat) (u.append [aE i]).2):=by
    rw[show 2097159+2*(i+1).toNat=2097159+2*i.toNat+2 by omega];exact eL
   clear eL bi;go_wp2;go_roundw;case rel=>exact⟨i+1,_,by omega,by omega,by go_num,e4.out,e3.out⟩
   case measure=>simp[intOf];omega
  ·obtain rfl:i=8:=by omega
   have o:=Q.out.2.1;have Z:=o.len;have a6:=gQq (fX Q.out.1 J.out (by decide) o.safe (by omega) (by rw[o.most];decide) (by omega));have HC:=gQq (sF o (by decide) (by decide));obtain⟨c,b6⟩:∃c,c=u.close:=⟨_,rfl⟩;rw[<-b6] at a6 HC;rw[HC.out.1,HC.out.2.1] at a6;have bO:=gQq o.told;have a7:=gQq (And.intro o.frames (And.intro o.rows o.since));clear o Z b6 Q;go_wp2_with fail;refine a6.out.mono ?_;rintro e g4 ⟨rfl,cb⟩;have e5:=gQq cb;have a1:c.2.2.close=(C,6,c.2.2):=AG HC.out.2.2.1;have bn:=gQq (fX cb J.out (by decide) (by rw[HC.out.2.2.2.2.2.1];exact gQx) (by have:=HC.out.2.2.2.2.2.2.1.1;omega) (by rw[HC.out.2.2.2.2.2.2.1.2.2];decide) (by have:=HC.out.2.2.2.2.2.2.1.2.1;omega));rw[a1] at bn;clear cb a1 a6;go_wp2_with fail;refine bn.out.mono ?_;rintro e fx ⟨rfl,e0⟩;have dj:=gQq e0;clear e0 bn e5;go_wp2_with fail;refine(xu fx).mono ?_;rintro e g5 ⟨f9,rfl,e7,d9,b2⟩;obtain⟨m,M,n,v,gh,x,k,gq,q,cap,L,b0,h3⟩:=dj.out;have cv:=gQq (kW (L.dev.below b2) (h3.trans (b2.mono h3.size)) J.out cs.out HC.out.2.2.2.2.2.2.2 (by have:=HC.out.2.2.2.2.2.2.1.1;omega) (by rw[HC.out.2.2.2.2.2.1];exact gQx) (by have:=HC.out.2.2.2.2.2.2.1.2.1;omega) (by rw[HC.out.2.2.2.2.1];have:=bO.out;omega) HC.out.2.2.2.1 d9 (fun i A=>by
    rcases A with A | A
    ·have:=L.dev.lt;omega
    ·have:=(L.dev.has.lt i A).2;omega))
   clear L b0 h3 e7 d9 b2 dj;go_wp2_with fail;refine cv.out.mono ?_;rintro e g6 ⟨f8,e1,rfl,ev,cc⟩;have c7:=gQq ev;have e6:=gQq cc;have bp:=gQq (fX cc J.out (by decide) (by show c.2.2.s.safe<=c.2.2.s.b.length;rw[HC.out.2.2.2.2.2.1];exact gQx) (by show c.2.2.s.b.length<=_;have:=HC.out.2.2.2.2.2.2.1.1;omega) (by show c.2.2.s.most<=_;rw[HC.out.2.2.2.2.2.2.1.2.2];decide) (by show c.2.2.s.done<_;have:=HC.out.2.2.2.2.2.2.1.2.1;omega));rw[pG (z:=⟨{ c.2.2.s with told:=e1 },{ u.k with closed:=O },aG,O⟩) rfl HC.out.2.2.2.1 rfl] at bp;clear ev cc cv;go_wp2_with fail;refine bp.out.mono ?_;rintro e g7 ⟨rfl,fc⟩;obtain⟨gN,f6,g0,fi,gl,ha,gL,gs,g1,gd,L,b0,h3⟩:=fc;have c8:=gQq (lF (G:=fun i=>i=w.1.size∨fi.ownBlock=U i) L.dev HC.out.2.2.2.1 (by show c.2.2.s.b.length<=_;have:=HC.out.2.2.2.2.2.2.1.1;omega) (by show e1<=_;have:=c7.out;rw[HC.out.2.2.2.2.1] at this;have:=bO.out;omega) (J.out.next h3) J.out.lt h3.size (fun i A=>A) (fun i A=>by
    rcases A with A | A
    ·have:=L.dev.lt;omega
    ·exact(L.dev.has.lt i A).2))
   have cp:=gQq h3;clear L b0 h3 bp e6;go_wp2_with fail;refine c8.out.mono ?_;rintro e fy ⟨j,X,gm,g3,gn,ec,eq,rfl,hk,-,d2⟩;obtain⟨gz,g2,u1,u2,-⟩:=Sc.up_whole HC.out.2.2.2.2.2.2.2;have b7:=(Sc.whole_of ec eq).symm.trans (Sc.whole_of u1 u2);injection b7 with _ b7;injection b7 with hX her;subst hX;subst her;have f4:=gQq hk;have e2:Hid (AC w.1.size w fy):=cp.out.trans (d2.below cp.out.size fun i A b6=>by omega);obtain⟨K,aj⟩:∃K,K=({ u.k with closed:=O }:Wk):=⟨_,rfl⟩;rw[<-aj] at hk;have cr:=gQq (jb hk);have cx:=gQq (nu hk);have c6:=gQq (tZ hk);have cq:=gQq (qu hk);rw[show K.frames=9 by rw[aj];exact a7.out.1] at cr;rw[show K.rows=10 by rw[aj];exact a7.out.2.1] at cx;rw[show K.since=1 by rw[aj];exact a7.out.2.2] at c6;rw[show K.closed=O by rw[aj]] at cq;clear ec eq hk d2 u1 u2 c8 aj a7 HC bO c7
   go_wp2_with (first|(refine cr.out.mono ?_;rintro e w' ⟨rfl,E⟩;rw[E];clear E w')|(refine cx.out.mono ?_;rintro e w' ⟨rfl,E⟩;rw[E];clear E w')|(refine c6.out.mono ?_;rintro e w' ⟨rfl,E⟩;rw[E];clear E w')|(refine cq.out.mono ?_;rintro e w' ⟨rfl,E⟩;rw[E];clear E w'))
   go_ret;exact⟨rfl,e2.out⟩
end
end Go.Proofs.YtngmnfdaedlodaaGreatDoor
