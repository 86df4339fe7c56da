import Derived.Test.YtngmnfdaedlodaaGreatDoorA7
set_option maxRecDepth 100000
set_option maxHeartbeats 4000000
namespace Go.Proofs.YtngmnfdaedlodaaGreatDoor
open Go.Value renaming int->I,slice->N,pointer->qq
open Go.IntKind renaming i64->U
open Bool renaming true->Y
open Option renaming none->F,some->R
variable{B g q qn t zb:Nat}{w w1 wr:World}{k:Wk}
section
namespace Al
structure Sure(q:Nat)(s:Dv.St):Prop where
 down:s.down=false
 bound:s.bound=false
 most:s.most=q
 len:s.b.length<=q
theorem write_sure{s:Dv.St}(h:Sure q s)(l:L8):Dv.write s l=if q<s.b.length+l.length then (52,s) else (0,{ s with b:=s.b++l,done:=s.done+l.length }):=by
 obtain⟨y,A,D,J⟩:=h;subst D;unfold Dv.write;rw[AF (by simp[y]),lay_free l s A];by_cases o:s.most<s.b.length+l.length
 ·rw[AG ⟨fun E=>by rw[E] at o;simp at o;omega,o⟩,AG o]
 ·rw[AF (fun h=>o h.2),AF o];rfl
theorem write_keep{s:Dv.St}(h:Sure q s)(l:L8):Sure q (Dv.write s l).2:=by
 rw[write_sure h];split
 ·exact h
 ·exact⟨h.down,h.bound,h.most,by simp only[AH];omega⟩
theorem writes_keep{z:Wr}(h:Sure q z.s)(l:List Fr):Sure q (z.write l).2.s:=by
 have:=write_keep h (Wr.bytes l);unfold Wr.write;dsimp only;split <;> exact this
theorem sync_keep{s:Dv.St}(h:Sure q s):Sure q (Dv.sync s).2:=by
 unfold Dv.sync;split
 ·exact h
 ·exact⟨h.down,h.bound,h.most,h.len⟩
theorem cut_keep{s:Dv.St}(h:Sure q s)(n:Int):Sure q (Dv.cut s n).2:=by
 have o:Dv.may s=true:=by unfold Dv.may;rw[h.bound];rfl
 unfold Dv.cut;split
 ·exact h
 ·split
  ·exact h
  ·exact⟨h.down,h.bound,h.most,by
    have:=h.len;show(s.b.take n.toNat).length<=q;rw[AM]
    omega⟩
theorem do_keep{s:Dv.St}(h:Sure q s)(r:Except Nat Nat):Sure q (Rp.do_ s r).2.2:=by
 unfold Rp.do_;cases r with
 |error c=>exact h
 |ok K=>
  dsimp only;split
  ·exact h
  ·split <;> exact cut_keep h K
theorem opens_keep{s:Dv.St}(h:Sure q s)(c:List Col):Sure q (Wr.opens s c).2.2:=by
 unfold Wr.opens;split
 ·exact h
 ·split
  ·exact h
  ·dsimp only;split <;> exact do_keep h _
theorem does_keep(y:Op){z:Wr}(h:Sure q z.s):Sure q (does y z).2.s:=by
 unfold does;split
 ·unfold Wr.append;split
  ·exact h
  ·cases z.piece y.l with
   |error e=>exact h
   |ok p=>
    have:=writes_keep h p;dsimp only;unfold Wr.dare;dsimp only;split <;> exact this
 ·split
  ·unfold Wr.change;split
   ·exact h
   ·split <;> exact h
  ·split
   ·unfold Wr.sync;split
    ·exact h
    ·have:=sync_keep h;unfold Wr.dare;dsimp only;split <;> exact this
   ·split
    ·have o:Sure q z.index.2.2.s:=by
      unfold Wr.index;split
      ·exact h
      ·have:=writes_keep h [Wr.xFr ⟨(z.s.b.length:Nat),z.k.frames,z.k.rows,z.k.ents⟩];dsimp only;split <;> exact this
     unfold Wr.close;split
     ·exact h
     ·dsimp only;split
      ·exact o
      ·split <;> exact sync_keep o
    ·exact h
theorem step_keep(y:Op){o:Al}(A:y.kind≠7)(h:Sure q o.s):Sure q (step y o).2.s:=by
 unfold step;split
 ·exact opens_keep h y.c
 ·split
  ·have:Dv.start o.s=(6,o.s):=(by unfold Dv.start;rw[AF (by simp[h.down])]);rw[this];exact h
  ·cases o.w with
   |none=>exact h
   |some u=>exact does_keep y (z:=⟨o.s,u.1,u.2.1,u.2.2⟩) h
end Al
end
section
open Go.RowKit Go.Maps
structure pR(w1 wr:World)(B zb g t qn:Nat)(A:Al):Prop where
 out:∃O t1 nb,Sd wr B zb g (A.tl t1) O (fun _=>False) nb∧t1<=t*8000000000∧nb<=t*2097153
 fits:Dv.Fits A.s (2*t)
 sure:Al.Sure qn A.s
 below:Below B w1 wr
theorem pR.on{w':World}{o:Al}(h:pR w1 wr B zb g t qn o)(E:B<=wr.1.size)(hb:Below wr.1.size wr w'):pR w1 w' B zb g t qn o:=by
 obtain⟨y,J,nb,A,D⟩:=h.out;exact⟨⟨y,J,nb,A.on hb,D⟩,h.fits,h.sure,h.below.trans (hb.mono E)⟩
theorem pR.idle{o:Al}(h:pR w1 wr B zb g t qn o):pR w1 wr B zb g (t+1) qn o:=by
 obtain⟨y,J,nb,A,D,E⟩:=h.out;exact⟨⟨y,J,nb,A,AT D (Nat.mul_le_mul_right _ (Nat.le_succ t)),AT E (Nat.mul_le_mul_right _ (Nat.le_succ t))⟩,h.fits.up (Nat.mul_le_mul_left 2 (Nat.le_succ t)),h.sure,h.below⟩
end
section
def cnt(c:Nat×Nat)(f:Fr):Nat×Nat:=if f.kind=1 then (c.1+1,c.2) else if f.kind=3 then (c.1,c.2+1) else (0,0)
def iT(l:List Fr):Nat×Nat:=l.foldl cnt (0,0)
theorem kY(l:List Fr)(f:Fr):iT (l++[f])=cnt (iT l) f:=by
 unfold iT;rw[List.foldl_append];rfl
theorem dF(a b:List Fr):Wr.bytes (a++b)=Wr.bytes a++Wr.bytes b:=by
 unfold Wr.bytes;rw[List.map_append,List.flatten_append]
theorem dE(f:Fr):Wr.bytes [f]=Fr.out f:=by simp[Wr.bytes]
structure Fl(t:Nat)(b:L8)(k:Wk)(fs:List Fr)(tt:Prop)(c:Nat×Nat):Prop where
 bytes:b=Wr.bytes fs
 each:∀f∈fs,Fr.err f=0∧(∀c∈f.cols,c.wf)∧Fr.norm f=f
 up:Sc.Up19 b k tt
 pat:∀i,(iT (fs.take i)).1<=1∧(iT (fs.take i)).2<=1
 last:iT fs=c
 frames:0<=k.frames∧k.frames<=t
 rows:0<=k.rows∧k.rows<=64*t
 number:-1<=k.number∧k.number<t
 few:k.ents.length<=t
 ents:∀e∈k.ents,Fr.entOk e=Y
def clo(k:Wk):Nat×Nat:=(0,if k.closed=Y then 1 else 0)
theorem yB:Fl 0 [] Sc.new [] True (clo Sc.new):=⟨rfl,fun _ h=>(by cases h),Sc.up_nil,fun i=>(by rw[List.take_nil];exact⟨Nat.zero_le _,Nat.zero_le _⟩),rfl,⟨by decide,by decide⟩,⟨by decide,by decide⟩,⟨by decide,by decide⟩,gQx,fun _ h=>(by cases h)⟩
section
variable {t t' q:Nat} {b:L8} {k:Wk} {fs:List Fr} {tt:Prop} {c:Nat×Nat}
theorem Fl.more(h:Fl t b k fs tt c)(o:t<=t'):Fl t' b k fs tt c:=⟨h.bytes,h.each,h.up,h.pat,h.last,⟨h.frames.1,by have:=h.frames.2;omega⟩,⟨h.rows.1,by have:=h.rows.2;omega⟩,⟨h.number.1,by have:=h.number.2;omega⟩,AT h.few o,h.ents⟩
theorem Fl.good(h:Fl t b k fs tt c):Sc.Good k:=by
 obtain⟨j,r,o,-⟩:=h.up;exact(Sc.goes_good o).1
theorem Fl.take(h:Fl t b k fs tt c){f:Fr}(A:Sc.may k f (b.length:Nat)=Y)(E:∀c∈f.cols,c.wf)(D:Fr.norm f=f)(X:(cnt c f).1<=1∧(cnt c f).2<=1){k':Wk}(V:k'=Sc.take k f (b.length:Nat))(J:0<=k'.frames∧k'.frames<=t')(K:0<=k'.rows∧k'.rows<=64*t')(L:-1<=k'.number∧k'.number<t')(M:k'.ents.length<=t')(Q:∀e∈k'.ents,Fr.entOk e=Y):Fl t' (b++Fr.out f) k' (fs++[f]) (f.kind≠1) (cnt c f):=by
 have y:iT (fs++[f])=cnt c f:=by rw[kY,h.last]
 refine⟨by rw[dF,dE,h.bytes],fun g o=>?_,V ▸ Sc.up_more h.up E D A,fun i=>?_,y,J,K,L,M,Q⟩
 ·rcases List.mem_append.1 o with o | o
  ·exact h.each g o
  ·rw[List.mem_singleton.1 o];exact⟨(Sc.may_parts A).2.1,E,D⟩
 ·by_cases S:i<=fs.length
  ·rw[List.take_append_of_le_length S];exact h.pat i
  ·rw[List.take_of_length_le (by simp;omega),y];exact X
theorem Fl.pre{z:Wr}(h:Fl t z.s.b z.k fs True (clo z.k))(D:Sch.err z.c=0∧∀x∈z.c,x.fix=x∧x.wf)(a3:t<=1000)(a1:z.s.b.length<=1048576){P:List Fr}(K:P=if z.due=Y then [Wr.sFr z.number z.c] else []):
  ∃J u j i,Fl (t+1) (z.s.b++Wr.bytes P) J (fs++P) u (j,i)∧i<=1∧j<=1∧0<=z.number∧J.number=z.number∧J.frames=z.k.frames∧J.rows=z.k.rows∧J.ents=z.k.ents∧∀d,Wr.takes z.k (z.s.b.length:Nat) (P++[d])=Sc.next J d ((z.s.b++Wr.bytes P).length:Nat):=by
 have ab:=h.good;have Q:(clo z.k).2<=1:=by unfold clo;dsimp only;split <;> omega
 have ai:(z.number=z.k.number∧Sch.same (Sc.schAt z.k z.k.number) z.c=Y)∨z.number=z.k.number+1:=by
  unfold Wr.number Sc.schAt;cases z.k.sch z.k.number with
  |none=>exact .inr rfl
  |some y=>
   dsimp only;split
   ·next o=>exact .inl ⟨rfl,o⟩
   ·exact .inr rfl
 obtain⟨u,M⟩:∃u,u=z.due:=⟨_,rfl⟩;rw[<-M] at K;cases u with
 |false=>
  subst K;have E:z.number=z.k.number∧0<=z.number:=by
   have L:(z.k.sch z.number).isNone=false:=by
    unfold Wr.due at M;cases A:(z.k.sch z.number).isNone
    ·rfl
    ·rw[A] at M;cases M
   cases A:z.k.sch z.number with
   |none=>rw[A] at L;cases L
   |some y=>
    have:=(ab.known _ _ A).1;omega
  have aj:Wr.bytes (if false=Y then [Wr.sFr z.number z.c] else [])=[]:=rfl;refine⟨z.k,True,0,(clo z.k).2,?_,Q,Nat.zero_le _,E.2,E.1.symm,rfl,rfl,rfl,fun d=>?_⟩
  ·rw[aj,Az];show Fl (t+1) z.s.b z.k (fs++[]) True _;rw[Az];exact h.more (Nat.le_succ t)
  ·rw[aj,Az];rfl
 |true=>
  have K:P=[Wr.sFr z.number z.c]:=K;subst K;have a2:=h.number;have E:0<=z.number∧z.number<2147483648∧z.number<(t:Int)+1∧z.k.number<=z.number:=by
   rcases ai with o | o
   ·have:0<=z.k.number:=by
     unfold Sc.schAt at o;cases A:z.k.sch z.k.number with
     |none=>
      rw[A] at o;have Z:=(Sch.err_open D.1).1;cases hcc:z.c with
      |nil=>rw[hcc] at Z;simp at Z
      |cons x r=>rw[hcc] at o;exact absurd o.2 (by simp[Sch.same])
     |some y=>exact(ab.known _ _ A).1.1
    omega
   ·omega
  have ak:z.c.map Col.fix=z.c:=by
   conv=>rhs;rw[<-List.map_id z.c]
   exact List.map_congr_left fun x X=>(D.2 x X).1
  have hd:=zk (n:=z.number) ⟨E.1,E.2.1⟩ D.1;have ah:Sc.may z.k (Wr.sFr z.number z.c) (z.s.b.length:Nat)=true:=by
   unfold Sc.may;have o:Fr.within Fr.S ((z.s.b.length:Nat):Int)=true:=AR ⟨by omega,by show((z.s.b.length:Nat):Int)<1099511627776;omega⟩;have A:Sc.follows z.k (Wr.sFr z.number z.c) (z.s.b.length:Nat)=true:=by
    unfold Sc.follows;rw[AG (show(Wr.sFr z.number z.c).kind=1 from rfl)];rcases ai with ⟨V,L⟩ | V
    ·rw[AG (show(Wr.sFr z.number z.c).number=z.k.number from V)];rw[Sch.same_fix] at L;show Sch.same z.c _=Y;rw[Sch.same_fix];exact L.symm
    ·rw[AF (show ¬(Wr.sFr z.number z.c).number=z.k.number from fun D=>by rw[show(Wr.sFr z.number z.c).number=z.number from rfl] at D;omega)];exact AR V
   rw[o,hd.1,A];rfl
  have aw:Fr.norm (Wr.sFr z.number z.c)=Wr.sFr z.number z.c:=by
   show({ Fr0 with kind:=1,number:=z.number,cols:=z.c.map Col.fix }:Fr)=_;rw[ak];rfl
  rw[dE];refine⟨_,_,1,(clo z.k).2,h.take ah (fun x X=>(D.2 x X).2) aw ⟨gQx,Q⟩ rfl ?_ ?_ ?_ ?_ ?_,Q,gQx,E.1,rfl,rfl,rfl,rfl,fun d=>?_⟩
  ·exact⟨h.frames.1,by have:=h.frames.2;show z.k.frames<=_;omega⟩
  ·exact⟨h.rows.1,by have:=h.rows.2;show z.k.rows<=_;omega⟩
  ·exact⟨by show -1<=z.number;omega,by show z.number<_;omega⟩
  ·exact Nat.le_succ_of_le h.few
  ·exact h.ents
  ·have a0:Sc.next z.k (Wr.sFr z.number z.c) (z.s.b.length:Nat)=Sc.take z.k (Wr.sFr z.number z.c) (z.s.b.length:Nat):=AG ah;rw[List.cons_append,List.nil_append,Wr.takes,a0,AH,Int.natCast_add];rfl
def Did(t:Nat)(fs:List Fr)(n:Int)(z:Wr)(r:Nat×Wr):Prop:=(r.1≠0∧r.2.s.b=z.s.b∧r.2.k=z.k)∨(r.1=0∧∃l,Fl (t+1) r.2.s.b r.2.k (fs++l) True (clo r.2.k)∧r.2.k.rows=z.k.rows+n)
theorem fh{z o:Wr}(h:Fl t z.s.b z.k fs True (clo z.k))(hb:o.s.b=z.s.b)(y:o.k=z.k):Did t fs 0 z (0,o):=.inr ⟨rfl,[],by rw[Az];dsimp only;rw[hb,y];exact h.more (Nat.le_succ t),by dsimp only;rw[y];omega⟩
theorem sH{z:Wr}(h:Fl t z.s.b z.k fs True (clo z.k))(bb:Sch.err z.c=0∧∀x∈z.c,x.fix=x∧x.wf)(bk:t<=1000)(a2:Al.Sure q z.s)(bj:q<=1048576)(o:List (List V)):Did t fs (o.length:Nat) z (z.append o):=by
 have bi:z.s.b.length<=1048576:=AT a2.len bj;unfold Wr.append;split
 ·exact .inl ⟨(by decide:(6:Nat)≠0),rfl,rfl⟩
 cases hp:z.piece o with
 |error e=>exact .inl ⟨piece_ne hp.symm,rfl,rfl⟩
 |ok p=>
  obtain⟨P,ak⟩:∃P,P=if z.due=Y then [Wr.sFr z.number z.c] else []:=⟨_,rfl⟩;obtain⟨D,A⟩:∃D,D=Wr.dFr z.number z.k.frames z.k.rows (o.length:Nat) (Bt.pack z.c o).out:=⟨_,rfl⟩;obtain⟨L,Z⟩:Bt.err z.c o=0∧p=P++[D]:=by
   unfold Wr.piece at hp;dsimp only at hp;split at hp
   ·cases hp
   ·next h0=>
    injection hp with hp;refine⟨?_,by rw[<-hp,ak,A]⟩;unfold Bt.pack at h0;split at h0
    ·next E=>exact E
    ·next E=>exact absurd (show(Blk.Res.mk (Bt.err z.c o) []).err=0 from Decidable.not_not.1 h0) E
  obtain⟨a6,-,a7⟩:=Bt.err_open L;obtain⟨-,bX,b0⟩:=Bt.numErr_open a6;have a9:(Bt.pack z.c o).out.length<=2049:=by
   unfold Bt.pack;rw[AG L];have:=(Blk.pack_back a7).2.2;omega
  obtain⟨y,u,j,i,M,bO,bT,bN,a4,ah,ai,aj,a5⟩:=h.pre bb bk bi ak;have be:=M.good;have b4:=h.rows;have b1:=h.frames;have b3:=M.number;have bp:=Al.write_sure a2 (Wr.bytes p);have aw:Wr.bytes p=Wr.bytes P++Fr.out D:=by rw[Z,dF,dE]
  show Did t fs _ z (Wr.dare (z.write p));unfold Wr.write;rw[bp];by_cases X:q<z.s.b.length+(Wr.bytes p).length
  ·rw[AG X];exact .inl ⟨(by decide:(52:Nat)≠0),rfl,rfl⟩
  rw[AF X];have b2:(z.s.b++Wr.bytes P).length<=1048576:=by rw[aw,AH] at X;rw[AH];omega
  have hd:=yO (n:=z.number) (q:=z.k.frames) (f:=z.k.rows) (r:=(o.length:Nat)) (b:=(Bt.pack z.c o).out) (by omega) (by omega) (by omega) (by omega) a9;rw[<-A] at hd;have a1:Sc.may y D ((z.s.b++Wr.bytes P).length:Nat)=true:=by
   unfold Sc.may;have E:Fr.within Fr.S (((z.s.b++Wr.bytes P).length:Nat):Int)=true:=AR ⟨by omega,by show(((z.s.b++Wr.bytes P).length:Nat):Int)<1099511627776;omega⟩;rw[E,hd.1,A];unfold Sc.follows;rw[AF (show ¬(Wr.dFr z.number z.k.frames z.k.rows (o.length:Nat) (Bt.pack z.c o).out).kind=1 from (by decide:¬(2:Int)=1)),AG (show(Wr.dFr z.number z.k.frames z.k.rows (o.length:Nat) (Bt.pack z.c o).out).kind=2 from rfl)];have Q:(z.number=y.number∧z.k.frames=y.frames∧z.k.rows=y.rows):=⟨a4.symm,ah.symm,ai.symm⟩;show(Y&&decide ((0:Nat)=0)&&decide (z.number=y.number∧z.k.frames=y.frames∧z.k.rows=y.rows))=Y;rw[AR Q];rfl
  obtain⟨J,ab,b5,b6,b7,b8,b9,bq,bs,bv⟩:=kv (n:=z.number) (k:=y) (o.length:Nat) (Bt.pack z.c o).out ((z.s.b++Wr.bytes P).length:Nat);rw[ah,ai,<-A] at ab;have a0:=M.take (t':=t+1) a1 (fun x a3=>by rw[A] at a3;cases a3) (by rw[A];rfl) (by rw[A];exact⟨Nat.zero_le _,Nat.zero_le _⟩) ab.symm (by omega) (by omega) (by omega) (by have:=h.few;rw[aj] at bs;omega) (fun e L=>by
   rcases bv e L with K | K
   ·rw[aj] at K;exact h.ents e K
   ·rw[K];unfold Fr.entOk;have E:Fr.within Fr.S (((z.s.b++Wr.bytes P).length:Nat):Int)=true:=AR ⟨by omega,by show(((z.s.b++Wr.bytes P).length:Nat):Int)<1099511627776;omega⟩;have Q:Fr.within Fr.S y.rows=true:=AR ⟨by omega,by show y.rows<1099511627776;omega⟩;have a8:Fr.within Fr.S (Sc.placeAt y y.number)=true:=AR (Sc.place_ok be _);dsimp only;rw[E,Q,a8];rfl)
  have bl:Wr.takes z.k (z.s.b.length:Nat) p=J:=by
   rw[Z,a5,<-ab];exact AG a1
  rw[bl];refine .inr ⟨rfl,p,?_,?_⟩
  ·show Fl (t+1) (z.s.b++Wr.bytes p) J (fs++p) True (clo J);rw[aw,Z,<-AN,<-AN];have bc:clo J=cnt (j,i) D:=(by unfold clo;rw[bq,A];rfl);rw[bc];have bn:(D.kind≠1)=True:=(by rw[A];exact eq_true (by decide:(2:Int)≠1));rw[bn] at a0;exact a0
  ·show J.rows=_;omega
theorem uR{z:Wr}(h:Fl t z.s.b z.k fs True (clo z.k))(bb:t<=60)(y:Al.Sure q z.s)(a1:q<=1048576):Did t fs 0 z (z.close.2.1,z.close.2.2):=by
 have a9:z.s.b.length<=1048576:=AT y.len a1;have a3:∀s:Dv.St,s.down=false->Dv.sync s=(0,{ s with safe:=s.b.length }):=fun s hd=>by
  unfold Dv.sync;rw[AF (by rw[hd];decide)]
 by_cases ah:z.up=false
 ·unfold Wr.close;rw[AG ah];exact .inl ⟨(by decide:(6:Nat)≠0),rfl,rfl⟩
 have Q:∀o:Wr,∀L,z.index=(L,0,o)->o.s.down=false->z.close=(L,0,{ o with s:={ o.s with safe:=o.s.b.length },up:=false }):=fun o L D M=>by
  unfold Wr.close;rw[AF ah,D];dsimp only;rw[AF (by decide),a3 _ M];rfl
 by_cases E:z.k.closed=Y
 ·rw[Q z false (by unfold Wr.index;rw[AG E]) y.down];exact fh h rfl rfl
 obtain⟨x,A⟩:∃x,x=(⟨(z.s.b.length:Nat),z.k.frames,z.k.rows,z.k.ents⟩:Idx):=⟨_,rfl⟩;have a8:=h.few;have aw:=h.frames;have a2:=h.rows;have D:Fr.within Fr.S ((z.s.b.length:Nat):Int)=true:=AR ⟨by omega,by show((z.s.b.length:Nat):Int)<1099511627776;omega⟩;have a6:Fr.idxErr x=0:=by
  rw[A];unfold Fr.idxErr;have M:Fr.within Fr.S z.k.frames=true:=AR ⟨by omega,by show z.k.frames<1099511627776;omega⟩;have ai:Fr.within Fr.S z.k.rows=true:=AR ⟨by omega,by show z.k.rows<1099511627776;omega⟩;have aj:z.k.ents.all Fr.entOk=true:=List.all_eq_true.2 h.ents;dsimp only;rw[D,M,ai,aj,AF (by decide),AF (by omega),AF (by decide)]
 have a0:=yW a6 (by rw[A];dsimp only;omega);have ab:Sc.may z.k (Wr.xFr x) (z.s.b.length:Nat)=true:=by
  unfold Sc.may;rw[D,a0.1];unfold Sc.follows;rw[AF (show ¬(Wr.xFr x).kind=1 from (by decide:¬(3:Int)=1)),AF (show ¬(Wr.xFr x).kind=2 from (by decide:¬(3:Int)=2))];show(Y&&decide ((0:Nat)=0)&&Idx.same x _)=Y;rw[A,(Idx.same_iff _ _).2 rfl];rfl
 have J:=Al.write_sure y (Wr.bytes [Wr.xFr x]);have a4:Wr.takes z.k (z.s.b.length:Nat) [Wr.xFr x]={ z.k with closed:=Y }:=by
  show Sc.next z.k (Wr.xFr x) (z.s.b.length:Nat)=_;unfold Sc.next;rw[AG ab];rfl
 by_cases V:q<z.s.b.length+(Wr.bytes [Wr.xFr x]).length
 ·rw[AG V] at J;have K:z.write [Wr.xFr x]=(52,z):=by
   unfold Wr.write;rw[J];rfl
  rw[Q z false (by unfold Wr.index;rw[AF E,<-A,K];rfl) y.down];exact fh h rfl rfl
 ·rw[AF V] at J;have K:z.write [Wr.xFr x]=(0,⟨{ z.s with b:=z.s.b++Wr.bytes [Wr.xFr x],done:=z.s.done+(Wr.bytes [Wr.xFr x]).length },{ z.k with closed:=Y },z.c,z.up⟩):=by
   unfold Wr.write;rw[J,a4];rfl
  have X:z.index=(Y,0,(z.write [Wr.xFr x]).2):=by
   unfold Wr.index;rw[AF E,<-A,K];rfl
  rw[K] at X;rw[Q _ Y X y.down];have ak:clo z.k=(0,0):=by unfold clo;rw[AF E]
  rw[ak] at h;have Z:=h.take (t':=t+1) (k':={ z.k with closed:=Y }) ab (fun o a7=>by cases a7) rfl ⟨Nat.zero_le _,gQx⟩ rfl ⟨aw.1,by dsimp only;omega⟩ ⟨a2.1,by dsimp only;omega⟩ ⟨h.number.1,by have:=h.number.2;dsimp only;omega⟩ (by dsimp only;omega) h.ents;refine .inr ⟨rfl,[Wr.xFr x],?_,by show z.k.rows=_;omega⟩;have a5:((Wr.xFr x).kind≠1)=True:=eq_true (by decide:(3:Int)≠1);rw[a5] at Z;show Fl (t+1) (z.s.b++Wr.bytes [Wr.xFr x]) { z.k with closed:=Y } _ True _;rw[dE];exact Z
theorem wO{z:Wr}(o:Op)(h:Fl t z.s.b z.k fs True (clo z.k))(D:Sch.err z.c=0∧∀x∈z.c,x.fix=x∧x.wf)(E:t<=60)(y:Al.Sure q z.s)(A:q<=1048576):Did t fs (if o.kind=2 then (o.l.length:Nat) else 0:Int) z (Al.does o z):=by
 unfold Al.does;split
 ·exact sH h D (by omega) y A o.l
 ·split
  ·unfold Wr.change;split
   ·exact .inl ⟨(by decide:(6:Nat)≠0),rfl,rfl⟩
   ·split
    ·next h1=>exact .inl ⟨h1,rfl,rfl⟩
    ·exact fh h rfl rfl
  ·split
   ·unfold Wr.sync;split
    ·exact .inl ⟨(by decide:(6:Nat)≠0),rfl,rfl⟩
    ·unfold Dv.sync;rw[AF (by rw[y.down];decide)];exact fh h rfl rfl
   ·split
    ·exact uR h E y A
    ·exact fh h rfl rfl
end
theorem vP{o:Al}{fs:List Fr}(y:Op)(h:Fl t o.s.b k fs True (clo k))(X:∀u,o.w=R u->u.1=k∧Sch.err u.2.1=0∧∀x∈u.2.1,x.fix=x∧x.wf)(Z:y.kind≠7)(ab:y.kind≠8)(ak:t<=60)(V:Al.Sure q o.s)(ai:q<=1048576):
  ∃l k',Fl (t+1) (Al.step y o).2.s.b k' (fs++l) True (clo k')∧(∀u,(Al.step y o).2.w=R u->u.1=k')∧((Al.step y o).1≠0->(Al.step y o).2.s.b=o.s.b)∧(y.kind=2->(Al.step y o).1=0->o.w.isSome=Y->k'.rows=k.rows+(y.l.length:Nat))∧((y.kind=2->(Al.step y o).1=0->o.w.isSome=Y->False)->k'.rows=k.rows):=by
 have Q:Fl (t+1) o.s.b k (fs++[]) True (clo k):=by rw[Az];exact h.more (Nat.le_succ t)
 unfold Al.step;by_cases S:y.kind=1
 ·rw[AG S];have E:¬y.kind=2:=by omega
  by_cases M:Sch.err y.c=0
  ·rw[mZ M V.down h.up];refine⟨[],k,Q,fun u A=>?_,fun _=>rfl,fun h=>absurd h E,fun _=>rfl⟩;injection A with A;rw[<-A];rfl
  ·have ah:Wr.opens o.s y.c=(Sch.err y.c,F,o.s):=(by unfold Wr.opens;rw[AG M]);rw[ah];exact⟨[],k,Q,fun u A=>(X u A).1,fun _=>rfl,fun h=>absurd h E,fun _=>rfl⟩
 rw[AF S,AF Z,AF ab];cases hA:o.w with
 |none=>exact⟨[],k,Q,fun u A=>(by rw[hA] at A;cases A),fun h=>absurd rfl h,fun _ _ h=>(by cases h),fun _=>rfl⟩
 |some u=>
  obtain⟨A,M⟩:=X u hA;subst A;have hd:=wO (z:=⟨o.s,u.1,u.2.1,u.2.2⟩) y h M ak V ai;dsimp only;obtain⟨r,aj⟩:∃r,r=Al.does y ⟨o.s,u.1,u.2.1,u.2.2⟩:=⟨_,rfl⟩;rw[<-aj] at hd ⊢;rcases hd with ⟨J,K,L⟩ | ⟨J,l,K,L⟩
  ·refine⟨[],u.1,by rw[K];exact Q,fun v D=>?_,fun _=>K,fun _ h=>absurd h J,fun _=>rfl⟩;injection D with D;rw[<-D];exact L
  ·refine⟨l,r.2.k,K,fun v D=>?_,fun h=>absurd J h,fun E _ _=>?_,fun E=>?_⟩
   ·injection D with D;rw[<-D];rfl
   ·rw[L,AG E]
   ·rw[L,AF (fun h=>E h J rfl)];exact Int.add_zero _
theorem Fl.at{b:L8}{fs:List Fr}{tt:Prop}{c:Nat×Nat}(h:Fl t b k fs tt c)(i:Nat)(o:i<fs.length):Sc.at_ b ((Wr.bytes (fs.take i)).length:Nat)=.ok (fs[i],(Wr.bytes (fs.take (i+1))).length)∧(Wr.bytes (fs.take i)).length<b.length∧(Wr.bytes (fs.take i)).length<(Wr.bytes (fs.take (i+1))).length:=by
 obtain⟨y,D,E⟩:=h.each fs[i] (Aw o);have A:Fr.out fs[i]=0::(Fr.run fs[i]++0::[]):=AG y;have hb:b=Wr.bytes (fs.take i)++(0::(Fr.run fs[i]++0::Wr.bytes (fs.drop (i+1)))):=by
  rw[h.bytes]
  conv=>lhs;rw[<-List.take_append_drop i fs,List.drop_eq_getElem_cons o,dF,<-List.singleton_append,dF,dE,A]
  simp
 have J:(Wr.bytes (fs.take (i+1))).length=(Wr.bytes (fs.take i)).length+(Fr.run fs[i]).length+2:=by
  rw[List.take_succ_eq_append_getElem o,dF,dE,A];simp;omega
 refine⟨?_,by rw[hb];simp,by omega⟩;rw[J]
 conv=>lhs;rw[hb]
 rw[Sc.at_mk19 y D,E]
theorem Fl.end_{b:L8}{fs:List Fr}{tt:Prop}{c:Nat×Nat}(h:Fl t b k fs tt c):b.length=(Wr.bytes (fs.take fs.length)).length:=by
 rw[List.take_length,h.bytes]
end
section
open Go.RowKit Go.Maps
theorem Sd.good{nb:Nat}{o:Al}{D A:Nat->Prop}(h:Sd w B zb g o D A nb):∀u,o.w=R u->Sch.err u.2.1=0∧∀c∈u.2.1,c.fix=c∧c.wf:=fun u J=>by
 obtain⟨wp,v,x,k,-,-,-,y⟩:=h.out;rw[J] at y;obtain⟨a,m,K,n,e,L,q,cap,-,-,-,-,-,E⟩:=y;exact E.good
theorem zW{cap:Nat}{q:OA}{T:L8}(h:Has w B (N q T.length cap) T):At w q T∧T.length<=cap:=by
 obtain⟨D,A,e,o,y⟩:=h.at;injection e with e1 _ e3;subst e1 e3;exact⟨o,y⟩
structure vd(w1 wr:World)(B zb g t qn:Nat)(A:Al)(fs:List Fr)(k:Wk):Prop where
 on:pR w1 wr B zb g t qn A
 fl:Fl t A.s.b k fs True (clo k)
 own:∀u,A.w=R u->u.1=k
theorem j6(hn:∀w,Hv w->He w->Calls Tryz.prog 6 #[] w fun e w'=>e=.returned (.bool Y)∧Below w.1.size w w')(n:Int)(hV:Fr.i64 n)(l:List Op)(q:OA)(d:Nat)(w:World)(bk:vv w q l)(nt:l.length<=2000000000000)(ha:Hv w)(gL:He w):
  Calls Tryz.prog 4 #[I U n,N q l.length d] w fun e w'=>e=.returned (.bool Y)∧Below w.1.size w w':=by
 have hm:=gQq (hn w ha gL);have e7:=gQq bk;have du:=gQq ha;have it:=gQq gL;have m0:=gQq hV;clear bk ha gL hn hV;go_enter Tryz.func4,Tryz.ntmps4;go_wp2_with fail;refine hm.out.mono ?_;rintro e w1 ⟨rfl,V⟩;have b9:=gQq V;clear hm V;by_cases os:n<0
 ·go_wp2;go_ret;exact⟨rfl,b9.out⟩
 by_cases ox:1048576<n
 ·go_wp2;go_ret;exact⟨rfl,b9.out⟩
 by_cases og:(60:Int)<(l.length:Int)
 ·go_wp2;go_ret;exact⟨rfl,b9.out⟩
 obtain⟨qn,rfl⟩:∃qn:Nat,n=(qn:Int):=⟨n.toNat,by omega⟩;have cx:qn<=1048576:=by omega
 have nx:l.length<=60:=by omega
 have ho:=gQq (qt qn cx w1);go_wp2_with fail;refine ho.out.mono ?_;rintro e w2 ⟨rfl,hK,E⟩;have eL:=gQq hK;have aw:=gQq E;clear hK E ho;have l4:=aw.out.size;have lr:=eL.out.lt;obtain⟨ck,ct⟩:∃W,W=w2.alloc (.cells #[qq (R ⟨w1.1.size,0,F⟩),qq F,qq F,qq F] 32):=⟨_,rfl⟩;have gq:Below w2.1.size w2 ck:=by rw[ct];exact gQy
 have l5:ck.1.size=w2.1.size+1:=by rw[ct];simp
 have ab:ck.1[w2.1.size]?=R (.cells #[qq (R ⟨w1.1.size,0,F⟩),qq F,qq F,qq F] 32 (0,0)):=by rw[ct];exact an w2 _
 have e8:Hid (vd w1 ck w1.1.size w2.1.size w1.1.size 0 qn ⟨Dv.new qn,F⟩ [] Sc.new):=by
  refine⟨⟨⟨fun i=>i=w2.1.size∨i=w1.1.size,0,0,?_,gQx,gQx⟩,⟨gQx,Nat.zero_le _,cx,Nat.zero_le _⟩,⟨rfl,rfl,rfl,Nat.zero_le _⟩,aw.out.trans (gq.mono (by omega))⟩,yB,fun u bp=>by cases bp⟩;exact⟨fun i D=>⟨by omega,by omega⟩,.inl rfl,.inr rfl,fun i D a5=>a5,fun i D=>D.elim,by omega,_,N F 0 0,0,0,ab,(fun i D=>nomatch D),eL.out.below gq,rfl⟩
 have i1:=gQq ct.symm;obtain⟨B,d5⟩:∃B,B=w1.1.size:=⟨_,rfl⟩;obtain⟨z1,h0⟩:∃z1,z1=w2.1.size:=⟨_,rfl⟩;have cp:w.1.size<=B:=by rw[d5];exact b9.out.size
 have m5:B<=ck.1.size:=by omega
 have f7:2<B:=AS du.out.lt cp;have mI:=gQq d5;clear ab gq ct;go_wp2_with fail;rw[i1.out];rw[<-d5,<-h0] at e8 ⊢;clear l4 lr l5 d5 h0 eL aw;go_loopw [9,53] (fun mj c6 wr=>∃(t:Nat) (A:Al) (fs:List Fr) (k:Wk),t<=l.length∧c6=I U t∧mj=I U k.rows∧Hid (vd w1 wr B z1 B t qn A fs k)) (fun _ c6 _=>l.length-(intOf c6).toNat);case atStart=>exact⟨0,_,[],Sc.new,by omega,rfl,rfl,e8⟩
 case round=>
  obtain⟨t,A,fs,k,n2,rfl,rfl,K⟩:=hrel;clear e8;have ak:=b9.out.trans (K.out.on.below.mono cp);by_cases g8:t<l.length
  ·have k7:(t:Int)<(l.length:Int):=(by omega);obtain⟨b,bs,p,c,h1,rd,rfl,nn,a6,g5,en,em,el⟩:=(e7.out.on ak) t g8;obtain⟨o,cw⟩:∃o,o=l[t]:=⟨_,rfl⟩;rw[<-cw] at a6 g5 en em el;obtain⟨kd,J⟩:∃kd,kd=o.kind:=⟨_,rfl⟩;have o4:wr.cell? ⟨b,bs+t*5,F⟩=R (I U kd):=(by rw[J];exact a6 0 (by omega));have mt:wr.cell? ⟨b,bs+t*5+1,F⟩=R (N p o.c.length c):=a6 1 (by omega);have mx:wr.cell? ⟨b,bs+t*5+2,F⟩=R (N h1 o.l.length rd):=a6 2 (by omega);have mA:wr.cell? ⟨b,bs+t*5+3,F⟩=R (I U o.n):=a6 3 (by omega);have o5:wr.cell? ⟨b,bs+t*5+4,F⟩=R (I U o.m):=a6 4 (by omega);obtain⟨m3,o1,b5,b0,b7,b6,cy,-,d9,ev,ep,-,-⟩:=e7.out t g8;have l0:b5=p∧b0=c∧b7=h1∧b6=rd:=by
    injection cy with cy;injection cy with e1 fx _;subst e1 fx;have a2:=d9 1 (by omega);have b1:=d9 2 (by omega);rw[<-cw] at a2 b1;have bi:=ae ak (p:=⟨b,bs+t*5+1,F⟩) a2;have bj:=ae ak (p:=⟨b,bs+t*5+2,F⟩) b1;rw[mt] at bi;rw[mx] at bj;injection bi with bi;injection bi with f3 _ f4;injection bj with bj;injection bj with f5 _ f6;exact⟨f3.symm,f4.symm,f5.symm,f6.symm⟩
   obtain⟨rfl,rfl,rfl,rfl⟩:=l0;rw[<-cw] at ev ep;have eC:Hid (∀w',Below w.1.size w w'->ef w' b5 b0 o.c∧cQ w' b7 b6 o.l):=fun w' hb=>⟨ev.on hb,ep.on hb⟩;obtain⟨bT,cs⟩:∃W,W=wr.alloc (.cells #[I U kd,N b5 o.c.length b0,N b7 o.l.length b6,I U o.n,I U o.m] 38):=⟨_,rfl⟩;have V:Below wr.1.size wr bT:=(by rw[cs];exact gQy);have ab:bT.1[wr.1.size]?=R (.cells #[I U kd,N b5 o.c.length b0,N b7 o.l.length b6,I U o.n,I U o.m] 38 (0,0)):=(by rw[cs];exact an wr _);have co:B<=wr.1.size:=by
    obtain⟨O,ah,nb,s1,-⟩:=K.out.on.out;have:=s1.low z1 s1.ozb;omega
   have bO:=gQq (K.out.on.on co V);have Q:=gQq K.out.fl;have d1:=gQq K.out.own;have d8:=ak.trans (V.mono ak.size);have hv:=gQq cs.symm;have c7:=aa ab 0;have h4:=aa ab 1;have c8:=aa ab 2;have h5:=aa ab 3;have h6:=aa ab 4;by_cases bc:kd=7∨kd=8
   ·have bX:(kd==7)=Y∨(kd==7)=false∧(kd==8)=true:=by
     rcases bc with h | h
     ·exact .inl (by rw[h];rfl)
     ·exact .inr (by rw[h];exact⟨rfl,rfl⟩)
    have i0:Hid (vd w1 bT B z1 B (t+1) qn A fs k):=⟨bO.out.idle,Q.out.more (Nat.le_succ t),d1.out⟩;clear a6 g5 en em el d9 ev ep cy V ab cs d8 cw ak K bc J bO Q d1;rcases bX with bX | ⟨bX,fv⟩
    all_goals
     go_wp2;rw[hv.out];go_roundw;case rel=>exact⟨t+1,_,_,_,by omega,by go_num,rfl,i0⟩
     case measure=>simp[intOf];omega
   ·have bX:(kd==7)=false:=(by rw[BQ];exact fun h=>bc (.inl h));have fv:(kd==8)=false:=(by rw[BQ];exact fun h=>bc (.inr h));obtain⟨O,ah,nb,he,g7,g1⟩:=K.out.on.out;have s1:=he.on V;have e6:Hid (∀i,O i->B<=i∧i<wr.1.size):=he.low;have b4:Dv.Fits A.s (2*t):=bO.out.fits;have ew:=bO.out.sure;obtain⟨wp,v,x,c5,ez,g3,a8,eg⟩:=s1.out;have z2:=aa ez 2;obtain⟨hd,hS,l2⟩:∃hd:Bool,A.w.isSome=hd∧((wp=qq F∧hd=false)∨∃a,wp=qq (R ⟨a,0,F⟩)∧hd=Y):=by
     refine⟨_,rfl,?_⟩;obtain⟨d3,hC⟩:∃d3,d3=(A.tl ah).w:=⟨_,rfl⟩;have g0:=eg;rw[<-hC] at g0;rw[show A.w=d3 from hC.symm];cases d3 with
     |none=>exact .inl ⟨g0,rfl⟩
     |some u=>
      obtain⟨a,m,M,n,e,m4,q,cap,a2,-⟩:=g0;exact .inr ⟨a,a2,rfl⟩
    obtain⟨T,b2⟩:∃T,T=A.s.b:=⟨_,rfl⟩;have nk:T.length<=1048576:=(by rw[b2];exact AT ew.len cx);have dj:=zG a8 (by show A.s.b.length<=_;rw[<-b2];omega);have hz:(A.tl ah).s.b=T:=b2.symm;rw[hz] at dj;have dj:=gQq dj;obtain⟨a1,ea⟩:∃a1,a1=(Al.step o A).1:=⟨_,rfl⟩;obtain⟨Z,cr⟩:∃Z,Z=(Al.step o A).2.s.b:=⟨_,rfl⟩;obtain⟨hc,k',f1,hx,fy,f0,f2⟩:=vP o Q.out (fun u bp=>⟨d1.out u bp,s1.good u bp⟩) (by rw[<-J];exact fun h=>bc (.inl h)) (by rw[<-J];exact fun h=>bc (.inr h)) (by omega) ew cx;have hr:=gQq (Al.step_keep o (by rw[<-J];exact fun h=>bc (.inl h)) ew);have ih:=gQq (Al.step_fit o A b4);have hW:Z=T++Wr.bytes hc:=(by rw[cr,b2,f1.bytes,Q.out.bytes,dF]);have lj:Z.length<=qn:=(by rw[cr];exact hr.out.len);rw[<-ea,<-J,hS] at f0 f2;rw[<-ea,<-cr,<-b2] at fy;have c9:Hid (∀y,Below bT.1.size bT y->Calls Tryz.prog 8 #[qq (R ⟨z1,0,F⟩),.agg #[I U kd,N b5 o.c.length b0,N b7 o.l.length b6,I U o.n,I U o.m]] y (vo y B z1 B nb O (fun _=>False) (Al.step o (A.tl ah)) ah)):=fun y hZ=>by
     have a3:=d8.trans (hZ.mono d8.size);have:=xe (s1.on hZ) o b5 b7 b0 b6 (fun w' hb=>(eC.out w' (a3.trans (hb.mono cp))).1) (fun w' hb=>(eC.out w' (a3.trans (hb.mono cp))).2) em el (i:=2*t) ⟨b4.safe,b4.len,b4.most,b4.done⟩ (by omega) (by show ah<=_;omega) (by omega) (du.out.next a3) (it.out.on a3) f7;rw[<-J] at this;exact this
    have hj:=gQq f1;have e5:=gQq Q.out.rows;have ic:=gQq hx;have h9:=gQq bO.out.below;have ds:=gQq (AT co V.size);have iy:=gQq cr;have hp:=gQq hW;have ib:=gQq ea;have ht:=And.intro g7 g1;have hk:=gQq f0;have e0:=gQq f2;have id:=gQq fy;have d0:=gQq J;have l3:wr.1.size<bT.1.size:=ap ab;clear hS a6 g5 en em el d9 ev ep cy V ab cs s1 he d8 b4 cw ak K bO bc J eg ez g3 a8 ew b2 hz ea cr f1 hx fy f0 f2 hW Q d1;rcases l2 with ⟨rfl,rfl⟩ | ⟨a,rfl,rfl⟩
    all_goals
     go_wp2_with fail;rw[hv.out];refine dj.out.mono ?_;rintro fx w2 ⟨oy,c1,rfl,hP,E⟩;have mE:=ae E z2;have hf:=ae E c7;have mn:=ae E h4;have hg:=ae E c8;have mo:=ae E h5;have ms:=ae E h6;have h7:=gQq (c9.out w2 E);have e2:=gQq hP;have aw:=gQq E;clear hP E c7 h4 c8 h5 h6 z2;go_wp2_with fail;refine h7.out.mono ?_;rintro k1 h3 ⟨rfl,⟨h2,n3,er⟩,d6⟩;rw[Al.step_tl2] at er;have hN:(Al.step o (A.tl ah)).1=a1:=(by rw[Al.step_tl];exact ib.out.symm);rw[hN];obtain⟨o3,o2,mA,bq,-,-,hM,-⟩:=er.out;have gh:((Al.step o A).2.tl h2).s.b=Z:=iy.out.symm;have dr:=zG hM (by rw[gh];omega);rw[gh] at dr;have dr:=gQq dr;have g2:∀i,i<5->h3.cell? ⟨wr.1.size,i,F⟩=w2.cell? ⟨wr.1.size,i,F⟩:=fun i _=>by
      unfold World.cell?;rw[d6.block wr.1.size (AS l3 aw.out.size) (fun a5=>by have:=(e6.out _ a5).2;omega)]
     have c7:=(g2 0 (by omega)).trans hf;have c8:=(g2 2 (by omega)).trans hg;have hQ:=e2.out.aside d6 (fun i D a5=>by have:=(e6.out _ a5).2;have:=(e2.out.lt i D).1;omega);have hl:=gQq hQ;have hq:=gQq er;have df:=gQq d6;clear er d6 hM gh g2 hQ hf mn hg mo ms mE hN;go_wp2_with fail;refine dr.out.mono ?_;rintro e4 w4 ⟨l6,c2,rfl,hR,aj⟩;have hf:=ae aj c7;have hg:=ae aj c8;obtain⟨hw,oo⟩:=zW (hl.out.on aj);obtain⟨fo,oq⟩:=zW hR;have nj:T.length<=Z.length:=(by rw[hp.out,AH];omega);have hX:Z.take T.length=T:=(by rw[hp.out];exact List.take_left);have fq:At w4 l6 (Z.take T.length):=fo.head T.length 0;rw[hX] at fq;have b3:T.length<=c2:=(by omega);have kx:=fun n=>cP (hw.drewN n) c1;have ky:=fun n=>cP (fo.drewN n) c2;have k0:=fun n=>cP (fq.drewN n) c2;obtain⟨cj,gl⟩:∃cj,cj=textOf T:=⟨_,rfl⟩;obtain⟨i3,gm⟩:∃cj,cj=textOf Z:=⟨_,rfl⟩;rw[<-gl] at kx k0;rw[<-gm] at ky;have hs:=gQq (And.intro gl gm);have fc:Hid (vd w1 w4 B z1 B (t+1) qn (Al.step o A).2 (fs++hc) k'):=by
      refine⟨⟨⟨_,h2,nb+2097153,(hq.out.other (E':=fun _=>False) (af aj _) (fun _ D=>D.elim) (fun _ D=>D.elim)),by have:=ht.1;omega,by have:=ht.2;omega⟩,ih.out,hr.out,?_⟩,hj.out,ic.out⟩;exact((h9.out.trans (aw.out.mono ds.out)).trans (df.out.below (AT ds.out aw.out.size) (fun i D a5=>by have:=(e6.out i a5).1;omega))).trans (aj.mono (by have:=ds.out;have:=aw.out.size;have:=df.out.size;omega))
     have nm:¬(qn:Int)<(Z.length:Int):=(by omega);have nl:¬(Z.length:Int)<(T.length:Int):=(by omega);have g4:=hj.out.rows;have ns:=e5.out;have h8:B<=w4.1.size:=(by have:=ds.out;have:=aw.out.size;have:=df.out.size;have:=aj.size;omega);clear c7 c8 hR aj hw fo fq hX gl gm hq df hl e2 lj;have d2:Hid (∀n,vd w1 (w4.drewN n) B z1 B (t+1) qn (Al.step o A).2 (fs++hc) k'):=fun n=>⟨fc.out.on.on h8 (below_drewN gQz n),fc.out.fl,fc.out.own⟩;have n1:o.l.length*24<=140737488351232:=(eC.out w gQz).2.len;by_cases ai:a1=0
     ·have ka:((a1:Int)==0)=true:=(by rw[ai];rfl);have bn:((a1:Int) != 0)=false:=(by rw[ai];rfl);by_cases k2:kd=2
      ·have cn:(kd==2)=true:=by rw[k2];rfl
       first
        |have a9:=hk.out k2 ai rfl
        |have a9:=hk.out k2 ai trivial
        |have a9:=e0.out (fun _ _ h=>by cases h)
       clear k2 ai;go_wp2_with fail;go_quiet (fail);have be:=gQq (d2.out nq);go_wp2;go_roundw;case rel=>exact⟨t+1,_,_,_,by omega,by go_num,by rw[a9],be⟩
       case measure=>simp[intOf];omega
      ·have cn:(kd==2)=false:=(by rw[BQ];exact k2);have a9:=e0.out (fun h=>absurd h k2);clear k2 ai;go_wp2_with fail;go_quiet (fail);have be:=gQq (d2.out nq);go_wp2;go_roundw;case rel=>exact⟨t+1,_,_,_,by omega,by go_num,by rw[a9],be⟩
       case measure=>simp[intOf];omega
     ·have ka:((a1:Int)==0)=false:=(by rw[BQ];omega);have bn:((a1:Int) != 0)=true:=(by rw[bne_iff_ne];omega);have a9:=e0.out (fun _ h=>absurd h ai);have lf:=id.out ai;subst lf;have ln:i3=cj:=(by rw[hs.out.1,hs.out.2]);subst ln;by_cases k2:kd=2
      ·have cn:(kd==2)=true:=(by rw[k2];rfl);clear k2 ai;go_wp2_with fail;go_quiet (fail);have be:=gQq (d2.out nq);go_wp2;go_roundw;case rel=>exact⟨t+1,_,_,_,by omega,by go_num,by rw[a9],be⟩
       case measure=>simp[intOf];omega
      ·have cn:(kd==2)=false:=(by rw[BQ];exact k2);clear k2 ai;go_wp2_with fail;go_quiet (fail);have be:=gQq (d2.out nq);go_wp2;go_roundw;case rel=>exact⟨t+1,_,_,_,by omega,by go_num,by rw[a9],be⟩
       case measure=>simp[intOf];omega
  ·have k7:¬(t:Int)<(l.length:Int):=(by omega);have g6:=K.out.on.sure;have cv:=K.out.fl;have co:B<=wr.1.size:=by
    obtain⟨O,ah,nb,s1,-⟩:=K.out.on.out;have:=s1.low z1 s1.ozb;omega
   obtain⟨O,ah,nb,s1,g7,g1⟩:=K.out.on.out;obtain⟨wp,v,x,c5,ez,g3,a8,eg⟩:=s1.out;obtain⟨S,cq⟩:∃S,S=(A.tl ah).s:=⟨_,rfl⟩;have gb:S.b=A.s.b:=(by rw[cq];rfl);have gd:S.down=false:=(by rw[cq];exact g6.down);have nd:S.told<=480000000000:=(by rw[cq];show ah<=_;omega);rw[<-cq] at a8;rw[<-gb] at cv;obtain⟨L,bk⟩:∃L,L=S.b.length:=⟨_,rfl⟩;have m6:L<=1048576:=(by rw[bk,gb];exact AT g6.len cx);have f9:=du.out.next ak;obtain⟨rows,eq⟩:∃rows,rows=k.rows:=⟨_,rfl⟩;have g4:=cv.rows;have hu:Hid (Calls Tryz.prog 10 #[qq (R ⟨B,0,F⟩)] wr fun e w'=>∃v' d4 j rd,e=.returned (.tuple #[qq (R ⟨wr.1.size+1,0,F⟩),I U (L:Nat),I U 140])∧av w' wr.1.size (wr.1.size+1) wr.1.size j v' d4 k (fun i=>i=B∨v.ownBlock=R i)∧ax w' B B v { S with told:=rd } x c5∧rd<=500000000000∧Aside (fun i=>i=B) wr w'):=by
    refine(lF a8 gd (by omega) (by omega) f9 f7 co (fun _ h=>h) (fun i D=>D.elim (fun D=>by rw[D];exact a8.lt) (fun D=>(a8.has.lt i D).2))).mono ?_;rintro e w' ⟨j,X,a1,v',d4,a2,b1,bi,bj,f3,f4⟩;obtain⟨ob,o0,f5,f6,-⟩:=Sc.up_whole cv.up;have k9:=(Sc.whole_of a2 b1).symm.trans (Sc.whole_of f5 f6);injection k9 with h10 h11;injection h11 with h11 h12;subst h12;have no:=Sc.goes_good a2;have ny:=Sc.reads_le S.b X.at_;rw[h11] at bi bj;exact⟨v',d4,_,_,by rw[bk];exact bi,bj,f3,by omega,f4⟩
   have Q:=gQq cv;have cb:=gQq bk;have mK:=gQq f9;have ia:=gQq ak;have m1:0<=rows∧rows<=64*(t:Int):=(by rw[eq];exact g4);have e5:=gQq eq;have ix:=gQq gd;rw[<-eq];clear g8 g6 cv s1 ez g3 a8 eg cq gb gd bk f9 eq g4 ak K e7 g7 g1;go_wp2_with fail;refine hu.out.mono ?_;rintro fx w2 ⟨v',d4,j,rd,rfl,hY,gz,n0,hA⟩;have cc:=lG gz;rw[show({ S with told:=rd }:Dv.St).b.length=L from cb.out.symm] at cc;have cc:=gQq cc;have cd:=nu hY;rw[<-e5.out] at cd;have cd:=gQq cd;have hi:=gQq gz;have c9:=gQq hA;clear hY gz hA hu;go_wp2_with fail;refine cc.out.mono ?_;rintro k1 h3 ⟨rfl,rfl⟩;go_wp2_with fail;refine cd.out.mono ?_;rintro e4 w4 ⟨rfl,rfl⟩;go_wp2_with fail;go_loopw [19,20,21] (fun c6 mc va y=>∃(i:Nat) (q:Nat),i<=fs.length∧c6=I U ((iT (fs.take i)).1:Nat)∧mc=I U ((iT (fs.take i)).2:Nat)∧va=I U ((Wr.bytes (fs.take i)).length:Nat)∧q<=500000000000+(Wr.bytes (fs.take i)).length*2202∧Hid (ax y B B v { S with told:=q } x c5∧Aside (fun i=>i=B) wr y)) (fun _ _ va _=>L-(intOf va).toNat);case atStart=>exact⟨0,rd,Nat.zero_le _,rfl,rfl,rfl,by omega,⟨hi.out,c9.out⟩⟩
   case round=>
    obtain⟨i,q,D,rfl,rfl,rfl,l1,dv⟩:=hrel;clear hi c9 cc cd;obtain⟨P,bl⟩:∃P,P=(Wr.bytes (fs.take i)).length:=⟨_,rfl⟩;obtain⟨c1,cu⟩:∃c1,c1=(iT (fs.take i)).1:=⟨_,rfl⟩;obtain⟨c2,b3⟩:∃c2,c2=(iT (fs.take i)).2:=⟨_,rfl⟩;rw[<-bl] at l1;rw[<-bl,<-cu,<-b3];have a3:=ia.out.trans ((dv.out.2.below co (fun i D a5=>by omega)).mono cp);by_cases ec:i<fs.length
    ·obtain⟨d7,hy,lb⟩:=Q.out.at i ec;rw[<-cb.out] at hy;obtain⟨C,f8⟩:∃C,C=(Wr.bytes (fs.take (i+1))).length:=⟨_,rfl⟩;rw[<-bl,<-f8] at d7 lb;rw[<-bl] at hy;obtain⟨f,gN⟩:∃f,f=fs[i]:=⟨_,rfl⟩;have J:=(Sc.err_parts (Q.out.each fs[i] (Aw ec)).1).2.2;rw[<-gN] at d7 J;have gt:iT (fs.take (i+1))=cnt (c1,c2) f:=(by rw[List.take_succ_eq_append_getElem ec,kY,gN,cu,b3]);have hpat:=Q.out.pat (i+1);rw[gt] at hpat;have k8:(P:Int)<(L:Int):=(by omega);have b8:=kAt dv.out.1 ix.out (by show S.b.length<=_;rw[<-cb.out];omega) (by show q+S.b.length<=_;rw[<-cb.out];omega) (du.out.next a3) f7 (P:Nat);rw[show({ S with told:=q }:Dv.St).b=S.b from rfl,d7] at b8;have b8:=gQq b8;have en:=Sc.reads_le S.b (P:Nat);have a0:=gQq gt;have bN:=gQq f8;have hh:=gQq (And.intro cu b3);clear a3 gt f8 d7 bl cu b3;go_wp2_with fail;refine b8.out.mono ?_;rintro k3 w5 ⟨lp,hL,hB⟩;obtain⟨u,rfl,hO⟩:∃u,k3=.returned (.tuple #[.agg u,I U (C:Nat),I U 0])∧eI w5 wr.1.size u f:=lp;obtain⟨sp,mb,kk,j5,k5,k4,bp,-⟩:=hO.out;unfold aF at bp;subst bp;have e3:Hid (ax w5 B B v { S with told:=q+Sc.reads S.b (P:Nat) } x c5∧Aside (fun i=>i=B) _ w5):=⟨hL,dv.out.2.trans hB (fun _ _ h=>h)⟩;obtain⟨kd,eb⟩:∃kd,kd=f.kind:=⟨_,rfl⟩;obtain⟨i5,V⟩:∃x,x=f.number:=⟨_,rfl⟩;obtain⟨cn,E⟩:∃x,x=f.cols.length:=⟨_,rfl⟩;obtain⟨j0,hE⟩:∃x,x=f.seq:=⟨_,rfl⟩;obtain⟨j1,aj⟩:∃x,x=f.first:=⟨_,rfl⟩;obtain⟨j2,hF⟩:∃x,x=f.rows:=⟨_,rfl⟩;obtain⟨j3,hG⟩:∃x,x=f.block.length:=⟨_,rfl⟩;obtain⟨bX,hH⟩:∃x,x=f.index.at_:=⟨_,rfl⟩;obtain⟨fv,hI⟩:∃x,x=f.index.frames:=⟨_,rfl⟩
     obtain⟨j4,hJ⟩:∃x,x=f.index.rows:=⟨_,rfl⟩;obtain⟨i9,hD⟩:∃x,x=f.index.entries.length:=⟨_,rfl⟩;have d0:=gQq eb;rw[<-eb] at J;rw[<-eb,<-V,<-E,<-hE,<-aj,<-hF,<-hG,<-hH,<-hI,<-hJ,<-hD];obtain⟨fi,gn⟩:∃W,W=w5.alloc (.cells #[I U kd,I U i5,N sp cn mb,I U j0,I U j1,I U j2,N kk j3 j5,I U bX,I U fv,I U j4,N k5 i9 k4] 52):=⟨_,rfl⟩;have gs:Below w5.1.size w5 fi:=(by rw[gn];exact gQy);have e9:=gQq gn.symm;have HI6:Hid (ax fi B B v { S with told:=q+Sc.reads S.b (P:Nat) } x c5∧Aside (fun i=>i=B) _ fi):=⟨e3.out.1.below gs,e3.out.2.trans (af gs _) (fun _ _ h=>h)⟩;have ls:=Q.out.pat i;rw[<-hh.out.1,<-hh.out.2] at ls;clear hO hL hB dv b8 eb V E hE aj hF hG hH hI hJ hD gN gn gs e3;by_cases bb:kd=1
     ·have kb:(kd==1)=true:=(by rw[bb];rfl);have a7:cnt (c1,c2) f=(c1+1,c2):=(by unfold cnt;rw[<-d0.out,AG bb]);rw[a7] at hpat a0;have a2:(c1:Int)+1<=1:=(by omega);have b1:(c2:Int)<=1:=(by omega);clear a7 hpat bb J;go_wp2;rw[e9.out];go_roundw;case rel=>exact⟨i+1,_,by omega,by rw[a0.out];rfl,by rw[a0.out],by rw[<-bN.out],by rw[<-bN.out];omega,HI6⟩
      case measure=>simp[intOf];omega
     ·have kb:(kd==1)=false:=(by rw[BQ];exact bb);by_cases bq:kd=3
      ·have kc:(kd==3)=true:=(by rw[bq];rfl);have a7:cnt (c1,c2) f=(c1,c2+1):=(by unfold cnt;rw[<-d0.out,AF bb,AG bq]);rw[a7] at hpat a0;have a2:(c2:Int)+1<=1:=(by omega);have b1:(c1:Int)<=1:=(by omega);clear a7 hpat bb bq J;go_wp2;rw[e9.out];go_roundw;case rel=>exact⟨i+1,_,by omega,by rw[a0.out],by rw[a0.out];rfl,by rw[<-bN.out],by rw[<-bN.out];omega,HI6⟩
       case measure=>simp[intOf];omega
      ·have kc:(kd==3)=false:=(by rw[BQ];exact bq);have a7:cnt (c1,c2) f=(0,0):=(by unfold cnt;rw[<-d0.out,AF bb,AF bq]);rw[a7] at hpat a0;clear a7 hpat bb bq J;go_wp2;rw[e9.out];go_roundw;case rel=>exact⟨i+1,_,by omega,by rw[a0.out];rfl,by rw[a0.out];rfl,by rw[<-bN.out],by rw[<-bN.out];omega,HI6⟩
       case measure=>simp[intOf];omega
    ·have hT:i=fs.length:=(by omega);have k8:¬(P:Int)<(L:Int):=by
      rw[bl,hT,cb.out,Q.out.end_];omega
     have i2:=gQq a3;clear hT a3 ec bl cu b3;go_wp2;go_ret;exact⟨rfl,i2.out⟩
end
end Go.Proofs.YtngmnfdaedlodaaGreatDoor
