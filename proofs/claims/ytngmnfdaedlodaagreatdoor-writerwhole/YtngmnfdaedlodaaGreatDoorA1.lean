import Derived.Test.YtngmnfdaedlodaaGreatDoorC8
namespace Go.Proofs.YtngmnfdaedlodaaGreatDoor
open Bool renaming false->I
variable{i j:Nat}
section
namespace Sc
def runs(b:L8):Nat->Nat->Pos->Nat×Pos×Nat
 |0,j,x=>(j,x,0)
 |n+1,j,x=>match step b x with
  |.ok y=>runs b n (j+1) y
  |.error e=>(j,x,e)
def whole(b:L8):Nat×Pos×Nat:=runs b (b.length+1) 0 begin_
theorem goes_down{b:L8}:∀{k:Nat} {o:Pos},goes b (i+k)=some o->∃x,goes b i=some x
 |0,o,h=>⟨o,h⟩
 |k+1,o,h=>by
  obtain⟨x,y,-⟩:=goes_pred (k:=i+k) h;exact goes_down (k:=k) y
theorem runs_goes{b:L8}:∀{n k j:Nat} {x o:Pos} {e:Nat},goes b j=some x->goes b (j+k)=some o->step b o=.error e->k<n->runs b n j x=(j+k,o,e)
 |0,k,j,x,o,e,_,_,_,h=>absurd h (Nat.not_lt_zero k)
 |n+1,0,j,x,o,e,hj,hk,hs,_=>by
  rw[Nat.add_zero,hj] at hk;injection hk with hk;subst hk;unfold runs;rw[hs];rfl
 |n+1,k+1,j,x,o,e,hj,hk,hs,h=>by
  have A:goes b (j+1+k)=some o:=by rw[show j+1+k=j+(k+1) by omega];exact hk
  obtain⟨J,D⟩:=goes_down A;obtain⟨K,y,E⟩:=goes_pred D;rw[hj] at y;injection y with y;subst y;unfold runs;rw[E];show runs b n (j+1) J=_;rw[runs_goes D A hs (by omega),show j+1+k=j+(k+1) by omega]
theorem whole_of{b:L8}{o:Pos}{e:Nat}(h:goes b j=some o)(A:step b o=.error e):whole b=(j,o,e):=by
 have D:=goes_good h;have y:goes b 0=some begin_:=rfl;have:=runs_goes (n:=b.length+1) (k:=j) y (by rw[Nat.zero_add];exact h) A (by omega);rw[Nat.zero_add] at this;exact this
end Sc
structure Wr where
 s:Dv.St
 k:Wk
 c:List Col
 up:Bool
namespace Wr
def sFr(n:Int)(c:List Col):Fr:=⟨1,n,c,0,0,0,[],jY⟩
def dFr(n q f r:Int)(b:L8):Fr:=⟨2,n,[],q,f,r,b,jY⟩
def xFr(x:Idx):Fr:=⟨3,0,[],0,0,0,[],x⟩
def number(w:Wr):Int:=match w.k.sch w.k.number with
 |some q=>if Sch.same q.cols w.c=true then w.k.number else w.k.number+1
 |none=>w.k.number+1
def due(w:Wr):Bool:=(w.k.sch w.number).isNone||decide (8<=w.k.since)
def takes:Wk->Int->List Fr->Wk
 |k,_,[]=>k
 |k,p,f::l=>takes (Sc.next k f p) (p+((Fr.out f).length:Nat)) l
def bytes(l:List Fr):L8:=(l.map Fr.out).flatten
def write(w:Wr)(l:List Fr):Nat×Wr :=
 let r:=Dv.write w.s (bytes l)
 if r.1≠0 then (r.1,{ w with s:=r.2 }) else (0,{ w with s:=r.2,k:=takes w.k (w.s.b.length:Nat) l })
def dare(r:Nat×Wr):Nat×Wr:=(r.1,if r.1=50∨r.1=51 then { r.2 with up:=I } else r.2)
def piece(w:Wr)(l:List (List V)):Except Nat (List Fr) :=
 let r:=Bt.pack w.c l
 if r.err≠0 then .error r.err else .ok ((if w.due=true then [sFr w.number w.c] else [])++[dFr w.number w.k.frames w.k.rows (l.length:Nat) r.out])
def append(w:Wr)(l:List (List V)):Nat×Wr:=if w.up=I then (6,w) else match piece w l with
 |.error e=>(e,w)
 |.ok p=>dare (write w p)
def need(w:Wr)(l:List (List V)):Nat×Nat:=if w.up=I then (0,6) else match piece w l with
 |.error e=>(0,e)
 |.ok p=>((bytes p).length,0)
def change(w:Wr)(c:List Col):Nat×Wr:=if w.up=I then (6,w) else if Sch.err c≠0 then (Sch.err c,w) else (0,{ w with c:=c.map Col.fix })
def sync(w:Wr):Nat×Wr:=if w.up=I then (6,w) else dare ((Dv.sync w.s).1,{ w with s:=(Dv.sync w.s).2 })
def index(w:Wr):Bool×Nat×Wr:=if w.k.closed=true then (I,0,w) else
 let r:=write w [xFr ⟨(w.s.b.length:Nat),w.k.frames,w.k.rows,w.k.ents⟩]
 if r.1=52 then (I,0,r.2) else (decide (r.1=0),r.1,r.2)
def close(w:Wr):Bool×Nat×Wr:=if w.up=I then (I,6,w) else
 let r:=index w
 if r.2.1≠0 then (I,r.2.1,{ r.2.2 with up:=I }) else
  let q:=Dv.sync r.2.2.s
  if q.1≠0 then (I,q.1,{ r.2.2 with s:=q.2,up:=I }) else (r.1,0,{ r.2.2 with s:=q.2,up:=I })
def opens(s:Dv.St)(c:List Col):Nat×Option Wr×Dv.St:=if Sch.err c≠0 then (Sch.err c,none,s) else if s.down=true then (50,none,s) else
 let z:=Sc.whole s.b
 let r:=Rp.do_ s (Rp.look s.b z.1 z.2.1.at_ z.2.2)
 if r.2.1≠0 then (r.2.1,none,r.2.2) else (0,some ⟨r.2.2,(Sc.whole r.2.2.b).2.1.wk,c.map Col.fix,true⟩,r.2.2)
end Wr
end
section
namespace Dv
theorem lay_told(t:Nat):∀(l:L8) (s:St),lay { s with told:=t } l=((lay s l).1,{ (lay s l).2 with told:=t })
 | [],s=>rfl
 |c::l,s=>by
  unfold lay;have o:may { s with told:=t }=may s:=rfl;rw[o];split
  ·exact lay_told t l { did s with b:=s.b++[c] }
  ·rfl
theorem write_told(t:Nat)(s:St)(l:L8):write { s with told:=t } l=((write s l).1,{ (write s l).2 with told:=t }):=by
 unfold write;dsimp only;rw[lay_told];split
 ·rfl
 ·split
  ·rfl
  ·rfl
theorem sync_told(t:Nat)(s:St):sync { s with told:=t }=((sync s).1,{ (sync s).2 with told:=t }):=by
 unfold sync;dsimp only;split <;> rfl
theorem cut_told2(t:Nat)(s:St)(n:Int):cut { s with told:=t } n=((cut s n).1,{ (cut s n).2 with told:=t }):=by
 unfold cut;have o:may { s with told:=t }=may s:=rfl;rw[o];dsimp only;split
 ·rfl
 ·split
  ·rfl
  ·split <;> rfl
theorem fail_told(t:Nat)(s:St)(a k:Int):fail { s with told:=t } a k=((fail s a k).1,{ (fail s a k).2 with told:=t }):=by
 unfold fail;dsimp only;split
 ·rfl
 ·split <;> rfl
theorem start_told(t:Nat)(s:St):start { s with told:=t }=((start s).1,{ (start s).2 with told:=t }):=by
 unfold start;dsimp only;split <;> rfl
end Dv
namespace Wr
def tl(t:Nat)(z:Wr):Wr:={ z with s:={ z.s with told:=t } }
theorem do_told(t:Nat)(s:Dv.St)(r:Except Nat Nat):Rp.do_ { s with told:=t } r=((Rp.do_ s r).1,(Rp.do_ s r).2.1,{ (Rp.do_ s r).2.2 with told:=t }):=by
 unfold Rp.do_;cases r with
 |error c=>rfl
 |ok K=>
  dsimp only;rw[Dv.cut_told2];split
  ·rfl
  ·split <;> rfl
theorem write_tl(t:Nat)(z:Wr)(l:List Fr):write (tl t z) l=((write z l).1,tl t (write z l).2):=by
 unfold write tl;dsimp only;rw[Dv.write_told];split <;> rfl
theorem dare_tl(t:Nat)(r:Nat×Wr):dare (r.1,tl t r.2)=((dare r).1,tl t (dare r).2):=by
 unfold dare tl;dsimp only;split <;> rfl
theorem append_tl(t:Nat)(z:Wr)(o:List (List V)):append (tl t z) o=((append z o).1,tl t (append z o).2):=by
 have y:piece (tl t z) o=piece z o:=rfl;unfold append;rw[y];show(if z.up=I then _ else _)=_;split
 ·rfl
 ·cases piece z o with
  |error e=>rfl
  |ok p=>
   dsimp only;rw[write_tl];exact dare_tl t (write z p)
theorem change_tl(t:Nat)(z:Wr)(c:List Col):change (tl t z) c=((change z c).1,tl t (change z c).2):=by
 unfold change;show(if z.up=I then _ else _)=_;split
 ·rfl
 ·split <;> rfl
theorem sync_tl(t:Nat)(z:Wr):sync (tl t z)=((sync z).1,tl t (sync z).2):=by
 unfold sync;show(if z.up=I then _ else _)=_;split
 ·rfl
 ·have h:Dv.sync (tl t z).s=((Dv.sync z.s).1,{ (Dv.sync z.s).2 with told:=t }):=Dv.sync_told t z.s;rw[h];exact dare_tl t ((Dv.sync z.s).1,{ z with s:=(Dv.sync z.s).2 })
theorem index_tl(t:Nat)(z:Wr):index (tl t z)=((index z).1,(index z).2.1,tl t (index z).2.2):=by
 unfold index;show(if z.k.closed=true then _ else _)=_;split
 ·rfl
 ·have h:write (tl t z) [xFr ⟨((tl t z).s.b.length:Nat),(tl t z).k.frames,(tl t z).k.rows,(tl t z).k.ents⟩]=((write z [xFr ⟨(z.s.b.length:Nat),z.k.frames,z.k.rows,z.k.ents⟩]).1,tl t (write z [xFr ⟨(z.s.b.length:Nat),z.k.frames,z.k.rows,z.k.ents⟩]).2):=write_tl t z _;dsimp only;rw[h];split <;> rfl
theorem close_tl(t:Nat)(z:Wr):close (tl t z)=((close z).1,(close z).2.1,tl t (close z).2.2):=by
 unfold close;show(if z.up=I then _ else _)=_;split
 ·rfl
 ·dsimp only;rw[index_tl];dsimp only;have h:Dv.sync (tl t (index z).2.2).s=((Dv.sync (index z).2.2.s).1,{ (Dv.sync (index z).2.2.s).2 with told:=t }):=Dv.sync_told t _;rw[h];split
  ·rfl
  ·split <;> rfl
theorem opens_told(t:Nat)(s:Dv.St)(c:List Col):opens { s with told:=t } c=((opens s c).1,(opens s c).2.1.map (tl t),{ (opens s c).2.2 with told:=t }):=by
 unfold opens;dsimp only;rw[do_told];split
 ·rfl
 ·split
  ·rfl
  ·dsimp only;split <;> rfl
end Wr
namespace Dv
structure Fits(s:St)(i:Nat):Prop where
 safe:s.safe<=s.b.length
 len:s.b.length<=1048576
 most:s.most<=1048576
 done:s.done<=i*10000000
theorem Fits.up{s:St}(h:Fits s i)(o:i<=j):Fits s j:=⟨h.safe,h.len,h.most,AT h.done (Nat.mul_le_mul_right _ o)⟩
theorem fails_fit(s:St)(h:s.safe<=s.b.length):(fails s).b.length<=s.b.length∧(fails s).safe<=(fails s).b.length∧(fails s).most=s.most∧(fails s).done=s.done:=by
 unfold fails;dsimp only;split
 ·rw[AM];exact⟨by omega,by omega,rfl,rfl⟩
 ·exact⟨gQx,h,rfl,rfl⟩
theorem lay_fit:∀(l:L8) (s:St),s.safe<=s.b.length->(lay s l).2.b.length<=s.b.length+l.length∧(lay s l).2.safe<=(lay s l).2.b.length∧(lay s l).2.most=s.most∧(lay s l).2.done<=s.done+l.length
 | [],s,h=>⟨gQx,h,rfl,gQx⟩
 |c::l,s,h=>by
  unfold lay;split
  ·have:=lay_fit l { did s with b:=s.b++[c] } (by show s.safe<=(s.b++[c]).length;simp;omega);have o:({ did s with b:=s.b++[c] }:St).b.length=s.b.length+1:=(by simp);have y:({ did s with b:=s.b++[c] }:St).done=s.done+1:=rfl;have A:({ did s with b:=s.b++[c] }:St).most=s.most:=rfl;rw[o,y,A] at this;rw[AI];exact⟨by omega,this.2.1,this.2.2.1,by omega⟩
  ·have:=fails_fit s h;rw[AI];exact⟨by dsimp only;omega,this.2.1,this.2.2.1,by dsimp only;omega⟩
theorem write_fit{s:St}(h:Fits s i)(l:L8)(E:l.length<=10000000):Fits (write s l).2 (i+1):=by
 unfold write;split
 ·exact h.up (Nat.le_succ i)
 ·split
  ·exact h.up (Nat.le_succ i)
  ·next h2=>
   have:=lay_fit l s h.safe;have hd:=h.done;have D:=h.most;have y:=h.len;have J:s.b.length+l.length<=1048576:=by
    by_cases o:l=[]
    ·subst o;simpa using y
    ·by_cases A:s.most<s.b.length+l.length
     ·exact absurd ⟨o,A⟩ h2
     ·omega
   exact⟨this.2.1,by dsimp only;omega,by dsimp only;rw[this.2.2.1];exact D,by dsimp only;omega⟩
theorem sync_fit{s:St}(h:Fits s i):Fits (sync s).2 (i+1):=by
 unfold sync;split
 ·exact h.up (Nat.le_succ i)
 ·exact⟨gQx,h.len,h.most,AT h.done (Nat.mul_le_mul_right _ (Nat.le_succ i))⟩
theorem cut_fit{s:St}(h:Fits s i)(n:Int):Fits (cut s n).2 (i+1):=by
 have o:=h.up (Nat.le_succ i);have hd:=h.done;have y:=h.len;unfold cut;split
 ·exact o
 ·split
  ·exact o
  ·split
   ·refine⟨?_,?_,h.most,?_⟩
    ·have:=h.safe;dsimp only;rw[AM];split <;> omega
    ·dsimp only;rw[AM];omega
    ·show s.done+1<=_;omega
   ·have:=fails_fit s h.safe;exact⟨this.2.1,by dsimp only;omega,by dsimp only;rw[this.2.2.1];exact h.most,by dsimp only;rw[this.2.2.2];exact o.done⟩
theorem fail_fit{s:St}(h:Fits s i)(a k:Int):Fits (fail s a k).2 (i+1):=by
 have o:=h.up (Nat.le_succ i);unfold fail;split
 ·exact o
 ·split
  ·exact o
  ·exact⟨o.safe,o.len,o.most,o.done⟩
theorem start_fit{s:St}(h:Fits s i):Fits (start s).2 (i+1):=by
 have o:=h.up (Nat.le_succ i);unfold start;split
 ·exact⟨o.safe,o.len,o.most,o.done⟩
 ·exact o
end Dv
namespace Wr
theorem do_fit{s:Dv.St}(h:Dv.Fits s i)(r:Except Nat Nat):Dv.Fits (Rp.do_ s r).2.2 (i+1):=by
 unfold Rp.do_;cases r with
 |error c=>exact h.up (Nat.le_succ i)
 |ok K=>
  dsimp only;split
  ·exact h.up (Nat.le_succ i)
  ·split
   ·exact Dv.cut_fit h _
   ·exact Dv.cut_fit h _
theorem opens_fit{s:Dv.St}(h:Dv.Fits s i)(c:List Col):Dv.Fits (opens s c).2.2 (i+1)∧∀z,(opens s c).2.1=some z->z.s=(opens s c).2.2:=by
 unfold opens;split
 ·exact⟨h.up (Nat.le_succ i),fun z o=>by cases o⟩
 ·split
  ·exact⟨h.up (Nat.le_succ i),fun z o=>by cases o⟩
  ·dsimp only;split
   ·exact⟨do_fit h _,fun z o=>by cases o⟩
   ·exact⟨do_fit h _,fun z o=>by injection o with o;rw[<-o]⟩
end Wr
end
section
structure Op where
 kind:Int
 c:List Col
 l:List (List V)
 n:Int
 m:Int
structure Al where
 s:Dv.St
 w:Option (Wk×List Col×Bool)
namespace Al
def of(z:Wr):Wk×List Col×Bool:=(z.k,z.c,z.up)
def does(o:Op)(z:Wr):Nat×Wr:=if o.kind=2 then z.append o.l else if o.kind=3 then z.change o.c else if o.kind=4 then z.sync else if o.kind=5 then (z.close.2.1,z.close.2.2) else (0,z)
def step(o:Op)(A:Al):Nat×Al :=
 if o.kind=1 then ((Wr.opens A.s o.c).1,⟨(Wr.opens A.s o.c).2.2,match (Wr.opens A.s o.c).2.1 with | some z=>some (of z) | none=>A.w⟩)
 else if o.kind=7 then ((Dv.fail A.s o.n o.m).1,⟨(Dv.fail A.s o.n o.m).2,A.w⟩)
 else if o.kind=8 then ((Dv.start A.s).1,⟨(Dv.start A.s).2,A.w⟩)
 else match A.w with
  |none=>(0,A)
  |some u=>((does o ⟨A.s,u.1,u.2.1,u.2.2⟩).1,⟨(does o ⟨A.s,u.1,u.2.1,u.2.2⟩).2.s,some (of (does o ⟨A.s,u.1,u.2.1,u.2.2⟩).2)⟩)
def tl(t:Nat)(A:Al):Al:={ A with s:={ A.s with told:=t } }
theorem does_tl(t:Nat)(o:Op)(z:Wr):does o (z.tl t)=((does o z).1,(does o z).2.tl t):=by
 unfold does;split
 ·exact Wr.append_tl t z o.l
 ·split
  ·exact Wr.change_tl t z o.c
  ·split
   ·exact Wr.sync_tl t z
   ·split
    ·rw[Wr.close_tl]
    ·rfl
theorem step_tl(t:Nat)(y:Op)(o:Al):step y (o.tl t)=((step y o).1,(step y o).2.tl t):=by
 unfold step;split
 ·have h:Wr.opens (tl t o).s y.c=((Wr.opens o.s y.c).1,(Wr.opens o.s y.c).2.1.map (Wr.tl t),{ (Wr.opens o.s y.c).2.2 with told:=t }):=Wr.opens_told t o.s y.c;rw[h];cases (Wr.opens o.s y.c).2.1 with
  |none=>rfl
  |some z=>rfl
 ·split
  ·have h:Dv.fail (tl t o).s y.n y.m=((Dv.fail o.s y.n y.m).1,{ (Dv.fail o.s y.n y.m).2 with told:=t }):=Dv.fail_told t o.s y.n y.m;rw[h];rfl
  ·split
   ·have h:Dv.start (tl t o).s=((Dv.start o.s).1,{ (Dv.start o.s).2 with told:=t }):=Dv.start_told t o.s;rw[h];rfl
   ·show(match o.w with | none=>_ | some u=>_)=_;cases o.w with
    |none=>rfl
    |some u=>
     dsimp only;have h:does y ⟨(tl t o).s,u.1,u.2.1,u.2.2⟩=((does y ⟨o.s,u.1,u.2.1,u.2.2⟩).1,(does y ⟨o.s,u.1,u.2.1,u.2.2⟩).2.tl t):=does_tl t y ⟨o.s,u.1,u.2.1,u.2.2⟩;rw[h];rfl
theorem bytes_few(z:Wr)(o:List (List V))(p:List Fr)(h:z.piece o=.ok p):p.length<=2:=by
 unfold Wr.piece at h;dsimp only at h;split at h
 ·cases h
 ·injection h with h;rw[<-h];split <;> simp
theorem bytes_le(l:List Fr):(Wr.bytes l).length<=2202*l.length:=by
 induction l with
 |nil=>simp[Wr.bytes]
 |cons f l ih=>
  have y:(Fr.out f).length<=2202:=by
   unfold Fr.out;split
   ·next h=>have:=(Fr.err_open h).2;simp;omega
   ·simp
  have o:Wr.bytes (f::l)=Fr.out f++Wr.bytes l:=by simp[Wr.bytes]
  rw[o,AH,AI];omega
theorem write_fit(z:Wr)(l:List Fr)(o:l.length<=10){i:Nat}(h:Dv.Fits z.s i):Dv.Fits (z.write l).2.s (i+1):=by
 have hb:(Wr.bytes l).length<=10000000:=by
  have:=bytes_le l;omega
 have:=Dv.write_fit h (Wr.bytes l) hb;unfold Wr.write;dsimp only;split <;> exact this
theorem does_fit(A:Op)(z:Wr){i:Nat}(h:Dv.Fits z.s i):Dv.Fits (does A z).2.s (i+2):=by
 have o:=h.up (Nat.le_add_right i 2);unfold does;split
 ·unfold Wr.append;split
  ·exact o
  ·cases hp:z.piece A.l with
   |error e=>exact o
   |ok p=>
    have:=(write_fit z p (by have:=bytes_few z A.l p hp;omega) h).up (show i+1<=i+2 by omega);dsimp only;unfold Wr.dare;dsimp only;split <;> exact this
 ·split
  ·unfold Wr.change;split
   ·exact o
   ·split <;> exact o
  ·split
   ·unfold Wr.sync;split
    ·exact o
    ·have:=(Dv.sync_fit h).up (show i+1<=i+2 by omega);unfold Wr.dare;dsimp only;split <;> exact this
   ·split
    ·have y:Dv.Fits z.index.2.2.s (i+1):=by
      unfold Wr.index;split
      ·exact h.up (Nat.le_succ i)
      ·have:=write_fit z [Wr.xFr ⟨(z.s.b.length:Nat),z.k.frames,z.k.rows,z.k.ents⟩] (by simp) h;dsimp only;split <;> exact this
     unfold Wr.close;split
     ·exact o
     ·dsimp only;split
      ·exact y.up (Nat.le_succ _)
      ·split
       ·exact Dv.sync_fit y
       ·exact Dv.sync_fit y
    ·exact o
theorem step_fit(o:Op)(y:Al){i:Nat}(h:Dv.Fits y.s i):Dv.Fits (step o y).2.s (i+2):=by
 unfold step;split
 ·exact((Wr.opens_fit h o.c).1).up (by omega)
 ·split
  ·exact(Dv.fail_fit h o.n o.m).up (by omega)
  ·split
   ·exact(Dv.start_fit h).up (by omega)
   ·cases y.w with
    |none=>exact h.up (by omega)
    |some u=>exact does_fit o ⟨y.s,u.1,u.2.1,u.2.2⟩ h
end Al
end
end Go.Proofs.YtngmnfdaedlodaaGreatDoor
