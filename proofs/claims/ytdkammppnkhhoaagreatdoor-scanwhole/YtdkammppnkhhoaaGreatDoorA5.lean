import Derived.Test.YtdkammppnkhhoaaGreatDoorB20
import Derived.Test.YtdkammppnkhhoaaGreatDoorB15
import Derived.Test.YtdkammppnkhhoaaGreatDoorB19
set_option maxRecDepth 100000
set_option maxHeartbeats 2000000
namespace Go.Proofs.YtdkammppnkhhoaaGreatDoor
variable{B M a c k n:Nat}{w w' w1:World}{b r:L8}{c0 c1 c10 c2 c3 c4 c5 c6 c7 c8 c9 v:Value}{C u:AV}{T:TypeId}{f:Fr}{xs:List Ent}
section
open Go.RowKit
namespace Sch
end Sch
end
section
structure Kn where
 cols:List Col
 place:Int
structure Wk where
 sch:Int->Option Kn
 number:Int
 since:Int
 frames:Int
 rows:Int
 ents:List Ent
 closed:Bool
namespace Sc
def new:Wk:=⟨fun _=>none,-1,0,0,0,[],false⟩
def schAt(s:Wk)(n:Int):List Col:=match s.sch n with
 |some k=>k.cols
 |none=>[]
def placeAt(s:Wk)(n:Int):Int:=match s.sch n with
 |some k=>k.place
 |none=>0
def follows(s:Wk)(f:Fr)(p:Int):Bool :=
 if f.kind=1 then (if f.number=s.number then Sch.same f.cols (schAt s s.number) else decide (f.number=s.number+1))
 else if f.kind=2 then decide (f.number=s.number∧f.seq=s.frames∧f.first=s.rows)
 else Idx.same f.index ⟨p,s.frames,s.rows,s.ents⟩
def learn(s:Wk)(n:Int)(c:List Col)(p:Int):Wk:={ s with sch:=fun m=>if m=n then some ⟨c.map Col.fix,p⟩ else s.sch m,number:=n,since:=0 }
def enter(s:Wk)(f:Fr)(p:Int):Wk:=if f.seq % 4=0∧s.ents.length<64 then { s with ents:=s.ents++[⟨p,f.first,placeAt s s.number⟩] } else s
def count(s:Wk)(f:Fr):Wk:={ s with frames:=s.frames+1,rows:=s.rows+f.rows,since:=s.since+1 }
def take(s:Wk)(f:Fr)(p:Int):Wk :=
 if f.kind=1 then { learn s f.number f.cols p with closed:=false }
 else if f.kind=2 then { count (enter s f p) f with closed:=false }
 else { s with closed:=true }
def may(s:Wk)(f:Fr)(p:Int):Bool:=Fr.within Fr.S p&&decide (Fr.err f=0)&&follows s f p
def next(s:Wk)(f:Fr)(p:Int):Wk:=if may s f p=true then take s f p else s
structure Good(s:Wk):Prop where
 number:-1<=s.number∧s.number<2147483648
 since:0<=s.since∧s.since<=s.frames
 frames:s.frames<=70368744177664
 rows:0<=s.rows∧s.rows<=1099511627840
 ents:s.ents.length*24<=140737488351232
 entsOk:∀e∈s.ents,Fr.i64 e.at_∧Fr.i64 e.row∧Fr.i64 e.sch
 known:∀n k,s.sch n=some k->(0<=n∧n<=s.number)∧Sch.err k.cols=0∧(∀c∈k.cols,c.fix=c∧c.wf)∧(0<=k.place∧k.place<1099511627776)
 has:0<=s.number->∃k,s.sch s.number=some k
theorem good_new:Good new:=⟨by decide,by decide,by decide,by decide,by decide,fun e o=>(by cases o),fun n k h=>(by cases h),fun h=>(by simp[new] at h)⟩
theorem place_ok{s:Wk}(h:Good s)(n:Int):0<=placeAt s n∧placeAt s n<1099511627776:=by
 unfold placeAt;split
 ·next k hk=>exact(h.known n k hk).2.2.2
 ·omega
theorem i64_of{n:Int}(h:0<=n∧n<1099511627776):Fr.i64 n:=⟨by omega,by omega⟩
theorem fix_wf{s:List Col}(o:Sch.err s=0)(y:∀c∈s,c.wf):Sch.err (s.map Col.fix)=0∧∀c∈s.map Col.fix,c.fix=c∧c.wf:=by
 have:=Sch.read_ok (Sch.read_put o y);exact⟨this.1,this.2.2⟩
theorem good_learn{s:Wk}(h:Good s)(n:Int)(c:List Col)(p:Int)(D:0<=n∧n<2147483648)(J:s.number<=n)(E:Sch.err c=0)(L:∀x∈c,x.wf)(K:0<=p∧p<1099511627776):Good (learn s n c p):=by
 refine⟨⟨by show -1<=n;omega,D.2⟩,⟨Int.le_refl _,?_⟩,h.frames,h.rows,h.ents,h.entsOk,fun m k I=>?_,fun _=>⟨⟨c.map Col.fix,p⟩,by show(if n=n then _ else _)=_;rw[if_pos rfl]⟩⟩
 ·have:=h.since;show 0<=s.frames;omega
 ·have o:(if m=n then some ⟨c.map Col.fix,p⟩ else s.sch m)=some k:=I;by_cases A:m=n
  ·rw[if_pos A] at o;injection o with o;rw[<-o,A];obtain⟨y,z⟩:=fix_wf E L;exact⟨⟨D.1,Int.le_refl _⟩,y,z,K⟩
  ·rw[if_neg A] at o;obtain⟨y,z⟩:=h.known m k o;exact⟨⟨y.1,Int.le_trans y.2 J⟩,z⟩
theorem good_enter{s:Wk}(h:Good s)(f:Fr)(p:Int)(z:0<=p∧p<1099511627776)(y:0<=f.first∧f.first<1099511627776):Good (enter s f p):=by
 unfold enter;split
 ·next hc=>
  refine⟨h.number,h.since,h.frames,h.rows,?_,?_,h.known,h.has⟩
  ·simp only[List.length_append,List.length_singleton];omega
  ·intro e o;rcases List.mem_append.1 o with o | o
   ·exact h.entsOk e o
   ·rw[List.mem_singleton] at o;subst o;exact⟨i64_of z,i64_of y,i64_of (place_ok h s.number)⟩
 ·exact h
theorem enter_same(s:Wk)(f:Fr)(p:Int):(enter s f p).sch=s.sch∧(enter s f p).number=s.number∧(enter s f p).since=s.since∧(enter s f p).frames=s.frames∧(enter s f p).rows=s.rows∧(enter s f p).closed=s.closed:=by
 unfold enter;split <;> exact⟨rfl,rfl,rfl,rfl,rfl,rfl⟩
theorem good_count{s:Wk}(h:Good s)(f:Fr)(o:s.frames<1099511627776)(y:s.rows<1099511627776)(z:1<=f.rows∧f.rows<=64):Good (count s f):=by
 have D:=h.since;have A:=h.rows;exact⟨h.number,⟨by show 0<=s.since+1;omega,by show s.since+1<=s.frames+1;omega⟩,by show s.frames+1<=_;omega,⟨by show 0<=s.rows+f.rows;omega,by show s.rows+f.rows<=_;omega⟩,h.ents,h.entsOk,h.known,h.has⟩
theorem good_closed{s:Wk}(h:Good s)(c:Bool):Good { s with closed:=c }:=⟨h.number,h.since,h.frames,h.rows,h.ents,h.entsOk,h.known,h.has⟩
theorem err_parts(h:Fr.err f=0):(f.kind=1->(0<=f.number∧f.number<2147483648)∧Sch.err f.cols=0)∧(f.kind=2->(0<=f.number∧f.number<2147483648)∧(0<=f.seq∧f.seq<1099511627776)∧(0<=f.first∧f.first<1099511627776)∧(1<=f.rows∧f.rows<=64))∧(f.kind=1∨f.kind=2∨f.kind=3):=by
 have o:=(Fr.err_open h).1;refine⟨fun y=>?_,fun y=>?_,Fr.head_fields o⟩
 ·unfold Fr.err0 at o;rw[if_pos y] at o;split at o
  ·omega
  ·next hn=>
   have:=Fr.within_iff.1 (by simpa using hn);exact⟨this,o⟩
 ·unfold Fr.err0 at o;rw[if_neg (by omega),if_pos y] at o;split at o
  ·omega
  ·next hn=>
   simp only[Bool.not_eq_false,Bool.and_eq_true,decide_eq_true_iff] at hn;exact⟨Fr.within_iff.1 hn.1.1.1,Fr.within_iff.1 hn.1.1.2,Fr.within_iff.1 hn.1.2,hn.2⟩
theorem may_parts{s:Wk}{p:Int}(h:may s f p=true):(0<=p∧p<1099511627776)∧Fr.err f=0∧follows s f p=true:=by
 unfold may at h;simp only[Bool.and_eq_true,decide_eq_true_iff] at h;exact⟨Fr.within_iff.1 h.1.1,h.1.2,h.2⟩
theorem follows_data{s:Wk}{p:Int}(o:f.kind=2)(h:follows s f p=true):f.number=s.number∧f.seq=s.frames∧f.first=s.rows:=by
 unfold follows at h;rw[if_neg (by omega),if_pos o] at h;exact of_decide_eq_true h
theorem follows_sch{s:Wk}{p:Int}(o:f.kind=1)(h:follows s f p=true):s.number<=f.number:=by
 unfold follows at h;rw[if_pos o] at h;split at h
 ·omega
 ·have:=of_decide_eq_true h;omega
theorem good_take{s:Wk}(h:Good s){f:Fr}{p:Int}(V:f.wf)(U:may s f p=true):Good (take s f p):=by
 obtain⟨A,R,z⟩:=may_parts U;obtain⟨K,L,-⟩:=err_parts R;unfold take;split
 ·next hk=>
  obtain⟨o,y⟩:=K hk;exact good_closed (good_learn h _ _ _ o (follows_sch hk z) y V.2.2.1 A) false
 ·split
  ·next hk=>
   obtain⟨o,y,D,E⟩:=L hk;obtain⟨W,I,J⟩:=follows_data hk z;have O:=good_enter h f p A D;obtain⟨c1,c2,c3,c4,c5,c6⟩:=enter_same s f p;exact good_closed (good_count O f (by rw[c4,<-I];omega) (by rw[c5,<-J];omega) E) false
  ·exact good_closed h true
def runT(m:Nat)(t:L8):Except Nat L8 :=
 if t.findIdx (·==0)<t.length then (if t.findIdx (·==0)=0 then .error 4 else .ok (t.take (t.findIdx (·==0))))
 else if m=2202 then .error 2 else .error 142
def runOf(r:L8):Except Nat L8:=if r.headD 0≠0 then .error 141 else runT r.length r.tail
theorem runOf_cons(c:UInt8)(t:L8):runOf (c::t)=if c≠0 then .error 141 else runT (t.length+1) t:=rfl
def reads(b:L8)(p:Int):Nat:=if p<0∨(b.length:Int)<=p then 0 else ((b.drop p.toNat).take 2202).length
def at_(b:L8)(p:Int):Except Nat (Fr×Nat) :=
 if p<0∨(b.length:Int)<p then .error 7 else if p=(b.length:Int) then .error 140
 else match runOf ((b.drop p.toNat).take 2202) with
 |.error e=>.error e
 |.ok r=>match Fr.dec r with
  |.error e=>.error e
  |.ok f=>.ok (f,p.toNat+r.length+2)
theorem findIdx_split:∀(t:L8),t.findIdx (·==0)<t.length->∃r,t=t.take (t.findIdx (·==0))++0::r
 | [],h=>by simp at h
 |c::t,h=>by
  rw[List.findIdx_cons] at h ⊢;by_cases o:(c==0)=true
  ·rw[o];have:c=0:=(by simpa using o);exact⟨t,by simp[this]⟩
  ·have y:(c==0)=false:=(by simpa using o);rw[y] at h ⊢;simp only[cond_false,List.length_cons] at h;obtain⟨r,z⟩:=findIdx_split t (by omega);refine⟨r,?_⟩;simp only[cond_false,List.take_succ_cons,List.cons_append];rw[<-z]
theorem findIdx_pre:∀(a r:L8),(∀c∈a,c≠0)->(a++0::r).findIdx (·==0)=a.length
 | [],r,_=>by simp[List.findIdx_cons]
 |c::a,r,h=>by
  rw[List.cons_append,List.findIdx_cons];have o:(c==0)=false:=by simpa using h c (by simp)
  rw[o,findIdx_pre a r (fun x y=>h x (by simp[y]))];simp
theorem findIdx_before:∀(t:L8),∀c∈t.take (t.findIdx (·==0)),c≠0
 | [],c,o=>by simp at o
 |d::t,c,o=>by
  rw[List.findIdx_cons] at o;by_cases hd:(d==0)=true
  ·rw[hd] at o;simp at o
  ·have y:(d==0)=false:=(by simpa using hd);rw[y] at o;simp only[cond_false,List.take_succ_cons,List.mem_cons] at o;rcases o with rfl | o
   ·simpa using hd
   ·exact findIdx_before t c o
theorem runOf_ok{l:L8}(A:l≠[])(h:runOf l=.ok r):∃o,l=0::(r++0::o)∧r≠[]∧∀c∈r,c≠0:=by
 obtain⟨c,t,rfl⟩:∃c t,l=c::t:=by
  cases l with
  |nil=>exact absurd rfl A
  |cons c t=>exact⟨c,t,rfl⟩
 rw[runOf_cons] at h;split at h
 ·cases h
 ·next hc=>
  have z:c=0:=by simpa using hc
  subst z;unfold runT at h;split at h
  ·next hlt=>
   split at h
   ·cases h
   ·next h0=>
    injection h with h;obtain⟨o,y⟩:=findIdx_split t hlt;rw[h] at y;refine⟨o,by rw[<-y],fun D=>?_,fun x E=>findIdx_before t x (by rw[h];exact E)⟩;rw[D] at h;have:=congrArg List.length h;simp only[List.length_take,List.length_nil] at this;omega
  ·split at h <;> cases h
theorem runOf_mk{o:L8}(y:r≠[])(h:∀c∈r,c≠0):runOf (0::(r++0::o))=.ok r:=by
 have e:=findIdx_pre r o h;have z:0<r.length:=List.length_pos_iff.2 y;rw[runOf_cons,if_neg (by simp)];unfold runT;simp only[e];rw[if_pos (by simp),if_neg (by omega)];simp
theorem at_ok{p:Int}(h:at_ b p=.ok (f,n)):0<=p∧p<(b.length:Int)∧Fr.err f=0∧f.wf∧n=p.toNat+(Fr.run f).length+2∧n<=b.length∧(b.drop p.toNat).take ((Fr.run f).length+2)=0::(Fr.run f++[0]):=by
 unfold at_ at h;split at h
 ·cases h
 ·next h1=>
  split at h
  ·cases h
  ·next h2=>
   split at h
   ·cases h
   ·next r hr=>
    split at h
    ·cases h
    ·next g hg=>
     injection h with h;injection h with h3 h4;subst h3;obtain⟨A,o,K,D,L⟩:=Fr.dec_ok hg;have O:p.toNat<b.length:=(by omega);have J:(b.drop p.toNat).take 2202≠[]:=by
      intro E;have:=congrArg List.length E;simp only[List.length_take,List.length_drop,List.length_nil] at this;omega
     obtain⟨R,z,-,-⟩:=runOf_ok J hr;have I:=congrArg List.length z;simp only[List.length_take,List.length_drop,List.length_cons,List.length_append] at I;refine⟨by omega,by omega,A,D,by rw[o];omega,by omega,?_⟩;have y:=congrArg (List.take (r.length+2)) z;rw[List.take_take,Nat.min_eq_left (by omega)] at y;rw[o,y,List.take_succ_cons,List.take_append,List.take_of_length_le (by omega)];simp
theorem at_take{p:Int}{m:Nat}(h:at_ b p=.ok (f,n))(V:n<=m)(hb:m<=b.length):at_ (b.take m) p=.ok (f,n):=by
 obtain⟨K,L,z,R,A,U,D⟩:=at_ok h;have O:=(Fr.err_open z).2;have o:=Fr.run_ge (f:=f);have J:((b.take m).drop p.toNat).take 2202=0::(Fr.run f++0::((((b.take m).drop p.toNat).take 2202).drop ((Fr.run f).length+2))):=by
  have e:=List.take_append_drop ((Fr.run f).length+2) (((b.take m).drop p.toNat).take 2202);have y:(((b.take m).drop p.toNat).take 2202).take ((Fr.run f).length+2)=0::(Fr.run f++[0]):=by
   rw[List.take_take,Nat.min_eq_left (by omega),List.drop_take,List.take_take,Nat.min_eq_left (by omega),D]
  rw[y] at e;simpa using e.symm
 have hd:Fr.dec (Fr.run f)=.ok f:=by
  unfold at_ at h;rw[if_neg (by omega),if_neg (by omega)] at h;split at h
  ·cases h
  ·next r hr=>
   split at h
   ·cases h
   ·next g hg=>
    injection h with h;injection h with h8 h9;subst h8;rw[(Fr.dec_ok hg).2.1];exact hg
 unfold at_;have I:(b.take m).length=m:=by rw[List.length_take];omega
 rw[I,if_neg (by omega),if_neg (by omega),J,runOf_mk (fun E=>by rw[E] at o;simp at o) (Fr.run_nz f)];simp only[hd];rw[A]
structure Pos where
 at_:Nat
 wk:Wk
 read:Nat
def begin_:Pos:=⟨0,new,0⟩
def step(b:L8)(x:Pos):Except Nat Pos:=match Sc.at_ b x.at_ with
 |.error e=>.error e
 |.ok (f,n)=>if may x.wk f x.at_=true then .ok ⟨n,take x.wk f x.at_,x.read+reads b x.at_⟩ else .error 143
def goes(b:L8):Nat->Option Pos
 |0=>some begin_
 |k+1=>match goes b k with
  |none=>none
  |some x=>match step b x with
   |.error _=>none
   |.ok y=>some y
theorem step_ok{x o:Pos}(h:step b x=.ok o):∃f,Sc.at_ b x.at_=.ok (f,o.at_)∧may x.wk f x.at_=true∧o.wk=take x.wk f x.at_∧o.read=x.read+reads b x.at_:=by
 unfold step at h;split at h
 ·cases h
 ·next f n hf=>
  split at h
  ·next hm=>
   injection h with h;subst h;exact⟨f,hf,hm,rfl,rfl⟩
  ·cases h
theorem goes_succ{x o:Pos}(h:goes b k=some x)(y:step b x=.ok o):goes b (k+1)=some o:=by
 rw[goes,h];simp only[y]
theorem goes_pred{o:Pos}(h:goes b (k+1)=some o):∃x,goes b k=some x∧step b x=.ok o:=by
 rw[goes] at h;split at h
 ·cases h
 ·next x hx=>
  split at h
  ·cases h
  ·next z hz=>
   injection h with h;subst h;exact⟨x,hx,hz⟩
theorem reads_le(b:L8)(p:Int):reads b p<=2202:=by
 unfold reads;split
 ·omega
 ·simp;omega
theorem goes_good:∀{k:Nat} {x:Pos},goes b k=some x->Good x.wk∧x.at_<=b.length∧8*k<=x.at_∧x.read<=k*2202
 |0,x,h=>by
  injection h with h;subst h;exact⟨good_new,Nat.zero_le _,xZ,xZ⟩
 |k+1,y,h=>by
  obtain⟨x,O,L⟩:=goes_pred h;obtain⟨D,X,Y,Z⟩:=goes_good O;obtain⟨f,E,I,J,K⟩:=step_ok L;obtain⟨R,U,V,o,z,A,W⟩:=at_ok E;have ah:=Fr.run_ge (f:=f);have aj:=reads_le b x.at_;rw[J,K];refine⟨good_take D o I,A,?_,?_⟩
  ·rw[z];omega
  ·omega
theorem goes_once:∀{j k:Nat} {x y:Pos} {e:Nat},goes b j=some x->step b x=.error e->goes b k=some y->k<=j:=by
 intro j k x y e D A E;rcases Nat.lt_or_ge j k with h | h
 ·exfalso;have z:goes b (j+1)=none:=by
   rw[goes,D];simp only[A]
  have:∀d,goes b (j+1+d)=none:=by
   intro d;induction d with
   |zero=>exact z
   |succ d ih=>
    show goes b (j+1+d+1)=none;rw[goes,ih]
  have o:=this (k-(j+1));rw[show j+1+(k-(j+1))=k by omega,E] at o;cases o
 ·exact h
theorem goes_uniq{j:Nat}{x A:Pos}{e g:Nat}(z:goes b j=some x)(D:step b x=.error e)(o:goes b k=some A)(y:step b A=.error g):j=k∧x=A∧e=g:=by
 have I:=goes_once z D o;have J:=goes_once o y z;have E:j=k:=by omega
 subst E;rw[z] at o;injection o with o;subst o;rw[D] at y;injection y with y;exact⟨rfl,rfl,y⟩
theorem step_end{x:Pos}(h:x.at_=b.length):step b x=.error 140:=by
 unfold step at_;rw[if_neg (by omega),if_pos (by omega)]
end Sc
end
section
open Go.RowKit Go.Maps
theorem nV:Keyed Tryz.prog 2:=int_keyed Tryz.underlying2
def eX:Value:=.agg #[.slice none 0 0,.int .i64 0]
theorem qS(w:World):(zeroValue 93).run Tryz.prog w=.ok eX w:=by kernel_rfl
def sU(v:Value):Option (DataW Value×List MemPlace):=some (.held v,[])
def qe(n:Int):Lit:=.int .i64 n
theorem mr{a b:Int}(h:qe a=qe b):a=b:=by
 unfold qe at h;injection h
theorem kJ{n:Int}(h:Fr.i64 n):keyOf Tryz.prog 2 (.int .i64 n)=some (qe n):=keyOf_int_mk Tryz.underlying2 (by
 show(decide _&&decide _)=true;rw[Bool.and_eq_true];exact⟨decide_eq_true h.1,decide_eq_true h.2⟩)
structure ek(w:World)(M n:Nat)(g:Int->Option Value):Prop where
 out:∃D:DataW Value,w.ownsMap Tryz.prog 2 sU M n D∧∀m,Maps.has D (qe m)=(g m).isSome∧D.atKey (qe m) (.held eX)=.held ((g m).getD eX)
section
variable {w w':World} {M n:Nat} {g:Int->Option Value}
theorem qd(w:World):ek (w.alloc (.map #[] 0)) w.1.size 0 (fun _=>none):=⟨.map [],World.ownsMap_made _ _ _ _,fun _=>⟨rfl,rfl⟩⟩
theorem ek.lt(h:ek w M n g):M<w.1.size:=by
 obtain⟨y,o,_⟩:=h.out;exact o.lt
theorem ek.keep(h:ek w M n g)(hb:w'.1[M]?=w.1[M]?):ek w' M n g:=by
 obtain⟨o,⟨es,clock,y,z⟩,A⟩:=h.out;exact⟨o,⟨es,clock,hb.trans y,z⟩,A⟩
theorem ek.obj(h:ek w M n g):∃es clock,w.1[M]?=some (.map es clock):=by
 obtain⟨y,⟨es,clock,o,z⟩,A⟩:=h.out;exact⟨es,clock,o⟩
theorem ek.look(h:ek w M n g){m:Int}(A:Fr.i64 m):(Instr.lookup 85 (.map (some M)) (.int .i64 m) false).run Tryz.prog w=.ok ((g m).getD eX) w:=by
 obtain⟨E,y,z⟩:=h.out;obtain⟨v,ps,D,o⟩:=y.lookup nV Tryz.underlying85 (qS w) (zd:=.held eX) (zp:=[]) rfl (kJ A);rw[(z m).2] at o;unfold sU at o;injection o with o;injection o with o _;injection o with o;rw[D,o]
theorem ek.look_ok(h:ek w M n g){m:Int}(A:Fr.i64 m):(Instr.lookup 85 (.map (some M)) (.int .i64 m) true).run Tryz.prog w=.ok (.tuple #[(g m).getD eX,.bool (g m).isSome]) w:=by
 obtain⟨E,z,y⟩:=h.out;obtain⟨v,ps,D,o⟩:=z.look_ok nV Tryz.underlying85 (qS w) (zd:=.held eX) (zp:=[]) rfl (kJ A);rw[(y m).2] at o;unfold sU at o;injection o with o;injection o with o _;injection o with o;rw[D,o,(y m).1]
theorem ek.put(h:ek w M n g){m:Int}(J:Fr.i64 m)(V:n<1000000000)(v:Value):∃w',(Instr.mapUpdate 85 (.map (some M)) (.int .i64 m) v).run Tryz.prog w=.ok () w'∧ek w' M (n+1) (fun k=>if k=m then some v else g k)∧Aside (fun k=>k=M) w w'∧w'.1.size=w.1.size:=by
 obtain⟨O,z,D⟩:=h.out;obtain⟨w',L,K,A⟩:=z.store nV Tryz.underlying85 (by unfold maxLen;omega) (kJ J) (val:=v) (d:=.held v) (ps:=[]) rfl;refine⟨w',L,⟨_,K,fun k=>?_⟩,?_,?_⟩
 ·by_cases o:k=m
  ·subst o;rw[if_pos rfl,has_put_same z.isMap (by trivial),atKey_put_same z.isMap (by trivial)];exact⟨rfl,rfl⟩
  ·rw[if_neg o,has_put_other (fun e=>o (mr e)),atKey_put_other (fun e=>o (mr e))];exact D k
 ·have y:=A.grown;exact⟨y.os,y.tape,y.output,y.size,fun k o I=>y.block k o (fun E=>I (by injection E))⟩
 ·obtain⟨es,clock,U,R,_,e⟩:=A;rw[e];simp[Go.ChangeMaps.setBlock]
end
def bM(M:Nat)(s:Wk)(v:Value):AV:=#[.map (some M),.int .i64 s.number,.int .i64 s.since,.int .i64 s.frames,.int .i64 s.rows,v,.bool s.closed]
def Calm(F:Nat->Prop)(w:World)(p:OA)(s:List Col):Prop:=∀w',Aside F w w'->bw w' p s
section
variable {F F':Nat->Prop} {w w':World} {p:OA} {s:List Col}
theorem Calm.here(h:Calm F w p s):bw w p s:=h w (Aside.refl _ _)
theorem Calm.step(h:Calm F w p s)(z:Aside F w w')(y:∀k,F' k->F k∨w.1.size<=k):Calm F' w' p s:=fun I o=>h I (z.trans o fun i E D=>(y i D).elim id (fun A=>absurd E (Nat.not_lt_of_le A)))
theorem tt(h:cS w B #[.slice p n c] s)(z:∀k,F k->k<B∨w.1.size<=k):Calm F w p s:=fun w' I=>by
 obtain⟨v,us,R,y,hb,O⟩:=h.out;simp only[Array.mk.injEq,List.cons.injEq,and_true] at y;subst y;have E:=hb.aside I (fun g J o=>by have:=hb.lt g J;have:=z g o;omega) (fun j K k L o=>by have:=hb.range j K k L;have:=z k o;omega);obtain⟨V,U,A,_,D⟩:=E.cols O;injection A with e3 _ _;rw[e3];exact D
end
def tE(X:Nat->Prop)(w:World)(o:Option Kn)(r:Option Value):Prop:=match o with
 |none=>r=none
 |some k=>∃p c,r=some (.agg #[.slice p k.cols.length c,.int .i64 k.place])∧k.cols.length*120<=140737488351232∧k.cols.length<=c∧Calm X w p k.cols
theorem tE.step{F F':Nat->Prop}{o:Option Kn}{r:Option Value}(h:tE F w o r)(I:Aside F w w')(E:∀k,F' k->F k∨w.1.size<=k):tE F' w' o r:=by
 cases o with
 |none=>exact h
 |some k=>
  obtain⟨p,c,y,z,A,D⟩:=h;exact⟨p,c,y,z,A,D.step I E⟩
structure ax(w:World)(B a M n:Nat)(v:Value)(g:Int->Option Value)(s:Wk)(G:Nat->Prop):Prop where
 lies:w.1[a]?=some (.cells (bM M s v) 87)
 map:ek w M n g
 ents:bv w B v s.ents
 base:B<=a∧B<=M
 good:Sc.Good s
 low:∀k,G k->k<w.1.size
 off:∀k,G k->k≠a∧k≠M∧v.ownBlock≠some k
 sch:∀m,tE (fun i=>(i=a∨i=M∨v.ownBlock=some i)∨G i) w (s.sch m) (g m)
section
variable {w w':World} {B a M n:Nat} {v:Value} {g:Int->Option Value} {s:Wk} {G:Nat->Prop}
theorem ax.lt(h:ax w B a M n v g s G):a<w.1.size:=(Array.getElem?_eq_some_iff.1 h.lies).1
theorem ax.cell(h:ax w B a M n v g s G)(i:Nat):w.cell? ⟨a,i,none⟩=(bM M s v)[i]?:=by
 unfold World.cell?;rw[h.lies];rfl
theorem ax.thawed(h:ax w B a M n v g s G)(i:Nat):w.frozen? ⟨a,i,none⟩=false:=by simp[World.frozen?,h.lies]
theorem ax.aM(h:ax w B a M n v g s G):a≠M:=by
 intro y;obtain⟨es,clock,o⟩:=h.map.obj;rw[<-y,h.lies] at o;cases o
theorem jg{es:List Ent}(h:bv w B v es){C:AV}{T:TypeId}(z:w.1[k]?=some (.cells C T))(D:T≠61):v.ownBlock≠some k:=by
 intro o;rcases h.2 with ⟨y,_⟩ | ⟨I,cap,E,y,_,A,_⟩
 ·rw[y] at o;cases o
 ·rw[y] at o;simp only[Value.ownBlock,Option.some.injEq] at o;subst o;rw[A] at z;injection z with h4;injection h4 with _ h5;exact D h5.symm
theorem ax.va(h:ax w B a M n v g s G):v.ownBlock≠some a:=jg h.ents h.lies (by decide)
theorem ax.vM(h:ax w B a M n v g s G):v.ownBlock≠some M:=by
 intro o;obtain⟨es,clock,z⟩:=h.map.obj;rcases h.ents.2 with ⟨y,_⟩ | ⟨E,cap,D,y,_,A,_⟩
 ·rw[y] at o;cases o
 ·rw[y] at o;simp only[Value.ownBlock,Option.some.injEq] at o;subst o;rw[A] at z;cases z
theorem ax.aside{D:Nat->Prop}(h:ax w B a M n v g s G)(A:Aside G w w')(E:∀k,D k->G k∨w.1.size<=k)(J:∀k,D k->k<w'.1.size):ax w' B a M n v g s D:=by
 have K:∀k,v.ownBlock=some k->k<w.1.size:=fun k o=>(h.ents.lt k o).2;refine⟨?_,h.map.keep (A.block M h.map.lt (fun y=>(h.off M y).2.1 rfl)),h.ents.aside A (fun k o y=>(h.off k y).2.2 o),h.base,h.good,J,fun k o=>?_,fun m=>?_⟩
 ·rw[A.block a h.lt (fun y=>(h.off a y).1 rfl)];exact h.lies
 ·rcases E k o with z | z
  ·exact h.off k z
  ·have L:=h.lt;have O:=h.map.lt;exact⟨by omega,by omega,fun y=>by have:=K k y;omega⟩
 ·refine(h.sch m).step (A.mono fun i _ I=>.inr I) fun k o=>?_;rcases o with o | o
  ·exact .inl (.inl o)
  ·rcases E k o with z | z
   ·exact .inl (.inr z)
   ·exact .inr z
theorem ax.on(h:ax w B a M n v g s G)(hb:Below w.1.size w w'):ax w' B a M n v g s G:=h.aside (ae hb G) (fun _ o=>.inl o) (fun k o=>Nat.lt_of_lt_of_le (h.low k o) hb.size)
theorem ax.known(h:ax w B a M n v g s G){m:Int}{k:Kn}(D:s.sch m=some k):∃p c,g m=some (.agg #[.slice p k.cols.length c,.int .i64 k.place])∧k.cols.length*120<=140737488351232∧k.cols.length<=c∧bw w p k.cols:=by
 have:=h.sch m;rw[D] at this;obtain⟨p,c,o,y,z,A⟩:=this;exact⟨p,c,o,y,z,A.here⟩
theorem ax.unknown(h:ax w B a M n v g s G){m:Int}(o:s.sch m=none):g m=none:=by
 have:=h.sch m;rw[o] at this;exact this
theorem oJ{s':Wk}{o:Value}(h:w.1[a]?=some (.cells (bM M s v) 87))(i:Nat)(u:Value)(y:bM M s' o=(bM M s v).setIfInBounds i u):(w.setCell ⟨a,i,none⟩ u).1[a]?=some (.cells (bM M s' o) 87):=by
 simp only[World.setCell,Array.getElem?_modify,h,if_true,Option.map_some];rw[if_neg (by simp),y]
theorem ax.put{s':Wk}(h:ax w B a M n v g s G)(i:Nat)(u:Value)(A:bM M s' v=(bM M s v).setIfInBounds i u)(J:s'.sch=s.sch)(D:s'.ents=s.ents)(E:Sc.Good s'):ax (w.setCell ⟨a,i,none⟩ u) B a M n v g s' G:=by
 have y:Aside (·=a) w (w.setCell ⟨a,i,none⟩ u):=(Aside.refl (·=a) w).setCell (p:=⟨a,i,none⟩) (.inl rfl) u;refine⟨oJ h.lies i u A,h.map.keep (y.block M h.map.lt (fun z=>h.aM z.symm)),?_,h.base,E,fun k o=>Nat.lt_of_lt_of_le (h.low k o) y.size,h.off,fun m=>?_⟩
 ·rw[D];exact h.ents.aside y (fun k o z=>h.va (by rw[o,z]))
 ·rw[J];exact(h.sch m).step (y.mono fun i _ I=>.inl (.inl I)) fun k o=>.inl o
end
def eV(a M:Nat)(v:Value)(i:Nat):Prop:=i=a∨i=M∨v.ownBlock=some i
structure cm(w w':World)(B a M n:Nat)(v:Value)(s:Wk)(G:Nat->Prop):Prop where
 out:∃v' g',ax w' B a M n v' g' s G∧Aside (eV a M v) w w'∧∀i,v'.ownBlock=some i->v.ownBlock=some i∨w.1.size<=i
end
section
open Go.RowKit Go.Maps
section
variable {w:World} {B a M n:Nat} {v:Value} {g:Int->Option Value} {s:Wk} {G:Nat->Prop}
theorem o0(h:ax w B a M n v g s G):Calls Tryz.prog 20 #[.pointer (some ⟨a,0,none⟩)] w fun e w'=>e=.returned (.int .i64 s.frames)∧w'=w:=by
 have c0:w.cell? ⟨a,3,none⟩=some (.int .i64 s.frames):=h.cell 3;clear h;go_enter Tryz.func20,Tryz.ntmps20;go_wp2;go_ret;exact⟨rfl,rfl⟩
theorem vo(h:ax w B a M n v g s G):Calls Tryz.prog 21 #[.pointer (some ⟨a,0,none⟩)] w fun e w'=>e=.returned (.int .i64 s.rows)∧w'=w:=by
 have c0:w.cell? ⟨a,4,none⟩=some (.int .i64 s.rows):=h.cell 4;clear h;go_enter Tryz.func21,Tryz.ntmps21;go_wp2;go_ret;exact⟨rfl,rfl⟩
theorem oY(h:ax w B a M n v g s G):Calls Tryz.prog 22 #[.pointer (some ⟨a,0,none⟩)] w fun e w'=>e=.returned (.int .i64 s.number)∧w'=w:=by
 have c0:w.cell? ⟨a,1,none⟩=some (.int .i64 s.number):=h.cell 1;clear h;go_enter Tryz.func22,Tryz.ntmps22;go_wp2;go_ret;exact⟨rfl,rfl⟩
theorem sL(h:ax w B a M n v g s G):Calls Tryz.prog 23 #[.pointer (some ⟨a,0,none⟩)] w fun e w'=>e=.returned (.int .i64 s.since)∧w'=w:=by
 have c0:w.cell? ⟨a,2,none⟩=some (.int .i64 s.since):=h.cell 2;clear h;go_enter Tryz.func23,Tryz.ntmps23;go_wp2;go_ret;exact⟨rfl,rfl⟩
theorem uF(h:ax w B a M n v g s G):Calls Tryz.prog 37 #[.pointer (some ⟨a,0,none⟩)] w fun e w'=>e=.returned (.bool s.closed)∧w'=w:=by
 have c0:w.cell? ⟨a,6,none⟩=some (.bool s.closed):=h.cell 6;clear h;go_enter Tryz.func37,Tryz.ntmps37;go_wp2;go_ret;exact⟨rfl,rfl⟩
end
theorem sM(w:World)(G:Nat->Prop)(z:∀k,G k->k<w.1.size):Calls Tryz.prog 11 #[] w fun e w'=>e=.returned (.pointer (some ⟨w.1.size+1,0,none⟩))∧ax w' w.1.size (w.1.size+1) w.1.size 0 (.slice none 0 0) (fun _=>none) Sc.new G∧Below w.1.size w w'∧w'.1.size=w.1.size+2:=by
 obtain⟨W,o⟩:∃W,W=(w.alloc (.map #[] 0)).alloc (.cells (bM w.1.size Sc.new (.slice none 0 0)) 87):=⟨_,rfl⟩;have E:W.1.size=w.1.size+2:=by rw[o];simp
 have hb:Below w.1.size w W:=by rw[o];exact xV.alloc (by simp) _
 have A:W.1[w.1.size+1]?=some (.cells (bM w.1.size Sc.new (.slice none 0 0)) 87):=by
  rw[o];have:=ag (w.alloc (.map #[] 0)) (.cells (bM w.1.size Sc.new (.slice none 0 0)) 87);simpa using this
 have D:ek W w.1.size 0 (fun _=>none):=(qd w).keep (by rw[o];exact aG _ _ (by simp))
 have K:Hid (ax W w.1.size (w.1.size+1) w.1.size 0 (.slice none 0 0) (fun _=>none) Sc.new G) :=
  ⟨A,D,dn W _,⟨Nat.le_succ _,xZ⟩,Sc.good_new,fun k y=>by have:=z k y;omega,fun k y=>⟨by have:=z k y;omega,by have:=z k y;omega,by simp[Value.ownBlock]⟩,fun m=>rfl⟩
 have I:=xX hb;have J:=xX E;have L:=xX o;have O:=@run_makeMap Tryz.prog;clear E hb A D o;go_enter Tryz.func11,Tryz.ntmps11;go_wp2;go_ret;refine⟨?_,?_⟩
 ·simp
 ·have e:W=(w.alloc (.map #[] 0)).alloc (.cells #[.map (some w.1.size),.int .i64 (-1),.int .i64 0,.int .i64 0,.int .i64 0,.slice none 0 0,.bool false] 87):=L.out;rw[<-e];exact⟨K.out,I.out,J.out⟩
theorem pW(n c:Nat)(w:World):(binOp .eql 43 (.slice none n c) (.slice none 0 0)).run Tryz.prog w=.ok (.bool true) w:=by kernel_rfl
theorem pV(a:Addr)(n c:Nat)(w:World):(binOp .eql 43 (.slice (some a) n c) (.slice none 0 0)).run Tryz.prog w=.ok (.bool false) w:=by kernel_rfl
theorem pU(B:Nat)(v:Value)(xs l:List Ent)(p:OA)(c:Nat)(w:World)(E:bv w B v xs)(h:di w p l)(be:(xs.length+l.length)*24<=140737488355328)(Z:B<=w.1.size):
  ∃(q:OA) (cap:Nat) (W:World),bJ Tryz.prog 43 43 43 v (.slice p l.length c) w (.slice q (xs++l).length cap) W∧bv W B (.slice q (xs++l).length cap) (xs++l)∧Aside (fun k=>v.ownBlock=some k) w W∧(xs++l).length<=cap∧∀k,(Value.slice q (xs++l).length cap).ownBlock=some k->v.ownBlock=some k∨w.1.size<=k:=by
 obtain⟨i,O,a4,a2,ah⟩:=info_parts vy;by_cases I:l=[]
 ·subst I;obtain⟨q,cap,rfl,L,-,-⟩:=E.ents;rw[List.append_nil];refine⟨q,cap,w,⟨run_append_nothing (P:=Tryz.prog) w 43 43 43 61 i Tryz.underlying43 O q xs.length cap L (.slice p 0 c) ?_⟩,E,Aside.refl _ _,L,fun k D=>.inl D⟩;cases p with
  |none=>exact Src.ofNil w Tryz.underlying43 c
  |some a=>exact Src.ofSlice w Tryz.underlying43 a 0 c [] (by simp) (fun j u y=>by simp at y) (fun u o=>by cases o)
 ·have U:0<l.length:=List.length_pos_iff.2 I;obtain⟨b,Y,rfl,bc,-⟩:=h 0 U;have aj:∀j u,(aU l)[j]?=some u->w.cell? (Addr.add ⟨b,Y,none⟩ j)=some u:=fun j u y=>by
   have bd:j<l.length*3:=by
    have:=(List.getElem?_eq_some_iff.1 y).1;rw[dY] at this;exact this
   have hd:j=j / 3*3+j % 3:=(by omega);have V:j / 3<l.length:=(by omega);obtain⟨a8,bj,A,-,a5,a6,a7⟩:=h (j / 3) V;simp only[Option.some.injEq,Addr.mk.injEq,and_true] at A;obtain⟨rfl,rfl⟩:=A;rw[hd,dZ l (j / 3) V (j % 3) (by omega)] at y;rw[Lib.add_plain,hd];have z:j % 3=0∨j % 3=1∨j % 3=2:=(by omega);rcases z with z | z | z <;> rw[z] at y ⊢ <;> simp only[jD,List.getElem?_cons_zero,List.getElem?_cons_succ,Option.some.injEq] at y <;> subst y
   ·exact a5
   ·rw[<-Nat.add_assoc];exact a6
   ·rw[<-Nat.add_assoc];exact a7
  have a1:∀u∈aU l,u.oneCell'=true:=fun u o=>by
   unfold aU at o;obtain⟨x,a3,o⟩:=List.mem_flatten.1 o;obtain⟨e,_,rfl⟩:=List.mem_map.1 a3;unfold jD at o;simp only[List.mem_cons,List.not_mem_nil,or_false] at o;rcases o with rfl | rfl | rfl <;> rfl
  obtain⟨g,cap,W,X,R,a0,ak,_⟩:=run_append_lies (P:=Tryz.prog) w 43 43 B 61 i qT 3 24 Tryz.underlying43 O a4 a2 ah rfl (by decide) v xs.length (aU xs) E ⟨b,Y,none⟩ l.length c (aU l) (dY l) aj a1 U (by unfold maxLen;omega) (by omega) Z w.1.size rfl;rw[<-eh,<-List.length_append] at R;rw[<-List.length_append] at X;have K:bv W B (.slice (some ⟨g,0,none⟩) (xs++l).length cap) (xs++l):=R;refine⟨some ⟨g,0,none⟩,cap,W,⟨X⟩,K,cz a0,?_,?_⟩
  ·obtain⟨bk,a9,A,bb,-⟩:=K.ents;injection A with _ _ e2;omega
  ·intro k D;simp only[Value.ownBlock,Option.some.injEq] at D;subst D;rcases ak with J | J
   ·exact .inl J
   ·exact .inr (by omega)
theorem iE{l:List Ent}{p:OA}(O:bv w B v xs)(h:di w p l)(J:(xs.length+l.length)*24<=140737488355328)(A:B<=w.1.size){ops:Array Oper}{rest:List Oper}{o:Oper}{a:Act}{Q:Exit->Act->World->Prop}{z x:Operand}(X:o.type=43)(I:o.guard=none)(L:o.op=Op.call { callee:=Callee.builtin Builtin.append,args:=#[z,x],argTypes:=#[43,43] })(V:a.eval z=v)(Y:a.eval x=.slice p l.length c)(D:∀y q cap W,Hid (y=xs++l)->bv W B (.slice q y.length cap) y->Aside (fun k=>v.ownBlock=some k) w W->(∀k,(Value.slice q y.length cap).ownBlock=some k->v.ownBlock=some k∨w.1.size<=k)->wpList Tryz.prog ops Q rest (a.put o.dst (.slice q y.length cap)) W):
  wpList Tryz.prog ops Q (o::rest) a w:=by
 obtain⟨q,cap,W,R,K,E,-,hb⟩:=pU B v xs l p c w O h J A;have U:bJ Tryz.prog 43 43 o.type v (.slice p l.length c) w (.slice q (xs++l).length cap) W:=by rw[X];exact R
 exact aF U I L V Y (D _ q cap W (xX rfl) K E hb)
theorem oj{W:World}(y:Aside (fun k=>v.ownBlock=some k) w W)(A:bv w B v xs)(o:B<=w.1.size):Below B w W :=
 y.below o fun k D z=>by have:=(A.lt k z).1;omega
theorem om(w:World):bv (w.alloc (.cells #[] 61)) w.1.size (.slice (some ⟨w.1.size,0,none⟩) 0 0) [] :=
 ⟨rfl,.inr ⟨w.1.size,0,#[],rfl,xZ,ag w _,xZ,by decide,rfl,rfl⟩⟩
theorem uP(p:OA)(c:Nat)(l:List Ent)(V:l.length*24<=140737488351232)(w:World)(h:di w p l):Calls Tryz.prog 47 #[.slice p l.length c] w fun e w'=>∃q cap,e=.returned (.slice q l.length cap)∧bv w' w.1.size (.slice q l.length cap) l∧Below w.1.size w w':=by
  cases p with
  |none=>
    have K:l=[]:=by
      cases l with
      |nil=>rfl
      |cons x r=>
        obtain⟨b,X,O,-⟩:=h 0 (by simp);cases O
    subst K;have R:=pW 0 c w;go_enter Tryz.func47,Tryz.ntmps47;go_wp2;go_ret;exact⟨none,0,rfl,dn _ _,xY⟩
  |some a=>
    have D:=xX (h.on ((Below.refl _ w).alloc xZ (.cells #[] 61)));have o:=xX (om w);have E:Hid (Below w.1.size w (w.alloc (.cells #[] 61))):=xV;have R:=pV a l.length c w;clear h;go_enter Tryz.func47,Tryz.ntmps47
    go_wp2_with (first|(at_builtin;refine iE (xs:=[]) o.out D.out (by simp;omega) (by simp) rfl rfl rfl rfl rfl ?_;intro U q cap W J A z L;have I:=xX (oj z o.out (by simp));have y:=xX A;clear z L A)|fail)
    go_ret;have e:U=l:=J.out;rw[e] at y;rw[e];exact⟨q,cap,rfl,y.out,E.out.trans I.out⟩
theorem mu{g:Int->Option Value}{s:Wk}{G:Nat->Prop}(h:ax w B a M n v g s G):Calls Tryz.prog 14 #[.pointer (some ⟨a,0,none⟩)] w fun e w'=>∃q cap,e=.returned (.slice q s.ents.length cap)∧bv w' w.1.size (.slice q s.ents.length cap) s.ents∧Below w.1.size w w':=by
 have c0:w.cell? ⟨a,5,none⟩=some v:=h.cell 5;obtain⟨p,c,I,-,z,-⟩:=h.ents.ents;subst I;have E:=xX (uP p c s.ents h.good.ents w z);clear h z;go_enter Tryz.func14,Tryz.ntmps14;go_wp2_with fail;refine E.out.mono ?_;rintro e w' ⟨q,cap,rfl,o,y⟩;have A:=xX o;have D:=xX y;clear o y;go_wp2;go_ret;exact⟨q,cap,rfl,A.out,D.out⟩
theorem vU(b c:Nat)(l:List Int)(ah:l.length<=100)(w:World)(h:∀j (Z:j<l.length),w.cell? ⟨b,j,none⟩=some (.int .i64 l[j])):
  Calls Tryz.prog 44 #[.slice (some ⟨b,0,none⟩) l.length c] w fun e w'=>e=.returned (.bool (l.all (Fr.within Fr.S)))∧w'=w:=by
 have H:=xX h;obtain⟨D,J⟩:∃D,D=l.all (Fr.within Fr.S):=⟨_,rfl⟩;rw[<-J];have L:=xX J;clear h J;go_enter Tryz.func44,Tryz.ntmps44;go_wp2;go_loop [7] (fun K=>∃i:Nat,i<=l.length∧K=.int .i64 i∧Hid ((l.take i).all (Fr.within Fr.S)=true)) (fun K=>l.length-(intOf K).toNat);case atStart=>exact⟨0,by omega,rfl,rfl⟩
 case round=>
  obtain⟨i,X,rfl,o⟩:=hrel;by_cases E:i<l.length
  ·have aj:(i:Int)<(l.length:Int):=(by omega);have V:=H.out i E;obtain⟨x,z⟩:∃x,x=l[i]:=⟨_,rfl⟩;rw[<-z] at V;by_cases y:0<=x∧x<1099511627776
   ·have O:decide (x<0)=false:=decide_eq_false (by omega);have U:decide ((1099511627776:Int)<=x)=false:=decide_eq_false (by omega);have R:Hid ((l.take (i+1)).all (Fr.within Fr.S)=true):=by
     show _=_;rw[List.take_succ_eq_append_getElem E,List.all_append,o.out,<-z];simp[Fr.within,Fr.S,y]
    clear y z o;go_wp2;go_round;case rel=>exact⟨i+1,by omega,by go_num,R⟩
    case measure=>simp[intOf];omega
   ·have A:Hid (D=false):=by
     show _=_;rw[L.out,List.all_eq_false];have W:Fr.within Fr.S x=false:=decide_eq_false y;exact⟨x,by rw[z];exact List.getElem_mem E,by rw[W];decide⟩
    clear z o;by_cases I:x<0
    ·have O:decide (x<0)=true:=decide_eq_true I;clear y;go_wp2;go_ret;exact⟨by rw[A.out];rfl,rfl⟩
    ·have O:decide (x<0)=false:=decide_eq_false I;have U:decide ((1099511627776:Int)<=x)=true:=decide_eq_true (by omega);clear y I;go_wp2;go_ret;exact⟨by rw[A.out];rfl,rfl⟩
  ·have Y:i=l.length:=(by omega);subst Y;have A:Hid (D=true):=by
    show _=_;have:=o.out;rw[List.take_length] at this;rw[L.out,this]
   clear o E X;go_wp2;go_ret;exact⟨by rw[A.out];rfl,rfl⟩
theorem wh{g:Int->Option Value}{s:Wk}{G:Nat->Prop}(h:ax w B a M n v g s G)(m:Int)(E:Fr.i64 m):Calls Tryz.prog 42 #[.pointer (some ⟨a,0,none⟩),.int .i64 m] w fun e w'=>e=.returned (.tuple #[.int .i64 (Sc.placeAt s m),.bool (s.sch m).isSome])∧Below w.1.size w w':=by
 have c0:w.cell? ⟨a,0,none⟩=some (.map (some M)):=h.cell 0;have y:=h.map.look_ok E;have z:Hid (∀D,Below w.1.size w (w.alloc D)):=fun D=>xV;cases hs:s.sch m with
 |none=>
  have o:Sc.placeAt s m=0:=by unfold Sc.placeAt;rw[hs]
  rw[h.unknown hs] at y;simp only[Option.getD_none,Option.isSome_none,eX] at y;rw[o];clear h hs o;go_enter Tryz.func42,Tryz.ntmps42;go_wp2;go_ret2;exact⟨rfl,z.out _⟩
 |some k=>
  obtain⟨p,c,A,-,-,-⟩:=h.known hs;have o:Sc.placeAt s m=k.place:=by unfold Sc.placeAt;rw[hs]
  rw[A] at y;simp only[Option.getD_some,Option.isSome_some] at y;rw[o];clear h hs o A;go_enter Tryz.func42,Tryz.ntmps42;go_wp2;go_ret2;exact⟨rfl,z.out _⟩
end
section
open Go.RowKit Go.Maps
theorem fp{B':Nat}{s:List Col}(h:cS w B u s)(y:B'<=B):cS w B' u s:=by
 obtain⟨v,us,o,e,hb,z⟩:=h.out;exact⟨v,us,o,e,hb.low y,z⟩
theorem cS.beside{F:Nat->Prop}{s:List Col}(h:cS w B u s)(A:Aside F w w')(y:∀k,F k->k<B):cS w' B u s:=by
 obtain⟨v,us,z,rfl,hb,J⟩:=h.out;exact⟨v,us,z,rfl,hb.aside A (fun g D o=>by have:=(hb.lt g D).1;have:=y g o;omega) (fun j E k I o=>by have:=(hb.range j E k I).1;have:=y k o;omega),J⟩
theorem pi(s:List Col)(p:OA)(c:Nat)(w:World)(bl:s.length*120<=140737488351232)(a9:bw w p s)(I:Sch.err s=0)(ak:∀x∈s,x.wf):
  Calls Tryz.prog 48 #[.agg #[.slice p s.length c]] w fun e w'=>∃q cap,e=.returned (.agg #[.slice q s.length cap])∧cS w' w.1.size #[.slice q s.length cap] (s.map Col.fix)∧Below w.1.size w w':=by
 obtain⟨o,E⟩:∃o,o=(w.alloc (.cells #[.slice p s.length c] 41)).alloc (.cells #[.slice none 0 0] 41):=⟨_,rfl⟩;have R:Hid (Below w.1.size w o):=by rw[E];exact xV.alloc (by simp) _
 have a3:o.1[w.1.size+1]?=some (.cells #[.slice none 0 0] 41):=by
  rw[E];have:=ag (w.alloc (.cells #[.slice p s.length c] 41)) (.cells #[.slice none 0 0] 41);simpa using this
 have a0:=xX a3;have a1:Hid ((w.alloc (.cells #[.slice p s.length c] 41)).alloc (.cells #[.slice none 0 0] 41)=o):=E.symm;have J:=xX (pe s p c o bl (a9.on R.out) ak);have hb:kR s=Sch.bytes s:=by unfold kR;rw[if_pos I]
 have bk:(Sch.bytes s).length<=1024:=(Sch.err_open I).2.2.2;have a7:=Sch.read_put I ak;rw[hb,I] at J;have X:=xX a7;have bn:o.1.size=w.1.size+2:=by rw[E];simp
 obtain⟨Y,a4⟩:∃Y,Y=Sch.bytes s:=⟨_,rfl⟩;rw[<-a4] at J bk X;clear E a9 I ak hb a7 a4 a3;go_enter Tryz.func48,Tryz.ntmps48;go_wp2_with fail;rw[a1.out];refine J.out.mono ?_;rintro e w1 ⟨q,cap,rfl,a2,ah,L⟩;have V:=xX (pg q Y cap (by omega) ah w1 a2);rw[X.out] at V;have U:=xX (R.out.trans (L.mono R.out.size));have W:=xX ((L.block _ (by omega)).trans a0.out);have bp:=L.size;clear a2 ah L J a0 a1;go_wp2_with fail;refine V.out.mono ?_;rintro e D ⟨u,rfl,aj,O⟩;obtain⟨p2,c2,a8,a6,a5,-⟩:=aj.lies.out;rw[List.length_map] at a8 a6 a5;subst a8;obtain⟨z,K⟩:∃z,z=(D.alloc (.cells #[.slice p2 s.length c2] 41)).setCell ⟨w.1.size+1,0,none⟩ (.slice p2 s.length c2):=⟨_,rfl⟩;have y:=(O.block _ (az W.out)).trans W.out;have bq:=O.size;have Z:Aside (fun k=>k=w.1.size+1) D z:=by
  rw[K];exact((Aside.refl (fun k=>k=w.1.size+1) D).alloc _).setCell (p:=⟨w.1.size+1,0,none⟩) (.inl rfl) _
 have bc:Hid (z.1[w.1.size+1]?=some (.cells #[.slice p2 s.length c2] 41)):=by
  show _=_;rw[K];simp only[World.setCell,Array.getElem?_modify,aG _ _ (az y),y,if_true,Option.map_some];rfl
 have bd:Hid (cS z w.1.size #[.slice p2 s.length c2] (s.map Col.fix)):=fp (aj.beside Z (fun k bj=>by omega)) (by omega);have bb:Hid (Below w.1.size w z):=(U.out.trans (O.mono U.out.size)).trans (Z.below (by omega) (fun k bj ah=>by omega));have bs:∀A,(D.alloc A).cell? ⟨w.1.size+1,0,none⟩=some (.slice none 0 0):=fun A=>aa ((aG _ _ (az y)).trans y) 0;have bN:∀A,(D.alloc A).frozen? ⟨w.1.size+1,0,none⟩=false:=fun A=>by simp[World.frozen?,(aG D A (az y)).trans y]
 have be:=xX K;clear aj O a6 a5 Z K y V X U W;go_wp2;rw[<-be.out];refine bodyPost_ret (results_cell_row rfl _ _ (w.1.size+1) _ _ _ _ rfl bc.out Tryz.underlying41 rfl (by kernel_rfl)) rfl ?_;exact⟨p2,c2,rfl,bd.out,bb.out⟩
end
section
open Go.RowKit
theorem aO{g:Nat}(h:w.1[g]?=some (.cells #[c0,c1,c2,c3,c4,c5,c6,c7,c8,c9,c10] T (0,0))):w.cell? ⟨g,0,none⟩=some c0∧w.cell? ⟨g,1,none⟩=some c1∧w.cell? ⟨g,2,none⟩=some c2∧w.cell? ⟨g,3,none⟩=some c3∧w.cell? ⟨g,4,none⟩=some c4∧w.cell? ⟨g,5,none⟩=some c5∧w.cell? ⟨g,6,none⟩=some c6∧w.cell? ⟨g,7,none⟩=some c7∧w.cell? ⟨g,8,none⟩=some c8∧w.cell? ⟨g,9,none⟩=some c9∧w.cell? ⟨g,10,none⟩=some c10 :=
 ⟨aa h 0,aa h 1,aa h 2,aa h 3,aa h 4,aa h 5,aa h 6,aa h 7,aa h 8,aa h 9,aa h 10⟩
theorem ef{g:Nat}(h:w.1[g]?=some (.cells C T (0,0))):w.frozen? ⟨g,0,none⟩=false∧w.frozen? ⟨g,1,none⟩=false∧w.frozen? ⟨g,2,none⟩=false∧w.frozen? ⟨g,3,none⟩=false∧w.frozen? ⟨g,4,none⟩=false∧w.frozen? ⟨g,5,none⟩=false∧w.frozen? ⟨g,6,none⟩=false∧w.frozen? ⟨g,7,none⟩=false∧w.frozen? ⟨g,8,none⟩=false∧w.frozen? ⟨g,9,none⟩=false∧w.frozen? ⟨g,10,none⟩=false :=
 ⟨ab h 0,ab h 1,ab h 2,ab h 3,ab h 4,ab h 5,ab h 6,ab h 7,ab h 8,ab h 9,ab h 10⟩
theorem dD{g:Nat}(h:w.1[g]?=some (.cells #[c0,c1,c2,c3,c4,c5,c6,c7,c8,c9,c10] T (0,0))):(∀o,(w.alloc o).cell? ⟨g,0,none⟩=some c0)∧(∀o,(w.alloc o).cell? ⟨g,1,none⟩=some c1)∧(∀o,(w.alloc o).cell? ⟨g,2,none⟩=some c2)∧(∀o,(w.alloc o).cell? ⟨g,3,none⟩=some c3)∧(∀o,(w.alloc o).cell? ⟨g,4,none⟩=some c4)∧(∀o,(w.alloc o).cell? ⟨g,5,none⟩=some c5)∧(∀o,(w.alloc o).cell? ⟨g,6,none⟩=some c6)∧(∀o,(w.alloc o).cell? ⟨g,7,none⟩=some c7)∧(∀o,(w.alloc o).cell? ⟨g,8,none⟩=some c8)∧(∀o,(w.alloc o).cell? ⟨g,9,none⟩=some c9)∧(∀o,(w.alloc o).cell? ⟨g,10,none⟩=some c10):=by
 have y:∀o,(w.alloc o).1[g]?=some (.cells #[c0,c1,c2,c3,c4,c5,c6,c7,c8,c9,c10] T (0,0)):=fun o=>(aG w o (az h)).trans h;exact⟨fun o=>aa (y o) 0,fun o=>aa (y o) 1,fun o=>aa (y o) 2,fun o=>aa (y o) 3,fun o=>aa (y o) 4,fun o=>aa (y o) 5,fun o=>aa (y o) 6,fun o=>aa (y o) 7,fun o=>aa (y o) 8,fun o=>aa (y o) 9,fun o=>aa (y o) 10⟩
theorem dh{g:Nat}(h:w.1[g]?=some (.cells C T (0,0))):(∀o,(w.alloc o).frozen? ⟨g,0,none⟩=false)∧(∀o,(w.alloc o).frozen? ⟨g,1,none⟩=false)∧(∀o,(w.alloc o).frozen? ⟨g,2,none⟩=false)∧(∀o,(w.alloc o).frozen? ⟨g,3,none⟩=false)∧(∀o,(w.alloc o).frozen? ⟨g,4,none⟩=false)∧(∀o,(w.alloc o).frozen? ⟨g,5,none⟩=false)∧(∀o,(w.alloc o).frozen? ⟨g,6,none⟩=false)∧(∀o,(w.alloc o).frozen? ⟨g,7,none⟩=false)∧(∀o,(w.alloc o).frozen? ⟨g,8,none⟩=false)∧(∀o,(w.alloc o).frozen? ⟨g,9,none⟩=false)∧(∀o,(w.alloc o).frozen? ⟨g,10,none⟩=false):=by
 have y:∀o,(w.alloc o).1[g]?=some (.cells C T (0,0)):=fun o=>(aG w o (az h)).trans h;exact⟨fun o=>ab (y o) 0,fun o=>ab (y o) 1,fun o=>ab (y o) 2,fun o=>ab (y o) 3,fun o=>ab (y o) 4,fun o=>ab (y o) 5,fun o=>ab (y o) 6,fun o=>ab (y o) 7,fun o=>ab (y o) 8,fun o=>ab (y o) 9,fun o=>ab (y o) 10⟩
end
section
open Go.RowKit Go.Maps
section
variable {w:World} {B a M n:Nat} {v:Value} {g:Int->Option Value} {s:Wk} {G:Nat->Prop}
theorem mG(z:OA)(y o:Nat)(P:Int)(w:World):(Instr.field 93 (.agg #[.slice z y o,.int .i64 P]) 1).run Tryz.prog w=.ok (.int .i64 P) w:=by kernel_rfl
theorem kP(z:OA)(y o:Nat)(P:Int)(w:World):(Instr.field 93 (.agg #[.slice z y o,.int .i64 P]) 0).run Tryz.prog w=.ok (.agg #[.slice z y o]) w:=by kernel_rfl
theorem Below.aside_cell{F:Nat->Prop}{p:Addr}{u:Value}(o:Aside F w w')(y:p.block<w.1.size)(z:¬F p.block)(h:w.cell? p=some u):w'.cell? p=some u:=(o.cell y z).trans h
theorem ax.learned{y:World}{L:Nat}{q:OA}{cap:Nat}{m:Int}{c:List Col}{pl:Int}(h:ax w1 B a M n v g s G)(U:ek y M (n+1) (fun k=>if k=m then some (.agg #[.slice q c.length cap,.int .i64 pl]) else g k))(I:Aside (fun k=>k=M) w1 y)(J:cS w1 L #[.slice q c.length cap] (c.map Col.fix))(W:∀i,(i=a∨i=M∨v.ownBlock=some i)∨G i->i<L)(X:Sc.Good (Sc.learn s m c pl)):
  ax ((y.setCell ⟨a,1,none⟩ (.int .i64 m)).setCell ⟨a,2,none⟩ (.int .i64 0)) B a M (n+1) v (fun k=>if k=m then some (.agg #[.slice q c.length cap,.int .i64 pl]) else g k) (Sc.learn s m c pl) G∧Aside (eV a M v) w1 ((y.setCell ⟨a,1,none⟩ (.int .i64 m)).setCell ⟨a,2,none⟩ (.int .i64 0)):=by
 have R:=h.aM;have Z:y.1[a]?=some (.cells (bM M s v) 87):=(I.block a h.lt R).trans h.lies;have ah:(y.setCell ⟨a,1,none⟩ (.int .i64 m)).1[a]?=some (.cells (bM M { s with number:=m } v) 87):=oJ Z 1 _ rfl;have aj:((y.setCell ⟨a,1,none⟩ (.int .i64 m)).setCell ⟨a,2,none⟩ (.int .i64 0)).1[a]?=some (.cells (bM M (Sc.learn s m c pl) v) 87):=oJ ah 2 _ rfl;have K:Aside (fun k=>k=a) y ((y.setCell ⟨a,1,none⟩ (.int .i64 m)).setCell ⟨a,2,none⟩ (.int .i64 0)):=((Aside.refl (fun k=>k=a) y).setCell (p:=⟨a,1,none⟩) (.inl rfl) _).setCell (p:=⟨a,2,none⟩) (.inl rfl) _;have D:Aside (eV a M v) w1 ((y.setCell ⟨a,1,none⟩ (.int .i64 m)).setCell ⟨a,2,none⟩ (.int .i64 0)):=(I.mono fun i _ o=>.inr (.inl o)).trans K (fun i _ o=>.inl o);refine⟨⟨aj,U.keep (K.block M U.lt (fun z=>R z.symm)),?_,h.base,X,fun k A=>Nat.lt_of_lt_of_le (h.low k A) D.size,h.off,fun k=>?_⟩,D⟩
 ·exact(h.ents.aside I (fun k A z=>h.vM (by rw[A,z]))).aside K (fun k A z=>h.va (by rw[A,z]))
 ·show tE _ _ (if k=m then some ⟨c.map Col.fix,pl⟩ else s.sch k) _;by_cases E:k=m
  ·rw[if_pos E];simp only[E,if_true];refine⟨q,cap,by rw[List.length_map],?_,?_,?_⟩
   ·obtain⟨_,_,_,_,_,Y⟩:=J.out;exact Y
   ·obtain⟨a0,ak,O,_,V,_⟩:=J.lies.out;simp only[Array.mk.injEq,List.cons.injEq,and_true] at O;injection O with _ _ e3;rw[e3];exact V
   ·exact(tt (F:=fun i=>(i=a∨i=M∨v.ownBlock=some i)∨G i) J (fun i o=>.inl (W i o))).step (D.mono fun i _ o=>.inl o) fun i o=>.inl o
  ·rw[if_neg E];simp only[if_neg E];exact(h.sch k).step (D.mono fun i _ o=>.inl o) fun i o=>.inl o
theorem wm(h:ax w B a M n v g s G)(m:Int)(c:List Col)(p:OA)(y:Nat)(pl:Int)(bl:0<=m∧m<2147483648)(bk:s.number<=m)(bp:0<=pl∧pl<1099511627776)(U:Sch.err c=0)(V:∀x∈c,x.wf)(bq:c.length*120<=140737488351232)(a4:bw w p c)(bn:n<1000000000):
  Calls Tryz.prog 68 #[.pointer (some ⟨a,0,none⟩),.int .i64 m,.agg #[.slice p c.length y],.int .i64 pl] w fun e w'=>e=.returned (.tuple #[])∧cm w w' B a M (n+1) v (Sc.learn s m c pl) G:=by
 have c0:w.cell? ⟨a,0,none⟩=some (.map (some M)):=h.cell 0;obtain⟨o,E⟩:∃o,o=w.alloc (.cells #[.slice p c.length y] 41):=⟨_,rfl⟩;have D:Below w.1.size w o:=by rw[E];exact xV
 have a0:o.1[w.1.size]?=some (.cells #[.slice p c.length y] 41):=by rw[E];exact ag w _
 have bs:o.cell? ⟨a,0,none⟩=some (.map (some M)):=ac D c0;have bN:o.cell? ⟨w.1.size,0,none⟩=some (.slice p c.length y):=aa a0 0;have b4:o.1.size=w.1.size+1:=by rw[E];simp
 have a9:Hid (w.alloc (.cells #[.slice p c.length y] 41)=o):=E.symm;have R:=xX (h.on D);have Y:=xX D;have a6:Hid (∀w',Below o.1.size o w'->Calls Tryz.prog 48 #[.agg #[.slice p c.length y]] w' fun e W=>∃q cap,e=.returned (.agg #[.slice q c.length cap])∧cS W o.1.size #[.slice q c.length cap] (c.map Col.fix)∧Below o.1.size o W):=fun w' hb=>(pi c p y w' bq (a4.on (D.trans (hb.mono D.size))) U V).mono fun e W ⟨q,cap,bc,bd,be⟩=>⟨q,cap,bc,fp bd hb.size,hb.trans (be.mono hb.size)⟩;have a8:=xX (Sc.good_learn h.good m c pl bl bk U V bp);have b1:=h.lt;have b0:=h.map.lt;have aj:=h.aM;have bj:Fr.i64 m:=⟨by omega,by omega⟩;have bb:Hid (∀i,(i=a∨i=M∨v.ownBlock=some i)∨G i->i<o.1.size):=fun i z=>by
  rcases z with (z | z | z) | z
  ·omega
  ·omega
  ·have:=(h.ents.lt i z).2;omega
  ·have:=h.low i z;omega
 clear h a4 U V E D a0 c0;go_enter Tryz.func68,Tryz.ntmps68;go_wp2_with fail;rw[a9.out]
 go_region_held3 (fun w'=>w'.cell? ⟨a,0,none⟩=some (.map (some M))∧w'.cell? ⟨w.1.size,0,none⟩=some (.slice p c.length y)) (go_keep) (first|(go_at_call 48;refine(a6.out _ (xY.drew)).mono ?_;rintro e w1 ⟨q,cap,rfl,a3,K⟩;have bO:=ac K bs;have bT:=ac K bN;have ah:=xX a3;have A:=xX K;obtain⟨X,b2,a2,J,b3⟩:=(R.out.on A.out).map.put bj bn (.agg #[.slice q c.length cap,.int .i64 pl]);have b5:=Below.aside_cell J (by have:=A.out.size;show a<w1.1.size;omega) aj bO;have b6:=Below.aside_cell J (by have:=A.out.size;show w.1.size<w1.1.size;omega) (by show ¬w.1.size=M;omega) bT;have Z:=xX a2;have O:=xX J;clear a3 K a2 J)|fail)
 have L:=R.out.on A.out;obtain⟨a1,ak⟩:=L.learned Z.out O.out ah.out bb.out a8.out;have a7:=xX a1;have a5:=xX ((ae (Y.out.trans (A.out.mono Y.out.size)) (eV a M v)).trans ak (fun _ _ h=>h));have I:X.1[a]?=some (.cells (bM M s v) 87):=(O.out.block a L.lt aj).trans L.lies;have u1:X.cell? ⟨a,1,none⟩=some (.int .i64 s.number):=aa I 1;have u2:X.cell? ⟨a,2,none⟩=some (.int .i64 s.since):=aa I 2;have f1:=ab I 1;have bX:=ab I 2;clear L a1 ak I ah Z O A R;go_wp2;go_end0;exact⟨rfl,v,_,a7.out,a5.out,fun _ h=>.inl h⟩
theorem ax.value(h:ax w B a M n v g s G)(m:Int):∃A z o,(g m).getD eX=.agg #[.slice A z o,.int .i64 (Sc.placeAt s m)]:=by
 cases hs:s.sch m with
 |none=>
  rw[h.unknown hs,show Sc.placeAt s m=0 by unfold Sc.placeAt;rw[hs]];exact⟨none,0,0,rfl⟩
 |some k=>
  obtain⟨p,c,y,-,-,-⟩:=h.known hs;rw[y,show Sc.placeAt s m=k.place by unfold Sc.placeAt;rw[hs]];exact⟨p,_,c,rfl⟩
theorem ax.entered{z E:Nat}{e:Ent}{s':Wk}(h:ax w B a M n v g s G)(V:bv w1 B (.slice (some ⟨z,0,none⟩) (s.ents.length+1) E) (s.ents++[e]))(L:w.grownBy w1 v.ownBlock)(o:v.ownBlock=some z∨w.1.size<=z)(W:s'={ s with ents:=s.ents++[e] })(R:Sc.Good s'):
  ax (w1.setCell ⟨a,5,none⟩ (.slice (some ⟨z,0,none⟩) (s.ents.length+1) E)) B a M n (.slice (some ⟨z,0,none⟩) (s.ents.length+1) E) g s' G∧Aside (eV a M v) w (w1.setCell ⟨a,5,none⟩ (.slice (some ⟨z,0,none⟩) (s.ents.length+1) E)):=by
 have I:=cz L;have U:w1.1[a]?=some (.cells (bM M s v) 87):=(I.block a h.lt h.va).trans h.lies;have K:Aside (fun k=>k=a) w1 (w1.setCell ⟨a,5,none⟩ (.slice (some ⟨z,0,none⟩) (s.ents.length+1) E)):=(Aside.refl (fun k=>k=a) w1).setCell (p:=⟨a,5,none⟩) (.inl rfl) _;have J:Aside (eV a M v) w (w1.setCell ⟨a,5,none⟩ (.slice (some ⟨z,0,none⟩) (s.ents.length+1) E)):=(I.mono fun i _ y=>.inr (.inr y)).trans K (fun i _ y=>.inl y);have Y:=h.lt;have X:=h.map.lt;have O:z≠a:=fun A=>by
  rcases o with o | o
  ·exact h.va (by rw[o,A])
  ·omega
 have Z:z≠M:=fun A=>by
  rcases o with o | o
  ·exact h.vM (by rw[o,A])
  ·omega
 subst W;refine⟨⟨oJ U 5 _ rfl,?_,?_,h.base,R,fun k D=>Nat.lt_of_lt_of_le (h.low k D) J.size,fun k D=>⟨(h.off k D).1,(h.off k D).2.1,fun A=>?_⟩,fun m=>?_⟩,J⟩
 ·refine h.map.keep ?_;rw[K.block M (Nat.lt_of_lt_of_le h.map.lt I.size) (fun A=>h.aM A.symm)];exact I.block M h.map.lt h.vM
 ·have:=V.aside K (fun k D A=>by simp only[Value.ownBlock,Option.some.injEq] at D;exact O (by rw[D,A]));exact this
 ·simp only[Value.ownBlock,Option.some.injEq] at A;rcases o with o | o
  ·exact(h.off k D).2.2 (by rw[o,A])
  ·have:=h.low k D;omega
 ·refine(h.sch m).step (J.mono fun i _ y=>.inl y) fun i y=>?_;rcases y with (y | y | y) | y
  ·exact .inl (.inl (.inl y))
  ·exact .inl (.inl (.inr (.inl y)))
  ·simp only[Value.ownBlock,Option.some.injEq] at y;rcases o with o | o
   ·exact .inl (.inl (.inr (.inr (by rw[o,y]))))
   ·exact .inr (by omega)
  ·exact .inl (.inr y)
end
end
end Go.Proofs.YtdkammppnkhhoaaGreatDoor
