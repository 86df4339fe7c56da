import Derived.Test.YtngmnfdaedlodaaGreatDoorB20
set_option maxRecDepth 100000
set_option maxHeartbeats 1000000
namespace Go.Proofs.YtngmnfdaedlodaaGreatDoor
open Go.Proofs.Tryz
open Option renaming some->I,none->U
open Except renaming error->Y
open Go.Value renaming slice->O,int->px,pointer->qq
open Go.IntKind renaming i64->N
open Go.Proofs.Tryz renaming prog->AE
open Go renaming Value->AA,World->AU
open Go.Obj renaming cells->wx
open Go.Ending renaming returned->wv
variable{B M a c e k m n:Nat}{w:AU}{l r:L8}{v:AA}{xs:List Ent}
section
open Go.RowKit
namespace Sch
theorem getF_lt140:∀(f:Nat) (first:Bool) (l:L8),(Leb.getF f first l).err<140∧(Leb.getF f first l).err≠50
 |0,_,_=>by simp[Leb.getF]
 |_+1,_,[]=>by simp[Leb.getF]
 |f+1,first,c::r=>by
  rw[Leb.getF];split
  ·have:=getF_lt140 f false r;dsimp only;split
   ·exact⟨Nat.zero_lt_succ _,fun h=>by cases h⟩
   ·exact this
  ·split
   ·exact⟨by decide,by decide⟩
   ·exact⟨Nat.zero_lt_succ _,fun h=>by cases h⟩
theorem bit_lt140(h:bit l=Y e):e<140∧e≠50:=by
 unfold bit at h;split at h
 ·cases h;decide
 ·split at h
  ·cases h;decide
  ·cases h
theorem num_lt140(h:num l=Y e):e<140∧e≠50:=by
 unfold num at h;split at h
 ·cases h
 ·cases h;exact getF_lt140 _ _ _
theorem text_lt140{y long:Nat}(o:long<140∧long≠50)(h:text y long l=Y e):e<140∧e≠50:=by
 unfold text at h;split at h
 ·next hn=>cases h;exact num_lt140 hn
 ·split at h
  ·cases h;exact o
  ·split at h
   ·cases h;decide
   ·cases h
theorem float_lt140(h:float l=Y e):e<140∧e≠50:=by
 unfold float at h;split at h
 ·cases h;decide
 ·split at h
  ·cases h
  ·cases h;decide
theorem scalar_lt140{k:Int}(h:scalar k l=Y e):e<140∧e≠50:=by
 unfold scalar at h;split at h
 ·split at h
  ·next hn=>cases h;exact bit_lt140 hn
  ·cases h
 ·split at h
  ·split at h
   ·next hn=>cases h;exact num_lt140 hn
   ·cases h
  ·split at h
   ·split at h
    ·next hn=>cases h;exact float_lt140 hn
    ·cases h
   ·split at h
    ·next hn=>cases h;exact text_lt140 (by decide) hn
    ·split at h
     ·cases h;decide
     ·cases h
theorem many_lt140{k:Int}(h:many k l=Y e):e<140∧e≠50:=by
 unfold many at h;split at h
 ·exact bit_lt140 h
 ·split at h
  ·next hn=>cases h;exact num_lt140 hn
  ·split at h
   ·cases h;decide
   ·cases h
theorem rdN_lt140{f:L8->Except Nat (V×Nat)}(o:∀l e,f l=Y e->e<140∧e≠50):∀(m:Nat) (l:L8) (e:Nat),rdN f m l=Y e->e<140∧e≠50
 |0,l,e,h=>by rw[rdN] at h;cases h
 |m+1,l,e,h=>by
  rw[rdN] at h;split at h
  ·next hn=>cases h;exact o _ _ hn
  ·split at h
   ·next hn=>cases h;exact rdN_lt140 o m _ _ hn
   ·cases h
theorem rdV_lt140:∀(t:Ty) (d:Nat) (l:L8) (e:Nat),Ty.check d t=0->rdV t l=Y e->e<140∧e≠50:=by
 intro t;refine Ty.ind (P:=fun t=>∀(d:Nat) (l:L8) (e:Nat),Ty.check d t=0->rdV t l=Y e->e<140∧e≠50) ?_ t;intro k xs E d l e y h;obtain⟨hd,J,A⟩:=ty_open y;rw[rdV_mk] at h;rcases A with ⟨o,rfl⟩ | ⟨o,x,rfl,D⟩
 ·rw[AG (by omega)] at h;exact scalar_lt140 h
 ·rw[AF (by omega)] at h;split at h
  ·next hn=>cases h;exact many_lt140 hn
  ·split at h
   ·next hn=>cases h;exact rdN_lt140 (f:=rdV x) (fun l e h=>E x (by simp) (d+1) l e D h) _ _ _ hn
   ·cases h
theorem rdT_lt140:∀(f:Nat) (l:L8) (e:Nat),rdT f l=Y e->e<140∧e≠50
 |0,l,e,h=>by rw[rdT] at h;cases h;decide
 |f+1,[],e,h=>by rw[rdT] at h;cases h;decide
 |f+1,c::r,e,h=>by
  rw[rdT] at h;split at h
  ·cases h;decide
  ·split at h
   ·cases h
   ·split at h
    ·next hn=>cases h;exact rdT_lt140 f r _ hn
    ·cases h
theorem rdC_lt140{l:List Col}{b:L8}(h:rdC l b=Y e):e<140∧e≠50:=by
 rw[rdC] at h;split at h
 ·next hn=>cases h;exact num_lt140 hn
 ·split at h
  ·cases h;decide
  ·split at h
   ·next hn=>cases h;exact text_lt140 (by decide) hn
   ·split at h
    ·cases h;decide
    ·split at h
     ·cases h;decide
     ·split at h
      ·next hn=>cases h;exact rdT_lt140 _ _ _ hn
      ·next t j2 ht=>
       split at h
       ·next hn=>cases h;exact bit_lt140 hn
       ·split at h
        ·cases h
        ·split at h
         ·next hn=>cases h;exact rdV_lt140 t 1 _ _ (rdT_ok 4 _ t j2 (Nat.le_refl 4) ht).2.2.1 hn
         ·cases h
theorem rdCs_lt140:∀(m:Nat) (l:List Col) (b:L8) (e:Nat),rdCs m l b=Y e->e<140∧e≠50
 |0,l,b,e,h=>by rw[rdCs] at h;cases h
 |m+1,l,b,e,h=>by
  rw[rdCs] at h;split at h
  ·next hn=>cases h;exact rdC_lt140 hn
  ·split at h
   ·next hn=>cases h;exact rdCs_lt140 m _ _ _ hn
   ·cases h
theorem read_lt140{b:L8}(h:read b=Y e):e<140∧e≠50:=by
 rw[read] at h;split at h
 ·cases h;decide
 ·split at h
  ·next hn=>cases h;exact num_lt140 hn
  ·split at h
   ·cases h;decide
   ·split at h
    ·cases h;decide
    ·split at h
     ·next hn=>cases h;exact rdCs_lt140 _ _ _ _ hn
     ·split at h
      ·cases h
      ·cases h;decide
end Sch
theorem sY(s:L8):(Cob.un s).1<140∧(Cob.un s).1≠50:=by
 unfold Cob.un;split
 ·decide
 ·split
  ·decide
  ·split
   ·decide
   ·split <;> simp
theorem oN(h:Fr.open_ l=Y e):e<140∧e≠50:=by
 unfold Fr.open_ at h;split at h
 ·injection h with h;omega
 ·split at h
  ·injection h with h;rw[<-h];exact sY l
  ·split at h
   ·injection h with h;omega
   ·split at h
    ·cases h
    ·injection h with h;omega
theorem uK(h:Fr.dec l=Y e):e<140∧e≠50:=by
 unfold Fr.dec at h;split at h
 ·next e' he=>injection h with h;rw[<-h];exact oN he
 ·next b hb=>
  unfold Fr.rdF at h;have A:∀{D:Nat} {l:L8} {e:Nat},Fr.nb D l=Y e->e=5:=by
   intro D l e h;unfold Fr.nb at h;split at h
   ·injection h with h;omega
   ·split at h
    ·cases h
    ·injection h with h;omega
  have y:∀(o:List Nat) {l:L8} {e:Nat},Fr.nbs o l=Y e->e=5:=by
   intro o;induction o with
   |nil=>intro l e h;rw[Fr.nbs] at h;cases h
   |cons a o ih=>
    intro l e h;rw[Fr.nbs] at h;split at h
    ·next e' he=>injection h with h;rw[<-h];exact A he
    ·split at h
     ·next e' he=>injection h with h;rw[<-h];exact ih he
     ·cases h
  have E:∀(m:Nat) {l:L8} {e:Nat},Fr.rdE m l=Y e->e=5:=by
   intro m;induction m with
   |zero=>intro l e h;rw[Fr.rdE] at h;cases h
   |succ m ih=>
    intro l e h;rw[Fr.rdE] at h;split at h
    ·next e' he=>injection h with h;rw[<-h];exact y _ he
    ·split at h
     ·next e' he=>injection h with h;rw[<-h];exact ih he
     ·cases h
  split at h
  ·unfold Fr.rdS at h;split at h
   ·next e' he=>injection h with h;rw[<-h,A he];decide
   ·split at h
    ·next e' he=>injection h with h;rw[<-h];exact Sch.read_lt140 he
    ·cases h
  ·split at h
   ·unfold Fr.rdD at h;split at h
    ·next e' he=>injection h with h;rw[<-h,y _ he];decide
    ·split at h
     ·injection h with h;omega
     ·cases h
   ·split at h
    ·unfold Fr.rdI at h;split at h
     ·next e' he=>injection h with h;rw[<-h,y _ he];decide
     ·split at h
      ·next e' he=>injection h with h;rw[<-h,E _ he];decide
      ·split at h
       ·cases h
       ·injection h with h;omega
    ·injection h with h;omega
theorem uJ(h:Fr.dec l=Y e):e≠50:=(uK h).2
end
section
structure Kn where
 cols:List Col
 place:Int
structure Wk where
 sch:Int->Option Kn
 number:Int
 since:Int
 frames:Int
 rows:Int
 ents:List Ent
 closed:Bool
namespace Sc
def new:Wk:=⟨fun _=>U,-1,0,0,0,[],false⟩
def schAt(s:Wk)(n:Int):List Col:=match s.sch n with
 |some k=>k.cols
 |none=>[]
def placeAt(s:Wk)(n:Int):Int:=match s.sch n with
 |some k=>k.place
 |none=>0
def follows(s:Wk)(f:Fr)(p:Int):Bool :=
 if f.kind=1 then (if f.number=s.number then Sch.same f.cols (schAt s s.number) else decide (f.number=s.number+1))
 else if f.kind=2 then decide (f.number=s.number∧f.seq=s.frames∧f.first=s.rows)
 else Idx.same f.index ⟨p,s.frames,s.rows,s.ents⟩
def learn(s:Wk)(n:Int)(c:List Col)(p:Int):Wk:={ s with sch:=fun m=>if m=n then I ⟨c.map Col.fix,p⟩ else s.sch m,number:=n,since:=0 }
def enter(s:Wk)(f:Fr)(p:Int):Wk:=if f.seq % 4=0∧s.ents.length<64 then { s with ents:=s.ents++[⟨p,f.first,placeAt s s.number⟩] } else s
def count(s:Wk)(f:Fr):Wk:={ s with frames:=s.frames+1,rows:=s.rows+f.rows,since:=s.since+1 }
def take(s:Wk)(f:Fr)(p:Int):Wk :=
 if f.kind=1 then { learn s f.number f.cols p with closed:=false }
 else if f.kind=2 then { count (enter s f p) f with closed:=false }
 else { s with closed:=true }
def may(s:Wk)(f:Fr)(p:Int):Bool:=Fr.within Fr.S p&&decide (Fr.err f=0)&&follows s f p
def next(s:Wk)(f:Fr)(p:Int):Wk:=if may s f p=true then take s f p else s
structure Good(s:Wk):Prop where
 number:-1<=s.number∧s.number<2147483648
 since:0<=s.since∧s.since<=s.frames
 frames:s.frames<=70368744177664
 rows:0<=s.rows∧s.rows<=1099511627840
 ents:s.ents.length*24<=140737488351232
 entsOk:∀e∈s.ents,Fr.i64 e.at_∧Fr.i64 e.row∧Fr.i64 e.sch
 known:∀n k,s.sch n=I k->(0<=n∧n<=s.number)∧Sch.err k.cols=0∧(∀c∈k.cols,c.fix=c∧c.wf)∧(0<=k.place∧k.place<1099511627776)
 has:0<=s.number->∃k,s.sch s.number=I k
theorem good_new:Good new:=⟨by decide,by decide,by decide,by decide,by decide,fun e o=>(by cases o),fun n k h=>(by cases h),fun h=>(by simp[new] at h)⟩
theorem place_ok{s:Wk}(h:Good s)(n:Int):0<=placeAt s n∧placeAt s n<1099511627776:=by
 unfold placeAt;split
 ·next k hk=>exact(h.known n k hk).2.2.2
 ·omega
theorem i64_of{n:Int}(h:0<=n∧n<1099511627776):Fr.i64 n:=⟨by omega,by omega⟩
theorem fix_wf{s:List Col}(o:Sch.err s=0)(y:∀c∈s,c.wf):Sch.err (s.map Col.fix)=0∧∀c∈s.map Col.fix,c.fix=c∧c.wf:=by
 have:=Sch.read_ok (Sch.read_put o y);exact⟨this.1,this.2.2⟩
theorem good_learn{s:Wk}(h:Good s)(n:Int)(c:List Col)(p:Int)(E:0<=n∧n<2147483648)(L:s.number<=n)(J:Sch.err c=0)(S:∀x∈c,x.wf)(Q:0<=p∧p<1099511627776):Good (learn s n c p):=by
 refine⟨⟨by show -1<=n;omega,E.2⟩,⟨Int.le_refl _,?_⟩,h.frames,h.rows,h.ents,h.entsOk,fun m k K=>?_,fun _=>⟨⟨c.map Col.fix,p⟩,by show(if n=n then _ else _)=_;rw[AG rfl]⟩⟩
 ·have:=h.since;show 0<=s.frames;omega
 ·have o:(if m=n then I ⟨c.map Col.fix,p⟩ else s.sch m)=I k:=K;by_cases D:m=n
  ·rw[AG D] at o;injection o with o;rw[<-o,D];obtain⟨y,A⟩:=fix_wf J S;exact⟨⟨E.1,Int.le_refl _⟩,y,A,Q⟩
  ·rw[AF D] at o;obtain⟨y,A⟩:=h.known m k o;exact⟨⟨y.1,Int.le_trans y.2 L⟩,A⟩
theorem good_enter{s:Wk}(h:Good s)(f:Fr)(p:Int)(A:0<=p∧p<1099511627776)(y:0<=f.first∧f.first<1099511627776):Good (enter s f p):=by
 unfold enter;split
 ·next hc=>
  refine⟨h.number,h.since,h.frames,h.rows,?_,?_,h.known,h.has⟩
  ·simp only[AH,AO];omega
  ·intro e o;rcases List.mem_append.1 o with o | o
   ·exact h.entsOk e o
   ·rw[List.mem_singleton] at o;subst o;exact⟨i64_of A,i64_of y,i64_of (place_ok h s.number)⟩
 ·exact h
theorem enter_same(s:Wk)(f:Fr)(p:Int):(enter s f p).sch=s.sch∧(enter s f p).number=s.number∧(enter s f p).since=s.since∧(enter s f p).frames=s.frames∧(enter s f p).rows=s.rows∧(enter s f p).closed=s.closed:=by
 unfold enter;split <;> exact⟨rfl,rfl,rfl,rfl,rfl,rfl⟩
theorem good_count{s:Wk}(h:Good s)(f:Fr)(o:s.frames<1099511627776)(y:s.rows<1099511627776)(A:1<=f.rows∧f.rows<=64):Good (count s f):=by
 have E:=h.since;have D:=h.rows;exact⟨h.number,⟨by show 0<=s.since+1;omega,by show s.since+1<=s.frames+1;omega⟩,by show s.frames+1<=_;omega,⟨by show 0<=s.rows+f.rows;omega,by show s.rows+f.rows<=_;omega⟩,h.ents,h.entsOk,h.known,h.has⟩
theorem good_closed{s:Wk}(h:Good s)(c:Bool):Good { s with closed:=c }:=⟨h.number,h.since,h.frames,h.rows,h.ents,h.entsOk,h.known,h.has⟩
theorem err_parts{f:Fr}(h:Fr.err f=0):(f.kind=1->(0<=f.number∧f.number<2147483648)∧Sch.err f.cols=0)∧(f.kind=2->(0<=f.number∧f.number<2147483648)∧(0<=f.seq∧f.seq<1099511627776)∧(0<=f.first∧f.first<1099511627776)∧(1<=f.rows∧f.rows<=64))∧(f.kind=1∨f.kind=2∨f.kind=3):=by
 have o:=(Fr.err_open h).1;refine⟨fun y=>?_,fun y=>?_,Fr.head_fields o⟩
 ·unfold Fr.err0 at o;rw[AG y] at o;split at o
  ·omega
  ·next hn=>
   have:=Fr.within_iff.1 (by simpa using hn);exact⟨this,o⟩
 ·unfold Fr.err0 at o;rw[AF (by omega),AG y] at o;split at o
  ·omega
  ·next hn=>
   simp only[Bool.not_eq_false,Bool.and_eq_true,decide_eq_true_iff] at hn;exact⟨Fr.within_iff.1 hn.1.1.1,Fr.within_iff.1 hn.1.1.2,Fr.within_iff.1 hn.1.2,hn.2⟩
theorem may_parts{s:Wk}{f:Fr}{p:Int}(h:may s f p=true):(0<=p∧p<1099511627776)∧Fr.err f=0∧follows s f p=true:=by
 unfold may at h;simp only[Bool.and_eq_true,decide_eq_true_iff] at h;exact⟨Fr.within_iff.1 h.1.1,h.1.2,h.2⟩
theorem follows_data{s:Wk}{f:Fr}{p:Int}(o:f.kind=2)(h:follows s f p=true):f.number=s.number∧f.seq=s.frames∧f.first=s.rows:=by
 unfold follows at h;rw[AF (by omega),AG o] at h;exact of_decide_eq_true h
theorem follows_sch{s:Wk}{f:Fr}{p:Int}(o:f.kind=1)(h:follows s f p=true):s.number<=f.number:=by
 unfold follows at h;rw[AG o] at h;split at h
 ·omega
 ·have:=of_decide_eq_true h;omega
theorem good_take{s:Wk}(h:Good s){f:Fr}{p:Int}(ah:f.wf)(ab:may s f p=true):Good (take s f p):=by
 obtain⟨D,Z,A⟩:=may_parts ab;obtain⟨S,V,-⟩:=err_parts Z;unfold take;split
 ·next hk=>
  obtain⟨o,y⟩:=S hk;exact good_closed (good_learn h _ _ _ o (follows_sch hk A) y ah.2.2.1 D) false
 ·split
  ·next hk=>
   obtain⟨o,y,E,J⟩:=V hk;obtain⟨ai,K,L⟩:=follows_data hk A;have X:=good_enter h f p D E;obtain⟨c1,c2,c3,c4,Q,aj⟩:=enter_same s f p;exact good_closed (good_count X f (by rw[c4,<-K];omega) (by rw[Q,<-L];omega) J) false
  ·exact good_closed h true
theorem good_next{s:Wk}(h:Good s){f:Fr}(p:Int)(o:f.wf):Good (next s f p):=by
 unfold next
 split
 ·next hm=>exact good_take h o hm
 ·exact h
def runT(m:Nat)(t:L8):Except Nat L8 :=
 if t.findIdx (·==0)<t.length then (if t.findIdx (·==0)=0 then Y 4 else .ok (t.take (t.findIdx (·==0))))
 else if m=2202 then Y 2 else Y 142
def runOf(r:L8):Except Nat L8:=if r.headD 0≠0 then Y 141 else runT r.length r.tail
theorem runOf_cons(c:UInt8)(t:L8):runOf (c::t)=if c≠0 then Y 141 else runT (t.length+1) t:=rfl
def reads(b:L8)(p:Int):Nat:=if p<0∨(b.length:Int)<=p then 0 else ((b.drop p.toNat).take 2202).length
def at_(b:L8)(p:Int):Except Nat (Fr×Nat) :=
 if p<0∨(b.length:Int)<p then Y 7 else if p=(b.length:Int) then Y 140
 else match runOf ((b.drop p.toNat).take 2202) with
 |Y e=>Y e
 |.ok r=>match Fr.dec r with
  |Y e=>Y e
  |.ok f=>.ok (f,p.toNat+r.length+2)
theorem findIdx_split:∀(t:L8),t.findIdx (·==0)<t.length->∃r,t=t.take (t.findIdx (·==0))++0::r
 | [],h=>by simp at h
 |c::t,h=>by
  rw[List.findIdx_cons] at h ⊢;by_cases o:(c==0)=true
  ·rw[o];have:c=0:=(by simpa using o);exact⟨t,by simp[this]⟩
  ·have y:(c==0)=false:=(by simpa using o);rw[y] at h ⊢;simp only[cond_false,AI] at h;obtain⟨r,A⟩:=findIdx_split t (by omega);refine⟨r,?_⟩;simp only[cond_false,List.take_succ_cons,List.cons_append];rw[<-A]
theorem findIdx_pre:∀(a r:L8),(∀c∈a,c≠0)->(a++0::r).findIdx (·==0)=a.length
 | [],r,_=>by simp[List.findIdx_cons]
 |c::a,r,h=>by
  rw[List.cons_append,List.findIdx_cons];have o:(c==0)=false:=by simpa using h c (by simp)
  rw[o,findIdx_pre a r (fun x y=>h x (by simp[y]))];simp
theorem findIdx_before:∀(t:L8),∀c∈t.take (t.findIdx (·==0)),c≠0
 | [],c,o=>by simp at o
 |d::t,c,o=>by
  rw[List.findIdx_cons] at o;by_cases hd:(d==0)=true
  ·rw[hd] at o;simp at o
  ·have y:(d==0)=false:=(by simpa using hd);rw[y] at o;simp only[cond_false,List.take_succ_cons,List.mem_cons] at o;rcases o with rfl | o
   ·simpa using hd
   ·exact findIdx_before t c o
theorem runOf_ok(A:l≠[])(h:runOf l=.ok r):∃z,l=0::(r++0::z)∧r≠[]∧∀c∈r,c≠0:=by
 obtain⟨c,t,rfl⟩:∃c t,l=c::t:=by
  cases l with
  |nil=>exact absurd rfl A
  |cons c t=>exact⟨c,t,rfl⟩
 rw[runOf_cons] at h;split at h
 ·cases h
 ·next hc=>
  have y:c=0:=by simpa using hc
  subst y;unfold runT at h;split at h
  ·next hlt=>
   split at h
   ·cases h
   ·next h0=>
    injection h with h;obtain⟨z,o⟩:=findIdx_split t hlt;rw[h] at o;refine⟨z,by rw[<-o],fun D=>?_,fun x E=>findIdx_before t x (by rw[h];exact E)⟩;rw[D] at h;have:=congrArg List.length h;simp only[AM,List.length_nil] at this;omega
  ·split at h <;> cases h
theorem runOf_mk{z:L8}(o:r≠[])(h:∀c∈r,c≠0):runOf (0::(r++0::z))=.ok r:=by
 have e:=findIdx_pre r z h;have y:0<r.length:=List.length_pos_iff.2 o;rw[runOf_cons,AF (by simp)];unfold runT;simp only[e];rw[AG (by simp),AF (by omega)];simp
theorem at_ok{b:L8}{p:Int}{f:Fr}(h:at_ b p=.ok (f,n)):0<=p∧p<(b.length:Int)∧Fr.err f=0∧f.wf∧n=p.toNat+(Fr.run f).length+2∧n<=b.length∧(b.drop p.toNat).take ((Fr.run f).length+2)=0::(Fr.run f++[0]):=by
 unfold at_ at h;split at h
 ·cases h
 ·next h1=>
  split at h
  ·cases h
  ·next h2=>
   split at h
   ·cases h
   ·next r hr=>
    split at h
    ·cases h
    ·next g hg=>
     injection h with h;injection h with h3 h4;subst h3;obtain⟨D,o,Q,E,S⟩:=Fr.dec_ok hg;have V:p.toNat<b.length:=(by omega);have L:(b.drop p.toNat).take 2202≠[]:=by
      intro J;have:=congrArg List.length J;simp only[AM,AL,List.length_nil] at this;omega
     obtain⟨z,A,-,-⟩:=runOf_ok L hr;have K:=congrArg List.length A;simp only[AM,AL,AI,AH] at K;refine⟨by omega,by omega,D,E,by rw[o];omega,by omega,?_⟩;have y:=congrArg (List.take (r.length+2)) A;rw[List.take_take,Nat.min_eq_left (by omega)] at y;rw[o,y,List.take_succ_cons,List.take_append,List.take_of_length_le (by omega)];simp
theorem at_take{b:L8}{p:Int}{f:Fr}(h:at_ b p=.ok (f,n))(ab:n<=m)(hb:m<=b.length):at_ (b.take m) p=.ok (f,n):=by
 obtain⟨Q,S,A,X,D,Z,E⟩:=at_ok h;have V:=(Fr.err_open A).2;have o:=Fr.run_ge (f:=f);have L:((b.take m).drop p.toNat).take 2202=0::(Fr.run f++0::((((b.take m).drop p.toNat).take 2202).drop ((Fr.run f).length+2))):=by
  have e:=List.take_append_drop ((Fr.run f).length+2) (((b.take m).drop p.toNat).take 2202);have y:(((b.take m).drop p.toNat).take 2202).take ((Fr.run f).length+2)=0::(Fr.run f++[0]):=by
   rw[List.take_take,Nat.min_eq_left (by omega),List.drop_take,List.take_take,Nat.min_eq_left (by omega),E]
  rw[y] at e;simpa using e.symm
 have hd:Fr.dec (Fr.run f)=.ok f:=by
  unfold at_ at h;rw[AF (by omega),AF (by omega)] at h;split at h
  ·cases h
  ·next r hr=>
   split at h
   ·cases h
   ·next g hg=>
    injection h with h;injection h with h8 h9;subst h8;rw[(Fr.dec_ok hg).2.1];exact hg
 unfold at_;have K:(b.take m).length=m:=by rw[AM];omega
 rw[K,AF (by omega),AF (by omega),L,runOf_mk (fun J=>by rw[J] at o;simp at o) (Fr.run_nz f)];simp only[hd];rw[D]
structure Pos where
 at_:Nat
 wk:Wk
 read:Nat
def begin_:Pos:=⟨0,new,0⟩
def step(b:L8)(x:Pos):Except Nat Pos:=match Sc.at_ b x.at_ with
 |Y e=>Y e
 |.ok (f,n)=>if may x.wk f x.at_=true then .ok ⟨n,take x.wk f x.at_,x.read+reads b x.at_⟩ else Y 143
def goes(b:L8):Nat->Option Pos
 |0=>I begin_
 |k+1=>match goes b k with
  |none=>U
  |some x=>match step b x with
   |Y _=>U
   |.ok y=>I y
theorem step_ok{b:L8}{x o:Pos}(h:step b x=.ok o):∃f,Sc.at_ b x.at_=.ok (f,o.at_)∧may x.wk f x.at_=true∧o.wk=take x.wk f x.at_∧o.read=x.read+reads b x.at_:=by
 unfold step at h;split at h
 ·cases h
 ·next f n hf=>
  split at h
  ·next hm=>
   injection h with h;subst h;exact⟨f,hf,hm,rfl,rfl⟩
  ·cases h
theorem goes_succ{b:L8}{x o:Pos}(h:goes b k=I x)(y:step b x=.ok o):goes b (k+1)=I o:=by
 rw[goes,h];simp only[y]
theorem goes_pred{b:L8}{o:Pos}(h:goes b (k+1)=I o):∃x,goes b k=I x∧step b x=.ok o:=by
 rw[goes] at h;split at h
 ·cases h
 ·next x hx=>
  split at h
  ·cases h
  ·next z hz=>
   injection h with h;subst h;exact⟨x,hx,hz⟩
theorem reads_le(b:L8)(p:Int):reads b p<=2202:=by
 unfold reads;split
 ·omega
 ·simp;omega
theorem goes_good{b:L8}:∀{k:Nat} {x:Pos},goes b k=I x->Good x.wk∧x.at_<=b.length∧8*k<=x.at_∧x.read<=k*2202
 |0,x,h=>by
  injection h with h;subst h;exact⟨good_new,Nat.zero_le _,gQx,gQx⟩
 |k+1,y,h=>by
  obtain⟨x,V,S⟩:=goes_pred h;obtain⟨E,ai,aj,ak⟩:=goes_good V;obtain⟨f,J,K,L,Q⟩:=step_ok S;obtain⟨X,Z,ab,o,A,D,ah⟩:=at_ok J;have aw:=Fr.run_ge (f:=f);have a0:=reads_le b x.at_;rw[L,Q];refine⟨good_take E o K,D,?_,?_⟩
  ·rw[A];omega
  ·omega
theorem goes_take{b:L8}(hb:m<=b.length):∀{k:Nat} {x:Pos},goes b k=I x->x.at_<=m->∃r,goes (b.take m) k=I ⟨x.at_,x.wk,r⟩
 |0,x,h,_=>by
  injection h with h;subst h;exact⟨0,rfl⟩
 |k+1,y,h,hm=>by
  obtain⟨x,Q,L⟩:=goes_pred h;obtain⟨f,o,D,E,ai⟩:=step_ok L;obtain⟨S,V,X,Z,A,ab,ah⟩:=at_ok o;have J:x.at_<=m:=by
   rw[A] at hm;omega
  obtain⟨r,K⟩:=goes_take hb Q J;refine⟨r+reads (b.take m) x.at_,goes_succ K ?_⟩;unfold step;simp only[at_take o hm hb];rw[AG D,E]
theorem goes_once{b:L8}:∀{j k:Nat} {x y:Pos} {e:Nat},goes b j=I x->step b x=Y e->goes b k=I y->k<=j:=by
 intro j k x y e E D J;rcases Nat.lt_or_ge j k with h | h
 ·exfalso;have A:goes b (j+1)=none:=by
   rw[goes,E];simp only[D]
  have:∀d,goes b (j+1+d)=none:=by
   intro d;induction d with
   |zero=>exact A
   |succ d ih=>
    show goes b (j+1+d+1)=U;rw[goes,ih]
  have o:=this (k-(j+1));rw[show j+1+(k-(j+1))=k by omega,J] at o;cases o
 ·exact h
theorem goes_uniq{b:L8}{j:Nat}{x D:Pos}{g:Nat}(A:goes b j=I x)(E:step b x=Y e)(o:goes b k=I D)(y:step b D=Y g):j=k∧x=D∧e=g:=by
 have K:=goes_once A E o;have L:=goes_once o y A;have J:j=k:=by omega
 subst J;rw[A] at o;injection o with o;subst o;rw[E] at y;injection y with y;exact⟨rfl,rfl,y⟩
theorem step_end{b:L8}{x:Pos}(h:x.at_=b.length):step b x=Y 140:=by
 unfold step at_;rw[AF (by omega),AG (by omega)]
end Sc
end
section
open Go.RowKit Go.Maps
theorem oV:Keyed AE 2:=int_keyed underlying2
def fF:Value:=.agg #[O U 0 0,px N 0]
theorem sN(w:AU):(zeroValue 136).run AE w=.ok fF w:=by kernel_rfl
def uq(v:AA):Option (DataW AA×List MemPlace):=I (.held v,[])
def rJ(n:Int):Lit:=.int N n
theorem nr{a b:Int}(h:rJ a=rJ b):a=b:=by
 unfold rJ at h;injection h
theorem lD{n:Int}(h:Fr.i64 n):keyOf AE 2 (px N n)=I (rJ n):=keyOf_int_mk underlying2 (by
 show(decide _&&decide _)=true;rw[Bool.and_eq_true];exact⟨AR h.1,AR h.2⟩)
structure eO(w:AU)(M n:Nat)(g:Int->Option AA):Prop where
 out:∃D:DataW AA,w.ownsMap AE 2 uq M n D∧∀m,Maps.has D (rJ m)=(g m).isSome∧D.atKey (rJ m) (.held fF)=.held ((g m).getD fF)
section
variable {w w':AU} {M n:Nat} {g:Int->Option AA}
theorem rI(w:AU):eO (w.alloc (.map #[] 0)) w.1.size 0 (fun _=>U):=⟨.map [],World.ownsMap_made _ _ _ _,fun _=>⟨rfl,rfl⟩⟩
theorem eO.lt(h:eO w M n g):M<w.1.size:=by
 obtain⟨y,o,_⟩:=h.out;exact o.lt
theorem eO.keep(h:eO w M n g)(hb:w'.1[M]?=w.1[M]?):eO w' M n g:=by
 obtain⟨o,⟨es,clock,y,A⟩,D⟩:=h.out;exact⟨o,⟨es,clock,hb.trans y,A⟩,D⟩
theorem eO.obj(h:eO w M n g):∃es clock,w.1[M]?=I (.map es clock):=by
 obtain⟨y,⟨es,clock,o,A⟩,D⟩:=h.out;exact⟨es,clock,o⟩
theorem eO.look(h:eO w M n g){m:Int}(D:Fr.i64 m):(Instr.lookup 77 (.map (I M)) (px N m) false).run AE w=.ok ((g m).getD fF) w:=by
 obtain⟨J,y,A⟩:=h.out;obtain⟨v,ps,E,o⟩:=y.lookup oV underlying77 (sN w) (zd:=.held fF) (zp:=[]) rfl (lD D);rw[(A m).2] at o;unfold uq at o;injection o with o;injection o with o _;injection o with o;rw[E,o]
theorem eO.look_ok(h:eO w M n g){m:Int}(D:Fr.i64 m):(Instr.lookup 77 (.map (I M)) (px N m) true).run AE w=.ok (.tuple #[(g m).getD fF,.bool (g m).isSome]) w:=by
 obtain⟨J,A,y⟩:=h.out;obtain⟨v,ps,E,o⟩:=A.look_ok oV underlying77 (sN w) (zd:=.held fF) (zp:=[]) rfl (lD D);rw[(y m).2] at o;unfold uq at o;injection o with o;injection o with o _;injection o with o;rw[E,o,(y m).1]
theorem eO.put(h:eO w M n g){m:Int}(L:Fr.i64 m)(ab:n<1000000000)(v:AA):∃w',(Instr.mapUpdate 77 (.map (I M)) (px N m) v).run AE w=.ok () w'∧eO w' M (n+1) (fun k=>if k=m then I v else g k)∧Aside (fun k=>k=M) w w'∧w'.1.size=w.1.size:=by
 obtain⟨V,A,E⟩:=h.out;obtain⟨w',S,Q,D⟩:=A.store oV underlying77 (by unfold maxLen;omega) (lD L) (val:=v) (d:=.held v) (ps:=[]) rfl;refine⟨w',S,⟨_,Q,fun k=>?_⟩,?_,?_⟩
 ·by_cases o:k=m
  ·subst o;rw[AG rfl,has_put_same A.isMap (by trivial),atKey_put_same A.isMap (by trivial)];exact⟨rfl,rfl⟩
  ·rw[AF o,has_put_other (fun e=>o (nr e)),atKey_put_other (fun e=>o (nr e))];exact E k
 ·have y:=D.grown;exact⟨y.os,y.tape,y.output,y.size,fun k o K=>y.block k o (fun J=>K (by injection J))⟩
 ·obtain⟨es,clock,Z,X,_,e⟩:=D;rw[e];simp[Go.ChangeMaps.setBlock]
end
def bM(M:Nat)(s:Wk)(v:AA):AV:=#[.map (I M),px N s.number,px N s.since,px N s.frames,px N s.rows,v,.bool s.closed]
def Calm(F:Nat->Prop)(w:AU)(p:OA)(s:List Col):Prop:=∀w',Aside F w w'->cU w' p s
section
variable {F F':Nat->Prop} {w w':AU} {p:OA} {s:List Col}
theorem Calm.here(h:Calm F w p s):cU w p s:=h w (Aside.refl _ _)
theorem Calm.step(h:Calm F w p s)(A:Aside F w w')(y:∀k,F' k->F k∨w.1.size<=k):Calm F' w' p s:=fun K o=>h K (A.trans o fun i J E=>(y i E).elim id (fun D=>absurd J (Nat.not_lt_of_le D)))
theorem gJ(h:dt w B #[O p n c] s)(A:∀k,F k->k<B∨w.1.size<=k):Calm F w p s:=fun w' K=>by
 obtain⟨v,us,X,y,hb,V⟩:=h.out;simp only[Array.mk.injEq,List.cons.injEq,and_true] at y;subst y;have J:=hb.aside K (fun g L o=>by have:=hb.lt g L;have:=A g o;omega) (fun j Q k S o=>by have:=hb.range j Q k S;have:=A k o;omega);obtain⟨ab,Z,D,_,E⟩:=J.cols V;injection D with e3 _ _;rw[e3];exact E
end
def vm(X:Nat->Prop)(w:AU)(o:Option Kn)(r:Option AA):Prop:=match o with
 |none=>r=U
 |some k=>∃p c,r=I (.agg #[O p k.cols.length c,px N k.place])∧k.cols.length*120<=140737488351232∧k.cols.length<=c∧Calm X w p k.cols
theorem vm.step{F F':Nat->Prop}{w':AU}{o:Option Kn}{r:Option AA}(h:vm F w o r)(K:Aside F w w')(J:∀k,F' k->F k∨w.1.size<=k):vm F' w' o r:=by
 cases o with
 |none=>exact h
 |some k=>
  obtain⟨p,c,y,A,D,E⟩:=h;exact⟨p,c,y,A,D,E.step K J⟩
structure av(w:AU)(B a M n:Nat)(v:AA)(g:Int->Option AA)(s:Wk)(G:Nat->Prop):Prop where
 lies:w.1[a]?=I (wx (bM M s v) 79)
 map:eO w M n g
 ents:bL w B v s.ents
 base:B<=a∧B<=M
 good:Sc.Good s
 low:∀k,G k->k<w.1.size
 off:∀k,G k->k≠a∧k≠M∧v.ownBlock≠I k
 sch:∀m,vm (fun i=>(i=a∨i=M∨v.ownBlock=I i)∨G i) w (s.sch m) (g m)
section
variable {w w':AU} {B a M n:Nat} {v:AA} {g:Int->Option AA} {s:Wk} {G:Nat->Prop}
theorem av.lt(h:av w B a M n v g s G):a<w.1.size:=(Array.getElem?_eq_some_iff.1 h.lies).1
theorem av.cell(h:av w B a M n v g s G)(i:Nat):w.cell? ⟨a,i,U⟩=(bM M s v)[i]?:=by
 unfold World.cell?;rw[h.lies];rfl
theorem av.thawed(h:av w B a M n v g s G)(i:Nat):w.frozen? ⟨a,i,U⟩=false:=by simp[World.frozen?,h.lies]
theorem av.aM(h:av w B a M n v g s G):a≠M:=by
 intro y;obtain⟨es,clock,o⟩:=h.map.obj;rw[<-y,h.lies] at o;cases o
theorem pB{es:List Ent}(h:bL w B v es){C:AV}{T:TypeId}(A:w.1[k]?=I (wx C T))(E:T≠139):v.ownBlock≠I k:=by
 intro o;rcases h.2 with ⟨y,_⟩ | ⟨K,cap,J,y,_,D,_⟩
 ·rw[y] at o;cases o
 ·rw[y] at o;simp only[Value.ownBlock,Option.some.injEq] at o;subst o;rw[D] at A;injection A with h4;injection h4 with _ h5;exact E h5.symm
theorem av.va(h:av w B a M n v g s G):v.ownBlock≠I a:=pB h.ents h.lies (by decide)
theorem av.vM(h:av w B a M n v g s G):v.ownBlock≠I M:=by
 intro o;obtain⟨es,clock,A⟩:=h.map.obj;rcases h.ents.2 with ⟨y,_⟩ | ⟨J,cap,E,y,_,D,_⟩
 ·rw[y] at o;cases o
 ·rw[y] at o;simp only[Value.ownBlock,Option.some.injEq] at o;subst o;rw[D] at A;cases A
theorem av.aside{E:Nat->Prop}(h:av w B a M n v g s G)(D:Aside G w w')(J:∀k,E k->G k∨w.1.size<=k)(L:∀k,E k->k<w'.1.size):av w' B a M n v g s E:=by
 have Q:∀k,v.ownBlock=I k->k<w.1.size:=fun k o=>(h.ents.lt k o).2;refine⟨?_,h.map.keep (D.block M h.map.lt (fun y=>(h.off M y).2.1 rfl)),h.ents.aside D (fun k o y=>(h.off k y).2.2 o),h.base,h.good,L,fun k o=>?_,fun m=>?_⟩
 ·rw[D.block a h.lt (fun y=>(h.off a y).1 rfl)];exact h.lies
 ·rcases J k o with A | A
  ·exact h.off k A
  ·have S:=h.lt;have V:=h.map.lt;exact⟨by omega,by omega,fun y=>by have:=Q k y;omega⟩
 ·refine(h.sch m).step (D.mono fun i _ K=>.inr K) fun k o=>?_;rcases o with o | o
  ·exact .inl (.inl o)
  ·rcases J k o with A | A
   ·exact .inl (.inr A)
   ·exact .inr A
theorem av.on(h:av w B a M n v g s G)(hb:Below w.1.size w w'):av w' B a M n v g s G:=h.aside (af hb G) (fun _ o=>.inl o) (fun k o=>AS (h.low k o) hb.size)
theorem av.known(h:av w B a M n v g s G){m:Int}{k:Kn}(E:s.sch m=I k):∃p c,g m=I (.agg #[O p k.cols.length c,px N k.place])∧k.cols.length*120<=140737488351232∧k.cols.length<=c∧cU w p k.cols:=by
 have:=h.sch m;rw[E] at this;obtain⟨p,c,o,y,A,D⟩:=this;exact⟨p,c,o,y,A,D.here⟩
theorem av.unknown(h:av w B a M n v g s G){m:Int}(o:s.sch m=U):g m=none:=by
 have:=h.sch m;rw[o] at this;exact this
theorem p7{s':Wk}{v':AA}(h:w.1[a]?=I (wx (bM M s v) 79))(i:Nat)(u:AA)(o:bM M s' v'=(bM M s v).setIfInBounds i u):(w.setCell ⟨a,i,U⟩ u).1[a]?=I (wx (bM M s' v') 79):=by
 simp only[World.setCell,Array.getElem?_modify,h,if_true,Option.map_some];rw[AF (by simp),o]
theorem av.put{s':Wk}(h:av w B a M n v g s G)(i:Nat)(u:AA)(D:bM M s' v=(bM M s v).setIfInBounds i u)(L:s'.sch=s.sch)(E:s'.ents=s.ents)(J:Sc.Good s'):av (w.setCell ⟨a,i,U⟩ u) B a M n v g s' G:=by
 have y:Aside (·=a) w (w.setCell ⟨a,i,U⟩ u):=(Aside.refl (·=a) w).setCell (p:=⟨a,i,U⟩) (.inl rfl) u;refine⟨p7 h.lies i u D,h.map.keep (y.block M h.map.lt (fun A=>h.aM A.symm)),?_,h.base,J,fun k o=>AS (h.low k o) y.size,h.off,fun m=>?_⟩
 ·rw[E];exact h.ents.aside y (fun k o A=>h.va (by rw[o,A]))
 ·rw[L];exact(h.sch m).step (y.mono fun i _ K=>.inl (.inl K)) fun k o=>.inl o
end
def bA(a M:Nat)(v:AA)(i:Nat):Prop:=i=a∨i=M∨v.ownBlock=I i
structure cM(w w':AU)(B a M n:Nat)(v:AA)(s:Wk)(G:Nat->Prop):Prop where
 out:∃v' g',av w' B a M n v' g' s G∧Aside (bA a M v) w w'∧∀i,v'.ownBlock=I i->v.ownBlock=I i∨w.1.size<=i
end
section
open Go.RowKit Go.Maps
section
variable {w:AU} {B a M n:Nat} {v:AA} {g:Int->Option AA} {s:Wk} {G:Nat->Prop}
theorem jb(h:av w B a M n v g s G):Calls AE 20 #[qq (I ⟨a,0,U⟩)] w fun e w'=>e=wv (px N s.frames)∧w'=w:=by
 have c0:w.cell? ⟨a,3,U⟩=I (px N s.frames):=h.cell 3;clear h;go_enter func20,ntmps20;go_wp2;go_ret;exact⟨rfl,rfl⟩
theorem nu(h:av w B a M n v g s G):Calls AE 12 #[qq (I ⟨a,0,U⟩)] w fun e w'=>e=wv (px N s.rows)∧w'=w:=by
 have c0:w.cell? ⟨a,4,U⟩=I (px N s.rows):=h.cell 4;clear h;go_enter func12,ntmps12;go_wp2;go_ret;exact⟨rfl,rfl⟩
theorem ww(h:av w B a M n v g s G):Calls AE 80 #[qq (I ⟨a,0,U⟩)] w fun e w'=>e=wv (px N s.number)∧w'=w:=by
 have c0:w.cell? ⟨a,1,U⟩=I (px N s.number):=h.cell 1;clear h;go_enter func80,ntmps80;go_wp2;go_ret;exact⟨rfl,rfl⟩
theorem tZ(h:av w B a M n v g s G):Calls AE 21 #[qq (I ⟨a,0,U⟩)] w fun e w'=>e=wv (px N s.since)∧w'=w:=by
 have c0:w.cell? ⟨a,2,U⟩=I (px N s.since):=h.cell 2;clear h;go_enter func21,ntmps21;go_wp2;go_ret;exact⟨rfl,rfl⟩
theorem qu(h:av w B a M n v g s G):Calls AE 22 #[qq (I ⟨a,0,U⟩)] w fun e w'=>e=wv (.bool s.closed)∧w'=w:=by
 have c0:w.cell? ⟨a,6,U⟩=I (.bool s.closed):=h.cell 6;clear h;go_enter func22,ntmps22;go_wp2;go_ret;exact⟨rfl,rfl⟩
end
theorem uc(w:AU)(G:Nat->Prop)(A:∀k,G k->k<w.1.size):Calls AE 29 #[] w fun e w'=>e=wv (qq (I ⟨w.1.size+1,0,U⟩))∧av w' w.1.size (w.1.size+1) w.1.size 0 (O U 0 0) (fun _=>U) Sc.new G∧Below w.1.size w w'∧w'.1.size=w.1.size+2:=by
 obtain⟨W,o⟩:∃W,W=(w.alloc (.map #[] 0)).alloc (wx (bM w.1.size Sc.new (O U 0 0)) 79):=⟨_,rfl⟩;have J:W.1.size=w.1.size+2:=by rw[o];simp
 have hb:Below w.1.size w W:=by rw[o];exact gQy.alloc (by simp) _
 have D:W.1[w.1.size+1]?=I (wx (bM w.1.size Sc.new (O U 0 0)) 79):=by
  rw[o];have:=an (w.alloc (.map #[] 0)) (wx (bM w.1.size Sc.new (O U 0 0)) 79);simpa using this
 have E:eO W w.1.size 0 (fun _=>U):=(rI w).keep (by rw[o];exact ay _ _ (by simp))
 have Q:Hid (av W w.1.size (w.1.size+1) w.1.size 0 (O U 0 0) (fun _=>U) Sc.new G) :=
  ⟨D,E,fg W _,⟨Nat.le_succ _,gQx⟩,Sc.good_new,fun k y=>by have:=A k y;omega,fun k y=>⟨by have:=A k y;omega,by have:=A k y;omega,by simp[Value.ownBlock]⟩,fun m=>rfl⟩
 have K:=gQq hb;have L:=gQq J;have S:=gQq o;have V:=@run_makeMap AE;clear J hb D E o;go_enter func29,ntmps29;go_wp2;go_ret;refine⟨?_,?_⟩
 ·simp
 ·have e:W=(w.alloc (.map #[] 0)).alloc (wx #[.map (I w.1.size),px N (-1),px N 0,px N 0,px N 0,O U 0 0,.bool false] 79):=S.out;rw[<-e];exact⟨Q.out,K.out,L.out⟩
theorem rp(n c:Nat)(w:AU):(binOp .eql 48 (O U n c) (O U 0 0)).run AE w=.ok (.bool true) w:=by kernel_rfl
theorem rm(a:Addr)(n c:Nat)(w:AU):(binOp .eql 48 (O (I a) n c) (O U 0 0)).run AE w=.ok (.bool false) w:=by kernel_rfl
theorem rk(B:Nat)(v:AA)(xs l:List Ent)(p:OA)(c:Nat)(w:AU)(J:bL w B v xs)(h:iV w p l)(bj:(xs.length+l.length)*24<=140737488355328)(aj:B<=w.1.size):
  ∃(q:OA) (cap:Nat) (W:AU),cA AE 48 48 48 v (O p l.length c) w (O q (xs++l).length cap) W∧bL W B (O q (xs++l).length cap) (xs++l)∧Aside (fun k=>v.ownBlock=I k) w W∧(xs++l).length<=cap∧∀k,(O q (xs++l).length cap).ownBlock=I k->v.ownBlock=I k∨w.1.size<=k:=by
 obtain⟨i,V,a5,a3,ak⟩:=info_parts xE;by_cases K:l=[]
 ·subst K;obtain⟨q,cap,rfl,S,-,-⟩:=J.ents;rw[Az];refine⟨q,cap,w,⟨run_append_nothing (P:=AE) w 48 48 48 139 i underlying48 V q xs.length cap S (O p 0 c) ?_⟩,J,Aside.refl _ _,S,fun k E=>.inl E⟩;cases p with
  |none=>exact Src.ofNil w underlying48 c
  |some a=>exact Src.ofSlice w underlying48 a 0 c [] (by simp) (fun j u y=>by simp at y) (fun u hu=>by cases hu)
 ·have Z:0<l.length:=List.length_pos_iff.2 K;obtain⟨b,o,rfl,be,-⟩:=h 0 Z;have aw:∀j u,(aU l)[j]?=I u->w.cell? (Addr.add ⟨b,o,U⟩ j)=I u:=fun j u y=>by
   have bi:j<l.length*3:=by
    have:=(List.getElem?_eq_some_iff.1 y).1;rw[eE] at this;exact this
   have hd:j=j / 3*3+j % 3:=(by omega);have ab:j / 3<l.length:=(by omega);obtain⟨a9,bk,D,-,a6,a7,a8⟩:=h (j / 3) ab;simp only[Option.some.injEq,Addr.mk.injEq,and_true] at D;obtain⟨rfl,rfl⟩:=D;rw[hd,eF l (j / 3) ab (j % 3) (by omega)] at y;rw[Lib.add_plain,hd];have A:j % 3=0∨j % 3=1∨j % 3=2:=(by omega);rcases A with A | A | A <;> rw[A] at y ⊢ <;> simp only[kh,List.getElem?_cons_zero,List.getElem?_cons_succ,Option.some.injEq] at y <;> subst y
   ·exact a6
   ·rw[<-Nat.add_assoc];exact a7
   ·rw[<-Nat.add_assoc];exact a8
  have a2:∀u∈aU l,u.oneCell'=true:=fun u hu=>by
   unfold aU at hu;obtain⟨x,a4,hu⟩:=List.mem_flatten.1 hu;obtain⟨e,_,rfl⟩:=List.mem_map.1 a4;unfold kh at hu;simp only[List.mem_cons,List.not_mem_nil,or_false] at hu;rcases hu with rfl | rfl | rfl <;> rfl
  obtain⟨g,cap,W,ah,X,a1,a0,_⟩:=run_append_lies (P:=AE) w 48 48 B 139 i sO 3 24 underlying48 V a5 a3 ak rfl (by decide) v xs.length (aU xs) J ⟨b,o,U⟩ l.length c (aU l) (eE l) aw a2 Z (by unfold maxLen;omega) (by omega) aj w.1.size rfl;rw[<-eK,<-AH] at X;rw[<-AH] at ah;have Q:bL W B (O (I ⟨g,0,U⟩) (xs++l).length cap) (xs++l):=X;refine⟨I ⟨g,0,U⟩,cap,W,⟨ah⟩,Q,ce a1,?_,?_⟩
  ·obtain⟨bl,bb,D,bc,-⟩:=Q.ents;injection D with _ _ e2;omega
  ·intro k E;simp only[Value.ownBlock,Option.some.injEq] at E;subst E;rcases a0 with L | L
   ·exact .inl L
   ·exact .inr (by omega)
theorem sS{l:List Ent}{p:OA}(Z:bL w B v xs)(h:iV w p l)(S:(xs.length+l.length)*24<=140737488355328)(J:B<=w.1.size){D:Array Oper}{rest:List Oper}{o:Oper}{a:Act}{A:Exit->Act->AU->Prop}{E x:Operand}(aj:o.type=48)(Q:o.guard=U)(X:o.op=Op.call { callee:=Callee.builtin Builtin.append,args:=#[E,x],argTypes:=#[48,48] })(ai:a.eval E=v)(ak:a.eval x=O p l.length c)(K:∀y q cap W,Hid (y=xs++l)->bL W B (O q y.length cap) y->Aside (fun k=>v.ownBlock=I k) w W->(∀k,(O q y.length cap).ownBlock=I k->v.ownBlock=I k∨w.1.size<=k)->wpList AE D A rest (a.put o.dst (O q y.length cap)) W):
  wpList AE D A (o::rest) a w:=by
 obtain⟨q,cap,W,ab,V,L,-,hb⟩:=rk B v xs l p c w Z h S J;have ah:cA AE 48 48 o.type v (O p l.length c) w (O q (xs++l).length cap) W:=by rw[aj];exact ab
 exact aQ ah Q X ai ak (K _ q cap W (gQq rfl) V L hb)
theorem pz{W:AU}(y:Aside (fun k=>v.ownBlock=I k) w W)(D:bL w B v xs)(o:B<=w.1.size):Below B w W :=
 y.below o fun k E A=>by have:=(D.lt k A).1;omega
theorem pA(w:AU):bL (w.alloc (wx #[] 139)) w.1.size (O (I ⟨w.1.size,0,U⟩) 0 0) [] :=
 ⟨rfl,.inr ⟨w.1.size,0,#[],rfl,gQx,an w _,gQx,by decide,rfl,rfl⟩⟩
theorem wU(p:OA)(c:Nat)(l:List Ent)(ab:l.length*24<=140737488351232)(w:AU)(h:iV w p l):Calls AE 94 #[O p l.length c] w fun e w'=>∃q cap,e=wv (O q l.length cap)∧bL w' w.1.size (O q l.length cap) l∧Below w.1.size w w':=by
  cases p with
  |none=>
    have Q:l=[]:=by
      cases l with
      |nil=>rfl
      |cons x r=>
        obtain⟨b,o,V,-⟩:=h 0 (by simp);cases V
    subst Q;have X:=rp 0 c w;go_enter func94,ntmps94;go_wp2;go_ret;exact⟨U,0,rfl,fg _ _,gQz⟩
  |some a=>
    have E:=gQq (h.on ((Below.refl _ w).alloc gQx (wx #[] 139)));have HM:=gQq (pA w);have J:Hid (Below w.1.size w (w.alloc (wx #[] 139))):=gQy;have X:=rm a l.length c w;clear h;go_enter func94,ntmps94
    go_wp2_with (first|(at_builtin;refine sS (xs:=[]) HM.out E.out (by simp;omega) (by simp) rfl rfl rfl rfl rfl ?_;intro Z q cap W L D A S;have K:=gQq (pz A HM.out (by simp));have y:=gQq D;clear A S D)|fail)
    go_ret;have e:Z=l:=L.out;rw[e] at y;rw[e];exact⟨q,cap,rfl,y.out,J.out.trans K.out⟩
theorem ug{g:Int->Option AA}{s:Wk}{G:Nat->Prop}(h:av w B a M n v g s G):Calls AE 64 #[qq (I ⟨a,0,U⟩)] w fun e w'=>∃q cap,e=wv (O q s.ents.length cap)∧bL w' w.1.size (O q s.ents.length cap) s.ents∧Below w.1.size w w':=by
 have c0:w.cell? ⟨a,5,U⟩=I v:=h.cell 5;obtain⟨p,c,K,-,A,-⟩:=h.ents.ents;subst K;have J:=gQq (wU p c s.ents h.good.ents w A);clear h A;go_enter func64,ntmps64;go_wp2_with fail;refine J.out.mono ?_;rintro e w' ⟨q,cap,rfl,o,y⟩;have D:=gQq o;have E:=gQq y;clear o y;go_wp2;go_ret;exact⟨q,cap,rfl,D.out,E.out⟩
theorem ye(b c:Nat)(l:List Int)(aw:l.length<=100)(w:AU)(h:∀j (ak:j<l.length),w.cell? ⟨b,j,U⟩=I (px N l[j])):
  Calls AE 44 #[O (I ⟨b,0,U⟩) l.length c] w fun e w'=>e=wv (.bool (l.all (Fr.within Fr.S)))∧w'=w:=by
 have H:=gQq h;obtain⟨R,K⟩:∃R,R=l.all (Fr.within Fr.S):=⟨_,rfl⟩;rw[<-K];have Q:=gQq K;clear h K;go_enter func44,ntmps44;go_wp2;go_loop [7] (fun L=>∃i:Nat,i<=l.length∧L=px N i∧Hid ((l.take i).all (Fr.within Fr.S)=true)) (fun L=>l.length-(intOf L).toNat);case atStart=>exact⟨0,by omega,rfl,rfl⟩
 case round=>
  obtain⟨i,ai,rfl,o⟩:=hrel;by_cases E:i<l.length
  ·have a0:(i:Int)<(l.length:Int):=(by omega);have ab:=H.out i E;obtain⟨x,A⟩:∃x,x=l[i]:=⟨_,rfl⟩;rw[<-A] at ab;by_cases y:0<=x∧x<1099511627776
   ·have V:decide (x<0)=false:=AP (by omega);have Z:decide ((1099511627776:Int)<=x)=false:=AP (by omega);have X:Hid ((l.take (i+1)).all (Fr.within Fr.S)=true):=by
     show _=_;rw[List.take_succ_eq_append_getElem E,List.all_append,o.out,<-A];simp[Fr.within,Fr.S,y]
    clear y A o;go_wp2;go_round;case rel=>exact⟨i+1,by omega,by go_num,X⟩
    case measure=>simp[intOf];omega
   ·have D:Hid (R=false):=by
     show _=_;rw[Q.out,List.all_eq_false];have ah:Fr.within Fr.S x=false:=AP y;exact⟨x,by rw[A];exact Aw E,by rw[ah];decide⟩
    clear A o;by_cases J:x<0
    ·have V:decide (x<0)=true:=AR J;clear y;go_wp2;go_ret;exact⟨by rw[D.out];rfl,rfl⟩
    ·have V:decide (x<0)=false:=AP J;have Z:decide ((1099511627776:Int)<=x)=true:=AR (by omega);clear y J;go_wp2;go_ret;exact⟨by rw[D.out];rfl,rfl⟩
  ·have aj:i=l.length:=(by omega);subst aj;have D:Hid (R=true):=by
    show _=_;have:=o.out;rw[List.take_length] at this;rw[Q.out,this]
   clear o E ai;go_wp2;go_ret;exact⟨by rw[D.out];rfl,rfl⟩
theorem yn{g:Int->Option AA}{s:Wk}{G:Nat->Prop}(h:av w B a M n v g s G)(m:Int)(J:Fr.i64 m):Calls AE 82 #[qq (I ⟨a,0,U⟩),px N m] w fun e w'=>e=wv (.tuple #[px N (Sc.placeAt s m),.bool (s.sch m).isSome])∧Below w.1.size w w':=by
 have c0:w.cell? ⟨a,0,U⟩=I (.map (I M)):=h.cell 0;have y:=h.map.look_ok J;have A:Hid (∀E,Below w.1.size w (w.alloc E)):=fun E=>gQy;cases hs:s.sch m with
 |none=>
  have o:Sc.placeAt s m=0:=by unfold Sc.placeAt;rw[hs]
  rw[h.unknown hs] at y;simp only[Option.getD_none,Option.isSome_none,fF] at y;rw[o];clear h hs o;go_enter func82,ntmps82;go_wp2;go_ret2;exact⟨rfl,A.out _⟩
 |some k=>
  obtain⟨p,c,D,-,-,-⟩:=h.known hs;have o:Sc.placeAt s m=k.place:=by unfold Sc.placeAt;rw[hs]
  rw[D] at y;simp only[Option.getD_some,Option.isSome_some] at y;rw[o];clear h hs o D;go_enter func82,ntmps82;go_wp2;go_ret2;exact⟨rfl,A.out _⟩
end
end Go.Proofs.YtngmnfdaedlodaaGreatDoor
