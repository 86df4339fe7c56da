import Derived.Test.YtceomhodhmcknaaGreatDoorB20
set_option maxRecDepth 100000
set_option maxHeartbeats 1000000
namespace Go.Proofs.YtceomhodhmcknaaGreatDoor
variable{e k n:Nat}{b l r:L8}{p:Int}{f:Fr}
section
open Go.RowKit
namespace Sch
theorem getF_lt140:∀(f:Nat) (first:Bool) (l:L8),(Leb.getF f first l).err<140
 |0,_,_=>by simp[Leb.getF]
 |_+1,_,[]=>by simp[Leb.getF]
 |f+1,first,c::r=>by
  rw[Leb.getF]
  split
  ·have:=getF_lt140 f false r
   dsimp only
   split
   ·exact Nat.zero_lt_succ _
   ·exact this
  ·split
   ·show 5<140
    omega
   ·exact Nat.zero_lt_succ _
theorem bit_lt140(h:bit l=.error e):e<140:=by
 unfold bit at h
 split at h
 ·cases h;decide
 ·split at h
  ·cases h;decide
  ·cases h
theorem num_lt140(h:num l=.error e):e<140:=by
 unfold num at h
 split at h
 ·cases h
 ·cases h;exact getF_lt140 _ _ _
theorem text_lt140{most long:Nat}(hl:long<140)(h:text most long l=.error e):e<140:=by
 unfold text at h
 split at h
 ·next hn=>cases h;exact num_lt140 hn
 ·split at h
  ·cases h;exact hl
  ·split at h
   ·cases h;decide
   ·cases h
theorem float_lt140(h:float l=.error e):e<140:=by
 unfold float at h
 split at h
 ·cases h;decide
 ·split at h
  ·cases h
  ·cases h;decide
theorem scalar_lt140{k:Int}(h:scalar k l=.error e):e<140:=by
 unfold scalar at h
 split at h
 ·split at h
  ·next hn=>cases h;exact bit_lt140 hn
  ·cases h
 ·split at h
  ·split at h
   ·next hn=>cases h;exact num_lt140 hn
   ·cases h
  ·split at h
   ·split at h
    ·next hn=>cases h;exact float_lt140 hn
    ·cases h
   ·split at h
    ·next hn=>cases h;exact text_lt140 (by decide) hn
    ·split at h
     ·cases h;decide
     ·cases h
theorem many_lt140{k:Int}(h:many k l=.error e):e<140:=by
 unfold many at h
 split at h
 ·exact bit_lt140 h
 ·split at h
  ·next hn=>cases h;exact num_lt140 hn
  ·split at h
   ·cases h;decide
   ·cases h
theorem rdN_lt140{f:L8->Except Nat (V×Nat)}(hf:∀l e,f l=.error e->e<140):∀(m:Nat) (l:L8) (e:Nat),rdN f m l=.error e->e<140
 |0,l,e,h=>by rw[rdN] at h;cases h
 |m+1,l,e,h=>by
  rw[rdN] at h
  split at h
  ·next hn=>cases h;exact hf _ _ hn
  ·split at h
   ·next hn=>cases h;exact rdN_lt140 hf m _ _ hn
   ·cases h
theorem rdV_lt140:∀(t:Ty) (d:Nat) (l:L8) (e:Nat),Ty.check d t=0->rdV t l=.error e->e<140:=by
 intro t
 refine Ty.ind (P:=fun t=>∀(d:Nat) (l:L8) (e:Nat),Ty.check d t=0->rdV t l=.error e->e<140) ?_ t
 intro k xs ih d l e ht h
 obtain⟨hd,hk,htt⟩:=ty_open ht
 rw[rdV_mk] at h
 rcases htt with ⟨h67,rfl⟩ | ⟨h67,x,rfl,hx⟩
 ·rw[if_pos (by omega)] at h
  exact scalar_lt140 h
 ·rw[if_neg (by omega)] at h
  split at h
  ·next hn=>cases h;exact many_lt140 hn
  ·split at h
   ·next hn=>cases h;exact rdN_lt140 (f:=rdV x) (fun l e h=>ih x (by simp) (d+1) l e hx h) _ _ _ hn
   ·cases h
theorem rdT_lt140:∀(f:Nat) (l:L8) (e:Nat),rdT f l=.error e->e<140
 |0,l,e,h=>by rw[rdT] at h;cases h;decide
 |f+1,[],e,h=>by rw[rdT] at h;cases h;decide
 |f+1,c::r,e,h=>by
  rw[rdT] at h
  split at h
  ·cases h;decide
  ·split at h
   ·cases h
   ·split at h
    ·next hn=>cases h;exact rdT_lt140 f r _ hn
    ·cases h
theorem rdC_lt140{l:List Col}(h:rdC l b=.error e):e<140:=by
 rw[rdC] at h
 split at h
 ·next hn=>cases h;exact num_lt140 hn
 ·split at h
  ·cases h;decide
  ·split at h
   ·next hn=>cases h;exact text_lt140 (by decide) hn
   ·split at h
    ·cases h;decide
    ·split at h
     ·cases h;decide
     ·split at h
      ·next hn=>cases h;exact rdT_lt140 _ _ _ hn
      ·next t j2 ht=>
       split at h
       ·next hn=>cases h;exact bit_lt140 hn
       ·split at h
        ·cases h
        ·split at h
         ·next hn=>cases h;exact rdV_lt140 t 1 _ _ (rdT_ok 4 _ t j2 (Nat.le_refl 4) ht).2.2.1 hn
         ·cases h
theorem rdCs_lt140:∀(m:Nat) (l:List Col) (b:L8) (e:Nat),rdCs m l b=.error e->e<140
 |0,l,b,e,h=>by rw[rdCs] at h;cases h
 |m+1,l,b,e,h=>by
  rw[rdCs] at h
  split at h
  ·next hn=>cases h;exact rdC_lt140 hn
  ·split at h
   ·next hn=>cases h;exact rdCs_lt140 m _ _ _ hn
   ·cases h
theorem read_lt140(h:read b=.error e):e<140:=by
 rw[read] at h
 split at h
 ·cases h;decide
 ·split at h
  ·next hn=>cases h;exact num_lt140 hn
  ·split at h
   ·cases h;decide
   ·split at h
    ·cases h;decide
    ·split at h
     ·next hn=>cases h;exact rdCs_lt140 _ _ _ _ hn
     ·split at h
      ·cases h
      ·cases h;decide
end Sch
theorem qI(s:L8):(Cob.un s).1<140:=by
 unfold Cob.un
 split
 ·decide
 ·split
  ·decide
  ·split
   ·decide
   ·split <;> simp
theorem mT(h:Fr.open_ l=.error e):e<140:=by
 unfold Fr.open_ at h
 split at h
 ·injection h with h;omega
 ·split at h
  ·injection h with h;rw[<-h];exact qI l
  ·split at h
   ·injection h with h;omega
   ·split at h
    ·cases h
    ·injection h with h;omega
theorem qm(h:Fr.dec l=.error e):e<140:=by
 unfold Fr.dec at h
 split at h
 ·next e' he=>injection h with h;rw[<-h];exact mT he
 ·next b hb=>
  unfold Fr.rdF at h
  have hnb:∀{lim:Nat} {l:L8} {e:Nat},Fr.nb lim l=.error e->e=5:=by
   intro lim l e h
   unfold Fr.nb at h
   split at h
   ·injection h with h;omega
   ·split at h
    ·cases h
    ·injection h with h;omega
  have hnbs:∀(ls:List Nat) {l:L8} {e:Nat},Fr.nbs ls l=.error e->e=5:=by
   intro ls
   induction ls with
   |nil=>intro l e h;rw[Fr.nbs] at h;cases h
   |cons a ls ih=>
    intro l e h
    rw[Fr.nbs] at h
    split at h
    ·next e' he=>injection h with h;rw[<-h];exact hnb he
    ·split at h
     ·next e' he=>injection h with h;rw[<-h];exact ih he
     ·cases h
  have hrdE:∀(m:Nat) {l:L8} {e:Nat},Fr.rdE m l=.error e->e=5:=by
   intro m
   induction m with
   |zero=>intro l e h;rw[Fr.rdE] at h;cases h
   |succ m ih=>
    intro l e h
    rw[Fr.rdE] at h
    split at h
    ·next e' he=>injection h with h;rw[<-h];exact hnbs _ he
    ·split at h
     ·next e' he=>injection h with h;rw[<-h];exact ih he
     ·cases h
  split at h
  ·unfold Fr.rdS at h
   split at h
   ·next e' he=>injection h with h;rw[<-h,hnb he];decide
   ·split at h
    ·next e' he=>injection h with h;rw[<-h];exact Sch.read_lt140 he
    ·cases h
  ·split at h
   ·unfold Fr.rdD at h
    split at h
    ·next e' he=>injection h with h;rw[<-h,hnbs _ he];decide
    ·split at h
     ·injection h with h;omega
     ·cases h
   ·split at h
    ·unfold Fr.rdI at h
     split at h
     ·next e' he=>injection h with h;rw[<-h,hnbs _ he];decide
     ·split at h
      ·next e' he=>injection h with h;rw[<-h,hrdE _ he];decide
      ·split at h
       ·cases h
       ·injection h with h;omega
    ·injection h with h;omega
end
section
structure Kn where
 cols:List Col
 place:Int
structure Wk where
 sch:Int->Option Kn
 number:Int
 since:Int
 frames:Int
 rows:Int
 ents:List Ent
 closed:Bool
namespace Sc
def new:Wk:=⟨fun _=>none,-1,0,0,0,[],false⟩
def schAt(s:Wk)(n:Int):List Col:=match s.sch n with
 |some k=>k.cols
 |none=>[]
def placeAt(s:Wk)(n:Int):Int:=match s.sch n with
 |some k=>k.place
 |none=>0
def follows(s:Wk)(f:Fr)(p:Int):Bool :=
 if f.kind=1 then (if f.number=s.number then Sch.same f.cols (schAt s s.number) else decide (f.number=s.number+1))
 else if f.kind=2 then decide (f.number=s.number∧f.seq=s.frames∧f.first=s.rows)
 else Idx.same f.index ⟨p,s.frames,s.rows,s.ents⟩
def learn(s:Wk)(n:Int)(c:List Col)(p:Int):Wk:={ s with sch:=fun m=>if m=n then some ⟨c.map Col.fix,p⟩ else s.sch m,number:=n,since:=0 }
def enter(s:Wk)(f:Fr)(p:Int):Wk:=if f.seq % 4=0∧s.ents.length<64 then { s with ents:=s.ents++[⟨p,f.first,placeAt s s.number⟩] } else s
def count(s:Wk)(f:Fr):Wk:={ s with frames:=s.frames+1,rows:=s.rows+f.rows,since:=s.since+1 }
def take(s:Wk)(f:Fr)(p:Int):Wk :=
 if f.kind=1 then { learn s f.number f.cols p with closed:=false }
 else if f.kind=2 then { count (enter s f p) f with closed:=false }
 else { s with closed:=true }
def may(s:Wk)(f:Fr)(p:Int):Bool:=Fr.within Fr.S p&&decide (Fr.err f=0)&&follows s f p
def next(s:Wk)(f:Fr)(p:Int):Wk:=if may s f p=true then take s f p else s
structure Good(s:Wk):Prop where
 number:-1<=s.number∧s.number<2147483648
 since:0<=s.since∧s.since<=s.frames
 frames:s.frames<=70368744177664
 rows:0<=s.rows∧s.rows<=1099511627840
 ents:s.ents.length*24<=140737488351232
 entsOk:∀e∈s.ents,Fr.i64 e.at_∧Fr.i64 e.row∧Fr.i64 e.sch
 known:∀n k,s.sch n=some k->(0<=n∧n<=s.number)∧Sch.err k.cols=0∧(∀c∈k.cols,c.fix=c∧c.wf)∧(0<=k.place∧k.place<1099511627776)
 has:0<=s.number->∃k,s.sch s.number=some k
theorem good_new:Good new:=⟨by decide,by decide,by decide,by decide,by decide,fun e he=>(by cases he),fun n k h=>(by cases h),fun h=>(by simp[new] at h)⟩
theorem place_ok{s:Wk}(h:Good s)(n:Int):0<=placeAt s n∧placeAt s n<1099511627776:=by
 unfold placeAt
 split
 ·next k hk=>exact(h.known n k hk).2.2.2
 ·omega
theorem i64_of{n:Int}(h:0<=n∧n<1099511627776):Fr.i64 n:=⟨by omega,by omega⟩
theorem fix_wf{s:List Col}(he:Sch.err s=0)(hw:∀c∈s,c.wf):Sch.err (s.map Col.fix)=0∧∀c∈s.map Col.fix,c.fix=c∧c.wf:=by
 have:=Sch.read_ok (Sch.read_put he hw)
 exact⟨this.1,this.2.2⟩
theorem good_learn{s:Wk}(h:Good s)(n:Int)(c:List Col)(p:Int)(hn:0<=n∧n<2147483648)(hm:s.number<=n)(he:Sch.err c=0)(hw:∀x∈c,x.wf)(hp:0<=p∧p<1099511627776):Good (learn s n c p):=by
 refine⟨⟨by show -1<=n;omega,hn.2⟩,⟨Int.le_refl _,?_⟩,h.frames,h.rows,h.ents,h.entsOk,fun m k hk=>?_,fun _=>⟨⟨c.map Col.fix,p⟩,by show(if n=n then _ else _)=_;rw[if_pos rfl]⟩⟩
 ·have:=h.since
  show 0<=s.frames
  omega
 ·have hk':(if m=n then some ⟨c.map Col.fix,p⟩ else s.sch m)=some k:=hk
  by_cases hmn:m=n
  ·rw[if_pos hmn] at hk'
   injection hk' with hk'
   rw[<-hk',hmn]
   obtain⟨h1,h2⟩:=fix_wf he hw
   exact⟨⟨hn.1,Int.le_refl _⟩,h1,h2,hp⟩
  ·rw[if_neg hmn] at hk'
   obtain⟨h1,h2⟩:=h.known m k hk'
   exact⟨⟨h1.1,Int.le_trans h1.2 hm⟩,h2⟩
theorem good_enter{s:Wk}(h:Good s)(f:Fr)(p:Int)(hp:0<=p∧p<1099511627776)(hf:0<=f.first∧f.first<1099511627776):Good (enter s f p):=by
 unfold enter
 split
 ·next hc=>
  refine⟨h.number,h.since,h.frames,h.rows,?_,?_,h.known,h.has⟩
  ·simp only[List.length_append,List.length_singleton]
   omega
  ·intro e he
   rcases List.mem_append.1 he with he | he
   ·exact h.entsOk e he
   ·rw[List.mem_singleton] at he
    subst he
    exact⟨i64_of hp,i64_of hf,i64_of (place_ok h s.number)⟩
 ·exact h
theorem enter_same(s:Wk)(f:Fr)(p:Int):(enter s f p).sch=s.sch∧(enter s f p).number=s.number∧(enter s f p).since=s.since∧(enter s f p).frames=s.frames∧(enter s f p).rows=s.rows∧(enter s f p).closed=s.closed:=by
 unfold enter
 split <;> exact⟨rfl,rfl,rfl,rfl,rfl,rfl⟩
theorem good_count{s:Wk}(h:Good s)(f:Fr)(h1:s.frames<1099511627776)(h2:s.rows<1099511627776)(hr:1<=f.rows∧f.rows<=64):Good (count s f):=by
 have hs:=h.since
 have hr':=h.rows
 exact⟨h.number,⟨by show 0<=s.since+1;omega,by show s.since+1<=s.frames+1;omega⟩,by show s.frames+1<=_;omega,⟨by show 0<=s.rows+f.rows;omega,by show s.rows+f.rows<=_;omega⟩,h.ents,h.entsOk,h.known,h.has⟩
theorem good_closed{s:Wk}(h:Good s)(c:Bool):Good { s with closed:=c }:=⟨h.number,h.since,h.frames,h.rows,h.ents,h.entsOk,h.known,h.has⟩
theorem err_parts(h:Fr.err f=0):(f.kind=1->(0<=f.number∧f.number<2147483648)∧Sch.err f.cols=0)∧(f.kind=2->(0<=f.number∧f.number<2147483648)∧(0<=f.seq∧f.seq<1099511627776)∧(0<=f.first∧f.first<1099511627776)∧(1<=f.rows∧f.rows<=64))∧(f.kind=1∨f.kind=2∨f.kind=3):=by
 have h0:=(Fr.err_open h).1
 refine⟨fun hk=>?_,fun hk=>?_,Fr.head_fields h0⟩
 ·unfold Fr.err0 at h0
  rw[if_pos hk] at h0
  split at h0
  ·omega
  ·next hn=>
   have:=Fr.within_iff.1 (by simpa using hn)
   exact⟨this,h0⟩
 ·unfold Fr.err0 at h0
  rw[if_neg (by omega),if_pos hk] at h0
  split at h0
  ·omega
  ·next hn=>
   simp only[Bool.not_eq_false,Bool.and_eq_true,decide_eq_true_iff] at hn
   exact⟨Fr.within_iff.1 hn.1.1.1,Fr.within_iff.1 hn.1.1.2,Fr.within_iff.1 hn.1.2,hn.2⟩
theorem may_parts{s:Wk}(h:may s f p=true):(0<=p∧p<1099511627776)∧Fr.err f=0∧follows s f p=true:=by
 unfold may at h
 simp only[Bool.and_eq_true,decide_eq_true_iff] at h
 exact⟨Fr.within_iff.1 h.1.1,h.1.2,h.2⟩
theorem follows_data{s:Wk}(hk:f.kind=2)(h:follows s f p=true):f.number=s.number∧f.seq=s.frames∧f.first=s.rows:=by
 unfold follows at h
 rw[if_neg (by omega),if_pos hk] at h
 exact of_decide_eq_true h
theorem follows_sch{s:Wk}(hk:f.kind=1)(h:follows s f p=true):s.number<=f.number:=by
 unfold follows at h
 rw[if_pos hk] at h
 split at h
 ·omega
 ·have:=of_decide_eq_true h
  omega
theorem good_take{s:Wk}(h:Good s){f:Fr}{p:Int}(hw:f.wf)(hm:may s f p=true):Good (take s f p):=by
 obtain⟨hp,he,hf⟩:=may_parts hm
 obtain⟨e1,e2,-⟩:=err_parts he
 unfold take
 split
 ·next hk=>
  obtain⟨a1,a2⟩:=e1 hk
  exact good_closed (good_learn h _ _ _ a1 (follows_sch hk hf) a2 hw.2.2.1 hp) false
 ·split
  ·next hk=>
   obtain⟨a1,a2,a3,a4⟩:=e2 hk
   obtain⟨b1,b2,b3⟩:=follows_data hk hf
   have hE:=good_enter h f p hp a3
   obtain⟨c1,c2,c3,c4,c5,c6⟩:=enter_same s f p
   exact good_closed (good_count hE f (by rw[c4,<-b2];omega) (by rw[c5,<-b3];omega) a4) false
  ·exact good_closed h true
theorem good_next{s:Wk}(h:Good s){f:Fr}(p:Int)(hw:f.wf):Good (next s f p):=by
 unfold next
 split
 ·next hm=>exact good_take h hw hm
 ·exact h
def runT(m:Nat)(t:L8):Except Nat L8 :=
 if t.findIdx (·==0)<t.length then (if t.findIdx (·==0)=0 then .error 4 else .ok (t.take (t.findIdx (·==0))))
 else if m=2202 then .error 2 else .error 142
def runOf(r:L8):Except Nat L8:=if r.headD 0≠0 then .error 141 else runT r.length r.tail
theorem runOf_cons(c:UInt8)(t:L8):runOf (c::t)=if c≠0 then .error 141 else runT (t.length+1) t:=rfl
def reads(b:L8)(p:Int):Nat:=if p<0∨(b.length:Int)<=p then 0 else ((b.drop p.toNat).take 2202).length
def at_(b:L8)(p:Int):Except Nat (Fr×Nat) :=
 if p<0∨(b.length:Int)<p then .error 7 else if p=(b.length:Int) then .error 140
 else match runOf ((b.drop p.toNat).take 2202) with
 |.error e=>.error e
 |.ok r=>match Fr.dec r with
  |.error e=>.error e
  |.ok f=>.ok (f,p.toNat+r.length+2)
theorem findIdx_split:∀(t:L8),t.findIdx (·==0)<t.length->∃r,t=t.take (t.findIdx (·==0))++0::r
 | [],h=>by simp at h
 |c::t,h=>by
  rw[List.findIdx_cons] at h ⊢
  by_cases hc:(c==0)=true
  ·rw[hc]
   have:c=0:=by simpa using hc
   exact⟨t,by simp[this]⟩
  ·have hc':(c==0)=false:=by simpa using hc
   rw[hc'] at h ⊢
   simp only[cond_false,List.length_cons] at h
   obtain⟨r,hr⟩:=findIdx_split t (by omega)
   refine⟨r,?_⟩
   simp only[cond_false,List.take_succ_cons,List.cons_append]
   rw[<-hr]
theorem findIdx_pre:∀(a r:L8),(∀c∈a,c≠0)->(a++0::r).findIdx (·==0)=a.length
 | [],r,_=>by simp[List.findIdx_cons]
 |c::a,r,h=>by
  rw[List.cons_append,List.findIdx_cons]
  have hc:(c==0)=false:=by simpa using h c (by simp)
  rw[hc,findIdx_pre a r (fun x hx=>h x (by simp[hx]))]
  simp
theorem findIdx_before:∀(t:L8),∀c∈t.take (t.findIdx (·==0)),c≠0
 | [],c,hc=>by simp at hc
 |d::t,c,hc=>by
  rw[List.findIdx_cons] at hc
  by_cases hd:(d==0)=true
  ·rw[hd] at hc
   simp at hc
  ·have hd':(d==0)=false:=by simpa using hd
   rw[hd'] at hc
   simp only[cond_false,List.take_succ_cons,List.mem_cons] at hc
   rcases hc with rfl | hc
   ·simpa using hd
   ·exact findIdx_before t c hc
theorem runOf_ok(hl:l≠[])(h:runOf l=.ok r):∃z,l=0::(r++0::z)∧r≠[]∧∀c∈r,c≠0:=by
 obtain⟨c,t,rfl⟩:∃c t,l=c::t:=by
  cases l with
  |nil=>exact absurd rfl hl
  |cons c t=>exact⟨c,t,rfl⟩
 rw[runOf_cons] at h
 split at h
 ·cases h
 ·next hc=>
  have hc0:c=0:=by simpa using hc
  subst hc0
  unfold runT at h
  split at h
  ·next hlt=>
   split at h
   ·cases h
   ·next h0=>
    injection h with h
    obtain⟨z,hz⟩:=findIdx_split t hlt
    rw[h] at hz
    refine⟨z,by rw[<-hz],fun hr=>?_,fun x hx=>findIdx_before t x (by rw[h];exact hx)⟩
    rw[hr] at h
    have:=congrArg List.length h
    simp only[List.length_take,List.length_nil] at this
    omega
  ·split at h <;> cases h
theorem runOf_mk{z:L8}(hr:r≠[])(h:∀c∈r,c≠0):runOf (0::(r++0::z))=.ok r:=by
 have e:=findIdx_pre r z h
 have hl:0<r.length:=List.length_pos_iff.2 hr
 rw[runOf_cons,if_neg (by simp)]
 unfold runT
 simp only[e]
 rw[if_pos (by simp),if_neg (by omega)]
 simp
theorem at_ok(h:at_ b p=.ok (f,n)):0<=p∧p<(b.length:Int)∧Fr.err f=0∧f.wf∧n=p.toNat+(Fr.run f).length+2∧n<=b.length∧(b.drop p.toNat).take ((Fr.run f).length+2)=0::(Fr.run f++[0]):=by
 unfold at_ at h
 split at h
 ·cases h
 ·next h1=>
  split at h
  ·cases h
  ·next h2=>
   split at h
   ·cases h
   ·next r hr=>
    split at h
    ·cases h
    ·next g hg=>
     injection h with h
     injection h with h3 h4
     subst h3
     obtain⟨e1,e2,e3,e4,e5⟩:=Fr.dec_ok hg
     have hlen:p.toNat<b.length:=by omega
     have hne:(b.drop p.toNat).take 2202≠[]:=by
      intro hc
      have:=congrArg List.length hc
      simp only[List.length_take,List.length_drop,List.length_nil] at this
      omega
     obtain⟨z,hz,-,-⟩:=runOf_ok hne hr
     have hl:=congrArg List.length hz
     simp only[List.length_take,List.length_drop,List.length_cons,List.length_append] at hl
     refine⟨by omega,by omega,e1,e4,by rw[e2];omega,by omega,?_⟩
     have ht:=congrArg (List.take (r.length+2)) hz
     rw[List.take_take,Nat.min_eq_left (by omega)] at ht
     rw[e2,ht,List.take_succ_cons,List.take_append,List.take_of_length_le (by omega)]
     simp
theorem at_take{m:Nat}(h:at_ b p=.ok (f,n))(hm:n<=m)(hb:m<=b.length):at_ (b.take m) p=.ok (f,n):=by
 obtain⟨h1,h2,h3,h4,h5,h6,h7⟩:=at_ok h
 have h22:=(Fr.err_open h3).2
 have h6':=Fr.run_ge (f:=f)
 have hx:((b.take m).drop p.toNat).take 2202=0::(Fr.run f++0::((((b.take m).drop p.toNat).take 2202).drop ((Fr.run f).length+2))):=by
  have e:=List.take_append_drop ((Fr.run f).length+2) (((b.take m).drop p.toNat).take 2202)
  have e2:(((b.take m).drop p.toNat).take 2202).take ((Fr.run f).length+2)=0::(Fr.run f++[0]):=by
   rw[List.take_take,Nat.min_eq_left (by omega),List.drop_take,List.take_take,Nat.min_eq_left (by omega),h7]
  rw[e2] at e
  simpa using e.symm
 have hd:Fr.dec (Fr.run f)=.ok f:=by
  unfold at_ at h
  rw[if_neg (by omega),if_neg (by omega)] at h
  split at h
  ·cases h
  ·next r hr=>
   split at h
   ·cases h
   ·next g hg=>
    injection h with h
    injection h with h8 h9
    subst h8
    rw[(Fr.dec_ok hg).2.1]
    exact hg
 unfold at_
 have hl:(b.take m).length=m:=by rw[List.length_take];omega
 rw[hl,if_neg (by omega),if_neg (by omega),hx,runOf_mk (fun hc=>by rw[hc] at h6';simp at h6') (Fr.run_nz f)]
 simp only[hd]
 rw[h5]
structure Pos where
 at_:Nat
 wk:Wk
 read:Nat
def begin_:Pos:=⟨0,new,0⟩
def step(b:L8)(x:Pos):Except Nat Pos:=match Sc.at_ b x.at_ with
 |.error e=>.error e
 |.ok (f,n)=>if may x.wk f x.at_=true then .ok ⟨n,take x.wk f x.at_,x.read+reads b x.at_⟩ else .error 143
def goes(b:L8):Nat->Option Pos
 |0=>some begin_
 |k+1=>match goes b k with
  |none=>none
  |some x=>match step b x with
   |.error _=>none
   |.ok y=>some y
theorem step_ok{x y:Pos}(h:step b x=.ok y):∃f,Sc.at_ b x.at_=.ok (f,y.at_)∧may x.wk f x.at_=true∧y.wk=take x.wk f x.at_∧y.read=x.read+reads b x.at_:=by
 unfold step at h
 split at h
 ·cases h
 ·next f n hf=>
  split at h
  ·next hm=>
   injection h with h
   subst h
   exact⟨f,hf,hm,rfl,rfl⟩
  ·cases h
theorem goes_succ{x y:Pos}(h:goes b k=some x)(hs:step b x=.ok y):goes b (k+1)=some y:=by
 rw[goes,h]
 simp only[hs]
theorem goes_pred{y:Pos}(h:goes b (k+1)=some y):∃x,goes b k=some x∧step b x=.ok y:=by
 rw[goes] at h
 split at h
 ·cases h
 ·next x hx=>
  split at h
  ·cases h
  ·next z hz=>
   injection h with h
   subst h
   exact⟨x,hx,hz⟩
theorem reads_le(b:L8)(p:Int):reads b p<=2202:=by
 unfold reads
 split
 ·omega
 ·simp;omega
theorem goes_good:∀{k:Nat} {x:Pos},goes b k=some x->Good x.wk∧x.at_<=b.length∧8*k<=x.at_∧x.read<=k*2202
 |0,x,h=>by
  injection h with h
  subst h
  exact⟨good_new,Nat.zero_le _,xX,xX⟩
 |k+1,y,h=>by
  obtain⟨x,hx,hs⟩:=goes_pred h
  obtain⟨g1,g2,g3,g4⟩:=goes_good hx
  obtain⟨f,h1,h2,h3,h4⟩:=step_ok hs
  obtain⟨a1,a2,a3,a4,a5,a6,a7⟩:=at_ok h1
  have h6:=Fr.run_ge (f:=f)
  have hr:=reads_le b x.at_
  rw[h3,h4]
  refine⟨good_take g1 a4 h2,a6,?_,?_⟩
  ·rw[a5]
   omega
  ·omega
theorem goes_once:∀{j k:Nat} {x y:Pos} {e:Nat},goes b j=some x->step b x=.error e->goes b k=some y->k<=j:=by
 intro j k x y e hj he hk
 rcases Nat.lt_or_ge j k with h | h
 ·exfalso
  have h0:goes b (j+1)=none:=by
   rw[goes,hj]
   simp only[he]
  have:∀d,goes b (j+1+d)=none:=by
   intro d
   induction d with
   |zero=>exact h0
   |succ d ih=>
    show goes b (j+1+d+1)=none
    rw[goes,ih]
  have h2:=this (k-(j+1))
  rw[show j+1+(k-(j+1))=k by omega,hk] at h2
  cases h2
 ·exact h
theorem goes_uniq{j:Nat}{x y:Pos}{g:Nat}(hj:goes b j=some x)(he:step b x=.error e)(hk:goes b k=some y)(hg:step b y=.error g):j=k∧x=y∧e=g:=by
 have h1:=goes_once hj he hk
 have h2:=goes_once hk hg hj
 have h3:j=k:=by omega
 subst h3
 rw[hj] at hk
 injection hk with hk
 subst hk
 rw[he] at hg
 injection hg with hg
 exact⟨rfl,rfl,hg⟩
theorem step_end{x:Pos}(h:x.at_=b.length):step b x=.error 140:=by
 unfold step at_
 rw[if_neg (by omega),if_pos (by omega)]
theorem step_ne{x:Pos}(hx:x.at_<=b.length)(h:step b x=.error e):e=140->x.at_=b.length:=by
 intro he
 subst he
 rcases Nat.lt_or_ge x.at_ b.length with hlt | hge
 ·exfalso
  unfold step at_ at h
  rw[if_neg (by omega),if_neg (by omega)] at h
  split at h
  ·next e' he=>
   injection h with h
   subst h
   split at he
   ·next e2 he2=>
    injection he with he
    subst he
    unfold runOf at he2
    split at he2
    ·injection he2 with he2;omega
    ·unfold runT at he2
     split at he2
     ·split at he2
      ·injection he2 with he2;omega
      ·cases he2
     ·split at he2 <;> injection he2 with he2 <;> omega
   ·next r hr=>
    split at he
    ·next e3 he3=>
     injection he with he
     subst he
     have:=qm he3
     omega
    ·cases he
  ·split at h
   ·cases h
   ·injection h with h
    omega
 ·omega
end Sc
end
section
open Go.RowKit Go.Maps
theorem nf:Keyed Tryz.prog 2:=int_keyed Tryz.underlying2
def fg:Value:=.agg #[.slice none 0 0,.int .i64 0]
theorem qC(w:World):(zeroValue 143).run Tryz.prog w=.ok fg w:=by kernel_rfl
def rT(v:Value):Option (DataW Value×List MemPlace):=some (.held v,[])
def pO(n:Int):Lit:=.int .i64 n
theorem lQ{a b:Int}(h:pO a=pO b):a=b:=by
 unfold pO at h
 injection h
theorem ke{n:Int}(h:Fr.i64 n):keyOf Tryz.prog 2 (.int .i64 n)=some (pO n):=keyOf_int_mk Tryz.underlying2 (by
 show(decide _&&decide _)=true
 rw[Bool.and_eq_true]
 exact⟨decide_eq_true h.1,decide_eq_true h.2⟩)
structure dY(w:World)(M n:Nat)(g:Int->Option Value):Prop where
 out:∃D:DataW Value,w.ownsMap Tryz.prog 2 rT M n D∧∀m,Maps.has D (pO m)=(g m).isSome∧D.atKey (pO m) (.held fg)=.held ((g m).getD fg)
section
variable {w w':World} {M n:Nat} {g:Int->Option Value}
theorem pN(w:World):dY (w.alloc (.map #[] 0)) w.1.size 0 (fun _=>none):=⟨.map [],World.ownsMap_made _ _ _ _,fun _=>⟨rfl,rfl⟩⟩
theorem dY.lt(h:dY w M n g):M<w.1.size:=by
 obtain⟨D,h1,_⟩:=h.out
 exact h1.lt
theorem dY.keep(h:dY w M n g)(hb:w'.1[M]?=w.1[M]?):dY w' M n g:=by
 obtain⟨D,⟨es,clock,h1,h2⟩,h3⟩:=h.out
 exact⟨D,⟨es,clock,hb.trans h1,h2⟩,h3⟩
theorem dY.obj(h:dY w M n g):∃es clock,w.1[M]?=some (.map es clock):=by
 obtain⟨D,⟨es,clock,h1,h2⟩,h3⟩:=h.out
 exact⟨es,clock,h1⟩
theorem dY.look(h:dY w M n g){m:Int}(hm:Fr.i64 m):(Instr.lookup 82 (.map (some M)) (.int .i64 m) false).run Tryz.prog w=.ok ((g m).getD fg) w:=by
 obtain⟨D,h1,h2⟩:=h.out
 obtain⟨v,ps,hr,hv⟩:=h1.lookup nf Tryz.underlying82 (qC w) (zd:=.held fg) (zp:=[]) rfl (ke hm)
 rw[(h2 m).2] at hv
 unfold rT at hv
 injection hv with hv
 injection hv with hv _
 injection hv with hv
 rw[hr,hv]
theorem dY.look_ok(h:dY w M n g){m:Int}(hm:Fr.i64 m):(Instr.lookup 82 (.map (some M)) (.int .i64 m) true).run Tryz.prog w=.ok (.tuple #[(g m).getD fg,.bool (g m).isSome]) w:=by
 obtain⟨D,h1,h2⟩:=h.out
 obtain⟨v,ps,hr,hv⟩:=h1.look_ok nf Tryz.underlying82 (qC w) (zd:=.held fg) (zp:=[]) rfl (ke hm)
 rw[(h2 m).2] at hv
 unfold rT at hv
 injection hv with hv
 injection hv with hv _
 injection hv with hv
 rw[hr,hv,(h2 m).1]
theorem dY.put(h:dY w M n g){m:Int}(hm:Fr.i64 m)(hn:n<1000000000)(v:Value):∃w',(Instr.mapUpdate 82 (.map (some M)) (.int .i64 m) v).run Tryz.prog w=.ok () w'∧dY w' M (n+1) (fun k=>if k=m then some v else g k)∧Aside (fun k=>k=M) w w'∧w'.1.size=w.1.size:=by
 obtain⟨D,h1,h2⟩:=h.out
 obtain⟨w',hr,ho,hg⟩:=h1.store nf Tryz.underlying82 (by unfold maxLen;omega) (ke hm) (val:=v) (d:=.held v) (ps:=[]) rfl
 refine⟨w',hr,⟨_,ho,fun k=>?_⟩,?_,?_⟩
 ·by_cases hk:k=m
  ·subst hk
   rw[if_pos rfl,has_put_same h1.isMap (by trivial),atKey_put_same h1.isMap (by trivial)]
   exact⟨rfl,rfl⟩
  ·rw[if_neg hk,has_put_other (fun e=>hk (lQ e)),atKey_put_other (fun e=>hk (lQ e))]
   exact h2 k
 ·have hg2:=hg.grown
  exact⟨hg2.os,hg2.tape,hg2.output,hg2.size,fun k hk hf=>hg2.block k hk (fun hc=>hf (by injection hc))⟩
 ·obtain⟨es,clock,es',clock',_,e⟩:=hg
  rw[e]
  simp[Go.ChangeMaps.setBlock]
end
def bS(M:Nat)(s:Wk)(v:Value):AV:=#[.map (some M),.int .i64 s.number,.int .i64 s.since,.int .i64 s.frames,.int .i64 s.rows,v,.bool s.closed]
def Calm(F:Nat->Prop)(w:World)(p:OA)(s:List Col):Prop:=∀w',Aside F w w'->bw w' p s
section
variable {F F':Nat->Prop} {w w':World} {p:OA} {s:List Col}
theorem Calm.here(h:Calm F w p s):bw w p s:=h w (Aside.refl _ _)
theorem Calm.step(h:Calm F w p s)(ha:Aside F w w')(hF:∀k,F' k->F k∨w.1.size<=k):Calm F' w' p s:=fun w'' h2=>h w'' (ha.trans h2 fun i hi hf=>(hF i hf).elim id (fun hc=>absurd hi (Nat.not_lt_of_le hc)))
theorem sy{B:Nat}{c:Nat}(h:dn w B #[.slice p n c] s)(hF:∀k,F k->k<B∨w.1.size<=k):Calm F w p s:=fun w' ha=>by
 obtain⟨v,us,Fs,h1,hb,hl⟩:=h.out
 simp only[Array.mk.injEq,List.cons.injEq,and_true] at h1
 subst h1
 have h2:=hb.aside ha (fun g hg hf=>by have:=hb.lt g hg;have:=hF g hf;omega) (fun j hj k hk hf=>by have:=hb.range j hj k hk;have:=hF k hf;omega)
 obtain⟨p',c',e1,_,e2⟩:=h2.cols hl
 injection e1 with e3 _ _
 rw[e3]
 exact e2
end
def sN(X:Nat->Prop)(w:World)(o:Option Kn)(r:Option Value):Prop:=match o with
 |none=>r=none
 |some k=>∃p c,r=some (.agg #[.slice p k.cols.length c,.int .i64 k.place])∧k.cols.length*120<=140737488351232∧k.cols.length<=c∧Calm X w p k.cols
theorem sN.step{F F':Nat->Prop}{w w':World}{o:Option Kn}{r:Option Value}(h:sN F w o r)(ha:Aside F w w')(hF:∀k,F' k->F k∨w.1.size<=k):sN F' w' o r:=by
 cases o with
 |none=>exact h
 |some k=>
  obtain⟨p,c,h1,h2,h3,h4⟩:=h
  exact⟨p,c,h1,h2,h3,h4.step ha hF⟩
structure ax(w:World)(B a M n:Nat)(v:Value)(g:Int->Option Value)(s:Wk)(G:Nat->Prop):Prop where
 lies:w.1[a]?=some (.cells (bS M s v) 84)
 map:dY w M n g
 ents:da w B v s.ents
 base:B<=a∧B<=M
 good:Sc.Good s
 low:∀k,G k->k<w.1.size
 off:∀k,G k->k≠a∧k≠M∧v.ownBlock≠some k
 sch:∀m,sN (fun i=>(i=a∨i=M∨v.ownBlock=some i)∨G i) w (s.sch m) (g m)
section
variable {w w':World} {B a M n:Nat} {v:Value} {g:Int->Option Value} {s:Wk} {G:Nat->Prop}
theorem ax.lt(h:ax w B a M n v g s G):a<w.1.size:=(Array.getElem?_eq_some_iff.1 h.lies).1
theorem ax.cell(h:ax w B a M n v g s G)(i:Nat):w.cell? ⟨a,i,none⟩=(bS M s v)[i]?:=by
 unfold World.cell?
 rw[h.lies]
 rfl
theorem ax.thawed(h:ax w B a M n v g s G)(i:Nat):w.frozen? ⟨a,i,none⟩=false:=by simp[World.frozen?,h.lies]
theorem ax.aM(h:ax w B a M n v g s G):a≠M:=by
 intro hc
 obtain⟨es,clock,h1⟩:=h.map.obj
 rw[<-hc,h.lies] at h1
 cases h1
theorem nG{es:List Ent}(h:da w B v es){C:AV}{T:TypeId}(hg:w.1[k]?=some (.cells C T))(hT:T≠146):v.ownBlock≠some k:=by
 intro hc
 rcases h.2 with ⟨h1,_⟩ | ⟨g',cap,cur,h1,_,h3,_⟩
 ·rw[h1] at hc;cases hc
 ·rw[h1] at hc
  simp only[Value.ownBlock,Option.some.injEq] at hc
  subst hc
  rw[h3] at hg
  injection hg with h4
  injection h4 with _ h5
  exact hT h5.symm
theorem ax.va(h:ax w B a M n v g s G):v.ownBlock≠some a:=nG h.ents h.lies (by decide)
theorem ax.vM(h:ax w B a M n v g s G):v.ownBlock≠some M:=by
 intro hc
 obtain⟨es,clock,h0⟩:=h.map.obj
 rcases h.ents.2 with ⟨h1,_⟩ | ⟨g',cap,cur,h1,_,h3,_⟩
 ·rw[h1] at hc;cases hc
 ·rw[h1] at hc
  simp only[Value.ownBlock,Option.some.injEq] at hc
  subst hc
  rw[h3] at h0
  cases h0
theorem ax.aside{G':Nat->Prop}(h:ax w B a M n v g s G)(ha:Aside G w w')(hG:∀k,G' k->G k∨w.1.size<=k)(hl:∀k,G' k->k<w'.1.size):ax w' B a M n v g s G':=by
 have hva:∀k,v.ownBlock=some k->k<w.1.size:=fun k hk=>(h.ents.lt k hk).2
 refine⟨?_,h.map.keep (ha.block M h.map.lt (fun hc=>(h.off M hc).2.1 rfl)),h.ents.aside ha (fun k hk hc=>(h.off k hc).2.2 hk),h.base,h.good,hl,fun k hk=>?_,fun m=>?_⟩
 ·rw[ha.block a h.lt (fun hc=>(h.off a hc).1 rfl)]
  exact h.lies
 ·rcases hG k hk with h1 | h1
  ·exact h.off k h1
  ·have h2:=h.lt
   have h3:=h.map.lt
   exact⟨by omega,by omega,fun hc=>by have:=hva k hc;omega⟩
 ·refine(h.sch m).step (ha.mono fun i _ hi=>.inr hi) fun k hk=>?_
  rcases hk with hk | hk
  ·exact .inl (.inl hk)
  ·rcases hG k hk with h1 | h1
   ·exact .inl (.inr h1)
   ·exact .inr h1
theorem ax.on(h:ax w B a M n v g s G)(hb:Below w.1.size w w'):ax w' B a M n v g s G:=h.aside (ag hb G) (fun _ hk=>.inl hk) (fun k hk=>Nat.lt_of_lt_of_le (h.low k hk) hb.size)
theorem ax.less{G':Nat->Prop}(h:ax w B a M n v g s G)(hG:∀k,G' k->G k):ax w B a M n v g s G':=h.aside (Aside.refl _ _) (fun k hk=>.inl (hG k hk)) (fun k hk=>h.low k (hG k hk))
theorem ax.known(h:ax w B a M n v g s G){m:Int}{k:Kn}(hk:s.sch m=some k):∃p c,g m=some (.agg #[.slice p k.cols.length c,.int .i64 k.place])∧k.cols.length*120<=140737488351232∧k.cols.length<=c∧bw w p k.cols:=by
 have:=h.sch m
 rw[hk] at this
 obtain⟨p,c,h1,h2,h3,h4⟩:=this
 exact⟨p,c,h1,h2,h3,h4.here⟩
theorem ax.unknown(h:ax w B a M n v g s G){m:Int}(hk:s.sch m=none):g m=none:=by
 have:=h.sch m
 rw[hk] at this
 exact this
theorem og{s':Wk}{v':Value}(h:w.1[a]?=some (.cells (bS M s v) 84))(i:Nat)(u:Value)(he:bS M s' v'=(bS M s v).setIfInBounds i u):(w.setCell ⟨a,i,none⟩ u).1[a]?=some (.cells (bS M s' v') 84):=by
 simp only[World.setCell,Array.getElem?_modify,h,if_true,Option.map_some]
 rw[if_neg (by simp),he]
theorem ax.put{s':Wk}(h:ax w B a M n v g s G)(i:Nat)(u:Value)(he:bS M s' v=(bS M s v).setIfInBounds i u)(hs:s'.sch=s.sch)(hes:s'.ents=s.ents)(hg:Sc.Good s'):ax (w.setCell ⟨a,i,none⟩ u) B a M n v g s' G:=by
 have ha:Aside (·=a) w (w.setCell ⟨a,i,none⟩ u):=(Aside.refl (·=a) w).setCell (p:=⟨a,i,none⟩) (.inl rfl) u
 refine⟨og h.lies i u he,h.map.keep (ha.block M h.map.lt (fun hc=>h.aM hc.symm)),?_,h.base,hg,fun k hk=>Nat.lt_of_lt_of_le (h.low k hk) ha.size,h.off,fun m=>?_⟩
 ·rw[hes]
  exact h.ents.aside ha (fun k hk hc=>h.va (by rw[hk,hc]))
 ·rw[hs]
  exact(h.sch m).step (ha.mono fun i _ hi=>.inl (.inl hi)) fun k hk=>.inl hk
end
def dW(a M:Nat)(v:Value)(i:Nat):Prop:=i=a∨i=M∨v.ownBlock=some i
structure cI(w w':World)(B a M n:Nat)(v:Value)(s:Wk)(G:Nat->Prop):Prop where
 out:∃v' g',ax w' B a M n v' g' s G∧Aside (dW a M v) w w'∧∀i,v'.ownBlock=some i->v.ownBlock=some i∨w.1.size<=i
end
section
open Go.RowKit Go.Maps
section
variable {w:World} {B a M n:Nat} {v:Value} {g:Int->Option Value} {s:Wk} {G:Nat->Prop}
theorem wP(h:ax w B a M n v g s G):Calls Tryz.prog 11 #[.pointer (some ⟨a,0,none⟩)] w fun e w'=>e=.returned (.int .i64 s.rows)∧w'=w:=by
 have c0:w.cell? ⟨a,4,none⟩=some (.int .i64 s.rows):=h.cell 4
 clear h
 go_enter Tryz.func11,Tryz.ntmps11
 go_wp2
 go_ret
 exact⟨rfl,rfl⟩
end
theorem rK(w:World)(G:Nat->Prop)(hG:∀k,G k->k<w.1.size):Calls Tryz.prog 21 #[] w fun e w'=>e=.returned (.pointer (some ⟨w.1.size+1,0,none⟩))∧ax w' w.1.size (w.1.size+1) w.1.size 0 (.slice none 0 0) (fun _=>none) Sc.new G∧Below w.1.size w w'∧w'.1.size=w.1.size+2:=by
 obtain⟨W,hW⟩:∃W,W=(w.alloc (.map #[] 0)).alloc (.cells (bS w.1.size Sc.new (.slice none 0 0)) 84):=⟨_,rfl⟩
 have hs:W.1.size=w.1.size+2:=by rw[hW];simp
 have hb:Below w.1.size w W:=by rw[hW];exact xY.alloc (by simp) _
 have hl:W.1[w.1.size+1]?=some (.cells (bS w.1.size Sc.new (.slice none 0 0)) 84):=by
  rw[hW]
  have:=ap (w.alloc (.map #[] 0)) (.cells (bS w.1.size Sc.new (.slice none 0 0)) 84)
  simpa using this
 have hm:dY W w.1.size 0 (fun _=>none):=(pN w).keep (by rw[hW];exact az _ _ (by simp))
 have HW:Hid (ax W w.1.size (w.1.size+1) w.1.size 0 (.slice none 0 0) (fun _=>none) Sc.new G) :=
  ⟨hl,hm,fC W _,⟨Nat.le_succ _,xX⟩,Sc.good_new,fun k hk=>by have:=hG k hk;omega,fun k hk=>⟨by have:=hG k hk;omega,by have:=hG k hk;omega,by simp[Value.ownBlock]⟩,fun m=>rfl⟩
 have HB:=xQ hb
 have HS:=xQ hs
 have HW2:=xQ hW
 have hmm:=@run_makeMap Tryz.prog
 clear hs hb hl hm hW
 go_enter Tryz.func21,Tryz.ntmps21
 go_wp2
 go_ret
 refine⟨?_,?_⟩
 ·simp
 ·have e:W=(w.alloc (.map #[] 0)).alloc (.cells #[.map (some w.1.size),.int .i64 (-1),.int .i64 0,.int .i64 0,.int .i64 0,.slice none 0 0,.bool false] 84):=HW2.out
  rw[<-e]
  exact⟨HW.out,HB.out,HS.out⟩
theorem uX(b c:Nat)(l:List Int)(hl:l.length<=100)(w:World)(h:∀j (hj:j<l.length),w.cell? ⟨b,j,none⟩=some (.int .i64 l[j])):
  Calls Tryz.prog 38 #[.slice (some ⟨b,0,none⟩) l.length c] w fun e w'=>e=.returned (.bool (l.all (Fr.within Fr.S)))∧w'=w:=by
 have H:=xQ h
 obtain⟨R,hR⟩:∃R,R=l.all (Fr.within Fr.S):=⟨_,rfl⟩
 rw[<-hR]
 have HR:=xQ hR
 clear h hR
 go_enter Tryz.func38,Tryz.ntmps38
 go_wp2
 go_loop [7] (fun v7=>∃i:Nat,i<=l.length∧v7=.int .i64 i∧Hid ((l.take i).all (Fr.within Fr.S)=true)) (fun v7=>l.length-(intOf v7).toNat)
 case atStart=>exact⟨0,by omega,rfl,rfl⟩
 case round=>
  obtain⟨i,hi,rfl,HT⟩:=hrel
  by_cases hlt:i<l.length
  ·have hlt':(i:Int)<(l.length:Int):=by omega
   have hc:=H.out i hlt
   obtain⟨x,hx⟩:∃x,x=l[i]:=⟨_,rfl⟩
   rw[<-hx] at hc
   by_cases hin:0<=x∧x<1099511627776
   ·have g0:decide (x<0)=false:=decide_eq_false (by omega)
    have g1:decide ((1099511627776:Int)<=x)=false:=decide_eq_false (by omega)
    have HT2:Hid ((l.take (i+1)).all (Fr.within Fr.S)=true):=by
     show _=_
     rw[List.take_succ_eq_append_getElem hlt,List.all_append,HT.out,<-hx]
     simp[Fr.within,Fr.S,hin]
    clear hin hx HT
    go_wp2
    go_round
    case rel=>exact⟨i+1,by omega,by go_num,HT2⟩
    case measure=>simp[intOf];omega
   ·have HF:Hid (R=false):=by
     show _=_
     rw[HR.out,List.all_eq_false]
     have hf:Fr.within Fr.S x=false:=decide_eq_false hin
     exact⟨x,by rw[hx];exact List.getElem_mem hlt,by rw[hf];decide⟩
    clear hx HT
    by_cases h0:x<0
    ·have g0:decide (x<0)=true:=decide_eq_true h0
     clear hin
     go_wp2
     go_ret
     exact⟨by rw[HF.out];rfl,rfl⟩
    ·have g0:decide (x<0)=false:=decide_eq_false h0
     have g1:decide ((1099511627776:Int)<=x)=true:=decide_eq_true (by omega)
     clear hin h0
     go_wp2
     go_ret
     exact⟨by rw[HF.out];rfl,rfl⟩
  ·have hii:i=l.length:=by omega
   subst hii
   have HF:Hid (R=true):=by
    show _=_
    have:=HT.out
    rw[List.take_length] at this
    rw[HR.out,this]
   clear HT hlt hi
   go_wp2
   go_ret
   exact⟨by rw[HF.out];rfl,rfl⟩
end
end Go.Proofs.YtceomhodhmcknaaGreatDoor
