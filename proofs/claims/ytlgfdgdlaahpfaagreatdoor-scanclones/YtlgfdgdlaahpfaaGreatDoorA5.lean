import Derived.Test.YtlgfdgdlaahpfaaGreatDoorB20
import Derived.Test.YtlgfdgdlaahpfaaGreatDoorB15
import Derived.Test.YtlgfdgdlaahpfaaGreatDoorB19
set_option maxRecDepth 100000
set_option maxHeartbeats 2000000
namespace Go.Proofs.YtlgfdgdlaahpfaaGreatDoor
section
open Go.RowKit
namespace Sch
end Sch
end
section
structure Kn where
 cols:List Col
 place:Int
structure Wk where
 sch:Int->Option Kn
 number:Int
 since:Int
 frames:Int
 rows:Int
 ents:List Ent
 closed:Bool
namespace Sc
def new:Wk:=⟨fun _=>none,-1,0,0,0,[],false⟩
def schAt(s:Wk)(n:Int):List Col:=match s.sch n with
 |some k=>k.cols
 |none=>[]
def placeAt(s:Wk)(n:Int):Int:=match s.sch n with
 |some k=>k.place
 |none=>0
def follows(s:Wk)(f:Fr)(p:Int):Bool :=
 if f.kind=1 then (if f.number=s.number then Sch.same f.cols (schAt s s.number) else decide (f.number=s.number+1))
 else if f.kind=2 then decide (f.number=s.number∧f.seq=s.frames∧f.first=s.rows)
 else Idx.same f.index ⟨p,s.frames,s.rows,s.ents⟩
def learn(s:Wk)(n:Int)(c:List Col)(p:Int):Wk:={ s with sch:=fun m=>if m=n then some ⟨c.map Col.fix,p⟩ else s.sch m,number:=n,since:=0 }
def enter(s:Wk)(f:Fr)(p:Int):Wk:=if f.seq % 4=0∧s.ents.length<64 then { s with ents:=s.ents++[⟨p,f.first,placeAt s s.number⟩] } else s
def count(s:Wk)(f:Fr):Wk:={ s with frames:=s.frames+1,rows:=s.rows+f.rows,since:=s.since+1 }
def take(s:Wk)(f:Fr)(p:Int):Wk :=
 if f.kind=1 then { learn s f.number f.cols p with closed:=false }
 else if f.kind=2 then { count (enter s f p) f with closed:=false }
 else { s with closed:=true }
def may(s:Wk)(f:Fr)(p:Int):Bool:=Fr.within Fr.S p&&decide (Fr.err f=0)&&follows s f p
def next(s:Wk)(f:Fr)(p:Int):Wk:=if may s f p=true then take s f p else s
structure Good(s:Wk):Prop where
 number:-1<=s.number∧s.number<2147483648
 since:0<=s.since∧s.since<=s.frames
 frames:s.frames<=70368744177664
 rows:0<=s.rows∧s.rows<=1099511627840
 ents:s.ents.length*24<=140737488351232
 entsOk:∀e∈s.ents,Fr.i64 e.at_∧Fr.i64 e.row∧Fr.i64 e.sch
 known:∀n k,s.sch n=some k->(0<=n∧n<=s.number)∧Sch.err k.cols=0∧(∀c∈k.cols,c.fix=c∧c.wf)∧(0<=k.place∧k.place<1099511627776)
 has:0<=s.number->∃k,s.sch s.number=some k
theorem good_new:Good new:=⟨by decide,by decide,by decide,by decide,by decide,fun e he=>(by cases he),fun n k h=>(by cases h),fun h=>(by simp[new] at h)⟩
theorem place_ok{s:Wk}(h:Good s)(n:Int):0<=placeAt s n∧placeAt s n<1099511627776:=by
 unfold placeAt
 split
 ·next k hk=>exact(h.known n k hk).2.2.2
 ·omega
theorem i64_of{n:Int}(h:0<=n∧n<1099511627776):Fr.i64 n:=⟨by omega,by omega⟩
theorem fix_wf{s:List Col}(he:Sch.err s=0)(hw:∀c∈s,c.wf):Sch.err (s.map Col.fix)=0∧∀c∈s.map Col.fix,c.fix=c∧c.wf:=by
 have:=Sch.read_ok (Sch.read_put he hw)
 exact⟨this.1,this.2.2⟩
theorem good_learn{s:Wk}(h:Good s)(n:Int)(c:List Col)(p:Int)(hn:0<=n∧n<2147483648)(hm:s.number<=n)(he:Sch.err c=0)(hw:∀x∈c,x.wf)(hp:0<=p∧p<1099511627776):Good (learn s n c p):=by
 refine⟨⟨by show -1<=n;omega,hn.2⟩,⟨Int.le_refl _,?_⟩,h.frames,h.rows,h.ents,h.entsOk,fun m k hk=>?_,fun _=>⟨⟨c.map Col.fix,p⟩,by show(if n=n then _ else _)=_;rw[if_pos rfl]⟩⟩
 ·have:=h.since
  show 0<=s.frames
  omega
 ·have hk':(if m=n then some ⟨c.map Col.fix,p⟩ else s.sch m)=some k:=hk
  by_cases hmn:m=n
  ·rw[if_pos hmn] at hk'
   injection hk' with hk'
   rw[<-hk',hmn]
   obtain⟨h1,h2⟩:=fix_wf he hw
   exact⟨⟨hn.1,Int.le_refl _⟩,h1,h2,hp⟩
  ·rw[if_neg hmn] at hk'
   obtain⟨h1,h2⟩:=h.known m k hk'
   exact⟨⟨h1.1,Int.le_trans h1.2 hm⟩,h2⟩
theorem good_enter{s:Wk}(h:Good s)(f:Fr)(p:Int)(hp:0<=p∧p<1099511627776)(hf:0<=f.first∧f.first<1099511627776):Good (enter s f p):=by
 unfold enter
 split
 ·next hc=>
  refine⟨h.number,h.since,h.frames,h.rows,?_,?_,h.known,h.has⟩
  ·simp only[List.length_append,List.length_singleton]
   omega
  ·intro e he
   rcases List.mem_append.1 he with he | he
   ·exact h.entsOk e he
   ·rw[List.mem_singleton] at he
    subst he
    exact⟨i64_of hp,i64_of hf,i64_of (place_ok h s.number)⟩
 ·exact h
theorem enter_same(s:Wk)(f:Fr)(p:Int):(enter s f p).sch=s.sch∧(enter s f p).number=s.number∧(enter s f p).since=s.since∧(enter s f p).frames=s.frames∧(enter s f p).rows=s.rows∧(enter s f p).closed=s.closed:=by
 unfold enter
 split <;> exact⟨rfl,rfl,rfl,rfl,rfl,rfl⟩
theorem good_count{s:Wk}(h:Good s)(f:Fr)(h1:s.frames<1099511627776)(h2:s.rows<1099511627776)(hr:1<=f.rows∧f.rows<=64):Good (count s f):=by
 have hs:=h.since
 have hr':=h.rows
 exact⟨h.number,⟨by show 0<=s.since+1;omega,by show s.since+1<=s.frames+1;omega⟩,by show s.frames+1<=_;omega,⟨by show 0<=s.rows+f.rows;omega,by show s.rows+f.rows<=_;omega⟩,h.ents,h.entsOk,h.known,h.has⟩
theorem good_closed{s:Wk}(h:Good s)(c:Bool):Good { s with closed:=c }:=⟨h.number,h.since,h.frames,h.rows,h.ents,h.entsOk,h.known,h.has⟩
theorem err_parts{f:Fr}(h:Fr.err f=0):(f.kind=1->(0<=f.number∧f.number<2147483648)∧Sch.err f.cols=0)∧(f.kind=2->(0<=f.number∧f.number<2147483648)∧(0<=f.seq∧f.seq<1099511627776)∧(0<=f.first∧f.first<1099511627776)∧(1<=f.rows∧f.rows<=64))∧(f.kind=1∨f.kind=2∨f.kind=3):=by
 have h0:=(Fr.err_open h).1
 refine⟨fun hk=>?_,fun hk=>?_,Fr.head_fields h0⟩
 ·unfold Fr.err0 at h0
  rw[if_pos hk] at h0
  split at h0
  ·omega
  ·next hn=>
   have:=Fr.within_iff.1 (by simpa using hn)
   exact⟨this,h0⟩
 ·unfold Fr.err0 at h0
  rw[if_neg (by omega),if_pos hk] at h0
  split at h0
  ·omega
  ·next hn=>
   simp only[Bool.not_eq_false,Bool.and_eq_true,decide_eq_true_iff] at hn
   exact⟨Fr.within_iff.1 hn.1.1.1,Fr.within_iff.1 hn.1.1.2,Fr.within_iff.1 hn.1.2,hn.2⟩
theorem may_parts{s:Wk}{f:Fr}{p:Int}(h:may s f p=true):(0<=p∧p<1099511627776)∧Fr.err f=0∧follows s f p=true:=by
 unfold may at h
 simp only[Bool.and_eq_true,decide_eq_true_iff] at h
 exact⟨Fr.within_iff.1 h.1.1,h.1.2,h.2⟩
theorem follows_data{s:Wk}{f:Fr}{p:Int}(hk:f.kind=2)(h:follows s f p=true):f.number=s.number∧f.seq=s.frames∧f.first=s.rows:=by
 unfold follows at h
 rw[if_neg (by omega),if_pos hk] at h
 exact of_decide_eq_true h
theorem follows_sch{s:Wk}{f:Fr}{p:Int}(hk:f.kind=1)(h:follows s f p=true):s.number<=f.number:=by
 unfold follows at h
 rw[if_pos hk] at h
 split at h
 ·omega
 ·have:=of_decide_eq_true h
  omega
theorem good_take{s:Wk}(h:Good s){f:Fr}{p:Int}(hw:f.wf)(hm:may s f p=true):Good (take s f p):=by
 obtain⟨hp,he,hf⟩:=may_parts hm
 obtain⟨e1,e2,-⟩:=err_parts he
 unfold take
 split
 ·next hk=>
  obtain⟨a1,a2⟩:=e1 hk
  exact good_closed (good_learn h _ _ _ a1 (follows_sch hk hf) a2 hw.2.2.1 hp) false
 ·split
  ·next hk=>
   obtain⟨a1,a2,a3,a4⟩:=e2 hk
   obtain⟨b1,b2,b3⟩:=follows_data hk hf
   have hE:=good_enter h f p hp a3
   obtain⟨c1,c2,c3,c4,c5,c6⟩:=enter_same s f p
   exact good_closed (good_count hE f (by rw[c4,<-b2];omega) (by rw[c5,<-b3];omega) a4) false
  ·exact good_closed h true
def runT(m:Nat)(t:L8):Except Nat L8 :=
 if t.findIdx (·==0)<t.length then (if t.findIdx (·==0)=0 then .error 4 else .ok (t.take (t.findIdx (·==0))))
 else if m=2202 then .error 2 else .error 142
def runOf(r:L8):Except Nat L8:=if r.headD 0≠0 then .error 141 else runT r.length r.tail
theorem runOf_cons(c:UInt8)(t:L8):runOf (c::t)=if c≠0 then .error 141 else runT (t.length+1) t:=rfl
def reads(b:L8)(p:Int):Nat:=if p<0∨(b.length:Int)<=p then 0 else ((b.drop p.toNat).take 2202).length
def at_(b:L8)(p:Int):Except Nat (Fr×Nat) :=
 if p<0∨(b.length:Int)<p then .error 7 else if p=(b.length:Int) then .error 140
 else match runOf ((b.drop p.toNat).take 2202) with
 |.error e=>.error e
 |.ok r=>match Fr.dec r with
  |.error e=>.error e
  |.ok f=>.ok (f,p.toNat+r.length+2)
theorem findIdx_split:∀(t:L8),t.findIdx (·==0)<t.length->∃r,t=t.take (t.findIdx (·==0))++0::r
 | [],h=>by simp at h
 |c::t,h=>by
  rw[List.findIdx_cons] at h ⊢
  by_cases hc:(c==0)=true
  ·rw[hc]
   have:c=0:=by simpa using hc
   exact⟨t,by simp[this]⟩
  ·have hc':(c==0)=false:=by simpa using hc
   rw[hc'] at h ⊢
   simp only[cond_false,List.length_cons] at h
   obtain⟨r,hr⟩:=findIdx_split t (by omega)
   refine⟨r,?_⟩
   simp only[cond_false,List.take_succ_cons,List.cons_append]
   rw[<-hr]
theorem findIdx_pre:∀(a r:L8),(∀c∈a,c≠0)->(a++0::r).findIdx (·==0)=a.length
 | [],r,_=>by simp[List.findIdx_cons]
 |c::a,r,h=>by
  rw[List.cons_append,List.findIdx_cons]
  have hc:(c==0)=false:=by simpa using h c (by simp)
  rw[hc,findIdx_pre a r (fun x hx=>h x (by simp[hx]))]
  simp
theorem findIdx_before:∀(t:L8),∀c∈t.take (t.findIdx (·==0)),c≠0
 | [],c,hc=>by simp at hc
 |d::t,c,hc=>by
  rw[List.findIdx_cons] at hc
  by_cases hd:(d==0)=true
  ·rw[hd] at hc
   simp at hc
  ·have hd':(d==0)=false:=by simpa using hd
   rw[hd'] at hc
   simp only[cond_false,List.take_succ_cons,List.mem_cons] at hc
   rcases hc with rfl | hc
   ·simpa using hd
   ·exact findIdx_before t c hc
theorem runOf_ok{l r:L8}(hl:l≠[])(h:runOf l=.ok r):∃z,l=0::(r++0::z)∧r≠[]∧∀c∈r,c≠0:=by
 obtain⟨c,t,rfl⟩:∃c t,l=c::t:=by
  cases l with
  |nil=>exact absurd rfl hl
  |cons c t=>exact⟨c,t,rfl⟩
 rw[runOf_cons] at h
 split at h
 ·cases h
 ·next hc=>
  have hc0:c=0:=by simpa using hc
  subst hc0
  unfold runT at h
  split at h
  ·next hlt=>
   split at h
   ·cases h
   ·next h0=>
    injection h with h
    obtain⟨z,hz⟩:=findIdx_split t hlt
    rw[h] at hz
    refine⟨z,by rw[<-hz],fun hr=>?_,fun x hx=>findIdx_before t x (by rw[h];exact hx)⟩
    rw[hr] at h
    have:=congrArg List.length h
    simp only[List.length_take,List.length_nil] at this
    omega
  ·split at h <;> cases h
theorem runOf_mk{r z:L8}(hr:r≠[])(h:∀c∈r,c≠0):runOf (0::(r++0::z))=.ok r:=by
 have e:=findIdx_pre r z h
 have hl:0<r.length:=List.length_pos_iff.2 hr
 rw[runOf_cons,if_neg (by simp)]
 unfold runT
 simp only[e]
 rw[if_pos (by simp),if_neg (by omega)]
 simp
theorem at_ok{b:L8}{p:Int}{f:Fr}{n:Nat}(h:at_ b p=.ok (f,n)):0<=p∧p<(b.length:Int)∧Fr.err f=0∧f.wf∧n=p.toNat+(Fr.run f).length+2∧n<=b.length∧(b.drop p.toNat).take ((Fr.run f).length+2)=0::(Fr.run f++[0]):=by
 unfold at_ at h
 split at h
 ·cases h
 ·next h1=>
  split at h
  ·cases h
  ·next h2=>
   split at h
   ·cases h
   ·next r hr=>
    split at h
    ·cases h
    ·next g hg=>
     injection h with h
     injection h with h3 h4
     subst h3
     obtain⟨e1,e2,e3,e4,e5⟩:=Fr.dec_ok hg
     have hlen:p.toNat<b.length:=by omega
     have hne:(b.drop p.toNat).take 2202≠[]:=by
      intro hc
      have:=congrArg List.length hc
      simp only[List.length_take,List.length_drop,List.length_nil] at this
      omega
     obtain⟨z,hz,-,-⟩:=runOf_ok hne hr
     have hl:=congrArg List.length hz
     simp only[List.length_take,List.length_drop,List.length_cons,List.length_append] at hl
     refine⟨by omega,by omega,e1,e4,by rw[e2];omega,by omega,?_⟩
     have ht:=congrArg (List.take (r.length+2)) hz
     rw[List.take_take,Nat.min_eq_left (by omega)] at ht
     rw[e2,ht,List.take_succ_cons,List.take_append,List.take_of_length_le (by omega)]
     simp
theorem at_take{b:L8}{p:Int}{f:Fr}{n m:Nat}(h:at_ b p=.ok (f,n))(hm:n<=m)(hb:m<=b.length):at_ (b.take m) p=.ok (f,n):=by
 obtain⟨h1,h2,h3,h4,h5,h6,h7⟩:=at_ok h
 have h22:=(Fr.err_open h3).2
 have h6':=Fr.run_ge (f:=f)
 have hx:((b.take m).drop p.toNat).take 2202=0::(Fr.run f++0::((((b.take m).drop p.toNat).take 2202).drop ((Fr.run f).length+2))):=by
  have e:=List.take_append_drop ((Fr.run f).length+2) (((b.take m).drop p.toNat).take 2202)
  have e2:(((b.take m).drop p.toNat).take 2202).take ((Fr.run f).length+2)=0::(Fr.run f++[0]):=by
   rw[List.take_take,Nat.min_eq_left (by omega),List.drop_take,List.take_take,Nat.min_eq_left (by omega),h7]
  rw[e2] at e
  simpa using e.symm
 have hd:Fr.dec (Fr.run f)=.ok f:=by
  unfold at_ at h
  rw[if_neg (by omega),if_neg (by omega)] at h
  split at h
  ·cases h
  ·next r hr=>
   split at h
   ·cases h
   ·next g hg=>
    injection h with h
    injection h with h8 h9
    subst h8
    rw[(Fr.dec_ok hg).2.1]
    exact hg
 unfold at_
 have hl:(b.take m).length=m:=by rw[List.length_take];omega
 rw[hl,if_neg (by omega),if_neg (by omega),hx,runOf_mk (fun hc=>by rw[hc] at h6';simp at h6') (Fr.run_nz f)]
 simp only[hd]
 rw[h5]
structure Pos where
 at_:Nat
 wk:Wk
 read:Nat
def begin_:Pos:=⟨0,new,0⟩
def step(b:L8)(x:Pos):Except Nat Pos:=match Sc.at_ b x.at_ with
 |.error e=>.error e
 |.ok (f,n)=>if may x.wk f x.at_=true then .ok ⟨n,take x.wk f x.at_,x.read+reads b x.at_⟩ else .error 143
def goes(b:L8):Nat->Option Pos
 |0=>some begin_
 |k+1=>match goes b k with
  |none=>none
  |some x=>match step b x with
   |.error _=>none
   |.ok y=>some y
theorem reads_le(b:L8)(p:Int):reads b p<=2202:=by
 unfold reads
 split
 ·omega
 ·simp;omega
theorem step_end{b:L8}{x:Pos}(h:x.at_=b.length):step b x=.error 140:=by
 unfold step at_
 rw[if_neg (by omega),if_pos (by omega)]
end Sc
end
section
open Go.RowKit Go.Maps
theorem mz:Keyed Tryz.prog 2:=int_keyed Tryz.underlying2
def ey:Value:=.agg #[.slice none 0 0,.int .i64 0]
theorem pi(w:World):(zeroValue 95).run Tryz.prog w=.ok ey w:=by kernel_rfl
def qP(v:Value):Option (DataW Value×List MemPlace):=some (.held v,[])
def oE(n:Int):Lit:=.int .i64 n
theorem kR{a b:Int}(h:oE a=oE b):a=b:=by
 unfold oE at h
 injection h
theorem jD{n:Int}(h:Fr.i64 n):keyOf Tryz.prog 2 (.int .i64 n)=some (oE n):=keyOf_int_mk Tryz.underlying2 (by
 show(decide _&&decide _)=true
 rw[Bool.and_eq_true]
 exact⟨decide_eq_true h.1,decide_eq_true h.2⟩)
structure dn(w:World)(M n:Nat)(g:Int->Option Value):Prop where
 out:∃D:DataW Value,w.ownsMap Tryz.prog 2 qP M n D∧∀m,Maps.has D (oE m)=(g m).isSome∧D.atKey (oE m) (.held ey)=.held ((g m).getD ey)
section
variable {w w':World} {M n:Nat} {g:Int->Option Value}
theorem oD(w:World):dn (w.alloc (.map #[] 0)) w.1.size 0 (fun _=>none):=⟨.map [],World.ownsMap_made _ _ _ _,fun _=>⟨rfl,rfl⟩⟩
theorem dn.lt(h:dn w M n g):M<w.1.size:=by
 obtain⟨D,h1,_⟩:=h.out
 exact h1.lt
theorem dn.keep(h:dn w M n g)(hb:w'.1[M]?=w.1[M]?):dn w' M n g:=by
 obtain⟨D,⟨es,clock,h1,h2⟩,h3⟩:=h.out
 exact⟨D,⟨es,clock,hb.trans h1,h2⟩,h3⟩
theorem dn.obj(h:dn w M n g):∃es clock,w.1[M]?=some (.map es clock):=by
 obtain⟨D,⟨es,clock,h1,h2⟩,h3⟩:=h.out
 exact⟨es,clock,h1⟩
theorem dn.look(h:dn w M n g){m:Int}(hm:Fr.i64 m):(Instr.lookup 66 (.map (some M)) (.int .i64 m) false).run Tryz.prog w=.ok ((g m).getD ey) w:=by
 obtain⟨D,h1,h2⟩:=h.out
 obtain⟨v,ps,hr,hv⟩:=h1.lookup mz Tryz.underlying66 (pi w) (zd:=.held ey) (zp:=[]) rfl (jD hm)
 rw[(h2 m).2] at hv
 unfold qP at hv
 injection hv with hv
 injection hv with hv _
 injection hv with hv
 rw[hr,hv]
theorem dn.look_ok(h:dn w M n g){m:Int}(hm:Fr.i64 m):(Instr.lookup 66 (.map (some M)) (.int .i64 m) true).run Tryz.prog w=.ok (.tuple #[(g m).getD ey,.bool (g m).isSome]) w:=by
 obtain⟨D,h1,h2⟩:=h.out
 obtain⟨v,ps,hr,hv⟩:=h1.look_ok mz Tryz.underlying66 (pi w) (zd:=.held ey) (zp:=[]) rfl (jD hm)
 rw[(h2 m).2] at hv
 unfold qP at hv
 injection hv with hv
 injection hv with hv _
 injection hv with hv
 rw[hr,hv,(h2 m).1]
theorem dn.put(h:dn w M n g){m:Int}(hm:Fr.i64 m)(hn:n<1000000000)(v:Value):∃w',(Instr.mapUpdate 66 (.map (some M)) (.int .i64 m) v).run Tryz.prog w=.ok () w'∧dn w' M (n+1) (fun k=>if k=m then some v else g k)∧Aside (fun k=>k=M) w w'∧w'.1.size=w.1.size:=by
 obtain⟨D,h1,h2⟩:=h.out
 obtain⟨w',hr,ho,hg⟩:=h1.store mz Tryz.underlying66 (by unfold maxLen;omega) (jD hm) (val:=v) (d:=.held v) (ps:=[]) rfl
 refine⟨w',hr,⟨_,ho,fun k=>?_⟩,?_,?_⟩
 ·by_cases hk:k=m
  ·subst hk
   rw[if_pos rfl,has_put_same h1.isMap (by trivial),atKey_put_same h1.isMap (by trivial)]
   exact⟨rfl,rfl⟩
  ·rw[if_neg hk,has_put_other (fun e=>hk (kR e)),atKey_put_other (fun e=>hk (kR e))]
   exact h2 k
 ·have hg2:=hg.grown
  exact⟨hg2.os,hg2.tape,hg2.output,hg2.size,fun k hk hf=>hg2.block k hk (fun hc=>hf (by injection hc))⟩
 ·obtain⟨es,clock,es',clock',_,e⟩:=hg
  rw[e]
  simp[Go.ChangeMaps.setBlock]
end
def bv(M:Nat)(s:Wk)(v:Value):AV:=#[.map (some M),.int .i64 s.number,.int .i64 s.since,.int .i64 s.frames,.int .i64 s.rows,v,.bool s.closed]
def Calm(F:Nat->Prop)(w:World)(p:OA)(s:List Col):Prop:=∀w',Aside F w w'->bg w' p s
section
variable {F F':Nat->Prop} {w w':World} {p:OA} {s:List Col}
theorem Calm.here(h:Calm F w p s):bg w p s:=h w (Aside.refl _ _)
theorem Calm.step(h:Calm F w p s)(ha:Aside F w w')(hF:∀k,F' k->F k∨w.1.size<=k):Calm F' w' p s:=fun w'' h2=>h w'' (ha.trans h2 fun i hi hf=>(hF i hf).elim id (fun hc=>absurd hi (Nat.not_lt_of_le hc)))
theorem rq{B:Nat}{n c:Nat}(h:cL w B #[.slice p n c] s)(hF:∀k,F k->k<B∨w.1.size<=k):Calm F w p s:=fun w' ha=>by
 obtain⟨v,us,Fs,h1,hb,hl⟩:=h.out
 simp only[Array.mk.injEq,List.cons.injEq,and_true] at h1
 subst h1
 have h2:=hb.aside ha (fun g hg hf=>by have:=hb.lt g hg;have:=hF g hf;omega) (fun j hj k hk hf=>by have:=hb.range j hj k hk;have:=hF k hf;omega)
 obtain⟨p',c',e1,_,e2⟩:=h2.cols hl
 injection e1 with e3 _ _
 rw[e3]
 exact e2
end
def rF(X:Nat->Prop)(w:World)(o:Option Kn)(r:Option Value):Prop:=match o with
 |none=>r=none
 |some k=>∃p c,r=some (.agg #[.slice p k.cols.length c,.int .i64 k.place])∧k.cols.length*120<=140737488351232∧k.cols.length<=c∧Calm X w p k.cols
theorem rF.step{F F':Nat->Prop}{w w':World}{o:Option Kn}{r:Option Value}(h:rF F w o r)(ha:Aside F w w')(hF:∀k,F' k->F k∨w.1.size<=k):rF F' w' o r:=by
 cases o with
 |none=>exact h
 |some k=>
  obtain⟨p,c,h1,h2,h3,h4⟩:=h
  exact⟨p,c,h1,h2,h3,h4.step ha hF⟩
structure ao(w:World)(B a M n:Nat)(v:Value)(g:Int->Option Value)(s:Wk)(G:Nat->Prop):Prop where
 lies:w.1[a]?=some (.cells (bv M s v) 68)
 map:dn w M n g
 ents:bf w B v s.ents
 base:B<=a∧B<=M
 good:Sc.Good s
 low:∀k,G k->k<w.1.size
 off:∀k,G k->k≠a∧k≠M∧v.ownBlock≠some k
 sch:∀m,rF (fun i=>(i=a∨i=M∨v.ownBlock=some i)∨G i) w (s.sch m) (g m)
section
variable {w w':World} {B a M n:Nat} {v:Value} {g:Int->Option Value} {s:Wk} {G:Nat->Prop}
theorem ao.lt(h:ao w B a M n v g s G):a<w.1.size:=(Array.getElem?_eq_some_iff.1 h.lies).1
theorem ao.cell(h:ao w B a M n v g s G)(i:Nat):w.cell? ⟨a,i,none⟩=(bv M s v)[i]?:=by
 unfold World.cell?
 rw[h.lies]
 rfl
theorem ao.thawed(h:ao w B a M n v g s G)(i:Nat):w.frozen? ⟨a,i,none⟩=false:=by simp[World.frozen?,h.lies]
theorem ao.aM(h:ao w B a M n v g s G):a≠M:=by
 intro hc
 obtain⟨es,clock,h1⟩:=h.map.obj
 rw[<-hc,h.lies] at h1
 cases h1
theorem iq{k:Nat}{es:List Ent}(h:bf w B v es){C:AV}{T:TypeId}(hg:w.1[k]?=some (.cells C T))(hT:T≠64):v.ownBlock≠some k:=by
 intro hc
 rcases h.2 with ⟨h1,_⟩ | ⟨g',cap,cur,h1,_,h3,_⟩
 ·rw[h1] at hc;cases hc
 ·rw[h1] at hc
  simp only[Value.ownBlock,Option.some.injEq] at hc
  subst hc
  rw[h3] at hg
  injection hg with h4
  injection h4 with _ h5
  exact hT h5.symm
theorem ao.va(h:ao w B a M n v g s G):v.ownBlock≠some a:=iq h.ents h.lies (by decide)
theorem ao.vM(h:ao w B a M n v g s G):v.ownBlock≠some M:=by
 intro hc
 obtain⟨es,clock,h0⟩:=h.map.obj
 rcases h.ents.2 with ⟨h1,_⟩ | ⟨g',cap,cur,h1,_,h3,_⟩
 ·rw[h1] at hc;cases hc
 ·rw[h1] at hc
  simp only[Value.ownBlock,Option.some.injEq] at hc
  subst hc
  rw[h3] at h0
  cases h0
theorem ao.aside{G':Nat->Prop}(h:ao w B a M n v g s G)(ha:Aside G w w')(hG:∀k,G' k->G k∨w.1.size<=k)(hl:∀k,G' k->k<w'.1.size):ao w' B a M n v g s G':=by
 have hva:∀k,v.ownBlock=some k->k<w.1.size:=fun k hk=>(h.ents.lt k hk).2
 refine⟨?_,h.map.keep (ha.block M h.map.lt (fun hc=>(h.off M hc).2.1 rfl)),h.ents.aside ha (fun k hk hc=>(h.off k hc).2.2 hk),h.base,h.good,hl,fun k hk=>?_,fun m=>?_⟩
 ·rw[ha.block a h.lt (fun hc=>(h.off a hc).1 rfl)]
  exact h.lies
 ·rcases hG k hk with h1 | h1
  ·exact h.off k h1
  ·have h2:=h.lt
   have h3:=h.map.lt
   exact⟨by omega,by omega,fun hc=>by have:=hva k hc;omega⟩
 ·refine(h.sch m).step (ha.mono fun i _ hi=>.inr hi) fun k hk=>?_
  rcases hk with hk | hk
  ·exact .inl (.inl hk)
  ·rcases hG k hk with h1 | h1
   ·exact .inl (.inr h1)
   ·exact .inr h1
theorem ao.on(h:ao w B a M n v g s G)(hb:Below w.1.size w w'):ao w' B a M n v g s G:=h.aside (ae hb G) (fun _ hk=>.inl hk) (fun k hk=>Nat.lt_of_lt_of_le (h.low k hk) hb.size)
theorem ao.known(h:ao w B a M n v g s G){m:Int}{k:Kn}(hk:s.sch m=some k):∃p c,g m=some (.agg #[.slice p k.cols.length c,.int .i64 k.place])∧k.cols.length*120<=140737488351232∧k.cols.length<=c∧bg w p k.cols:=by
 have:=h.sch m
 rw[hk] at this
 obtain⟨p,c,h1,h2,h3,h4⟩:=this
 exact⟨p,c,h1,h2,h3,h4.here⟩
theorem ao.unknown(h:ao w B a M n v g s G){m:Int}(hk:s.sch m=none):g m=none:=by
 have:=h.sch m
 rw[hk] at this
 exact this
theorem m9{s':Wk}{v':Value}(h:w.1[a]?=some (.cells (bv M s v) 68))(i:Nat)(u:Value)(he:bv M s' v'=(bv M s v).setIfInBounds i u):(w.setCell ⟨a,i,none⟩ u).1[a]?=some (.cells (bv M s' v') 68):=by
 simp only[World.setCell,Array.getElem?_modify,h,if_true,Option.map_some]
 rw[if_neg (by simp),he]
theorem ao.put{s':Wk}(h:ao w B a M n v g s G)(i:Nat)(u:Value)(he:bv M s' v=(bv M s v).setIfInBounds i u)(hs:s'.sch=s.sch)(hes:s'.ents=s.ents)(hg:Sc.Good s'):ao (w.setCell ⟨a,i,none⟩ u) B a M n v g s' G:=by
 have ha:Aside (·=a) w (w.setCell ⟨a,i,none⟩ u):=(Aside.refl (·=a) w).setCell (p:=⟨a,i,none⟩) (.inl rfl) u
 refine⟨m9 h.lies i u he,h.map.keep (ha.block M h.map.lt (fun hc=>h.aM hc.symm)),?_,h.base,hg,fun k hk=>Nat.lt_of_lt_of_le (h.low k hk) ha.size,h.off,fun m=>?_⟩
 ·rw[hes]
  exact h.ents.aside ha (fun k hk hc=>h.va (by rw[hk,hc]))
 ·rw[hs]
  exact(h.sch m).step (ha.mono fun i _ hi=>.inl (.inl hi)) fun k hk=>.inl hk
end
def aQ(a M:Nat)(v:Value)(i:Nat):Prop:=i=a∨i=M∨v.ownBlock=some i
structure bW(w w':World)(B a M n:Nat)(v:Value)(s:Wk)(G:Nat->Prop):Prop where
 out:∃v' g',ao w' B a M n v' g' s G∧Aside (aQ a M v) w w'∧∀i,v'.ownBlock=some i->v.ownBlock=some i∨w.1.size<=i
end
section
open Go.RowKit Go.Maps
section
variable {w:World} {B a M n:Nat} {v:Value} {g:Int->Option Value} {s:Wk} {G:Nat->Prop}
theorem np(h:ao w B a M n v g s G):Calls Tryz.prog 23 #[.pointer (some ⟨a,0,none⟩)] w fun e w'=>e=.returned (.int .i64 s.frames)∧w'=w:=by
 have c0:w.cell? ⟨a,3,none⟩=some (.int .i64 s.frames):=h.cell 3
 clear h
 go_enter Tryz.func23,Tryz.ntmps23
 go_wp2
 go_ret
 exact⟨rfl,rfl⟩
theorem s8(h:ao w B a M n v g s G):Calls Tryz.prog 24 #[.pointer (some ⟨a,0,none⟩)] w fun e w'=>e=.returned (.int .i64 s.rows)∧w'=w:=by
 have c0:w.cell? ⟨a,4,none⟩=some (.int .i64 s.rows):=h.cell 4
 clear h
 go_enter Tryz.func24,Tryz.ntmps24
 go_wp2
 go_ret
 exact⟨rfl,rfl⟩
theorem no(h:ao w B a M n v g s G):Calls Tryz.prog 25 #[.pointer (some ⟨a,0,none⟩)] w fun e w'=>e=.returned (.int .i64 s.number)∧w'=w:=by
 have c0:w.cell? ⟨a,1,none⟩=some (.int .i64 s.number):=h.cell 1
 clear h
 go_enter Tryz.func25,Tryz.ntmps25
 go_wp2
 go_ret
 exact⟨rfl,rfl⟩
theorem qG(h:ao w B a M n v g s G):Calls Tryz.prog 26 #[.pointer (some ⟨a,0,none⟩)] w fun e w'=>e=.returned (.int .i64 s.since)∧w'=w:=by
 have c0:w.cell? ⟨a,2,none⟩=some (.int .i64 s.since):=h.cell 2
 clear h
 go_enter Tryz.func26,Tryz.ntmps26
 go_wp2
 go_ret
 exact⟨rfl,rfl⟩
theorem sx(h:ao w B a M n v g s G):Calls Tryz.prog 37 #[.pointer (some ⟨a,0,none⟩)] w fun e w'=>e=.returned (.bool s.closed)∧w'=w:=by
 have c0:w.cell? ⟨a,6,none⟩=some (.bool s.closed):=h.cell 6
 clear h
 go_enter Tryz.func37,Tryz.ntmps37
 go_wp2
 go_ret
 exact⟨rfl,rfl⟩
end
theorem qI(w:World)(G:Nat->Prop)(hG:∀k,G k->k<w.1.size):Calls Tryz.prog 7 #[] w fun e w'=>e=.returned (.pointer (some ⟨w.1.size+1,0,none⟩))∧ao w' w.1.size (w.1.size+1) w.1.size 0 (.slice none 0 0) (fun _=>none) Sc.new G∧Below w.1.size w w'∧w'.1.size=w.1.size+2:=by
 obtain⟨W,hW⟩:∃W,W=(w.alloc (.map #[] 0)).alloc (.cells (bv w.1.size Sc.new (.slice none 0 0)) 68):=⟨_,rfl⟩
 have hs:W.1.size=w.1.size+2:=by rw[hW];simp
 have hb:Below w.1.size w W:=by rw[hW];exact vY.alloc (by simp) _
 have hl:W.1[w.1.size+1]?=some (.cells (bv w.1.size Sc.new (.slice none 0 0)) 68):=by
  rw[hW]
  have:=ag (w.alloc (.map #[] 0)) (.cells (bv w.1.size Sc.new (.slice none 0 0)) 68)
  simpa using this
 have hm:dn W w.1.size 0 (fun _=>none):=(oD w).keep (by rw[hW];exact aD _ _ (by simp))
 have HW:Hid (ao W w.1.size (w.1.size+1) w.1.size 0 (.slice none 0 0) (fun _=>none) Sc.new G) :=
  ⟨hl,hm,dx W _,⟨Nat.le_succ _,vX⟩,Sc.good_new,fun k hk=>by have:=hG k hk;omega,fun k hk=>⟨by have:=hG k hk;omega,by have:=hG k hk;omega,by simp[Value.ownBlock]⟩,fun m=>rfl⟩
 have HB:=vQ hb
 have HS:=vQ hs
 have HW2:=vQ hW
 have hmm:=@run_makeMap Tryz.prog
 clear hs hb hl hm hW
 go_enter Tryz.func7,Tryz.ntmps7
 go_wp2
 go_ret
 refine⟨?_,?_⟩
 ·simp
 ·have e:W=(w.alloc (.map #[] 0)).alloc (.cells #[.map (some w.1.size),.int .i64 (-1),.int .i64 0,.int .i64 0,.int .i64 0,.slice none 0 0,.bool false] 68):=HW2.out
  rw[<-e]
  exact⟨HW.out,HB.out,HS.out⟩
theorem oi(n c:Nat)(w:World):(binOp .eql 32 (.slice none n c) (.slice none 0 0)).run Tryz.prog w=.ok (.bool true) w:=by kernel_rfl
theorem oh(a:Addr)(n c:Nat)(w:World):(binOp .eql 32 (.slice (some a) n c) (.slice none 0 0)).run Tryz.prog w=.ok (.bool false) w:=by kernel_rfl
theorem og(B:Nat)(v:Value)(xs l:List Ent)(p:OA)(c:Nat)(w:World)(hown:bf w B v xs)(h:cQ w p l)(hlen:(xs.length+l.length)*24<=140737488355328)(hB:B<=w.1.size):
  ∃(q:OA) (cap:Nat) (W:World),bC Tryz.prog 32 32 32 v (.slice p l.length c) w (.slice q (xs++l).length cap) W∧bf W B (.slice q (xs++l).length cap) (xs++l)∧Aside (fun k=>v.ownBlock=some k) w W∧(xs++l).length<=cap∧∀k,(Value.slice q (xs++l).length cap).ownBlock=some k->v.ownBlock=some k∨w.1.size<=k:=by
 obtain⟨i,hi,hz,hsz,hby⟩:=info_parts ta
 by_cases h0:l=[]
 ·subst h0
  obtain⟨q,cap,rfl,hcap,-,-⟩:=hown.ents
  rw[List.append_nil]
  refine⟨q,cap,w,⟨run_append_nothing (P:=Tryz.prog) w 32 32 32 64 i Tryz.underlying32 hi q xs.length cap hcap (.slice p 0 c) ?_⟩,hown,Aside.refl _ _,hcap,fun k hk=>.inl hk⟩
  cases p with
  |none=>exact Src.ofNil w Tryz.underlying32 c
  |some a=>exact Src.ofSlice w Tryz.underlying32 a 0 c [] (by simp) (fun j u hj=>by simp at hj) (fun u hu=>by cases hu)
 ·have hpos:0<l.length:=List.length_pos_iff.2 h0
  obtain⟨b,o,rfl,hbl,-⟩:=h 0 hpos
  have hcell:∀j u,(aN l)[j]?=some u->w.cell? (Addr.add ⟨b,o,none⟩ j)=some u:=fun j u hj=>by
   have hj2:j<l.length*3:=by
    have:=(List.getElem?_eq_some_iff.1 hj).1
    rw[dK] at this
    exact this
   have hd:j=j / 3*3+j % 3:=by omega
   have hq:j / 3<l.length:=by omega
   obtain⟨b',o',he,-,k0,k1,k2⟩:=h (j / 3) hq
   simp only[Option.some.injEq,Addr.mk.injEq,and_true] at he
   obtain⟨rfl,rfl⟩:=he
   rw[hd,dL l (j / 3) hq (j % 3) (by omega)] at hj
   rw[Lib.add_plain,hd]
   have h3:j % 3=0∨j % 3=1∨j % 3=2:=by omega
   rcases h3 with h3 | h3 | h3 <;> rw[h3] at hj ⊢ <;> simp only[iN,List.getElem?_cons_zero,List.getElem?_cons_succ,Option.some.injEq] at hj <;> subst hj
   ·exact k0
   ·rw[<-Nat.add_assoc];exact k1
   ·rw[<-Nat.add_assoc];exact k2
  have hone:∀u∈aN l,u.oneCell'=true:=fun u hu=>by
   unfold aN at hu
   obtain⟨x,hx,hu⟩:=List.mem_flatten.1 hu
   obtain⟨e,_,rfl⟩:=List.mem_map.1 hx
   unfold iN at hu
   simp only[List.mem_cons,List.not_mem_nil,or_false] at hu
   rcases hu with rfl | rfl | rfl <;> rfl
  obtain⟨g,cap,W,hr,hm,hgr,hgb,_⟩:=run_append_lies (P:=Tryz.prog) w 32 32 B 64 i pj 3 24 Tryz.underlying32 hi hz hsz hby rfl (by decide) v xs.length (aN xs) hown ⟨b,o,none⟩ l.length c (aN l) (dK l) hcell hone hpos (by unfold maxLen;omega) (by omega) hB w.1.size rfl
  rw[<-dR,<-List.length_append] at hm
  rw[<-List.length_append] at hr
  have hH:bf W B (.slice (some ⟨g,0,none⟩) (xs++l).length cap) (xs++l):=hm
  refine⟨some ⟨g,0,none⟩,cap,W,⟨hr⟩,hH,bY hgr,?_,?_⟩
  ·obtain⟨q',cap',he,h2,-⟩:=hH.ents
   injection he with _ _ e2
   omega
  ·intro k hk
   simp only[Value.ownBlock,Option.some.injEq] at hk
   subst hk
   rcases hgb with h1 | h1
   ·exact .inl h1
   ·exact .inr (by omega)
theorem gI{B:Nat}{v:Value}{xs l:List Ent}{p:OA}{c:Nat}{w:World}(hown:bf w B v xs)(h:cQ w p l)(hlen:(xs.length+l.length)*24<=140737488355328)(hB:B<=w.1.size){ops:Array Oper}{rest:List Oper}{o:Oper}{a:Act}{Q:Exit->Act->World->Prop}{y x:Operand}(ht:o.type=32)(hg:o.guard=none)(hop:o.op=Op.call { callee:=Callee.builtin Builtin.append,args:=#[y,x],argTypes:=#[32,32] })(hs:a.eval y=v)(hx:a.eval x=.slice p l.length c)(hK:∀ys q cap W,Hid (ys=xs++l)->bf W B (.slice q ys.length cap) ys->Aside (fun k=>v.ownBlock=some k) w W->(∀k,(Value.slice q ys.length cap).ownBlock=some k->v.ownBlock=some k∨w.1.size<=k)->wpList Tryz.prog ops Q rest (a.put o.dst (.slice q ys.length cap)) W):
  wpList Tryz.prog ops Q (o::rest) a w:=by
 obtain⟨q,cap,W,hr,hm,ha,-,hb⟩:=og B v xs l p c w hown h hlen hB
 have hr':bC Tryz.prog 32 32 o.type v (.slice p l.length c) w (.slice q (xs++l).length cap) W:=by rw[ht];exact hr
 exact az hr' hg hop hs hx (hK _ q cap W (vQ rfl) hm ha hb)
theorem mL{B:Nat}{v:Value}{xs:List Ent}{w W:World}(ha:Aside (fun k=>v.ownBlock=some k) w W)(hown:bf w B v xs)(hB:B<=w.1.size):Below B w W :=
 ha.below hB fun k hk hc=>by have:=(hown.lt k hc).1;omega
theorem mM(w:World):bf (w.alloc (.cells #[] 64)) w.1.size (.slice (some ⟨w.1.size,0,none⟩) 0 0) [] :=
 ⟨rfl,.inr ⟨w.1.size,0,#[],rfl,vX,ag w _,vX,by decide,rfl,rfl⟩⟩
theorem nE(p:OA)(c:Nat)(l:List Ent)(hl:l.length*24<=140737488351232)(w:World)(h:cQ w p l):Calls Tryz.prog 50 #[.slice p l.length c] w fun e w'=>∃q cap,e=.returned (.slice q l.length cap)∧bf w' w.1.size (.slice q l.length cap) l∧Below w.1.size w w':=by
  cases p with
  |none=>
    have h0:l=[]:=by
      cases l with
      |nil=>rfl
      |cons x r=>
        obtain⟨b,o,hp,-⟩:=h 0 (by simp)
        cases hp
    subst h0
    have hq:=oi 0 c w
    go_enter Tryz.func50,Tryz.ntmps50
    go_wp2
    go_ret
    exact⟨none,0,rfl,dx _ _,vZ⟩
  |some a=>
    have HA:=vQ (h.on ((Below.refl _ w).alloc vX (.cells #[] 64)))
    have HM:=vQ (mM w)
    have HB:Hid (Below w.1.size w (w.alloc (.cells #[] 64))):=vY
    have hq:=oh a l.length c w
    clear h
    go_enter Tryz.func50,Tryz.ntmps50
    go_wp2_with (first
      | (at_builtin
         refine gI (xs:=[]) HM.out HA.out (by simp;omega) (by simp) rfl rfl rfl rfl rfl ?_
         intro ys q cap W HY hh ha hk2
         have HB2:=vQ (mL ha HM.out (by simp))
         have HYs:=vQ hh
         clear ha hk2 hh)
      |fail)
    go_ret
    have e:ys=l:=HY.out
    rw[e] at HYs
    rw[e]
    exact⟨q,cap,rfl,HYs.out,HB.out.trans HB2.out⟩
theorem kS{w:World}{B a M n:Nat}{v:Value}{g:Int->Option Value}{s:Wk}{G:Nat->Prop}(h:ao w B a M n v g s G):Calls Tryz.prog 17 #[.pointer (some ⟨a,0,none⟩)] w fun e w'=>∃q cap,e=.returned (.slice q s.ents.length cap)∧bf w' w.1.size (.slice q s.ents.length cap) s.ents∧Below w.1.size w w':=by
 have c0:w.cell? ⟨a,5,none⟩=some v:=h.cell 5
 obtain⟨p,c,hv,-,he,-⟩:=h.ents.ents
 subst hv
 have HC:=vQ (nE p c s.ents h.good.ents w he)
 clear h he
 go_enter Tryz.func17,Tryz.ntmps17
 go_wp2_with fail
 refine HC.out.mono ?_
 rintro e w' ⟨q,cap,rfl,h1,h2⟩
 have H1:=vQ h1
 have H2:=vQ h2
 clear h1 h2
 go_wp2
 go_ret
 exact⟨q,cap,rfl,H1.out,H2.out⟩
theorem tC(b c:Nat)(l:List Int)(hl:l.length<=100)(w:World)(h:∀j (hj:j<l.length),w.cell? ⟨b,j,none⟩=some (.int .i64 l[j])):
  Calls Tryz.prog 28 #[.slice (some ⟨b,0,none⟩) l.length c] w fun e w'=>e=.returned (.bool (l.all (Fr.within Fr.S)))∧w'=w:=by
 have H:=vQ h
 obtain⟨R,hR⟩:∃R,R=l.all (Fr.within Fr.S):=⟨_,rfl⟩
 rw[<-hR]
 have HR:=vQ hR
 clear h hR
 go_enter Tryz.func28,Tryz.ntmps28
 go_wp2
 go_loop [7] (fun v7=>∃i:Nat,i<=l.length∧v7=.int .i64 i∧Hid ((l.take i).all (Fr.within Fr.S)=true)) (fun v7=>l.length-(intOf v7).toNat)
 case atStart=>exact⟨0,by omega,rfl,rfl⟩
 case round=>
  obtain⟨i,hi,rfl,HT⟩:=hrel
  by_cases hlt:i<l.length
  ·have hlt':(i:Int)<(l.length:Int):=by omega
   have hc:=H.out i hlt
   obtain⟨x,hx⟩:∃x,x=l[i]:=⟨_,rfl⟩
   rw[<-hx] at hc
   by_cases hin:0<=x∧x<1099511627776
   ·have g0:decide (x<0)=false:=decide_eq_false (by omega)
    have g1:decide ((1099511627776:Int)<=x)=false:=decide_eq_false (by omega)
    have HT2:Hid ((l.take (i+1)).all (Fr.within Fr.S)=true):=by
     show _=_
     rw[List.take_succ_eq_append_getElem hlt,List.all_append,HT.out,<-hx]
     simp[Fr.within,Fr.S,hin]
    clear hin hx HT
    go_wp2
    go_round
    case rel=>exact⟨i+1,by omega,by go_num,HT2⟩
    case measure=>simp[intOf];omega
   ·have HF:Hid (R=false):=by
     show _=_
     rw[HR.out,List.all_eq_false]
     have hf:Fr.within Fr.S x=false:=decide_eq_false hin
     exact⟨x,by rw[hx];exact List.getElem_mem hlt,by rw[hf];decide⟩
    clear hx HT
    by_cases h0:x<0
    ·have g0:decide (x<0)=true:=decide_eq_true h0
     clear hin
     go_wp2
     go_ret
     exact⟨by rw[HF.out];rfl,rfl⟩
    ·have g0:decide (x<0)=false:=decide_eq_false h0
     have g1:decide ((1099511627776:Int)<=x)=true:=decide_eq_true (by omega)
     clear hin h0
     go_wp2
     go_ret
     exact⟨by rw[HF.out];rfl,rfl⟩
  ·have hii:i=l.length:=by omega
   subst hii
   have HF:Hid (R=true):=by
    show _=_
    have:=HT.out
    rw[List.take_length] at this
    rw[HR.out,this]
   clear HT hlt hi
   go_wp2
   go_ret
   exact⟨by rw[HF.out];rfl,rfl⟩
theorem tI{w:World}{B a M n:Nat}{v:Value}{g:Int->Option Value}{s:Wk}{G:Nat->Prop}(h:ao w B a M n v g s G)(m:Int)(hm:Fr.i64 m):Calls Tryz.prog 42 #[.pointer (some ⟨a,0,none⟩),.int .i64 m] w fun e w'=>e=.returned (.tuple #[.int .i64 (Sc.placeAt s m),.bool (s.sch m).isSome])∧Below w.1.size w w':=by
 have c0:w.cell? ⟨a,0,none⟩=some (.map (some M)):=h.cell 0
 have hk:=h.map.look_ok hm
 have HB:Hid (∀o,Below w.1.size w (w.alloc o)):=fun o=>vY
 cases hs:s.sch m with
 |none=>
  have hp:Sc.placeAt s m=0:=by unfold Sc.placeAt;rw[hs]
  rw[h.unknown hs] at hk
  simp only[Option.getD_none,Option.isSome_none,ey] at hk
  rw[hp]
  clear h hs hp
  go_enter Tryz.func42,Tryz.ntmps42
  go_wp2
  go_ret2
  exact⟨rfl,HB.out _⟩
 |some k=>
  obtain⟨p,c,e1,-,-,-⟩:=h.known hs
  have hp:Sc.placeAt s m=k.place:=by unfold Sc.placeAt;rw[hs]
  rw[e1] at hk
  simp only[Option.getD_some,Option.isSome_some] at hk
  rw[hp]
  clear h hs hp e1
  go_enter Tryz.func42,Tryz.ntmps42
  go_wp2
  go_ret2
  exact⟨rfl,HB.out _⟩
end
section
open Go.RowKit Go.Maps
theorem eN{w:World}{B B':Nat}{u:AV}{s:List Col}(h:cL w B u s)(hB:B'<=B):cL w B' u s:=by
 obtain⟨v,us,Fs,e,hb,hl⟩:=h.out
 exact⟨v,us,Fs,e,hb.low hB,hl⟩
theorem cL.beside{F:Nat->Prop}{w w':World}{B:Nat}{u:AV}{s:List Col}(h:cL w B u s)(ha:Aside F w w')(hF:∀k,F k->k<B):cL w' B u s:=by
 obtain⟨v,us,Fs,rfl,hb,hl⟩:=h.out
 exact⟨v,us,Fs,rfl,hb.aside ha (fun g hg hf=>by have:=(hb.lt g hg).1;have:=hF g hf;omega) (fun j hj k hk hf=>by have:=(hb.range j hj k hk).1;have:=hF k hf;omega),hl⟩
theorem nD(s:List Col)(p:OA)(c:Nat)(w:World)(hs:s.length*120<=140737488351232)(hx:bg w p s)(he:Sch.err s=0)(hw:∀x∈s,x.wf):
  Calls Tryz.prog 51 #[.agg #[.slice p s.length c]] w fun e w'=>∃q cap,e=.returned (.agg #[.slice q s.length cap])∧cL w' w.1.size #[.slice q s.length cap] (s.map Col.fix)∧Below w.1.size w w':=by
 obtain⟨W0,hW0⟩:∃W0,W0=(w.alloc (.cells #[.slice p s.length c] 30)).alloc (.cells #[.slice none 0 0] 30):=⟨_,rfl⟩
 have HB0:Hid (Below w.1.size w W0):=by rw[hW0];exact vY.alloc (by simp) _
 have hK0:W0.1[w.1.size+1]?=some (.cells #[.slice none 0 0] 30):=by
  rw[hW0]
  have:=ag (w.alloc (.cells #[.slice p s.length c] 30)) (.cells #[.slice none 0 0] 30)
  simpa using this
 have HK0:=vQ hK0
 have HW0:Hid ((w.alloc (.cells #[.slice p s.length c] 30)).alloc (.cells #[.slice none 0 0] 30)=W0):=hW0.symm
 have HE:=vQ (nA s p c W0 hs (hx.on HB0.out) hw)
 have hb:jJ s=Sch.bytes s:=by unfold jJ;rw[if_pos he]
 have hle:(Sch.bytes s).length<=1024:=(Sch.err_open he).2.2.2
 have hrd:=Sch.read_put he hw
 rw[hb,he] at HE
 have HR:=vQ hrd
 have hz0:W0.1.size=w.1.size+2:=by rw[hW0];simp
 obtain⟨bs,hbs⟩:∃bs,bs=Sch.bytes s:=⟨_,rfl⟩
 rw[<-hbs] at HE hle HR
 clear hW0 hx he hw hb hrd hbs hK0
 go_enter Tryz.func51,Tryz.ntmps51
 go_wp2_with fail
 rw[HW0.out]
 refine HE.out.mono ?_
 rintro e w1 ⟨q,cap,rfl,hA,hc,hb1⟩
 have HD:=vQ (nC q bs cap (by omega) hc w1 hA)
 rw[HR.out] at HD
 have HB1:=vQ (HB0.out.trans (hb1.mono HB0.out.size))
 have HK1:=vQ ((hb1.block _ (by omega)).trans HK0.out)
 have hz1:=hb1.size
 clear hA hc hb1 HE HK0 HW0
 go_wp2_with fail
 refine HD.out.mono ?_
 rintro e w2 ⟨u,rfl,ho,hb2⟩
 obtain⟨p2,c2,hu,hl2,hc2,-⟩:=ho.lies.out
 rw[List.length_map] at hu hl2 hc2
 subst hu
 obtain⟨W3,hW3⟩:∃W3,W3=(w2.alloc (.cells #[.slice p2 s.length c2] 30)).setCell ⟨w.1.size+1,0,none⟩ (.slice p2 s.length c2):=⟨_,rfl⟩
 have hK2:=(hb2.block _ (aw HK1.out)).trans HK1.out
 have hz2:=hb2.size
 have ha:Aside (fun k=>k=w.1.size+1) w2 W3:=by
  rw[hW3]
  exact((Aside.refl (fun k=>k=w.1.size+1) w2).alloc _).setCell (p:=⟨w.1.size+1,0,none⟩) (.inl rfl) _
 have HK3:Hid (W3.1[w.1.size+1]?=some (.cells #[.slice p2 s.length c2] 30)):=by
  show _=_
  rw[hW3]
  simp only[World.setCell,Array.getElem?_modify,aD _ _ (aw hK2),hK2,if_true,Option.map_some]
  rfl
 have HO:Hid (cL W3 w.1.size #[.slice p2 s.length c2] (s.map Col.fix)):=eN (ho.beside ha (fun k hk=>by omega)) (by omega)
 have HB3:Hid (Below w.1.size w W3):=(HB1.out.trans (hb2.mono HB1.out.size)).trans (ha.below (by omega) (fun k hk hc=>by omega))
 have y1:∀o,(w2.alloc o).cell? ⟨w.1.size+1,0,none⟩=some (.slice none 0 0):=fun o=>aa ((aD _ _ (aw hK2)).trans hK2) 0
 have y2:∀o,(w2.alloc o).frozen? ⟨w.1.size+1,0,none⟩=false:=fun o=>by simp[World.frozen?,(aD w2 o (aw hK2)).trans hK2]
 have HW3:=vQ hW3
 clear ho hb2 hl2 hc2 ha hW3 hK2 HD HR HB1 HK1
 go_wp2
 rw[<-HW3.out]
 refine bodyPost_ret (results_cell_row rfl _ _ (w.1.size+1) _ _ _ _ rfl HK3.out Tryz.underlying30 rfl (by kernel_rfl)) rfl ?_
 exact⟨p2,c2,rfl,HO.out,HB3.out⟩
end
section
open Go.RowKit
theorem aO{w:World}{g:Nat}{T:TypeId}{c0 c1 c2 c3 c4 c5 c6 c7 c8 c9 c10:Value}(h:w.1[g]?=some (.cells #[c0,c1,c2,c3,c4,c5,c6,c7,c8,c9,c10] T (0,0))):w.cell? ⟨g,0,none⟩=some c0∧w.cell? ⟨g,1,none⟩=some c1∧w.cell? ⟨g,2,none⟩=some c2∧w.cell? ⟨g,3,none⟩=some c3∧w.cell? ⟨g,4,none⟩=some c4∧w.cell? ⟨g,5,none⟩=some c5∧w.cell? ⟨g,6,none⟩=some c6∧w.cell? ⟨g,7,none⟩=some c7∧w.cell? ⟨g,8,none⟩=some c8∧w.cell? ⟨g,9,none⟩=some c9∧w.cell? ⟨g,10,none⟩=some c10 :=
 ⟨aa h 0,aa h 1,aa h 2,aa h 3,aa h 4,aa h 5,aa h 6,aa h 7,aa h 8,aa h 9,aa h 10⟩
theorem iz{w:World}{g:Nat}{C:AV}{T:TypeId}(h:w.1[g]?=some (.cells C T (0,0))):w.frozen? ⟨g,0,none⟩=false∧w.frozen? ⟨g,1,none⟩=false∧w.frozen? ⟨g,2,none⟩=false∧w.frozen? ⟨g,3,none⟩=false∧w.frozen? ⟨g,4,none⟩=false∧w.frozen? ⟨g,5,none⟩=false∧w.frozen? ⟨g,6,none⟩=false∧w.frozen? ⟨g,7,none⟩=false∧w.frozen? ⟨g,8,none⟩=false∧w.frozen? ⟨g,9,none⟩=false∧w.frozen? ⟨g,10,none⟩=false :=
 ⟨ac h 0,ac h 1,ac h 2,ac h 3,ac h 4,ac h 5,ac h 6,ac h 7,ac h 8,ac h 9,ac h 10⟩
theorem gi{w:World}{g:Nat}{T:TypeId}{c0 c1 c2 c3 c4 c5 c6 c7 c8 c9 c10:Value}(h:w.1[g]?=some (.cells #[c0,c1,c2,c3,c4,c5,c6,c7,c8,c9,c10] T (0,0))):(∀o,(w.alloc o).cell? ⟨g,0,none⟩=some c0)∧(∀o,(w.alloc o).cell? ⟨g,1,none⟩=some c1)∧(∀o,(w.alloc o).cell? ⟨g,2,none⟩=some c2)∧(∀o,(w.alloc o).cell? ⟨g,3,none⟩=some c3)∧(∀o,(w.alloc o).cell? ⟨g,4,none⟩=some c4)∧(∀o,(w.alloc o).cell? ⟨g,5,none⟩=some c5)∧(∀o,(w.alloc o).cell? ⟨g,6,none⟩=some c6)∧(∀o,(w.alloc o).cell? ⟨g,7,none⟩=some c7)∧(∀o,(w.alloc o).cell? ⟨g,8,none⟩=some c8)∧(∀o,(w.alloc o).cell? ⟨g,9,none⟩=some c9)∧(∀o,(w.alloc o).cell? ⟨g,10,none⟩=some c10):=by
 have hk:∀o,(w.alloc o).1[g]?=some (.cells #[c0,c1,c2,c3,c4,c5,c6,c7,c8,c9,c10] T (0,0)):=fun o=>(aD w o (aw h)).trans h
 exact⟨fun o=>aa (hk o) 0,fun o=>aa (hk o) 1,fun o=>aa (hk o) 2,fun o=>aa (hk o) 3,fun o=>aa (hk o) 4,fun o=>aa (hk o) 5,fun o=>aa (hk o) 6,fun o=>aa (hk o) 7,fun o=>aa (hk o) 8,fun o=>aa (hk o) 9,fun o=>aa (hk o) 10⟩
theorem ft{w:World}{g:Nat}{C:AV}{T:TypeId}(h:w.1[g]?=some (.cells C T (0,0))):(∀o,(w.alloc o).frozen? ⟨g,0,none⟩=false)∧(∀o,(w.alloc o).frozen? ⟨g,1,none⟩=false)∧(∀o,(w.alloc o).frozen? ⟨g,2,none⟩=false)∧(∀o,(w.alloc o).frozen? ⟨g,3,none⟩=false)∧(∀o,(w.alloc o).frozen? ⟨g,4,none⟩=false)∧(∀o,(w.alloc o).frozen? ⟨g,5,none⟩=false)∧(∀o,(w.alloc o).frozen? ⟨g,6,none⟩=false)∧(∀o,(w.alloc o).frozen? ⟨g,7,none⟩=false)∧(∀o,(w.alloc o).frozen? ⟨g,8,none⟩=false)∧(∀o,(w.alloc o).frozen? ⟨g,9,none⟩=false)∧(∀o,(w.alloc o).frozen? ⟨g,10,none⟩=false):=by
 have hk:∀o,(w.alloc o).1[g]?=some (.cells C T (0,0)):=fun o=>(aD w o (aw h)).trans h
 exact⟨fun o=>ac (hk o) 0,fun o=>ac (hk o) 1,fun o=>ac (hk o) 2,fun o=>ac (hk o) 3,fun o=>ac (hk o) 4,fun o=>ac (hk o) 5,fun o=>ac (hk o) 6,fun o=>ac (hk o) 7,fun o=>ac (hk o) 8,fun o=>ac (hk o) 9,fun o=>ac (hk o) 10⟩
end
section
open Go.RowKit Go.Maps
section
variable {w:World} {B a M n:Nat} {v:Value} {g:Int->Option Value} {s:Wk} {G:Nat->Prop}
theorem lg(pp:OA)(nn cc:Nat)(P:Int)(w:World):(Instr.field 95 (.agg #[.slice pp nn cc,.int .i64 P]) 1).run Tryz.prog w=.ok (.int .i64 P) w:=by kernel_rfl
theorem jH(pp:OA)(nn cc:Nat)(P:Int)(w:World):(Instr.field 95 (.agg #[.slice pp nn cc,.int .i64 P]) 0).run Tryz.prog w=.ok (.agg #[.slice pp nn cc]) w:=by kernel_rfl
theorem Below.aside_cell{w w':World}{F:Nat->Prop}{p:Addr}{u:Value}(ha:Aside F w w')(hl:p.block<w.1.size)(hp:¬F p.block)(h:w.cell? p=some u):w'.cell? p=some u:=(ha.cell hl hp).trans h
theorem ao.learned{w1 w2:World}{Z:Nat}{q:OA}{cap:Nat}{m:Int}{c:List Col}{pl:Int}(h:ao w1 B a M n v g s G)(hk:dn w2 M (n+1) (fun k=>if k=m then some (.agg #[.slice q c.length cap,.int .i64 pl]) else g k))(ha:Aside (fun k=>k=M) w1 w2)(ho:cL w1 Z #[.slice q c.length cap] (c.map Col.fix))(hX:∀i,(i=a∨i=M∨v.ownBlock=some i)∨G i->i<Z)(hg:Sc.Good (Sc.learn s m c pl)):
  ao ((w2.setCell ⟨a,1,none⟩ (.int .i64 m)).setCell ⟨a,2,none⟩ (.int .i64 0)) B a M (n+1) v (fun k=>if k=m then some (.agg #[.slice q c.length cap,.int .i64 pl]) else g k) (Sc.learn s m c pl) G∧Aside (aQ a M v) w1 ((w2.setCell ⟨a,1,none⟩ (.int .i64 m)).setCell ⟨a,2,none⟩ (.int .i64 0)):=by
 have haM:=h.aM
 have hl2:w2.1[a]?=some (.cells (bv M s v) 68):=(ha.block a h.lt haM).trans h.lies
 have hl3:(w2.setCell ⟨a,1,none⟩ (.int .i64 m)).1[a]?=some (.cells (bv M { s with number:=m } v) 68):=m9 hl2 1 _ rfl
 have hl4:((w2.setCell ⟨a,1,none⟩ (.int .i64 m)).setCell ⟨a,2,none⟩ (.int .i64 0)).1[a]?=some (.cells (bv M (Sc.learn s m c pl) v) 68):=m9 hl3 2 _ rfl
 have hs:Aside (fun k=>k=a) w2 ((w2.setCell ⟨a,1,none⟩ (.int .i64 m)).setCell ⟨a,2,none⟩ (.int .i64 0)):=((Aside.refl (fun k=>k=a) w2).setCell (p:=⟨a,1,none⟩) (.inl rfl) _).setCell (p:=⟨a,2,none⟩) (.inl rfl) _
 have hA:Aside (aQ a M v) w1 ((w2.setCell ⟨a,1,none⟩ (.int .i64 m)).setCell ⟨a,2,none⟩ (.int .i64 0)):=(ha.mono fun i _ hi=>.inr (.inl hi)).trans hs (fun i _ hi=>.inl hi)
 refine⟨⟨hl4,hk.keep (hs.block M hk.lt (fun hc=>haM hc.symm)),?_,h.base,hg,fun k hk2=>Nat.lt_of_lt_of_le (h.low k hk2) hA.size,h.off,fun k=>?_⟩,hA⟩
 ·exact(h.ents.aside ha (fun k hk2 hc=>h.vM (by rw[hk2,hc]))).aside hs (fun k hk2 hc=>h.va (by rw[hk2,hc]))
 ·show rF _ _ (if k=m then some ⟨c.map Col.fix,pl⟩ else s.sch k) _
  by_cases hkm:k=m
  ·rw[if_pos hkm]
   simp only[hkm,if_true]
   refine⟨q,cap,by rw[List.length_map],?_,?_,?_⟩
   ·obtain⟨_,_,_,_,_,hl⟩:=ho.out
    exact hl
   ·obtain⟨p',c',e1,_,e2,_⟩:=ho.lies.out
    simp only[Array.mk.injEq,List.cons.injEq,and_true] at e1
    injection e1 with _ _ e3
    rw[e3]
    exact e2
   ·exact(rq (F:=fun i=>(i=a∨i=M∨v.ownBlock=some i)∨G i) ho (fun i hi=>.inl (hX i hi))).step (hA.mono fun i _ hi=>.inl hi) fun i hi=>.inl hi
  ·rw[if_neg hkm]
   simp only[if_neg hkm]
   exact(h.sch k).step (hA.mono fun i _ hi=>.inl hi) fun i hi=>.inl hi
theorem tL(h:ao w B a M n v g s G)(m:Int)(c:List Col)(p:OA)(cc:Nat)(pl:Int)(hm:0<=m∧m<2147483648)(hle:s.number<=m)(hpl:0<=pl∧pl<1099511627776)(he:Sch.err c=0)(hwf:∀x∈c,x.wf)(hs:c.length*120<=140737488351232)(hx:bg w p c)(hn:n<1000000000):
  Calls Tryz.prog 46 #[.pointer (some ⟨a,0,none⟩),.int .i64 m,.agg #[.slice p c.length cc],.int .i64 pl] w fun e w'=>e=.returned (.tuple #[])∧bW w w' B a M (n+1) v (Sc.learn s m c pl) G:=by
 have c0:w.cell? ⟨a,0,none⟩=some (.map (some M)):=h.cell 0
 obtain⟨W0,hW0⟩:∃W0,W0=w.alloc (.cells #[.slice p c.length cc] 30):=⟨_,rfl⟩
 have hb0:Below w.1.size w W0:=by rw[hW0];exact vY
 have hbk:W0.1[w.1.size]?=some (.cells #[.slice p c.length cc] 30):=by rw[hW0];exact ag w _
 have y0:W0.cell? ⟨a,0,none⟩=some (.map (some M)):=ab hb0 c0
 have y1:W0.cell? ⟨w.1.size,0,none⟩=some (.slice p c.length cc):=aa hbk 0
 have hz0:W0.1.size=w.1.size+1:=by rw[hW0];simp
 have HW0:Hid (w.alloc (.cells #[.slice p c.length cc] 30)=W0):=hW0.symm
 have HH:=vQ (h.on hb0)
 have HB0:=vQ hb0
 have HC:Hid (∀w',Below W0.1.size W0 w'->Calls Tryz.prog 51 #[.agg #[.slice p c.length cc]] w' fun e w''=>∃q cap,e=.returned (.agg #[.slice q c.length cap])∧cL w'' W0.1.size #[.slice q c.length cap] (c.map Col.fix)∧Below W0.1.size W0 w''):=fun w' hb=>(nD c p cc w' hs (hx.on (hb0.trans (hb.mono hb0.size))) he hwf).mono fun e w'' ⟨q,cap,h1,h2,h3⟩=>⟨q,cap,h1,eN h2 hb.size,hb.trans (h3.mono hb.size)⟩
 have HGd:=vQ (Sc.good_learn h.good m c pl hm hle he hwf hpl)
 have hal:=h.lt
 have hMl:=h.map.lt
 have haM:=h.aM
 have him:Fr.i64 m:=⟨by omega,by omega⟩
 have HX:Hid (∀i,(i=a∨i=M∨v.ownBlock=some i)∨G i->i<W0.1.size):=fun i hi=>by
  rcases hi with (hi | hi | hi) | hi
  ·omega
  ·omega
  ·have:=(h.ents.lt i hi).2;omega
  ·have:=h.low i hi;omega
 clear h hx he hwf hW0 hb0 hbk c0
 go_enter Tryz.func46,Tryz.ntmps46
 go_wp2_with fail
 rw[HW0.out]
 go_region_held3 (fun w'=>w'.cell? ⟨a,0,none⟩=some (.map (some M))∧w'.cell? ⟨w.1.size,0,none⟩=some (.slice p c.length cc)) (go_keep) (first
  | (go_at_call 51;refine(HC.out _ (vZ.drew)).mono ?_;rintro e w1 ⟨q,cap,rfl,ho,hb1⟩;have z0:=ab hb1 y0;have z1:=ab hb1 y1;have HO:=vQ ho;have HB1:=vQ hb1;obtain⟨w2,hr2,hk2,ha2,hs2⟩:=(HH.out.on HB1.out).map.put him hn (.agg #[.slice q c.length cap,.int .i64 pl]);have t0:=Below.aside_cell ha2 (by have:=HB1.out.size;show a<w1.1.size;omega) haM z0;have t1:=Below.aside_cell ha2 (by have:=HB1.out.size;show w.1.size<w1.1.size;omega) (by show ¬w.1.size=M;omega) z1;have HK2:=vQ hk2;have HA2:=vQ ha2;clear ho hb1 hk2 ha2)
  |fail)
 have hw1:=HH.out.on HB1.out
 obtain⟨hfin,hasd⟩:=hw1.learned HK2.out HA2.out HO.out HX.out HGd.out
 have HFin:=vQ hfin
 have HAs:=vQ ((ae (HB0.out.trans (HB1.out.mono HB0.out.size)) (aQ a M v)).trans hasd (fun _ _ h=>h))
 have hl2:w2.1[a]?=some (.cells (bv M s v) 68):=(HA2.out.block a hw1.lt haM).trans hw1.lies
 have u1:w2.cell? ⟨a,1,none⟩=some (.int .i64 s.number):=aa hl2 1
 have u2:w2.cell? ⟨a,2,none⟩=some (.int .i64 s.since):=aa hl2 2
 have f1:=ac hl2 1
 have f2:=ac hl2 2
 clear hw1 hfin hasd hl2 HO HK2 HA2 HB1 HH
 go_wp2
 go_end0
 exact⟨rfl,v,_,HFin.out,HAs.out,fun _ h=>.inl h⟩
theorem ao.value(h:ao w B a M n v g s G)(m:Int):∃pp nn cc,(g m).getD ey=.agg #[.slice pp nn cc,.int .i64 (Sc.placeAt s m)]:=by
 cases hs:s.sch m with
 |none=>
  rw[h.unknown hs,show Sc.placeAt s m=0 by unfold Sc.placeAt;rw[hs]]
  exact⟨none,0,0,rfl⟩
 |some k=>
  obtain⟨p,c,e1,-,-,-⟩:=h.known hs
  rw[e1,show Sc.placeAt s m=k.place by unfold Sc.placeAt;rw[hs]]
  exact⟨p,_,c,rfl⟩
theorem ao.entered{w1:World}{g4 cap4:Nat}{e:Ent}{s':Wk}(h:ao w B a M n v g s G)(hn:bf w1 B (.slice (some ⟨g4,0,none⟩) (s.ents.length+1) cap4) (s.ents++[e]))(hg:w.grownBy w1 v.ownBlock)(h4:v.ownBlock=some g4∨w.1.size<=g4)(hs:s'={ s with ents:=s.ents++[e] })(hgd:Sc.Good s'):
  ao (w1.setCell ⟨a,5,none⟩ (.slice (some ⟨g4,0,none⟩) (s.ents.length+1) cap4)) B a M n (.slice (some ⟨g4,0,none⟩) (s.ents.length+1) cap4) g s' G∧Aside (aQ a M v) w (w1.setCell ⟨a,5,none⟩ (.slice (some ⟨g4,0,none⟩) (s.ents.length+1) cap4)):=by
 have ha:=bY hg
 have hl1:w1.1[a]?=some (.cells (bv M s v) 68):=(ha.block a h.lt h.va).trans h.lies
 have hs1:Aside (fun k=>k=a) w1 (w1.setCell ⟨a,5,none⟩ (.slice (some ⟨g4,0,none⟩) (s.ents.length+1) cap4)):=(Aside.refl (fun k=>k=a) w1).setCell (p:=⟨a,5,none⟩) (.inl rfl) _
 have hA:Aside (aQ a M v) w (w1.setCell ⟨a,5,none⟩ (.slice (some ⟨g4,0,none⟩) (s.ents.length+1) cap4)):=(ha.mono fun i _ hi=>.inr (.inr hi)).trans hs1 (fun i _ hi=>.inl hi)
 have hal:=h.lt
 have hMl:=h.map.lt
 have hga:g4≠a:=fun hc=>by
  rcases h4 with h4 | h4
  ·exact h.va (by rw[h4,hc])
  ·omega
 have hgM:g4≠M:=fun hc=>by
  rcases h4 with h4 | h4
  ·exact h.vM (by rw[h4,hc])
  ·omega
 subst hs
 refine⟨⟨m9 hl1 5 _ rfl,?_,?_,h.base,hgd,fun k hk=>Nat.lt_of_lt_of_le (h.low k hk) hA.size,fun k hk=>⟨(h.off k hk).1,(h.off k hk).2.1,fun hc=>?_⟩,fun m=>?_⟩,hA⟩
 ·refine h.map.keep ?_
  rw[hs1.block M (Nat.lt_of_lt_of_le h.map.lt ha.size) (fun hc=>h.aM hc.symm)]
  exact ha.block M h.map.lt h.vM
 ·have:=hn.aside hs1 (fun k hk hc=>by simp only[Value.ownBlock,Option.some.injEq] at hk;exact hga (by rw[hk,hc]))
  exact this
 ·simp only[Value.ownBlock,Option.some.injEq] at hc
  rcases h4 with h4 | h4
  ·exact(h.off k hk).2.2 (by rw[h4,hc])
  ·have:=h.low k hk;omega
 ·refine(h.sch m).step (hA.mono fun i _ hi=>.inl hi) fun i hi=>?_
  rcases hi with (hi | hi | hi) | hi
  ·exact .inl (.inl (.inl hi))
  ·exact .inl (.inl (.inr (.inl hi)))
  ·simp only[Value.ownBlock,Option.some.injEq] at hi
   rcases h4 with h4 | h4
   ·exact .inl (.inl (.inr (.inr (by rw[h4,hi]))))
   ·exact .inr (by omega)
  ·exact .inl (.inr hi)
end
end
end Go.Proofs.YtlgfdgdlaahpfaaGreatDoor
