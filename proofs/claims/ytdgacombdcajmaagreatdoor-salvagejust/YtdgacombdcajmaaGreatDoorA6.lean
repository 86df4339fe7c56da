import Derived.Test.YtdgacombdcajmaaGreatDoorB20
import Derived.Test.YtdgacombdcajmaaGreatDoorB15
import Derived.Test.YtdgacombdcajmaaGreatDoorB19
set_option maxRecDepth 100000
set_option maxHeartbeats 4000000
namespace Go.Proofs.YtdgacombdcajmaaGreatDoor
section
open Go.RowKit
theorem jV(es fs:List Ent)(i:Nat)(h1:i<es.length)(h2:i<fs.length)(h:(es.take i).map Ent.tup=(fs.take i).map Ent.tup)(he:es[i].tup=fs[i].tup):(es.take (i+1)).map Ent.tup=(fs.take (i+1)).map Ent.tup:=by
 rw[List.take_succ_eq_append_getElem h1,List.take_succ_eq_append_getElem h2,List.map_append,List.map_append,h]
 simp[he]
theorem uW(p q:OA)(c d:Nat)(es fs:List Ent)(hl:es.length*24<=140737488351232)(w:World)(h1:lU w p es)(h2:lU w q fs):
  Calls Tryz.prog 88 #[.slice p es.length c,.slice q fs.length d] w fun e w'=>e=.returned (.bool (decide (es.map Ent.tup=fs.map Ent.tup)))∧∃n,w'=w.drewN n:=by
 obtain⟨R,hR⟩:∃R,R=decide (es.map Ent.tup=fs.map Ent.tup):=⟨_,rfl⟩
 rw[<-hR]
 have HR:=yQ hR
 have H1:=yQ h1
 have H2:=yQ h2
 clear hR h1 h2
 by_cases hlen:es.length=fs.length
 ·have g0:((es.length:Int) != (fs.length:Int))=false:=by rw[bne_eq_false_iff_eq];omega
  have HL:=yQ hlen
  obtain⟨m,hm⟩:∃m,m=fs.length:=⟨_,rfl⟩
  rw[<-hm] at g0 ⊢
  have hm2:m=es.length:=by omega
  subst hm2
  clear hm g0 hlen
  go_enter Tryz.func88,Tryz.ntmps88
  go_wp2
  go_loopw [13] (fun v13 wr=>∃i n:Nat,i<=es.length∧v13=.int .i64 i∧wr=w.drewN n∧Hid ((es.take i).map Ent.tup=(fs.take i).map Ent.tup)) (fun v13 _=>es.length-(intOf v13).toNat)
  case atStart=>exact⟨0,0,by omega,rfl,rfl,rfl⟩
  case round=>
   obtain⟨i,n,hi,rfl,rfl,HT⟩:=hrel
   by_cases hlt:i<es.length
   ·have hlt':(i:Int)<(es.length:Int):=by omega
    have hlt2:i<fs.length:=by have:=HL.out;omega
    obtain⟨b1,o1,hp,-,x0,x1,x2⟩:=H1.out i hlt
    obtain⟨b2,o2,hq,-,y0,y1,y2⟩:=H2.out i hlt2
    subst hp hq
    by_cases he:es[i].tup=fs[i].tup
    ·have HT2:=yQ (jV es fs i hlt hlt2 HT.out he)
     simp only[Ent.tup,Prod.mk.injEq] at he
     obtain⟨e1,e2,e3⟩:=he
     rw[<-e1] at y0
     rw[<-e2] at y1
     rw[<-e3] at y2
     generalize es[i].at_=a at x0 y0
     generalize es[i].row=b at x1 y1
     generalize es[i].sch=c' at x2 y2
     clear e1 e2 e3 HT
     go_wp2
     go_quiet (fail)
     go_wp2
     go_roundw
     case rel=>exact⟨i+1,_,by omega,by go_num,rfl,HT2⟩
     case measure=>simp[intOf];omega
    ·have HF:Hid (R=false):=by
      show _=_
      rw[HR.out,decide_eq_false]
      intro hc
      have h5:=eX hc
      subst h5
      exact he rfl
     have hne:(¬es[i].at_=fs[i].at_)∨(es[i].at_=fs[i].at_∧¬es[i].row=fs[i].row)∨(es[i].at_=fs[i].at_∧es[i].row=fs[i].row∧¬es[i].sch=fs[i].sch):=by
      by_cases h1:es[i].at_=fs[i].at_
      ·by_cases h2:es[i].row=fs[i].row
       ·by_cases h3:es[i].sch=fs[i].sch
        ·exact absurd (by simp only[Ent.tup,h1,h2,h3]) he
        ·exact .inr (.inr ⟨h1,h2,h3⟩)
       ·exact .inr (.inl ⟨h1,h2⟩)
      ·exact .inl h1
     generalize es[i].at_=a at x0 hne
     generalize es[i].row=b at x1 hne
     generalize es[i].sch=c' at x2 hne
     generalize fs[i].at_=a2 at y0 hne
     generalize fs[i].row=b2' at y1 hne
     generalize fs[i].sch=c2' at y2 hne
     clear he HT
     rcases hne with h1 | ⟨rfl,h1⟩ | ⟨rfl,rfl,h1⟩
     all_goals
      have g1:=bf h1
      clear h1
      go_wp2
      go_quiet (fail)
      go_wp2
      go_ret
      exact⟨by rw[HF.out];rfl,_,World.drewN_drewN ..⟩
   ·have hii:i=es.length:=by omega
    subst hii
    have HF:Hid (R=true):=by
     show _=_
     rw[HR.out,decide_eq_true_iff]
     have:=HT.out
     rw[List.take_length,HL.out,List.take_length] at this
     exact this
    clear HT
    go_wp2
    go_ret
    exact⟨by rw[HF.out];rfl,n,rfl⟩
 ·have g0:((es.length:Int) != (fs.length:Int))=true:=by rw[bne_iff_ne];omega
  have HF:Hid (R=false):=by
   show _=_
   rw[HR.out,decide_eq_false]
   intro hc
   have:=congrArg List.length hc
   simp at this
   exact hlen this
  clear hlen
  go_enter Tryz.func88,Tryz.ntmps88
  go_wp2
  go_ret
  exact⟨by rw[HF.out];rfl,0,rfl⟩
end
section
open Go.RowKit
namespace Sch
end Sch
end
section
structure Kn where
 cols:List Col
 place:Int
structure Wk where
 sch:Int->Option Kn
 number:Int
 since:Int
 frames:Int
 rows:Int
 ents:List Ent
 closed:Bool
namespace Sc
def new:Wk:=⟨fun _=>none,-1,0,0,0,[],false⟩
def schAt(s:Wk)(n:Int):List Col:=match s.sch n with
 |some k=>k.cols
 |none=>[]
def placeAt(s:Wk)(n:Int):Int:=match s.sch n with
 |some k=>k.place
 |none=>0
def follows(s:Wk)(f:Fr)(p:Int):Bool :=
 if f.kind=1 then (if f.number=s.number then Sch.same f.cols (schAt s s.number) else decide (f.number=s.number+1))
 else if f.kind=2 then decide (f.number=s.number∧f.seq=s.frames∧f.first=s.rows)
 else Idx.same f.index ⟨p,s.frames,s.rows,s.ents⟩
def learn(s:Wk)(n:Int)(c:List Col)(p:Int):Wk:={ s with sch:=fun m=>if m=n then some ⟨c.map Col.fix,p⟩ else s.sch m,number:=n,since:=0 }
def enter(s:Wk)(f:Fr)(p:Int):Wk:=if f.seq % 4=0∧s.ents.length<64 then { s with ents:=s.ents++[⟨p,f.first,placeAt s s.number⟩] } else s
def count(s:Wk)(f:Fr):Wk:={ s with frames:=s.frames+1,rows:=s.rows+f.rows,since:=s.since+1 }
def take(s:Wk)(f:Fr)(p:Int):Wk :=
 if f.kind=1 then { learn s f.number f.cols p with closed:=false }
 else if f.kind=2 then { count (enter s f p) f with closed:=false }
 else { s with closed:=true }
def may(s:Wk)(f:Fr)(p:Int):Bool:=Fr.within Fr.S p&&decide (Fr.err f=0)&&follows s f p
def next(s:Wk)(f:Fr)(p:Int):Wk:=if may s f p=true then take s f p else s
structure Good(s:Wk):Prop where
 number:-1<=s.number∧s.number<2147483648
 since:0<=s.since∧s.since<=s.frames
 frames:s.frames<=70368744177664
 rows:0<=s.rows∧s.rows<=1099511627840
 ents:s.ents.length*24<=140737488351232
 entsOk:∀e∈s.ents,Fr.i64 e.at_∧Fr.i64 e.row∧Fr.i64 e.sch
 known:∀n k,s.sch n=some k->(0<=n∧n<=s.number)∧Sch.err k.cols=0∧(∀c∈k.cols,c.fix=c∧c.wf)∧(0<=k.place∧k.place<1099511627776)
 has:0<=s.number->∃k,s.sch s.number=some k
theorem good_new:Good new:=⟨by decide,by decide,by decide,by decide,by decide,fun e he=>(by cases he),fun n k h=>(by cases h),fun h=>(by simp[new] at h)⟩
theorem place_ok{s:Wk}(h:Good s)(n:Int):0<=placeAt s n∧placeAt s n<1099511627776:=by
 unfold placeAt
 split
 ·next k hk=>exact(h.known n k hk).2.2.2
 ·omega
theorem i64_of{n:Int}(h:0<=n∧n<1099511627776):Fr.i64 n:=⟨by omega,by omega⟩
theorem fix_wf{s:List Col}(he:Sch.err s=0)(hw:∀c∈s,c.wf):Sch.err (s.map Col.fix)=0∧∀c∈s.map Col.fix,c.fix=c∧c.wf:=by
 have:=Sch.read_ok (Sch.read_put he hw)
 exact⟨this.1,this.2.2⟩
theorem good_learn{s:Wk}(h:Good s)(n:Int)(c:List Col)(p:Int)(hn:0<=n∧n<2147483648)(hm:s.number<=n)(he:Sch.err c=0)(hw:∀x∈c,x.wf)(hp:0<=p∧p<1099511627776):Good (learn s n c p):=by
 refine⟨⟨by show -1<=n;omega,hn.2⟩,⟨Int.le_refl _,?_⟩,h.frames,h.rows,h.ents,h.entsOk,fun m k hk=>?_,fun _=>⟨⟨c.map Col.fix,p⟩,by show(if n=n then _ else _)=_;rw[if_pos rfl]⟩⟩
 ·have:=h.since
  show 0<=s.frames
  omega
 ·have hk':(if m=n then some ⟨c.map Col.fix,p⟩ else s.sch m)=some k:=hk
  by_cases hmn:m=n
  ·rw[if_pos hmn] at hk'
   injection hk' with hk'
   rw[<-hk',hmn]
   obtain⟨h1,h2⟩:=fix_wf he hw
   exact⟨⟨hn.1,Int.le_refl _⟩,h1,h2,hp⟩
  ·rw[if_neg hmn] at hk'
   obtain⟨h1,h2⟩:=h.known m k hk'
   exact⟨⟨h1.1,Int.le_trans h1.2 hm⟩,h2⟩
theorem good_enter{s:Wk}(h:Good s)(f:Fr)(p:Int)(hp:0<=p∧p<1099511627776)(hf:0<=f.first∧f.first<1099511627776):Good (enter s f p):=by
 unfold enter
 split
 ·next hc=>
  refine⟨h.number,h.since,h.frames,h.rows,?_,?_,h.known,h.has⟩
  ·simp only[List.length_append,List.length_singleton]
   omega
  ·intro e he
   rcases List.mem_append.1 he with he | he
   ·exact h.entsOk e he
   ·rw[List.mem_singleton] at he
    subst he
    exact⟨i64_of hp,i64_of hf,i64_of (place_ok h s.number)⟩
 ·exact h
theorem enter_same(s:Wk)(f:Fr)(p:Int):(enter s f p).sch=s.sch∧(enter s f p).number=s.number∧(enter s f p).since=s.since∧(enter s f p).frames=s.frames∧(enter s f p).rows=s.rows∧(enter s f p).closed=s.closed:=by
 unfold enter
 split <;> exact⟨rfl,rfl,rfl,rfl,rfl,rfl⟩
theorem good_count{s:Wk}(h:Good s)(f:Fr)(h1:s.frames<1099511627776)(h2:s.rows<1099511627776)(hr:1<=f.rows∧f.rows<=64):Good (count s f):=by
 have hs:=h.since
 have hr':=h.rows
 exact⟨h.number,⟨by show 0<=s.since+1;omega,by show s.since+1<=s.frames+1;omega⟩,by show s.frames+1<=_;omega,⟨by show 0<=s.rows+f.rows;omega,by show s.rows+f.rows<=_;omega⟩,h.ents,h.entsOk,h.known,h.has⟩
theorem good_closed{s:Wk}(h:Good s)(c:Bool):Good { s with closed:=c }:=⟨h.number,h.since,h.frames,h.rows,h.ents,h.entsOk,h.known,h.has⟩
theorem err_parts{f:Fr}(h:Fr.err f=0):(f.kind=1->(0<=f.number∧f.number<2147483648)∧Sch.err f.cols=0)∧(f.kind=2->(0<=f.number∧f.number<2147483648)∧(0<=f.seq∧f.seq<1099511627776)∧(0<=f.first∧f.first<1099511627776)∧(1<=f.rows∧f.rows<=64))∧(f.kind=1∨f.kind=2∨f.kind=3):=by
 have h0:=(Fr.err_open h).1
 refine⟨fun hk=>?_,fun hk=>?_,Fr.head_fields h0⟩
 ·unfold Fr.err0 at h0
  rw[if_pos hk] at h0
  split at h0
  ·omega
  ·next hn=>
   have:=Fr.within_iff.1 (by simpa using hn)
   exact⟨this,h0⟩
 ·unfold Fr.err0 at h0
  rw[if_neg (by omega),if_pos hk] at h0
  split at h0
  ·omega
  ·next hn=>
   simp only[Bool.not_eq_false,Bool.and_eq_true,decide_eq_true_iff] at hn
   exact⟨Fr.within_iff.1 hn.1.1.1,Fr.within_iff.1 hn.1.1.2,Fr.within_iff.1 hn.1.2,hn.2⟩
theorem may_parts{s:Wk}{f:Fr}{p:Int}(h:may s f p=true):(0<=p∧p<1099511627776)∧Fr.err f=0∧follows s f p=true:=by
 unfold may at h
 simp only[Bool.and_eq_true,decide_eq_true_iff] at h
 exact⟨Fr.within_iff.1 h.1.1,h.1.2,h.2⟩
theorem follows_data{s:Wk}{f:Fr}{p:Int}(hk:f.kind=2)(h:follows s f p=true):f.number=s.number∧f.seq=s.frames∧f.first=s.rows:=by
 unfold follows at h
 rw[if_neg (by omega),if_pos hk] at h
 exact of_decide_eq_true h
theorem follows_sch{s:Wk}{f:Fr}{p:Int}(hk:f.kind=1)(h:follows s f p=true):s.number<=f.number:=by
 unfold follows at h
 rw[if_pos hk] at h
 split at h
 ·omega
 ·have:=of_decide_eq_true h
  omega
theorem good_take{s:Wk}(h:Good s){f:Fr}{p:Int}(hw:f.wf)(hm:may s f p=true):Good (take s f p):=by
 obtain⟨hp,he,hf⟩:=may_parts hm
 obtain⟨e1,e2,-⟩:=err_parts he
 unfold take
 split
 ·next hk=>
  obtain⟨a1,a2⟩:=e1 hk
  exact good_closed (good_learn h _ _ _ a1 (follows_sch hk hf) a2 hw.2.2.1 hp) false
 ·split
  ·next hk=>
   obtain⟨a1,a2,a3,a4⟩:=e2 hk
   obtain⟨b1,b2,b3⟩:=follows_data hk hf
   have hE:=good_enter h f p hp a3
   obtain⟨c1,c2,c3,c4,c5,c6⟩:=enter_same s f p
   exact good_closed (good_count hE f (by rw[c4,<-b2];omega) (by rw[c5,<-b3];omega) a4) false
  ·exact good_closed h true
theorem good_next{s:Wk}(h:Good s){f:Fr}(p:Int)(hw:f.wf):Good (next s f p):=by
 unfold next
 split
 ·next hm=>exact good_take h hw hm
 ·exact h
def runT(m:Nat)(t:L8):Except Nat L8 :=
 if t.findIdx (·==0)<t.length then (if t.findIdx (·==0)=0 then .error 4 else .ok (t.take (t.findIdx (·==0))))
 else if m=2202 then .error 2 else .error 142
def runOf(r:L8):Except Nat L8:=if r.headD 0≠0 then .error 141 else runT r.length r.tail
theorem runOf_cons(c:UInt8)(t:L8):runOf (c::t)=if c≠0 then .error 141 else runT (t.length+1) t:=rfl
def reads(b:L8)(p:Int):Nat:=if p<0∨(b.length:Int)<=p then 0 else ((b.drop p.toNat).take 2202).length
def at_(b:L8)(p:Int):Except Nat (Fr×Nat) :=
 if p<0∨(b.length:Int)<p then .error 7 else if p=(b.length:Int) then .error 140
 else match runOf ((b.drop p.toNat).take 2202) with
 |.error e=>.error e
 |.ok r=>match Fr.dec r with
  |.error e=>.error e
  |.ok f=>.ok (f,p.toNat+r.length+2)
theorem findIdx_split:∀(t:L8),t.findIdx (·==0)<t.length->∃r,t=t.take (t.findIdx (·==0))++0::r
 | [],h=>by simp at h
 |c::t,h=>by
  rw[List.findIdx_cons] at h ⊢
  by_cases hc:(c==0)=true
  ·rw[hc]
   have:c=0:=by simpa using hc
   exact⟨t,by simp[this]⟩
  ·have hc':(c==0)=false:=by simpa using hc
   rw[hc'] at h ⊢
   simp only[cond_false,List.length_cons] at h
   obtain⟨r,hr⟩:=findIdx_split t (by omega)
   refine⟨r,?_⟩
   simp only[cond_false,List.take_succ_cons,List.cons_append]
   rw[<-hr]
theorem findIdx_pre:∀(a r:L8),(∀c∈a,c≠0)->(a++0::r).findIdx (·==0)=a.length
 | [],r,_=>by simp[List.findIdx_cons]
 |c::a,r,h=>by
  rw[List.cons_append,List.findIdx_cons]
  have hc:(c==0)=false:=by simpa using h c (by simp)
  rw[hc,findIdx_pre a r (fun x hx=>h x (by simp[hx]))]
  simp
theorem findIdx_before:∀(t:L8),∀c∈t.take (t.findIdx (·==0)),c≠0
 | [],c,hc=>by simp at hc
 |d::t,c,hc=>by
  rw[List.findIdx_cons] at hc
  by_cases hd:(d==0)=true
  ·rw[hd] at hc
   simp at hc
  ·have hd':(d==0)=false:=by simpa using hd
   rw[hd'] at hc
   simp only[cond_false,List.take_succ_cons,List.mem_cons] at hc
   rcases hc with rfl | hc
   ·simpa using hd
   ·exact findIdx_before t c hc
theorem runOf_ok{l r:L8}(hl:l≠[])(h:runOf l=.ok r):∃z,l=0::(r++0::z)∧r≠[]∧∀c∈r,c≠0:=by
 obtain⟨c,t,rfl⟩:∃c t,l=c::t:=by
  cases l with
  |nil=>exact absurd rfl hl
  |cons c t=>exact⟨c,t,rfl⟩
 rw[runOf_cons] at h
 split at h
 ·cases h
 ·next hc=>
  have hc0:c=0:=by simpa using hc
  subst hc0
  unfold runT at h
  split at h
  ·next hlt=>
   split at h
   ·cases h
   ·next h0=>
    injection h with h
    obtain⟨z,hz⟩:=findIdx_split t hlt
    rw[h] at hz
    refine⟨z,by rw[<-hz],fun hr=>?_,fun x hx=>findIdx_before t x (by rw[h];exact hx)⟩
    rw[hr] at h
    have:=congrArg List.length h
    simp only[List.length_take,List.length_nil] at this
    omega
  ·split at h <;> cases h
theorem runOf_mk{r z:L8}(hr:r≠[])(h:∀c∈r,c≠0):runOf (0::(r++0::z))=.ok r:=by
 have e:=findIdx_pre r z h
 have hl:0<r.length:=List.length_pos_iff.2 hr
 rw[runOf_cons,if_neg (by simp)]
 unfold runT
 simp only[e]
 rw[if_pos (by simp),if_neg (by omega)]
 simp
theorem at_ok{b:L8}{p:Int}{f:Fr}{n:Nat}(h:at_ b p=.ok (f,n)):0<=p∧p<(b.length:Int)∧Fr.err f=0∧f.wf∧n=p.toNat+(Fr.run f).length+2∧n<=b.length∧(b.drop p.toNat).take ((Fr.run f).length+2)=0::(Fr.run f++[0]):=by
 unfold at_ at h
 split at h
 ·cases h
 ·next h1=>
  split at h
  ·cases h
  ·next h2=>
   split at h
   ·cases h
   ·next r hr=>
    split at h
    ·cases h
    ·next g hg=>
     injection h with h
     injection h with h3 h4
     subst h3
     obtain⟨e1,e2,e3,e4,e5⟩:=Fr.dec_ok hg
     have hlen:p.toNat<b.length:=by omega
     have hne:(b.drop p.toNat).take 2202≠[]:=by
      intro hc
      have:=congrArg List.length hc
      simp only[List.length_take,List.length_drop,List.length_nil] at this
      omega
     obtain⟨z,hz,-,-⟩:=runOf_ok hne hr
     have hl:=congrArg List.length hz
     simp only[List.length_take,List.length_drop,List.length_cons,List.length_append] at hl
     refine⟨by omega,by omega,e1,e4,by rw[e2];omega,by omega,?_⟩
     have ht:=congrArg (List.take (r.length+2)) hz
     rw[List.take_take,Nat.min_eq_left (by omega)] at ht
     rw[e2,ht,List.take_succ_cons,List.take_append,List.take_of_length_le (by omega)]
     simp
theorem at_take{b:L8}{p:Int}{f:Fr}{n m:Nat}(h:at_ b p=.ok (f,n))(hm:n<=m)(hb:m<=b.length):at_ (b.take m) p=.ok (f,n):=by
 obtain⟨h1,h2,h3,h4,h5,h6,h7⟩:=at_ok h
 have h22:=(Fr.err_open h3).2
 have h6':=Fr.run_ge (f:=f)
 have hx:((b.take m).drop p.toNat).take 2202=0::(Fr.run f++0::((((b.take m).drop p.toNat).take 2202).drop ((Fr.run f).length+2))):=by
  have e:=List.take_append_drop ((Fr.run f).length+2) (((b.take m).drop p.toNat).take 2202)
  have e2:(((b.take m).drop p.toNat).take 2202).take ((Fr.run f).length+2)=0::(Fr.run f++[0]):=by
   rw[List.take_take,Nat.min_eq_left (by omega),List.drop_take,List.take_take,Nat.min_eq_left (by omega),h7]
  rw[e2] at e
  simpa using e.symm
 have hd:Fr.dec (Fr.run f)=.ok f:=by
  unfold at_ at h
  rw[if_neg (by omega),if_neg (by omega)] at h
  split at h
  ·cases h
  ·next r hr=>
   split at h
   ·cases h
   ·next g hg=>
    injection h with h
    injection h with h8 h9
    subst h8
    rw[(Fr.dec_ok hg).2.1]
    exact hg
 unfold at_
 have hl:(b.take m).length=m:=by rw[List.length_take];omega
 rw[hl,if_neg (by omega),if_neg (by omega),hx,runOf_mk (fun hc=>by rw[hc] at h6';simp at h6') (Fr.run_nz f)]
 simp only[hd]
 rw[h5]
structure Pos where
 at_:Nat
 wk:Wk
 read:Nat
def begin_:Pos:=⟨0,new,0⟩
def step(b:L8)(x:Pos):Except Nat Pos:=match Sc.at_ b x.at_ with
 |.error e=>.error e
 |.ok (f,n)=>if may x.wk f x.at_=true then .ok ⟨n,take x.wk f x.at_,x.read+reads b x.at_⟩ else .error 143
def goes(b:L8):Nat->Option Pos
 |0=>some begin_
 |k+1=>match goes b k with
  |none=>none
  |some x=>match step b x with
   |.error _=>none
   |.ok y=>some y
theorem step_ok{b:L8}{x y:Pos}(h:step b x=.ok y):∃f,Sc.at_ b x.at_=.ok (f,y.at_)∧may x.wk f x.at_=true∧y.wk=take x.wk f x.at_∧y.read=x.read+reads b x.at_:=by
 unfold step at h
 split at h
 ·cases h
 ·next f n hf=>
  split at h
  ·next hm=>
   injection h with h
   subst h
   exact⟨f,hf,hm,rfl,rfl⟩
  ·cases h
theorem goes_succ{b:L8}{k:Nat}{x y:Pos}(h:goes b k=some x)(hs:step b x=.ok y):goes b (k+1)=some y:=by
 rw[goes,h]
 simp only[hs]
theorem goes_pred{b:L8}{k:Nat}{y:Pos}(h:goes b (k+1)=some y):∃x,goes b k=some x∧step b x=.ok y:=by
 rw[goes] at h
 split at h
 ·cases h
 ·next x hx=>
  split at h
  ·cases h
  ·next z hz=>
   injection h with h
   subst h
   exact⟨x,hx,hz⟩
theorem reads_le(b:L8)(p:Int):reads b p<=2202:=by
 unfold reads
 split
 ·omega
 ·simp;omega
theorem goes_good{b:L8}:∀{k:Nat} {x:Pos},goes b k=some x->Good x.wk∧x.at_<=b.length∧8*k<=x.at_∧x.read<=k*2202
 |0,x,h=>by
  injection h with h
  subst h
  exact⟨good_new,Nat.zero_le _,yX,yX⟩
 |k+1,y,h=>by
  obtain⟨x,hx,hs⟩:=goes_pred h
  obtain⟨g1,g2,g3,g4⟩:=goes_good hx
  obtain⟨f,h1,h2,h3,h4⟩:=step_ok hs
  obtain⟨a1,a2,a3,a4,a5,a6,a7⟩:=at_ok h1
  have h6:=Fr.run_ge (f:=f)
  have hr:=reads_le b x.at_
  rw[h3,h4]
  refine⟨good_take g1 a4 h2,a6,?_,?_⟩
  ·rw[a5]
   omega
  ·omega
theorem step_end{b:L8}{x:Pos}(h:x.at_=b.length):step b x=.error 140:=by
 unfold step at_
 rw[if_neg (by omega),if_pos (by omega)]
end Sc
end
section
open Go.RowKit Go.Maps
theorem oi:Keyed Tryz.prog 2:=int_keyed Tryz.underlying2
def io:Value:=.agg #[.slice none 0 0,.int .i64 0]
theorem rG(w:World):(zeroValue 175).run Tryz.prog w=.ok io w:=by kernel_rfl
def sZ(v:Value):Option (DataW Value×List MemPlace):=some (.held v,[])
def qF(n:Int):Lit:=.int .i64 n
theorem mT{a b:Int}(h:qF a=qF b):a=b:=by
 unfold qF at h
 injection h
theorem ll{n:Int}(h:Fr.i64 n):keyOf Tryz.prog 2 (.int .i64 n)=some (qF n):=keyOf_int_mk Tryz.underlying2 (by
 show(decide _&&decide _)=true
 rw[Bool.and_eq_true]
 exact⟨decide_eq_true h.1,decide_eq_true h.2⟩)
structure eU(w:World)(M n:Nat)(g:Int->Option Value):Prop where
 out:∃D:DataW Value,w.ownsMap Tryz.prog 2 sZ M n D∧∀m,Maps.has D (qF m)=(g m).isSome∧D.atKey (qF m) (.held io)=.held ((g m).getD io)
section
variable {w w':World} {M n:Nat} {g:Int->Option Value}
theorem qE(w:World):eU (w.alloc (.map #[] 0)) w.1.size 0 (fun _=>none):=⟨.map [],World.ownsMap_made _ _ _ _,fun _=>⟨rfl,rfl⟩⟩
theorem eU.lt(h:eU w M n g):M<w.1.size:=by
 obtain⟨D,h1,_⟩:=h.out
 exact h1.lt
theorem eU.keep(h:eU w M n g)(hb:w'.1[M]?=w.1[M]?):eU w' M n g:=by
 obtain⟨D,⟨es,clock,h1,h2⟩,h3⟩:=h.out
 exact⟨D,⟨es,clock,hb.trans h1,h2⟩,h3⟩
theorem eU.obj(h:eU w M n g):∃es clock,w.1[M]?=some (.map es clock):=by
 obtain⟨D,⟨es,clock,h1,h2⟩,h3⟩:=h.out
 exact⟨es,clock,h1⟩
theorem eU.look(h:eU w M n g){m:Int}(hm:Fr.i64 m):(Instr.lookup 131 (.map (some M)) (.int .i64 m) false).run Tryz.prog w=.ok ((g m).getD io) w:=by
 obtain⟨D,h1,h2⟩:=h.out
 obtain⟨v,ps,hr,hv⟩:=h1.lookup oi Tryz.underlying131 (rG w) (zd:=.held io) (zp:=[]) rfl (ll hm)
 rw[(h2 m).2] at hv
 unfold sZ at hv
 injection hv with hv
 injection hv with hv _
 injection hv with hv
 rw[hr,hv]
theorem eU.look_ok(h:eU w M n g){m:Int}(hm:Fr.i64 m):(Instr.lookup 131 (.map (some M)) (.int .i64 m) true).run Tryz.prog w=.ok (.tuple #[(g m).getD io,.bool (g m).isSome]) w:=by
 obtain⟨D,h1,h2⟩:=h.out
 obtain⟨v,ps,hr,hv⟩:=h1.look_ok oi Tryz.underlying131 (rG w) (zd:=.held io) (zp:=[]) rfl (ll hm)
 rw[(h2 m).2] at hv
 unfold sZ at hv
 injection hv with hv
 injection hv with hv _
 injection hv with hv
 rw[hr,hv,(h2 m).1]
theorem eU.put(h:eU w M n g){m:Int}(hm:Fr.i64 m)(hn:n<1000000000)(v:Value):∃w',(Instr.mapUpdate 131 (.map (some M)) (.int .i64 m) v).run Tryz.prog w=.ok () w'∧eU w' M (n+1) (fun k=>if k=m then some v else g k)∧Aside (fun k=>k=M) w w'∧w'.1.size=w.1.size:=by
 obtain⟨D,h1,h2⟩:=h.out
 obtain⟨w',hr,ho,hg⟩:=h1.store oi Tryz.underlying131 (by unfold maxLen;omega) (ll hm) (val:=v) (d:=.held v) (ps:=[]) rfl
 refine⟨w',hr,⟨_,ho,fun k=>?_⟩,?_,?_⟩
 ·by_cases hk:k=m
  ·subst hk
   rw[if_pos rfl,has_put_same h1.isMap (by trivial),atKey_put_same h1.isMap (by trivial)]
   exact⟨rfl,rfl⟩
  ·rw[if_neg hk,has_put_other (fun e=>hk (mT e)),atKey_put_other (fun e=>hk (mT e))]
   exact h2 k
 ·have hg2:=hg.grown
  exact⟨hg2.os,hg2.tape,hg2.output,hg2.size,fun k hk hf=>hg2.block k hk (fun hc=>hf (by injection hc))⟩
 ·obtain⟨es,clock,es',clock',_,e⟩:=hg
  rw[e]
  simp[Go.ChangeMaps.setBlock]
end
def bM(M:Nat)(s:Wk)(v:Value):AV:=#[.map (some M),.int .i64 s.number,.int .i64 s.since,.int .i64 s.frames,.int .i64 s.rows,v,.bool s.closed]
def Calm(F:Nat->Prop)(w:World)(p:OA)(s:List Col):Prop:=∀w',Aside F w w'->dB w' p s
section
variable {F F':Nat->Prop} {w w':World} {p:OA} {s:List Col}
theorem Calm.here(h:Calm F w p s):dB w p s:=h w (Aside.refl _ _)
theorem Calm.step(h:Calm F w p s)(ha:Aside F w w')(hF:∀k,F' k->F k∨w.1.size<=k):Calm F' w' p s:=fun w'' h2=>h w'' (ha.trans h2 fun i hi hf=>(hF i hf).elim id (fun hc=>absurd hi (Nat.not_lt_of_le hc)))
theorem tA{B:Nat}{n c:Nat}(h:dx w B #[.slice p n c] s)(hF:∀k,F k->k<B∨w.1.size<=k):Calm F w p s:=fun w' ha=>by
 obtain⟨v,us,Fs,h1,hb,hl⟩:=h.out
 simp only[Array.mk.injEq,List.cons.injEq,and_true] at h1
 subst h1
 have h2:=hb.aside ha (fun g hg hf=>by have:=hb.lt g hg;have:=hF g hf;omega) (fun j hj k hk hf=>by have:=hb.range j hj k hk;have:=hF k hf;omega)
 obtain⟨p',c',e1,_,e2⟩:=h2.cols hl
 injection e1 with e3 _ _
 rw[e3]
 exact e2
end
def tS(X:Nat->Prop)(w:World)(o:Option Kn)(r:Option Value):Prop:=match o with
 |none=>r=none
 |some k=>∃p c,r=some (.agg #[.slice p k.cols.length c,.int .i64 k.place])∧k.cols.length*120<=140737488351232∧k.cols.length<=c∧Calm X w p k.cols
theorem tS.step{F F':Nat->Prop}{w w':World}{o:Option Kn}{r:Option Value}(h:tS F w o r)(ha:Aside F w w')(hF:∀k,F' k->F k∨w.1.size<=k):tS F' w' o r:=by
 cases o with
 |none=>exact h
 |some k=>
  obtain⟨p,c,h1,h2,h3,h4⟩:=h
  exact⟨p,c,h1,h2,h3,h4.step ha hF⟩
structure av(w:World)(B a M n:Nat)(v:Value)(g:Int->Option Value)(s:Wk)(G:Nat->Prop):Prop where
 lies:w.1[a]?=some (.cells (bM M s v) 133)
 map:eU w M n g
 ents:dz w B v s.ents
 base:B<=a∧B<=M
 good:Sc.Good s
 low:∀k,G k->k<w.1.size
 off:∀k,G k->k≠a∧k≠M∧v.ownBlock≠some k
 sch:∀m,tS (fun i=>(i=a∨i=M∨v.ownBlock=some i)∨G i) w (s.sch m) (g m)
section
variable {w w':World} {B a M n:Nat} {v:Value} {g:Int->Option Value} {s:Wk} {G:Nat->Prop}
theorem av.lt(h:av w B a M n v g s G):a<w.1.size:=(Array.getElem?_eq_some_iff.1 h.lies).1
theorem av.cell(h:av w B a M n v g s G)(i:Nat):w.cell? ⟨a,i,none⟩=(bM M s v)[i]?:=by
 unfold World.cell?
 rw[h.lies]
 rfl
theorem av.thawed(h:av w B a M n v g s G)(i:Nat):w.frozen? ⟨a,i,none⟩=false:=by simp[World.frozen?,h.lies]
theorem av.aM(h:av w B a M n v g s G):a≠M:=by
 intro hc
 obtain⟨es,clock,h1⟩:=h.map.obj
 rw[<-hc,h.lies] at h1
 cases h1
theorem oE{k:Nat}{es:List Ent}(h:dz w B v es){C:AV}{T:TypeId}(hg:w.1[k]?=some (.cells C T))(hT:T≠178):v.ownBlock≠some k:=by
 intro hc
 rcases h.2 with ⟨h1,_⟩ | ⟨g',cap,cur,h1,_,h3,_⟩
 ·rw[h1] at hc;cases hc
 ·rw[h1] at hc
  simp only[Value.ownBlock,Option.some.injEq] at hc
  subst hc
  rw[h3] at hg
  injection hg with h4
  injection h4 with _ h5
  exact hT h5.symm
theorem av.va(h:av w B a M n v g s G):v.ownBlock≠some a:=oE h.ents h.lies (by decide)
theorem av.vM(h:av w B a M n v g s G):v.ownBlock≠some M:=by
 intro hc
 obtain⟨es,clock,h0⟩:=h.map.obj
 rcases h.ents.2 with ⟨h1,_⟩ | ⟨g',cap,cur,h1,_,h3,_⟩
 ·rw[h1] at hc;cases hc
 ·rw[h1] at hc
  simp only[Value.ownBlock,Option.some.injEq] at hc
  subst hc
  rw[h3] at h0
  cases h0
theorem av.aside{G':Nat->Prop}(h:av w B a M n v g s G)(ha:Aside G w w')(hG:∀k,G' k->G k∨w.1.size<=k)(hl:∀k,G' k->k<w'.1.size):av w' B a M n v g s G':=by
 have hva:∀k,v.ownBlock=some k->k<w.1.size:=fun k hk=>(h.ents.lt k hk).2
 refine⟨?_,h.map.keep (ha.block M h.map.lt (fun hc=>(h.off M hc).2.1 rfl)),h.ents.aside ha (fun k hk hc=>(h.off k hc).2.2 hk),h.base,h.good,hl,fun k hk=>?_,fun m=>?_⟩
 ·rw[ha.block a h.lt (fun hc=>(h.off a hc).1 rfl)]
  exact h.lies
 ·rcases hG k hk with h1 | h1
  ·exact h.off k h1
  ·have h2:=h.lt
   have h3:=h.map.lt
   exact⟨by omega,by omega,fun hc=>by have:=hva k hc;omega⟩
 ·refine(h.sch m).step (ha.mono fun i _ hi=>.inr hi) fun k hk=>?_
  rcases hk with hk | hk
  ·exact .inl (.inl hk)
  ·rcases hG k hk with h1 | h1
   ·exact .inl (.inr h1)
   ·exact .inr h1
theorem av.on(h:av w B a M n v g s G)(hb:Below w.1.size w w'):av w' B a M n v g s G:=h.aside (ag hb G) (fun _ hk=>.inl hk) (fun k hk=>Nat.lt_of_lt_of_le (h.low k hk) hb.size)
theorem av.known(h:av w B a M n v g s G){m:Int}{k:Kn}(hk:s.sch m=some k):∃p c,g m=some (.agg #[.slice p k.cols.length c,.int .i64 k.place])∧k.cols.length*120<=140737488351232∧k.cols.length<=c∧dB w p k.cols:=by
 have:=h.sch m
 rw[hk] at this
 obtain⟨p,c,h1,h2,h3,h4⟩:=this
 exact⟨p,c,h1,h2,h3,h4.here⟩
theorem av.unknown(h:av w B a M n v g s G){m:Int}(hk:s.sch m=none):g m=none:=by
 have:=h.sch m
 rw[hk] at this
 exact this
theorem oY{s':Wk}{v':Value}(h:w.1[a]?=some (.cells (bM M s v) 133))(i:Nat)(u:Value)(he:bM M s' v'=(bM M s v).setIfInBounds i u):(w.setCell ⟨a,i,none⟩ u).1[a]?=some (.cells (bM M s' v') 133):=by
 simp only[World.setCell,Array.getElem?_modify,h,if_true,Option.map_some]
 rw[if_neg (by simp),he]
theorem av.put{s':Wk}(h:av w B a M n v g s G)(i:Nat)(u:Value)(he:bM M s' v=(bM M s v).setIfInBounds i u)(hs:s'.sch=s.sch)(hes:s'.ents=s.ents)(hg:Sc.Good s'):av (w.setCell ⟨a,i,none⟩ u) B a M n v g s' G:=by
 have ha:Aside (·=a) w (w.setCell ⟨a,i,none⟩ u):=(Aside.refl (·=a) w).setCell (p:=⟨a,i,none⟩) (.inl rfl) u
 refine⟨oY h.lies i u he,h.map.keep (ha.block M h.map.lt (fun hc=>h.aM hc.symm)),?_,h.base,hg,fun k hk=>Nat.lt_of_lt_of_le (h.low k hk) ha.size,h.off,fun m=>?_⟩
 ·rw[hes]
  exact h.ents.aside ha (fun k hk hc=>h.va (by rw[hk,hc]))
 ·rw[hs]
  exact(h.sch m).step (ha.mono fun i _ hi=>.inl (.inl hi)) fun k hk=>.inl hk
end
def fU(a M:Nat)(v:Value)(i:Nat):Prop:=i=a∨i=M∨v.ownBlock=some i
structure cQ(w w':World)(B a M n:Nat)(v:Value)(s:Wk)(G:Nat->Prop):Prop where
 out:∃v' g',av w' B a M n v' g' s G∧Aside (fU a M v) w w'∧∀i,v'.ownBlock=some i->v.ownBlock=some i∨w.1.size<=i
end
section
open Go.RowKit Go.Maps
section
variable {w:World} {B a M n:Nat} {v:Value} {g:Int->Option Value} {s:Wk} {G:Nat->Prop}
end
theorem wG(w:World)(G:Nat->Prop)(hG:∀k,G k->k<w.1.size):Calls Tryz.prog 32 #[] w fun e w'=>e=.returned (.pointer (some ⟨w.1.size+1,0,none⟩))∧av w' w.1.size (w.1.size+1) w.1.size 0 (.slice none 0 0) (fun _=>none) Sc.new G∧Below w.1.size w w'∧w'.1.size=w.1.size+2:=by
 obtain⟨W,hW⟩:∃W,W=(w.alloc (.map #[] 0)).alloc (.cells (bM w.1.size Sc.new (.slice none 0 0)) 133):=⟨_,rfl⟩
 have hs:W.1.size=w.1.size+2:=by rw[hW];simp
 have hb:Below w.1.size w W:=by rw[hW];exact yY.alloc (by simp) _
 have hl:W.1[w.1.size+1]?=some (.cells (bM w.1.size Sc.new (.slice none 0 0)) 133):=by
  rw[hW]
  have:=an (w.alloc (.map #[] 0)) (.cells (bM w.1.size Sc.new (.slice none 0 0)) 133)
  simpa using this
 have hm:eU W w.1.size 0 (fun _=>none):=(qE w).keep (by rw[hW];exact aw _ _ (by simp))
 have HW:Hid (av W w.1.size (w.1.size+1) w.1.size 0 (.slice none 0 0) (fun _=>none) Sc.new G) :=
  ⟨hl,hm,gG W _,⟨Nat.le_succ _,yX⟩,Sc.good_new,fun k hk=>by have:=hG k hk;omega,fun k hk=>⟨by have:=hG k hk;omega,by have:=hG k hk;omega,by simp[Value.ownBlock]⟩,fun m=>rfl⟩
 have HB:=yQ hb
 have HS:=yQ hs
 have HW2:=yQ hW
 have hmm:=@run_makeMap Tryz.prog
 clear hs hb hl hm hW
 go_enter Tryz.func32,Tryz.ntmps32
 go_wp2
 go_ret
 refine⟨?_,?_⟩
 ·simp
 ·have e:W=(w.alloc (.map #[] 0)).alloc (.cells #[.map (some w.1.size),.int .i64 (-1),.int .i64 0,.int .i64 0,.int .i64 0,.slice none 0 0,.bool false] 133):=HW2.out
  rw[<-e]
  exact⟨HW.out,HB.out,HS.out⟩
theorem wz(b c:Nat)(l:List Int)(hl:l.length<=100)(w:World)(h:∀j (hj:j<l.length),w.cell? ⟨b,j,none⟩=some (.int .i64 l[j])):
  Calls Tryz.prog 57 #[.slice (some ⟨b,0,none⟩) l.length c] w fun e w'=>e=.returned (.bool (l.all (Fr.within Fr.S)))∧w'=w:=by
 have H:=yQ h
 obtain⟨R,hR⟩:∃R,R=l.all (Fr.within Fr.S):=⟨_,rfl⟩
 rw[<-hR]
 have HR:=yQ hR
 clear h hR
 go_enter Tryz.func57,Tryz.ntmps57
 go_wp2
 go_loop [7] (fun v7=>∃i:Nat,i<=l.length∧v7=.int .i64 i∧Hid ((l.take i).all (Fr.within Fr.S)=true)) (fun v7=>l.length-(intOf v7).toNat)
 case atStart=>exact⟨0,by omega,rfl,rfl⟩
 case round=>
  obtain⟨i,hi,rfl,HT⟩:=hrel
  by_cases hlt:i<l.length
  ·have hlt':(i:Int)<(l.length:Int):=by omega
   have hc:=H.out i hlt
   obtain⟨x,hx⟩:∃x,x=l[i]:=⟨_,rfl⟩
   rw[<-hx] at hc
   by_cases hin:0<=x∧x<1099511627776
   ·have g0:decide (x<0)=false:=decide_eq_false (by omega)
    have g1:decide ((1099511627776:Int)<=x)=false:=decide_eq_false (by omega)
    have HT2:Hid ((l.take (i+1)).all (Fr.within Fr.S)=true):=by
     show _=_
     rw[List.take_succ_eq_append_getElem hlt,List.all_append,HT.out,<-hx]
     simp[Fr.within,Fr.S,hin]
    clear hin hx HT
    go_wp2
    go_round
    case rel=>exact⟨i+1,by omega,by go_num,HT2⟩
    case measure=>simp[intOf];omega
   ·have HF:Hid (R=false):=by
     show _=_
     rw[HR.out,List.all_eq_false]
     have hf:Fr.within Fr.S x=false:=decide_eq_false hin
     exact⟨x,by rw[hx];exact List.getElem_mem hlt,by rw[hf];decide⟩
    clear hx HT
    by_cases h0:x<0
    ·have g0:decide (x<0)=true:=decide_eq_true h0
     clear hin
     go_wp2
     go_ret
     exact⟨by rw[HF.out];rfl,rfl⟩
    ·have g0:decide (x<0)=false:=decide_eq_false h0
     have g1:decide ((1099511627776:Int)<=x)=true:=decide_eq_true (by omega)
     clear hin h0
     go_wp2
     go_ret
     exact⟨by rw[HF.out];rfl,rfl⟩
  ·have hii:i=l.length:=by omega
   subst hii
   have HF:Hid (R=true):=by
    show _=_
    have:=HT.out
    rw[List.take_length] at this
    rw[HR.out,this]
   clear HT hlt hi
   go_wp2
   go_ret
   exact⟨by rw[HF.out];rfl,rfl⟩
end
section
open Go.RowKit Go.Maps
theorem jg{w:World}{B B':Nat}{u:AV}{s:List Col}(h:dx w B u s)(hB:B'<=B):dx w B' u s:=by
 obtain⟨v,us,Fs,e,hb,hl⟩:=h.out
 exact⟨v,us,Fs,e,hb.low hB,hl⟩
theorem dx.beside{F:Nat->Prop}{w w':World}{B:Nat}{u:AV}{s:List Col}(h:dx w B u s)(ha:Aside F w w')(hF:∀k,F k->k<B):dx w' B u s:=by
 obtain⟨v,us,Fs,rfl,hb,hl⟩:=h.out
 exact⟨v,us,Fs,rfl,hb.aside ha (fun g hg hf=>by have:=(hb.lt g hg).1;have:=hF g hf;omega) (fun j hj k hk hf=>by have:=(hb.range j hj k hk).1;have:=hF k hf;omega),hl⟩
theorem u4(s:List Col)(p:OA)(c:Nat)(w:World)(hs:s.length*120<=140737488351232)(hx:dB w p s)(he:Sch.err s=0)(hw:∀x∈s,x.wf):
  Calls Tryz.prog 132 #[.agg #[.slice p s.length c]] w fun e w'=>∃q cap,e=.returned (.agg #[.slice q s.length cap])∧dx w' w.1.size #[.slice q s.length cap] (s.map Col.fix)∧Below w.1.size w w':=by
 obtain⟨W0,hW0⟩:∃W0,W0=(w.alloc (.cells #[.slice p s.length c] 31)).alloc (.cells #[.slice none 0 0] 31):=⟨_,rfl⟩
 have HB0:Hid (Below w.1.size w W0):=by rw[hW0];exact yY.alloc (by simp) _
 have hK0:W0.1[w.1.size+1]?=some (.cells #[.slice none 0 0] 31):=by
  rw[hW0]
  have:=an (w.alloc (.cells #[.slice p s.length c] 31)) (.cells #[.slice none 0 0] 31)
  simpa using this
 have HK0:=yQ hK0
 have HW0:Hid ((w.alloc (.cells #[.slice p s.length c] 31)).alloc (.cells #[.slice none 0 0] 31)=W0):=hW0.symm
 have HE:=yQ (iZ s p c W0 hs (hx.on HB0.out) hw)
 have hb:encB s=Sch.bytes s:=by unfold encB;rw[if_pos he]
 have hle:(Sch.bytes s).length<=1024:=(Sch.err_open he).2.2.2
 have hrd:=Sch.read_put he hw
 rw[hb,he] at HE
 have HR:=yQ hrd
 have hz0:W0.1.size=w.1.size+2:=by rw[hW0];simp
 obtain⟨bs,hbs⟩:∃bs,bs=Sch.bytes s:=⟨_,rfl⟩
 rw[<-hbs] at HE hle HR
 clear hW0 hx he hw hb hrd hbs hK0
 go_enter Tryz.func132,Tryz.ntmps132
 go_wp2_with fail
 rw[HW0.out]
 refine HE.out.mono ?_
 rintro e w1 ⟨q,cap,rfl,hA,hc,hb1⟩
 have HD:=yQ (ly q bs cap (by omega) hc w1 hA)
 rw[HR.out] at HD
 have HB1:=yQ (HB0.out.trans (hb1.mono HB0.out.size))
 have HK1:=yQ ((hb1.block _ (by omega)).trans HK0.out)
 have hz1:=hb1.size
 clear hA hc hb1 HE HK0 HW0
 go_wp2_with fail
 refine HD.out.mono ?_
 rintro e w2 ⟨u,rfl,ho,hb2⟩
 obtain⟨p2,c2,hu,hl2,hc2,-⟩:=ho.lies.out
 rw[List.length_map] at hu hl2 hc2
 subst hu
 obtain⟨W3,hW3⟩:∃W3,W3=(w2.alloc (.cells #[.slice p2 s.length c2] 31)).setCell ⟨w.1.size+1,0,none⟩ (.slice p2 s.length c2):=⟨_,rfl⟩
 have hK2:=(hb2.block _ (ao HK1.out)).trans HK1.out
 have hz2:=hb2.size
 have ha:Aside (fun k=>k=w.1.size+1) w2 W3:=by
  rw[hW3]
  exact((Aside.refl (fun k=>k=w.1.size+1) w2).alloc _).setCell (p:=⟨w.1.size+1,0,none⟩) (.inl rfl) _
 have HK3:Hid (W3.1[w.1.size+1]?=some (.cells #[.slice p2 s.length c2] 31)):=by
  show _=_
  rw[hW3]
  simp only[World.setCell,Array.getElem?_modify,aw _ _ (ao hK2),hK2,if_true,Option.map_some]
  rfl
 have HO:Hid (dx W3 w.1.size #[.slice p2 s.length c2] (s.map Col.fix)):=jg (ho.beside ha (fun k hk=>by omega)) (by omega)
 have HB3:Hid (Below w.1.size w W3):=(HB1.out.trans (hb2.mono HB1.out.size)).trans (ha.below (by omega) (fun k hk hc=>by omega))
 have y1:∀o,(w2.alloc o).cell? ⟨w.1.size+1,0,none⟩=some (.slice none 0 0):=fun o=>aa ((aw _ _ (ao hK2)).trans hK2) 0
 have y2:∀o,(w2.alloc o).frozen? ⟨w.1.size+1,0,none⟩=false:=fun o=>by simp[World.frozen?,(aw w2 o (ao hK2)).trans hK2]
 have HW3:=yQ hW3
 clear ho hb2 hl2 hc2 ha hW3 hK2 HD HR HB1 HK1
 go_wp2
 rw[<-HW3.out]
 refine bodyPost_ret (results_cell_row rfl _ _ (w.1.size+1) _ _ _ _ rfl HK3.out Tryz.underlying31 rfl (by kernel_rfl)) rfl ?_
 exact⟨p2,c2,rfl,HO.out,HB3.out⟩
end
section
open Go.RowKit
theorem eF{w:World}{g:Nat}{T:TypeId}{c0 c1 c2 c3 c4 c5 c6 c7 c8 c9 c10:Value}(h:w.1[g]?=some (.cells #[c0,c1,c2,c3,c4,c5,c6,c7,c8,c9,c10] T (0,0))):w.cell? ⟨g,0,none⟩=some c0∧w.cell? ⟨g,1,none⟩=some c1∧w.cell? ⟨g,2,none⟩=some c2∧w.cell? ⟨g,3,none⟩=some c3∧w.cell? ⟨g,4,none⟩=some c4∧w.cell? ⟨g,5,none⟩=some c5∧w.cell? ⟨g,6,none⟩=some c6∧w.cell? ⟨g,7,none⟩=some c7∧w.cell? ⟨g,8,none⟩=some c8∧w.cell? ⟨g,9,none⟩=some c9∧w.cell? ⟨g,10,none⟩=some c10 :=
 ⟨aa h 0,aa h 1,aa h 2,aa h 3,aa h 4,aa h 5,aa h 6,aa h 7,aa h 8,aa h 9,aa h 10⟩
theorem jJ{w:World}{g:Nat}{C:AV}{T:TypeId}(h:w.1[g]?=some (.cells C T (0,0))):w.frozen? ⟨g,0,none⟩=false∧w.frozen? ⟨g,1,none⟩=false∧w.frozen? ⟨g,2,none⟩=false∧w.frozen? ⟨g,3,none⟩=false∧w.frozen? ⟨g,4,none⟩=false∧w.frozen? ⟨g,5,none⟩=false∧w.frozen? ⟨g,6,none⟩=false∧w.frozen? ⟨g,7,none⟩=false∧w.frozen? ⟨g,8,none⟩=false∧w.frozen? ⟨g,9,none⟩=false∧w.frozen? ⟨g,10,none⟩=false :=
 ⟨ac h 0,ac h 1,ac h 2,ac h 3,ac h 4,ac h 5,ac h 6,ac h 7,ac h 8,ac h 9,ac h 10⟩
theorem iH{w:World}{g:Nat}{T:TypeId}{c0 c1 c2 c3 c4 c5 c6 c7 c8 c9 c10:Value}(h:w.1[g]?=some (.cells #[c0,c1,c2,c3,c4,c5,c6,c7,c8,c9,c10] T (0,0))):(∀o,(w.alloc o).cell? ⟨g,0,none⟩=some c0)∧(∀o,(w.alloc o).cell? ⟨g,1,none⟩=some c1)∧(∀o,(w.alloc o).cell? ⟨g,2,none⟩=some c2)∧(∀o,(w.alloc o).cell? ⟨g,3,none⟩=some c3)∧(∀o,(w.alloc o).cell? ⟨g,4,none⟩=some c4)∧(∀o,(w.alloc o).cell? ⟨g,5,none⟩=some c5)∧(∀o,(w.alloc o).cell? ⟨g,6,none⟩=some c6)∧(∀o,(w.alloc o).cell? ⟨g,7,none⟩=some c7)∧(∀o,(w.alloc o).cell? ⟨g,8,none⟩=some c8)∧(∀o,(w.alloc o).cell? ⟨g,9,none⟩=some c9)∧(∀o,(w.alloc o).cell? ⟨g,10,none⟩=some c10):=by
 have hk:∀o,(w.alloc o).1[g]?=some (.cells #[c0,c1,c2,c3,c4,c5,c6,c7,c8,c9,c10] T (0,0)):=fun o=>(aw w o (ao h)).trans h
 exact⟨fun o=>aa (hk o) 0,fun o=>aa (hk o) 1,fun o=>aa (hk o) 2,fun o=>aa (hk o) 3,fun o=>aa (hk o) 4,fun o=>aa (hk o) 5,fun o=>aa (hk o) 6,fun o=>aa (hk o) 7,fun o=>aa (hk o) 8,fun o=>aa (hk o) 9,fun o=>aa (hk o) 10⟩
theorem gJ{w:World}{g:Nat}{C:AV}{T:TypeId}(h:w.1[g]?=some (.cells C T (0,0))):(∀o,(w.alloc o).frozen? ⟨g,0,none⟩=false)∧(∀o,(w.alloc o).frozen? ⟨g,1,none⟩=false)∧(∀o,(w.alloc o).frozen? ⟨g,2,none⟩=false)∧(∀o,(w.alloc o).frozen? ⟨g,3,none⟩=false)∧(∀o,(w.alloc o).frozen? ⟨g,4,none⟩=false)∧(∀o,(w.alloc o).frozen? ⟨g,5,none⟩=false)∧(∀o,(w.alloc o).frozen? ⟨g,6,none⟩=false)∧(∀o,(w.alloc o).frozen? ⟨g,7,none⟩=false)∧(∀o,(w.alloc o).frozen? ⟨g,8,none⟩=false)∧(∀o,(w.alloc o).frozen? ⟨g,9,none⟩=false)∧(∀o,(w.alloc o).frozen? ⟨g,10,none⟩=false):=by
 have hk:∀o,(w.alloc o).1[g]?=some (.cells C T (0,0)):=fun o=>(aw w o (ao h)).trans h
 exact⟨fun o=>ac (hk o) 0,fun o=>ac (hk o) 1,fun o=>ac (hk o) 2,fun o=>ac (hk o) 3,fun o=>ac (hk o) 4,fun o=>ac (hk o) 5,fun o=>ac (hk o) 6,fun o=>ac (hk o) 7,fun o=>ac (hk o) 8,fun o=>ac (hk o) 9,fun o=>ac (hk o) 10⟩
end
section
open Go.RowKit Go.Maps
section
variable {w:World} {B a M n:Nat} {v:Value} {g:Int->Option Value} {s:Wk} {G:Nat->Prop}
theorem nc(pp:OA)(nn cc:Nat)(P:Int)(w:World):(Instr.field 175 (.agg #[.slice pp nn cc,.int .i64 P]) 1).run Tryz.prog w=.ok (.int .i64 P) w:=by kernel_rfl
theorem lv(pp:OA)(nn cc:Nat)(P:Int)(w:World):(Instr.field 175 (.agg #[.slice pp nn cc,.int .i64 P]) 0).run Tryz.prog w=.ok (.agg #[.slice pp nn cc]) w:=by kernel_rfl
theorem Below.aside_cell{w w':World}{F:Nat->Prop}{p:Addr}{u:Value}(ha:Aside F w w')(hl:p.block<w.1.size)(hp:¬F p.block)(h:w.cell? p=some u):w'.cell? p=some u:=(ha.cell hl hp).trans h
theorem av.learned{w1 w2:World}{Z:Nat}{q:OA}{cap:Nat}{m:Int}{c:List Col}{pl:Int}(h:av w1 B a M n v g s G)(hk:eU w2 M (n+1) (fun k=>if k=m then some (.agg #[.slice q c.length cap,.int .i64 pl]) else g k))(ha:Aside (fun k=>k=M) w1 w2)(ho:dx w1 Z #[.slice q c.length cap] (c.map Col.fix))(hX:∀i,(i=a∨i=M∨v.ownBlock=some i)∨G i->i<Z)(hg:Sc.Good (Sc.learn s m c pl)):
  av ((w2.setCell ⟨a,1,none⟩ (.int .i64 m)).setCell ⟨a,2,none⟩ (.int .i64 0)) B a M (n+1) v (fun k=>if k=m then some (.agg #[.slice q c.length cap,.int .i64 pl]) else g k) (Sc.learn s m c pl) G∧Aside (fU a M v) w1 ((w2.setCell ⟨a,1,none⟩ (.int .i64 m)).setCell ⟨a,2,none⟩ (.int .i64 0)):=by
 have haM:=h.aM
 have hl2:w2.1[a]?=some (.cells (bM M s v) 133):=(ha.block a h.lt haM).trans h.lies
 have hl3:(w2.setCell ⟨a,1,none⟩ (.int .i64 m)).1[a]?=some (.cells (bM M { s with number:=m } v) 133):=oY hl2 1 _ rfl
 have hl4:((w2.setCell ⟨a,1,none⟩ (.int .i64 m)).setCell ⟨a,2,none⟩ (.int .i64 0)).1[a]?=some (.cells (bM M (Sc.learn s m c pl) v) 133):=oY hl3 2 _ rfl
 have hs:Aside (fun k=>k=a) w2 ((w2.setCell ⟨a,1,none⟩ (.int .i64 m)).setCell ⟨a,2,none⟩ (.int .i64 0)):=((Aside.refl (fun k=>k=a) w2).setCell (p:=⟨a,1,none⟩) (.inl rfl) _).setCell (p:=⟨a,2,none⟩) (.inl rfl) _
 have hA:Aside (fU a M v) w1 ((w2.setCell ⟨a,1,none⟩ (.int .i64 m)).setCell ⟨a,2,none⟩ (.int .i64 0)):=(ha.mono fun i _ hi=>.inr (.inl hi)).trans hs (fun i _ hi=>.inl hi)
 refine⟨⟨hl4,hk.keep (hs.block M hk.lt (fun hc=>haM hc.symm)),?_,h.base,hg,fun k hk2=>Nat.lt_of_lt_of_le (h.low k hk2) hA.size,h.off,fun k=>?_⟩,hA⟩
 ·exact(h.ents.aside ha (fun k hk2 hc=>h.vM (by rw[hk2,hc]))).aside hs (fun k hk2 hc=>h.va (by rw[hk2,hc]))
 ·show tS _ _ (if k=m then some ⟨c.map Col.fix,pl⟩ else s.sch k) _
  by_cases hkm:k=m
  ·rw[if_pos hkm]
   simp only[hkm,if_true]
   refine⟨q,cap,by rw[List.length_map],?_,?_,?_⟩
   ·obtain⟨_,_,_,_,_,hl⟩:=ho.out
    exact hl
   ·obtain⟨p',c',e1,_,e2,_⟩:=ho.lies.out
    simp only[Array.mk.injEq,List.cons.injEq,and_true] at e1
    injection e1 with _ _ e3
    rw[e3]
    exact e2
   ·exact(tA (F:=fun i=>(i=a∨i=M∨v.ownBlock=some i)∨G i) ho (fun i hi=>.inl (hX i hi))).step (hA.mono fun i _ hi=>.inl hi) fun i hi=>.inl hi
  ·rw[if_neg hkm]
   simp only[if_neg hkm]
   exact(h.sch k).step (hA.mono fun i _ hi=>.inl hi) fun i hi=>.inl hi
theorem wI(h:av w B a M n v g s G)(m:Int)(c:List Col)(p:OA)(cc:Nat)(pl:Int)(hm:0<=m∧m<2147483648)(hle:s.number<=m)(hpl:0<=pl∧pl<1099511627776)(he:Sch.err c=0)(hwf:∀x∈c,x.wf)(hs:c.length*120<=140737488351232)(hx:dB w p c)(hn:n<1000000000):
  Calls Tryz.prog 89 #[.pointer (some ⟨a,0,none⟩),.int .i64 m,.agg #[.slice p c.length cc],.int .i64 pl] w fun e w'=>e=.returned (.tuple #[])∧cQ w w' B a M (n+1) v (Sc.learn s m c pl) G:=by
 have c0:w.cell? ⟨a,0,none⟩=some (.map (some M)):=h.cell 0
 obtain⟨W0,hW0⟩:∃W0,W0=w.alloc (.cells #[.slice p c.length cc] 31):=⟨_,rfl⟩
 have hb0:Below w.1.size w W0:=by rw[hW0];exact yY
 have hbk:W0.1[w.1.size]?=some (.cells #[.slice p c.length cc] 31):=by rw[hW0];exact an w _
 have y0:W0.cell? ⟨a,0,none⟩=some (.map (some M)):=ae hb0 c0
 have y1:W0.cell? ⟨w.1.size,0,none⟩=some (.slice p c.length cc):=aa hbk 0
 have hz0:W0.1.size=w.1.size+1:=by rw[hW0];simp
 have HW0:Hid (w.alloc (.cells #[.slice p c.length cc] 31)=W0):=hW0.symm
 have HH:=yQ (h.on hb0)
 have HB0:=yQ hb0
 have HC:Hid (∀w',Below W0.1.size W0 w'->Calls Tryz.prog 132 #[.agg #[.slice p c.length cc]] w' fun e w''=>∃q cap,e=.returned (.agg #[.slice q c.length cap])∧dx w'' W0.1.size #[.slice q c.length cap] (c.map Col.fix)∧Below W0.1.size W0 w''):=fun w' hb=>(u4 c p cc w' hs (hx.on (hb0.trans (hb.mono hb0.size))) he hwf).mono fun e w'' ⟨q,cap,h1,h2,h3⟩=>⟨q,cap,h1,jg h2 hb.size,hb.trans (h3.mono hb.size)⟩
 have HGd:=yQ (Sc.good_learn h.good m c pl hm hle he hwf hpl)
 have hal:=h.lt
 have hMl:=h.map.lt
 have haM:=h.aM
 have him:Fr.i64 m:=⟨by omega,by omega⟩
 have HX:Hid (∀i,(i=a∨i=M∨v.ownBlock=some i)∨G i->i<W0.1.size):=fun i hi=>by
  rcases hi with (hi | hi | hi) | hi
  ·omega
  ·omega
  ·have:=(h.ents.lt i hi).2;omega
  ·have:=h.low i hi;omega
 clear h hx he hwf hW0 hb0 hbk c0
 go_enter Tryz.func89,Tryz.ntmps89
 go_wp2_with fail
 rw[HW0.out]
 go_region_held3 (fun w'=>w'.cell? ⟨a,0,none⟩=some (.map (some M))∧w'.cell? ⟨w.1.size,0,none⟩=some (.slice p c.length cc)) (go_keep) (first
  | (go_at_call 132;refine(HC.out _ (yZ.drew)).mono ?_;rintro e w1 ⟨q,cap,rfl,ho,hb1⟩;have z0:=ae hb1 y0;have z1:=ae hb1 y1;have HO:=yQ ho;have HB1:=yQ hb1;obtain⟨w2,hr2,hk2,ha2,hs2⟩:=(HH.out.on HB1.out).map.put him hn (.agg #[.slice q c.length cap,.int .i64 pl]);have t0:=Below.aside_cell ha2 (by have:=HB1.out.size;show a<w1.1.size;omega) haM z0;have t1:=Below.aside_cell ha2 (by have:=HB1.out.size;show w.1.size<w1.1.size;omega) (by show ¬w.1.size=M;omega) z1;have HK2:=yQ hk2;have HA2:=yQ ha2;clear ho hb1 hk2 ha2)
  |fail)
 have hw1:=HH.out.on HB1.out
 obtain⟨hfin,hasd⟩:=hw1.learned HK2.out HA2.out HO.out HX.out HGd.out
 have HFin:=yQ hfin
 have HAs:=yQ ((ag (HB0.out.trans (HB1.out.mono HB0.out.size)) (fU a M v)).trans hasd (fun _ _ h=>h))
 have hl2:w2.1[a]?=some (.cells (bM M s v) 133):=(HA2.out.block a hw1.lt haM).trans hw1.lies
 have u1:w2.cell? ⟨a,1,none⟩=some (.int .i64 s.number):=aa hl2 1
 have u2:w2.cell? ⟨a,2,none⟩=some (.int .i64 s.since):=aa hl2 2
 have f1:=ac hl2 1
 have f2:=ac hl2 2
 clear hw1 hfin hasd hl2 HO HK2 HA2 HB1 HH
 go_wp2
 go_end0
 exact⟨rfl,v,_,HFin.out,HAs.out,fun _ h=>.inl h⟩
theorem av.value(h:av w B a M n v g s G)(m:Int):∃pp nn cc,(g m).getD io=.agg #[.slice pp nn cc,.int .i64 (Sc.placeAt s m)]:=by
 cases hs:s.sch m with
 |none=>
  rw[h.unknown hs,show Sc.placeAt s m=0 by unfold Sc.placeAt;rw[hs]]
  exact⟨none,0,0,rfl⟩
 |some k=>
  obtain⟨p,c,e1,-,-,-⟩:=h.known hs
  rw[e1,show Sc.placeAt s m=k.place by unfold Sc.placeAt;rw[hs]]
  exact⟨p,_,c,rfl⟩
theorem av.entered{w1:World}{g4 cap4:Nat}{e:Ent}{s':Wk}(h:av w B a M n v g s G)(hn:dz w1 B (.slice (some ⟨g4,0,none⟩) (s.ents.length+1) cap4) (s.ents++[e]))(hg:w.grownBy w1 v.ownBlock)(h4:v.ownBlock=some g4∨w.1.size<=g4)(hs:s'={ s with ents:=s.ents++[e] })(hgd:Sc.Good s'):
  av (w1.setCell ⟨a,5,none⟩ (.slice (some ⟨g4,0,none⟩) (s.ents.length+1) cap4)) B a M n (.slice (some ⟨g4,0,none⟩) (s.ents.length+1) cap4) g s' G∧Aside (fU a M v) w (w1.setCell ⟨a,5,none⟩ (.slice (some ⟨g4,0,none⟩) (s.ents.length+1) cap4)):=by
 have ha:=bB hg
 have hl1:w1.1[a]?=some (.cells (bM M s v) 133):=(ha.block a h.lt h.va).trans h.lies
 have hs1:Aside (fun k=>k=a) w1 (w1.setCell ⟨a,5,none⟩ (.slice (some ⟨g4,0,none⟩) (s.ents.length+1) cap4)):=(Aside.refl (fun k=>k=a) w1).setCell (p:=⟨a,5,none⟩) (.inl rfl) _
 have hA:Aside (fU a M v) w (w1.setCell ⟨a,5,none⟩ (.slice (some ⟨g4,0,none⟩) (s.ents.length+1) cap4)):=(ha.mono fun i _ hi=>.inr (.inr hi)).trans hs1 (fun i _ hi=>.inl hi)
 have hal:=h.lt
 have hMl:=h.map.lt
 have hga:g4≠a:=fun hc=>by
  rcases h4 with h4 | h4
  ·exact h.va (by rw[h4,hc])
  ·omega
 have hgM:g4≠M:=fun hc=>by
  rcases h4 with h4 | h4
  ·exact h.vM (by rw[h4,hc])
  ·omega
 subst hs
 refine⟨⟨oY hl1 5 _ rfl,?_,?_,h.base,hgd,fun k hk=>Nat.lt_of_lt_of_le (h.low k hk) hA.size,fun k hk=>⟨(h.off k hk).1,(h.off k hk).2.1,fun hc=>?_⟩,fun m=>?_⟩,hA⟩
 ·refine h.map.keep ?_
  rw[hs1.block M (Nat.lt_of_lt_of_le h.map.lt ha.size) (fun hc=>h.aM hc.symm)]
  exact ha.block M h.map.lt h.vM
 ·have:=hn.aside hs1 (fun k hk hc=>by simp only[Value.ownBlock,Option.some.injEq] at hk;exact hga (by rw[hk,hc]))
  exact this
 ·simp only[Value.ownBlock,Option.some.injEq] at hc
  rcases h4 with h4 | h4
  ·exact(h.off k hk).2.2 (by rw[h4,hc])
  ·have:=h.low k hk;omega
 ·refine(h.sch m).step (hA.mono fun i _ hi=>.inl hi) fun i hi=>?_
  rcases hi with (hi | hi | hi) | hi
  ·exact .inl (.inl (.inl hi))
  ·exact .inl (.inl (.inr (.inl hi)))
  ·simp only[Value.ownBlock,Option.some.injEq] at hi
   rcases h4 with h4 | h4
   ·exact .inl (.inl (.inr (.inr (by rw[h4,hi]))))
   ·exact .inr (by omega)
  ·exact .inl (.inr hi)
end
end
end Go.Proofs.YtdgacombdcajmaaGreatDoor
