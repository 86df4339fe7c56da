import Derived.Test.YtlgfdgdlaahpfaaGreatDoorB27
import Derived.Test.YtlgfdgdlaahpfaaGreatDoorB36
set_option maxRecDepth 100000
set_option maxHeartbeats 4000000
namespace Go.Proofs.YtlgfdgdlaahpfaaGreatDoor
section
open Go.RowKit
theorem eF(p q:OA)(c d:Nat)(es fs:List Ent)(hl:es.length*24<=140737488351232)(w:World)(h1:cQ w p es)(h2:cQ w q fs):
  Calls Tryz.prog 39 #[.slice p es.length c,.slice q fs.length d] w fun e w'=>e=.returned (.bool (decide (es.map Ent.tup=fs.map Ent.tup)))∧∃n,w'=w.drewN n:=by
 obtain⟨R,hR⟩:∃R,R=decide (es.map Ent.tup=fs.map Ent.tup):=⟨_,rfl⟩
 rw[<-hR]
 have HR:=vQ hR
 have H1:=vQ h1
 have H2:=vQ h2
 clear hR h1 h2
 by_cases hlen:es.length=fs.length
 ·have g0:((es.length:Int) != (fs.length:Int))=false:=by rw[bne_eq_false_iff_eq];omega
  have HL:=vQ hlen
  obtain⟨m,hm⟩:∃m,m=fs.length:=⟨_,rfl⟩
  rw[<-hm] at g0 ⊢
  have hm2:m=es.length:=by omega
  subst hm2
  clear hm g0 hlen
  go_enter Tryz.func39,Tryz.ntmps39
  go_wp2
  go_loopw [13] (fun v13 wr=>∃i n:Nat,i<=es.length∧v13=.int .i64 i∧wr=w.drewN n∧Hid ((es.take i).map Ent.tup=(fs.take i).map Ent.tup)) (fun v13 _=>es.length-(intOf v13).toNat)
  case atStart=>exact⟨0,0,by omega,rfl,rfl,rfl⟩
  case round=>
   obtain⟨i,n,hi,rfl,rfl,HT⟩:=hrel
   by_cases hlt:i<es.length
   ·have hlt':(i:Int)<(es.length:Int):=by omega
    have hlt2:i<fs.length:=by have:=HL.out;omega
    obtain⟨b1,o1,hp,-,x0,x1,x2⟩:=H1.out i hlt
    obtain⟨b2,o2,hq,-,y0,y1,y2⟩:=H2.out i hlt2
    subst hp hq
    by_cases he:es[i].tup=fs[i].tup
    ·have HT2:=vQ (eD es fs i hlt hlt2 HT.out he)
     simp only[Ent.tup,Prod.mk.injEq] at he
     obtain⟨e1,e2,e3⟩:=he
     rw[<-e1] at y0
     rw[<-e2] at y1
     rw[<-e3] at y2
     generalize es[i].at_=a at x0 y0
     generalize es[i].row=b at x1 y1
     generalize es[i].sch=c' at x2 y2
     clear e1 e2 e3 HT
     go_wp2
     go_quiet (fail)
     go_wp2
     go_roundw
     case rel=>exact⟨i+1,_,by omega,by go_num,rfl,HT2⟩
     case measure=>simp[intOf];omega
    ·have HF:Hid (R=false):=by
      show _=_
      rw[HR.out,decide_eq_false]
      intro hc
      have h5:=dc hc
      subst h5
      exact he rfl
     have hne:(¬es[i].at_=fs[i].at_)∨(es[i].at_=fs[i].at_∧¬es[i].row=fs[i].row)∨(es[i].at_=fs[i].at_∧es[i].row=fs[i].row∧¬es[i].sch=fs[i].sch):=by
      by_cases h1:es[i].at_=fs[i].at_
      ·by_cases h2:es[i].row=fs[i].row
       ·by_cases h3:es[i].sch=fs[i].sch
        ·exact absurd (by simp only[Ent.tup,h1,h2,h3]) he
        ·exact .inr (.inr ⟨h1,h2,h3⟩)
       ·exact .inr (.inl ⟨h1,h2⟩)
      ·exact .inl h1
     generalize es[i].at_=a at x0 hne
     generalize es[i].row=b at x1 hne
     generalize es[i].sch=c' at x2 hne
     generalize fs[i].at_=a2 at y0 hne
     generalize fs[i].row=b2' at y1 hne
     generalize fs[i].sch=c2' at y2 hne
     clear he HT
     rcases hne with h1 | ⟨rfl,h1⟩ | ⟨rfl,rfl,h1⟩
     all_goals
      have g1:=aH h1
      clear h1
      go_wp2
      go_quiet (fail)
      go_wp2
      go_ret
      exact⟨by rw[HF.out];rfl,_,World.drewN_drewN ..⟩
   ·have hii:i=es.length:=by omega
    subst hii
    have HF:Hid (R=true):=by
     show _=_
     rw[HR.out,decide_eq_true_iff]
     have:=HT.out
     rw[List.take_length,HL.out,List.take_length] at this
     exact this
    clear HT
    go_wp2
    go_ret
    exact⟨by rw[HF.out];rfl,n,rfl⟩
 ·have g0:((es.length:Int) != (fs.length:Int))=true:=by rw[bne_iff_ne];omega
  have HF:Hid (R=false):=by
   show _=_
   rw[HR.out,decide_eq_false]
   intro hc
   have:=congrArg List.length hc
   simp at this
   exact hlen this
  clear hlen
  go_enter Tryz.func39,Tryz.ntmps39
  go_wp2
  go_ret
  exact⟨by rw[HF.out];rfl,0,rfl⟩
end
section
structure Rw where
 l:List (Fr×Int)
 f0:Int
 r0:Int
 e0:List Ent
 s0:List (Fr×Int)
namespace Rw
def new:Rw:=⟨[],0,0,[],[]⟩
def push(x:Rw)(f:Fr)(p:Int):Rw:={ x with l:=x.l++[(f,p)] }
def frames(x:Rw):Int:=x.l.foldl (fun n q=>if q.1.kind=2 then n+1 else n) x.f0
def rows(x:Rw):Int:=x.l.foldl (fun n q=>if q.1.kind=2 then n+q.1.rows else n) x.r0
def schemas(x:Rw):List (Fr×Int):=x.s0++x.l.filter fun q=>decide (q.1.kind=1)
def number(x:Rw):Int:=x.schemas.foldl (fun n q=>if n<q.1.number then q.1.number else n) (-1)
def sinceF(x:Rw):Int×Bool:=x.l.foldl (fun r q=>if q.1.kind=1 then (0,true) else if q.1.kind=2 then (r.1+1,r.2) else r) (0,decide (0<x.s0.length))
def since(x:Rw):Int:=if x.sinceF.2=true then x.sinceF.1 else 0
def schema(x:Rw)(n:Int):Option (Fr×Int):=x.schemas.find? fun q=>decide (q.1.number=n)
def place(x:Rw)(n:Int):Int×Bool:=x.schemas.foldl (fun r q=>if q.1.number=n then (q.2,true) else r) (0,false)
structure En where
 out:List Ent
 frames:Int
 rows:Int
 last:Int
def enter(r:En)(q:Fr×Int):En :=
 if q.1.kind=1 then { r with last:=q.2 }
 else if q.1.kind=2 then ⟨if r.frames % 4=0∧r.out.length<64 then r.out++[⟨q.2,r.rows,r.last⟩] else r.out,r.frames+1,r.rows+q.1.rows,r.last⟩
 else r
def entriesF(x:Rw):En:=x.l.foldl enter ⟨x.e0,x.f0,x.r0,x.s0.foldl (fun _ q=>q.2) 0⟩
def entries(x:Rw):List Ent:=x.entriesF.out
def closed(x:Rw):Bool:=match x.l.getLast? with
 |some q=>decide (q.1.kind=3)
 |none=>false
def follows(x:Rw)(f:Fr)(p:Int):Bool :=
 if f.kind=1 then (if f.number=x.number+1 then true else match x.schema f.number with
  |some q=>decide (f.number=x.number)&&Sch.same q.1.cols f.cols
  |none=>false)
 else if f.kind=2 then decide (0<=x.number∧f.number=x.number∧f.seq=x.frames∧f.first=x.rows)
 else if f.kind=3 then Idx.same f.index ⟨p,x.frames,x.rows,x.entries⟩
 else false
theorem frames_push(x:Rw)(f:Fr)(p:Int):(x.push f p).frames=if f.kind=2 then x.frames+1 else x.frames:=by unfold frames push;rw[List.foldl_append];rfl
theorem rows_push(x:Rw)(f:Fr)(p:Int):(x.push f p).rows=if f.kind=2 then x.rows+f.rows else x.rows:=by unfold rows push;rw[List.foldl_append];rfl
theorem schemas_push(x:Rw)(f:Fr)(p:Int):(x.push f p).schemas=if f.kind=1 then x.schemas++[(f,p)] else x.schemas:=by
 unfold schemas push
 rw[List.filter_append,List.filter_cons]
 by_cases h:f.kind=1
 ·rw[if_pos h,if_pos (decide_eq_true h),List.filter_nil,List.append_assoc]
 ·rw[if_neg h,if_neg (by simp[h]),List.filter_nil,List.append_nil]
theorem sinceF_push(x:Rw)(f:Fr)(p:Int):(x.push f p).sinceF=if f.kind=1 then (0,true) else if f.kind=2 then (x.sinceF.1+1,x.sinceF.2) else x.sinceF:=by unfold sinceF push;rw[List.foldl_append];rfl
theorem entriesF_push(x:Rw)(f:Fr)(p:Int):(x.push f p).entriesF=enter x.entriesF (f,p):=by unfold entriesF push;rw[List.foldl_append];rfl
theorem closed_push(x:Rw)(f:Fr)(p:Int):(x.push f p).closed=decide (f.kind=3):=by unfold closed push;simp
theorem number_push(x:Rw)(f:Fr)(p:Int):(x.push f p).number=if f.kind=1 then (if x.number<f.number then f.number else x.number) else x.number:=by
 unfold number
 rw[schemas_push]
 by_cases h:f.kind=1
 ·rw[if_pos h,if_pos h,List.foldl_append];rfl
 ·rw[if_neg h,if_neg h]
theorem place_push(x:Rw)(f:Fr)(p n:Int):(x.push f p).place n=if f.kind=1∧f.number=n then (p,true) else x.place n:=by
 unfold place
 rw[schemas_push]
 by_cases h:f.kind=1
 ·rw[if_pos h,List.foldl_append]
  by_cases h2:f.number=n
  ·rw[if_pos ⟨h,h2⟩]
   show(if f.number=n then (p,true) else _)=_
   rw[if_pos h2]
  ·rw[if_neg (fun hc=>h2 hc.2)]
   show(if f.number=n then (p,true) else _)=_
   rw[if_neg h2]
 ·rw[if_neg h,if_neg (fun hc=>h hc.1)]
theorem schema_push(x:Rw)(f:Fr)(p n:Int):(x.push f p).schema n=match x.schema n with
  |some q=>some q
  |none=>if f.kind=1∧f.number=n then some (f,p) else none:=by
 unfold schema
 rw[schemas_push]
 obtain⟨o,ho⟩:∃o,o=x.schemas.find? fun q=>decide (q.1.number=n):=⟨_,rfl⟩
 by_cases h:f.kind=1
 ·rw[if_pos h,List.find?_append,<-ho]
  cases o with
  |some q=>rfl
  |none=>
   rw[List.find?_cons,List.find?_nil]
   by_cases h2:f.number=n
   ·rw[if_pos ⟨h,h2⟩]
    simp[h2]
   ·rw[if_neg (fun hc=>h2 hc.2)]
    simp[h2]
 ·rw[if_neg h,if_neg (fun hc=>h hc.1),<-ho]
  cases o <;> rfl
theorem schema_old{x:Rw}{n:Int}{q:Fr×Int}(h:x.schema n=some q)(f:Fr)(p:Int):(x.push f p).schema n=some q:=by rw[schema_push,h]
theorem schema_none{x:Rw}{n:Int}(h:x.schema n=none)(f:Fr)(p:Int):(x.push f p).schema n=if f.kind=1∧f.number=n then some (f,p) else none:=by rw[schema_push,h]
structure Twin(s:Wk)(x:Rw):Prop where
 frames:x.frames=s.frames
 rows:x.rows=s.rows
 number:x.number=s.number
 since:x.sinceF=(s.since,decide (0<=s.number))
 idle:s.number<0->s.since=0
 closed:x.closed=s.closed
 ents:x.entriesF=⟨s.ents,s.frames,s.rows,Sc.placeAt s s.number⟩
 sch:∀n,match s.sch n with
  |some k=>∃q,x.schema n=some q∧k.cols=q.1.cols.map Col.fix∧x.place n=(k.place,true)
  |none=>x.schema n=none∧x.place n=(0,false)
theorem twin_new:Twin Sc.new new:=⟨rfl,rfl,rfl,rfl,fun _=>rfl,rfl,rfl,fun _=>⟨rfl,rfl⟩⟩
theorem Twin.sinceEq{s:Wk}{x:Rw}(h:Twin s x):x.since=s.since:=by
 unfold Rw.since
 rw[h.since]
 show(if decide (0<=s.number)=true then s.since else 0)=s.since
 by_cases hn:0<=s.number
 ·rw[decide_eq_true hn];rfl
 ·rw[decide_eq_false hn,h.idle (by omega)];rfl
theorem Twin.entsEq{s:Wk}{x:Rw}(h:Twin s x):x.entries=s.ents:=by
 unfold Rw.entries
 rw[h.ents]
theorem Twin.follows{s:Wk}{x:Rw}(h:Twin s x)(hg:Sc.Good s){f:Fr}(he:Fr.err f=0)(p:Int):x.follows f p=Sc.follows s f p:=by
 obtain⟨e1,e2,e3⟩:=Sc.err_parts he
 unfold Rw.follows Sc.follows
 rw[h.number,h.frames,h.rows,h.entsEq]
 by_cases h1:f.kind=1
 ·rw[if_pos h1,if_pos h1]
  by_cases h2:f.number=s.number
  ·rw[if_neg (by omega),if_pos h2]
   obtain⟨k,hk⟩:=hg.has (by have:=(e1 h1).1;omega)
   have h3:=h.sch f.number
   rw[h2] at h3
   rw[hk] at h3
   obtain⟨q,q1,q2,q3⟩:=h3
   rw[h2,q1]
   have e4:Sc.schAt s s.number=k.cols:=by unfold Sc.schAt;rw[hk]
   rw[e4,q2]
   show(decide (s.number=s.number)&&Sch.same q.1.cols f.cols)=_
   rw[decide_eq_true rfl,Bool.true_and,Bool.eq_iff_iff,Sch.same_fix,Sch.same_fix]
   have e5:(q.1.cols.map Col.fix).map Col.fix=q.1.cols.map Col.fix:=by
    rw[List.map_map]
    exact List.map_congr_left fun c _=>Fr.col_fix_idem c
   rw[e5]
   exact⟨fun h=>h.symm,fun h=>h.symm⟩
  ·rw[if_neg h2]
   by_cases h3:f.number=s.number+1
   ·rw[if_pos h3,decide_eq_true h3]
   ·rw[if_neg h3,decide_eq_false h3]
    split
    ·rw[decide_eq_false h2,Bool.false_and]
    ·rfl
 ·rw[if_neg h1,if_neg h1]
  by_cases h2:f.kind=2
  ·rw[if_pos h2,if_pos h2]
   have:=(e2 h2).1
   congr 1
   exact propext ⟨fun h=>h.2,fun h=>⟨by omega,h⟩⟩
  ·rw[if_neg h2,if_neg h2,if_pos (by omega)]
theorem Twin.push{s:Wk}{x:Rw}(h:Twin s x)(hg:Sc.Good s){f:Fr}{p:Int}(hm:Sc.may s f p=true):Twin (Sc.take s f p) (x.push f p):=by
 obtain⟨-,he,hf⟩:=Sc.may_parts hm
 obtain⟨e1,e2,e3⟩:=Sc.err_parts he
 by_cases h1:f.kind=1
 ·have hs:=Sc.follows_sch h1 hf
  have e:Sc.take s f p={ Sc.learn s f.number f.cols p with closed:=false }:=by unfold Sc.take;rw[if_pos h1]
  have h0:=(e1 h1).1
  have hfu:=hf
  unfold Sc.follows at hfu
  rw[if_pos h1] at hfu
  rw[e]
  refine⟨?_,?_,?_,?_,?_,?_,?_,?_⟩
  ·rw[frames_push,if_neg (by omega)];exact h.frames
  ·rw[rows_push,if_neg (by omega)];exact h.rows
  ·rw[number_push,if_pos h1,h.number]
   show _=f.number
   split <;> omega
  ·rw[sinceF_push,if_pos h1]
   show _=((0:Int),decide (0<=f.number))
   rw[decide_eq_true (by omega)]
  ·intro _;rfl
  ·rw[closed_push,decide_eq_false (by omega)]
  ·rw[entriesF_push,h.ents]
   unfold enter
   rw[if_pos h1]
   show En.mk s.ents s.frames s.rows p=_
   have:Sc.placeAt { Sc.learn s f.number f.cols p with closed:=false } f.number=p:=by
    unfold Sc.placeAt Sc.learn
    simp
   show _=En.mk s.ents s.frames s.rows (Sc.placeAt { Sc.learn s f.number f.cols p with closed:=false } f.number)
   rw[this]
  ·intro n
   have hn:=h.sch n
   show match (if n=f.number then some (Kn.mk (f.cols.map Col.fix) p) else s.sch n) with
    |some k=>∃q,(x.push f p).schema n=some q∧k.cols=q.1.cols.map Col.fix∧(x.push f p).place n=(k.place,true)
    |none=>(x.push f p).schema n=none∧(x.push f p).place n=(0,false)
   have hpl:=place_push x f p n
   by_cases h2:n=f.number
   ·subst h2
    rw[if_pos ⟨h1,rfl⟩] at hpl
    rw[if_pos rfl,hpl]
    cases hk:s.sch f.number with
    |none=>
     rw[hk] at hn
     have h3:=schema_none hn.1 f p
     rw[if_pos ⟨h1,rfl⟩] at h3
     exact⟨(f,p),h3,rfl,rfl⟩
    |some k=>
     rw[hk] at hn
     obtain⟨q,q1,q2,q3⟩:=hn
     refine⟨q,schema_old q1 f p,?_,rfl⟩
     have hle:=(hg.known _ _ hk).1
     have hfn:f.number=s.number:=by omega
     rw[if_pos hfn] at hfu
     have e4:Sc.schAt s s.number=k.cols:=by unfold Sc.schAt;rw[<-hfn,hk]
     rw[e4,q2,Sch.same_fix] at hfu
     have e5:(q.1.cols.map Col.fix).map Col.fix=q.1.cols.map Col.fix:=by
      rw[List.map_map]
      exact List.map_congr_left fun c _=>Fr.col_fix_idem c
     rw[e5] at hfu
     exact hfu
   ·rw[if_neg (fun hc=>h2 hc.2.symm)] at hpl
    rw[if_neg h2,hpl]
    cases hk:s.sch n with
    |none=>
     rw[hk] at hn
     have h3:=schema_none hn.1 f p
     rw[if_neg (fun hc=>h2 hc.2.symm)] at h3
     exact⟨h3,hn.2⟩
    |some k=>
     rw[hk] at hn
     obtain⟨q,q1,q2,q3⟩:=hn
     exact⟨q,schema_old q1 f p,q2,q3⟩
 ·by_cases h2:f.kind=2
  ·obtain⟨f1,f2,f3⟩:=Sc.follows_data h2 hf
   have h0:=(e2 h2).1
   have e:Sc.take s f p={ Sc.count (Sc.enter s f p) f with closed:=false }:=by unfold Sc.take;rw[if_neg h1,if_pos h2]
   obtain⟨n1,n2,n3,n4,n5,n6⟩:=Sc.enter_same s f p
   rw[e]
   refine⟨?_,?_,?_,?_,?_,?_,?_,?_⟩
   ·rw[frames_push,if_pos h2,h.frames];show _=(Sc.enter s f p).frames+1;rw[n4]
   ·rw[rows_push,if_pos h2,h.rows];show _=(Sc.enter s f p).rows+f.rows;rw[n5]
   ·rw[number_push,if_neg h1,h.number];exact n2.symm
   ·rw[sinceF_push,if_neg h1,if_pos h2,h.since]
    show _=((Sc.enter s f p).since+1,decide (0<=(Sc.enter s f p).number))
    rw[n3,n2]
   ·intro hc
    have hc2:(Sc.enter s f p).number<0:=hc
    rw[n2] at hc2
    omega
   ·rw[closed_push,decide_eq_false (by omega)]
   ·rw[entriesF_push,h.ents]
    unfold enter
    rw[if_neg h1,if_pos h2]
    show En.mk (if s.frames % 4=0∧s.ents.length<64 then s.ents++[⟨p,s.rows,Sc.placeAt s s.number⟩] else s.ents) (s.frames+1) (s.rows+f.rows) (Sc.placeAt s s.number)=En.mk (Sc.enter s f p).ents ((Sc.enter s f p).frames+1) ((Sc.enter s f p).rows+f.rows) (Sc.placeAt (Sc.enter s f p) (Sc.enter s f p).number)
    have hp:Sc.placeAt (Sc.enter s f p) (Sc.enter s f p).number=Sc.placeAt s s.number:=by unfold Sc.placeAt;rw[n1,n2]
    have hx:(Sc.enter s f p).ents=if s.frames % 4=0∧s.ents.length<64 then s.ents++[⟨p,s.rows,Sc.placeAt s s.number⟩] else s.ents:=by
     unfold Sc.enter
     rw[f2,f3]
     split <;> rfl
    rw[hp,hx,n4,n5]
   ·intro n
    have hn:=h.sch n
    show match (Sc.enter s f p).sch n with
     |some k=>∃q,(x.push f p).schema n=some q∧k.cols=q.1.cols.map Col.fix∧(x.push f p).place n=(k.place,true)
     |none=>(x.push f p).schema n=none∧(x.push f p).place n=(0,false)
    have hpl:=place_push x f p n
    rw[if_neg (fun hc=>h1 hc.1)] at hpl
    rw[n1,hpl]
    cases hk:s.sch n with
    |none=>
     rw[hk] at hn
     have h3:=schema_none hn.1 f p
     rw[if_neg (fun hc=>h1 hc.1)] at h3
     exact⟨h3,hn.2⟩
    |some k=>
     rw[hk] at hn
     obtain⟨q,q1,q2,q3⟩:=hn
     exact⟨q,schema_old q1 f p,q2,q3⟩
  ·have h3:f.kind=3:=by omega
   have e:Sc.take s f p={ s with closed:=true }:=by unfold Sc.take;rw[if_neg h1,if_neg h2]
   rw[e]
   refine⟨?_,?_,?_,?_,h.idle,?_,?_,?_⟩
   ·rw[frames_push,if_neg h2];exact h.frames
   ·rw[rows_push,if_neg h2];exact h.rows
   ·rw[number_push,if_neg h1];exact h.number
   ·rw[sinceF_push,if_neg h1,if_neg h2];exact h.since
   ·rw[closed_push,decide_eq_true h3]
   ·rw[entriesF_push]
    unfold enter
    rw[if_neg h1,if_neg h2]
    exact h.ents
   ·intro n
    have hn:=h.sch n
    show match s.sch n with
     |some k=>∃q,(x.push f p).schema n=some q∧k.cols=q.1.cols.map Col.fix∧(x.push f p).place n=(k.place,true)
     |none=>(x.push f p).schema n=none∧(x.push f p).place n=(0,false)
    have hpl:=place_push x f p n
    rw[if_neg (fun hc=>h1 hc.1)] at hpl
    rw[hpl]
    cases hk:s.sch n with
    |none=>
     rw[hk] at hn
     have h3:=schema_none hn.1 f p
     rw[if_neg (fun hc=>h1 hc.1)] at h3
     exact⟨h3,hn.2⟩
    |some k=>
     rw[hk] at hn
     obtain⟨q,q1,q2,q3⟩:=hn
     exact⟨q,schema_old q1 f p,q2,q3⟩
end Rw
end
section
open Go.RowKit
structure PlA(w:World)(b o:Nat)(q:Fr×Int):Prop where
 out:∃sp sc bp bc ep ec,aB w (av q.1.kind q.1.number sp q.1.cols.length sc q.1.seq q.1.first q.1.rows bp q.1.block.length bc q.1.index.at_ q.1.index.frames q.1.index.rows ep q.1.index.entries.length ec) q.1 ∧
  w.cell? ⟨b,o,none⟩=some (.int .i64 q.1.kind)∧w.cell? ⟨b,o+1,none⟩=some (.int .i64 q.1.number)∧w.cell? ⟨b,o+2,none⟩=some (.slice sp q.1.cols.length sc)∧w.cell? ⟨b,o+3,none⟩=some (.int .i64 q.1.seq)∧w.cell? ⟨b,o+4,none⟩=some (.int .i64 q.1.first)∧w.cell? ⟨b,o+5,none⟩=some (.int .i64 q.1.rows)∧w.cell? ⟨b,o+6,none⟩=some (.slice bp q.1.block.length bc)∧w.cell? ⟨b,o+7,none⟩=some (.int .i64 q.1.index.at_)∧w.cell? ⟨b,o+8,none⟩=some (.int .i64 q.1.index.frames)∧w.cell? ⟨b,o+9,none⟩=some (.int .i64 q.1.index.rows)∧w.cell? ⟨b,o+10,none⟩=some (.slice ep q.1.index.entries.length ec)∧w.cell? ⟨b,o+11,none⟩=some (.int .i64 q.2)
theorem PlA.on{w w':World}{b o:Nat}{q:Fr×Int}(h:PlA w b o q)(hb:Below w.1.size w w'):PlA w' b o q:=by
 obtain⟨sp,sc,bp,bc,ep,ec,h0,c0,c1,c2,c3,c4,c5,c6,c7,c8,c9,c10,c11⟩:=h.out
 exact⟨sp,sc,bp,bc,ep,ec,h0.on hb,ab hb c0,ab hb c1,ab hb c2,ab hb c3,ab hb c4,ab hb c5,ab hb c6,ab hb c7,ab hb c8,ab hb c9,ab hb c10,ab hb c11⟩
def Pls(w:World)(p:OA)(l:List (Fr×Int)):Prop:=∀i (hi:i<l.length),∃b o,p=some ⟨b,o,none⟩∧PlA w b (o+i*12) l[i]
theorem Pls.on{w w':World}{p:OA}{l:List (Fr×Int)}(h:Pls w p l)(hb:Below w.1.size w w'):Pls w' p l:=fun i hi=>by
 obtain⟨b,o,h1,h2⟩:=h i hi
 exact⟨b,o,h1,h2.on hb⟩
def cM(w:World)(p:OA)(us:List (List Value)):Prop:=∀j (hj:j<us.length),∃b o,p=some ⟨b,o,none⟩∧∀m,m<12->w.cell? ⟨b,o+j*12+m,none⟩=us[j][m]?
def PlV(w:World)(u:List Value)(q:Fr×Int):Prop:=∃sp sc bp bc ep ec,aB w (av q.1.kind q.1.number sp q.1.cols.length sc q.1.seq q.1.first q.1.rows bp q.1.block.length bc q.1.index.at_ q.1.index.frames q.1.index.rows ep q.1.index.entries.length ec) q.1 ∧
 u=[.int .i64 q.1.kind,.int .i64 q.1.number,.slice sp q.1.cols.length sc,.int .i64 q.1.seq,.int .i64 q.1.first,.int .i64 q.1.rows,.slice bp q.1.block.length bc,.int .i64 q.1.index.at_,.int .i64 q.1.index.frames,.int .i64 q.1.index.rows,.slice ep q.1.index.entries.length ec,.int .i64 q.2]
theorem p7{w:World}{p:OA}{Z:List (List Value×(Fr×Int))}(hV:∀z∈Z,PlV w z.1 z.2)(hL:cM w p (Z.map (·.1))):Pls w p (Z.map (·.2)):=fun i hi=>by
 have hi':i<Z.length:=by simpa using hi
 obtain⟨b,o,hp,hc⟩:=hL i (by simpa using hi')
 rw[List.getElem_map] at hc
 obtain⟨sp,sc,bp,bc,ep,ec,hf,hu⟩:=hV Z[i] (List.getElem_mem hi')
 rw[hu] at hc
 rw[List.getElem_map]
 exact⟨b,o,hp,sp,sc,bp,bc,ep,ec,hf,hc 0 (by omega),hc 1 (by omega),hc 2 (by omega),hc 3 (by omega),hc 4 (by omega),hc 5 (by omega),hc 6 (by omega),hc 7 (by omega),hc 8 (by omega),hc 9 (by omega),hc 10 (by omega),hc 11 (by omega)⟩
structure Rw.Small(x:Rw):Prop where
 f0:0<=x.f0∧x.f0<=70368744177664
 r0:0<=x.r0∧x.r0<=1099511627776
 l:x.l.length<=1000000
 s0:x.s0.length<=1
 rows:∀q∈x.l,q.1.kind=2->0<=q.1.rows∧q.1.rows<=64
structure aG(w:World)(a:Nat)(x:Rw)(F:Nat->Prop):Prop where
 out:∃lp lc ep ec sp sc,∃ZL ZS:List (List Value×(Fr×Int)),w.1[a]?=some (.cells #[.slice lp x.l.length lc,.int .i64 x.f0,.int .i64 x.r0,.slice ep x.e0.length ec,.slice sp x.s0.length sc] 71)∧ZL.map (·.2)=x.l∧ZS.map (·.2)=x.s0∧(∀w',Aside (fun i=>i=a∨F i) w w'->((∀z∈ZL,PlV w' z.1 z.2)∧cM w' lp (ZL.map (·.1)))∧cQ w' ep x.e0∧(∀z∈ZS,PlV w' z.1 z.2)∧cM w' sp (ZS.map (·.1)))∧x.e0.length*24<=140737488351232∧x.l.length<=lc
 small:x.Small
section
variable {w w':World} {a:Nat} {x:Rw} {F:Nat->Prop}
theorem aG.old(h:aG w a x F):∃lp lc ep ec sp sc,w.1[a]?=some (.cells #[.slice lp x.l.length lc,.int .i64 x.f0,.int .i64 x.r0,.slice ep x.e0.length ec,.slice sp x.s0.length sc] 71)∧(∀w',Aside (fun i=>i=a∨F i) w w'->Pls w' lp x.l∧cQ w' ep x.e0∧Pls w' sp x.s0)∧x.e0.length*24<=140737488351232:=by
 obtain⟨lp,lc,ep,ec,sp,sc,ZL,ZS,h1,e1,e2,h2,h3,-⟩:=h.out
 refine⟨lp,lc,ep,ec,sp,sc,h1,fun w' ha=>?_,h3⟩
 obtain⟨⟨q1,q2⟩,q3,q4,q5⟩:=h2 w' ha
 rw[<-e1,<-e2]
 exact⟨p7 q1 q2,q3,p7 q4 q5⟩
theorem aG.lt(h:aG w a x F):a<w.1.size:=by
 obtain⟨lp,lc,ep,ec,sp,sc,h1,-⟩:=h.old
 exact(Array.getElem?_eq_some_iff.1 h1).1
theorem aG.aside{F':Nat->Prop}(h:aG w a x F)(ha:Aside F w w')(hFa:¬F a)(hF:∀k,F' k->F k∨w.1.size<=k):aG w' a x F':=by
 obtain⟨lp,lc,ep,ec,sp,sc,ZL,ZS,h1,e1,e2,h2,h3⟩:=h.out
 refine⟨⟨lp,lc,ep,ec,sp,sc,ZL,ZS,by rw[ha.block a h.lt hFa];exact h1,e1,e2,fun w'' hb=>?_,h3⟩,h.small⟩
 exact h2 w'' ((ha.mono fun i _ hi=>.inr hi).trans hb fun i hi hf=>by
  rcases hf with hf | hf
  ·exact .inl hf
  ·exact(hF i hf).elim .inr (fun hc=>absurd hi (Nat.not_lt_of_le hc)))
theorem aG.on(h:aG w a x F)(hb:Below w.1.size w w')(hFa:¬F a):aG w' a x F:=h.aside (ae hb F) hFa (fun _ hk=>.inl hk)
theorem cu{A B:Type}(f:B->A->B)(b:B)(l:List A)(i:Nat)(hi:i<l.length):(l.take (i+1)).foldl f b=f ((l.take i).foldl f b) l[i]:=by
 rw[List.take_succ_eq_append_getElem hi,List.foldl_append]
 rfl
theorem jo:∀(l:List (Fr×Int)) (n:Int),n<=l.foldl (fun n q=>if q.1.kind=2 then n+1 else n) n∧l.foldl (fun n q=>if q.1.kind=2 then n+1 else n) n<=n+l.length
 | [],n=>⟨Int.le_refl _,by simp⟩
 |q::r,n=>by
  have h:=jo r (if q.1.kind=2 then n+1 else n)
  rw[List.foldl_cons]
  simp only[List.length_cons]
  by_cases hk:q.1.kind=2
  ·simp only[if_pos hk] at h ⊢;omega
  ·simp only[if_neg hk] at h ⊢;omega
theorem dX(h:aG w a x F):Calls Tryz.prog 33 #[.pointer (some ⟨a,0,none⟩)] w fun e w'=>e=.returned (.int .i64 x.frames)∧Below w.1.size w w':=by
 obtain⟨lp,lc,ep,ec,sp,sc,h1,h2,-⟩:=h.old
 have c0:w.cell? ⟨a,0,none⟩=some (.slice lp x.l.length lc):=aa h1 0
 have c1:w.cell? ⟨a,1,none⟩=some (.int .i64 x.f0):=aa h1 1
 have HP:=vQ (h2 w (Aside.refl _ _)).1
 have hs:=h.small
 obtain⟨f0,hf0⟩:∃f0,f0=x.f0:=⟨_,rfl⟩
 obtain⟨l,hl⟩:∃l,l=x.l:=⟨_,rfl⟩
 have HX:Hid (x.frames=l.foldl (fun n q=>if q.1.kind=2 then n+1 else n) f0):=by show x.frames=_;rw[hl,hf0];rfl
 have hf1:=hs.f0
 have hl1:=hs.l
 rw[<-hf0] at c1 hf1
 rw[<-hl] at c0 HP hl1
 rw[HX.out]
 clear h h1 h2 hs hf0 hl HX
 go_enter Tryz.func33,Tryz.ntmps33
 go_wp2_with fail
 go_loopw [3,15] (fun v3 v15 wr=>∃i:Nat,i<=l.length∧v15=.int .i64 (i:Nat)∧v3=.int .i64 ((l.take i).foldl (fun n q=>if q.1.kind=2 then n+1 else n) f0)∧Hid (Below w.1.size w wr)) (fun _ v15 _=>l.length-(intOf v15).toNat)
 case atStart=>exact⟨0,by omega,rfl,rfl,vZ⟩
 case round=>
  obtain⟨i,hi,rfl,rfl,HB⟩:=hrel
  have hiI:(i:Int)<=1000000:=by omega
  have hle:=jo (l.take i) f0
  have hlt2:(l.take i).length<=i:=List.length_take_le _ _
  obtain⟨N,hN⟩:∃N,N=(l.take i).foldl (fun n q=>if q.1.kind=2 then n+1 else n) f0:=⟨_,rfl⟩
  rw[<-hN] at hle ⊢
  by_cases hlt:i<l.length
  ·have f1:(i:Int)<(l.length:Int):=by omega
   have hst:=cu (fun(n:Int) (q:Fr×Int)=>if q.1.kind=2 then n+1 else n) f0 l i hlt
   rw[<-hN] at hst
   obtain⟨b,o,rfl,hA⟩:=HP.out i hlt
   obtain⟨sp,sc,bp,bc,ep,ec,-,d0,d1,d2,d3,d4,d5,d6,d7,d8,d9,d10,d11⟩:=(hA.on HB.out).out
   generalize l[i].1.kind=k0,l[i].1.number=k1,l[i].1.cols.length=k2,l[i].1.seq=k3,l[i].1.first=k4,l[i].1.rows=k5,l[i].1.block.length=k6,l[i].1.index.at_=k7,l[i].1.index.frames=k8,l[i].1.index.rows=k9,l[i].1.index.entries.length=k10,l[i].2=k11 at d0 d1 d2 d3 d4 d5 d6 d7 d8 d9 d10 d11 hst
   have HSt:=vQ hst
   have hNI:N<=72057594037927936:=by omega
   have hNJ:0<=N:=by omega
   have HB2:Hid (∀o,Below w.1.size w (wr.alloc o)):=fun o=>HB.out.alloc HB.out.size o
   clear hst hA hN hle hlt2 HB
   by_cases hk:k0=2
   ·have f2:(k0==2)=true:=by rw[beq_iff_eq];exact hk
    have HS2:Hid (List.foldl (fun n q=>if q.fst.kind=2 then n+1 else n) f0 (List.take (i+1) l)=N+1):=by show _=_;rw[HSt.out,if_pos hk]
    clear HSt hk
    go_wp2
    go_roundw
    case rel=>exact⟨i+1,by omega,by go_num,by rw[HS2.out],HB2.out _⟩
    case measure=>simp[intOf];omega
   ·have f2:(k0==2)=false:=by rw[beq_eq_false_iff_ne];exact hk
    have HS2:Hid (List.foldl (fun n q=>if q.fst.kind=2 then n+1 else n) f0 (List.take (i+1) l)=N):=by show _=_;rw[HSt.out,if_neg hk]
    clear HSt hk
    go_wp2
    go_roundw
    case rel=>exact⟨i+1,by omega,by go_num,by rw[HS2.out],HB2.out _⟩
    case measure=>simp[intOf];omega
  ·have f1:¬(i:Int)<(l.length:Int):=by omega
   have HE:Hid (N=l.foldl (fun n q=>if q.1.kind=2 then n+1 else n) f0):=by show N=_;rw[hN,List.take_of_length_le (by omega)]
   clear hN hle hlt2 hlt
   go_wp2
   go_ret
   exact⟨by rw[<-HE.out];rfl,HB.out⟩
theorem nd:∀(l:List (Fr×Int)),(∀q∈l,q.1.kind=2->0<=q.1.rows∧q.1.rows<=64)->∀(n:Int),n<=l.foldl (fun n q=>if q.1.kind=2 then n+q.1.rows else n) n∧l.foldl (fun n q=>if q.1.kind=2 then n+q.1.rows else n) n<=n+64*l.length
 | [],_,n=>⟨Int.le_refl _,by simp⟩
 |q::r,hr,n=>by
  have h:=nd r (fun q hq=>hr q (List.mem_cons_of_mem _ hq)) (if q.1.kind=2 then n+q.1.rows else n)
  have h2:=hr q List.mem_cons_self
  rw[List.foldl_cons]
  simp only[List.length_cons]
  by_cases hk:q.1.kind=2
  ·have:=h2 hk
   simp only[if_pos hk] at h ⊢;omega
  ·simp only[if_neg hk] at h ⊢;omega
theorem fN(h:aG w a x F):Calls Tryz.prog 34 #[.pointer (some ⟨a,0,none⟩)] w fun e w'=>e=.returned (.int .i64 x.rows)∧Below w.1.size w w':=by
 obtain⟨lp,lc,ep,ec,sp,sc,h1,h2,-⟩:=h.old
 have c0:w.cell? ⟨a,0,none⟩=some (.slice lp x.l.length lc):=aa h1 0
 have c1:w.cell? ⟨a,2,none⟩=some (.int .i64 x.r0):=aa h1 2
 have HP:=vQ (h2 w (Aside.refl _ _)).1
 have hs:=h.small
 obtain⟨f0,hf0⟩:∃f0,f0=x.r0:=⟨_,rfl⟩
 obtain⟨l,hl⟩:∃l,l=x.l:=⟨_,rfl⟩
 have HX:Hid (x.rows=l.foldl (fun n q=>if q.1.kind=2 then n+q.1.rows else n) f0):=by show x.rows=_;rw[hl,hf0];rfl
 have hf1:=hs.r0
 have hl1:=hs.l
 have HRw:Hid (∀q∈x.l,q.1.kind=2->0<=q.1.rows∧q.1.rows<=64):=hs.rows
 rw[<-hf0] at c1 hf1
 rw[<-hl] at c0 HP hl1 HRw
 rw[HX.out]
 clear h h1 h2 hs hf0 hl HX
 go_enter Tryz.func34,Tryz.ntmps34
 go_wp2_with fail
 go_loopw [3,15] (fun v3 v15 wr=>∃i:Nat,i<=l.length∧v15=.int .i64 (i:Nat)∧v3=.int .i64 ((l.take i).foldl (fun n q=>if q.1.kind=2 then n+q.1.rows else n) f0)∧Hid (Below w.1.size w wr)) (fun _ v15 _=>l.length-(intOf v15).toNat)
 case atStart=>exact⟨0,by omega,rfl,rfl,vZ⟩
 case round=>
  obtain⟨i,hi,rfl,rfl,HB⟩:=hrel
  have hiI:(i:Int)<=1000000:=by omega
  have hle:=nd (l.take i) (fun q hq=>HRw.out q (List.mem_of_mem_take hq)) f0
  have hlt2:(l.take i).length<=i:=List.length_take_le _ _
  obtain⟨N,hN⟩:∃N,N=(l.take i).foldl (fun n q=>if q.1.kind=2 then n+q.1.rows else n) f0:=⟨_,rfl⟩
  rw[<-hN] at hle ⊢
  by_cases hlt:i<l.length
  ·have f1:(i:Int)<(l.length:Int):=by omega
   have hst:=cu (fun(n:Int) (q:Fr×Int)=>if q.1.kind=2 then n+q.1.rows else n) f0 l i hlt
   rw[<-hN] at hst
   obtain⟨b,o,rfl,hA⟩:=HP.out i hlt
   have hrw:=HRw.out l[i] (List.getElem_mem hlt)
   obtain⟨sp,sc,bp,bc,ep,ec,-,d0,d1,d2,d3,d4,d5,d6,d7,d8,d9,d10,d11⟩:=(hA.on HB.out).out
   generalize l[i].1.kind=k0,l[i].1.number=k1,l[i].1.cols.length=k2,l[i].1.seq=k3,l[i].1.first=k4,l[i].1.rows=k5,l[i].1.block.length=k6,l[i].1.index.at_=k7,l[i].1.index.rows=k8,l[i].1.index.rows=k9,l[i].1.index.entries.length=k10,l[i].2=k11 at d0 d1 d2 d3 d4 d5 d6 d7 d8 d9 d10 d11 hst hrw
   have HSt:=vQ hst
   have hNI:N<=72057594037927936:=by omega
   have hNJ:0<=N:=by omega
   have HB2:Hid (∀o,Below w.1.size w (wr.alloc o)):=fun o=>HB.out.alloc HB.out.size o
   clear hst hA hN hle hlt2 HB
   by_cases hk:k0=2
   ·have f2:(k0==2)=true:=by rw[beq_iff_eq];exact hk
    have HS2:Hid (List.foldl (fun n q=>if q.fst.kind=2 then n+q.fst.rows else n) f0 (List.take (i+1) l)=N+k5):=by show _=_;rw[HSt.out,if_pos hk]
    have hr1:=(hrw hk).1
    have hr2:=(hrw hk).2
    clear HSt hk hrw
    go_wp2
    go_roundw
    case rel=>exact⟨i+1,by omega,by go_num,by rw[HS2.out],HB2.out _⟩
    case measure=>simp[intOf];omega
   ·have f2:(k0==2)=false:=by rw[beq_eq_false_iff_ne];exact hk
    have HS2:Hid (List.foldl (fun n q=>if q.fst.kind=2 then n+q.fst.rows else n) f0 (List.take (i+1) l)=N):=by show _=_;rw[HSt.out,if_neg hk]
    clear HSt hk hrw
    go_wp2
    go_roundw
    case rel=>exact⟨i+1,by omega,by go_num,by rw[HS2.out],HB2.out _⟩
    case measure=>simp[intOf];omega
  ·have f1:¬(i:Int)<(l.length:Int):=by omega
   have HE:Hid (N=l.foldl (fun n q=>if q.1.kind=2 then n+q.1.rows else n) f0):=by show N=_;rw[hN,List.take_of_length_le (by omega)]
   clear hN hle hlt2 hlt
   go_wp2
   go_ret
   exact⟨by rw[<-HE.out];rfl,HB.out⟩
end
end
section
open Go.RowKit
section
variable {w w':World} {a:Nat} {x:Rw} {F:Nat->Prop}
def bw(r:Int×Bool)(q:Fr×Int):Int×Bool:=if q.1.kind=1 then (0,true) else if q.1.kind=2 then (r.1+1,r.2) else r
theorem kr:∀(l:List (Fr×Int)) (r:Int×Bool),0<=r.1->0<=(l.foldl bw r).1∧(l.foldl bw r).1<=r.1+l.length
 | [],r,h=>⟨h,by simp⟩
 |q::t,r,h=>by
  have h1:0<=(bw r q).1∧(bw r q).1<=r.1+1:=by
   unfold bw
   split
   ·exact⟨Int.le_refl _,by show(0:Int)<=r.1+1;omega⟩
   ·split
    ·exact⟨by show 0<=r.1+1;omega,Int.le_refl _⟩
    ·omega
  have h2:=kr t (bw r q) h1.1
  rw[List.foldl_cons]
  simp only[List.length_cons]
  omega
theorem lZ(h:aG w a x F):Calls Tryz.prog 36 #[.pointer (some ⟨a,0,none⟩)] w fun e w'=>e=.returned (.int .i64 x.since)∧Below w.1.size w w':=by
 obtain⟨lp,lc,ep,ec,sp,sc,h1,h2,-⟩:=h.old
 have c0:w.cell? ⟨a,0,none⟩=some (.slice lp x.l.length lc):=aa h1 0
 have c4:w.cell? ⟨a,4,none⟩=some (.slice sp x.s0.length sc):=aa h1 4
 have HP:=vQ (h2 w (Aside.refl _ _)).1
 have hs:=h.small
 obtain⟨S0,hS0⟩:∃S0,S0=x.s0.length:=⟨_,rfl⟩
 obtain⟨l,hl⟩:∃l,l=x.l:=⟨_,rfl⟩
 have HX:Hid (x.since=if (l.foldl bw (0,decide (0<S0))).2=true then (l.foldl bw (0,decide (0<S0))).1 else 0):=by show x.since=_;rw[hl,hS0];rfl
 have hs1:=hs.s0
 have hl1:=hs.l
 rw[<-hS0] at c4 hs1
 rw[<-hl] at c0 HP hl1
 rw[HX.out]
 obtain⟨z0,hd0⟩:∃z0,z0=decide (0<S0):=⟨_,rfl⟩
 rw[<-hd0]
 have HD:=vQ hd0
 obtain⟨R,hR⟩:∃R:Int,R=if (l.foldl bw (0,z0)).2=true then (l.foldl bw (0,z0)).1 else 0:=⟨_,rfl⟩
 rw[<-hR]
 have HR:=vQ hR
 clear hR
 clear h h1 h2 hs hS0 hl HX hd0
 go_enter Tryz.func36,Tryz.ntmps36
 go_wp2_with fail
 go_loopw [3,4,18] (fun v3 v4 v18 wr=>∃i:Nat,i<=l.length∧v18=.int .i64 (i:Nat)∧v3=.int .i64 ((l.take i).foldl bw (0,z0)).1∧v4=.bool ((l.take i).foldl bw (0,z0)).2∧Hid (Below w.1.size w wr)) (fun _ _ v18 _=>l.length-(intOf v18).toNat)
 case atStart=>exact⟨0,by omega,rfl,rfl,by rw[HD.out];rfl,vZ⟩
 case round=>
  obtain⟨i,hi,rfl,rfl,rfl,HB⟩:=hrel
  have hiI:(i:Int)<=1000000:=by omega
  have hle:=kr (l.take i) (0,z0) (Int.le_refl _)
  have hlt2:(l.take i).length<=i:=List.length_take_le _ _
  obtain⟨N,hN⟩:∃N,N=(l.take i).foldl bw (0,z0):=⟨_,rfl⟩
  rw[<-hN] at hle ⊢
  obtain⟨n,m⟩:=N
  have hle1:0<=n∧n<=1000000:=⟨hle.1,by have h3:n<=0+((l.take i).length:Int):=hle.2;omega⟩
  by_cases hlt:i<l.length
  ·have f1:(i:Int)<(l.length:Int):=by omega
   have hst:=cu bw (0,z0) l i hlt
   rw[<-hN] at hst
   obtain⟨b,o,rfl,hA⟩:=HP.out i hlt
   obtain⟨sp,sc,bp,bc,ep,ec,-,d0,d1,d2,d3,d4,d5,d6,d7,d8,d9,d10,d11⟩:=(hA.on HB.out).out
   have hu:∀r q,bw r q=if q.1.kind=1 then (0,true) else if q.1.kind=2 then (r.1+1,r.2) else r:=fun _ _=>rfl
   rw[hu] at hst
   clear hu
   generalize l[i].1.kind=k0,l[i].1.number=k1,l[i].1.cols.length=k2,l[i].1.seq=k3,l[i].1.first=k4,l[i].1.rows=k5,l[i].1.block.length=k6,l[i].1.index.at_=k7,l[i].1.index.frames=k8,l[i].1.index.rows=k9,l[i].1.index.entries.length=k10,l[i].2=k11 at d0 d1 d2 d3 d4 d5 d6 d7 d8 d9 d10 d11 hst
   have HSt:=vQ hst
   have HB2:Hid (∀o,Below w.1.size w (wr.alloc o)):=fun o=>HB.out.alloc HB.out.size o
   clear hst hA hN hle hlt2 HB
   by_cases hk:k0=1
   ·have f2:(k0==1)=true:=by rw[beq_iff_eq];exact hk
    have HS2:Hid ((l.take (i+1)).foldl bw (0,z0)=(0,true)):=by show _=_;rw[HSt.out,if_pos hk]
    clear HSt hk
    go_wp2
    go_roundw
    case rel=>exact⟨i+1,by omega,by go_num,by rw[HS2.out],by rw[HS2.out],HB2.out _⟩
    case measure=>simp[intOf];omega
   ·have f2:(k0==1)=false:=by rw[beq_eq_false_iff_ne];exact hk
    by_cases hk2:k0=2
    ·have f3:(k0==2)=true:=by rw[beq_iff_eq];exact hk2
     have HS2:Hid ((l.take (i+1)).foldl bw (0,z0)=(n+1,m)):=by show _=_;rw[HSt.out,if_neg hk,if_pos hk2]
     clear HSt hk hk2
     go_wp2
     go_roundw
     case rel=>exact⟨i+1,by omega,by go_num,by rw[HS2.out],by rw[HS2.out],HB2.out _⟩
     case measure=>simp[intOf];omega
    ·have f3:(k0==2)=false:=by rw[beq_eq_false_iff_ne];exact hk2
     have HS2:Hid ((l.take (i+1)).foldl bw (0,z0)=(n,m)):=by show _=_;rw[HSt.out,if_neg hk,if_neg hk2]
     clear HSt hk hk2
     go_wp2
     go_roundw
     case rel=>exact⟨i+1,by omega,by go_num,by rw[HS2.out],by rw[HS2.out],HB2.out _⟩
     case measure=>simp[intOf];omega
  ·have f1:¬(i:Int)<(l.length:Int):=by omega
   have HE:Hid ((n,m)=l.foldl bw (0,z0)):=by show(n,m)=_;rw[hN,List.take_of_length_le (by omega)]
   clear hN hle hlt2 hlt
   cases m with
   |false=>
    go_wp2
    go_ret
    exact⟨by rw[HR.out,<-HE.out];rfl,HB.out⟩
   |true=>
    go_wp2
    go_ret
    exact⟨by rw[HR.out,<-HE.out];rfl,HB.out⟩
theorem kC(h:aG w a x F):Calls Tryz.prog 38 #[.pointer (some ⟨a,0,none⟩)] w fun e w'=>e=.returned (.bool x.closed)∧∃n,w'=w.drewN n:=by
 obtain⟨lp,lc,ep,ec,sp,sc,h1,h2,-⟩:=h.old
 have c0:w.cell? ⟨a,0,none⟩=some (.slice lp x.l.length lc):=aa h1 0
 have hP:=(h2 w (Aside.refl _ _)).1
 have hl1:=h.small.l
 by_cases h0:x.l=[]
 ·have hx:x.closed=false:=by unfold Rw.closed;rw[h0];rfl
  rw[hx]
  rw[h0,List.length_nil] at c0
  clear h h1 h2 hP hl1 h0 hx
  go_enter Tryz.func38,Tryz.ntmps38
  go_wp2_with fail
  go_quiet (fail)
  go_wp2
  go_ret
  exact⟨rfl,_,rfl⟩
 ·obtain⟨m,hm⟩:∃m,x.l.length=m+1:=⟨x.l.length-1,by
   have:0<x.l.length:=List.length_pos_iff.2 h0
   omega⟩
  obtain⟨b,o,rfl,hA⟩:=hP m (by omega)
  obtain⟨sp,sc,bp,bc,ep,ec,-,d0,-⟩:=hA.out
  have hx:x.closed=decide (x.l[m].1.kind=3):=by
   unfold Rw.closed
   have h3:x.l.getLast?=some x.l[m]:=by
    have e4:x.l.length-1=m:=by omega
    rw[List.getLast?_eq_getElem?,e4,List.getElem?_eq_getElem (by omega)]
   rw[h3]
  obtain⟨k0,hk0⟩:∃k0,k0=x.l[m].1.kind:=⟨_,rfl⟩
  rw[<-hk0] at hx d0
  rw[hx]
  rw[hm] at c0 hl1
  have hmI:(m:Int)<=1000000:=by omega
  have e3:(k0==3)=decide (k0=3):=by rw[Bool.eq_iff_iff,beq_iff_eq,decide_eq_true_iff]
  rw[<-e3]
  have f0:decide ((0:Int)<(m:Int)+1)=true:=decide_eq_true (by omega)
  have f1:(0:Int)<(m:Int)+1:=by omega
  have f2:(m:Int)+1-1=(m:Int):=by omega
  clear h h1 h2 hP h0 hm hA hx hk0 e3
  go_enter Tryz.func38,Tryz.ntmps38
  go_wp2_with fail
  go_quiet (fail)
  go_wp2
  go_ret
  exact⟨rfl,_,rfl⟩
end
end
section
open Go.RowKit
def R12(us:List (List Value)):Prop:=∀u∈us,u.length=12∧∀c∈u,c.oneCell'=true
theorem di:∀{us:List (List Value)},R12 us->us.flatten.length=us.length*12
 | [],_=>rfl
 |u::us,h=>by
  have h1:=di (us:=us) (fun x hx=>h x (List.mem_cons_of_mem _ hx))
  have h2:=(h u List.mem_cons_self).1
  rw[List.flatten_cons,List.length_append,h1,h2,List.length_cons]
  omega
theorem gA:∀{us:List (List Value)},R12 us->∀(j:Nat) (hj:j<us.length) (m:Nat),m<12->us.flatten[j*12+m]?=us[j][m]?
 | [],_,j,hj,_,_=>by simp at hj
 |u::us,h,0,hj,m,hm=>by
  have h2:=(h u List.mem_cons_self).1
  rw[List.flatten_cons,Nat.zero_mul,Nat.zero_add,List.getElem?_append_left (by omega)]
  rfl
 |u::us,h,j+1,hj,m,hm=>by
  have h1:=gA (us:=us) (fun x hx=>h x (List.mem_cons_of_mem _ hx)) j (by simpa using hj) m hm
  have h2:=(h u List.mem_cons_self).1
  rw[List.flatten_cons,List.getElem?_append_right (by omega),h2,show(j+1)*12+m-12=j*12+m by omega,h1]
  rfl
theorem R12.append{a b:List (List Value)}(ha:R12 a)(hb:R12 b):R12 (a++b):=fun u hu=>(List.mem_append.1 hu).elim (ha u) (hb u)
def cO(w:World)(B:Nat)(v:Value)(us:List (List Value)):Prop:=R12 us∧w.ownsRow B 76 12 v us.length us.flatten
theorem p6(w:World)(B:Nat):cO w B (.slice none 0 0) []:=⟨fun u hu=>(by cases hu),rfl,.inl ⟨rfl,rfl⟩⟩
section
variable {w w':World} {B:Nat} {v:Value} {us:List (List Value)}
theorem cO.lt(h:cO w B v us):∀k,v.ownBlock=some k->B<=k∧k<w.1.size:=World.ownsRow.lt h.2
theorem cO.aside{F:Nat->Prop}(h:cO w B v us)(ha:Aside F w w')(hp:∀k,v.ownBlock=some k->¬F k):cO w' B v us:=by
 refine⟨h.1,h.2.1,?_⟩
 rcases h.2.2 with h1 | ⟨g,cap,cur,rfl,h2,h3,h4⟩
 ·exact .inl h1
 ·refine .inr ⟨g,cap,cur,rfl,h2,?_,h4⟩
  rw[ha.block g (Array.getElem?_eq_some_iff.1 h3).1 (hp g rfl)]
  exact h3
theorem cO.on(h:cO w B v us)(hb:Below w.1.size w w'):cO w' B v us:=h.aside (ae hb (fun _=>False)) (fun _ _ hc=>hc)
theorem cO.lies(h:cO w B v us):∃p c,v=.slice p us.length c∧us.length<=c∧cM w p us:=by
 rcases h.2.2 with ⟨rfl,h0⟩ | ⟨g,cap,cur,rfl,h1,h2,h3,h4,h5,h6⟩
 ·have h0':us=[]:=List.eq_nil_of_length_eq_zero h0
  subst h0'
  exact⟨none,0,rfl,vX,fun j hj=>(by simp at hj)⟩
 ·refine⟨_,cap,rfl,h3,fun j hj=>⟨g,0,rfl,fun m hm=>?_⟩⟩
  rw[Nat.zero_add,<-gA h.1 j hj m hm,<-h6,List.getElem?_take_of_lt (by omega)]
  simp[World.cell?,h2]
end
def mX:Value:=.agg #[.int .i64 0,.int .i64 0,.slice none 0 0,.int .i64 0,.int .i64 0,.int .i64 0,.slice none 0 0,.int .i64 0,.int .i64 0,.int .i64 0,.slice none 0 0,.int .i64 0]
theorem s9:(Tryz.prog.info? 76).map (fun i=>(i.zero,i.size,i.bytes))=some (some mX,12,144):=by kernel_rfl
theorem kH(B:Nat)(v:Value)(xs l:List (List Value))(p:OA)(c:Nat)(w:World)(hown:cO w B v xs)(hl:R12 l)(h:cM w p l)(hlen:(xs.length+l.length)*144<=140737488355328)(hB:B<=w.1.size):
  ∃(q:OA) (cap:Nat) (W:World),bC Tryz.prog 69 69 69 v (.slice p l.length c) w (.slice q (xs++l).length cap) W∧cO W B (.slice q (xs++l).length cap) (xs++l)∧Aside (fun k=>v.ownBlock=some k) w W∧∀k,(Value.slice q (xs++l).length cap).ownBlock=some k->v.ownBlock=some k∨w.1.size<=k:=by
 obtain⟨i,hi,hz,hsz,hby⟩:=info_parts s9
 by_cases h0:l=[]
 ·subst h0
  obtain⟨q,cap,rfl,hcap,-⟩:=hown.lies
  rw[List.append_nil]
  refine⟨q,cap,w,⟨run_append_nothing (P:=Tryz.prog) w 69 69 69 76 i Tryz.underlying69 hi q xs.length cap hcap (.slice p 0 c) ?_⟩,hown,Aside.refl _ _,fun k hk=>.inl hk⟩
  cases p with
  |none=>exact Src.ofNil w Tryz.underlying69 c
  |some a=>exact Src.ofSlice w Tryz.underlying69 a 0 c [] (by simp) (fun j u hj=>by simp at hj) (fun u hu=>by cases hu)
 ·have hpos:0<l.length:=List.length_pos_iff.2 h0
  obtain⟨b,o,rfl,-⟩:=h 0 hpos
  have hcell:∀j u,l.flatten[j]?=some u->w.cell? (Addr.add ⟨b,o,none⟩ j)=some u:=fun j u hj=>by
   have hj2:j<l.length*12:=by
    have:=(List.getElem?_eq_some_iff.1 hj).1
    rw[di hl] at this
    exact this
   have hd:j=j / 12*12+j % 12:=by omega
   have hq:j / 12<l.length:=by omega
   obtain⟨b',o',he,hk⟩:=h (j / 12) hq
   simp only[Option.some.injEq,Addr.mk.injEq,and_true] at he
   obtain⟨rfl,rfl⟩:=he
   rw[hd,gA hl (j / 12) hq (j % 12) (by omega)] at hj
   rw[Lib.add_plain,hd,<-Nat.add_assoc,hk _ (by omega)]
   exact hj
  have hone:∀u∈l.flatten,u.oneCell'=true:=fun u hu=>by
   obtain⟨x,hx,hu⟩:=List.mem_flatten.1 hu
   exact(hl x hx).2 u hu
  obtain⟨g,cap,W,hr,hm,hgr,hgb,_⟩:=run_append_lies (P:=Tryz.prog) w 69 69 B 76 i mX 12 144 Tryz.underlying69 hi hz hsz hby rfl (by decide) v xs.length xs.flatten hown.2 ⟨b,o,none⟩ l.length c l.flatten (di hl) hcell hone hpos (by unfold maxLen;omega) (by omega) hB w.1.size rfl
  rw[<-List.flatten_append,<-List.length_append] at hm
  rw[<-List.length_append] at hr
  refine⟨some ⟨g,0,none⟩,cap,W,⟨hr⟩,⟨hown.1.append hl,hm⟩,bY hgr,?_⟩
  intro k hk
  simp only[Value.ownBlock,Option.some.injEq] at hk
  subst hk
  rcases hgb with h1 | h1
  ·exact .inl h1
  ·exact .inr (by omega)
theorem kf{B:Nat}{v:Value}{xs l:List (List Value)}{p:OA}{c:Nat}{w:World}(hown:cO w B v xs)(hl:R12 l)(h:cM w p l)(hlen:(xs.length+l.length)*144<=140737488355328)(hB:B<=w.1.size){ops:Array Oper}{rest:List Oper}{o:Oper}{a:Act}{Q:Exit->Act->World->Prop}{y x:Operand}(ht:o.type=69)(hg:o.guard=none)(hop:o.op=Op.call { callee:=Callee.builtin Builtin.append,args:=#[y,x],argTypes:=#[69,69] })(hs:a.eval y=v)(hx:a.eval x=.slice p l.length c)(hK:∀ys q cap W,Hid (ys=xs++l)->cO W B (.slice q ys.length cap) ys->Aside (fun k=>v.ownBlock=some k) w W->(∀k,(Value.slice q ys.length cap).ownBlock=some k->v.ownBlock=some k∨w.1.size<=k)->wpList Tryz.prog ops Q rest (a.put o.dst (.slice q ys.length cap)) W):
  wpList Tryz.prog ops Q (o::rest) a w:=by
 obtain⟨q,cap,W,hr,hm,ha,hb⟩:=kH B v xs l p c w hown hl h hlen hB
 have hr':bC Tryz.prog 69 69 o.type v (.slice p l.length c) w (.slice q (xs++l).length cap) W:=by rw[ht];exact hr
 exact az hr' hg hop hs hx (hK _ q cap W (vQ rfl) hm ha hb)
end
section
open Go.RowKit
theorem PlV.twelve{w:World}{u:List Value}{q:Fr×Int}(h:PlV w u q):u.length=12∧∀c∈u,c.oneCell'=true:=by
 obtain⟨sp,sc,bp,bc,ep,ec,-,rfl⟩:=h
 refine⟨rfl,fun c hc=>?_⟩
 simp only[List.mem_cons,List.not_mem_nil,or_false] at hc
 rcases hc with rfl | rfl | rfl | rfl | rfl | rfl | rfl | rfl | rfl | rfl | rfl | rfl <;> rfl
section
variable {w w':World} {a:Nat} {x:Rw} {F:Nat->Prop}
theorem dE(h:aG w a x F):Calls Tryz.prog 67 #[.pointer (some ⟨a,0,none⟩)] w fun e w'=>∃q cap,∃Z:List (List Value×(Fr×Int)),e=.returned (.slice q Z.length cap)∧cO w' w.1.size (.slice q Z.length cap) (Z.map (·.1))∧(∀w'',Aside (fun i=>i=a∨F i) w w''->∀z∈Z,PlV w'' z.1 z.2)∧Z.map (·.2)=x.schemas∧Below w.1.size w w':=by
  obtain⟨lp,lc,ep,ec,sp,sc,ZL,ZS,h1,l1,s1,h2,-⟩:=h.out
  have c0:w.cell? ⟨a,0,none⟩=some (.slice lp x.l.length lc):=aa h1 0
  have c4:w.cell? ⟨a,4,none⟩=some (.slice sp x.s0.length sc):=aa h1 4
  obtain⟨⟨l2,l3⟩,-,s2,s3⟩:=h2 w (Aside.refl _ _)
  have s4:R12 (ZS.map (·.1)):=fun y hy=>by
    obtain⟨t,ht,rfl⟩:=List.mem_map.1 hy
    exact(s2 t ht).twelve
  have HAll:Hid (∀w'',Aside (fun i=>i=a∨F i) w w''->(∀z∈ZL,PlV w'' z.1 z.2)∧∀z∈ZS,PlV w'' z.1 z.2):=fun w'' ha=>⟨(h2 w'' ha).1.1,(h2 w'' ha).2.2.1⟩
  have hs0:=h.small.s0
  have hl1:=h.small.l
  have eS:(ZS.map (·.1)).length=x.s0.length:=by rw[List.length_map,<-s1,List.length_map]
  have eL:ZL.length=x.l.length:=by rw[<-l1,List.length_map]
  have HX:Hid (x.schemas=(ZS++ZL.filter fun z=>decide (z.2.1.kind=1)).map (·.2)):=by
    show x.schemas=_
    unfold Rw.schemas
    rw[List.map_append,s1,<-l1,List.filter_map]
    rfl
  have c4':w.cell? ⟨a,4,none⟩=some (.slice sp (ZS.map (·.1)).length sc):=by rw[eS];exact c4
  rw[<-eL] at c0 hl1
  have hz0:ZS.length<=1:=by rw[List.length_map] at eS;omega
  obtain⟨SS,hSS⟩:∃SS,SS=ZS.map (·.1):=⟨_,rfl⟩
  have hSl:SS.length=ZS.length:=by rw[hSS,List.length_map]
  rw[<-hSS] at c4' s3 s4
  have HSS:=vQ hSS
  have HLZ:=vQ l2
  have HL3:=vQ l3
  have HS3:=vQ s3
  have HS4:=vQ s4
  have hz1:SS.length<=1:=by omega
  rw[HX.out]
  clear hSS hSl h h1 h2 l1 l2 l3 s1 s2 s3 s4 eS eL c4 hs0 HX
  go_enter Tryz.func67,Tryz.ntmps67
  go_wp2_with (first
    | (at_builtin
       refine kf (xs:=[]) (p6 w w.1.size) HS4.out HS3.out (by simp;omega) vX rfl rfl rfl rfl rfl ?_
       intro ys q0 cap0 W0 HY hh ha hk2
       have HP0:=vQ hh
       have hB0:Below w.1.size w W0:=ha.below vX (fun i hi hc=>by simp[Value.ownBlock] at hc)
       have e0:=ab hB0 c0
       have HB0:=vQ hB0
       clear hh ha hk2 hB0)
    |fail)
  have hyl:ys.length<=1:=by have h1:ys=SS:=HY.out;rw[h1];exact hz1
  have HZ0:Hid (ys=(ZS++(ZL.take 0).filter fun z=>decide (z.2.1.kind=1)).map (·.1)):=by
    show ys=_
    have h1:ys=SS:=HY.out
    rw[h1,HSS.out]
    simp
  clear HY HSS HS3 HS4 c0 c4' e0
  go_loopw [3,16] (fun v3 v16 wr=>∃(i:Nat) (q:OA) (cap:Nat) (us:List (List Value)),i<=ZL.length∧v16=.int .i64 (i:Nat)∧v3=.slice q us.length cap∧us.length<=1+i∧Hid (us=(ZS++(ZL.take i).filter fun z=>decide (z.2.1.kind=1)).map (·.1))∧Hid (cO wr w.1.size (.slice q us.length cap) us)∧Hid (Below w.1.size w wr)) (fun _ v16 _=>ZL.length-(intOf v16).toNat)
  case atStart=>exact⟨0,q0,cap0,ys,by omega,rfl,rfl,by omega,HZ0,HP0,HB0⟩
  case round=>
    obtain⟨i,q,cap,us,hi,rfl,rfl,hul,HU,HP,HB⟩:=hrel
    have hiI:(i:Int)<=1000000:=by omega
    by_cases hlt:i<ZL.length
    · have f1:(i:Int)<(ZL.length:Int):=by omega
      have hV:=HLZ.out ZL[i] (List.getElem_mem hlt)
      obtain⟨b,o,rfl,hc⟩:=HL3.out i (by rw[List.length_map];exact hlt)
      rw[List.getElem_map] at hc
      obtain⟨sp2,sc2,bp2,bc2,ep2,ec2,-,hu⟩:=hV
      have ht:(ZL.take (i+1)).filter (fun z=>decide (z.2.1.kind=1))=(ZL.take i).filter (fun z=>decide (z.2.1.kind=1))++if ZL[i].2.1.kind=1 then [ZL[i]] else []:=by
        rw[List.take_succ_eq_append_getElem hlt,List.filter_append]
        congr 1
        by_cases hk:ZL[i].2.1.kind=1
        · rw[if_pos hk,List.filter_cons,if_pos (decide_eq_true hk),List.filter_nil]
        · rw[if_neg hk,List.filter_cons,if_neg (by simp[hk]),List.filter_nil]
      obtain⟨z,hz⟩:∃z,z=ZL[i]:=⟨_,rfl⟩
      rw[<-hz] at hc hu ht
      obtain⟨u,qq⟩:=z
      have hu2:u=[.int .i64 qq.1.kind,.int .i64 qq.1.number,.slice sp2 qq.1.cols.length sc2,.int .i64 qq.1.seq,.int .i64 qq.1.first,.int .i64 qq.1.rows,.slice bp2 qq.1.block.length bc2,.int .i64 qq.1.index.at_,.int .i64 qq.1.index.frames,.int .i64 qq.1.index.rows,.slice ep2 qq.1.index.entries.length ec2,.int .i64 qq.2]:=hu
      have d0:wr.cell? ⟨b,o+i*12,none⟩=some (.int .i64 qq.1.kind):=ab HB.out (by have:=hc 0 (by omega);rw[hu2] at this;exact this)
      have d1:wr.cell? ⟨b,o+i*12+1,none⟩=some (.int .i64 qq.1.number):=ab HB.out (by have:=hc 1 (by omega);rw[hu2] at this;exact this)
      have d2:wr.cell? ⟨b,o+i*12+2,none⟩=some (.slice sp2 qq.1.cols.length sc2):=ab HB.out (by have:=hc 2 (by omega);rw[hu2] at this;exact this)
      have d3:wr.cell? ⟨b,o+i*12+3,none⟩=some (.int .i64 qq.1.seq):=ab HB.out (by have:=hc 3 (by omega);rw[hu2] at this;exact this)
      have d4:wr.cell? ⟨b,o+i*12+4,none⟩=some (.int .i64 qq.1.first):=ab HB.out (by have:=hc 4 (by omega);rw[hu2] at this;exact this)
      have d5:wr.cell? ⟨b,o+i*12+5,none⟩=some (.int .i64 qq.1.rows):=ab HB.out (by have:=hc 5 (by omega);rw[hu2] at this;exact this)
      have d6:wr.cell? ⟨b,o+i*12+6,none⟩=some (.slice bp2 qq.1.block.length bc2):=ab HB.out (by have:=hc 6 (by omega);rw[hu2] at this;exact this)
      have d7:wr.cell? ⟨b,o+i*12+7,none⟩=some (.int .i64 qq.1.index.at_):=ab HB.out (by have:=hc 7 (by omega);rw[hu2] at this;exact this)
      have d8:wr.cell? ⟨b,o+i*12+8,none⟩=some (.int .i64 qq.1.index.frames):=ab HB.out (by have:=hc 8 (by omega);rw[hu2] at this;exact this)
      have d9:wr.cell? ⟨b,o+i*12+9,none⟩=some (.int .i64 qq.1.index.rows):=ab HB.out (by have:=hc 9 (by omega);rw[hu2] at this;exact this)
      have d10:wr.cell? ⟨b,o+i*12+10,none⟩=some (.slice ep2 qq.1.index.entries.length ec2):=ab HB.out (by have:=hc 10 (by omega);rw[hu2] at this;exact this)
      have d11:wr.cell? ⟨b,o+i*12+11,none⟩=some (.int .i64 qq.2):=ab HB.out (by have:=hc 11 (by omega);rw[hu2] at this;exact this)
      have ht2:(ZL.take (i+1)).filter (fun z=>decide (z.2.1.kind=1))=(ZL.take i).filter (fun z=>decide (z.2.1.kind=1))++if qq.1.kind=1 then [(u,qq)] else []:=ht
      have hR:R12 [u]:=fun y hy=>by
        rcases List.mem_singleton.1 hy with rfl
        have:=HLZ.out ZL[i] (List.getElem_mem hlt)
        rw[<-hz] at this
        exact this.twelve
      clear ht hu hc hz
      obtain⟨k0,e0⟩:∃x,x=qq.1.kind:=⟨_,rfl⟩
      obtain⟨k1,e1⟩:∃x,x=qq.1.number:=⟨_,rfl⟩
      obtain⟨k2,e2⟩:∃x,x=qq.1.cols.length:=⟨_,rfl⟩
      obtain⟨k3,e3⟩:∃x,x=qq.1.seq:=⟨_,rfl⟩
      obtain⟨k4,e4⟩:∃x,x=qq.1.first:=⟨_,rfl⟩
      obtain⟨k5,e5⟩:∃x,x=qq.1.rows:=⟨_,rfl⟩
      obtain⟨k6,e6⟩:∃x,x=qq.1.block.length:=⟨_,rfl⟩
      obtain⟨k7,e7⟩:∃x,x=qq.1.index.at_:=⟨_,rfl⟩
      obtain⟨k8,e8⟩:∃x,x=qq.1.index.frames:=⟨_,rfl⟩
      obtain⟨k9,e9⟩:∃x,x=qq.1.index.rows:=⟨_,rfl⟩
      obtain⟨k10,e10⟩:∃x,x=qq.1.index.entries.length:=⟨_,rfl⟩
      obtain⟨k11,e11⟩:∃x,x=qq.2:=⟨_,rfl⟩
      rw[<-e0,<-e1,<-e2,<-e3,<-e4,<-e5,<-e6,<-e7,<-e8,<-e9,<-e10,<-e11] at hu2
      rw[<-e0] at d0 ht2
      rw[<-e1] at d1
      rw[<-e2] at d2
      rw[<-e3] at d3
      rw[<-e4] at d4
      rw[<-e5] at d5
      rw[<-e6] at d6
      rw[<-e7] at d7
      rw[<-e8] at d8
      rw[<-e9] at d9
      rw[<-e10] at d10
      rw[<-e11] at d11
      have HU2:=vQ hu2
      have HT2:=vQ ht2
      have HR2:=vQ hR
      clear e0 e1 e2 e3 e4 e5 e6 e7 e8 e9 e10 e11 hu2 ht2 hR
      by_cases hk:k0=1
      · subst hk
        rw[if_pos rfl] at HT2
        obtain⟨WA,hWA⟩:∃WA,WA=(wr.alloc (.cells #[.int .i64 1,.int .i64 k1,.slice sp2 k2 sc2,.int .i64 k3,.int .i64 k4,.int .i64 k5,.slice bp2 k6 bc2,.int .i64 k7,.int .i64 k8,.int .i64 k9,.slice ep2 k10 ec2,.int .i64 k11] 76)).alloc (.cells #[.int .i64 1,.int .i64 k1,.slice sp2 k2 sc2,.int .i64 k3,.int .i64 k4,.int .i64 k5,.slice bp2 k6 bc2,.int .i64 k7,.int .i64 k8,.int .i64 k9,.slice ep2 k10 ec2,.int .i64 k11] 76):=⟨_,rfl⟩
        have HWA:Hid ((wr.alloc (.cells #[.int .i64 1,.int .i64 k1,.slice sp2 k2 sc2,.int .i64 k3,.int .i64 k4,.int .i64 k5,.slice bp2 k6 bc2,.int .i64 k7,.int .i64 k8,.int .i64 k9,.slice ep2 k10 ec2,.int .i64 k11] 76)).alloc (.cells #[.int .i64 1,.int .i64 k1,.slice sp2 k2 sc2,.int .i64 k3,.int .i64 k4,.int .i64 k5,.slice bp2 k6 bc2,.int .i64 k7,.int .i64 k8,.int .i64 k9,.slice ep2 k10 ec2,.int .i64 k11] 76)=WA):=hWA.symm
        have hbA:Below wr.1.size wr WA:=by rw[hWA];exact vY.alloc (by simp) _
        have hLA:cM WA (some ⟨wr.1.size+1,0,none⟩) [u]:=fun j hj=>⟨wr.1.size+1,0,rfl,fun m hm=>by
          obtain rfl:j=0:=by simpa using hj
          have hbk:WA.1[wr.1.size+1]?=some (.cells #[.int .i64 1,.int .i64 k1,.slice sp2 k2 sc2,.int .i64 k3,.int .i64 k4,.int .i64 k5,.slice bp2 k6 bc2,.int .i64 k7,.int .i64 k8,.int .i64 k9,.slice ep2 k10 ec2,.int .i64 k11] 76):=by
            rw[hWA]
            have:=ag (wr.alloc (.cells #[.int .i64 1,.int .i64 k1,.slice sp2 k2 sc2,.int .i64 k3,.int .i64 k4,.int .i64 k5,.slice bp2 k6 bc2,.int .i64 k7,.int .i64 k8,.int .i64 k9,.slice ep2 k10 ec2,.int .i64 k11] 76)) (.cells #[.int .i64 1,.int .i64 k1,.slice sp2 k2 sc2,.int .i64 k3,.int .i64 k4,.int .i64 k5,.slice bp2 k6 bc2,.int .i64 k7,.int .i64 k8,.int .i64 k9,.slice ep2 k10 ec2,.int .i64 k11] 76)
            simpa using this
          have h3:WA.cell? ⟨wr.1.size+1,m,none⟩=(#[.int .i64 1,.int .i64 k1,.slice sp2 k2 sc2,.int .i64 k3,.int .i64 k4,.int .i64 k5,.slice bp2 k6 bc2,.int .i64 k7,.int .i64 k8,.int .i64 k9,.slice ep2 k10 ec2,.int .i64 k11]:AV)[m]?:=by simp[World.cell?,hbk]
          rw[show 0+0*12+m=m by omega,h3]
          show _=u[m]?
          rw[HU2.out]
          exact List.getElem?_toArray⟩
        have HLA:=vQ hLA
        have HPA:=vQ (HP.out.on hbA)
        have HBA:Hid (Below w.1.size w WA):=HB.out.trans (hbA.mono HB.out.size)
        have HSz:Hid (w.1.size<=WA.1.size):=HBA.out.size
        clear hWA hbA hLA
        go_wp2_with (first
          | (at_builtin
             rw[HWA.out]
             refine kf HPA.out HR2.out HLA.out (by simp;omega) HSz.out rfl rfl rfl rfl rfl ?_
             intro ys2 q2 cap2 W2 HY2 hh ha hk2
             have HP2:=vQ hh
             have HA2:=vQ ha
             clear hh ha hk2)
          |fail)
        have hyl2:ys2.length=us.length+1:=by have h1:ys2=us++[u]:=HY2.out;rw[h1];simp
        have HU3:Hid (ys2=(ZS++(ZL.take (i+1)).filter fun z=>decide (z.2.1.kind=1)).map (·.1)):=by
          show ys2=_
          have h1:ys2=us++[u]:=HY2.out
          rw[h1,HT2.out,HU.out]
          simp
        have HB3:Hid (Below w.1.size w W2):=HBA.out.trans (HA2.out.below HBA.out.size (fun k hk hc=>by have:=(HPA.out.lt k hc).1;omega))
        have hul2:ys2.length<=1+(i+1):=by omega
        clear HT2 HU HY2 HBA HA2 HPA HLA HSz hyl2
        go_roundw
        case rel=>exact⟨i+1,q2,cap2,ys2,by omega,by go_num,rfl,hul2,HU3,HP2,HB3⟩
        case measure=>simp[intOf];omega
      · have f2:(k0==1)=false:=by rw[beq_eq_false_iff_ne];exact hk
        have HB2:Hid (∀o,Below w.1.size w (wr.alloc o)):=fun o=>HB.out.alloc HB.out.size o
        have HP2:Hid (∀o,cO (wr.alloc o) w.1.size (.slice q us.length cap) us):=fun o=>HP.out.on (vZ.alloc vX o)
        have HU3:Hid (us=(ZS++(ZL.take (i+1)).filter fun z=>decide (z.2.1.kind=1)).map (·.1)):=by
          show us=_
          rw[HT2.out,if_neg hk,List.append_nil]
          exact HU.out
        clear HT2 HU hk
        go_wp2
        go_roundw
        case rel=>exact⟨i+1,q,cap,us,by omega,by go_num,rfl,by omega,HU3,HP2.out _,HB2.out _⟩
        case measure=>simp[intOf];omega
    · have f1:¬(i:Int)<(ZL.length:Int):=by omega
      have HE:Hid (us=(ZS++ZL.filter fun z=>decide (z.2.1.kind=1)).map (·.1)):=by
        show us=_
        rw[HU.out,List.take_of_length_le (by omega)]
      clear HU hlt
      go_wp2
      go_ret
      refine⟨q,cap,ZS++ZL.filter fun z=>decide (z.2.1.kind=1),?_,?_,?_,by simp,HB.out⟩
      · have h3:us.length=(ZS++ZL.filter fun z=>decide (z.2.1.kind=1)).length:=by rw[HE.out,List.length_map]
        rw[<-h3]
        rfl
      · have h3:us.length=(ZS++ZL.filter fun z=>decide (z.2.1.kind=1)).length:=by rw[HE.out,List.length_map]
        rw[<-h3,<-HE.out]
        exact HP.out
      · intro w2 ha2
        have hz3:∀t∈ZS++ZL.filter (fun z=>decide (z.2.1.kind=1)),PlV w2 t.1 t.2:=fun t ht=>by
          rcases List.mem_append.1 ht with h3 | h3
          · exact(HAll.out w2 ha2).2 _ h3
          · exact(HAll.out w2 ha2).1 _ (List.mem_filter.1 h3).1
        first
          |exact hz3
          |exact fun z1 z2 z3 hz=>hz3 (z1,z2,z3) (by first | exact hz | simpa using hz)
end
end
end Go.Proofs.YtlgfdgdlaahpfaaGreatDoor
