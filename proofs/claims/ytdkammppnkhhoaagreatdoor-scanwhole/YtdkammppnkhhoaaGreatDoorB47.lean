import Derived.Test.YtdkammppnkhhoaaGreatDoorB27
import Derived.Test.YtdkammppnkhhoaaGreatDoorB36
set_option maxRecDepth 100000
set_option maxHeartbeats 4000000
namespace Go.Proofs.YtdkammppnkhhoaaGreatDoor
variable{w w':World}{n:Int}{p:OA}{s:Wk}
section
open Go.RowKit
theorem fc(p q:OA)(c d:Nat)(es o:List Ent)(bq:es.length*24<=140737488351232)(w:World)(y:di w p es)(A:di w q o):
  Calls Tryz.prog 39 #[.slice p es.length c,.slice q o.length d] w fun e w'=>e=.returned (.bool (decide (es.map Ent.tup=o.map Ent.tup)))∧∃n,w'=w.drewN n:=by
 obtain⟨J,O⟩:∃J,J=decide (es.map Ent.tup=o.map Ent.tup):=⟨_,rfl⟩;rw[<-O];have L:=xX O;have a6:=xX y;have a7:=xX A;clear O y A;by_cases K:es.length=o.length
 ·have M:((es.length:Int) != (o.length:Int))=false:=by rw[bne_eq_false_iff_eq];omega
  have Y:=xX K;obtain⟨m,a2⟩:∃m,m=o.length:=⟨_,rfl⟩;rw[<-a2] at M ⊢;have bc:m=es.length:=by omega
  subst bc;clear a2 M K;go_enter Tryz.func39,Tryz.ntmps39;go_wp2;go_loopw [13] (fun U wr=>∃i n:Nat,i<=es.length∧U=.int .i64 i∧wr=w.drewN n∧Hid ((es.take i).map Ent.tup=(o.take i).map Ent.tup)) (fun U _=>es.length-(intOf U).toNat);case atStart=>exact⟨0,0,by omega,rfl,rfl,rfl⟩
  case round=>
   obtain⟨i,n,bp,rfl,rfl,I⟩:=hrel;by_cases a0:i<es.length
   ·have bs:(i:Int)<(es.length:Int):=(by omega);have a1:i<o.length:=(by have:=Y.out;omega);obtain⟨bk,bN,bd,-,a3,a4,a5⟩:=a6.out i a0;obtain⟨bl,bO,be,-,V,W,X⟩:=a7.out i a1;subst bd be;by_cases D:es[i].tup=o[i].tup
    ·have a8:=xX (fa es o i a0 a1 I.out D);simp only[Ent.tup,Prod.mk.injEq] at D;obtain⟨Z,ah,aj⟩:=D;rw[<-Z] at V;rw[<-ah] at W;rw[<-aj] at X;generalize es[i].at_=a at a3 V;generalize es[i].row=b at a4 W;generalize es[i].sch=c' at a5 X;clear Z ah aj I;go_wp2;go_quiet (fail);go_wp2;go_roundw;case rel=>exact⟨i+1,_,by omega,by go_num,rfl,a8⟩
     case measure=>simp[intOf];omega
    ·have E:Hid (J=false):=by
      show _=_;rw[L.out,decide_eq_false];intro R;have a9:=dy R;subst a9;exact D rfl
     have z:(¬es[i].at_=o[i].at_)∨(es[i].at_=o[i].at_∧¬es[i].row=o[i].row)∨(es[i].at_=o[i].at_∧es[i].row=o[i].row∧¬es[i].sch=o[i].sch):=by
      by_cases y:es[i].at_=o[i].at_
      ·by_cases A:es[i].row=o[i].row
       ·by_cases ak:es[i].sch=o[i].sch
        ·exact absurd (by simp only[Ent.tup,y,A,ak]) D
        ·exact .inr (.inr ⟨y,A,ak⟩)
       ·exact .inr (.inl ⟨y,A⟩)
      ·exact .inl y
     generalize es[i].at_=a at a3 z;generalize es[i].row=b at a4 z;generalize es[i].sch=c' at a5 z;generalize o[i].at_=bj at V z;generalize o[i].row=b2' at W z;generalize o[i].sch=c2' at X z;clear D I;rcases z with y | ⟨rfl,y⟩ | ⟨rfl,rfl,y⟩
     all_goals
      have bn:=aK y;clear y;go_wp2;go_quiet (fail);go_wp2;go_ret;exact⟨by rw[E.out];rfl,_,World.drewN_drewN ..⟩
   ·have bb:i=es.length:=(by omega);subst bb;have E:Hid (J=true):=by
     show _=_;rw[L.out,decide_eq_true_iff];have:=I.out;rw[List.take_length,Y.out,List.take_length] at this;exact this
    clear I;go_wp2;go_ret;exact⟨by rw[E.out];rfl,n,rfl⟩
 ·have M:((es.length:Int) != (o.length:Int))=true:=by rw[bne_iff_ne];omega
  have E:Hid (J=false):=by
   show _=_;rw[L.out,decide_eq_false];intro R;have:=congrArg List.length R;simp at this;exact K this
  clear K;go_enter Tryz.func39,Tryz.ntmps39;go_wp2;go_ret;exact⟨by rw[E.out];rfl,0,rfl⟩
end
section
structure Rw where
 l:List (Fr×Int)
 f0:Int
 r0:Int
 e0:List Ent
 s0:List (Fr×Int)
namespace Rw
def new:Rw:=⟨[],0,0,[],[]⟩
def push(x:Rw)(f:Fr)(p:Int):Rw:={ x with l:=x.l++[(f,p)] }
def frames(x:Rw):Int:=x.l.foldl (fun n q=>if q.1.kind=2 then n+1 else n) x.f0
def rows(x:Rw):Int:=x.l.foldl (fun n q=>if q.1.kind=2 then n+q.1.rows else n) x.r0
def schemas(x:Rw):List (Fr×Int):=x.s0++x.l.filter fun q=>decide (q.1.kind=1)
def number(x:Rw):Int:=x.schemas.foldl (fun n q=>if n<q.1.number then q.1.number else n) (-1)
def sinceF(x:Rw):Int×Bool:=x.l.foldl (fun r q=>if q.1.kind=1 then (0,true) else if q.1.kind=2 then (r.1+1,r.2) else r) (0,decide (0<x.s0.length))
def since(x:Rw):Int:=if x.sinceF.2=true then x.sinceF.1 else 0
def schema(x:Rw)(n:Int):Option (Fr×Int):=x.schemas.find? fun q=>decide (q.1.number=n)
def place(x:Rw)(n:Int):Int×Bool:=x.schemas.foldl (fun r q=>if q.1.number=n then (q.2,true) else r) (0,false)
structure En where
 out:List Ent
 frames:Int
 rows:Int
 last:Int
def enter(r:En)(q:Fr×Int):En :=
 if q.1.kind=1 then { r with last:=q.2 }
 else if q.1.kind=2 then ⟨if r.frames % 4=0∧r.out.length<64 then r.out++[⟨q.2,r.rows,r.last⟩] else r.out,r.frames+1,r.rows+q.1.rows,r.last⟩
 else r
def entriesF(x:Rw):En:=x.l.foldl enter ⟨x.e0,x.f0,x.r0,x.s0.foldl (fun _ q=>q.2) 0⟩
def entries(x:Rw):List Ent:=x.entriesF.out
def closed(x:Rw):Bool:=match x.l.getLast? with
 |some q=>decide (q.1.kind=3)
 |none=>false
def follows(x:Rw)(f:Fr)(p:Int):Bool :=
 if f.kind=1 then (if f.number=x.number+1 then true else match x.schema f.number with
  |some q=>decide (f.number=x.number)&&Sch.same q.1.cols f.cols
  |none=>false)
 else if f.kind=2 then decide (0<=x.number∧f.number=x.number∧f.seq=x.frames∧f.first=x.rows)
 else if f.kind=3 then Idx.same f.index ⟨p,x.frames,x.rows,x.entries⟩
 else false
theorem frames_push(x:Rw)(f:Fr)(p:Int):(x.push f p).frames=if f.kind=2 then x.frames+1 else x.frames:=by unfold frames push;rw[List.foldl_append];rfl
theorem rows_push(x:Rw)(f:Fr)(p:Int):(x.push f p).rows=if f.kind=2 then x.rows+f.rows else x.rows:=by unfold rows push;rw[List.foldl_append];rfl
theorem schemas_push(x:Rw)(f:Fr)(p:Int):(x.push f p).schemas=if f.kind=1 then x.schemas++[(f,p)] else x.schemas:=by
 unfold schemas push;rw[List.filter_append,List.filter_cons];by_cases h:f.kind=1
 ·rw[if_pos h,if_pos (decide_eq_true h),List.filter_nil,List.append_assoc]
 ·rw[if_neg h,if_neg (by simp[h]),List.filter_nil,List.append_nil]
theorem sinceF_push(x:Rw)(f:Fr)(p:Int):(x.push f p).sinceF=if f.kind=1 then (0,true) else if f.kind=2 then (x.sinceF.1+1,x.sinceF.2) else x.sinceF:=by unfold sinceF push;rw[List.foldl_append];rfl
theorem entriesF_push(x:Rw)(f:Fr)(p:Int):(x.push f p).entriesF=enter x.entriesF (f,p):=by unfold entriesF push;rw[List.foldl_append];rfl
theorem closed_push(x:Rw)(f:Fr)(p:Int):(x.push f p).closed=decide (f.kind=3):=by unfold closed push;simp
theorem number_push(x:Rw)(f:Fr)(p:Int):(x.push f p).number=if f.kind=1 then (if x.number<f.number then f.number else x.number) else x.number:=by
 unfold number;rw[schemas_push];by_cases h:f.kind=1
 ·rw[if_pos h,if_pos h,List.foldl_append];rfl
 ·rw[if_neg h,if_neg h]
theorem place_push(x:Rw)(f:Fr)(p n:Int):(x.push f p).place n=if f.kind=1∧f.number=n then (p,true) else x.place n:=by
 unfold place;rw[schemas_push];by_cases h:f.kind=1
 ·rw[if_pos h,List.foldl_append];by_cases o:f.number=n
  ·rw[if_pos ⟨h,o⟩];show(if f.number=n then (p,true) else _)=_;rw[if_pos o]
  ·rw[if_neg (fun y=>o y.2)];show(if f.number=n then (p,true) else _)=_;rw[if_neg o]
 ·rw[if_neg h,if_neg (fun y=>h y.1)]
theorem schema_push(x:Rw)(f:Fr)(p n:Int):(x.push f p).schema n=match x.schema n with
  |some q=>some q
  |none=>if f.kind=1∧f.number=n then some (f,p) else none:=by
 unfold schema;rw[schemas_push];obtain⟨y,A⟩:∃y,y=x.schemas.find? fun q=>decide (q.1.number=n):=⟨_,rfl⟩;by_cases h:f.kind=1
 ·rw[if_pos h,List.find?_append,<-A];cases y with
  |some q=>rfl
  |none=>
   rw[List.find?_cons,List.find?_nil];by_cases o:f.number=n
   ·rw[if_pos ⟨h,o⟩];simp[o]
   ·rw[if_neg (fun z=>o z.2)];simp[o]
 ·rw[if_neg h,if_neg (fun z=>h z.1),<-A];cases y <;> rfl
theorem schema_old{x:Rw}{q:Fr×Int}(h:x.schema n=some q)(f:Fr)(p:Int):(x.push f p).schema n=some q:=by rw[schema_push,h]
theorem schema_none{x:Rw}(h:x.schema n=none)(f:Fr)(p:Int):(x.push f p).schema n=if f.kind=1∧f.number=n then some (f,p) else none:=by rw[schema_push,h]
structure Twin(s:Wk)(x:Rw):Prop where
 frames:x.frames=s.frames
 rows:x.rows=s.rows
 number:x.number=s.number
 since:x.sinceF=(s.since,decide (0<=s.number))
 idle:s.number<0->s.since=0
 closed:x.closed=s.closed
 ents:x.entriesF=⟨s.ents,s.frames,s.rows,Sc.placeAt s s.number⟩
 sch:∀n,match s.sch n with
  |some k=>∃q,x.schema n=some q∧k.cols=q.1.cols.map Col.fix∧x.place n=(k.place,true)
  |none=>x.schema n=none∧x.place n=(0,false)
theorem twin_new:Twin Sc.new new:=⟨rfl,rfl,rfl,rfl,fun _=>rfl,rfl,rfl,fun _=>⟨rfl,rfl⟩⟩
theorem Twin.sinceEq{x:Rw}(h:Twin s x):x.since=s.since:=by
 unfold Rw.since;rw[h.since];show(if decide (0<=s.number)=true then s.since else 0)=s.since;by_cases o:0<=s.number
 ·rw[decide_eq_true o];rfl
 ·rw[decide_eq_false o,h.idle (by omega)];rfl
theorem Twin.entsEq{x:Rw}(h:Twin s x):x.entries=s.ents:=by
 unfold Rw.entries;rw[h.ents]
theorem Twin.follows{x:Rw}(h:Twin s x)(L:Sc.Good s){f:Fr}(K:Fr.err f=0)(p:Int):x.follows f p=Sc.follows s f p:=by
 obtain⟨D,E,R⟩:=Sc.err_parts K;unfold Rw.follows Sc.follows;rw[h.number,h.frames,h.rows,h.entsEq];by_cases z:f.kind=1
 ·rw[if_pos z,if_pos z];by_cases o:f.number=s.number
  ·rw[if_neg (by omega),if_pos o];obtain⟨k,A⟩:=L.has (by have:=(D z).1;omega);have y:=h.sch f.number;rw[o] at y;rw[A] at y;obtain⟨q,M,O,U⟩:=y;rw[o,M];have I:Sc.schAt s s.number=k.cols:=(by unfold Sc.schAt;rw[A]);rw[I,O];show(decide (s.number=s.number)&&Sch.same q.1.cols f.cols)=_;rw[decide_eq_true rfl,Bool.true_and,Bool.eq_iff_iff,Sch.same_fix,Sch.same_fix];have J:(q.1.cols.map Col.fix).map Col.fix=q.1.cols.map Col.fix:=by
    rw[List.map_map];exact List.map_congr_left fun c _=>Fr.col_fix_idem c
   rw[J];exact⟨fun h=>h.symm,fun h=>h.symm⟩
  ·rw[if_neg o];by_cases y:f.number=s.number+1
   ·rw[if_pos y,decide_eq_true y]
   ·rw[if_neg y,decide_eq_false y];split
    ·rw[decide_eq_false o,Bool.false_and]
    ·rfl
 ·rw[if_neg z,if_neg z];by_cases o:f.kind=2
  ·rw[if_pos o,if_pos o];have:=(E o).1;congr 1;exact propext ⟨fun h=>h.2,fun h=>⟨by omega,h⟩⟩
  ·rw[if_neg o,if_neg o,if_pos (by omega)]
theorem Twin.push{x:Rw}(h:Twin s x)(a1:Sc.Good s){f:Fr}{p:Int}(a2:Sc.may s f p=true):Twin (Sc.take s f p) (x.push f p):=by
 obtain⟨-,a0,O⟩:=Sc.may_parts a2;obtain⟨V,W,a6⟩:=Sc.err_parts a0;by_cases o:f.kind=1
 ·have a8:=Sc.follows_sch o O;have e:Sc.take s f p={ Sc.learn s f.number f.cols p with closed:=false }:=by unfold Sc.take;rw[if_pos o]
  have aj:=(V o).1;have K:=O;unfold Sc.follows at K;rw[if_pos o] at K;rw[e];refine⟨?_,?_,?_,?_,?_,?_,?_,?_⟩
  ·rw[frames_push,if_neg (by omega)];exact h.frames
  ·rw[rows_push,if_neg (by omega)];exact h.rows
  ·rw[number_push,if_pos o,h.number];show _=f.number;split <;> omega
  ·rw[sinceF_push,if_pos o];show _=((0:Int),decide (0<=f.number));rw[decide_eq_true (by omega)]
  ·intro _;rfl
  ·rw[closed_push,decide_eq_false (by omega)]
  ·rw[entriesF_push,h.ents];unfold enter;rw[if_pos o];show En.mk s.ents s.frames s.rows p=_;have:Sc.placeAt { Sc.learn s f.number f.cols p with closed:=false } f.number=p:=by
    unfold Sc.placeAt Sc.learn;simp
   show _=En.mk s.ents s.frames s.rows (Sc.placeAt { Sc.learn s f.number f.cols p with closed:=false } f.number);rw[this]
  ·intro n;have y:=h.sch n
   show match (if n=f.number then some (Kn.mk (f.cols.map Col.fix) p) else s.sch n) with
    |some k=>∃q,(x.push f p).schema n=some q∧k.cols=q.1.cols.map Col.fix∧(x.push f p).place n=(k.place,true)
    |none=>(x.push f p).schema n=none∧(x.push f p).place n=(0,false)
   have E:=place_push x f p n;by_cases z:n=f.number
   ·subst z;rw[if_pos ⟨o,rfl⟩] at E;rw[if_pos rfl,E];cases hk:s.sch f.number with
    |none=>
     rw[hk] at y;have A:=schema_none y.1 f p;rw[if_pos ⟨o,rfl⟩] at A;exact⟨(f,p),A,rfl,rfl⟩
    |some k=>
     rw[hk] at y;obtain⟨q,I,J,L⟩:=y;refine⟨q,schema_old I f p,?_,rfl⟩;have a7:=(a1.known _ _ hk).1;have R:f.number=s.number:=(by omega);rw[if_pos R] at K;have X:Sc.schAt s s.number=k.cols:=(by unfold Sc.schAt;rw[<-R,hk]);rw[X,J,Sch.same_fix] at K;have Y:(q.1.cols.map Col.fix).map Col.fix=q.1.cols.map Col.fix:=by
      rw[List.map_map];exact List.map_congr_left fun c _=>Fr.col_fix_idem c
     rw[Y] at K;exact K
   ·rw[if_neg (fun D=>z D.2.symm)] at E;rw[if_neg z,E];cases hk:s.sch n with
    |none=>
     rw[hk] at y;have A:=schema_none y.1 f p;rw[if_neg (fun D=>z D.2.symm)] at A;exact⟨A,y.2⟩
    |some k=>
     rw[hk] at y;obtain⟨q,I,J,L⟩:=y;exact⟨q,schema_old I f p,J,L⟩
 ·by_cases z:f.kind=2
  ·obtain⟨f1,Z,ah⟩:=Sc.follows_data z O;have aj:=(W z).1;have e:Sc.take s f p={ Sc.count (Sc.enter s f p) f with closed:=false }:=(by unfold Sc.take;rw[if_neg o,if_pos z]);obtain⟨U,M,a5,n4,n5,n6⟩:=Sc.enter_same s f p;rw[e];refine⟨?_,?_,?_,?_,?_,?_,?_,?_⟩
   ·rw[frames_push,if_pos z,h.frames];show _=(Sc.enter s f p).frames+1;rw[n4]
   ·rw[rows_push,if_pos z,h.rows];show _=(Sc.enter s f p).rows+f.rows;rw[n5]
   ·rw[number_push,if_neg o,h.number];exact M.symm
   ·rw[sinceF_push,if_neg o,if_pos z,h.since];show _=((Sc.enter s f p).since+1,decide (0<=(Sc.enter s f p).number));rw[a5,M]
   ·intro D;have ak:(Sc.enter s f p).number<0:=D;rw[M] at ak;omega
   ·rw[closed_push,decide_eq_false (by omega)]
   ·rw[entriesF_push,h.ents];unfold enter;rw[if_neg o,if_pos z];show En.mk (if s.frames % 4=0∧s.ents.length<64 then s.ents++[⟨p,s.rows,Sc.placeAt s s.number⟩] else s.ents) (s.frames+1) (s.rows+f.rows) (Sc.placeAt s s.number)=En.mk (Sc.enter s f p).ents ((Sc.enter s f p).frames+1) ((Sc.enter s f p).rows+f.rows) (Sc.placeAt (Sc.enter s f p) (Sc.enter s f p).number);have a3:Sc.placeAt (Sc.enter s f p) (Sc.enter s f p).number=Sc.placeAt s s.number:=(by unfold Sc.placeAt;rw[U,M]);have a4:(Sc.enter s f p).ents=if s.frames % 4=0∧s.ents.length<64 then s.ents++[⟨p,s.rows,Sc.placeAt s s.number⟩] else s.ents:=by
     unfold Sc.enter;rw[Z,ah];split <;> rfl
    rw[a3,a4,n4,n5]
   ·intro n;have y:=h.sch n
    show match (Sc.enter s f p).sch n with
     |some k=>∃q,(x.push f p).schema n=some q∧k.cols=q.1.cols.map Col.fix∧(x.push f p).place n=(k.place,true)
     |none=>(x.push f p).schema n=none∧(x.push f p).place n=(0,false)
    have E:=place_push x f p n;rw[if_neg (fun D=>o D.1)] at E;rw[U,E];cases hk:s.sch n with
    |none=>
     rw[hk] at y;have A:=schema_none y.1 f p;rw[if_neg (fun D=>o D.1)] at A;exact⟨A,y.2⟩
    |some k=>
     rw[hk] at y;obtain⟨q,I,J,L⟩:=y;exact⟨q,schema_old I f p,J,L⟩
  ·have A:f.kind=3:=(by omega);have e:Sc.take s f p={ s with closed:=true }:=(by unfold Sc.take;rw[if_neg o,if_neg z]);rw[e];refine⟨?_,?_,?_,?_,h.idle,?_,?_,?_⟩
   ·rw[frames_push,if_neg z];exact h.frames
   ·rw[rows_push,if_neg z];exact h.rows
   ·rw[number_push,if_neg o];exact h.number
   ·rw[sinceF_push,if_neg o,if_neg z];exact h.since
   ·rw[closed_push,decide_eq_true A]
   ·rw[entriesF_push];unfold enter;rw[if_neg o,if_neg z];exact h.ents
   ·intro n;have y:=h.sch n
    show match s.sch n with
     |some k=>∃q,(x.push f p).schema n=some q∧k.cols=q.1.cols.map Col.fix∧(x.push f p).place n=(k.place,true)
     |none=>(x.push f p).schema n=none∧(x.push f p).place n=(0,false)
    have E:=place_push x f p n;rw[if_neg (fun D=>o D.1)] at E;rw[E];cases hk:s.sch n with
    |none=>
     rw[hk] at y;have A:=schema_none y.1 f p;rw[if_neg (fun D=>o D.1)] at A;exact⟨A,y.2⟩
    |some k=>
     rw[hk] at y;obtain⟨q,I,J,L⟩:=y;exact⟨q,schema_old I f p,J,L⟩
end Rw
end
section
open Go.RowKit
structure PlA(w:World)(b o:Nat)(q:Fr×Int):Prop where
 out:∃sp sc bp bc ep ec,aP w (aB q.1.kind q.1.number sp q.1.cols.length sc q.1.seq q.1.first q.1.rows bp q.1.block.length bc q.1.index.at_ q.1.index.frames q.1.index.rows ep q.1.index.entries.length ec) q.1 ∧
  w.cell? ⟨b,o,none⟩=some (.int .i64 q.1.kind)∧w.cell? ⟨b,o+1,none⟩=some (.int .i64 q.1.number)∧w.cell? ⟨b,o+2,none⟩=some (.slice sp q.1.cols.length sc)∧w.cell? ⟨b,o+3,none⟩=some (.int .i64 q.1.seq)∧w.cell? ⟨b,o+4,none⟩=some (.int .i64 q.1.first)∧w.cell? ⟨b,o+5,none⟩=some (.int .i64 q.1.rows)∧w.cell? ⟨b,o+6,none⟩=some (.slice bp q.1.block.length bc)∧w.cell? ⟨b,o+7,none⟩=some (.int .i64 q.1.index.at_)∧w.cell? ⟨b,o+8,none⟩=some (.int .i64 q.1.index.frames)∧w.cell? ⟨b,o+9,none⟩=some (.int .i64 q.1.index.rows)∧w.cell? ⟨b,o+10,none⟩=some (.slice ep q.1.index.entries.length ec)∧w.cell? ⟨b,o+11,none⟩=some (.int .i64 q.2)
theorem PlA.on{b o:Nat}{q:Fr×Int}(h:PlA w b o q)(hb:Below w.1.size w w'):PlA w' b o q:=by
 obtain⟨sp,U,z,y,O,M,R,c0,c1,c2,c3,c4,E,I,J,K,L,A,D⟩:=h.out;exact⟨sp,U,z,y,O,M,R.on hb,ac hb c0,ac hb c1,ac hb c2,ac hb c3,ac hb c4,ac hb E,ac hb I,ac hb J,ac hb K,ac hb L,ac hb A,ac hb D⟩
def Pls(w:World)(p:OA)(l:List (Fr×Int)):Prop:=∀i (hi:i<l.length),∃b o,p=some ⟨b,o,none⟩∧PlA w b (o+i*12) l[i]
theorem Pls.on{l:List (Fr×Int)}(h:Pls w p l)(hb:Below w.1.size w w'):Pls w' p l:=fun i z=>by
 obtain⟨b,A,o,y⟩:=h i z;exact⟨b,A,o,y.on hb⟩
def da(w:World)(p:OA)(us:List (List Value)):Prop:=∀j (hj:j<us.length),∃b o,p=some ⟨b,o,none⟩∧∀m,m<12->w.cell? ⟨b,o+j*12+m,none⟩=us[j][m]?
def PlV(w:World)(u:List Value)(q:Fr×Int):Prop:=∃sp sc bp bc ep ec,aP w (aB q.1.kind q.1.number sp q.1.cols.length sc q.1.seq q.1.first q.1.rows bp q.1.block.length bc q.1.index.at_ q.1.index.frames q.1.index.rows ep q.1.index.entries.length ec) q.1 ∧
 u=[.int .i64 q.1.kind,.int .i64 q.1.number,.slice sp q.1.cols.length sc,.int .i64 q.1.seq,.int .i64 q.1.first,.int .i64 q.1.rows,.slice bp q.1.block.length bc,.int .i64 q.1.index.at_,.int .i64 q.1.index.frames,.int .i64 q.1.index.rows,.slice ep q.1.index.entries.length ec,.int .i64 q.2]
theorem rV{y:List (List Value×(Fr×Int))}(L:∀A∈y,PlV w A.1 A.2)(K:da w p (y.map (·.1))):Pls w p (y.map (·.2)):=fun i O=>by
 have z:i<y.length:=by simpa using O
 obtain⟨b,V,R,o⟩:=K i (by simpa using z);rw[List.getElem_map] at o;obtain⟨sp,W,E,D,J,I,M,U⟩:=L y[i] (List.getElem_mem z);rw[U] at o;rw[List.getElem_map];exact⟨b,V,R,sp,W,E,D,J,I,M,o 0 (by omega),o 1 (by omega),o 2 (by omega),o 3 (by omega),o 4 (by omega),o 5 (by omega),o 6 (by omega),o 7 (by omega),o 8 (by omega),o 9 (by omega),o 10 (by omega),o 11 (by omega)⟩
structure Rw.Small(x:Rw):Prop where
 f0:0<=x.f0∧x.f0<=1099511627776
 r0:0<=x.r0∧x.r0<=1099511627776
 l:x.l.length<=1000000
 s0:x.s0.length<=1
 rows:∀q∈x.l,q.1.kind=2->0<=q.1.rows∧q.1.rows<=64
structure ba(w:World)(a:Nat)(x:Rw)(F:Nat->Prop):Prop where
 out:∃lp lc ep ec sp sc,∃ZL ZS:List (List Value×(Fr×Int)),w.1[a]?=some (.cells #[.slice lp x.l.length lc,.int .i64 x.f0,.int .i64 x.r0,.slice ep x.e0.length ec,.slice sp x.s0.length sc] 111)∧ZL.map (·.2)=x.l∧ZS.map (·.2)=x.s0∧(∀w',Aside (fun i=>i=a∨F i) w w'->((∀z∈ZL,PlV w' z.1 z.2)∧da w' lp (ZL.map (·.1)))∧di w' ep x.e0∧(∀z∈ZS,PlV w' z.1 z.2)∧da w' sp (ZS.map (·.1)))∧x.e0.length*24<=140737488351232∧x.l.length<=lc
 small:x.Small
section
variable {w w':World} {a:Nat} {x:Rw} {F:Nat->Prop}
theorem ba.old(h:ba w a x F):∃lp z o y sp A,w.1[a]?=some (.cells #[.slice lp x.l.length z,.int .i64 x.f0,.int .i64 x.r0,.slice o x.e0.length y,.slice sp x.s0.length A] 111)∧(∀w',Aside (fun i=>i=a∨F i) w w'->Pls w' lp x.l∧di w' o x.e0∧Pls w' sp x.s0)∧x.e0.length*24<=140737488351232:=by
 obtain⟨lp,z,o,y,sp,A,W,X,I,D,E,J,K,-⟩:=h.out;refine⟨lp,z,o,y,sp,A,I,fun w' L=>?_,K⟩;obtain⟨⟨M,O⟩,R,U,V⟩:=J w' L;rw[<-D,<-E];exact⟨rV M O,R,rV U V⟩
theorem ba.lt(h:ba w a x F):a<w.1.size:=by
 obtain⟨lp,A,z,y,sp,D,o,-⟩:=h.old;exact(Array.getElem?_eq_some_iff.1 o).1
theorem ba.aside{F':Nat->Prop}(h:ba w a x F)(z:Aside F w w')(U:¬F a)(R:∀k,F' k->F k∨w.1.size<=k):ba w' a x F':=by
 obtain⟨lp,W,K,J,sp,X,A,D,L,E,I,M,O⟩:=h.out;refine⟨⟨lp,W,K,J,sp,X,A,D,by rw[z.block a h.lt U];exact L,E,I,fun Y hb=>?_,O⟩,h.small⟩;exact M Y ((z.mono fun i _ y=>.inr y).trans hb fun i y o=>by
  rcases o with o | o
  ·exact .inl o
  ·exact(R i o).elim .inr (fun V=>absurd y (Nat.not_lt_of_le V)))
theorem ba.on(h:ba w a x F)(hb:Below w.1.size w w')(o:¬F a):ba w' a x F:=h.aside (ae hb F) o (fun _ y=>.inl y)
theorem cL{o B:Type}(f:B->o->B)(b:B)(l:List o)(i:Nat)(y:i<l.length):(l.take (i+1)).foldl f b=f ((l.take i).foldl f b) l[i]:=by
 rw[List.take_succ_eq_append_getElem y,List.foldl_append];rfl
theorem kh:∀(l:List (Fr×Int)) (n:Int),n<=l.foldl (fun n q=>if q.1.kind=2 then n+1 else n) n∧l.foldl (fun n q=>if q.1.kind=2 then n+1 else n) n<=n+l.length
 | [],n=>⟨Int.le_refl _,by simp⟩
 |q::r,n=>by
  have h:=kh r (if q.1.kind=2 then n+1 else n);rw[List.foldl_cons];simp only[List.length_cons];by_cases o:q.1.kind=2
  ·simp only[if_pos o] at h ⊢;omega
  ·simp only[if_neg o] at h ⊢;omega
theorem eA(h:ba w a x F):Calls Tryz.prog 33 #[.pointer (some ⟨a,0,none⟩)] w fun e w'=>e=.returned (.int .i64 x.frames)∧Below w.1.size w w':=by
 obtain⟨lp,bp,bj,be,sp,bq,K,ah,-⟩:=h.old;have c0:w.cell? ⟨a,0,none⟩=some (.slice lp x.l.length bp):=aa K 0;have c1:w.cell? ⟨a,1,none⟩=some (.int .i64 x.f0):=aa K 1;have Y:=xX (ah w (Aside.refl _ _)).1;have U:=h.small;obtain⟨o,L⟩:∃o,o=x.f0:=⟨_,rfl⟩;obtain⟨l,M⟩:∃l,l=x.l:=⟨_,rfl⟩;have Z:Hid (x.frames=l.foldl (fun n q=>if q.1.kind=2 then n+1 else n) o):=by show x.frames=_;rw[M,L];rfl
 have bl:=U.f0;have bn:=U.l;rw[<-L] at c1 bl;rw[<-M] at c0 Y bn;rw[Z.out];clear h K ah U L M Z;go_enter Tryz.func33,Tryz.ntmps33;go_wp2_with fail;go_loopw [3,15] (fun bs W wr=>∃i:Nat,i<=l.length∧W=.int .i64 (i:Nat)∧bs=.int .i64 ((l.take i).foldl (fun n q=>if q.1.kind=2 then n+1 else n) o)∧Hid (Below w.1.size w wr)) (fun _ W _=>l.length-(intOf W).toNat);case atStart=>exact⟨0,by omega,rfl,rfl,xY⟩
 case round=>
  obtain⟨i,b0,rfl,rfl,z⟩:=hrel;have b1:(i:Int)<=1000000:=by omega
  have O:=kh (l.take i) o;have ak:(l.take i).length<=i:=List.length_take_le _ _;obtain⟨N,A⟩:∃N,N=(l.take i).foldl (fun n q=>if q.1.kind=2 then n+1 else n) o:=⟨_,rfl⟩;rw[<-A] at O ⊢;by_cases R:i<l.length
  ·have f1:(i:Int)<(l.length:Int):=(by omega);have E:=cL (fun(n:Int) (q:Fr×Int)=>if q.1.kind=2 then n+1 else n) o l i R;rw[<-A] at E;obtain⟨b,I,rfl,aj⟩:=Y.out i R;obtain⟨sp,bq,bO,bN,bj,be,-,a1,a2,a5,a6,a7,a8,a9,bb,bc,bd,a3,a4⟩:=(aj.on z.out).out;generalize l[i].1.kind=V,l[i].1.number=k1,l[i].1.cols.length=k2,l[i].1.seq=k3,l[i].1.first=k4,l[i].1.rows=k5,l[i].1.block.length=k6,l[i].1.index.at_=k7,l[i].1.index.frames=k8,l[i].1.index.rows=k9,l[i].1.index.entries.length=k10,l[i].2=k11 at a1 a2 a5 a6 a7 a8 a9 bb bc bd a3 a4 E;have D:=xX E;have bT:N<=2199023255552:=(by omega);have bX:0<=N:=(by omega);have X:Hid (∀I,Below w.1.size w (wr.alloc I)):=fun I=>z.out.alloc z.out.size I;clear E aj A O ak z;by_cases y:V=2
   ·have bk:(V==2)=true:=(by rw[beq_iff_eq];exact y);have J:Hid (List.foldl (fun n q=>if q.fst.kind=2 then n+1 else n) o (List.take (i+1) l)=N+1):=(by show _=_;rw[D.out,if_pos y]);clear D y;go_wp2;go_roundw;case rel=>exact⟨i+1,by omega,by go_num,by rw[J.out],X.out _⟩
    case measure=>simp[intOf];omega
   ·have bk:(V==2)=false:=(by rw[beq_eq_false_iff_ne];exact y);have J:Hid (List.foldl (fun n q=>if q.fst.kind=2 then n+1 else n) o (List.take (i+1) l)=N):=(by show _=_;rw[D.out,if_neg y]);clear D y;go_wp2;go_roundw;case rel=>exact⟨i+1,by omega,by go_num,by rw[J.out],X.out _⟩
    case measure=>simp[intOf];omega
  ·have f1:¬(i:Int)<(l.length:Int):=(by omega);have a0:Hid (N=l.foldl (fun n q=>if q.1.kind=2 then n+1 else n) o):=(by show N=_;rw[A,List.take_of_length_le (by omega)]);clear A O ak R;go_wp2;go_ret;exact⟨by rw[<-a0.out];rfl,z.out⟩
theorem oN:∀(l:List (Fr×Int)),(∀q∈l,q.1.kind=2->0<=q.1.rows∧q.1.rows<=64)->∀(n:Int),n<=l.foldl (fun n q=>if q.1.kind=2 then n+q.1.rows else n) n∧l.foldl (fun n q=>if q.1.kind=2 then n+q.1.rows else n) n<=n+64*l.length
 | [],_,n=>⟨Int.le_refl _,by simp⟩
 |q::r,hr,n=>by
  have h:=oN r (fun q z=>hr q (List.mem_cons_of_mem _ z)) (if q.1.kind=2 then n+q.1.rows else n);have y:=hr q List.mem_cons_self;rw[List.foldl_cons];simp only[List.length_cons];by_cases o:q.1.kind=2
  ·have:=y o;simp only[if_pos o] at h ⊢;omega
  ·simp only[if_neg o] at h ⊢;omega
theorem gC(h:ba w a x F):Calls Tryz.prog 34 #[.pointer (some ⟨a,0,none⟩)] w fun e w'=>e=.returned (.int .i64 x.rows)∧Below w.1.size w w':=by
 obtain⟨lp,bN,bl,bk,sp,bO,R,ak,-⟩:=h.old;have c0:w.cell? ⟨a,0,none⟩=some (.slice lp x.l.length bN):=aa R 0;have c1:w.cell? ⟨a,2,none⟩=some (.int .i64 x.r0):=aa R 2;have ah:=xX (ak w (Aside.refl _ _)).1;have J:=h.small;obtain⟨o,U⟩:∃o,o=x.r0:=⟨_,rfl⟩;obtain⟨l,V⟩:∃l,l=x.l:=⟨_,rfl⟩;have aj:Hid (x.rows=l.foldl (fun n q=>if q.1.kind=2 then n+q.1.rows else n) o):=by show x.rows=_;rw[V,U];rfl
 have bp:=J.r0;have bq:=J.l;have M:Hid (∀q∈x.l,q.1.kind=2->0<=q.1.rows∧q.1.rows<=64):=J.rows;rw[<-U] at c1 bp;rw[<-V] at c0 ah bq M;rw[aj.out];clear h R ak J U V aj;go_enter Tryz.func34,Tryz.ntmps34;go_wp2_with fail;go_loopw [3,15] (fun bT Y wr=>∃i:Nat,i<=l.length∧Y=.int .i64 (i:Nat)∧bT=.int .i64 ((l.take i).foldl (fun n q=>if q.1.kind=2 then n+q.1.rows else n) o)∧Hid (Below w.1.size w wr)) (fun _ Y _=>l.length-(intOf Y).toNat);case atStart=>exact⟨0,by omega,rfl,rfl,xY⟩
 case round=>
  obtain⟨i,b3,rfl,rfl,z⟩:=hrel;have b4:(i:Int)<=1000000:=by omega
  have W:=oN (l.take i) (fun q bs=>M.out q (List.mem_of_mem_take bs)) o;have a1:(l.take i).length<=i:=List.length_take_le _ _;obtain⟨N,A⟩:∃N,N=(l.take i).foldl (fun n q=>if q.1.kind=2 then n+q.1.rows else n) o:=⟨_,rfl⟩;rw[<-A] at W ⊢;by_cases I:i<l.length
  ·have f1:(i:Int)<(l.length:Int):=(by omega);have K:=cL (fun(n:Int) (q:Fr×Int)=>if q.1.kind=2 then n+q.1.rows else n) o l i I;rw[<-A] at K;obtain⟨b,L,rfl,a0⟩:=ah.out i I;have D:=M.out l[i] (List.getElem_mem I);obtain⟨sp,bO,b0,bX,bl,bk,-,a3,a4,a7,a8,a9,bb,bc,bd,be,bj,a5,a6⟩:=(a0.on z.out).out;generalize l[i].1.kind=X,l[i].1.number=k1,l[i].1.cols.length=k2,l[i].1.seq=k3,l[i].1.first=k4,l[i].1.rows=k5,l[i].1.block.length=k6,l[i].1.index.at_=k7,l[i].1.index.rows=k8,l[i].1.index.rows=k9,l[i].1.index.entries.length=k10,l[i].2=k11 at a3 a4 a7 a8 a9 bb bc bd be bj a5 a6 K D;have E:=xX K;have b1:N<=2199023255552:=(by omega);have b2:0<=N:=(by omega);have Z:Hid (∀L,Below w.1.size w (wr.alloc L)):=fun L=>z.out.alloc z.out.size L;clear K a0 A W a1 z;by_cases y:X=2
   ·have bn:(X==2)=true:=(by rw[beq_iff_eq];exact y);have O:Hid (List.foldl (fun n q=>if q.fst.kind=2 then n+q.fst.rows else n) o (List.take (i+1) l)=N+k5):=(by show _=_;rw[E.out,if_pos y]);have b5:=(D y).1;have b6:=(D y).2;clear E y D;go_wp2;go_roundw;case rel=>exact⟨i+1,by omega,by go_num,by rw[O.out],Z.out _⟩
    case measure=>simp[intOf];omega
   ·have bn:(X==2)=false:=(by rw[beq_eq_false_iff_ne];exact y);have O:Hid (List.foldl (fun n q=>if q.fst.kind=2 then n+q.fst.rows else n) o (List.take (i+1) l)=N):=(by show _=_;rw[E.out,if_neg y]);clear E y D;go_wp2;go_roundw;case rel=>exact⟨i+1,by omega,by go_num,by rw[O.out],Z.out _⟩
    case measure=>simp[intOf];omega
  ·have f1:¬(i:Int)<(l.length:Int):=(by omega);have a2:Hid (N=l.foldl (fun n q=>if q.1.kind=2 then n+q.1.rows else n) o):=(by show N=_;rw[A,List.take_of_length_le (by omega)]);clear A W a1 I;go_wp2;go_ret;exact⟨by rw[<-a2.out];rfl,z.out⟩
end
end
section
open Go.RowKit
section
variable {w w':World} {a:Nat} {x:Rw} {F:Nat->Prop}
def bF(r:Int×Bool)(q:Fr×Int):Int×Bool:=if q.1.kind=1 then (0,true) else if q.1.kind=2 then (r.1+1,r.2) else r
theorem lM:∀(l:List (Fr×Int)) (r:Int×Bool),0<=r.1->0<=(l.foldl bF r).1∧(l.foldl bF r).1<=r.1+l.length
 | [],r,h=>⟨h,by simp⟩
 |q::t,r,h=>by
  have o:0<=(bF r q).1∧(bF r q).1<=r.1+1:=by
   unfold bF;split
   ·exact⟨Int.le_refl _,by show(0:Int)<=r.1+1;omega⟩
   ·split
    ·exact⟨by show 0<=r.1+1;omega,Int.le_refl _⟩
    ·omega
  have y:=lM t (bF r q) o.1;rw[List.foldl_cons];simp only[List.length_cons];omega
theorem nt(h:ba w a x F):Calls Tryz.prog 36 #[.pointer (some ⟨a,0,none⟩)] w fun e w'=>e=.returned (.int .i64 x.since)∧Below w.1.size w w':=by
 obtain⟨lp,b3,bT,bO,sp,a8,U,a4,-⟩:=h.old;have c0:w.cell? ⟨a,0,none⟩=some (.slice lp x.l.length b3):=aa U 0;have c4:w.cell? ⟨a,4,none⟩=some (.slice sp x.s0.length a8):=aa U 4;have a0:=xX (a4 w (Aside.refl _ _)).1;have ah:=h.small;obtain⟨J,W⟩:∃J,J=x.s0.length:=⟨_,rfl⟩;obtain⟨l,Y⟩:∃l,l=x.l:=⟨_,rfl⟩;have a2:Hid (x.since=if (l.foldl bF (0,decide (0<J))).2=true then (l.foldl bF (0,decide (0<J))).1 else 0):=by show x.since=_;rw[Y,W];rfl
 have b2:=ah.s0;have b1:=ah.l;rw[<-W] at c4 b2;rw[<-Y] at c0 a0 b1;rw[a2.out];obtain⟨o,X⟩:∃o,o=decide (0<J):=⟨_,rfl⟩;rw[<-X];have a9:=xX X;obtain⟨R,V⟩:∃R:Int,R=if (l.foldl bF (0,o)).2=true then (l.foldl bF (0,o)).1 else 0:=⟨_,rfl⟩;rw[<-V];have a1:=xX V;clear V;clear h U a4 ah W Y a2 X;go_enter Tryz.func36,Tryz.ntmps36;go_wp2_with fail;go_loopw [3,4,18] (fun b4 b5 aj wr=>∃i:Nat,i<=l.length∧aj=.int .i64 (i:Nat)∧b4=.int .i64 ((l.take i).foldl bF (0,o)).1∧b5=.bool ((l.take i).foldl bF (0,o)).2∧Hid (Below w.1.size w wr)) (fun _ _ aj _=>l.length-(intOf aj).toNat);case atStart=>exact⟨0,by omega,rfl,rfl,by rw[a9.out];rfl,xY⟩
 case round=>
  obtain⟨i,b9,rfl,rfl,rfl,A⟩:=hrel;have cb:(i:Int)<=1000000:=by omega
  have L:=lM (l.take i) (0,o) (Int.le_refl _);have a6:(l.take i).length<=i:=List.length_take_le _ _;obtain⟨N,K⟩:∃N,N=(l.take i).foldl bF (0,o):=⟨_,rfl⟩;rw[<-K] at L ⊢;obtain⟨n,m⟩:=N;have cc:0<=n∧n<=1000000:=⟨L.1,by have b8:n<=0+((l.take i).length:Int):=L.2;omega⟩;by_cases Z:i<l.length
  ·have f1:(i:Int)<(l.length:Int):=(by omega);have M:=cL bF (0,o) l i Z;rw[<-K] at M;obtain⟨b,O,rfl,a5⟩:=a0.out i Z;obtain⟨sp,a8,b7,b6,bT,bO,-,bb,bc,bj,bk,bl,bn,bp,bq,bs,bN,bd,be⟩:=(a5.on A.out).out;have a7:∀r q,bF r q=if q.1.kind=1 then (0,true) else if q.1.kind=2 then (r.1+1,r.2) else r:=fun _ _=>rfl;rw[a7] at M;clear a7;generalize l[i].1.kind=I,l[i].1.number=k1,l[i].1.cols.length=k2,l[i].1.seq=k3,l[i].1.first=k4,l[i].1.rows=k5,l[i].1.block.length=k6,l[i].1.index.at_=k7,l[i].1.index.frames=k8,l[i].1.index.rows=k9,l[i].1.index.entries.length=k10,l[i].2=k11 at bb bc bj bk bl bn bp bq bs bN bd be M;have D:=xX M;have HB2:Hid (∀O,Below w.1.size w (wr.alloc O)):=fun O=>A.out.alloc A.out.size O;clear M a5 K L a6 A;by_cases z:I=1
   ·have bX:(I==1)=true:=(by rw[beq_iff_eq];exact z);have y:Hid ((l.take (i+1)).foldl bF (0,o)=(0,true)):=(by show _=_;rw[D.out,if_pos z]);clear D z;go_wp2;go_roundw;case rel=>exact⟨i+1,by omega,by go_num,by rw[y.out],by rw[y.out],HB2.out _⟩
    case measure=>simp[intOf];omega
   ·have bX:(I==1)=false:=(by rw[beq_eq_false_iff_ne];exact z);by_cases E:I=2
    ·have b0:(I==2)=true:=(by rw[beq_iff_eq];exact E);have y:Hid ((l.take (i+1)).foldl bF (0,o)=(n+1,m)):=(by show _=_;rw[D.out,if_neg z,if_pos E]);clear D z E;go_wp2;go_roundw;case rel=>exact⟨i+1,by omega,by go_num,by rw[y.out],by rw[y.out],HB2.out _⟩
     case measure=>simp[intOf];omega
    ·have b0:(I==2)=false:=(by rw[beq_eq_false_iff_ne];exact E);have y:Hid ((l.take (i+1)).foldl bF (0,o)=(n,m)):=(by show _=_;rw[D.out,if_neg z,if_neg E]);clear D z E;go_wp2;go_roundw;case rel=>exact⟨i+1,by omega,by go_num,by rw[y.out],by rw[y.out],HB2.out _⟩
     case measure=>simp[intOf];omega
  ·have f1:¬(i:Int)<(l.length:Int):=(by omega);have ak:Hid ((n,m)=l.foldl bF (0,o)):=(by show(n,m)=_;rw[K,List.take_of_length_le (by omega)]);clear K L a6 Z;cases m with
   |false=>
    go_wp2;go_ret;exact⟨by rw[a1.out,<-ak.out];rfl,A.out⟩
   |true=>
    go_wp2;go_ret;exact⟨by rw[a1.out,<-ak.out];rfl,A.out⟩
theorem l6(h:ba w a x F):Calls Tryz.prog 38 #[.pointer (some ⟨a,0,none⟩)] w fun e w'=>e=.returned (.bool x.closed)∧∃n,w'=w.drewN n:=by
 obtain⟨lp,X,V,U,sp,Y,A,D,-⟩:=h.old;have c0:w.cell? ⟨a,0,none⟩=some (.slice lp x.l.length X):=aa A 0;have E:=(D w (Aside.refl _ _)).1;have L:=h.small.l;by_cases y:x.l=[]
 ·have hx:x.closed=false:=by unfold Rw.closed;rw[y];rfl
  rw[hx];rw[y,List.length_nil] at c0;clear h A D E L y hx;go_enter Tryz.func38,Tryz.ntmps38;go_wp2_with fail;go_quiet (fail);go_wp2;go_ret;exact⟨rfl,_,rfl⟩
 ·obtain⟨m,M⟩:∃m,x.l.length=m+1:=⟨x.l.length-1,by
   have:0<x.l.length:=List.length_pos_iff.2 y
   omega⟩
  obtain⟨b,o,rfl,J⟩:=E m (by omega);obtain⟨sp,Y,ah,Z,V,U,-,O,-⟩:=J.out;have hx:x.closed=decide (x.l[m].1.kind=3):=by
   unfold Rw.closed;have W:x.l.getLast?=some x.l[m]:=by
    have R:x.l.length-1=m:=(by omega);rw[List.getLast?_eq_getElem?,R,List.getElem?_eq_getElem (by omega)]
   rw[W]
  obtain⟨z,K⟩:∃z,z=x.l[m].1.kind:=⟨_,rfl⟩;rw[<-K] at hx O;rw[hx];rw[M] at c0 L;have a0:(m:Int)<=1000000:=by omega
  have I:(z==3)=decide (z=3):=by rw[Bool.eq_iff_iff,beq_iff_eq,decide_eq_true_iff]
  rw[<-I];have aj:decide ((0:Int)<(m:Int)+1)=true:=decide_eq_true (by omega);have f1:(0:Int)<(m:Int)+1:=by omega
  have ak:(m:Int)+1-1=(m:Int):=by omega
  clear h A D E y M J hx K I;go_enter Tryz.func38,Tryz.ntmps38;go_wp2_with fail;go_quiet (fail);go_wp2;go_ret;exact⟨rfl,_,rfl⟩
end
end
section
open Go.RowKit
def R12(us:List (List Value)):Prop:=∀u∈us,u.length=12∧∀c∈u,c.oneCell'=true
theorem dB:∀{us:List (List Value)},R12 us->us.flatten.length=us.length*12
 | [],_=>rfl
 |u::us,h=>by
  have o:=dB (us:=us) (fun x z=>h x (List.mem_cons_of_mem _ z));have y:=(h u List.mem_cons_self).1;rw[List.flatten_cons,List.length_append,o,y,List.length_cons];omega
theorem iq:∀{us:List (List Value)},R12 us->∀(j:Nat) (o:j<us.length) (m:Nat),m<12->us.flatten[j*12+m]?=us[j][m]?
 | [],_,j,o,_,_=>by simp at o
 |u::us,h,0,o,m,hm=>by
  have y:=(h u List.mem_cons_self).1;rw[List.flatten_cons,Nat.zero_mul,Nat.zero_add,List.getElem?_append_left (by omega)];rfl
 |u::us,h,j+1,o,m,hm=>by
  have z:=iq (us:=us) (fun x A=>h x (List.mem_cons_of_mem _ A)) j (by simpa using o) m hm;have y:=(h u List.mem_cons_self).1;rw[List.flatten_cons,List.getElem?_append_right (by omega),y,show(j+1)*12+m-12=j*12+m by omega,z];rfl
theorem R12.append{a b:List (List Value)}(o:R12 a)(hb:R12 b):R12 (a++b):=fun u y=>(List.mem_append.1 y).elim (o u) (hb u)
def db(w:World)(B:Nat)(v:Value)(us:List (List Value)):Prop:=R12 us∧w.ownsRow B 115 12 v us.length us.flatten
theorem rU(w:World)(B:Nat):db w B (.slice none 0 0) []:=⟨fun u o=>(by cases o),rfl,.inl ⟨rfl,rfl⟩⟩
section
variable {w w':World} {B:Nat} {v:Value} {us:List (List Value)}
theorem db.lt(h:db w B v us):∀k,v.ownBlock=some k->B<=k∧k<w.1.size:=World.ownsRow.lt h.2
theorem db.aside{F:Nat->Prop}(h:db w B v us)(E:Aside F w w')(I:∀k,v.ownBlock=some k->¬F k):db w' B v us:=by
 refine⟨h.1,h.2.1,?_⟩;rcases h.2.2 with z | ⟨g,cap,y,rfl,A,o,D⟩
 ·exact .inl z
 ·refine .inr ⟨g,cap,y,rfl,A,?_,D⟩;rw[E.block g (Array.getElem?_eq_some_iff.1 o).1 (I g rfl)];exact o
theorem db.on(h:db w B v us)(hb:Below w.1.size w w'):db w' B v us:=h.aside (ae hb (fun _=>False)) (fun _ _ o=>o)
theorem db.lies(h:db w B v us):∃p c,v=.slice p us.length c∧us.length<=c∧da w p us:=by
 rcases h.2.2 with ⟨rfl,y⟩ | ⟨g,cap,J,rfl,K,A,D,L,M,E⟩
 ·have z:us=[]:=List.eq_nil_of_length_eq_zero y;subst z;exact⟨none,0,rfl,xZ,fun j o=>(by simp at o)⟩
 ·refine⟨_,cap,rfl,D,fun j o=>⟨g,0,rfl,fun m I=>?_⟩⟩;rw[Nat.zero_add,<-iq h.1 j o m I,<-E,List.getElem?_take_of_lt (by omega)];simp[World.cell?,A]
end
def oF:Value:=.agg #[.int .i64 0,.int .i64 0,.slice none 0 0,.int .i64 0,.int .i64 0,.int .i64 0,.slice none 0 0,.int .i64 0,.int .i64 0,.int .i64 0,.slice none 0 0,.int .i64 0]
theorem vu:(Tryz.prog.info? 115).map (fun i=>(i.zero,i.size,i.bytes))=some (some oF,12,144):=by kernel_rfl
theorem l9(B:Nat)(v:Value)(xs l:List (List Value))(p:OA)(c:Nat)(w:World)(D:db w B v xs)(z:R12 l)(h:da w p l)(a5:(xs.length+l.length)*144<=140737488355328)(V:B<=w.1.size):
  ∃(q:OA) (cap:Nat) (W:World),bJ Tryz.prog 109 109 109 v (.slice p l.length c) w (.slice q (xs++l).length cap) W∧db W B (.slice q (xs++l).length cap) (xs++l)∧Aside (fun k=>v.ownBlock=some k) w W∧∀k,(Value.slice q (xs++l).length cap).ownBlock=some k->v.ownBlock=some k∨w.1.size<=k:=by
 obtain⟨i,K,a2,a0,X⟩:=info_parts vu;by_cases E:l=[]
 ·subst E;obtain⟨q,cap,rfl,Y,-⟩:=D.lies;rw[List.append_nil];refine⟨q,cap,w,⟨run_append_nothing (P:=Tryz.prog) w 109 109 109 115 i Tryz.underlying109 K q xs.length cap Y (.slice p 0 c) ?_⟩,D,Aside.refl _ _,fun k o=>.inl o⟩;cases p with
  |none=>exact Src.ofNil w Tryz.underlying109 c
  |some a=>exact Src.ofSlice w Tryz.underlying109 a 0 c [] (by simp) (fun j u y=>by simp at y) (fun u A=>by cases A)
 ·have M:0<l.length:=List.length_pos_iff.2 E;obtain⟨b,U,rfl,-⟩:=h 0 M;have Z:∀j u,l.flatten[j]?=some u->w.cell? (Addr.add ⟨b,U,none⟩ j)=some u:=fun j u y=>by
   have a4:j<l.length*12:=by
    have:=(List.getElem?_eq_some_iff.1 y).1;rw[dB z] at this;exact this
   have hd:j=j / 12*12+j % 12:=(by omega);have O:j / 12<l.length:=(by omega);obtain⟨a3,a6,J,o⟩:=h (j / 12) O;simp only[Option.some.injEq,Addr.mk.injEq,and_true] at J;obtain⟨rfl,rfl⟩:=J;rw[hd,iq z (j / 12) O (j % 12) (by omega)] at y;rw[Lib.add_plain,hd,<-Nat.add_assoc,o _ (by omega)];exact y
  have ak:∀u∈l.flatten,u.oneCell'=true:=fun u A=>by
   obtain⟨x,a1,A⟩:=List.mem_flatten.1 A;exact(z x a1).2 u A
  obtain⟨g,cap,W,R,L,aj,ah,_⟩:=run_append_lies (P:=Tryz.prog) w 109 109 B 115 i oF 12 144 Tryz.underlying109 K a2 a0 X rfl (by decide) v xs.length xs.flatten D.2 ⟨b,U,none⟩ l.length c l.flatten (dB z) Z ak M (by unfold maxLen;omega) (by omega) V w.1.size rfl;rw[<-List.flatten_append,<-List.length_append] at L;rw[<-List.length_append] at R;refine⟨some ⟨g,0,none⟩,cap,W,⟨R⟩,⟨D.1.append z,L⟩,cz aj,?_⟩;intro k o;simp only[Value.ownBlock,Option.some.injEq] at o;subst o;rcases ah with I | I
  ·exact .inl I
  ·exact .inr (by omega)
theorem lB{B:Nat}{v:Value}{xs l:List (List Value)}{p:OA}{c:Nat}{w:World}(O:db w B v xs)(J:R12 l)(h:da w p l)(K:(xs.length+l.length)*144<=140737488355328)(A:B<=w.1.size){ops:Array Oper}{rest:List Oper}{o:Oper}{a:Act}{Q:Exit->Act->World->Prop}{z x:Operand}(X:o.type=109)(I:o.guard=none)(M:o.op=Op.call { callee:=Callee.builtin Builtin.append,args:=#[z,x],argTypes:=#[109,109] })(V:a.eval z=v)(Y:a.eval x=.slice p l.length c)(D:∀y q cap W,Hid (y=xs++l)->db W B (.slice q y.length cap) y->Aside (fun k=>v.ownBlock=some k) w W->(∀k,(Value.slice q y.length cap).ownBlock=some k->v.ownBlock=some k∨w.1.size<=k)->wpList Tryz.prog ops Q rest (a.put o.dst (.slice q y.length cap)) W):
  wpList Tryz.prog ops Q (o::rest) a w:=by
 obtain⟨q,cap,W,R,L,E,hb⟩:=l9 B v xs l p c w O J h K A;have U:bJ Tryz.prog 109 109 o.type v (.slice p l.length c) w (.slice q (xs++l).length cap) W:=by rw[X];exact R
 exact aF U I M V Y (D _ q cap W (xX rfl) L E hb)
end
section
open Go.RowKit
theorem PlV.twelve{u:List Value}{q:Fr×Int}(h:PlV w u q):u.length=12∧∀c∈u,c.oneCell'=true:=by
 obtain⟨sp,E,z,y,D,A,-,rfl⟩:=h;refine⟨rfl,fun c o=>?_⟩;simp only[List.mem_cons,List.not_mem_nil,or_false] at o;rcases o with rfl | rfl | rfl | rfl | rfl | rfl | rfl | rfl | rfl | rfl | rfl | rfl <;> rfl
section
variable {w w':World} {a:Nat} {x:Rw} {F:Nat->Prop}
theorem dS(h:ba w a x F):Calls Tryz.prog 65 #[.pointer (some ⟨a,0,none⟩)] w fun e w'=>∃q cap,∃Z:List (List Value×(Fr×Int)),e=.returned (.slice q Z.length cap)∧db w' w.1.size (.slice q Z.length cap) (Z.map (·.1))∧(∀Y,Aside (fun i=>i=a∨F i) w Y->∀o∈Z,PlV Y o.1 o.2)∧Z.map (·.2)=x.schemas∧Below w.1.size w w':=by
  obtain⟨lp,f6,gm,gl,sp,ec,z,I,K,cx,cy,bs,-⟩:=h.out;have c0:w.cell? ⟨a,0,none⟩=some (.slice lp x.l.length f6):=aa K 0;have c4:w.cell? ⟨a,4,none⟩=some (.slice sp x.s0.length ec):=aa K 4;obtain⟨⟨d9,ea⟩,-,eb,c5⟩:=bs w (Aside.refl _ _);have c6:R12 (I.map (·.1)):=fun y cw=>by
    obtain⟨t,a8,rfl⟩:=List.mem_map.1 cw;exact(eb t a8).twelve
  have dd:Hid (∀Y,Aside (fun i=>i=a∨F i) w Y->(∀o∈z,PlV Y o.1 o.2)∧∀o∈I,PlV Y o.1 o.2):=fun Y ha=>⟨(bs Y ha).1.1,(bs Y ha).2.2.1⟩;have f2:=h.small.s0;have f0:=h.small.l;have co:(I.map (·.1)).length=x.s0.length:=by rw[List.length_map,<-cy,List.length_map]
  have d3:z.length=x.l.length:=by rw[<-cx,List.length_map]
  have d1:Hid (x.schemas=(I++z.filter fun o=>decide (o.2.1.kind=1)).map (·.2)):=by
    show x.schemas=_;unfold Rw.schemas;rw[List.map_append,cy,<-cx,List.filter_map];rfl
  have d2:w.cell? ⟨a,4,none⟩=some (.slice sp (I.map (·.1)).length ec):=by rw[co];exact c4
  rw[<-d3] at c0 f0;have gL:I.length<=1:=by rw[List.length_map] at co;omega
  obtain⟨bc,bN⟩:∃bc,bc=I.map (·.1):=⟨_,rfl⟩;have fr:bc.length=I.length:=by rw[bN,List.length_map]
  rw[<-bN] at d2 c5 c6;have dv:=xX bN;have dp:=xX d9;have ep:=xX ea;have dr:=xX c5;have ds:=xX c6;have f5:bc.length<=1:=by omega
  rw[d1.out];clear bN fr h K bs cx d9 ea cy eb c5 c6 co d3 c4 f2 d1;go_enter Tryz.func65,Tryz.ntmps65
  go_wp2_with (first|(at_builtin;refine lB (xs:=[]) (rU w w.1.size) ds.out dr.out (by simp;omega) xZ rfl rfl rfl rfl rfl ?_;intro be f7 eS eC b3 bn ha cs;have eq:=xX bn;have cp:Below w.1.size w eC:=ha.below xZ (fun i fx D=>by simp[Value.ownBlock] at D);have bl:=ac cp c0;have el:=xX cp;clear bn ha cs cp)|fail)
  have gz:be.length<=1:=by have K:be=bc:=b3.out;rw[K];exact f5
  have ez:Hid (be=(I++(z.take 0).filter fun o=>decide (o.2.1.kind=1)).map (·.1)):=by
    show be=_;have K:be=bc:=b3.out;rw[K,dv.out];simp
  clear b3 dv dr ds c0 d2 bl;go_loopw [3,16] (fun f9 c7 wr=>∃(i:Nat) (q:OA) (cap:Nat) (us:List (List Value)),i<=z.length∧c7=.int .i64 (i:Nat)∧f9=.slice q us.length cap∧us.length<=1+i∧Hid (us=(I++(z.take i).filter fun o=>decide (o.2.1.kind=1)).map (·.1))∧Hid (db wr w.1.size (.slice q us.length cap) us)∧Hid (Below w.1.size w wr)) (fun _ c7 _=>z.length-(intOf c7).toNat);case atStart=>exact⟨0,f7,eS,be,by omega,rfl,rfl,by omega,ez,eq,el⟩
  case round=>
    obtain⟨i,q,cap,us,fx,rfl,rfl,gt,bb,bX,E⟩:=hrel;have gq:(i:Int)<=1000000:=(by omega);by_cases bp:i<z.length
    · have f1:(i:Int)<(z.length:Int):=(by omega);have fs:=dp.out z[i] (List.getElem_mem bp);obtain⟨b,A,rfl,D⟩:=ep.out i (by rw[List.length_map];exact bp);rw[List.getElem_map] at D;obtain⟨V,U,L,bc2,O,M,-,cv⟩:=fs;have a8:(z.take (i+1)).filter (fun o=>decide (o.2.1.kind=1))=(z.take i).filter (fun o=>decide (o.2.1.kind=1))++if z[i].2.1.kind=1 then [z[i]] else []:=by
        rw[List.take_succ_eq_append_getElem bp,List.filter_append];congr 1;by_cases R:z[i].2.1.kind=1
        · rw[if_pos R,List.filter_cons,if_pos (decide_eq_true R),List.filter_nil]
        · rw[if_neg R,List.filter_cons,if_neg (by simp[R]),List.filter_nil]
      obtain⟨o,bd⟩:∃o,o=z[i]:=⟨_,rfl⟩;rw[<-bd] at D cv a8;obtain⟨u,qq⟩:=o;have J:u=[.int .i64 qq.1.kind,.int .i64 qq.1.number,.slice V qq.1.cols.length U,.int .i64 qq.1.seq,.int .i64 qq.1.first,.int .i64 qq.1.rows,.slice L qq.1.block.length bc2,.int .i64 qq.1.index.at_,.int .i64 qq.1.index.frames,.int .i64 qq.1.index.rows,.slice O qq.1.index.entries.length M,.int .i64 qq.2]:=cv;have e0:wr.cell? ⟨b,A+i*12,none⟩=some (.int .i64 qq.1.kind):=ac E.out (by have:=D 0 (by omega);rw[J] at this;exact this);have e1:wr.cell? ⟨b,A+i*12+1,none⟩=some (.int .i64 qq.1.number):=ac E.out (by have:=D 1 (by omega);rw[J] at this;exact this);have e4:wr.cell? ⟨b,A+i*12+2,none⟩=some (.slice V qq.1.cols.length U):=ac E.out (by have:=D 2 (by omega);rw[J] at this;exact this);have e5:wr.cell? ⟨b,A+i*12+3,none⟩=some (.int .i64 qq.1.seq):=ac E.out (by have:=D 3 (by omega);rw[J] at this;exact this);have e6:wr.cell? ⟨b,A+i*12+4,none⟩=some (.int .i64 qq.1.first):=ac E.out (by have:=D 4 (by omega);rw[J] at this;exact this);have e7:wr.cell? ⟨b,A+i*12+5,none⟩=some (.int .i64 qq.1.rows):=ac E.out (by have:=D 5 (by omega);rw[J] at this;exact this);have e8:wr.cell? ⟨b,A+i*12+6,none⟩=some (.slice L qq.1.block.length bc2):=ac E.out (by have:=D 6 (by omega);rw[J] at this;exact this);have e9:wr.cell? ⟨b,A+i*12+7,none⟩=some (.int .i64 qq.1.index.at_):=ac E.out (by have:=D 7 (by omega);rw[J] at this;exact this);have fi:wr.cell? ⟨b,A+i*12+8,none⟩=some (.int .i64 qq.1.index.frames):=ac E.out (by have:=D 8 (by omega);rw[J] at this;exact this)
      have fo:wr.cell? ⟨b,A+i*12+9,none⟩=some (.int .i64 qq.1.index.rows):=ac E.out (by have:=D 9 (by omega);rw[J] at this;exact this);have e2:wr.cell? ⟨b,A+i*12+10,none⟩=some (.slice O qq.1.index.entries.length M):=ac E.out (by have:=D 10 (by omega);rw[J] at this;exact this);have e3:wr.cell? ⟨b,A+i*12+11,none⟩=some (.int .i64 qq.2):=ac E.out (by have:=D 11 (by omega);rw[J] at this;exact this);have ct:(z.take (i+1)).filter (fun o=>decide (o.2.1.kind=1))=(z.take i).filter (fun o=>decide (o.2.1.kind=1))++if qq.1.kind=1 then [(u,qq)] else []:=a8;have d5:R12 [u]:=fun y cw=>by
        rcases List.mem_singleton.1 cw with rfl;have:=dp.out z[i] (List.getElem_mem bp);rw[<-bd] at this;exact this.twelve
      clear a8 cv D bd;obtain⟨d8,bl⟩:∃x,x=qq.1.kind:=⟨_,rfl⟩;obtain⟨ah,b5⟩:∃x,x=qq.1.number:=⟨_,rfl⟩;obtain⟨a0,b8⟩:∃x,x=qq.1.cols.length:=⟨_,rfl⟩;obtain⟨a1,b9⟩:∃x,x=qq.1.seq:=⟨_,rfl⟩;obtain⟨a2,cb⟩:∃x,x=qq.1.first:=⟨_,rfl⟩;obtain⟨a3,cc⟩:∃x,x=qq.1.rows:=⟨_,rfl⟩;obtain⟨a4,ci⟩:∃x,x=qq.1.block.length:=⟨_,rfl⟩;obtain⟨a5,cj⟩:∃x,x=qq.1.index.at_:=⟨_,rfl⟩;obtain⟨a6,ck⟩:∃x,x=qq.1.index.frames:=⟨_,rfl⟩;obtain⟨a7,cn⟩:∃x,x=qq.1.index.rows:=⟨_,rfl⟩;obtain⟨aj,b6⟩:∃x,x=qq.1.index.entries.length:=⟨_,rfl⟩;obtain⟨ak,b7⟩:∃x,x=qq.2:=⟨_,rfl⟩;rw[<-bl,<-b5,<-b8,<-b9,<-cb,<-cc,<-ci,<-cj,<-ck,<-cn,<-b6,<-b7] at J;rw[<-bl] at e0 ct;rw[<-b5] at e1;rw[<-b8] at e4;rw[<-b9] at e5;rw[<-cb] at e6;rw[<-cc] at e7;rw[<-ci] at e8;rw[<-cj] at e9;rw[<-ck] at fi;rw[<-cn] at fo;rw[<-b6] at e2;rw[<-b7] at e3;have eu:=xX J;have bj:=xX ct;have er:=xX d5;clear bl b5 b8 b9 cb cc ci cj ck cn b6 b7 J ct d5;by_cases R:d8=1
      · subst R;rw[if_pos rfl] at bj;obtain⟨W,bO⟩:∃W,W=(wr.alloc (.cells #[.int .i64 1,.int .i64 ah,.slice V a0 U,.int .i64 a1,.int .i64 a2,.int .i64 a3,.slice L a4 bc2,.int .i64 a5,.int .i64 a6,.int .i64 a7,.slice O aj M,.int .i64 ak] 115)).alloc (.cells #[.int .i64 1,.int .i64 ah,.slice V a0 U,.int .i64 a1,.int .i64 a2,.int .i64 a3,.slice L a4 bc2,.int .i64 a5,.int .i64 a6,.int .i64 a7,.slice O aj M,.int .i64 ak] 115):=⟨_,rfl⟩;have ew:Hid ((wr.alloc (.cells #[.int .i64 1,.int .i64 ah,.slice V a0 U,.int .i64 a1,.int .i64 a2,.int .i64 a3,.slice L a4 bc2,.int .i64 a5,.int .i64 a6,.int .i64 a7,.slice O aj M,.int .i64 ak] 115)).alloc (.cells #[.int .i64 1,.int .i64 ah,.slice V a0 U,.int .i64 a1,.int .i64 a2,.int .i64 a3,.slice L a4 bc2,.int .i64 a5,.int .i64 a6,.int .i64 a7,.slice O aj M,.int .i64 ak] 115)=W):=bO.symm;have cq:Below wr.1.size wr W:=(by rw[bO];exact xV.alloc (by simp) _);have d4:da W (some ⟨wr.1.size+1,0,none⟩) [u]:=fun j fy=>⟨wr.1.size+1,0,rfl,fun m gs=>by
          obtain rfl:j=0:=by simpa using fy
          have fv:W.1[wr.1.size+1]?=some (.cells #[.int .i64 1,.int .i64 ah,.slice V a0 U,.int .i64 a1,.int .i64 a2,.int .i64 a3,.slice L a4 bc2,.int .i64 a5,.int .i64 a6,.int .i64 a7,.slice O aj M,.int .i64 ak] 115):=by
            rw[bO];have:=ag (wr.alloc (.cells #[.int .i64 1,.int .i64 ah,.slice V a0 U,.int .i64 a1,.int .i64 a2,.int .i64 a3,.slice L a4 bc2,.int .i64 a5,.int .i64 a6,.int .i64 a7,.slice O aj M,.int .i64 ak] 115)) (.cells #[.int .i64 1,.int .i64 ah,.slice V a0 U,.int .i64 a1,.int .i64 a2,.int .i64 a3,.slice L a4 bc2,.int .i64 a5,.int .i64 a6,.int .i64 a7,.slice O aj M,.int .i64 ak] 115);simpa using this
          have X:W.cell? ⟨wr.1.size+1,m,none⟩=(#[.int .i64 1,.int .i64 ah,.slice V a0 U,.int .i64 a1,.int .i64 a2,.int .i64 a3,.slice L a4 bc2,.int .i64 a5,.int .i64 a6,.int .i64 a7,.slice O aj M,.int .i64 ak]:AV)[m]?:=(by simp[World.cell?,fv]);rw[show 0+0*12+m=m by omega,X];show _=u[m]?;rw[eu.out]
          exact List.getElem?_toArray⟩
        have df:=xX d4;have b1:=xX (bX.out.on cq);have bq:Hid (Below w.1.size w W):=E.out.trans (cq.mono E.out.size);have d0:Hid (w.1.size<=W.1.size):=bq.out.size;clear bO cq d4
        go_wp2_with (first|(at_builtin;rw[ew.out];refine lB b1.out er.out df.out (by simp;omega) d0.out rfl rfl rfl rfl rfl ?_;intro a9 f8 eU eL b4 bn ha cs;have b0:=xX bn;have c9:=xX ha;clear bn ha cs)|fail)
        have f4:a9.length=us.length+1:=(by have K:a9=us++[u]:=b4.out;rw[K];simp);have b2:Hid (a9=(I++(z.take (i+1)).filter fun o=>decide (o.2.1.kind=1)).map (·.1)):=by
          show a9=_;have K:a9=us++[u]:=b4.out;rw[K,bj.out,bb.out];simp
        have en:Hid (Below w.1.size w eL):=bq.out.trans (c9.out.below bq.out.size (fun k R D=>by have:=(b1.out.lt k D).1;omega));have f3:a9.length<=1+(i+1):=(by omega);clear bj bb b4 bq c9 b1 df d0 f4;go_roundw;case rel=>exact⟨i+1,f8,eU,a9,by omega,by go_num,rfl,f3,b2,b0,en⟩
        case measure=>simp[intOf];omega
      · have gn:(d8==1)=false:=(by rw[beq_eq_false_iff_ne];exact R);have em:Hid (∀A,Below w.1.size w (wr.alloc A)):=fun A=>E.out.alloc E.out.size A;have b0:Hid (∀A,db (wr.alloc A) w.1.size (.slice q us.length cap) us):=fun A=>bX.out.on (xY.alloc xZ A);have b2:Hid (us=(I++(z.take (i+1)).filter fun o=>decide (o.2.1.kind=1)).map (·.1)):=by
          show us=_;rw[bj.out,if_neg R,List.append_nil];exact bb.out
        clear bj bb R;go_wp2;go_roundw;case rel=>exact⟨i+1,q,cap,us,by omega,by go_num,rfl,by omega,b2,b0.out _,em.out _⟩
        case measure=>simp[intOf];omega
    · have f1:¬(i:Int)<(z.length:Int):=(by omega);have bT:Hid (us=(I++z.filter fun o=>decide (o.2.1.kind=1)).map (·.1)):=by
        show us=_;rw[bb.out,List.take_of_length_le (by omega)]
      clear bb bp;go_wp2;go_ret;refine⟨q,cap,I++z.filter fun o=>decide (o.2.1.kind=1),?_,?_,?_,by simp,E.out⟩
      · have X:us.length=(I++z.filter fun o=>decide (o.2.1.kind=1)).length:=(by rw[bT.out,List.length_map]);rw[<-X];rfl
      · have X:us.length=(I++z.filter fun o=>decide (o.2.1.kind=1)).length:=(by rw[bT.out,List.length_map]);rw[<-X,<-bT.out];exact bX.out
      · intro c8 d6;have d7:∀t∈I++z.filter (fun o=>decide (o.2.1.kind=1)),PlV c8 t.1 t.2:=fun t a8=>by
          rcases List.mem_append.1 a8 with X | X
          · exact(dd.out c8 d6).2 _ X
          · exact(dd.out c8 d6).1 _ (List.mem_filter.1 X).1
        first
          |exact d7
          |exact fun gd gf gh bd=>d7 (gd,gf,gh) (by first | exact bd | simpa using bd)
end
end
end Go.Proofs.YtdkammppnkhhoaaGreatDoor
