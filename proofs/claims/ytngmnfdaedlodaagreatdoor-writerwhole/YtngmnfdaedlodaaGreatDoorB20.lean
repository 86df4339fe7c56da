import Derived.Test.YtngmnfdaedlodaaGreatDoorB06
import Derived.Test.YtngmnfdaedlodaaGreatDoorB02
namespace Go.Proofs.YtngmnfdaedlodaaGreatDoor
open Except renaming error->I
open Go.Value renaming int->U,slice->R
open Go.IntKind renaming i64->Y
open Option renaming none->O,some->C
open Go renaming World->AU
variable{k:Nat}{w w':AU}{l r:L8}{u:AV}
section
structure Ent where
 at_:Int
 row:Int
 sch:Int
structure Idx where
 at_:Int
 frames:Int
 rows:Int
 entries:List Ent
structure Fr where
 kind:Int
 number:Int
 cols:List Col
 seq:Int
 first:Int
 rows:Int
 block:L8
 index:Idx
def jY:Idx:=⟨0,0,0,[]⟩
def Fr0:Fr:=⟨0,0,[],0,0,0,[],jY⟩
def Ent.tup(e:Ent):Int×Int×Int:=(e.at_,e.row,e.sch)
theorem Ent.tup_inj{a b:Ent}(h:a.tup=b.tup):a=b:=by
 cases a
 cases b
 simp only[Ent.tup,Prod.mk.injEq] at h;obtain⟨rfl,rfl,rfl⟩:=h;rfl
def Idx.same(a b:Idx):Bool:=decide (a.at_=b.at_∧a.frames=b.frames∧a.rows=b.rows∧a.entries.map Ent.tup=b.entries.map Ent.tup)
theorem eT:∀{a b:List Ent},a.map Ent.tup=b.map Ent.tup->a=b
 | [],[],_=>rfl
 | [],_::_,h=>by simp at h
 |_::_,[],h=>by simp at h
 |x::a,y::b,h=>by
  rw[List.map_cons,List.map_cons] at h;injection h with h1 h2;rw[Ent.tup_inj h1,eT h2]
theorem Idx.same_iff(a b:Idx):Idx.same a b=true↔a=b:=by
 unfold Idx.same;rw[decide_eq_true_iff];constructor
 ·rintro⟨o,y,A,D⟩;cases a
  cases b
  dsimp only at o y A D;subst o y A;rw[eT D]
 ·rintro rfl;exact⟨rfl,rfl,rfl,rfl⟩
namespace Fr
def i64(n:Int):Prop:=-9223372036854775808<=n∧n<=9223372036854775807
def wf(f:Fr):Prop:=i64 f.kind∧i64 f.number∧(∀c∈f.cols,c.wf)∧i64 f.seq∧i64 f.first∧i64 f.rows∧(i64 f.index.at_∧i64 f.index.frames∧i64 f.index.rows)∧∀e∈f.index.entries,i64 e.at_∧i64 e.row∧i64 e.sch
def within(b:Int)(n:Int):Bool:=decide (0<=n∧n<b)
def S:Int:=1099511627776
def N:Int:=2147483648
def entOk(e:Ent):Bool:=within S e.at_&&within S e.row&&within S e.sch
def idxErr(x:Idx):Nat:=if (within S x.at_&&within S x.frames&&within S x.rows)=false then 7 else if 64<x.entries.length then 3 else if x.entries.all entOk=false then 7 else 0
def err0(f:Fr):Nat :=
 if f.kind=1 then (if within N f.number=false then 7 else Sch.err f.cols)
 else if f.kind=2 then (if (within N f.number&&within S f.seq&&within S f.first&&decide (1<=f.rows∧f.rows<=64))=false then 7 else 0)
 else if f.kind=3 then idxErr f.index else 60
def nums(l:List Int):L8:=(l.map fun n=>Leb.put n.toNat).flatten
def entB(e:Ent):L8:=nums [e.at_,e.row,e.sch]
def fields(f:Fr):L8 :=
 if f.kind=1 then nums [f.number]++Sch.bytes f.cols
 else if f.kind=2 then nums [f.number,f.seq,f.first,f.rows]++f.block
 else nums [f.index.at_,f.index.frames,f.index.rows,(f.index.entries.length:Int)]++(f.index.entries.map entB).flatten
def head(f:Fr):L8:=UInt8.ofNat f.kind.toNat::fields f
def check(b:L8):L8:=b++Sch.le 4 (Crc.sum b)
def run(f:Fr):L8:=Cob.stuff (check (head f))
def err(f:Fr):Nat:=if err0 f≠0 then err0 f else if 2200<(run f).length then 2 else 0
def out(f:Fr):L8:=if err f=0 then 0::(run f++[0]) else []
def nb(lim:Nat)(l:L8):Except Nat (Nat×Nat):=match Sch.num l with
 |I _=>I 5
 |.ok (n,k)=>if n<lim then .ok (n,k) else I 5
def nbs:List Nat->L8->Except Nat (List Nat×Nat)
 | [],_=>.ok ([],0)
 |lim::r,l=>match nb lim l with
  |I e=>I e
  |.ok (n,k)=>match nbs r (l.drop k) with
   |I e=>I e
   |.ok (ns,j)=>.ok (n::ns,k+j)
def rdE:Nat->L8->Except Nat (List Ent×Nat)
 |0,_=>.ok ([],0)
 |m+1,l=>match nbs [1099511627776,1099511627776,1099511627776] l with
  |I e=>I e
  |.ok (ns,k)=>match rdE m (l.drop k) with
   |I e=>I e
   |.ok (es,j)=>.ok (⟨(ns.getD 0 0:Nat),(ns.getD 1 0:Nat),(ns.getD 2 0:Nat)⟩::es,k+j)
def rdS(l:L8):Except Nat Fr:=match nb 2147483648 l with
 |I e=>I e
 |.ok (n,k)=>match Sch.read (l.drop k) with
  |I e=>I e
  |.ok s=>.ok { Fr0 with kind:=1,number:=n,cols:=s }
def rdD(l:L8):Except Nat Fr:=match nbs [2147483648,1099511627776,1099511627776,65] l with
 |I e=>I e
 |.ok (ns,k)=>if (ns.getD 3 0:Nat)<1 then I 5 else .ok { Fr0 with kind:=2,number:=(ns.getD 0 0:Nat),seq:=(ns.getD 1 0:Nat),first:=(ns.getD 2 0:Nat),rows:=(ns.getD 3 0:Nat),block:=l.drop k }
def rdI(l:L8):Except Nat Fr:=match nbs [1099511627776,1099511627776,1099511627776,65] l with
 |I e=>I e
 |.ok (ns,k)=>match rdE ((ns.getD 3 0:Nat)) (l.drop k) with
  |I e=>I e
  |.ok (es,j)=>if k+j=l.length then .ok { Fr0 with kind:=3,index:=⟨(ns.getD 0 0:Nat),(ns.getD 1 0:Nat),(ns.getD 2 0:Nat),es⟩ } else I 5
def rdF(k:Nat)(l:L8):Except Nat Fr:=if k=1 then rdS l else if k=2 then rdD l else if k=3 then rdI l else I 60
def open_(r:L8):Except Nat L8 :=
 if 2200<r.length then I 2 else if (Cob.un r).1≠0 then I (Cob.un r).1
 else if (Cob.un r).2.length<5 then I 30
 else if (Cob.un r).2.drop ((Cob.un r).2.length-4)=Sch.le 4 (Crc.sum ((Cob.un r).2.take ((Cob.un r).2.length-4))) then .ok ((Cob.un r).2.take ((Cob.un r).2.length-4)) else I 120
def dec(r:L8):Except Nat Fr:=match open_ r with
 |I e=>I e
 |.ok b=>rdF (b.headD 0).toNat b.tail
def same(a b:Fr):Bool:=decide (a.kind=b.kind)&&(if a.kind=1 then decide (a.number=b.number)&&Sch.same a.cols b.cols
 else if a.kind=2 then decide (a.number=b.number∧a.seq=b.seq∧a.first=b.first∧a.rows=b.rows)&&(a.block==b.block)
 else if a.kind=3 then Idx.same a.index b.index else true)
theorem within_iff{b n:Int}:within b n=true↔0<=n∧n<b:=decide_eq_true_iff
theorem nums_nil:nums []=[]:=rfl
theorem nums_cons(n:Int)(l:List Int):nums (n::l)=Leb.put n.toNat++nums l:=rfl
theorem nb_put(o:Nat)(n:Int)(r:L8)(h:within o n=true)(y:o<=1099511627776):nb o (Leb.put n.toNat++r)=.ok (n.toNat,(Leb.put n.toNat).length):=by
 rw[within_iff] at h;unfold nb;rw[Sch.num_put _ _ (by omega)];exact AG (by omega)
theorem nb_ok{o:Nat}{n:Nat}(h:nb o l=.ok (n,k)):n<o∧∃r,l=Leb.put n++r∧k=(Leb.put n).length:=by
 unfold nb at h;split at h
 ·cases h
 ·next n' k' hn=>
  split at h
  ·next hlt=>
   injection h with h;injection h with h1 h2;subst h1 h2;exact⟨hlt,(Sch.num_ok hn).2⟩
  ·cases h
theorem nbs_put:∀(o:List Nat) (l:List Int) (r:L8),o.length=l.length->(∀x∈o,x<=1099511627776)->(∀j (y:j<o.length) (A:j<l.length),within o[j] l[j]=true) ->
  nbs o (nums l++r)=.ok (l.map Int.toNat,(nums l).length)
 | [],[],r,_,_,_=>rfl
 | [],_::_,r,h,_,_=>by simp at h
 |_::_,[],r,h,_,_=>by simp at h
 |lim::o,n::l,r,h,hl,hw=>by
  have D:=hw 0 (by simp) (by simp);have J:=nbs_put o l r (by simpa using h) (fun x E=>hl x (List.mem_cons_of_mem _ E)) (fun j y A=>by have:=hw (j+1) (by simpa using y) (by simpa using A);simpa using this);rw[nums_cons,AN,nbs,nb_put lim n _ D (hl lim (by simp))];dsimp only;rw[List.drop_left,J];simp
theorem nbs_ok:∀(D:List Nat) (l:L8) (y:List Nat) (k:Nat),nbs D l=.ok (y,k)->y.length=D.length∧(∀j (o:j<D.length) (A:j<y.length),y[j]<D[j])∧∃r,l=nums (y.map Int.ofNat)++r∧k=(nums (y.map Int.ofNat)).length
 | [],l,y,k,h=>by
  rw[nbs] at h;injection h with h;injection h with o A;subst o A;exact⟨rfl,fun j o=>by simp at o,l,rfl,rfl⟩
 |lim::D,l,y,k,h=>by
  rw[nbs] at h;split at h
  ·cases h
  ·next n k0 hn=>
   split at h
   ·cases h
   ·next ns' j hns=>
    injection h with h;injection h with o A;obtain⟨M,X,E,J⟩:=nb_ok hn;obtain⟨Q,S,L,K,V⟩:=nbs_ok D _ _ _ hns;subst o A;refine⟨by simp[Q],fun i o A=>?_,L,?_,?_⟩
    ·cases i with
     |zero=>exact M
     |succ i=>have:=S i (by simpa using o) (by simpa using A);simpa using this
    ·rw[E,J,List.drop_left] at K;rw[E,K];show _=Leb.put n++nums _++L;rw[AN]
    ·rw[J,V];show _=(Leb.put n++nums _).length;rw[AH]
theorem rdE_put:∀(es:List Ent) (r:L8),es.all entOk=true->rdE es.length ((es.map entB).flatten++r)=.ok (es,(es.map entB).flatten.length)
 | [],r,_=>rfl
 |e::es,r,h=>by
  rw[List.all_cons,Bool.and_eq_true] at h;obtain⟨o,L⟩:=h;unfold entOk at o;simp only[Bool.and_eq_true] at o;obtain⟨⟨o,D⟩,E⟩:=o;have M:=rdE_put es r L;have J:nbs [1099511627776,1099511627776,1099511627776] (entB e++((es.map entB).flatten++r))=.ok ([e.at_.toNat,e.row.toNat,e.sch.toNat],(entB e).length):=by
   refine nbs_put [1099511627776,1099511627776,1099511627776] [e.at_,e.row,e.sch] _ rfl (by simp) (fun j y A=>?_);match j with
   |0=>exact o
   |1=>exact D
   |2=>exact E
   |j+3=>simp at y;omega
  rw[List.map_cons,List.flatten_cons,AN,AI,rdE,J];dsimp only;rw[List.drop_left,M];rw[within_iff] at o D E;have y:((e.at_.toNat:Nat):Int)=e.at_:=by omega
  have A:((e.row.toNat:Nat):Int)=e.row:=by omega
  have K:((e.sch.toNat:Nat):Int)=e.sch:=by omega
  simp[y,A,K]
theorem rdE_ok:∀(m:Nat) (l:L8) (es:List Ent) (k:Nat),rdE m l=.ok (es,k)->es.length=m∧es.all entOk=true∧∃r,l=(es.map entB).flatten++r∧k=(es.map entB).flatten.length
 |0,l,es,k,h=>by
  rw[rdE] at h;injection h with h;injection h with h1 h2;subst h1 h2;exact⟨rfl,rfl,l,rfl,rfl⟩
 |m+1,l,es,k,h=>by
  rw[rdE] at h;split at h
  ·cases h
  ·next ns k0 hn=>
   split at h
   ·cases h
   ·next es' j hes=>
    injection h with h;injection h with h1 h2;obtain⟨K,y,V,A,D⟩:=nbs_ok _ _ _ _ hn;obtain⟨L,M,J,E,Q⟩:=rdE_ok m _ _ _ hes;obtain⟨x,o,z,rfl⟩:∃x o z,ns=[x,o,z]:=by
     match ns,K with
     | [x,o,z],_=>exact⟨x,o,z,rfl⟩
    have c1:=y 0 (by simp) (by simp);have c2:=y 1 (by simp) (by simp);have c3:=y 2 (by simp) (by simp);simp at c1 c2 c3;subst h1 h2;refine⟨by simp[L],?_,J,?_,?_⟩
    ·rw[List.all_cons,M,Bool.and_true];unfold entOk;simp only[Bool.and_eq_true,within_iff,S];simp;omega
    ·rw[A,D,List.drop_left] at E;rw[A,E];show nums [(x:Int),o,z]++_=(nums [(x:Int),o,z]++_)++J;rw[AN]
    ·rw[D,Q];show _=(nums [(x:Int),o,z]++_).length;rw[AH];rfl
theorem head_fields{f:Fr}(h:err0 f=0):f.kind=1∨f.kind=2∨f.kind=3:=by
 unfold err0 at h;by_cases o:f.kind=1
 ·exact .inl o
 ·by_cases y:f.kind=2
  ·exact .inr (.inl y)
  ·by_cases A:f.kind=3
   ·exact .inr (.inr A)
   ·rw[AF o,AF y,AF A] at h;omega
def norm(f:Fr):Fr :=
 if f.kind=1 then { Fr0 with kind:=1,number:=f.number,cols:=f.cols.map Col.fix }
 else if f.kind=2 then { Fr0 with kind:=2,number:=f.number,seq:=f.seq,first:=f.first,rows:=f.rows,block:=f.block }
 else { Fr0 with kind:=3,index:=f.index }
theorem rdF_put{f:Fr}(h:err0 f=0)(X:∀c∈f.cols,c.wf):rdF f.kind.toNat (fields f)=.ok (norm f):=by
 have o:=head_fields h;unfold err0 at h;rcases o with o | o | o
 ·rw[AG o] at h;have y:within N f.number=true:=by
   cases hq:within N f.number with
   |true=>rfl
   |false=>rw[hq] at h;simp at h
  rw[y,AF (by simp)] at h;unfold rdF fields norm;rw[o,AG (by decide),AG rfl,AG rfl];unfold rdS;rw[nums_cons,nums_nil,Az,nb_put 2147483648 _ _ y (by omega)];dsimp only;rw[List.drop_left,Sch.read_put h X];rw[within_iff] at y;dsimp only;rw[show((f.number.toNat:Nat):Int)=f.number by omega]
 ·rw[AF (by omega),AG o] at h;have y:(within N f.number&&within S f.seq&&within S f.first&&decide (1<=f.rows∧f.rows<=64))=true:=by
   cases hq:(within N f.number&&within S f.seq&&within S f.first&&decide (1<=f.rows∧f.rows<=64)) with
   |true=>rfl
   |false=>rw[hq] at h;simp at h
  simp only[Bool.and_eq_true,decide_eq_true_eq] at y;obtain⟨⟨⟨A,D⟩,E⟩,Z,ab⟩:=y;have J:nbs [2147483648,1099511627776,1099511627776,65] (nums [f.number,f.seq,f.first,f.rows]++f.block)=.ok ([f.number.toNat,f.seq.toNat,f.first.toNat,f.rows.toNat],(nums [f.number,f.seq,f.first,f.rows]).length):=by
   refine nbs_put _ [f.number,f.seq,f.first,f.rows] _ rfl (by simp) (fun j K Q=>?_);match j with
   |0=>exact A
   |1=>exact D
   |2=>exact E
   |3=>exact within_iff.2 ⟨by show(0:Int)<=f.rows;omega,by show f.rows<65;omega⟩
   |j+4=>simp at K;omega
  unfold rdF fields norm;rw[o,AF (by decide),AG (by decide),AF (by decide),AG rfl,AF (by decide),AG rfl];unfold rdD;rw[J];dsimp only;rw[AF (by simp;omega),List.drop_left];rw[within_iff] at A D E;simp only[List.getD_cons_zero,List.getD_cons_succ];rw[show((f.number.toNat:Nat):Int)=f.number by omega,show((f.seq.toNat:Nat):Int)=f.seq by omega,show((f.first.toNat:Nat):Int)=f.first by omega,show((f.rows.toNat:Nat):Int)=f.rows by omega]
 ·rw[AF (by omega),AF (by omega),AG o] at h;unfold idxErr at h;have y:(within S f.index.at_&&within S f.index.frames&&within S f.index.rows)=true:=by
   cases hq:(within S f.index.at_&&within S f.index.frames&&within S f.index.rows) with
   |true=>rfl
   |false=>rw[hq] at h;simp at h
  rw[y,AF (by simp)] at h;simp only[Bool.and_eq_true] at y;obtain⟨⟨A,D⟩,E⟩:=y;by_cases M:64<f.index.entries.length
  ·rw[AG M] at h;omega
  rw[AF M] at h;have V:f.index.entries.all entOk=true:=by
   cases hq:f.index.entries.all entOk with
   |true=>rfl
   |false=>rw[hq] at h;simp at h
  have J:nbs [1099511627776,1099511627776,1099511627776,65] (nums [f.index.at_,f.index.frames,f.index.rows,(f.index.entries.length:Int)]++(f.index.entries.map entB).flatten)=.ok ([f.index.at_.toNat,f.index.frames.toNat,f.index.rows.toNat,f.index.entries.length],(nums [f.index.at_,f.index.frames,f.index.rows,(f.index.entries.length:Int)]).length):=by
   refine nbs_put _ [f.index.at_,f.index.frames,f.index.rows,(f.index.entries.length:Int)] _ rfl (by simp) (fun j K Q=>?_);match j with
   |0=>exact A
   |1=>exact D
   |2=>exact E
   |3=>exact within_iff.2 ⟨by show(0:Int)<=(f.index.entries.length:Int);omega,by show(f.index.entries.length:Int)<65;omega⟩
   |j+4=>simp at K;omega
  have L:=rdE_put f.index.entries [] V;rw[Az] at L;unfold rdF fields norm;rw[o,AF (by decide),AF (by decide),AG (by decide),AF (by decide),AF (by decide),AF (by decide),AF (by decide)];unfold rdI;rw[J];dsimp only;rw[List.drop_left];simp only[List.getD_cons_zero,List.getD_cons_succ];rw[L];dsimp only;rw[AG (by rw[AH])];rw[within_iff] at A D E;rw[show((f.index.at_.toNat:Nat):Int)=f.index.at_ by omega,show((f.index.frames.toNat:Nat):Int)=f.index.frames by omega,show((f.index.rows.toNat:Nat):Int)=f.index.rows by omega]
end Fr
end
section
namespace Fr
theorem sameS_refl(s:List Col):Sch.same s s=true:=(Sch.same_fix s s).2 rfl
theorem le_len(n:Nat):(Sch.le 4 n).length=4:=Sch.le_len 4 n
theorem check_length(b:L8):(check b).length=b.length+4:=by unfold check;rw[AH,le_len]
theorem check_take(b:L8):(check b).take ((check b).length-4)=b:=by
 rw[check_length,Nat.add_sub_cancel,check,List.take_left]
theorem check_drop(b:L8):(check b).drop ((check b).length-4)=Sch.le 4 (Crc.sum b):=by
 rw[check_length,Nat.add_sub_cancel,check,List.drop_left]
theorem err_open{f:Fr}(h:err f=0):err0 f=0∧(run f).length<=2200:=by
 unfold err at h;by_cases o:err0 f=0
 ·rw[AF (by omega)] at h;by_cases y:2200<(run f).length
  ·rw[AG y] at h;omega
  ·exact⟨o,by omega⟩
 ·rw[AG o] at h;exact absurd h o
theorem open_run{f:Fr}(h:(run f).length<=2200):open_ (run f)=.ok (head f):=by
 unfold open_;rw[AF (by omega)];unfold run;rw[Cob.un_stuff];dsimp only;rw[AF (by decide),AF (by rw[check_length];unfold head;simp),check_take,check_drop,AG rfl]
theorem kind_head{f:Fr}(h:err0 f=0):(UInt8.ofNat f.kind.toNat).toNat=f.kind.toNat:=by
 rcases head_fields h with o | o | o <;> rw[o] <;> rfl
theorem dec_run{f:Fr}(h:err f=0)(A:∀c∈f.cols,c.wf):dec (run f)=.ok (norm f):=by
 obtain⟨o,y⟩:=err_open h;unfold dec;rw[open_run y];dsimp only;unfold head;rw[List.headD_cons,List.tail_cons,kind_head o,rdF_put o A]
theorem run_ge{f:Fr}:6<=(run f).length:=by
 have:=(Cob.stuff_length (check (head f))).1;rw[check_length] at this;unfold run;have:1<=(head f).length:=by unfold head;simp
 omega
theorem run_nz(f:Fr):∀c∈run f,c≠0:=Cob.stuff_nz _
theorem nums_one(n:Nat):nums [(n:Int)]=Leb.put n:=by
 rw[nums_cons,nums_nil,Az];rfl
theorem rdF_ok{f:Fr}(h:rdF k l=.ok f):f.kind=k∧(k=1∨k=2∨k=3)∧err0 f=0∧fields f=l∧norm f=f∧f.wf:=by
 unfold rdF at h;by_cases Q:k=1
 ·rw[AG Q] at h;subst Q;unfold rdS at h;split at h
  ·cases h
  ·next n j hn=>
   split at h
   ·cases h
   ·next s hs=>
    injection h with h;subst h;obtain⟨J,r,y,D⟩:=nb_ok hn;obtain⟨E,K,A⟩:=Sch.read_ok hs;have aj:s.map Col.fix=s:=by
     have:s.map Col.fix=s.map id:=List.map_congr_left fun c Z=>(A c Z).1;rw[this,List.map_id]
    refine⟨rfl,.inl rfl,?_,?_,?_,?_⟩
    ·unfold err0;simp only[if_true];rw[AF (by rw[Bool.not_eq_false,within_iff];simp only[N];omega)];exact E
    ·unfold fields;simp only[if_true];rw[nums_one,K,y,D,List.drop_left]
    ·unfold norm;simp only[if_true];rw[aj]
    ·refine⟨by unfold i64;simp,by unfold i64;simp;omega,fun c Z=>(A c Z).2,?_⟩;simp[Fr0,jY,i64]
 ·rw[AF Q] at h;by_cases V:k=2
  ·rw[AG V] at h;subst V;unfold rdD at h;split at h
   ·cases h
   ·next ns j hn=>
    obtain⟨J,y,r,D,M⟩:=nbs_ok _ _ _ _ hn;obtain⟨x,o,z,t,rfl⟩:∃x o z t,ns=[x,o,z,t]:=by
     match ns,J with
     | [x,o,z,t],_=>exact⟨x,o,z,t,rfl⟩
    have c1:=y 0 (by simp) (by simp);have c2:=y 1 (by simp) (by simp);have c3:=y 2 (by simp) (by simp);have c4:=y 3 (by simp) (by simp);simp at c1 c2 c3 c4;split at h
    ·cases h
    ·next h0=>
     simp at h0;injection h with h;subst h;refine⟨rfl,.inr (.inl rfl),?_,?_,?_,?_⟩
     ·unfold err0;dsimp only;rw[AF (by decide),AG rfl,AF];rw[Bool.not_eq_false];simp only[Bool.and_eq_true,within_iff,N,S,decide_eq_true_eq];simp;omega
     ·unfold fields;dsimp only;rw[AF (by decide),AG rfl];have e:nums [((x:Nat):Int),(o:Int),(z:Int),(t:Int)]++r=l:=D.symm;have L:j=(nums [((x:Nat):Int),(o:Int),(z:Int),(t:Int)]).length:=M;simp only[List.getD_cons_zero,List.getD_cons_succ];rw[L,<-e,List.drop_left]
     ·unfold norm;simp
     ·simp[wf,Fr0,jY,i64];omega
  ·rw[AF V] at h;by_cases X:k=3
   ·rw[AG X] at h;subst X;unfold rdI at h;split at h
    ·cases h
    ·next ns j hn=>
     obtain⟨J,y,r,D,M⟩:=nbs_ok _ _ _ _ hn;obtain⟨x,o,z,t,rfl⟩:∃x o z t,ns=[x,o,z,t]:=by
      match ns,J with
      | [x,o,z,t],_=>exact⟨x,o,z,t,rfl⟩
     have c1:=y 0 (by simp) (by simp);have c2:=y 1 (by simp) (by simp);have c3:=y 2 (by simp) (by simp);have c4:=y 3 (by simp) (by simp);simp at c1 c2 c3 c4;split at h
     ·cases h
     ·next es j2 ab=>
      obtain⟨E,K,aw,A,ah⟩:=rdE_ok _ _ _ _ ab;split at h
      ·next hl=>
       injection h with h;subst h
       replace E:es.length=t:=E
       have e:l=nums [((x:Nat):Int),(o:Int),(z:Int),(t:Int)]++r:=D;have L:j=(nums [((x:Nat):Int),(o:Int),(z:Int),(t:Int)]).length:=M;rw[e,L,List.drop_left] at A;have ak:aw=[]:=by
        rw[e,A,ah,L] at hl;simp only[AH] at hl;exact List.eq_nil_of_length_eq_zero (by omega)
       refine⟨rfl,.inr (.inr rfl),?_,?_,?_,?_⟩
       ·unfold err0 idxErr;dsimp only;rw[AF (by decide),AF (by decide),AG rfl,AF,AF (by omega),AF (by rw[K];decide)];rw[Bool.not_eq_false];simp only[Bool.and_eq_true,within_iff,S];simp;omega
       ·unfold fields;dsimp only;rw[AF (by decide),AF (by decide)];simp only[List.getD_cons_zero,List.getD_cons_succ];rw[E,e,A,ak,Az]
       ·unfold norm;simp
       ·have ai:∀e∈es,i64 e.at_∧i64 e.row∧i64 e.sch:=fun e ab=>by
         have:=List.all_eq_true.1 K e ab;unfold entOk at this;simp only[Bool.and_eq_true,within_iff,S] at this;unfold i64;omega
        refine⟨by unfold i64;simp,by simp[Fr0,i64],by simp[Fr0],by simp[Fr0,i64],by simp[Fr0,i64],by simp[Fr0,i64],by simp[i64];omega,ai⟩
      ·cases h
   ·rw[AF X] at h;cases h
theorem open_ok{b:L8}(h:open_ r=.ok b):r.length<=2200∧Cob.stuff (check b)=r∧1<=b.length:=by
 unfold open_ at h;split at h
 ·cases h
 ·next h1=>
  split at h
  ·cases h
  ·next h2=>
   split at h
   ·cases h
   ·next h3=>
    split at h
    ·next h4=>
     injection h with h;have e:=Cob.un_ok (s:=r) (by simpa using h2);refine⟨by omega,?_,?_⟩
     ·unfold check;rw[<-h,<-h4,List.take_append_drop,e]
     ·rw[<-h,AM];omega
    ·cases h
theorem dec_ok{f:Fr}(h:dec r=.ok f):err f=0∧run f=r∧norm f=f∧f.wf∧(f.kind=1∨f.kind=2∨f.kind=3):=by
 unfold dec at h;split at h
 ·cases h
 ·next b hb=>
  obtain⟨K,y,A⟩:=open_ok hb;obtain⟨c1,c2,c3,c4,D,E⟩:=rdF_ok h;obtain⟨x,t,rfl⟩:∃x t,b=x::t:=by
   cases b with
   |nil=>simp at A
   |cons x t=>exact⟨x,t,rfl⟩
  rw[List.headD_cons] at c1 c2;rw[List.tail_cons] at c4;have J:head f=x::t:=by
   unfold head;rw[c4,c1];simp
  have o:run f=r:=by unfold run;rw[J,y]
  refine⟨?_,o,D,E,by omega⟩;unfold err;rw[AF (by omega),AF (by rw[o];omega)]
end Fr
end
section
open Go.RowKit
def At3(w:AU)(b o:Nat)(e:Ent):Prop:=w.cell? ⟨b,o,O⟩=C (U Y e.at_)∧w.cell? ⟨b,o+1,O⟩=C (U Y e.row)∧w.cell? ⟨b,o+2,O⟩=C (U Y e.sch)
theorem At3.on{b o:Nat}{e:Ent}(h:At3 w b o e)(hb:Below w.1.size w w'):At3 w' b o e:=⟨ae hb h.1,ae hb h.2.1,ae hb h.2.2⟩
def iV(w:AU)(p:OA)(es:List Ent):Prop:=∀j (h:j<es.length),∃b o,p=C ⟨b,o,O⟩∧b<w.1.size∧At3 w b (o+j*3) es[j]
theorem iV.on{p:OA}{es:List Ent}(h:iV w p es)(hb:Below w.1.size w w'):iV w' p es:=fun j D=>by
 obtain⟨b,E,o,y,A⟩:=h j D;exact⟨b,E,o,AS y hb.size,A.on hb⟩
theorem jD(w:AU)(p:OA):iV w p []:=fun j o=>by simp at o
def aF(k n:Int)(sp:OA)(sn sc:Nat)(q f r:Int)(bp:OA)(bn bc:Nat)(ia ib ic:Int)(ep:OA)(en ec:Nat):AV:=#[U Y k,U Y n,R sp sn sc,U Y q,U Y f,U Y r,R bp bn bc,U Y ia,U Y ib,U Y ic,R ep en ec]
structure cm(w:AU)(u:AV)(f:Fr):Prop where
 out:∃sp sc bp bc ep ec,u=aF f.kind f.number sp f.cols.length sc f.seq f.first f.rows bp f.block.length bc f.index.at_ f.index.frames f.index.rows ep f.index.entries.length ec∧f.cols.length*120<=140737488351232∧f.cols.length<=sc∧cU w sp f.cols∧f.block.length<=140737488351232∧f.block.length<=bc∧At w bp f.block∧f.index.entries.length*24<=140737488351232∧f.index.entries.length<=ec∧iV w ep f.index.entries
theorem cm.on{f:Fr}(h:cm w u f)(hb:Below w.1.size w w'):cm w' u f:=by
 obtain⟨sp,ab,y,o,D,A,E,J,K,L,M,Q,S,V,X,Z⟩:=h.out;exact⟨sp,ab,y,o,D,A,E,J,K,L.on hb,M,Q,S.on hb,V,X,Z.on hb⟩
end
section
open Go.RowKit
def kh(e:Ent):List Value:=[U Y e.at_,U Y e.row,U Y e.sch]
def aU(es:List Ent):List Value:=(es.map kh).flatten
theorem eE:∀es:List Ent,(aU es).length=es.length*3
 | []=>rfl
 |e::es=>by
  show(kh e++aU es).length=_;rw[AH,eE es,AI];show 3+_=_;omega
theorem eK(a b:List Ent):aU (a++b)=aU a++aU b:=by
 unfold aU;rw[List.map_append,List.flatten_append]
theorem eF:∀(es:List Ent) (j:Nat) (h:j<es.length) (m:Nat),m<3->(aU es)[j*3+m]?=(kh es[j])[m]?
 | [],j,h,_,_=>by simp at h
 |e::es,0,h,m,hm=>by
  show(kh e++aU es)[0*3+m]?=_;rw[Nat.zero_mul,Nat.zero_add,List.getElem?_append_left (by exact hm)];rfl
 |e::es,j+1,h,m,hm=>by
  show(kh e++aU es)[(j+1)*3+m]?=_;have o:(kh e).length=3:=rfl;rw[List.getElem?_append_right (by rw[o];omega),o,show(j+1)*3+m-3=j*3+m by omega,eF es j (by simpa using h) m hm];rfl
def bL(w:AU)(B:Nat)(v:Value)(es:List Ent):Prop:=w.ownsRow B 139 3 v es.length (aU es)
theorem fg(w:AU)(B:Nat):bL w B (R O 0 0) []:=⟨rfl,.inl ⟨rfl,rfl⟩⟩
section
variable {w w':AU} {B:Nat} {v:Value} {es:List Ent}
theorem bL.lt(h:bL w B v es):∀k,v.ownBlock=C k->B<=k∧k<w.1.size:=World.ownsRow.lt h
theorem bL.aside{F:Nat->Prop}(h:bL w B v es)(J:Aside F w w')(K:∀k,v.ownBlock=C k->¬F k):bL w' B v es:=by
 refine⟨h.1,?_⟩;rcases h.2 with A | ⟨g,cap,y,rfl,D,o,E⟩
 ·exact .inl A
 ·refine .inr ⟨g,cap,y,rfl,D,?_,E⟩;rw[J.block g (Array.getElem?_eq_some_iff.1 o).1 (K g rfl)];exact o
theorem bL.low{B':Nat}(h:bL w B v es)(E:B'<=B):bL w B' v es:=by
 refine⟨h.1,?_⟩;rcases h.2 with y | ⟨g,cap,o,rfl,D,A⟩
 ·exact .inl y
 ·exact .inr ⟨g,cap,o,rfl,by omega,A⟩
theorem bL.on(h:bL w B v es)(hb:Below w.1.size w w'):bL w' B v es:=h.aside (af hb (fun _=>False)) (fun _ _ o=>o)
theorem bL.ents(h:bL w B v es):∃p c,v=R p es.length c∧es.length<=c∧iV w p es∧(p=O∨∃g,p=C ⟨g,0,O⟩):=by
 rcases h.2 with ⟨rfl,A⟩ | ⟨g,cap,Q,rfl,S,y,E,V,X,J⟩
 ·have D:=List.eq_nil_of_length_eq_zero A;subst D;exact⟨O,0,rfl,gQx,jD _ _,.inl rfl⟩
 ·refine⟨_,cap,rfl,E,fun j L=>?_,.inr ⟨g,rfl⟩⟩;have K:=(Array.getElem?_eq_some_iff.1 y).1;have o:∀m,m<3->w.cell? ⟨g,0+j*3+m,O⟩=(kh es[j])[m]?:=fun m M=>by
   rw[Nat.zero_add,<-eF es j L m M,<-J,List.getElem?_take_of_lt (by omega)];simp[World.cell?,y]
  exact⟨g,0,rfl,K,o 0 (by omega),o 1 (by omega),o 2 (by omega)⟩
end
def sO:Value:=.agg #[U Y 0,U Y 0,U Y 0]
theorem xE:(Tryz.prog.info? 139).map (fun i=>(i.zero,i.size,i.bytes))=C (C sO,3,24):=by kernel_rfl
section
variable {B:Nat} {v:Value} {es:List Ent} {w:AU} {e:Ent} {ad H:Nat}
theorem Ae(e:Ent):∀a∈(#[U Y e.at_,U Y e.row,U Y e.sch]:AV).toList,a.oneCell'=true:=by
 intro a o;simp at o;rcases o with rfl | rfl | rfl <;> rfl
theorem so{g cap:Nat}(h:w'.ownsRow B 139 3 (R (C ⟨g,0,O⟩) (es.length+1) cap) (es.length+1) (aU es++(#[U Y e.at_,U Y e.row,U Y e.sch]:AV).toList)):bL w' B (R (C ⟨g,0,O⟩) (es.length+1) cap) (es++[e]):=by
 unfold bL;rw[eK,AH,AO];simpa[aU,kh] using h
theorem jk(aj:bL w B v es)(e:Ent)(V:w.1[ad]?=C (.cells #[U Y e.at_,U Y e.row,U Y e.sch] 139 (0,0)))(ah:(es.length+1)*24<=140737488355328)(M:B<=w.1.size)(Q:w.1.size=H){a2:Array Oper}{o:Oper}{a:Act}{A:Act->AU->Prop}{E:Exit->Act->AU->Prop}{D:Prop}(y x:Operand)(Z:o.guard=O)(ai:o.op=Op.call { callee:=Callee.builtin Builtin.append,args:=#[y,x],argTypes:=#[48,48] })(ak:a.eval y=v)(a0:a.eval x=R (C ⟨ad,0,O⟩) 1 1)(S:∀g cap w',bL w' B (R (C ⟨g,0,O⟩) (es.length+1) cap) (es++[e])->w.grownBy w' v.ownBlock->(v.ownBlock=C g∨g=H)->A (a.put o.dst (R (C ⟨g,0,O⟩) (es.length+1) cap)) w'):
  if Region.wanted o (yielded a2 a.tmps)=true then Oper.wp Tryz.prog o a w A E else D:=by
 obtain⟨i,ab,a1,aw,X⟩:=info_parts xE
 exact step_append_lies w Z y x 48 ai B 139 i sO 3 24 Tryz.underlying48 ab a1 aw X rfl (by decide) v es.length (aU es) ak aj ⟨ad,0,O⟩ 1 1 _ a0 (by simp)
  (World.news_of_block V) (Ae e) (by decide) (by unfold maxLen;omega) ah M H Q fun g cap w' J K L _=>S g cap w' (so J) K L
end
structure eI(w:AU)(B:Nat)(u:AV)(f:Fr):Prop where
 out:∃sp sc bp bc ep ec,u=aF f.kind f.number sp f.cols.length sc f.seq f.first f.rows bp f.block.length bc f.index.at_ f.index.frames f.index.rows ep f.index.entries.length ec∧dt w B #[R sp f.cols.length sc] f.cols∧Has w B (R bp f.block.length bc) f.block∧f.block.length<=2200∧bL w B (R ep f.index.entries.length ec) f.index.entries∧f.index.entries.length<=64
theorem mD(w:AU)(B:Nat):dt w B #[R O 0 0] []:=⟨_,_,_,rfl,jO w B,by simp⟩
theorem eI.lies{B:Nat}{f:Fr}(h:eI w B u f):cm w u f:=by
 obtain⟨sp,ak,A,y,Z,X,ab,ah,ai,aw,aj,a0⟩:=h.out;obtain⟨p,c,o,K,L,M⟩:=ah.lies.out;simp only[Array.mk.injEq,List.cons.injEq,and_true] at o;injection o with e5 _ e6;subst e5 e6;obtain⟨p2,c2,Q,S,V⟩:=ai.at;injection Q with e10 _ e11;subst e10 e11;obtain⟨p3,c3,D,E,J,-⟩:=aj.ents;injection D with e15 _ e16;subst e15 e16;exact⟨sp,ak,A,y,Z,X,ab,K,L,M,by omega,V,S,by omega,E,J⟩
end
end Go.Proofs.YtngmnfdaedlodaaGreatDoor
