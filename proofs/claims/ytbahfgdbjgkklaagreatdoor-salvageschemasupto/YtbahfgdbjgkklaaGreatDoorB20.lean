import Derived.Test.YtbahfgdbjgkklaaGreatDoorB06
import Derived.Test.YtbahfgdbjgkklaaGreatDoorB02
namespace Go.Proofs.YtbahfgdbjgkklaaGreatDoor
variable{k:Nat}{w w':World}{l r:L8}{u:AV}
section
structure Ent where
 at_:Int
 row:Int
 sch:Int
structure Idx where
 at_:Int
 frames:Int
 rows:Int
 entries:List Ent
structure Fr where
 kind:Int
 number:Int
 cols:List Col
 seq:Int
 first:Int
 rows:Int
 block:L8
 index:Idx
def mX:Idx:=⟨0,0,0,[]⟩
def Fr0:Fr:=⟨0,0,[],0,0,0,[],mX⟩
def Ent.tup(e:Ent):Int×Int×Int:=(e.at_,e.row,e.sch)
theorem Ent.tup_inj{a b:Ent}(h:a.tup=b.tup):a=b:=by
 cases a
 cases b
 simp only[Ent.tup,Prod.mk.injEq] at h;obtain⟨rfl,rfl,rfl⟩:=h;rfl
def Idx.same(a b:Idx):Bool:=decide (a.at_=b.at_∧a.frames=b.frames∧a.rows=b.rows∧a.entries.map Ent.tup=b.entries.map Ent.tup)
theorem iP:∀{a b:List Ent},a.map Ent.tup=b.map Ent.tup->a=b
 | [],[],_=>rfl
 | [],_::_,h=>by simp at h
 |_::_,[],h=>by simp at h
 |x::a,y::b,h=>by
  rw[List.map_cons,List.map_cons] at h;injection h with h1 h2;rw[Ent.tup_inj h1,iP h2]
theorem Idx.same_iff(a b:Idx):Idx.same a b=true↔a=b:=by
 unfold Idx.same;rw[decide_eq_true_iff];constructor
 ·rintro⟨o,y,z,D⟩;cases a
  cases b
  dsimp only at o y z D;subst o y z;rw[iP D]
 ·rintro rfl;exact⟨rfl,rfl,rfl,rfl⟩
namespace Fr
def i64(n:Int):Prop:=-9223372036854775808<=n∧n<=9223372036854775807
def wf(f:Fr):Prop:=i64 f.kind∧i64 f.number∧(∀c∈f.cols,c.wf)∧i64 f.seq∧i64 f.first∧i64 f.rows∧(i64 f.index.at_∧i64 f.index.frames∧i64 f.index.rows)∧∀e∈f.index.entries,i64 e.at_∧i64 e.row∧i64 e.sch
def within(b:Int)(n:Int):Bool:=decide (0<=n∧n<b)
def S:Int:=1099511627776
def N:Int:=2147483648
def entOk(e:Ent):Bool:=within S e.at_&&within S e.row&&within S e.sch
def idxErr(x:Idx):Nat:=if (within S x.at_&&within S x.frames&&within S x.rows)=false then 7 else if 64<x.entries.length then 3 else if x.entries.all entOk=false then 7 else 0
def err0(f:Fr):Nat :=
 if f.kind=1 then (if within N f.number=false then 7 else Sch.err f.cols)
 else if f.kind=2 then (if (within N f.number&&within S f.seq&&within S f.first&&decide (1<=f.rows∧f.rows<=64))=false then 7 else 0)
 else if f.kind=3 then idxErr f.index else 60
def nums(l:List Int):L8:=(l.map fun n=>Leb.put n.toNat).flatten
def entB(e:Ent):L8:=nums [e.at_,e.row,e.sch]
def fields(f:Fr):L8 :=
 if f.kind=1 then nums [f.number]++Sch.bytes f.cols
 else if f.kind=2 then nums [f.number,f.seq,f.first,f.rows]++f.block
 else nums [f.index.at_,f.index.frames,f.index.rows,(f.index.entries.length:Int)]++(f.index.entries.map entB).flatten
def head(f:Fr):L8:=UInt8.ofNat f.kind.toNat::fields f
def check(b:L8):L8:=b++Sch.le 4 (Crc.sum b)
def run(f:Fr):L8:=Cob.stuff (check (head f))
def err(f:Fr):Nat:=if err0 f≠0 then err0 f else if 2200<(run f).length then 2 else 0
def out(f:Fr):L8:=if err f=0 then 0::(run f++[0]) else []
def nb(lim:Nat)(l:L8):Except Nat (Nat×Nat):=match Sch.num l with
 |.error _=>.error 5
 |.ok (n,k)=>if n<lim then .ok (n,k) else .error 5
def nbs:List Nat->L8->Except Nat (List Nat×Nat)
 | [],_=>.ok ([],0)
 |lim::r,l=>match nb lim l with
  |.error e=>.error e
  |.ok (n,k)=>match nbs r (l.drop k) with
   |.error e=>.error e
   |.ok (ns,j)=>.ok (n::ns,k+j)
def rdE:Nat->L8->Except Nat (List Ent×Nat)
 |0,_=>.ok ([],0)
 |m+1,l=>match nbs [1099511627776,1099511627776,1099511627776] l with
  |.error e=>.error e
  |.ok (ns,k)=>match rdE m (l.drop k) with
   |.error e=>.error e
   |.ok (es,j)=>.ok (⟨(ns.getD 0 0:Nat),(ns.getD 1 0:Nat),(ns.getD 2 0:Nat)⟩::es,k+j)
def rdS(l:L8):Except Nat Fr:=match nb 2147483648 l with
 |.error e=>.error e
 |.ok (n,k)=>match Sch.read (l.drop k) with
  |.error e=>.error e
  |.ok s=>.ok { Fr0 with kind:=1,number:=n,cols:=s }
def rdD(l:L8):Except Nat Fr:=match nbs [2147483648,1099511627776,1099511627776,65] l with
 |.error e=>.error e
 |.ok (ns,k)=>if (ns.getD 3 0:Nat)<1 then .error 5 else .ok { Fr0 with kind:=2,number:=(ns.getD 0 0:Nat),seq:=(ns.getD 1 0:Nat),first:=(ns.getD 2 0:Nat),rows:=(ns.getD 3 0:Nat),block:=l.drop k }
def rdI(l:L8):Except Nat Fr:=match nbs [1099511627776,1099511627776,1099511627776,65] l with
 |.error e=>.error e
 |.ok (ns,k)=>match rdE ((ns.getD 3 0:Nat)) (l.drop k) with
  |.error e=>.error e
  |.ok (es,j)=>if k+j=l.length then .ok { Fr0 with kind:=3,index:=⟨(ns.getD 0 0:Nat),(ns.getD 1 0:Nat),(ns.getD 2 0:Nat),es⟩ } else .error 5
def rdF(k:Nat)(l:L8):Except Nat Fr:=if k=1 then rdS l else if k=2 then rdD l else if k=3 then rdI l else .error 60
def open_(r:L8):Except Nat L8 :=
 if 2200<r.length then .error 2 else if (Cob.un r).1≠0 then .error (Cob.un r).1
 else if (Cob.un r).2.length<5 then .error 30
 else if (Cob.un r).2.drop ((Cob.un r).2.length-4)=Sch.le 4 (Crc.sum ((Cob.un r).2.take ((Cob.un r).2.length-4))) then .ok ((Cob.un r).2.take ((Cob.un r).2.length-4)) else .error 120
def dec(r:L8):Except Nat Fr:=match open_ r with
 |.error e=>.error e
 |.ok b=>rdF (b.headD 0).toNat b.tail
def same(a b:Fr):Bool:=decide (a.kind=b.kind)&&(if a.kind=1 then decide (a.number=b.number)&&Sch.same a.cols b.cols
 else if a.kind=2 then decide (a.number=b.number∧a.seq=b.seq∧a.first=b.first∧a.rows=b.rows)&&(a.block==b.block)
 else if a.kind=3 then Idx.same a.index b.index else true)
theorem within_iff{b n:Int}:within b n=true↔0<=n∧n<b:=decide_eq_true_iff
theorem nums_nil:nums []=[]:=rfl
theorem nums_cons(n:Int)(l:List Int):nums (n::l)=Leb.put n.toNat++nums l:=rfl
theorem nb_put(o:Nat)(n:Int)(r:L8)(h:within o n=true)(y:o<=1099511627776):nb o (Leb.put n.toNat++r)=.ok (n.toNat,(Leb.put n.toNat).length):=by
 rw[within_iff] at h;unfold nb;rw[Sch.num_put _ _ (by omega)];exact if_pos (by omega)
theorem nb_ok{o:Nat}{n:Nat}(h:nb o l=.ok (n,k)):n<o∧∃r,l=Leb.put n++r∧k=(Leb.put n).length:=by
 unfold nb at h;split at h
 ·cases h
 ·next n' k' hn=>
  split at h
  ·next hlt=>
   injection h with h;injection h with h1 h2;subst h1 h2;exact⟨hlt,(Sch.num_ok hn).2⟩
  ·cases h
theorem nbs_put:∀(o:List Nat) (l:List Int) (r:L8),o.length=l.length->(∀x∈o,x<=1099511627776)->(∀j (y:j<o.length) (z:j<l.length),within o[j] l[j]=true) ->
  nbs o (nums l++r)=.ok (l.map Int.toNat,(nums l).length)
 | [],[],r,_,_,_=>rfl
 | [],_::_,r,h,_,_=>by simp at h
 |_::_,[],r,h,_,_=>by simp at h
 |lim::o,n::l,r,h,hl,hw=>by
  have D:=hw 0 (by simp) (by simp);have I:=nbs_put o l r (by simpa using h) (fun x E=>hl x (List.mem_cons_of_mem _ E)) (fun j y z=>by have:=hw (j+1) (by simpa using y) (by simpa using z);simpa using this);rw[nums_cons,List.append_assoc,nbs,nb_put lim n _ D (hl lim (by simp))];dsimp only;rw[List.drop_left,I];simp
theorem nbs_ok:∀(D:List Nat) (l:L8) (y:List Nat) (k:Nat),nbs D l=.ok (y,k)->y.length=D.length∧(∀j (o:j<D.length) (z:j<y.length),y[j]<D[j])∧∃r,l=nums (y.map Int.ofNat)++r∧k=(nums (y.map Int.ofNat)).length
 | [],l,y,k,h=>by
  rw[nbs] at h;injection h with h;injection h with o z;subst o z;exact⟨rfl,fun j o=>by simp at o,l,rfl,rfl⟩
 |lim::D,l,y,k,h=>by
  rw[nbs] at h;split at h
  ·cases h
  ·next n k0 hn=>
   split at h
   ·cases h
   ·next ns' j hns=>
    injection h with h;injection h with o z;obtain⟨L,S,E,I⟩:=nb_ok hn;obtain⟨M,O,K,J,Q⟩:=nbs_ok D _ _ _ hns;subst o z;refine⟨by simp[M],fun i o z=>?_,K,?_,?_⟩
    ·cases i with
     |zero=>exact L
     |succ i=>have:=O i (by simpa using o) (by simpa using z);simpa using this
    ·rw[E,I,List.drop_left] at J;rw[E,J];show _=Leb.put n++nums _++K;rw[List.append_assoc]
    ·rw[I,Q];show _=(Leb.put n++nums _).length;rw[List.length_append]
theorem rdE_put:∀(es:List Ent) (r:L8),es.all entOk=true->rdE es.length ((es.map entB).flatten++r)=.ok (es,(es.map entB).flatten.length)
 | [],r,_=>rfl
 |e::es,r,h=>by
  rw[List.all_cons,Bool.and_eq_true] at h;obtain⟨o,K⟩:=h;unfold entOk at o;simp only[Bool.and_eq_true] at o;obtain⟨⟨o,D⟩,E⟩:=o;have L:=rdE_put es r K;have I:nbs [1099511627776,1099511627776,1099511627776] (entB e++((es.map entB).flatten++r))=.ok ([e.at_.toNat,e.row.toNat,e.sch.toNat],(entB e).length):=by
   refine nbs_put [1099511627776,1099511627776,1099511627776] [e.at_,e.row,e.sch] _ rfl (by simp) (fun j y z=>?_);match j with
   |0=>exact o
   |1=>exact D
   |2=>exact E
   |j+3=>simp at y;omega
  rw[List.map_cons,List.flatten_cons,List.append_assoc,List.length_cons,rdE,I];dsimp only;rw[List.drop_left,L];rw[within_iff] at o D E;have y:((e.at_.toNat:Nat):Int)=e.at_:=by omega
  have z:((e.row.toNat:Nat):Int)=e.row:=by omega
  have J:((e.sch.toNat:Nat):Int)=e.sch:=by omega
  simp[y,z,J]
theorem rdE_ok:∀(m:Nat) (l:L8) (es:List Ent) (k:Nat),rdE m l=.ok (es,k)->es.length=m∧es.all entOk=true∧∃r,l=(es.map entB).flatten++r∧k=(es.map entB).flatten.length
 |0,l,es,k,h=>by
  rw[rdE] at h;injection h with h;injection h with h1 h2;subst h1 h2;exact⟨rfl,rfl,l,rfl,rfl⟩
 |m+1,l,es,k,h=>by
  rw[rdE] at h;split at h
  ·cases h
  ·next ns k0 hn=>
   split at h
   ·cases h
   ·next es' j hes=>
    injection h with h;injection h with h1 h2;obtain⟨K,z,Q,D,E⟩:=nbs_ok _ _ _ _ hn;obtain⟨L,M,J,I,O⟩:=rdE_ok m _ _ _ hes;obtain⟨x,o,y,rfl⟩:∃x o y,ns=[x,o,y]:=by
     match ns,K with
     | [x,o,y],_=>exact⟨x,o,y,rfl⟩
    have c1:=z 0 (by simp) (by simp);have c2:=z 1 (by simp) (by simp);have c3:=z 2 (by simp) (by simp);simp at c1 c2 c3;subst h1 h2;refine⟨by simp[L],?_,J,?_,?_⟩
    ·rw[List.all_cons,M,Bool.and_true];unfold entOk;simp only[Bool.and_eq_true,within_iff,S];simp;omega
    ·rw[D,E,List.drop_left] at I;rw[D,I];show nums [(x:Int),o,y]++_=(nums [(x:Int),o,y]++_)++J;rw[List.append_assoc]
    ·rw[E,O];show _=(nums [(x:Int),o,y]++_).length;rw[List.length_append];rfl
theorem head_fields{f:Fr}(h:err0 f=0):f.kind=1∨f.kind=2∨f.kind=3:=by
 unfold err0 at h;by_cases o:f.kind=1
 ·exact .inl o
 ·by_cases y:f.kind=2
  ·exact .inr (.inl y)
  ·by_cases z:f.kind=3
   ·exact .inr (.inr z)
   ·rw[if_neg o,if_neg y,if_neg z] at h;omega
def norm(f:Fr):Fr :=
 if f.kind=1 then { Fr0 with kind:=1,number:=f.number,cols:=f.cols.map Col.fix }
 else if f.kind=2 then { Fr0 with kind:=2,number:=f.number,seq:=f.seq,first:=f.first,rows:=f.rows,block:=f.block }
 else { Fr0 with kind:=3,index:=f.index }
theorem rdF_put{f:Fr}(h:err0 f=0)(Q:∀c∈f.cols,c.wf):rdF f.kind.toNat (fields f)=.ok (norm f):=by
 have o:=head_fields h;unfold err0 at h;rcases o with o | o | o
 ·rw[if_pos o] at h;have y:within N f.number=true:=by
   cases hq:within N f.number with
   |true=>rfl
   |false=>rw[hq] at h;simp at h
  rw[y,if_neg (by simp)] at h;unfold rdF fields norm;rw[o,if_pos (by decide),if_pos rfl,if_pos rfl];unfold rdS;rw[nums_cons,nums_nil,List.append_nil,nb_put 2147483648 _ _ y (by omega)];dsimp only;rw[List.drop_left,Sch.read_put h Q];rw[within_iff] at y;dsimp only;rw[show((f.number.toNat:Nat):Int)=f.number by omega]
 ·rw[if_neg (by omega),if_pos o] at h;have y:(within N f.number&&within S f.seq&&within S f.first&&decide (1<=f.rows∧f.rows<=64))=true:=by
   cases hq:(within N f.number&&within S f.seq&&within S f.first&&decide (1<=f.rows∧f.rows<=64)) with
   |true=>rfl
   |false=>rw[hq] at h;simp at h
  simp only[Bool.and_eq_true,decide_eq_true_eq] at y;obtain⟨⟨⟨z,D⟩,E⟩,U,V⟩:=y;have I:nbs [2147483648,1099511627776,1099511627776,65] (nums [f.number,f.seq,f.first,f.rows]++f.block)=.ok ([f.number.toNat,f.seq.toNat,f.first.toNat,f.rows.toNat],(nums [f.number,f.seq,f.first,f.rows]).length):=by
   refine nbs_put _ [f.number,f.seq,f.first,f.rows] _ rfl (by simp) (fun j J M=>?_);match j with
   |0=>exact z
   |1=>exact D
   |2=>exact E
   |3=>exact within_iff.2 ⟨by show(0:Int)<=f.rows;omega,by show f.rows<65;omega⟩
   |j+4=>simp at J;omega
  unfold rdF fields norm;rw[o,if_neg (by decide),if_pos (by decide),if_neg (by decide),if_pos rfl,if_neg (by decide),if_pos rfl];unfold rdD;rw[I];dsimp only;rw[if_neg (by simp;omega),List.drop_left];rw[within_iff] at z D E;simp only[List.getD_cons_zero,List.getD_cons_succ];rw[show((f.number.toNat:Nat):Int)=f.number by omega,show((f.seq.toNat:Nat):Int)=f.seq by omega,show((f.first.toNat:Nat):Int)=f.first by omega,show((f.rows.toNat:Nat):Int)=f.rows by omega]
 ·rw[if_neg (by omega),if_neg (by omega),if_pos o] at h;unfold idxErr at h;have y:(within S f.index.at_&&within S f.index.frames&&within S f.index.rows)=true:=by
   cases hq:(within S f.index.at_&&within S f.index.frames&&within S f.index.rows) with
   |true=>rfl
   |false=>rw[hq] at h;simp at h
  rw[y,if_neg (by simp)] at h;simp only[Bool.and_eq_true] at y;obtain⟨⟨z,D⟩,E⟩:=y;by_cases L:64<f.index.entries.length
  ·rw[if_pos L] at h;omega
  rw[if_neg L] at h;have O:f.index.entries.all entOk=true:=by
   cases hq:f.index.entries.all entOk with
   |true=>rfl
   |false=>rw[hq] at h;simp at h
  have I:nbs [1099511627776,1099511627776,1099511627776,65] (nums [f.index.at_,f.index.frames,f.index.rows,(f.index.entries.length:Int)]++(f.index.entries.map entB).flatten)=.ok ([f.index.at_.toNat,f.index.frames.toNat,f.index.rows.toNat,f.index.entries.length],(nums [f.index.at_,f.index.frames,f.index.rows,(f.index.entries.length:Int)]).length):=by
   refine nbs_put _ [f.index.at_,f.index.frames,f.index.rows,(f.index.entries.length:Int)] _ rfl (by simp) (fun j J M=>?_);match j with
   |0=>exact z
   |1=>exact D
   |2=>exact E
   |3=>exact within_iff.2 ⟨by show(0:Int)<=(f.index.entries.length:Int);omega,by show(f.index.entries.length:Int)<65;omega⟩
   |j+4=>simp at J;omega
  have K:=rdE_put f.index.entries [] O;rw[List.append_nil] at K;unfold rdF fields norm;rw[o,if_neg (by decide),if_neg (by decide),if_pos (by decide),if_neg (by decide),if_neg (by decide),if_neg (by decide),if_neg (by decide)];unfold rdI;rw[I];dsimp only;rw[List.drop_left];simp only[List.getD_cons_zero,List.getD_cons_succ];rw[K];dsimp only;rw[if_pos (by rw[List.length_append])];rw[within_iff] at z D E;rw[show((f.index.at_.toNat:Nat):Int)=f.index.at_ by omega,show((f.index.frames.toNat:Nat):Int)=f.index.frames by omega,show((f.index.rows.toNat:Nat):Int)=f.index.rows by omega]
end Fr
end
section
namespace Fr
theorem sameS_refl(s:List Col):Sch.same s s=true:=(Sch.same_fix s s).2 rfl
theorem le_len(n:Nat):(Sch.le 4 n).length=4:=Sch.le_len 4 n
theorem check_length(b:L8):(check b).length=b.length+4:=by unfold check;rw[List.length_append,le_len]
theorem check_take(b:L8):(check b).take ((check b).length-4)=b:=by
 rw[check_length,Nat.add_sub_cancel,check,List.take_left]
theorem check_drop(b:L8):(check b).drop ((check b).length-4)=Sch.le 4 (Crc.sum b):=by
 rw[check_length,Nat.add_sub_cancel,check,List.drop_left]
theorem err_open{f:Fr}(h:err f=0):err0 f=0∧(run f).length<=2200:=by
 unfold err at h;by_cases o:err0 f=0
 ·rw[if_neg (by omega)] at h;by_cases y:2200<(run f).length
  ·rw[if_pos y] at h;omega
  ·exact⟨o,by omega⟩
 ·rw[if_pos o] at h;exact absurd h o
theorem open_run{f:Fr}(h:(run f).length<=2200):open_ (run f)=.ok (head f):=by
 unfold open_;rw[if_neg (by omega)];unfold run;rw[Cob.un_stuff];dsimp only;rw[if_neg (by decide),if_neg (by rw[check_length];unfold head;simp),check_take,check_drop,if_pos rfl]
theorem kind_head{f:Fr}(h:err0 f=0):(UInt8.ofNat f.kind.toNat).toNat=f.kind.toNat:=by
 rcases head_fields h with o | o | o <;> rw[o] <;> rfl
theorem dec_run{f:Fr}(h:err f=0)(z:∀c∈f.cols,c.wf):dec (run f)=.ok (norm f):=by
 obtain⟨o,y⟩:=err_open h;unfold dec;rw[open_run y];dsimp only;unfold head;rw[List.headD_cons,List.tail_cons,kind_head o,rdF_put o z]
theorem nums_one(n:Nat):nums [(n:Int)]=Leb.put n:=by
 rw[nums_cons,nums_nil,List.append_nil];rfl
theorem rdF_ok{f:Fr}(h:rdF k l=.ok f):f.kind=k∧(k=1∨k=2∨k=3)∧err0 f=0∧fields f=l∧norm f=f∧f.wf:=by
 unfold rdF at h;by_cases O:k=1
 ·rw[if_pos O] at h;subst O;unfold rdS at h;split at h
  ·cases h
  ·next n j hn=>
   split at h
   ·cases h
   ·next s hs=>
    injection h with h;subst h;obtain⟨J,r,z,E⟩:=nb_ok hn;obtain⟨I,K,D⟩:=Sch.read_ok hs;have Z:s.map Col.fix=s:=by
     have:s.map Col.fix=s.map id:=List.map_congr_left fun c V=>(D c V).1;rw[this,List.map_id]
    refine⟨rfl,.inl rfl,?_,?_,?_,?_⟩
    ·unfold err0;simp only[if_true];rw[if_neg (by rw[Bool.not_eq_false,within_iff];simp only[N];omega)];exact I
    ·unfold fields;simp only[if_true];rw[nums_one,K,z,E,List.drop_left]
    ·unfold norm;simp only[if_true];rw[Z]
    ·refine⟨by unfold i64;simp,by unfold i64;simp;omega,fun c V=>(D c V).2,?_⟩;simp[Fr0,mX,i64]
 ·rw[if_neg O] at h;by_cases Q:k=2
  ·rw[if_pos Q] at h;subst Q;unfold rdD at h;split at h
   ·cases h
   ·next ns j hn=>
    obtain⟨J,z,r,E,M⟩:=nbs_ok _ _ _ _ hn;obtain⟨x,o,y,t,rfl⟩:∃x o y t,ns=[x,o,y,t]:=by
     match ns,J with
     | [x,o,y,t],_=>exact⟨x,o,y,t,rfl⟩
    have c1:=z 0 (by simp) (by simp);have c2:=z 1 (by simp) (by simp);have c3:=z 2 (by simp) (by simp);have c4:=z 3 (by simp) (by simp);simp at c1 c2 c3 c4;split at h
    ·cases h
    ·next h0=>
     simp at h0;injection h with h;subst h;refine⟨rfl,.inr (.inl rfl),?_,?_,?_,?_⟩
     ·unfold err0;dsimp only;rw[if_neg (by decide),if_pos rfl,if_neg];rw[Bool.not_eq_false];simp only[Bool.and_eq_true,within_iff,N,S,decide_eq_true_eq];simp;omega
     ·unfold fields;dsimp only;rw[if_neg (by decide),if_pos rfl];have e:nums [((x:Nat):Int),(o:Int),(y:Int),(t:Int)]++r=l:=E.symm;have L:j=(nums [((x:Nat):Int),(o:Int),(y:Int),(t:Int)]).length:=M;simp only[List.getD_cons_zero,List.getD_cons_succ];rw[L,<-e,List.drop_left]
     ·unfold norm;simp
     ·simp[wf,Fr0,mX,i64];omega
  ·rw[if_neg Q] at h;by_cases U:k=3
   ·rw[if_pos U] at h;subst U;unfold rdI at h;split at h
    ·cases h
    ·next ns j hn=>
     obtain⟨J,z,r,E,M⟩:=nbs_ok _ _ _ _ hn;obtain⟨x,o,y,t,rfl⟩:∃x o y t,ns=[x,o,y,t]:=by
      match ns,J with
      | [x,o,y,t],_=>exact⟨x,o,y,t,rfl⟩
     have c1:=z 0 (by simp) (by simp);have c2:=z 1 (by simp) (by simp);have c3:=z 2 (by simp) (by simp);have c4:=z 3 (by simp) (by simp);simp at c1 c2 c3 c4;split at h
     ·cases h
     ·next es j2 W=>
      obtain⟨I,K,ah,D,X⟩:=rdE_ok _ _ _ _ W;split at h
      ·next hl=>
       injection h with h;subst h
       replace I:es.length=t:=I
       have e:l=nums [((x:Nat):Int),(o:Int),(y:Int),(t:Int)]++r:=E;have L:j=(nums [((x:Nat):Int),(o:Int),(y:Int),(t:Int)]).length:=M;rw[e,L,List.drop_left] at D;have ab:ah=[]:=by
        rw[e,D,X,L] at hl;simp only[List.length_append] at hl;exact List.eq_nil_of_length_eq_zero (by omega)
       refine⟨rfl,.inr (.inr rfl),?_,?_,?_,?_⟩
       ·unfold err0 idxErr;dsimp only;rw[if_neg (by decide),if_neg (by decide),if_pos rfl,if_neg,if_neg (by omega),if_neg (by rw[K];decide)];rw[Bool.not_eq_false];simp only[Bool.and_eq_true,within_iff,S];simp;omega
       ·unfold fields;dsimp only;rw[if_neg (by decide),if_neg (by decide)];simp only[List.getD_cons_zero,List.getD_cons_succ];rw[I,e,D,ab,List.append_nil]
       ·unfold norm;simp
       ·have Y:∀e∈es,i64 e.at_∧i64 e.row∧i64 e.sch:=fun e W=>by
         have:=List.all_eq_true.1 K e W;unfold entOk at this;simp only[Bool.and_eq_true,within_iff,S] at this;unfold i64;omega
        refine⟨by unfold i64;simp,by simp[Fr0,i64],by simp[Fr0],by simp[Fr0,i64],by simp[Fr0,i64],by simp[Fr0,i64],by simp[i64];omega,Y⟩
      ·cases h
   ·rw[if_neg U] at h;cases h
theorem open_ok{b:L8}(h:open_ r=.ok b):r.length<=2200∧Cob.stuff (check b)=r∧1<=b.length:=by
 unfold open_ at h;split at h
 ·cases h
 ·next h1=>
  split at h
  ·cases h
  ·next h2=>
   split at h
   ·cases h
   ·next h3=>
    split at h
    ·next h4=>
     injection h with h;have e:=Cob.un_ok (s:=r) (by simpa using h2);refine⟨by omega,?_,?_⟩
     ·unfold check;rw[<-h,<-h4,List.take_append_drop,e]
     ·rw[<-h,List.length_take];omega
    ·cases h
theorem dec_ok{f:Fr}(h:dec r=.ok f):err f=0∧run f=r∧norm f=f∧f.wf∧(f.kind=1∨f.kind=2∨f.kind=3):=by
 unfold dec at h;split at h
 ·cases h
 ·next b hb=>
  obtain⟨J,y,z⟩:=open_ok hb;obtain⟨c1,c2,c3,c4,D,E⟩:=rdF_ok h;obtain⟨x,t,rfl⟩:∃x t,b=x::t:=by
   cases b with
   |nil=>simp at z
   |cons x t=>exact⟨x,t,rfl⟩
  rw[List.headD_cons] at c1 c2;rw[List.tail_cons] at c4;have I:head f=x::t:=by
   unfold head;rw[c4,c1];simp
  have o:run f=r:=by unfold run;rw[I,y]
  refine⟨?_,o,D,E,by omega⟩;unfold err;rw[if_neg (by omega),if_neg (by rw[o];omega)]
end Fr
end
section
open Go.RowKit
def At3(w:World)(b o:Nat)(e:Ent):Prop:=w.cell? ⟨b,o,none⟩=some (.int .i64 e.at_)∧w.cell? ⟨b,o+1,none⟩=some (.int .i64 e.row)∧w.cell? ⟨b,o+2,none⟩=some (.int .i64 e.sch)
theorem At3.on{b o:Nat}{e:Ent}(h:At3 w b o e)(hb:Below w.1.size w w'):At3 w' b o e:=⟨ae hb h.1,ae hb h.2.1,ae hb h.2.2⟩
def tm(w:World)(p:OA)(es:List Ent):Prop:=∀j (h:j<es.length),∃b o,p=some ⟨b,o,none⟩∧b<w.1.size∧At3 w b (o+j*3) es[j]
theorem tm.on{p:OA}{es:List Ent}(h:tm w p es)(hb:Below w.1.size w w'):tm w' p es:=fun j D=>by
 obtain⟨b,E,o,y,z⟩:=h j D;exact⟨b,E,o,Nat.lt_of_lt_of_le y hb.size,z.on hb⟩
theorem kq(w:World)(p:OA):tm w p []:=fun j o=>by simp at o
def bJ(k n:Int)(sp:OA)(sn sc:Nat)(q f r:Int)(bp:OA)(bn bc:Nat)(ia ib ic:Int)(ep:OA)(en ec:Nat):AV:=#[.int .i64 k,.int .i64 n,.slice sp sn sc,.int .i64 q,.int .i64 f,.int .i64 r,.slice bp bn bc,.int .i64 ia,.int .i64 ib,.int .i64 ic,.slice ep en ec]
structure iu(w:World)(u:AV)(f:Fr):Prop where
 out:∃sp sc bp bc ep ec,u=bJ f.kind f.number sp f.cols.length sc f.seq f.first f.rows bp f.block.length bc f.index.at_ f.index.frames f.index.rows ep f.index.entries.length ec∧f.cols.length*120<=140737488351232∧f.cols.length<=sc∧et w sp f.cols∧f.block.length<=140737488351232∧f.block.length<=bc∧At w bp f.block∧f.index.entries.length*24<=140737488351232∧f.index.entries.length<=ec∧tm w ep f.index.entries
theorem iu.on{f:Fr}(h:iu w u f)(hb:Below w.1.size w w'):iu w' u f:=by
 obtain⟨sp,V,y,o,D,z,E,I,J,K,L,M,O,Q,S,U⟩:=h.out;exact⟨sp,V,y,o,D,z,E,I,J,K.on hb,L,M,O.on hb,Q,S,U.on hb⟩
end
section
open Go.RowKit
def qh(e:Ent):List Value:=[.int .i64 e.at_,.int .i64 e.row,.int .i64 e.sch]
def cA(es:List Ent):List Value:=(es.map qh).flatten
theorem jl(a b:List Ent):cA (a++b)=cA a++cA b:=by
 unfold cA;rw[List.map_append,List.flatten_append]
theorem ie:∀(es:List Ent) (j:Nat) (h:j<es.length) (m:Nat),m<3->(cA es)[j*3+m]?=(qh es[j])[m]?
 | [],j,h,_,_=>by simp at h
 |e::es,0,h,m,hm=>by
  show(qh e++cA es)[0*3+m]?=_;rw[Nat.zero_mul,Nat.zero_add,List.getElem?_append_left (by exact hm)];rfl
 |e::es,j+1,h,m,hm=>by
  show(qh e++cA es)[(j+1)*3+m]?=_;have o:(qh e).length=3:=rfl;rw[List.getElem?_append_right (by rw[o];omega),o,show(j+1)*3+m-3=j*3+m by omega,ie es j (by simpa using h) m hm];rfl
def dO(w:World)(B:Nat)(v:Value)(es:List Ent):Prop:=w.ownsRow B 159 3 v es.length (cA es)
theorem hY(w:World)(B:Nat):dO w B (.slice none 0 0) []:=⟨rfl,.inl ⟨rfl,rfl⟩⟩
section
variable {w w':World} {B:Nat} {v:Value} {es:List Ent}
theorem dO.lt(h:dO w B v es):∀k,v.ownBlock=some k->B<=k∧k<w.1.size:=World.ownsRow.lt h
theorem dO.aside{F:Nat->Prop}(h:dO w B v es)(I:Aside F w w')(J:∀k,v.ownBlock=some k->¬F k):dO w' B v es:=by
 refine⟨h.1,?_⟩;rcases h.2 with z | ⟨g,cap,y,rfl,D,o,E⟩
 ·exact .inl z
 ·refine .inr ⟨g,cap,y,rfl,D,?_,E⟩;rw[I.block g (Array.getElem?_eq_some_iff.1 o).1 (J g rfl)];exact o
theorem dO.low{B':Nat}(h:dO w B v es)(E:B'<=B):dO w B' v es:=by
 refine⟨h.1,?_⟩;rcases h.2 with y | ⟨g,cap,o,rfl,D,z⟩
 ·exact .inl y
 ·exact .inr ⟨g,cap,o,rfl,by omega,z⟩
theorem dO.on(h:dO w B v es)(hb:Below w.1.size w w'):dO w' B v es:=h.aside (al hb (fun _=>False)) (fun _ _ o=>o)
theorem dO.ents(h:dO w B v es):∃p c,v=.slice p es.length c∧es.length<=c∧tm w p es∧(p=none∨∃g,p=some ⟨g,0,none⟩):=by
 rcases h.2 with ⟨rfl,z⟩ | ⟨g,cap,M,rfl,O,y,E,Q,S,I⟩
 ·have D:=List.eq_nil_of_length_eq_zero z;subst D;exact⟨none,0,rfl,gQx,kq _ _,.inl rfl⟩
 ·refine⟨_,cap,rfl,E,fun j K=>?_,.inr ⟨g,rfl⟩⟩;have J:=(Array.getElem?_eq_some_iff.1 y).1;have o:∀m,m<3->w.cell? ⟨g,0+j*3+m,none⟩=(qh es[j])[m]?:=fun m L=>by
   rw[Nat.zero_add,<-ie es j K m L,<-I,List.getElem?_take_of_lt (by omega)];simp[World.cell?,y]
  exact⟨g,0,rfl,J,o 0 (by omega),o 1 (by omega),o 2 (by omega)⟩
end
def xB:Value:=.agg #[.int .i64 0,.int .i64 0,.int .i64 0]
theorem zB:(Tryz.prog.info? 159).map (fun i=>(i.zero,i.size,i.bytes))=some (some xB,3,24):=by kernel_rfl
section
variable {B:Nat} {v:Value} {es:List Ent} {w:World} {e:Ent} {ad H:Nat}
theorem zX(e:Ent):∀a∈(#[.int .i64 e.at_,.int .i64 e.row,.int .i64 e.sch]:AV).toList,a.oneCell'=true:=by
 intro a o;simp at o;rcases o with rfl | rfl | rfl <;> rfl
theorem sU{g cap:Nat}(h:w'.ownsRow B 159 3 (.slice (some ⟨g,0,none⟩) (es.length+1) cap) (es.length+1) (cA es++(#[.int .i64 e.at_,.int .i64 e.row,.int .i64 e.sch]:AV).toList)):dO w' B (.slice (some ⟨g,0,none⟩) (es.length+1) cap) (es++[e]):=by
 unfold dO;rw[jl,List.length_append,List.length_singleton];simpa[cA,qh] using h
theorem jJ(Y:dO w B v es)(e:Ent)(Q:w.1[ad]?=some (.cells #[.int .i64 e.at_,.int .i64 e.row,.int .i64 e.sch] 159 (0,0)))(W:(es.length+1)*24<=140737488355328)(L:B<=w.1.size)(M:w.1.size=H){ak:Array Oper}{o:Oper}{a:Act}{z:Act->World->Prop}{E:Exit->Act->World->Prop}{D:Prop}(y x:Operand)(U:o.guard=none)(X:o.op=Op.call { callee:=Callee.builtin Builtin.append,args:=#[y,x],argTypes:=#[63,63] })(Z:a.eval y=v)(ah:a.eval x=.slice (some ⟨ad,0,none⟩) 1 1)(O:∀g cap w',dO w' B (.slice (some ⟨g,0,none⟩) (es.length+1) cap) (es++[e])->w.grownBy w' v.ownBlock->(v.ownBlock=some g∨g=H)->z (a.put o.dst (.slice (some ⟨g,0,none⟩) (es.length+1) cap)) w'):
  if Region.wanted o (yielded ak a.tmps)=true then Oper.wp Tryz.prog o a w z E else D:=by
 obtain⟨i,V,aj,ab,S⟩:=info_parts zB
 exact step_append_lies w U y x 63 X B 159 i xB 3 24 Tryz.underlying63 V aj ab S rfl (by decide) v es.length (cA es) Z Y ⟨ad,0,none⟩ 1 1 _ ah (by simp)
  (World.news_of_block Q) (zX e) (by decide) (by unfold maxLen;omega) W L H M fun g cap w' I J K _=>O g cap w' (sU I) J K
end
structure iN(w:World)(B:Nat)(u:AV)(f:Fr):Prop where
 out:∃sp sc bp bc ep ec,u=bJ f.kind f.number sp f.cols.length sc f.seq f.first f.rows bp f.block.length bc f.index.at_ f.index.frames f.index.rows ep f.index.entries.length ec∧fv w B #[.slice sp f.cols.length sc] f.cols∧Has w B (.slice bp f.block.length bc) f.block∧f.block.length<=2200∧dO w B (.slice ep f.index.entries.length ec) f.index.entries∧f.index.entries.length<=64
theorem jK(w:World)(B:Nat):fv w B #[.slice none 0 0] []:=⟨_,_,_,rfl,gG w B,by simp⟩
theorem iN.lies{B:Nat}{f:Fr}(h:iN w B u f):iu w u f:=by
 obtain⟨sp,Z,z,y,U,S,V,W,X,ab,Y,ah⟩:=h.out;obtain⟨p,c,o,J,K,L⟩:=W.lies.out;simp only[Array.mk.injEq,List.cons.injEq,and_true] at o;injection o with e5 _ e6;subst e5 e6;obtain⟨p2,c2,M,O,Q⟩:=X.at;injection M with e10 _ e11;subst e10 e11;obtain⟨p3,c3,D,E,I,-⟩:=Y.ents;injection D with e15 _ e16;subst e15 e16;exact⟨sp,Z,z,y,U,S,V,J,K,L,by omega,Q,O,by omega,E,I⟩
end
end Go.Proofs.YtbahfgdbjgkklaaGreatDoor
