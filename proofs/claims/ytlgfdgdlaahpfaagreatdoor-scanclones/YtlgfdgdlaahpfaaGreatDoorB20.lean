import Derived.Test.YtlgfdgdlaahpfaaGreatDoorB06
import Derived.Test.YtlgfdgdlaahpfaaGreatDoorB02
namespace Go.Proofs.YtlgfdgdlaahpfaaGreatDoor
section
structure Ent where
 at_:Int
 row:Int
 sch:Int
structure Idx where
 at_:Int
 frames:Int
 rows:Int
 entries:List Ent
structure Fr where
 kind:Int
 number:Int
 cols:List Col
 seq:Int
 first:Int
 rows:Int
 block:L8
 index:Idx
def j6:Idx:=⟨0,0,0,[]⟩
def Fr0:Fr:=⟨0,0,[],0,0,0,[],j6⟩
def Ent.tup(e:Ent):Int×Int×Int:=(e.at_,e.row,e.sch)
theorem Ent.tup_inj{a b:Ent}(h:a.tup=b.tup):a=b:=by
 cases a
 cases b
 simp only[Ent.tup,Prod.mk.injEq] at h
 obtain⟨rfl,rfl,rfl⟩:=h
 rfl
def Idx.same(a b:Idx):Bool:=decide (a.at_=b.at_∧a.frames=b.frames∧a.rows=b.rows∧a.entries.map Ent.tup=b.entries.map Ent.tup)
theorem dc:∀{a b:List Ent},a.map Ent.tup=b.map Ent.tup->a=b
 | [],[],_=>rfl
 | [],_::_,h=>by simp at h
 |_::_,[],h=>by simp at h
 |x::a,y::b,h=>by
  rw[List.map_cons,List.map_cons] at h
  injection h with h1 h2
  rw[Ent.tup_inj h1,dc h2]
theorem Idx.same_iff(a b:Idx):Idx.same a b=true↔a=b:=by
 unfold Idx.same
 rw[decide_eq_true_iff]
 constructor
 ·rintro⟨h1,h2,h3,h4⟩
  cases a
  cases b
  dsimp only at h1 h2 h3 h4
  subst h1 h2 h3
  rw[dc h4]
 ·rintro rfl
  exact⟨rfl,rfl,rfl,rfl⟩
namespace Fr
def i64(n:Int):Prop:=-9223372036854775808<=n∧n<=9223372036854775807
def wf(f:Fr):Prop:=i64 f.kind∧i64 f.number∧(∀c∈f.cols,c.wf)∧i64 f.seq∧i64 f.first∧i64 f.rows∧(i64 f.index.at_∧i64 f.index.frames∧i64 f.index.rows)∧∀e∈f.index.entries,i64 e.at_∧i64 e.row∧i64 e.sch
def within(b:Int)(n:Int):Bool:=decide (0<=n∧n<b)
def S:Int:=1099511627776
def N:Int:=2147483648
def entOk(e:Ent):Bool:=within S e.at_&&within S e.row&&within S e.sch
def idxErr(x:Idx):Nat:=if (within S x.at_&&within S x.frames&&within S x.rows)=false then 7 else if 64<x.entries.length then 3 else if x.entries.all entOk=false then 7 else 0
def err0(f:Fr):Nat :=
 if f.kind=1 then (if within N f.number=false then 7 else Sch.err f.cols)
 else if f.kind=2 then (if (within N f.number&&within S f.seq&&within S f.first&&decide (1<=f.rows∧f.rows<=64))=false then 7 else 0)
 else if f.kind=3 then idxErr f.index else 60
def nums(l:List Int):L8:=(l.map fun n=>Leb.put n.toNat).flatten
def entB(e:Ent):L8:=nums [e.at_,e.row,e.sch]
def fields(f:Fr):L8 :=
 if f.kind=1 then nums [f.number]++Sch.bytes f.cols
 else if f.kind=2 then nums [f.number,f.seq,f.first,f.rows]++f.block
 else nums [f.index.at_,f.index.frames,f.index.rows,(f.index.entries.length:Int)]++(f.index.entries.map entB).flatten
def head(f:Fr):L8:=UInt8.ofNat f.kind.toNat::fields f
def check(b:L8):L8:=b++Sch.le 4 (Crc.sum b)
def run(f:Fr):L8:=Cob.stuff (check (head f))
def err(f:Fr):Nat:=if err0 f≠0 then err0 f else if 2200<(run f).length then 2 else 0
def out(f:Fr):L8:=if err f=0 then 0::(run f++[0]) else []
def nb(lim:Nat)(l:L8):Except Nat (Nat×Nat):=match Sch.num l with
 |.error _=>.error 5
 |.ok (n,k)=>if n<lim then .ok (n,k) else .error 5
def nbs:List Nat->L8->Except Nat (List Nat×Nat)
 | [],_=>.ok ([],0)
 |lim::r,l=>match nb lim l with
  |.error e=>.error e
  |.ok (n,k)=>match nbs r (l.drop k) with
   |.error e=>.error e
   |.ok (ns,j)=>.ok (n::ns,k+j)
def rdE:Nat->L8->Except Nat (List Ent×Nat)
 |0,_=>.ok ([],0)
 |m+1,l=>match nbs [1099511627776,1099511627776,1099511627776] l with
  |.error e=>.error e
  |.ok (ns,k)=>match rdE m (l.drop k) with
   |.error e=>.error e
   |.ok (es,j)=>.ok (⟨(ns.getD 0 0:Nat),(ns.getD 1 0:Nat),(ns.getD 2 0:Nat)⟩::es,k+j)
def rdS(l:L8):Except Nat Fr:=match nb 2147483648 l with
 |.error e=>.error e
 |.ok (n,k)=>match Sch.read (l.drop k) with
  |.error e=>.error e
  |.ok s=>.ok { Fr0 with kind:=1,number:=n,cols:=s }
def rdD(l:L8):Except Nat Fr:=match nbs [2147483648,1099511627776,1099511627776,65] l with
 |.error e=>.error e
 |.ok (ns,k)=>if (ns.getD 3 0:Nat)<1 then .error 5 else .ok { Fr0 with kind:=2,number:=(ns.getD 0 0:Nat),seq:=(ns.getD 1 0:Nat),first:=(ns.getD 2 0:Nat),rows:=(ns.getD 3 0:Nat),block:=l.drop k }
def rdI(l:L8):Except Nat Fr:=match nbs [1099511627776,1099511627776,1099511627776,65] l with
 |.error e=>.error e
 |.ok (ns,k)=>match rdE ((ns.getD 3 0:Nat)) (l.drop k) with
  |.error e=>.error e
  |.ok (es,j)=>if k+j=l.length then .ok { Fr0 with kind:=3,index:=⟨(ns.getD 0 0:Nat),(ns.getD 1 0:Nat),(ns.getD 2 0:Nat),es⟩ } else .error 5
def rdF(k:Nat)(l:L8):Except Nat Fr:=if k=1 then rdS l else if k=2 then rdD l else if k=3 then rdI l else .error 60
def open_(r:L8):Except Nat L8 :=
 if 2200<r.length then .error 2 else if (Cob.un r).1≠0 then .error (Cob.un r).1
 else if (Cob.un r).2.length<5 then .error 30
 else if (Cob.un r).2.drop ((Cob.un r).2.length-4)=Sch.le 4 (Crc.sum ((Cob.un r).2.take ((Cob.un r).2.length-4))) then .ok ((Cob.un r).2.take ((Cob.un r).2.length-4)) else .error 120
def dec(r:L8):Except Nat Fr:=match open_ r with
 |.error e=>.error e
 |.ok b=>rdF (b.headD 0).toNat b.tail
def same(a b:Fr):Bool:=decide (a.kind=b.kind)&&(if a.kind=1 then decide (a.number=b.number)&&Sch.same a.cols b.cols
 else if a.kind=2 then decide (a.number=b.number∧a.seq=b.seq∧a.first=b.first∧a.rows=b.rows)&&(a.block==b.block)
 else if a.kind=3 then Idx.same a.index b.index else true)
theorem within_iff{b n:Int}:within b n=true↔0<=n∧n<b:=decide_eq_true_iff
theorem nums_nil:nums []=[]:=rfl
theorem nums_cons(n:Int)(l:List Int):nums (n::l)=Leb.put n.toNat++nums l:=rfl
theorem nb_put(lim:Nat)(n:Int)(r:L8)(h:within lim n=true)(hl:lim<=1099511627776):nb lim (Leb.put n.toNat++r)=.ok (n.toNat,(Leb.put n.toNat).length):=by
 rw[within_iff] at h
 unfold nb
 rw[Sch.num_put _ _ (by omega)]
 exact if_pos (by omega)
theorem nb_ok{lim:Nat}{l:L8}{n k:Nat}(h:nb lim l=.ok (n,k)):n<lim∧∃r,l=Leb.put n++r∧k=(Leb.put n).length:=by
 unfold nb at h
 split at h
 ·cases h
 ·next n' k' hn=>
  split at h
  ·next hlt=>
   injection h with h
   injection h with h1 h2
   subst h1 h2
   exact⟨hlt,(Sch.num_ok hn).2⟩
  ·cases h
theorem nbs_put:∀(lims:List Nat) (l:List Int) (r:L8),lims.length=l.length->(∀x∈lims,x<=1099511627776)->(∀j (h1:j<lims.length) (h2:j<l.length),within lims[j] l[j]=true) ->
  nbs lims (nums l++r)=.ok (l.map Int.toNat,(nums l).length)
 | [],[],r,_,_,_=>rfl
 | [],_::_,r,h,_,_=>by simp at h
 |_::_,[],r,h,_,_=>by simp at h
 |lim::lims,n::l,r,h,hl,hw=>by
  have h0:=hw 0 (by simp) (by simp)
  have ih:=nbs_put lims l r (by simpa using h) (fun x hx=>hl x (List.mem_cons_of_mem _ hx)) (fun j h1 h2=>by have:=hw (j+1) (by simpa using h1) (by simpa using h2);simpa using this)
  rw[nums_cons,List.append_assoc,nbs,nb_put lim n _ h0 (hl lim (by simp))]
  dsimp only
  rw[List.drop_left,ih]
  simp
theorem nbs_ok:∀(lims:List Nat) (l:L8) (ns:List Nat) (k:Nat),nbs lims l=.ok (ns,k)->ns.length=lims.length∧(∀j (h1:j<lims.length) (h2:j<ns.length),ns[j]<lims[j])∧∃r,l=nums (ns.map Int.ofNat)++r∧k=(nums (ns.map Int.ofNat)).length
 | [],l,ns,k,h=>by
  rw[nbs] at h
  injection h with h
  injection h with h1 h2
  subst h1 h2
  exact⟨rfl,fun j h1=>by simp at h1,l,rfl,rfl⟩
 |lim::lims,l,ns,k,h=>by
  rw[nbs] at h
  split at h
  ·cases h
  ·next n k0 hn=>
   split at h
   ·cases h
   ·next ns' j hns=>
    injection h with h
    injection h with h1 h2
    obtain⟨a1,r1,a2,a3⟩:=nb_ok hn
    obtain⟨b1,b2,r2,b3,b4⟩:=nbs_ok lims _ _ _ hns
    subst h1 h2
    refine⟨by simp[b1],fun i h1 h2=>?_,r2,?_,?_⟩
    ·cases i with
     |zero=>exact a1
     |succ i=>have:=b2 i (by simpa using h1) (by simpa using h2);simpa using this
    ·rw[a2,a3,List.drop_left] at b3
     rw[a2,b3]
     show _=Leb.put n++nums _++r2
     rw[List.append_assoc]
    ·rw[a3,b4]
     show _=(Leb.put n++nums _).length
     rw[List.length_append]
theorem rdE_put:∀(es:List Ent) (r:L8),es.all entOk=true->rdE es.length ((es.map entB).flatten++r)=.ok (es,(es.map entB).flatten.length)
 | [],r,_=>rfl
 |e::es,r,h=>by
  rw[List.all_cons,Bool.and_eq_true] at h
  obtain⟨h1,h2⟩:=h
  unfold entOk at h1
  simp only[Bool.and_eq_true] at h1
  obtain⟨⟨h1,h3⟩,h4⟩:=h1
  have ih:=rdE_put es r h2
  have e0:nbs [1099511627776,1099511627776,1099511627776] (entB e++((es.map entB).flatten++r))=.ok ([e.at_.toNat,e.row.toNat,e.sch.toNat],(entB e).length):=by
   refine nbs_put [1099511627776,1099511627776,1099511627776] [e.at_,e.row,e.sch] _ rfl (by simp) (fun j g1 g2=>?_)
   match j with
   |0=>exact h1
   |1=>exact h3
   |2=>exact h4
   |j+3=>simp at g1;omega
  rw[List.map_cons,List.flatten_cons,List.append_assoc,List.length_cons,rdE,e0]
  dsimp only
  rw[List.drop_left,ih]
  rw[within_iff] at h1 h3 h4
  have g1:((e.at_.toNat:Nat):Int)=e.at_:=by omega
  have g2:((e.row.toNat:Nat):Int)=e.row:=by omega
  have g3:((e.sch.toNat:Nat):Int)=e.sch:=by omega
  simp[g1,g2,g3]
theorem rdE_ok:∀(m:Nat) (l:L8) (es:List Ent) (k:Nat),rdE m l=.ok (es,k)->es.length=m∧es.all entOk=true∧∃r,l=(es.map entB).flatten++r∧k=(es.map entB).flatten.length
 |0,l,es,k,h=>by
  rw[rdE] at h
  injection h with h
  injection h with h1 h2
  subst h1 h2
  exact⟨rfl,rfl,l,rfl,rfl⟩
 |m+1,l,es,k,h=>by
  rw[rdE] at h
  split at h
  ·cases h
  ·next ns k0 hn=>
   split at h
   ·cases h
   ·next es' j hes=>
    injection h with h
    injection h with h1 h2
    obtain⟨a1,a2,r1,a3,a4⟩:=nbs_ok _ _ _ _ hn
    obtain⟨b1,b2,r2,b3,b4⟩:=rdE_ok m _ _ _ hes
    obtain⟨x,y,z,rfl⟩:∃x y z,ns=[x,y,z]:=by
     match ns,a1 with
     | [x,y,z],_=>exact⟨x,y,z,rfl⟩
    have c1:=a2 0 (by simp) (by simp)
    have c2:=a2 1 (by simp) (by simp)
    have c3:=a2 2 (by simp) (by simp)
    simp at c1 c2 c3
    subst h1 h2
    refine⟨by simp[b1],?_,r2,?_,?_⟩
    ·rw[List.all_cons,b2,Bool.and_true]
     unfold entOk
     simp only[Bool.and_eq_true,within_iff,S]
     simp
     omega
    ·rw[a3,a4,List.drop_left] at b3
     rw[a3,b3]
     show nums [(x:Int),y,z]++_=(nums [(x:Int),y,z]++_)++r2
     rw[List.append_assoc]
    ·rw[a4,b4]
     show _=(nums [(x:Int),y,z]++_).length
     rw[List.length_append]
     rfl
theorem head_fields{f:Fr}(h:err0 f=0):f.kind=1∨f.kind=2∨f.kind=3:=by
 unfold err0 at h
 by_cases h1:f.kind=1
 ·exact .inl h1
 ·by_cases h2:f.kind=2
  ·exact .inr (.inl h2)
  ·by_cases h3:f.kind=3
   ·exact .inr (.inr h3)
   ·rw[if_neg h1,if_neg h2,if_neg h3] at h
    omega
def norm(f:Fr):Fr :=
 if f.kind=1 then { Fr0 with kind:=1,number:=f.number,cols:=f.cols.map Col.fix }
 else if f.kind=2 then { Fr0 with kind:=2,number:=f.number,seq:=f.seq,first:=f.first,rows:=f.rows,block:=f.block }
 else { Fr0 with kind:=3,index:=f.index }
theorem rdF_put{f:Fr}(h:err0 f=0)(hw:∀c∈f.cols,c.wf):rdF f.kind.toNat (fields f)=.ok (norm f):=by
 have hk:=head_fields h
 unfold err0 at h
 rcases hk with hk | hk | hk
 ·rw[if_pos hk] at h
  have hn:within N f.number=true:=by
   cases hq:within N f.number with
   |true=>rfl
   |false=>rw[hq] at h;simp at h
  rw[hn,if_neg (by simp)] at h
  unfold rdF fields norm
  rw[hk,if_pos (by decide),if_pos rfl,if_pos rfl]
  unfold rdS
  rw[nums_cons,nums_nil,List.append_nil,nb_put 2147483648 _ _ hn (by omega)]
  dsimp only
  rw[List.drop_left,Sch.read_put h hw]
  rw[within_iff] at hn
  dsimp only
  rw[show((f.number.toNat:Nat):Int)=f.number by omega]
 ·rw[if_neg (by omega),if_pos hk] at h
  have hn:(within N f.number&&within S f.seq&&within S f.first&&decide (1<=f.rows∧f.rows<=64))=true:=by
   cases hq:(within N f.number&&within S f.seq&&within S f.first&&decide (1<=f.rows∧f.rows<=64)) with
   |true=>rfl
   |false=>rw[hq] at h;simp at h
  simp only[Bool.and_eq_true,decide_eq_true_eq] at hn
  obtain⟨⟨⟨h1,h2⟩,h3⟩,h4,h5⟩:=hn
  have e0:nbs [2147483648,1099511627776,1099511627776,65] (nums [f.number,f.seq,f.first,f.rows]++f.block)=.ok ([f.number.toNat,f.seq.toNat,f.first.toNat,f.rows.toNat],(nums [f.number,f.seq,f.first,f.rows]).length):=by
   refine nbs_put _ [f.number,f.seq,f.first,f.rows] _ rfl (by simp) (fun j g1 g2=>?_)
   match j with
   |0=>exact h1
   |1=>exact h2
   |2=>exact h3
   |3=>exact within_iff.2 ⟨by show(0:Int)<=f.rows;omega,by show f.rows<65;omega⟩
   |j+4=>simp at g1;omega
  unfold rdF fields norm
  rw[hk,if_neg (by decide),if_pos (by decide),if_neg (by decide),if_pos rfl,if_neg (by decide),if_pos rfl]
  unfold rdD
  rw[e0]
  dsimp only
  rw[if_neg (by simp;omega),List.drop_left]
  rw[within_iff] at h1 h2 h3
  simp only[List.getD_cons_zero,List.getD_cons_succ]
  rw[show((f.number.toNat:Nat):Int)=f.number by omega,show((f.seq.toNat:Nat):Int)=f.seq by omega,show((f.first.toNat:Nat):Int)=f.first by omega,show((f.rows.toNat:Nat):Int)=f.rows by omega]
 ·rw[if_neg (by omega),if_neg (by omega),if_pos hk] at h
  unfold idxErr at h
  have hn:(within S f.index.at_&&within S f.index.frames&&within S f.index.rows)=true:=by
   cases hq:(within S f.index.at_&&within S f.index.frames&&within S f.index.rows) with
   |true=>rfl
   |false=>rw[hq] at h;simp at h
  rw[hn,if_neg (by simp)] at h
  simp only[Bool.and_eq_true] at hn
  obtain⟨⟨h1,h2⟩,h3⟩:=hn
  by_cases h64:64<f.index.entries.length
  ·rw[if_pos h64] at h;omega
  rw[if_neg h64] at h
  have ha:f.index.entries.all entOk=true:=by
   cases hq:f.index.entries.all entOk with
   |true=>rfl
   |false=>rw[hq] at h;simp at h
  have e0:nbs [1099511627776,1099511627776,1099511627776,65] (nums [f.index.at_,f.index.frames,f.index.rows,(f.index.entries.length:Int)]++(f.index.entries.map entB).flatten)=.ok ([f.index.at_.toNat,f.index.frames.toNat,f.index.rows.toNat,f.index.entries.length],(nums [f.index.at_,f.index.frames,f.index.rows,(f.index.entries.length:Int)]).length):=by
   refine nbs_put _ [f.index.at_,f.index.frames,f.index.rows,(f.index.entries.length:Int)] _ rfl (by simp) (fun j g1 g2=>?_)
   match j with
   |0=>exact h1
   |1=>exact h2
   |2=>exact h3
   |3=>exact within_iff.2 ⟨by show(0:Int)<=(f.index.entries.length:Int);omega,by show(f.index.entries.length:Int)<65;omega⟩
   |j+4=>simp at g1;omega
  have e1:=rdE_put f.index.entries [] ha
  rw[List.append_nil] at e1
  unfold rdF fields norm
  rw[hk,if_neg (by decide),if_neg (by decide),if_pos (by decide),if_neg (by decide),if_neg (by decide),if_neg (by decide),if_neg (by decide)]
  unfold rdI
  rw[e0]
  dsimp only
  rw[List.drop_left]
  simp only[List.getD_cons_zero,List.getD_cons_succ]
  rw[e1]
  dsimp only
  rw[if_pos (by rw[List.length_append])]
  rw[within_iff] at h1 h2 h3
  rw[show((f.index.at_.toNat:Nat):Int)=f.index.at_ by omega,show((f.index.frames.toNat:Nat):Int)=f.index.frames by omega,show((f.index.rows.toNat:Nat):Int)=f.index.rows by omega]
end Fr
end
section
namespace Fr
theorem col_fix_idem(c:Col):c.fix.fix=c.fix:=by
 unfold Col.fix
 simp only[qV]
theorem le_len(n:Nat):(Sch.le 4 n).length=4:=Sch.le_len 4 n
theorem check_length(b:L8):(check b).length=b.length+4:=by unfold check;rw[List.length_append,le_len]
theorem check_take(b:L8):(check b).take ((check b).length-4)=b:=by
 rw[check_length,Nat.add_sub_cancel,check,List.take_left]
theorem check_drop(b:L8):(check b).drop ((check b).length-4)=Sch.le 4 (Crc.sum b):=by
 rw[check_length,Nat.add_sub_cancel,check,List.drop_left]
theorem err_open{f:Fr}(h:err f=0):err0 f=0∧(run f).length<=2200:=by
 unfold err at h
 by_cases h0:err0 f=0
 ·rw[if_neg (by omega)] at h
  by_cases h1:2200<(run f).length
  ·rw[if_pos h1] at h;omega
  ·exact⟨h0,by omega⟩
 ·rw[if_pos h0] at h
  exact absurd h h0
theorem open_run{f:Fr}(h:(run f).length<=2200):open_ (run f)=.ok (head f):=by
 unfold open_
 rw[if_neg (by omega)]
 unfold run
 rw[Cob.un_stuff]
 dsimp only
 rw[if_neg (by decide),if_neg (by rw[check_length];unfold head;simp),check_take,check_drop,if_pos rfl]
theorem kind_head{f:Fr}(h:err0 f=0):(UInt8.ofNat f.kind.toNat).toNat=f.kind.toNat:=by
 rcases head_fields h with hk | hk | hk <;> rw[hk] <;> rfl
theorem dec_run{f:Fr}(h:err f=0)(hw:∀c∈f.cols,c.wf):dec (run f)=.ok (norm f):=by
 obtain⟨h0,h1⟩:=err_open h
 unfold dec
 rw[open_run h1]
 dsimp only
 unfold head
 rw[List.headD_cons,List.tail_cons,kind_head h0,rdF_put h0 hw]
theorem run_ge{f:Fr}:6<=(run f).length:=by
 have:=(Cob.stuff_length (check (head f))).1
 rw[check_length] at this
 unfold run
 have:1<=(head f).length:=by unfold head;simp
 omega
theorem run_nz(f:Fr):∀c∈run f,c≠0:=Cob.stuff_nz _
theorem nums_one(n:Nat):nums [(n:Int)]=Leb.put n:=by
 rw[nums_cons,nums_nil,List.append_nil]
 rfl
theorem rdF_ok{k:Nat}{l:L8}{f:Fr}(h:rdF k l=.ok f):f.kind=k∧(k=1∨k=2∨k=3)∧err0 f=0∧fields f=l∧norm f=f∧f.wf:=by
 unfold rdF at h
 by_cases h1:k=1
 ·rw[if_pos h1] at h
  subst h1
  unfold rdS at h
  split at h
  ·cases h
  ·next n j hn=>
   split at h
   ·cases h
   ·next s hs=>
    injection h with h
    subst h
    obtain⟨a1,r,a2,a3⟩:=nb_ok hn
    obtain⟨b1,b2,b3⟩:=Sch.read_ok hs
    have hfix:s.map Col.fix=s:=by
     have:s.map Col.fix=s.map id:=List.map_congr_left fun c hc=>(b3 c hc).1
     rw[this,List.map_id]
    refine⟨rfl,.inl rfl,?_,?_,?_,?_⟩
    ·unfold err0
     simp only[if_true]
     rw[if_neg (by rw[Bool.not_eq_false,within_iff];simp only[N];omega)]
     exact b1
    ·unfold fields
     simp only[if_true]
     rw[nums_one,b2,a2,a3,List.drop_left]
    ·unfold norm
     simp only[if_true]
     rw[hfix]
    ·refine⟨by unfold i64;simp,by unfold i64;simp;omega,fun c hc=>(b3 c hc).2,?_⟩
     simp[Fr0,j6,i64]
 ·rw[if_neg h1] at h
  by_cases h2:k=2
  ·rw[if_pos h2] at h
   subst h2
   unfold rdD at h
   split at h
   ·cases h
   ·next ns j hn=>
    obtain⟨a1,a2,r,a3,a4⟩:=nbs_ok _ _ _ _ hn
    obtain⟨x,y,z,t,rfl⟩:∃x y z t,ns=[x,y,z,t]:=by
     match ns,a1 with
     | [x,y,z,t],_=>exact⟨x,y,z,t,rfl⟩
    have c1:=a2 0 (by simp) (by simp)
    have c2:=a2 1 (by simp) (by simp)
    have c3:=a2 2 (by simp) (by simp)
    have c4:=a2 3 (by simp) (by simp)
    simp at c1 c2 c3 c4
    split at h
    ·cases h
    ·next h0=>
     simp at h0
     injection h with h
     subst h
     refine⟨rfl,.inr (.inl rfl),?_,?_,?_,?_⟩
     ·unfold err0
      dsimp only
      rw[if_neg (by decide),if_pos rfl,if_neg]
      rw[Bool.not_eq_false]
      simp only[Bool.and_eq_true,within_iff,N,S,decide_eq_true_eq]
      simp
      omega
     ·unfold fields
      dsimp only
      rw[if_neg (by decide),if_pos rfl]
      have e:nums [((x:Nat):Int),(y:Int),(z:Int),(t:Int)]++r=l:=a3.symm
      have e2:j=(nums [((x:Nat):Int),(y:Int),(z:Int),(t:Int)]).length:=a4
      simp only[List.getD_cons_zero,List.getD_cons_succ]
      rw[e2,<-e,List.drop_left]
     ·unfold norm
      simp
     ·simp[wf,Fr0,j6,i64]
      omega
  ·rw[if_neg h2] at h
   by_cases h3:k=3
   ·rw[if_pos h3] at h
    subst h3
    unfold rdI at h
    split at h
    ·cases h
    ·next ns j hn=>
     obtain⟨a1,a2,r,a3,a4⟩:=nbs_ok _ _ _ _ hn
     obtain⟨x,y,z,t,rfl⟩:∃x y z t,ns=[x,y,z,t]:=by
      match ns,a1 with
      | [x,y,z,t],_=>exact⟨x,y,z,t,rfl⟩
     have c1:=a2 0 (by simp) (by simp)
     have c2:=a2 1 (by simp) (by simp)
     have c3:=a2 2 (by simp) (by simp)
     have c4:=a2 3 (by simp) (by simp)
     simp at c1 c2 c3 c4
     split at h
     ·cases h
     ·next es j2 he=>
      obtain⟨b1,b2,r2,b3,b4⟩:=rdE_ok _ _ _ _ he
      split at h
      ·next hl=>
       injection h with h
       subst h
       replace b1:es.length=t:=b1
       have e:l=nums [((x:Nat):Int),(y:Int),(z:Int),(t:Int)]++r:=a3
       have e2:j=(nums [((x:Nat):Int),(y:Int),(z:Int),(t:Int)]).length:=a4
       rw[e,e2,List.drop_left] at b3
       have hr2:r2=[]:=by
        rw[e,b3,b4,e2] at hl
        simp only[List.length_append] at hl
        exact List.eq_nil_of_length_eq_zero (by omega)
       refine⟨rfl,.inr (.inr rfl),?_,?_,?_,?_⟩
       ·unfold err0 idxErr
        dsimp only
        rw[if_neg (by decide),if_neg (by decide),if_pos rfl,if_neg,if_neg (by omega),if_neg (by rw[b2];decide)]
        rw[Bool.not_eq_false]
        simp only[Bool.and_eq_true,within_iff,S]
        simp
        omega
       ·unfold fields
        dsimp only
        rw[if_neg (by decide),if_neg (by decide)]
        simp only[List.getD_cons_zero,List.getD_cons_succ]
        rw[b1,e,b3,hr2,List.append_nil]
       ·unfold norm
        simp
       ·have hE:∀e∈es,i64 e.at_∧i64 e.row∧i64 e.sch:=fun e he=>by
         have:=List.all_eq_true.1 b2 e he
         unfold entOk at this
         simp only[Bool.and_eq_true,within_iff,S] at this
         unfold i64
         omega
        refine⟨by unfold i64;simp,by simp[Fr0,i64],by simp[Fr0],by simp[Fr0,i64],by simp[Fr0,i64],by simp[Fr0,i64],by simp[i64];omega,hE⟩
      ·cases h
   ·rw[if_neg h3] at h
    cases h
theorem open_ok{r b:L8}(h:open_ r=.ok b):r.length<=2200∧Cob.stuff (check b)=r∧1<=b.length:=by
 unfold open_ at h
 split at h
 ·cases h
 ·next h1=>
  split at h
  ·cases h
  ·next h2=>
   split at h
   ·cases h
   ·next h3=>
    split at h
    ·next h4=>
     injection h with h
     have e:=Cob.un_ok (s:=r) (by simpa using h2)
     refine⟨by omega,?_,?_⟩
     ·unfold check
      rw[<-h,<-h4,List.take_append_drop,e]
     ·rw[<-h,List.length_take];omega
    ·cases h
theorem dec_ok{r:L8}{f:Fr}(h:dec r=.ok f):err f=0∧run f=r∧norm f=f∧f.wf∧(f.kind=1∨f.kind=2∨f.kind=3):=by
 unfold dec at h
 split at h
 ·cases h
 ·next b hb=>
  obtain⟨a1,a2,a3⟩:=open_ok hb
  obtain⟨c1,c2,c3,c4,c5,c6⟩:=rdF_ok h
  obtain⟨x,t,rfl⟩:∃x t,b=x::t:=by
   cases b with
   |nil=>simp at a3
   |cons x t=>exact⟨x,t,rfl⟩
  rw[List.headD_cons] at c1 c2
  rw[List.tail_cons] at c4
  have hh:head f=x::t:=by
   unfold head
   rw[c4,c1]
   simp
  have hr:run f=r:=by unfold run;rw[hh,a2]
  refine⟨?_,hr,c5,c6,by omega⟩
  unfold err
  rw[if_neg (by omega),if_neg (by rw[hr];omega)]
end Fr
end
section
open Go.RowKit
def At3(w:World)(b o:Nat)(e:Ent):Prop:=w.cell? ⟨b,o,none⟩=some (.int .i64 e.at_)∧w.cell? ⟨b,o+1,none⟩=some (.int .i64 e.row)∧w.cell? ⟨b,o+2,none⟩=some (.int .i64 e.sch)
theorem At3.on{w w':World}{b o:Nat}{e:Ent}(h:At3 w b o e)(hb:Below w.1.size w w'):At3 w' b o e:=⟨ab hb h.1,ab hb h.2.1,ab hb h.2.2⟩
def cQ(w:World)(p:OA)(es:List Ent):Prop:=∀j (h:j<es.length),∃b o,p=some ⟨b,o,none⟩∧b<w.1.size∧At3 w b (o+j*3) es[j]
theorem cQ.on{w w':World}{p:OA}{es:List Ent}(h:cQ w p es)(hb:Below w.1.size w w'):cQ w' p es:=fun j hj=>by
 obtain⟨b,o,h1,h2,h3⟩:=h j hj
 exact⟨b,o,h1,Nat.lt_of_lt_of_le h2 hb.size,h3.on hb⟩
theorem ee(w:World)(p:OA):cQ w p []:=fun j hj=>by simp at hj
def av(k n:Int)(sp:OA)(sn sc:Nat)(q f r:Int)(bp:OA)(bn bc:Nat)(ia ib ic:Int)(ep:OA)(en ec:Nat):AV:=#[.int .i64 k,.int .i64 n,.slice sp sn sc,.int .i64 q,.int .i64 f,.int .i64 r,.slice bp bn bc,.int .i64 ia,.int .i64 ib,.int .i64 ic,.slice ep en ec]
structure aB(w:World)(u:AV)(f:Fr):Prop where
 out:∃sp sc bp bc ep ec,u=av f.kind f.number sp f.cols.length sc f.seq f.first f.rows bp f.block.length bc f.index.at_ f.index.frames f.index.rows ep f.index.entries.length ec∧f.cols.length*120<=140737488351232∧f.cols.length<=sc∧bg w sp f.cols∧f.block.length<=140737488351232∧f.block.length<=bc∧At w bp f.block∧f.index.entries.length*24<=140737488351232∧f.index.entries.length<=ec∧cQ w ep f.index.entries
theorem aB.on{w w':World}{u:AV}{f:Fr}(h:aB w u f)(hb:Below w.1.size w w'):aB w' u f:=by
 obtain⟨sp,sc,bp,bc,ep,ec,h0,h1,h2,h3,h4,h5,h6,h7,h8,h9⟩:=h.out
 exact⟨sp,sc,bp,bc,ep,ec,h0,h1,h2,h3.on hb,h4,h5,h6.on hb,h7,h8,h9.on hb⟩
end
section
open Go.RowKit
def iN(e:Ent):List Value:=[.int .i64 e.at_,.int .i64 e.row,.int .i64 e.sch]
def aN(es:List Ent):List Value:=(es.map iN).flatten
theorem dK:∀es:List Ent,(aN es).length=es.length*3
 | []=>rfl
 |e::es=>by
  show(iN e++aN es).length=_
  rw[List.length_append,dK es,List.length_cons]
  show 3+_=_
  omega
theorem dR(a b:List Ent):aN (a++b)=aN a++aN b:=by
 unfold aN
 rw[List.map_append,List.flatten_append]
theorem dL:∀(es:List Ent) (j:Nat) (h:j<es.length) (m:Nat),m<3->(aN es)[j*3+m]?=(iN es[j])[m]?
 | [],j,h,_,_=>by simp at h
 |e::es,0,h,m,hm=>by
  show(iN e++aN es)[0*3+m]?=_
  rw[Nat.zero_mul,Nat.zero_add,List.getElem?_append_left (by exact hm)]
  rfl
 |e::es,j+1,h,m,hm=>by
  show(iN e++aN es)[(j+1)*3+m]?=_
  have hl:(iN e).length=3:=rfl
  rw[List.getElem?_append_right (by rw[hl];omega),hl,show(j+1)*3+m-3=j*3+m by omega,dL es j (by simpa using h) m hm]
  rfl
def bf(w:World)(B:Nat)(v:Value)(es:List Ent):Prop:=w.ownsRow B 64 3 v es.length (aN es)
theorem dx(w:World)(B:Nat):bf w B (.slice none 0 0) []:=⟨rfl,.inl ⟨rfl,rfl⟩⟩
section
variable {w w':World} {B:Nat} {v:Value} {es:List Ent}
theorem bf.lt(h:bf w B v es):∀k,v.ownBlock=some k->B<=k∧k<w.1.size:=World.ownsRow.lt h
theorem bf.aside{F:Nat->Prop}(h:bf w B v es)(ha:Aside F w w')(hp:∀k,v.ownBlock=some k->¬F k):bf w' B v es:=by
 refine⟨h.1,?_⟩
 rcases h.2 with h1 | ⟨g,cap,cur,rfl,h2,h3,h4⟩
 ·exact .inl h1
 ·refine .inr ⟨g,cap,cur,rfl,h2,?_,h4⟩
  rw[ha.block g (Array.getElem?_eq_some_iff.1 h3).1 (hp g rfl)]
  exact h3
theorem bf.low{B':Nat}(h:bf w B v es)(hB:B'<=B):bf w B' v es:=by
 refine⟨h.1,?_⟩
 rcases h.2 with h1 | ⟨g,cap,cur,rfl,h2,h3⟩
 ·exact .inl h1
 ·exact .inr ⟨g,cap,cur,rfl,by omega,h3⟩
theorem bf.on(h:bf w B v es)(hb:Below w.1.size w w'):bf w' B v es:=h.aside (ae hb (fun _=>False)) (fun _ _ hc=>hc)
theorem bf.ents(h:bf w B v es):∃p c,v=.slice p es.length c∧es.length<=c∧cQ w p es∧(p=none∨∃g,p=some ⟨g,0,none⟩):=by
 rcases h.2 with ⟨rfl,h0⟩ | ⟨g,cap,cur,rfl,h1,h2,h3,h4,h5,h6⟩
 ·have h0':=List.eq_nil_of_length_eq_zero h0
  subst h0'
  exact⟨none,0,rfl,vX,ee _ _,.inl rfl⟩
 ·refine⟨_,cap,rfl,h3,fun j hj=>?_,.inr ⟨g,rfl⟩⟩
  have hg:=(Array.getElem?_eq_some_iff.1 h2).1
  have hcell:∀m,m<3->w.cell? ⟨g,0+j*3+m,none⟩=(iN es[j])[m]?:=fun m hm=>by
   rw[Nat.zero_add,<-dL es j hj m hm,<-h6,List.getElem?_take_of_lt (by omega)]
   simp[World.cell?,h2]
  exact⟨g,0,rfl,hg,hcell 0 (by omega),hcell 1 (by omega),hcell 2 (by omega)⟩
end
def pj:Value:=.agg #[.int .i64 0,.int .i64 0,.int .i64 0]
theorem ta:(Tryz.prog.info? 64).map (fun i=>(i.zero,i.size,i.bytes))=some (some pj,3,24):=by kernel_rfl
section
variable {B:Nat} {v:Value} {es:List Ent} {w:World} {e:Ent} {ad H:Nat}
theorem uZ(e:Ent):∀a∈(#[.int .i64 e.at_,.int .i64 e.row,.int .i64 e.sch]:AV).toList,a.oneCell'=true:=by
 intro a ha
 simp at ha
 rcases ha with rfl | rfl | rfl <;> rfl
theorem oW{w':World}{g cap:Nat}(h:w'.ownsRow B 64 3 (.slice (some ⟨g,0,none⟩) (es.length+1) cap) (es.length+1) (aN es++(#[.int .i64 e.at_,.int .i64 e.row,.int .i64 e.sch]:AV).toList)):bf w' B (.slice (some ⟨g,0,none⟩) (es.length+1) cap) (es++[e]):=by
 unfold bf
 rw[dR,List.length_append,List.length_singleton]
 simpa[aN,iN] using h
theorem gP(hown:bf w B v es)(e:Ent)(hblk:w.1[ad]?=some (.cells #[.int .i64 e.at_,.int .i64 e.row,.int .i64 e.sch] 64 (0,0)))(hn:(es.length+1)*24<=140737488355328)(hB:B<=w.1.size)(hH:w.1.size=H){ops:Array Oper}{o:Oper}{a:Act}{K:Act->World->Prop}{Q:Exit->Act->World->Prop}{E:Prop}(y x:Operand)(hg:o.guard=none)(hop:o.op=Op.call { callee:=Callee.builtin Builtin.append,args:=#[y,x],argTypes:=#[32,32] })(hs:a.eval y=v)(hx:a.eval x=.slice (some ⟨ad,0,none⟩) 1 1)(hK:∀g cap w',bf w' B (.slice (some ⟨g,0,none⟩) (es.length+1) cap) (es++[e])->w.grownBy w' v.ownBlock->(v.ownBlock=some g∨g=H)->K (a.put o.dst (.slice (some ⟨g,0,none⟩) (es.length+1) cap)) w'):
  if Region.wanted o (yielded ops a.tmps)=true then Oper.wp Tryz.prog o a w K Q else E:=by
 obtain⟨i,hi,hz,hsz,hby⟩:=info_parts ta
 exact step_append_lies w hg y x 32 hop B 64 i pj 3 24 Tryz.underlying32 hi hz hsz hby rfl (by decide) v es.length (aN es) hs hown ⟨ad,0,none⟩ 1 1 _ hx (by simp)
  (World.news_of_block hblk) (uZ e) (by decide) (by unfold maxLen;omega) hn hB H hH fun g cap w' h2 h3 h4 _=>hK g cap w' (oW h2) h3 h4
end
structure cV(w:World)(B:Nat)(u:AV)(f:Fr):Prop where
 out:∃sp sc bp bc ep ec,u=av f.kind f.number sp f.cols.length sc f.seq f.first f.rows bp f.block.length bc f.index.at_ f.index.frames f.index.rows ep f.index.entries.length ec∧cL w B #[.slice sp f.cols.length sc] f.cols∧Has w B (.slice bp f.block.length bc) f.block∧f.block.length<=2200∧bf w B (.slice ep f.index.entries.length ec) f.index.entries∧f.index.entries.length<=64
theorem kq(w:World)(B:Nat):cL w B #[.slice none 0 0] []:=⟨_,_,_,rfl,iw w B,by simp⟩
theorem cV.lies{w:World}{B:Nat}{u:AV}{f:Fr}(h:cV w B u f):aB w u f:=by
 obtain⟨sp,sc,bp,bc,ep,ec,h0,h1,h2,h3,h4,h5⟩:=h.out
 obtain⟨p,c,e1,e2,e3,e4⟩:=h1.lies.out
 simp only[Array.mk.injEq,List.cons.injEq,and_true] at e1
 injection e1 with e5 _ e6
 subst e5 e6
 obtain⟨p2,c2,e7,e8,e9⟩:=h2.at
 injection e7 with e10 _ e11
 subst e10 e11
 obtain⟨p3,c3,e12,e13,e14,-⟩:=h4.ents
 injection e12 with e15 _ e16
 subst e15 e16
 exact⟨sp,sc,bp,bc,ep,ec,h0,e2,e3,e4,by omega,e9,e8,by omega,e13,e14⟩
end
end Go.Proofs.YtlgfdgdlaahpfaaGreatDoor
