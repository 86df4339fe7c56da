import Derived.Test.YtbahfgdbjgkklaaGreatDoorB01
namespace Go.Proofs.YtbahfgdbjgkklaaGreatDoor
variable{k s:Nat}{m:L8}
section
abbrev Run:=Nat×L8
structure Sp where
 n:Nat
 last:Option Nat
 out:List Run
 tail:L8
namespace Sp
def start:Sp:=⟨0,none,[],[]⟩
def op(d:Sp):Option Nat:=if d.tail.length<=2200 then d.last else none
def held(d:Sp):L8:=match d.op with | some _=>d.tail | none=>[]
def told(d:Sp)(c:UInt8):List Run:=if c=0 then (match d.op with | some k=>if d.tail=[] then [] else [(k,d.tail)] | none=>[]) else []
def step(d:Sp)(c:UInt8):Sp:=if c=0 then ⟨d.n+1,some d.n,d.out++d.told c,[]⟩ else ⟨d.n+1,d.last,d.out,d.tail++[c]⟩
def run(d:Sp)(l:L8):Sp:=l.foldl step d
def of(l:L8):Sp:=run start l
theorem step_out(d:Sp)(c:UInt8):(d.step c).out=d.out++d.told c:=by
 unfold step;split
 ·rfl
 ·rename_i h;simp[told,h]
theorem step_n(d:Sp)(c:UInt8):(d.step c).n=d.n+1:=by unfold step;split <;> rfl
theorem run_nil(d:Sp):run d []=d:=rfl
theorem run_cons(d:Sp)(c:UInt8)(l:L8):run d (c::l)=run (d.step c) l:=rfl
theorem run_snoc(d:Sp)(a:L8)(c:UInt8):run d (a++[c])=(run d a).step c:=by simp[run,List.foldl_append]
theorem run_n(l:L8):∀d:Sp,(run d l).n=d.n+l.length:=by
 induction l with
 |nil=>intro d;rfl
 |cons c l ih=>
  intro d;rw[run_cons,ih,step_n,List.length_cons];omega
theorem of_n(l:L8):(of l).n=l.length:=by
 unfold of;rw[run_n];simp[start]
theorem run_out(l:L8):∀d:Sp,∃rs,(run d l).out=d.out++rs:=by
 induction l with
 |nil=>intro d;exact⟨[],by simp[run_nil]⟩
 |cons c l ih=>
  intro d;obtain⟨rs,h⟩:=ih (d.step c);exact⟨d.told c++rs,by rw[run_cons,h,step_out,List.append_assoc]⟩
def tolds(d:Sp)(l:L8):List Run:=(run d l).out.drop d.out.length
theorem tolds_out(d:Sp)(l:L8):(run d l).out=d.out++d.tolds l:=by
 obtain⟨rs,h⟩:=run_out l d;unfold tolds;rw[h,List.drop_left]
theorem tolds_nil(d:Sp):d.tolds []=[]:=by simp[tolds,run_nil]
theorem tolds_snoc(d:Sp)(l:L8)(c:UInt8):d.tolds (l++[c])=d.tolds l++(run d l).told c:=by
 have o:=tolds_out d (l++[c]);rw[run_snoc,step_out,tolds_out,List.append_assoc] at o;exact(List.append_cancel_left o).symm
structure Ok(d:Sp):Prop where
 tail0:d.last=none->d.out=[]
 lastn:∀k,d.last=some k->k+1+d.tail.length=d.n
 none0:d.last=none->d.tail.length=d.n
theorem ok_start:Ok start:=⟨fun _=>rfl,(fun k h=>by cases h),fun _=>rfl⟩
theorem ok_step{d:Sp}(h:Ok d)(c:UInt8):Ok (d.step c):=by
 unfold step;by_cases y:c=0
 ·rw[if_pos y];refine⟨(fun h=>by cases h),(fun k o=>?_),(fun h=>by cases h)⟩;simp at o;simp[o]
 ·rw[if_neg y];refine⟨h.tail0,fun k o=>?_,fun o=>?_⟩
  ·have:=h.lastn k o;simp;omega
  ·have:=h.none0 o;simp;omega
theorem ok_run(l:L8):∀{d:Sp},Ok d->Ok (run d l):=by
 induction l with
 |nil=>intro d h;exact h
 |cons c l ih=>intro d h;rw[run_cons];exact ih (ok_step h c)
theorem ok_of(l:L8):Ok (of l):=ok_run l ok_start
theorem held_le(d:Sp):d.held.length<=2200:=by
 unfold held op;by_cases h:d.tail.length<=2200
 ·rw[if_pos h];cases d.last <;> simp[h]
 ·rw[if_neg h];simp
theorem held_op{d:Sp}(o:d.op=some k):d.held=d.tail:=by simp[held,o]
theorem held_none{d:Sp}(o:d.op=none):d.held=[]:=by simp[held,o]
theorem step_fence(d:Sp):d.step 0=⟨d.n+1,some d.n,d.out++d.told 0,[]⟩:=by simp[step]
theorem fence_op(d:Sp):(d.step 0).op=some d.n:=by simp[step,op]
theorem fence_held(d:Sp):(d.step 0).held=[]:=by rw[held_op (fence_op d),step_fence]
theorem told_some{d:Sp}(o:d.op=some k):d.told 0=if d.held=[] then [] else [(k,d.held)]:=by simp[told,o,held_op o]
theorem told_none{d:Sp}(o:d.op=none)(c:UInt8):d.told c=[]:=by simp[told,o]
theorem told_else{d:Sp}{c:UInt8}(o:c≠0):d.told c=[]:=by simp[told,o]
theorem step_op_none{d:Sp}(o:d.op=none){c:UInt8}(y:c≠0):(d.step c).op=none:=by
 unfold op at o ⊢;simp only[step,if_neg y,List.length_append,List.length_singleton];by_cases h:d.tail.length<=2200
 ·rw[if_pos h] at o;rw[o];split <;> rfl
 ·rw[if_neg (by omega)]
theorem step_op_full{d:Sp}(z:d.op=some k){c:UInt8}(o:c≠0)(y:d.held.length=2200):(d.step c).op=none:=by
 rw[held_op z] at y;unfold op;simp only[step,if_neg o,List.length_append,List.length_singleton];rw[if_neg (by omega)]
theorem step_op_some{d:Sp}(E:d.op=some k){c:UInt8}(D:c≠0)(J:d.held.length≠2200):(d.step c).op=some k∧(d.step c).held=d.held++[c]:=by
 have I:=held_le d;have y:=held_op E;rw[y] at J I;have z:(d.step c).op=some k:=by
  have o:=E;unfold op at o ⊢;rw[if_pos I] at o;simp only[step,if_neg D,List.length_append,List.length_singleton];rw[if_pos (by omega)];exact o
 refine⟨z,?_⟩;rw[held_op z,y];simp[step,D]
theorem told_len(d:Sp)(c:UInt8):(d.told c).length<=1:=by
 unfold told;split
 ·cases d.op with
  |none=>simp
  |some k=>simp only[];split <;> simp
 ·simp
theorem tolds_len(d:Sp)(l:L8):(d.tolds l).length<=l.length:=by
 have:∀l:L8,∀d:Sp,(run d l).out.length<=d.out.length+l.length:=by
  intro l;induction l with
  |nil=>intro d;simp[run_nil]
  |cons c l ih=>
   intro d;have o:=ih (d.step c);have y:=told_len d c;rw[run_cons];rw[step_out,List.length_append] at o;rw[List.length_cons];omega
 have h:=this l d;unfold tolds;rw[List.length_drop];omega
theorem out_len(l:L8):(of l).out.length<=l.length:=by
 have:=tolds_len start l;have o:=tolds_out start l;simp[start] at o;unfold of;rw[show(start.run l).out=_ from o];exact this
end Sp
end
section
namespace Sp
structure In(m:L8):Prop where
 some_:∀k,(of m).last=some k->k<m.length∧m[k]?=some 0∧m.drop (k+1)=(of m).tail
 none_:(of m).last=none->m=(of m).tail
 tail:∀x∈(of m).tail,x≠0
theorem in_nil:In []:=⟨(fun k h=>by cases h),fun _=>rfl,fun x h=>by cases h⟩
theorem of_snoc(m:L8)(c:UInt8):of (m++[c])=(of m).step c:=run_snoc _ _ _
theorem in_snoc(h:In m)(c:UInt8):In (m++[c]):=by
 have J:=of_n m;by_cases D:c=0
 ·subst D;have e:of (m++[0])=⟨m.length+1,some m.length,(of m).out++(of m).told 0,[]⟩:=by rw[of_snoc,step_fence,J]
  refine⟨fun k o=>?_,fun o=>?_,fun x z=>?_⟩
  ·rw[e] at o;simp at o;subst o;refine⟨by simp,by simp,?_⟩;rw[e];simp
  ·rw[e] at o;cases o
  ·rw[e] at z;cases z
 ·have e:of (m++[c])=⟨(of m).n+1,(of m).last,(of m).out,(of m).tail++[c]⟩:=by rw[of_snoc];simp[step,D]
  refine⟨fun k o=>?_,fun o=>?_,fun x z=>?_⟩
  ·rw[e] at o;obtain⟨y,E,I⟩:=h.some_ k o;refine⟨by simp;omega,?_,?_⟩
   ·rw[List.getElem?_append_left y];exact E
   ·rw[e,List.drop_append_of_le_length (by omega),I]
  ·rw[e] at o;rw[e];have:=h.none_ o;simp only;rw[<-this]
  ·rw[e] at z;rcases List.mem_append.1 z with y | y
   ·exact h.tail x y
   ·rw[List.mem_singleton.1 y];exact D
theorem in_append(l:L8):∀{m:L8},In m->In (m++l):=by
 induction l with
 |nil=>intro m h;rw[List.append_nil];exact h
 |cons c l ih=>
  intro m h;have:=ih (in_snoc h c);rw[List.append_assoc] at this;exact this
theorem in_all(m:L8):In m:=in_append m in_nil
end Sp
end
section
namespace Sp
structure Stand(m:L8)(r:Run):Prop where
 pos:1<=r.2.length
 most:r.2.length<=2200
 fit:r.1+r.2.length+1<m.length
 ahead:m[r.1]?=some 0
 behind:m[r.1+r.2.length+1]?=some 0
 bytes:(m.drop (r.1+1)).take r.2.length=r.2
 clean:∀x∈r.2,x≠0
theorem Stand.append{r:Run}(h:Stand m r)(l:L8):Stand (m++l) r:=by
 have o:=h.fit;refine⟨h.pos,h.most,by simp;omega,?_,?_,?_,h.clean⟩
 ·rw[List.getElem?_append_left (by omega)];exact h.ahead
 ·rw[List.getElem?_append_left (by omega)];exact h.behind
 ·rw[List.drop_append_of_le_length (by omega),List.take_append_of_le_length (by simp;omega)];exact h.bytes
structure Row(m:L8):Prop where
 stand:∀r∈(of m).out,Stand m r
 sorted:(of m).out.Pairwise (fun a b=>a.1<b.1)
 low:∀r∈(of m).out,∀k,(of m).last=some k->r.1<k
theorem row_nil:Row []:=⟨fun r h=>(by cases h),List.Pairwise.nil,fun r h=>(by cases h)⟩
theorem row_snoc(h:Row m)(c:UInt8):Row (m++[c]):=by
 have M:=of_n m;have E:=in_all m;have X:=ok_of m;by_cases L:c=0
 ·subst L;have e:of (m++[0])=⟨m.length+1,some m.length,(of m).out++(of m).told 0,[]⟩:=by rw[of_snoc,step_fence,M]
  have hold:∀r∈(of m).out,r.1<m.length:=fun r o=>by have:=(h.stand r o).fit;omega
  have K:∀r∈(of m).told 0,∃k,(of m).last=some k∧(of m).tail.length<=2200∧(of m).tail≠[]∧r=(k,(of m).tail):=by
   intro r o;cases hop:(of m).op with
   |none=>rw[told_none hop] at o;cases o
   |some k=>
    have z:=hop;unfold op at z;split at z
    ·rename_i I;rw[told_some hop,held_op hop] at o;by_cases J:(of m).tail=[]
     ·rw[if_pos J] at o;cases o
     ·rw[if_neg J] at o;exact⟨k,z,I,J,List.mem_singleton.1 o⟩
    ·cases z
  refine⟨fun r o=>?_,?_,fun r o k z=>?_⟩
  ·rw[e] at o;rcases List.mem_append.1 o with D | D
   ·exact(h.stand r D).append _
   ·obtain⟨k,z,I,W,rfl⟩:=K r D;obtain⟨O,Q,S⟩:=E.some_ k z;have Y:k+1+(of m).tail.length=m.length:=(by rw[<-M];exact X.lastn k z);refine⟨List.length_pos_iff.2 W,I,by simp;omega,?_,?_,?_,E.tail⟩
    ·rw[List.getElem?_append_left O];exact Q
    ·simp only;rw[List.getElem?_append_right (by omega),show k+(of m).tail.length+1-m.length=0 by omega];rfl
    ·simp only;rw[List.drop_append_of_le_length (by omega),S,List.take_append_of_le_length gQx,List.take_length]
  ·rw[e];refine List.pairwise_append.2 ⟨h.sorted,?_,?_⟩
   ·have V:=told_len (of m) 0;match hx:(of m).told 0,V with
    | [],_=>exact List.Pairwise.nil
    | [y],_=>exact List.pairwise_singleton _ _
   ·intro a U b hb;obtain⟨k,z,_,_,rfl⟩:=K b hb;exact h.low a U k z
  ·rw[e] at o z;simp at z;subst z;rcases List.mem_append.1 o with D | D
   ·exact hold r D
   ·obtain⟨k,z,_,_,rfl⟩:=K r D;exact(E.some_ k z).1
 ·have e:of (m++[c])=⟨(of m).n+1,(of m).last,(of m).out,(of m).tail++[c]⟩:=by rw[of_snoc];simp[step,L]
  refine⟨fun r o=>?_,by rw[e];exact h.sorted,fun r o k z=>?_⟩
  ·rw[e] at o;exact(h.stand r o).append _
  ·rw[e] at o z;exact h.low r o k z
theorem row_append(l:L8):∀{m:L8},Row m->Row (m++l):=by
 induction l with
 |nil=>intro m h;rw[List.append_nil];exact h
 |cons c l ih=>
  intro m h;have:=ih (row_snoc h c);rw[List.append_assoc] at this;exact this
theorem row_all(m:L8):Row m:=row_append m row_nil
def shift(s:Nat)(rs:List Run):List Run:=rs.map fun r=>(r.1+s,r.2)
structure Twin(s:Nat)(pre:List Run)(d e:Sp):Prop where
 n:d.n=e.n+s
 last:d.last=e.last.map (·+s)
 tail:d.tail=e.tail
 out:d.out=pre++shift s e.out
theorem Twin.step{pre:List Run}{d e:Sp}(h:Twin s pre d e)(c:UInt8):Twin s pre (d.step c) (e.step c):=by
 by_cases o:c=0
 ·subst o;have y:d.op=e.op.map (·+s):=by
   unfold op;rw[h.tail];split
   ·exact h.last
   ·rfl
  have z:d.told 0=shift s (e.told 0):=by
   unfold told;simp only[if_true,y,h.tail];cases e.op with
   |none=>rfl
   |some k=>
    simp only[Option.map_some];split <;> simp[shift]
  rw[step_fence,step_fence];refine⟨by have:=h.n;simp only;omega,?_,rfl,?_⟩
  ·simp only[Option.map_some];rw[h.n]
  ·simp only;rw[h.out,z,List.append_assoc];simp[shift]
 ·simp only[Sp.step,if_neg o];refine⟨by have:=h.n;simp only;omega,h.last,?_,h.out⟩;simp only;rw[h.tail]
theorem Twin.run{pre:List Run}(l:L8):∀{d e:Sp},Twin s pre d e->Twin s pre (d.run l) (e.run l):=by
 induction l with
 |nil=>intro d e h;exact h
 |cons c l ih=>intro d e h;rw[run_cons,run_cons];exact ih (h.step c)
end Sp
end
end Go.Proofs.YtbahfgdbjgkklaaGreatDoor
