import Derived.Test.YtbahfgdbjgkklaaGreatDoorB39
import Derived.Test.YtbahfgdbjgkklaaGreatDoorB20
import Derived.Test.YtbahfgdbjgkklaaGreatDoorB27
set_option maxRecDepth 100000
namespace Go.Proofs.YtbahfgdbjgkklaaGreatDoor
section
structure Bat where
 at_:Nat
 number:Int
 seq:Int
 first:Int
 rows:List (List V)
namespace Sv
def frames(rs:List Run):List (Nat×Fr):=rs.filterMap fun r=>match Fr.dec r.2 with
 |.ok f=>some (r.1,f)
 |.error _=>none
def said(rs:List Run):List (Int×List Col):=(frames rs).filterMap fun p=>if p.2.kind=1 then some (p.2.number,p.2.cols) else none
def sure(l:List (Int×List Col))(n:Int):Option (List Col):=match l.filter (fun p=>decide (p.1=n)) with
 | []=>none
 |p::r=>if r.all (fun q=>Sch.same p.2 q.2) then some p.2 else none
def saved(s:Int->Option (List Col))(p:Nat×Fr):Option Bat:=if p.2.kind=2 then match s p.2.number with
 |none=>none
 |some c=>match Bt.unpack c p.2.block p.2.rows with
  |.error _=>none
  |.ok l=>some ⟨p.1,p.2.number,p.2.seq,p.2.first,l⟩ else none
def bats(s:Int->Option (List Col))(rs:List Run):List Bat:=(frames rs).filterMap (saved s)
def all(b:L8):List Bat:=bats (sure (said (Sp.of b).out)) (Sp.of b).out
structure Of(r:Run)(x:Bat):Prop where
 at_:x.at_=r.1
 frame:∃f,Fr.dec r.2=.ok f∧f.kind=2∧f.number=x.number∧f.seq=x.seq∧f.first=x.first∧f.rows=(x.rows.length:Int)
end Sv
end
section
namespace Sv
def first(l:List (Int×List Col))(n:Int):Option (List Col):=(l.filter (fun p=>decide (p.1=n))).head?.map (·.2)
def bad(l:List (Int×List Col))(n:Int):Bool:=match l.filter (fun p=>decide (p.1=n)) with
 | []=>false
 |p::r=>!(r.all fun q=>Sch.same p.2 q.2)
theorem sure_eq(l:List (Int×List Col))(n:Int):sure l n=if bad l n=true then none else first l n:=by
 unfold sure bad first
 cases l.filter (fun p=>decide (p.1=n)) with
 |nil=>rfl
 |cons p r=>cases h:r.all (fun q=>Sch.same p.2 q.2) <;> simp[h]
theorem filter_snoc(l:List (Int×List Col))(x:Int×List Col)(n:Int):(l++[x]).filter (fun p=>decide (p.1=n))=l.filter (fun p=>decide (p.1=n))++if x.1=n then [x] else []:=by
 rw[List.filter_append];by_cases h:x.1=n <;> simp[h]
theorem first_snoc(l:List (Int×List Col))(x:Int×List Col)(n:Int):first (l++[x]) n=if n=x.1 then some ((first l n).getD x.2) else first l n:=by
 unfold first
 rw[filter_snoc];by_cases h:n=x.1
 ·subst h;cases l.filter (fun p=>decide (p.1=x.1)) <;> simp
 ·rw[if_neg h,if_neg (fun e=>h e.symm),List.append_nil]
theorem bad_snoc(l:List (Int×List Col))(x:Int×List Col)(n:Int):bad (l++[x]) n=(bad l n||(decide (n=x.1)&&!((first l n).all fun c=>Sch.same c x.2))):=by
 unfold bad first
 rw[filter_snoc];by_cases h:n=x.1
 ·subst h;cases l.filter (fun p=>decide (p.1=x.1)) with
  |nil=>simp
  |cons p r=>simp[List.all_append,Bool.not_and]
 ·rw[if_neg (fun e=>h e.symm),List.append_nil];simp[h]
theorem sure_mem{l:List (Int×List Col)}{n:Int}{c:List Col}(h:sure l n=some c):(n,c)∈l:=by
 unfold sure at h;split at h
 ·cases h
 ·rename_i p r hp;split at h
  ·injection h with h;have:p∈l.filter (fun p=>decide (p.1=n)):=(by rw[hp];exact List.mem_cons_self);rw[List.mem_filter] at this;have z:p.1=n:=of_decide_eq_true this.2;rw[<-h,<-z];exact this.1
  ·cases h
theorem sure_unlike:∀{l:List (Int×List Col)},l.Pairwise (fun a b=>a.1≠b.1)->∀{n:Int} {c:List Col},(n,c)∈l->sure l n=some c
 | [],_,n,c,h=>by simp at h
 |p::l,hp,n,c,h=>by
  rw[List.pairwise_cons] at hp;rcases List.mem_cons.1 h with z | z
  ·have:l.filter (fun q=>decide (q.1=n))=[]:=List.filter_eq_nil_iff.2 fun q E=>by
    have:=hp.1 q E;rw[<-z] at this;simpa using fun e=>this e.symm
   unfold sure;rw[List.filter_cons_of_pos (by rw[<-z];simp),this,<-z];rfl
  ·have D:p.1≠n:=hp.1 _ z;have:=sure_unlike hp.2 z;unfold sure at this ⊢;rw[List.filter_cons_of_neg (by simpa using D)];exact this
theorem said_snoc(rs:List Run)(r:Run):said (rs++[r])=said rs++(match Fr.dec r.2 with
  |.ok f=>if f.kind=1 then [(f.number,f.cols)] else []
  |.error _=>[]):=by
 unfold said frames;rw[List.filterMap_append,List.filterMap_append];cases h:Fr.dec r.2 with
 |error e=>simp[h]
 |ok f=>by_cases z:f.kind=1 <;> simp[h,z]
def bat1(s:Int->Option (List Col))(r:Run):Option Bat:=match Fr.dec r.2 with
 |.ok f=>saved s (r.1,f)
 |.error _=>none
theorem bats_snoc(s:Int->Option (List Col))(rs:List Run)(r:Run):bats s (rs++[r])=bats s rs++(bat1 s r).toList:=by
 unfold bats frames bat1;rw[List.filterMap_append,List.filterMap_append];cases h:Fr.dec r.2 with
 |error e=>simp[h]
 |ok f=>cases hk:saved s (r.1,f) <;> simp[h,hk]
def good(p:Int×List Col):Prop:=(0<=p.1∧p.1<2147483648)∧Sch.err p.2=0∧p.2.map Col.fix=p.2∧∀x∈p.2,x.wf
theorem dec_good{l:L8}{f:Fr}(h:Fr.dec l=.ok f)(E:f.kind=1):good (f.number,f.cols):=by
 obtain⟨I,_,D,J,_⟩:=Fr.dec_ok h;have z:=(Fr.err_open I).1;unfold Fr.err0 at z;rw[if_pos E] at z;unfold Fr.norm at D;rw[if_pos E] at D;split at z
 ·omega
 ·rename_i hw;have K:=Fr.within_iff.1 (by simpa using hw);exact⟨K,z,congrArg Fr.cols D,J.2.2.1⟩
theorem said_good(rs:List Run):∀p∈said rs,good p:=by
 intro p E;unfold said frames at E;simp only[List.mem_filterMap] at E;obtain⟨q,⟨r,_,D⟩,z⟩:=E;split at D
 ·rename_i f hf;injection D with D;subst D;dsimp only at z;split at z
  ·rename_i hk;injection z with z;rw[<-z];exact dec_good hf hk
  ·cases z
 ·cases D
theorem said_le(rs:List Run):(said rs).length<=rs.length:=Nat.le_trans (List.length_filterMap_le _ _) (List.length_filterMap_le _ _)
theorem bats_le(s:Int->Option (List Col))(rs:List Run):(bats s rs).length<=rs.length:=Nat.le_trans (List.length_filterMap_le _ _) (List.length_filterMap_le _ _)
end Sv
end
section
namespace Sv
def beyond(l:List (Int×List Col))(last:Int):Nat:=(l.filter fun p=>decide (last<p.1)).length
theorem beyond_lt{l:List (Int×List Col)}{last:Int}{k:Nat}(D:k<l.length)(z:last<l[k].1):beyond l l[k].1<beyond l last:=by
 unfold beyond;have e:l.filter (fun p=>decide (l[k].1<p.1))=(l.filter (fun p=>decide (last<p.1))).filter (fun p=>decide (l[k].1<p.1)):=by
  rw[List.filter_filter];congr 1;funext p;by_cases h:l[k].1<p.1
  ·have:last<p.1:=(by omega);simp[h,this]
  ·simp[h]
 rw[e,List.length_filter_lt_length_iff_exists];exact⟨l[k],by rw[List.mem_filter];exact⟨List.getElem_mem D,by simpa using z⟩,by simp⟩
structure Upto(l:List (Int×List Col))(m:Int)(o:List (Int×List Col)):Prop where
 rises:o.Pairwise (fun a b=>a.1<b.1)
 all:∀n c,(n,c)∈o↔n<=m∧sure l n=some c
 room:o.length+beyond l m<=l.length
section
variable {l o:List (Int×List Col)} {m last:Int} {i k:Nat}
theorem upto_nil(D:∀p∈l,0<=p.1):Upto l (-1) []:=⟨.nil,fun n c=>by
 constructor
 ·intro h;cases h
 ·rintro⟨E,z⟩;have:=D _ (sure_mem z);simp only at this;omega,by
 have:=List.length_filter_le (fun p:Int×List Col=>decide (-1<p.1)) l
 simpa[beyond] using this⟩
def Best(l:List (Int×List Col))(last:Int)(i:Nat)(b:Int):Prop :=
 (b=-1∧∀j (_:j<l.length),j<i->l[j].1<=last)∨∃k:Nat,∃_:k<l.length,b=(k:Int)∧k<i∧last<l[k].1∧(∀j (_:j<l.length),j<i->last<l[j].1->l[k].1<=l[j].1)∧∀j (_:j<l.length),j<k->l[j].1≠l[k].1
theorem best_none(l:List (Int×List Col))(last:Int):Best l last 0 (-1):=.inl ⟨rfl,fun j _ h=>by omega⟩
theorem best_skip{b:Int}(h:Best l last i b)(W:i<l.length)(V:l[i].1<=last):Best l last (i+1) b:=by
 rcases h with ⟨z,E⟩ | ⟨k,O,z,E,I,J,K⟩
 ·refine .inl ⟨z,fun j D L=>?_⟩;by_cases e:j=i
  ·subst e;exact V
  ·exact E j D (by omega)
 ·refine .inr ⟨k,O,z,by omega,I,fun j D L U=>?_,K⟩;by_cases e:j=i
  ·subst e;omega
  ·exact J j D (by omega) U
theorem best_new(E:∀j (_:j<l.length),j<i->l[j].1<=last)(I:i<l.length)(J:last<l[i].1):Best l last (i+1) (i:Nat):=by
 refine .inr ⟨i,I,rfl,by omega,J,fun j z D K=>?_,fun j z D=>?_⟩
 ·by_cases e:j=i
  ·subst e;omega
  ·have:=E j z (by omega);omega
 ·have:=E j z D;omega
theorem best_less(O:k<l.length)(D:∀j (_:j<l.length),j<i->last<l[j].1->l[k].1<=l[j].1)(I:i<l.length)(K:last<l[i].1)(U:l[i].1<l[k].1):Best l last (i+1) (i:Nat):=by
 refine .inr ⟨i,I,rfl,by omega,K,fun j z E J=>?_,fun j z E L=>?_⟩
 ·by_cases e:j=i
  ·subst e;omega
  ·have:=D j z (by omega) J;omega
 ·have:=D j z E (by omega);omega
theorem best_keep(J:k<l.length)(U:k<i)(z:last<l[k].1)(D:∀j (_:j<l.length),j<i->last<l[j].1->l[k].1<=l[j].1)(E:∀j (_:j<l.length),j<k->l[j].1≠l[k].1)(L:i<l.length)(V:¬l[i].1<l[k].1):Best l last (i+1) (k:Nat):=by
 refine .inr ⟨k,J,rfl,by omega,z,fun j I O K=>?_,E⟩;by_cases e:j=i
 ·subst e;omega
 ·exact D j I (by omega) K
theorem first_at(E:k<l.length)(z:∀j (_:j<l.length),j<k->l[j].1≠l[k].1):first l l[k].1=some l[k].2:=by
 unfold first
 rw[List.head?_filter];have:l.find? (fun p=>decide (p.1=l[k].1))=some l[k]:=by
  rw[List.find?_eq_some_iff_getElem];exact⟨by simp,k,E,rfl,fun j D=>by simpa using z j (by omega) D⟩
 rw[this];rfl
def One(l:List (Int×List Col))(m:Int)(c:List Col)(i:Nat):Bool:=(l.take i).all fun x=>!(decide (x.1=m))||Sch.same x.2 c
theorem one_succ(l:List (Int×List Col))(m:Int)(c:List Col)(i:Nat)(z:i<l.length):One l m c (i+1)=(One l m c i&&(!(decide (l[i].1=m))||Sch.same l[i].2 c)):=by
 unfold One;rw[List.take_succ_eq_append_getElem z,List.all_append];simp
theorem same_flip(s t:List Col):Sch.same s t=Sch.same t s:=by
 rw[Bool.eq_iff_iff,Sch.same_fix,Sch.same_fix];exact⟨Eq.symm,Eq.symm⟩
theorem one_all{c:List Col}(h:first l m=some c):One l m c l.length=!(bad l m):=by
 have e:One l m c l.length=(l.filter (fun p=>decide (p.1=m))).all (fun x=>Sch.same x.2 c):=by
  unfold One;rw[List.take_length,List.all_filter]
 rw[e];unfold first at h
 unfold bad;cases hf:l.filter (fun p=>decide (p.1=m)) with
 |nil=>rw[hf] at h;cases h
 |cons p r=>
  rw[hf] at h;simp only[List.head?_cons,Option.map_some,Option.some.injEq] at h;rw[<-h,List.all_cons,Fr.sameS_refl,Bool.true_and,Bool.not_not];congr 1;funext q;exact same_flip _ _
theorem upto_more(E:Upto l last o)(K:k<l.length)(U:last<l[k].1)(Z:∀j (_:j<l.length),j<l.length->last<l[j].1->l[k].1<=l[j].1)(ab:∀j (_:j<l.length),j<k->l[j].1≠l[k].1):Upto l l[k].1 (if One l l[k].1 l[k].2 l.length=true then o++[l[k]] else o):=by
 have V:=first_at K ab;have a0:=one_all V;have J:sure l l[k].1=if One l l[k].1 l[k].2 l.length=true then some l[k].2 else none:=by
  rw[sure_eq,a0,V];cases bad l l[k].1 <;> rfl
 have W:∀n c,n<=l[k].1->sure l n=some c->n<=last∨n=l[k].1:=fun n c a2 aj=>by
  obtain⟨j,X,ak⟩:=List.getElem_of_mem (sure_mem aj);have L:l[j].1=n:=by rw[ak]
  by_cases a1:last<n
  ·have:=Z j X X (by omega);exact .inr (by omega)
  ·exact .inl (by omega)
 by_cases O:One l l[k].1 l[k].2 l.length=true
 ·rw[if_pos O] at J ⊢;refine⟨?_,fun n c=>?_,?_⟩
  ·rw[List.pairwise_append];refine⟨E.rises,List.pairwise_singleton _ _,fun a ah b hb=>?_⟩;rw[List.mem_singleton.1 hb];have:=((E.all a.1 a.2).1 ah).1;omega
  ·rw[List.mem_append,List.mem_singleton,E.all n c];constructor
   ·rintro(⟨I,z⟩ | g)
    ·exact⟨by omega,z⟩
    ·have L:n=l[k].1:=(by rw[<-g]);have Y:c=l[k].2:=(by rw[<-g]);rw[L,Y];exact⟨by omega,J⟩
   ·rintro⟨I,z⟩;rcases W n c I z with D | D
    ·exact .inl ⟨D,z⟩
    ·rw[D,J] at z;injection z with z;exact .inr (by rw[D,<-z])
  ·have:=E.room;have:=beyond_lt K U;rw[List.length_append,List.length_singleton];omega
 ·rw[if_neg O] at J ⊢;refine⟨E.rises,fun n c=>?_,?_⟩
  ·rw[E.all n c];constructor
   ·rintro⟨I,z⟩;exact⟨by omega,z⟩
   ·rintro⟨I,z⟩;rcases W n c I z with D | D
    ·exact⟨D,z⟩
    ·rw[D,J] at z;cases z
  ·have:=E.room;have:=beyond_lt K U;omega
theorem upto_end(D:Upto l last o)(I:∀j (_:j<l.length),j<l.length->l[j].1<=last)(n:Int)(c:List Col):(n,c)∈o↔sure l n=some c:=by
 rw[D.all];refine⟨fun h=>h.2,fun h=>⟨?_,h⟩⟩;obtain⟨j,z,E⟩:=List.getElem_of_mem (sure_mem h);have:=I j z z;rw[E] at this;exact this
end
theorem rises_eq:∀{a b:List (Int×List Col)},a.Pairwise (fun x y=>x.1<y.1)->b.Pairwise (fun x y=>x.1<y.1)->(∀n c,(n,c)∈a↔(n,c)∈b)->a=b
 | [],[],_,_,_=>rfl
 | [],y::b,_,_,h=>by have:=(h y.1 y.2).2 List.mem_cons_self;cases this
 |x::a,[],_,_,h=>by have:=(h x.1 x.2).1 List.mem_cons_self;cases this
 |x::a,y::b,ha,hb,h=>by
  rw[List.pairwise_cons] at ha hb;have E:x=y:=by
   rcases List.mem_cons.1 ((h x.1 x.2).1 List.mem_cons_self) with e | e
   ·exact e
   ·rcases List.mem_cons.1 ((h y.1 y.2).2 List.mem_cons_self) with D | D
    ·exact D.symm
    ·have:=hb.1 _ e;have:=ha.1 _ D;simp only at *
     omega
  subst E;rw[rises_eq ha.2 hb.2 fun n c=>?_];constructor
  ·intro z;rcases List.mem_cons.1 ((h n c).1 (List.mem_cons_of_mem _ z)) with e | e
   ·have:=ha.1 _ z;rw[<-e] at this;simp only at this;omega
   ·exact e
  ·intro z;rcases List.mem_cons.1 ((h n c).2 (List.mem_cons_of_mem _ z)) with e | e
   ·have:=hb.1 _ z;rw[<-e] at this;simp only at this;omega
   ·exact e
end Sv
end
section
def fG:Col:=⟨⟨#[97]⟩,.mk 2 [],false,V0⟩
def aL:List Col:=[fG]
theorem pS:Sch.colErr [] fG=0:=Sch.col_make (by kernel_rfl) rfl (Sch.ty_leaf (by omega) (by omega) (by omega)) (fun _=>Sch.v0_fix) (fun h=>by cases h)
theorem iZ:Sch.bytes aL=[1,1,97,2,0]:=by
 unfold Sch.bytes aL fG Sch.cB;simp only[List.map_cons,List.map_nil,Sch.tyB_mk]
 kernel_rfl
theorem fS:Sch.err aL=0:=Sch.err_make (by decide) (by decide) (by
 unfold aL
 rw[Sch.colsErr,if_pos pS,Sch.colsErr]) (by rw[iZ];decide)
theorem jY:∀c∈aL,c.wf:=by
 intro c z;unfold aL at z;rcases List.mem_cons.1 z with rfl | z
 ·exact⟨by decide,Ty.wf_mk.2 ⟨by omega,fun x D=>by cases D⟩,Sch.v0_wf⟩
 ·cases z
def bw:List V:=[.mk 2 5 0 ⟨#[]⟩ []]
theorem nJ:∀v∈bw,v.wf:=by
 intro v z;unfold bw at z;rcases List.mem_cons.1 z with rfl | z
 ·exact V.wf_mk.2 ⟨by omega,by omega,by omega,Nat.zero_le _,fun x D=>by cases D⟩
 ·cases z
theorem rS:bw.map V.fix=bw:=by
 unfold bw;simp only[List.map_cons,List.map_nil,V.fix_mk,Sch.fixB_zero,V.fixL]
theorem zr:Leb.put (Leb.zig 5)=[10]:=by kernel_rfl
theorem iW:Rw.bytes bw=[10]:=by
 unfold Rw.bytes bw;simp only[List.map_cons,List.map_nil,Sch.vB_mk];simp[Sch.vH,zr]
theorem rT:Rw.err aL bw=0:=Rw.err_make fS rfl (by
 have z:Rw.vErr (.mk 2 []) (.mk 2 5 0 ⟨#[]⟩ [])=0:=Rw.vErr_make (Sch.ty_leaf (by omega) (by omega) (by omega)) (Sch.chk_make (by omega) (by unfold V.ownB;simp[Sch.fixB_zero]) (Nat.zero_le _) (by simp) (fun h=>by cases h) (fun x D=>by cases D)) (by rw[Sch.of_mk];rfl);unfold aL bw fG;rw[Rw.colsErr,if_pos z,Rw.colsErr]
 ·intro c s v r h;cases h) (by rw[iW];decide)
theorem jQ:Bt.rowsErr aL [bw]=0:=by
 rw[Bt.rowsErr,if_pos rT,Bt.rowsErr]
theorem fk:Bt.bytes [bw]=[10]:=by
 simp only[Bt.bytes,iW];rfl
theorem vK:Bt.err aL [bw]=0:=Bt.err_make (Bt.numErr_make fS (by decide) (by decide)) jQ (by rw[fk];decide)
theorem zL:Blk.pack [10]=⟨0,[0,10]⟩:=by kernel_rfl
theorem yl:Bt.pack aL [bw]=⟨0,[0,10]⟩:=by
 unfold Bt.pack;rw[if_pos vK,fk,zL]
theorem zh:Blk.unpack [0,10]=⟨0,[10]⟩:=by kernel_rfl
theorem tC:Bt.unpack aL [0,10] 1=.ok [bw]:=by
 have h:=Bt.whole_put jQ (by intro x z;rw[List.mem_singleton.1 z];exact nJ);rw[fk] at h;unfold Bt.unpack;rw[if_neg (by rw[Bt.numErr_make fS (by decide) (by decide)];decide),zh,if_neg (by decide)];show Bt.whole aL [10] 1=_;rw[show(1:Nat)=[bw].length from rfl,h,List.map_cons,List.map_nil,rS]
def bR:Fr:={ Fr0 with kind:=1,number:=3,cols:=aL }
def cD:Fr:={ Fr0 with kind:=2,number:=3,seq:=9,first:=70,rows:=1,block:=[0,10] }
def sg:L8:=[7,1,3,1,1,97,2,5,36,43,112,67]
def jk:L8:=[6,2,3,9,70,1,6,10,64,90,31,222]
theorem uV:Fr.head bR=[1,3,1,1,97,2,0]:=by
 unfold Fr.head Fr.fields;rw[if_pos (show bR.kind=1 from rfl),show bR.cols=aL from rfl,iZ]
 kernel_rfl
theorem mf:Fr.run bR=sg:=by
 unfold Fr.run;rw[uV]
 kernel_rfl
theorem mg:Fr.run cD=jk:=by decide +kernel
theorem rb:Fr.err bR=0:=by
 have z:Fr.err0 bR=0:=by
  unfold Fr.err0;rw[if_pos (show bR.kind=1 from rfl),if_neg (by decide)];exact fS
 unfold Fr.err;rw[z,if_neg (by decide),if_neg (by rw[mf];decide)]
theorem re:Fr.err cD=0:=by
 have z:Fr.err0 cD=0:=by
  unfold Fr.err0;rw[if_neg (by decide),if_pos (show cD.kind=2 from rfl),if_neg (by decide)]
 unfold Fr.err;rw[z,if_neg (by decide),if_neg (by rw[mg];decide)]
theorem uo:Fr.norm bR=bR:=by
 unfold Fr.norm;rw[if_pos (show bR.kind=1 from rfl)];have h:Col.fix fG=fG:=by
  unfold Col.fix fG;simp[V0,V.fix_mk,Sch.fixB_zero,V.fixL]
 show({ Fr0 with kind:=1,number:=3,cols:=[Col.fix fG] }:Fr)=_;rw[h];rfl
theorem uq:Fr.norm cD=cD:=rfl
theorem xo:Fr.dec sg=.ok bR:=by
 have h:=Fr.dec_run rb jY;rw[mf,uo] at h;exact h
theorem rk:Fr.dec jk=.ok cD:=by
 have h:=Fr.dec_run re (fun c z=>by cases z);rw[mg,uq] at h;exact h
def ey:L8:=[1,0,2]++(0::(jk++[0]))++[7,0]++(0::(sg++[0]))
theorem yg:(Sp.of ey).out=[(1,[2]),(3,jk),(16,[7]),(19,sg)]:=by decide +kernel
theorem zH:Fr.dec [2]=.error 30:=by kernel_rfl
theorem zG:Fr.dec [7]=.error 30:=by kernel_rfl
theorem oz:Sv.frames (Sp.of ey).out=[(3,cD),(19,bR)]:=by
 rw[yg];simp only[Sv.frames,List.filterMap_cons,List.filterMap_nil,zH,zG,rk,xo]
theorem tK:Sv.said (Sp.of ey).out=[(3,aL)]:=by
 unfold Sv.said;rw[oz];rfl
theorem pg:Sv.sure (Sv.said (Sp.of ey).out) 3=some aL:=by
 rw[tK];rfl
theorem yN:Sv.all ey=[⟨3,3,9,70,[bw]⟩]:=by
 unfold Sv.all Sv.bats;rw[oz];have h:Sv.saved (Sv.sure (Sv.said (Sp.of ey).out)) (3,cD)=some ⟨3,3,9,70,[bw]⟩:=by
  unfold Sv.saved;rw[if_pos (show cD.kind=2 from rfl),show(3,cD).2.number=(3:Int) from rfl,pg]
  show(match Bt.unpack aL [0,10] 1 with
   |.error _=>none
   |.ok l=>some (⟨3,3,9,70,l⟩:Bat))=_
  rw[tC]
 have z:Sv.saved (Sv.sure (Sv.said (Sp.of ey).out)) (19,bR)=none:=by
  unfold Sv.saved;rw[if_neg (show ¬bR.kind=2 by decide)]
 simp only[List.filterMap_cons,List.filterMap_nil,h,z]
theorem wK:∀{l:List (Int×List Col)},l.Pairwise (fun a b=>a.1<b.1)->(∀n c,(n,c)∈l↔Sv.sure (Sv.said (Sp.of ey).out) n=some c)->l=[(3,aL)]
 | [],_,h=>by have:=(h 3 aL).2 pg;simp at this
 | [x],_,h=>by have:=(h 3 aL).2 pg;simp at this;rw[<-this]
 |x::y::r,hp,h=>by
  have D:∀z,z∈x::y::r->z.1=3:=fun z E=>by
   have:=Sv.sure_mem ((h z.1 z.2).1 E);rw[tK] at this;simp at this;exact this.1
  have I:=(List.pairwise_cons.1 hp).1 y (by simp);have J:=D x (by simp);have K:=D y (by simp);omega
theorem xw:Sv.all (0::(jk++[0]))=[]:=by
 have D:(Sp.of (0::(jk++[0]))).out=[(0,jk)]:=by decide +kernel
 unfold Sv.all Sv.bats Sv.said;rw[D];have z:Sv.frames [(0,jk)]=[(0,cD)]:=by
  simp only[Sv.frames,List.filterMap_cons,List.filterMap_nil,rk]
 rw[z];rfl
end
section
open Go.RowKit
def dZ(F:Nat->Prop)(w:World)(P:World->Prop):Prop:=∀w',Aside F w w'->P w'
theorem dZ.here{F:Nat->Prop}{w:World}{P:World->Prop}(h:dZ F w P):P w:=h w (Aside.refl _ _)
theorem dZ.step{F z:Nat->Prop}{w w':World}{P:World->Prop}(h:dZ F w P)(I:Aside F w w')(E:∀k,z k->F k∨w.1.size<=k):dZ z w' P:=fun O D=>h O (I.trans D fun i L K=>(E i K).elim id (fun J=>absurd L (Nat.not_lt_of_le J)))
theorem lO(k:Nat):∀us:List (List Value),(∀u∈us,u.length=k)->∀(j:Nat) (u:List Value),us[j]?=some u->∀m,m<k->us.flatten[j*k+m]?=u[m]?
 | [],_,j,u,h,_,_=>by simp at h
 |x::us,h,0,u,hu,m,hm=>by
  have z:=h x List.mem_cons_self;simp at hu;subst hu;rw[List.flatten_cons,Nat.zero_mul,Nat.zero_add,List.getElem?_append_left (by omega)]
 |x::us,h,j+1,u,hu,m,hm=>by
  have z:=h x List.mem_cons_self;rw[List.flatten_cons,List.getElem?_append_right (by rw[z,Nat.add_mul];omega),z,show(j+1)*k+m-k=j*k+m by rw[Nat.add_mul];omega];exact lO k us (fun y D=>h y (List.mem_cons_of_mem _ D)) j u (by simpa using hu) m hm
section
variable {α:Type} {T S:TypeId} {k:Nat} {P:α->List Value->World->Prop} {w w':World} {B:Nat} {v:Value} {xs:List α}
structure Lot(T:TypeId)(k:Nat)(P:α->List Value->World->Prop)(w:World)(B:Nat)(v:Value)(xs:List α):Prop where
 out:∃us:List (List Value),us.length=xs.length∧(∀u∈us,u.length=k)∧w.ownsRow B T k v xs.length us.flatten∧∀j (hj:j<xs.length),∃u,us[j]?=some u∧dZ (fun i=>v.ownBlock=some i) w (P xs[j] u)
theorem fU(w:World)(B:Nat):Lot T k P w B (.slice none 0 0) []:=⟨[],rfl,by simp,⟨by simp,.inl ⟨rfl,rfl⟩⟩,fun j z=>by simp at z⟩
theorem Lot.lt(h:Lot T k P w B v xs):∀i,v.ownBlock=some i->B<=i∧i<w.1.size:=by
 obtain⟨us,_,_,z,_⟩:=h.out;exact World.ownsRow.lt z
theorem Lot.aside{F:Nat->Prop}(h:Lot T k P w B v xs)(Y:Aside F w w')(ab:∀i,v.ownBlock=some i->¬F i)(X:∀x u,dZ (fun i=>v.ownBlock=some i) w (P x u)->dZ (fun i=>v.ownBlock=some i) w' (P x u)):Lot T k P w' B v xs:=by
 obtain⟨us,K,L,z,O⟩:=h.out;refine⟨us,K,L,⟨z.1,?_⟩,fun j Z=>?_⟩
 ·rcases z.2 with U | ⟨g,cap,E,rfl,V,D,W⟩
  ·exact .inl U
  ·exact .inr ⟨g,cap,E,rfl,V,by rw[Y.block g (Array.getElem?_eq_some_iff.1 D).1 (ab g rfl)];exact D,W⟩
 ·obtain⟨u,I,J⟩:=O j Z;exact⟨u,I,X _ _ J⟩
theorem Lot.on(h:Lot T k P w B v xs)(hb:Below w.1.size w w'):Lot T k P w' B v xs:=h.aside (al hb (fun _=>False)) (fun _ _ z=>z) fun _ _ E=>E.step (al hb _) (fun _ D=>.inl D)
theorem Lot.form(h:Lot T k P w B v xs):∃q c,v=.slice q xs.length c∧xs.length<=c:=by
 obtain⟨us,_,_,z,_⟩:=h.out;rcases z.2 with ⟨rfl,D⟩ | ⟨g,cap,I,rfl,_,_,E,_⟩
 ·exact⟨none,0,by rw[D],by omega⟩
 ·exact⟨_,_,rfl,E⟩
theorem Lot.cell(h:Lot T k P w B v xs)(j:Nat)(I:j<xs.length):∃g cap u,v=.slice (some ⟨g,0,none⟩) xs.length cap∧xs.length<=cap∧B<=g∧g<w.1.size∧u.length=k∧(∀m,m<k->w.cell? ⟨g,j*k+m,none⟩=u[m]?)∧P xs[j] u w:=by
 obtain⟨us,Z,D,L,O⟩:=h.out;obtain⟨u,z,J⟩:=O j I;rcases L.2 with ⟨_,ab⟩ | ⟨g,cap,Y,rfl,U,E,V,_,ah,K⟩
 ·omega
 ·refine⟨g,cap,u,rfl,V,U,(Array.getElem?_eq_some_iff.1 E).1,D u (List.mem_of_getElem? z),fun m X=>?_,J.here⟩;have W:j*k+m<xs.length*k:=by
   have:=Nat.mul_le_mul_right k (show j+1<=xs.length from I);rw[Nat.add_mul] at this;omega
  rw[<-lO k us D j u z m X,<-K,List.getElem?_take_of_lt W];simp[World.cell?,E]
theorem iw{ad H b:Nat}{J:Value}(a6:(Tryz.prog.info? T).map (fun i=>(i.zero,i.size,i.bytes))=some (some J,k,b))(a2:Tryz.prog.underlying S=some (.slice T))(bp:J.cells.size=k)(a9:0<k)(be:Lot T k P w B v xs)(x:α)(C:AV)(L:C.size=k)(Z:∀a∈C.toList,a.oneCell'=true)(a1:dZ (fun i=>v.ownBlock=some i) w (P x C.toList))(a3:w.1[ad]?=some (.cells C T (0,0)))(bb:(xs.length+1)*b<=140737488355328)(bq:xs.length<=1000000000)(aj:B<=w.1.size)(ak:w.1.size=H){ops:Array Oper}{rest:List Oper}{o:Oper}{a:Act}{Q:Exit->Act->World->Prop}{y q:Operand}(a5:o.guard=none)(bc:o.op=Op.call { callee:=Callee.builtin Builtin.append,args:=#[y,q],argTypes:=#[S,S] })(bi:a.eval y=v)(bk:a.eval q=.slice (some ⟨ad,0,none⟩) 1 1)(a0:∀g cap w',Lot T k P w' B (.slice (some ⟨g,0,none⟩) (xs.length+1) cap) (xs++[x])->Aside (fun j=>v.ownBlock=some j) w w'->(v.ownBlock=some g∨g=H)->wpList Tryz.prog ops Q rest (a.put o.dst (.slice (some ⟨g,0,none⟩) (xs.length+1) cap)) w'):
  wpList Tryz.prog ops Q (o::rest) a w:=by
 obtain⟨i,E,bn,bj,a4⟩:=info_parts a6;obtain⟨us,K,V,W,X⟩:=be.out
 refine wpList_append_lies w a5 y q S bc B T i J k b a2 E bn bj a4 bp a9 v xs.length us.flatten bi W ⟨ad,0,none⟩ 1 1 _ bk (by simp[L])
  (World.news_of_block a3) Z (by decide) (by unfold maxLen;omega) bb aj H ak fun g cap w' ab ah D _=>?_
 have I:=cK ah;have O:∀i,(Value.slice (some ⟨g,0,none⟩) (xs.length+1) cap).ownBlock=some i->v.ownBlock=some i∨w.1.size<=i:=fun i E=>by
  simp only[Value.ownBlock,Option.some.injEq] at E;subst E;rcases D with D | D
  ·exact .inl D
  ·exact .inr (by omega)
 refine a0 g cap w' ⟨us++[C.toList],by simp[K],fun u z=>?_,?_,fun j a7=>?_⟩ I D
 ·rcases List.mem_append.1 z with z | z
  ·exact V u z
  ·simp at z;rw[z];simpa using L
 ·rw[List.length_append,List.length_singleton,List.flatten_append];simpa using ab
 ·by_cases U:j<xs.length
  ·obtain⟨u,f1,Y⟩:=X j U;refine⟨u,by rw[List.getElem?_append_left (by omega)];exact f1,?_⟩;rw[List.getElem_append_left U];exact Y.step I O
  ·have a8:j=xs.length:=(by rw[List.length_append,List.length_singleton] at a7;omega);subst a8;refine⟨C.toList,by rw[List.getElem?_append_right (by omega),K];simp,?_⟩;simp only[List.getElem_append_right gQx,Nat.sub_self,List.getElem_cons_zero];exact a1.step I O
end
end
section
open Go.RowKit Go.Maps
theorem oh:Keyed Tryz.prog 2:=int_keyed Tryz.underlying2
def eB:Value:=.agg #[.slice none 0 0]
theorem rG(w:World):(zeroValue 29).run Tryz.prog w=.ok eB w:=by kernel_rfl
def iG(v:Value):Option (DataW Value×List MemPlace):=some (.held v,[])
def eO(n:Int):Lit:=.int .i64 n
theorem eN{a b:Int}(h:eO a=eO b):a=b:=by
 unfold eO at h;injection h
theorem kg{n:Int}(h:Fr.i64 n):keyOf Tryz.prog 2 (.int .i64 n)=some (eO n):=keyOf_int_mk Tryz.underlying2 (by
 show(decide _&&decide _)=true;rw[Bool.and_eq_true];exact⟨decide_eq_true h.1,decide_eq_true h.2⟩)
def rD(D:DataW Value)(g:Int->Option Value):Prop:=∀m,Maps.has D (eO m)=(g m).isSome∧∀v,D.atKey (eO m) (.held v)=.held ((g m).getD v)
structure KM(w:World)(M n:Nat)(g:Int->Option Value):Prop where
 out:∃D:DataW Value,w.ownsMap Tryz.prog 2 iG M n D∧rD D g
structure RM(w:World)(M r n:Nat)(g:Int->Option Value)(ns:List Int)(cnt:Nat):Prop where
 out:∃D left,w.ranges Tryz.prog 2 iG M r n D left cnt∧rD D g∧∀m,left (eO m)=((g m).isSome&&!decide (m∈ns))
section
variable {w w':World} {M n r cnt:Nat} {g:Int->Option Value} {ns:List Int}
theorem qW(w:World):KM (w.alloc (.map #[] 0)) w.1.size 0 (fun _=>none):=⟨.map [],World.ownsMap_made _ _ _ _,fun _=>⟨rfl,fun _=>rfl⟩⟩
theorem KM.lt(h:KM w M n g):M<w.1.size:=by
 obtain⟨D,z,_⟩:=h.out;exact z.lt
theorem KM.aside{F:Nat->Prop}(h:KM w M n g)(K:Aside F w w')(J:¬F M):KM w' M n g:=by
 obtain⟨z,⟨es,clock,D,E⟩,I⟩:=h.out;exact⟨z,⟨es,clock,(K.block M h.lt J).trans D,E⟩,I⟩
theorem KM.on(h:KM w M n g)(hb:Below w.1.size w w'):KM w' M n g:=h.aside (al hb (fun _=>False)) (fun z=>z)
theorem KM.eq{z:Int->Option Value}(h:KM w M n g)(D:∀m,z m=g m):KM w M n z:=by
 rw[show z=g from funext D];exact h
theorem KM.look(h:KM w M n g){m:Int}(I:Fr.i64 m):(Instr.lookup 90 (.map (some M)) (.int .i64 m) true).run Tryz.prog w=.ok (.tuple #[(g m).getD eB,.bool (g m).isSome]) w:=by
 obtain⟨K,E,D⟩:=h.out;obtain⟨v,ps,J,z⟩:=E.look_ok oh Tryz.underlying90 (rG w) (zd:=.held eB) (zp:=[]) rfl (kg I);rw[(D m).2] at z;unfold iG at z;injection z with z;injection z with z _;injection z with z;rw[J,z,(D m).1]
theorem jF(h:w.mapTurned w' M):Aside (fun k=>k=M) w w'∧w'.1.size=w.1.size:=by
 have z:=h.grown;refine⟨⟨z.os,z.tape,z.output,z.size,fun k I E=>z.block k I (fun D=>E (by injection D))⟩,?_⟩;obtain⟨es,clock,K,J,_,e⟩:=h;rw[e];simp[Go.ChangeMaps.setBlock]
theorem KM.put(h:KM w M n g){m:Int}(K:Fr.i64 m)(V:n<1000000000)(v:Value):∃w',(Instr.mapUpdate 90 (.map (some M)) (.int .i64 m) v).run Tryz.prog w=.ok () w'∧KM w' M (n+1) (fun k=>if k=m then some v else g k)∧Aside (fun k=>k=M) w w'∧w'.1.size=w.1.size:=by
 obtain⟨U,D,E⟩:=h.out;obtain⟨w',O,L,J⟩:=D.store oh Tryz.underlying90 (by unfold maxLen;omega) (kg K) (val:=v) (d:=.held v) (ps:=[]) rfl;refine⟨w',O,⟨_,L,fun k=>?_⟩,jF J⟩;dsimp only;by_cases z:k=m
 ·subst z;rw[if_pos rfl,has_put_same D.isMap (by trivial)];exact⟨rfl,fun I=>by rw[atKey_put_same D.isMap (by trivial)];rfl⟩
 ·rw[if_neg z,has_put_other (fun e=>z (eN e))];exact⟨(E k).1,fun I=>by rw[atKey_put_other (fun e=>z (eN e))];exact(E k).2 I⟩
theorem RM.left(h:RM w M r n g ns cnt):w.rangeLeft M r=cnt:=by
 obtain⟨D,left,z,_⟩:=h.out;exact z.left_eq
theorem RM.owns(h:RM w M r n g ns cnt):KM w M n g:=by
 obtain⟨z,left,D,E,_⟩:=h.out;exact⟨z,D.owns,E⟩
theorem RM.lt(h:RM w M r n g ns cnt):r<w.1.size∧r≠M:=by
 obtain⟨D,left,z,_⟩:=h.out;exact⟨z.lt,z.ne⟩
theorem RM.aside{F:Nat->Prop}(h:RM w M r n g ns cnt)(z:Aside F w w')(U:¬F M)(V:¬F r):RM w' M r n g ns cnt:=by
 have X:=h.owns.lt;have Y:=h.lt.1;obtain⟨D,left,⟨es,clock,Z,seen,c0,E,I,J,K,L,O⟩,W⟩:=h.out;exact⟨D,left,⟨es,clock,Z,seen,c0,(z.block M X U).trans E,I,J,K,(z.block r Y V).trans L,O⟩,W⟩
theorem RM.on(h:RM w M r n g ns cnt)(hb:Below w.1.size w w'):RM w' M r n g ns cnt:=h.aside (al hb (fun _=>False)) (fun z=>z) (fun z=>z)
variable {ops:Array Oper} {rest:List Oper} {o:Oper} {a:Act} {Q:Exit->Act->World->Prop} {x y:Operand}
theorem tz(h:KM w M n g){m:Int}(U:Fr.i64 m)(O:o.guard=none)(W:o.op=Op.call { callee:=Callee.builtin Builtin.delete,args:=#[x,y],argTypes:=#[90,2] })(X:a.eval x=.map (some M))(Y:a.eval y=.int .i64 m)(L:∀w',KM w' M n (fun k=>if k=m then none else g k)->Aside (fun k=>k=M) w w'->w'.1.size=w.1.size->wpList Tryz.prog ops Q rest (a.put o.dst (.tuple #[])) w'):wpList Tryz.prog ops Q (o::rest) a w:=by
 obtain⟨J,K,D⟩:=h.out;refine wpList_delete_own w O x y _ _ W 29 oh Tryz.underlying90 iG M n J X K _ _ Y (kg U) fun w' V E=>L w' ⟨_,V,fun k=>?_⟩ (jF E).1 (jF E).2;dsimp only;by_cases z:k=m
 ·subst z;rw[if_pos rfl,has_del_same];exact⟨rfl,fun I=>by rw[atKey_del_same];rfl⟩
 ·rw[if_neg z,has_del_other (fun e=>z (eN e))];exact⟨(D k).1,fun I=>by rw[atKey_del_other (fun e=>z (eN e))];exact(D k).2 I⟩
theorem tu(h:KM w M n g){m:Int}(O:Fr.i64 m)(U:n<1000000000)(v:Value){z:Operand}(L:o.guard=none)(V:o.op=Op.mapUpdate 90 x y z)(X:a.eval x=.map (some M))(Y:a.eval y=.int .i64 m)(Z:a.eval z=v)(J:∀w',KM w' M (n+1) (fun k=>if k=m then some v else g k)->Aside (fun k=>k=M) w w'->w'.1.size=w.1.size->wpList Tryz.prog ops Q rest (a.put o.dst undef) w'):wpList Tryz.prog ops Q (o::rest) a w:=by
 obtain⟨w',W,D,E,I⟩:=h.put O U v;refine wpList_plain L fun ab K=>?_;unfold Oper.wp;simp[execOp,V,X,Y,Z,W,Result.andThen];exact K _ _ (J w' D E I)
theorem KM.drewN(h:KM w M n g)(k:Nat):KM (w.drewN k) M n g:=⟨h.out⟩
theorem jB(h:KM w M n g)(K:o.guard=none)(O:o.op=Op.range 90 x)(W:a.eval x=.map (some M))(I:∀w' cnt,cnt<=n->RM w' M w.1.size n g [] cnt->Below w.1.size w w'->w'.1.size=w.1.size+1->wpList Tryz.prog ops Q rest (a.put o.dst (.pointer (some ⟨w.1.size,0,none⟩))) w'):wpList Tryz.prog ops Q (o::rest) a w:=by
 obtain⟨z,D,E⟩:=h.out;refine wpList_range_own w K x _ O 2 29 oh Tryz.underlying90 iG M n z W D fun w' U L V=>I w' _ D.size_le ⟨z,_,U,E,fun m=>?_⟩ ((cK L).below gQx (fun k _ J=>by cases J)) V;rw[(E m).1];simp
theorem lh(h:RM w M r n g ns cnt)(a3:o.guard=none)(bc:o.op=Op.next x false)(bk:a.eval x=.pointer (some ⟨r,0,none⟩))(aj:(∀m v,g m=some v->m∈ns)->wpList Tryz.prog ops Q rest (a.put o.dst (.tuple #[.bool false])) w)(ak:∀(m:Int) (c:Value) (w':World) (E:Nat),Fr.i64 m->g m=some c->m∉ns->RM w' M r n g (ns++[m]) E->E<cnt->Aside (fun k=>k=r) w w'->w'.1.size=w.1.size->(Instr.entry (.pointer (some ⟨r,0,none⟩))).run Tryz.prog w'=.ok (.tuple #[.int .i64 m,c]) w'->wpList Tryz.prog ops Q rest (a.put o.dst (.tuple #[.bool true,.int .i64 m,c])) w'):
  wpList Tryz.prog ops Q (o::rest) a w:=by
 obtain⟨D,left,ah,Z,L⟩:=h.out
 refine wpList_next_ranges w a3 x bc 2 oh iG (Value.int .i64) (id:Value->Value) (fun key bn I=>by obtain⟨z,rfl,_⟩:=Maps.keyOf_int_inv Tryz.underlying2 I;exact⟨z,rfl⟩) (fun v y _=>⟨v,rfl⟩) M r n D left cnt bk ah
  (fun _ a6=>aj fun m v a9=>?_) (fun m c bn y w' E a5 a7 V a0 be a8 a4 bi a2=>?_)
 ·have:=a6 (eO m);rw[L m,a9] at this;simpa using this
 ·obtain⟨bp,K,rfl,bj⟩:=Maps.keyOf_int_inv Tryz.underlying2 a5;injection K with _ K;subst K;have I:=L m;rw[show left (eO m)=true from a7] at I;have U:=I.symm;rw[Bool.and_eq_true] at U;have bb:m∉ns:=by simpa using U.2
  obtain⟨X,ab⟩:=Option.isSome_iff_exists.1 U.1;have a1:X=c:=by
   have Y:=(Z m).2 eB;rw[ab] at Y;have J:=a0 (.held eB);rw[show D.atKey (Lit.int .i64 m) (.held eB)=D.atKey (eO m) (.held eB) from rfl,Y] at J;injection V with V;rw[<-V] at J;injection J
  subst a1;refine ak m X w' E ?_ ab bb ⟨D,_,be,Z,fun z=>?_⟩ a8 ((cK a4).mono (fun i _ O=>by injection O with O;exact O.symm)) bi a2
  ·have:(decide _&&decide _)=true:=bj;rw[Bool.and_eq_true] at this;exact⟨of_decide_eq_true this.1,of_decide_eq_true this.2⟩
  ·show(left (eO z)&&!(eO z).sameKey (eO m))=_;rw[L z];by_cases W:z=m
   ·subst W;rw[WideAt.sameKey_self (by trivial)];simp
   ·rw[Maps.sameKey_ne (fun e=>W (eN e))];cases g z <;> simp[W]
theorem KM.obj(h:KM w M n g):∃es clock,w.1[M]?=some (.map es clock):=by
 obtain⟨D,⟨es,clock,z,E⟩,I⟩:=h.out;exact⟨es,clock,z⟩
theorem KM.off(h:KM w M n g){i:Nat}{C:AV}{T:TypeId}{f:Nat×Nat}(z:w.1[i]?=some (.cells C T f)):i≠M:=by
 obtain⟨es,clock,D⟩:=h.obj;intro E;rw[E,D] at z;cases z
end
end
end Go.Proofs.YtbahfgdbjgkklaaGreatDoor
