import Derived.Test.YtngmnfdaedlodaaGreatDoorC2
namespace Go.Proofs.YtngmnfdaedlodaaGreatDoor
open Except renaming error->I
open Go renaming World->U
variable{a c f' fr g i most n:Nat}{w w':U}{l p t:L8}{q:OA}{vs:List V}{v:V}
section
namespace Rw
def vErr(t:Ty)(v:V):Nat:=if chk 1 v≠0 then chk 1 v else if Sch.is v t then 0 else 80
def encErr(t:Ty)(v:V):Nat:=if Ty.check 1 t≠0 then Ty.check 1 t else vErr t v
def encB(t:Ty)(v:V):L8:=if encErr t v=0 then Sch.vB v else []
def colsErr:List Col->List V->Nat
 |c::s,v::r=>if vErr c.ty v=0 then colsErr s r else vErr c.ty v
 |_,_=>0
def bytes(vs:List V):L8:=(vs.map Sch.vB).flatten
def err(s:List Col)(vs:List V):Nat:=if Sch.err s≠0 then Sch.err s else if vs.length≠s.length then 80 else if colsErr s vs≠0 then colsErr s vs else if 1024<(bytes vs).length then 2 else 0
def out(s:List Col)(vs:List V):L8:=if err s vs=0 then bytes vs else []
def rd:List Col->L8->Except Nat (List V×Nat)
 | [],_=>.ok ([],0)
 |c::s,l=>match Sch.rdV c.ty l with
  |I e=>I e
  |.ok (v,k)=>match rd s (l.drop k) with
   |I e=>I e
   |.ok (vs,j)=>.ok (v::vs,k+j)
def read(s:List Col)(l:L8)(a:Int):Except Nat (List V×Nat):=if Sch.err s≠0 then I (Sch.err s) else if a<0∨(l.length:Int)<a then I 30 else match rd s (l.drop a.toNat) with
 |I e=>I e
 |.ok (vs,k)=>if 1024<k then I 2 else .ok (vs,a.toNat+k)
theorem vErr_zero{t:Ty}(h:vErr t v=0):Ty.check 1 t=0∧chk 1 v=0∧Sch.of v t=true:=by
 unfold vErr at h;split at h
 ·next h0=>exact absurd h h0
 ·split at h
  ·next h1=>
   unfold Sch.is at h1;simp only[Bool.and_eq_true,decide_eq_true_eq] at h1;exact⟨h1.1.1,h1.1.2,h1.2⟩
  ·omega
theorem vErr_make{t:Ty}(o:Ty.check 1 t=0)(y:chk 1 v=0)(A:Sch.of v t=true):vErr t v=0:=by
 unfold vErr;rw[AF (by omega),AG];unfold Sch.is;rw[AR o,AR y,A];rfl
theorem bytes_cons(v:V)(r:List V):bytes (v::r)=Sch.vB v++bytes r:=rfl
theorem bytes_fix(vs:List V):bytes (vs.map V.fix)=bytes vs:=by
 unfold bytes;rw[List.map_map];congr 1;exact List.map_congr_left (fun v _=>Sch.vB_fix v)
theorem rd_put(r:L8):∀(s:List Col) (vs:List V),vs.length=s.length->colsErr s vs=0->(∀v∈vs,v.wf)->rd s (bytes vs++r)=.ok (vs.map V.fix,(bytes vs).length)
 | [],[],_,_,_=>rfl
 | [],_::_,h,_,_=>by simp at h
 |_::_,[],h,_,_=>by simp at h
 |c::s,v::vs,h,he,hw=>by
  have o:vErr c.ty v=0:=by
   rw[colsErr] at he;split at he
   ·assumption
   ·next h=>exact absurd he h
  have E:colsErr s vs=0:=by rw[colsErr,AG o] at he;exact he
  obtain⟨y,A,D⟩:=vErr_zero o;rw[rd,bytes_cons,AN,Sch.rdV_put c.ty 1 v _ y A D (hw v (by simp))];dsimp only;rw[List.drop_left,rd_put r s vs (by simpa using h) E (fun x J=>hw x (by simp[J]))];simp
theorem rd_ok:∀(s:List Col) (l:L8) (vs:List V) (k:Nat),(∀c∈s,Ty.check 1 c.ty=0)->rd s l=.ok (vs,k)->vs.length=s.length∧k=(bytes vs).length∧(∃r,l=bytes vs++r)∧colsErr s vs=0∧∀v∈vs,V.fix v=v∧v.wf
 | [],l,vs,k,_,h=>by
  rw[rd] at h;injection h with h;injection h with h1 h2;subst h1 h2;exact⟨rfl,rfl,⟨l,rfl⟩,rfl,fun v y=>by cases y⟩
 |c::s,l,vs,k,ht,h=>by
  rw[rd] at h;split at h
  ·cases h
  ·next v k1 y=>
   split at h
   ·cases h
   ·next vs' j hr=>
    injection h with h;injection h with h1 h2;subst h1 h2;obtain⟨A,⟨ah,D⟩,E,J,K,L⟩:=Sch.rdV_ok c.ty 1 l v k1 (ht c (by simp)) y;obtain⟨M,Q,⟨ai,S⟩,X,Z⟩:=rd_ok s (l.drop k1) vs' j (fun x o=>ht x (by simp[o])) hr;have ab:l.drop k1=ah:=(by rw[D,A,List.drop_left]);refine⟨by simp[M],by rw[bytes_cons,AH,A,Q],⟨ai,by rw[bytes_cons,AN,<-S,ab];exact D⟩,?_,fun x o=>?_⟩
    ·rw[colsErr,AG (vErr_make (ht c (by simp)) E J)];exact X
    ·rcases List.mem_cons.1 o with rfl | o
     ·exact⟨K,L⟩
     ·exact Z x o
theorem err_open{s:List Col}(h:err s vs=0):Sch.err s=0∧vs.length=s.length∧colsErr s vs=0∧(bytes vs).length<=1024:=by
 unfold err at h;split at h
 ·next h0=>exact absurd h h0
 ·next h0=>
  split at h
  ·omega
  ·next h1=>
   split at h
   ·next h2=>exact absurd h h2
   ·next h2=>
    split at h
    ·omega
    ·next h3=>exact⟨by omega,by omega,by omega,by omega⟩
theorem err_make{s:List Col}(o:Sch.err s=0)(y:vs.length=s.length)(A:colsErr s vs=0)(D:(bytes vs).length<=1024):err s vs=0:=by
 unfold err;rw[AF (by omega),AF (by omega),AF (by omega),AF (by omega)]
theorem types_ok{s:List Col}(h:Sch.err s=0):∀c∈s,Ty.check 1 c.ty=0:=fun c y=>by
 obtain⟨l',o⟩:=Sch.colsErr_mem s [] (Sch.err_open h).2.2.1 c y;exact(Sch.col_open o).2.2.1
theorem read_put{s:List Col}(h:err s vs=0)(A:∀v∈vs,v.wf)(a r:L8):read s (a++(bytes vs++r)) (a.length:Int)=.ok (vs.map V.fix,a.length+(bytes vs).length):=by
 obtain⟨D,o,y,E⟩:=err_open h;unfold read;rw[AF (by omega),AF (by rw[AH];omega),Int.toNat_natCast,List.drop_left,rd_put r s vs o y A];dsimp only;rw[AF (by omega)]
theorem read_ok{s:List Col}{a:Int}{k:Nat}(h:read s l a=.ok (vs,k)):0<=a∧a<=l.length∧k=a.toNat+(bytes vs).length∧k<=l.length∧(l.drop a.toNat).take (bytes vs).length=bytes vs∧err s vs=0∧∀v∈vs,V.fix v=v∧v.wf:=by
 unfold read at h;split at h
 ·cases h
 ·next h0=>
  split at h
  ·cases h
  ·next h1=>
   split at h
   ·cases h
   ·next vs' j hr=>
    split at h
    ·cases h
    ·next h2=>
     injection h with h;injection h with h3 h4;subst h3 h4;have y:Sch.err s=0:=(by omega);obtain⟨A,D,⟨r,o⟩,E,J⟩:=rd_ok s _ _ _ (types_ok y) hr;have K:=congrArg List.length o;rw[AL,AH] at K;refine⟨by omega,by omega,by rw[D],by omega,by rw[o,List.take_left],err_make y A E (by omega),J⟩
theorem begins{s:List Col}{q r:List V}(L:err s q=0)(M:err s r=0)(wq:∀v∈q,v.wf)(wr:∀v∈r,v.wf):(∃t,bytes r=bytes q++t)↔q.map V.fix=r.map V.fix:=by
 obtain⟨_,y,A,_⟩:=err_open L;obtain⟨_,D,E,_⟩:=err_open M;constructor
 ·rintro⟨t,Q⟩;have J:=rd_put t s q y A wq;have o:=rd_put [] s r D E wr;rw[Az,Q] at o;rw[J] at o;injection o with o;injection o with o _
 ·intro K;refine⟨[],?_⟩;rw[Az,<-bytes_fix r,<-bytes_fix q,K]
end Rw
end
section
namespace Rw
end Rw
end
namespace Blk
def copyB:Nat->Nat->L8->L8
 |0,_,out=>out
 |n+1,d,out=>copyB n d (out++[out.getD (out.length-d) 0])
theorem copyB_length(n d:Nat)(out:L8):(copyB n d out).length=out.length+n:=by
 induction n generalizing out with
 |zero=>rfl
 |succ n ih=>rw[copyB,ih];simp;omega
theorem copyB_snoc(n d:Nat)(out:L8):copyB (n+1) d out=copyB n d out++[(copyB n d out).getD ((copyB n d out).length-d) 0]:=by
 induction n generalizing out with
 |zero=>rfl
 |succ n ih=>rw[copyB,ih];rfl
structure Tk where
 err:Nat
 out:L8
 rest:L8
def takeL(out t:L8)(n:Nat):Tk :=
 if n=0 then ⟨5,[],[]⟩ else if 2048-out.length<n then ⟨2,[],[]⟩ else if t.length<n then ⟨30,[],[]⟩ else ⟨0,out++t.take n,t.drop n⟩
def takeM(out t:L8)(n:Nat):Tk :=
 if n<4∨255<n then ⟨5,[],[]⟩
 else if (Leb.get t).err≠0 then ⟨(Leb.get t).err,[],[]⟩
 else if (Leb.get t).n=0∨1024<(Leb.get t).n∨out.length<(Leb.get t).n then ⟨5,[],[]⟩
 else if 2048-out.length<n then ⟨2,[],[]⟩
 else ⟨0,copyB n (Leb.get t).n out,t.drop (Leb.get t).k⟩
def step(out t:L8):Tk :=
 if (Leb.get t).err≠0 then ⟨(Leb.get t).err,[],[]⟩
 else if (Leb.get t).n % 2=0 then takeL out (t.drop (Leb.get t).k) ((Leb.get t).n / 2)
 else takeM out (t.drop (Leb.get t).k) ((Leb.get t).n / 2)
structure Res where
 err:Nat
 out:L8
def toksF:Nat->L8->L8->Res
 |_,out,[]=>⟨0,out⟩
 |0,_,_::_=>⟨0,[]⟩
 |f+1,out,c::r=>if (step out (c::r)).err≠0 then ⟨(step out (c::r)).err,[]⟩ else toksF f (step out (c::r)).out (step out (c::r)).rest
def toks(out t:L8):Res:=toksF t.length out t
def unpack:L8->Res
 | []=>⟨4,[]⟩
 |c::r=>if c.toNat=1 then toks [] r else if c.toNat≠0 then ⟨5,[]⟩ else if 2048<r.length then ⟨2,[]⟩ else ⟨0,r⟩
theorem takeL_ok{out:L8}(h:(takeL out t n).err=0)(o:out.length<=2048):(takeL out t n).out.length<=2048∧(takeL out t n).rest.length<=t.length:=by
 unfold takeL at h ⊢;split at h
 ·cases h
 ·split at h
  ·cases h
  ·split at h
   ·cases h
   ·rename_i h1 h2 h3;rw[AF h1,AF h2,AF h3];simp;omega
theorem takeM_ok{out:L8}(h:(takeM out t n).err=0)(o:out.length<=2048):(takeM out t n).out.length<=2048∧(takeM out t n).rest.length<=t.length:=by
 unfold takeM at h ⊢;split at h
 ·cases h
 ·split at h
  ·rename_i h1;exact absurd h h1
  ·split at h
   ·cases h
   ·split at h
    ·cases h
    ·rename_i h1 h2 h3 h4;rw[AF h1,AF h2,AF h3,AF h4];refine⟨?_,by simp⟩;show(copyB _ _ _).length<=_;rw[copyB_length];omega
theorem step_ok{out:L8}(h:(step out t).err=0)(y:out.length<=2048):(step out t).out.length<=2048∧(step out t).rest.length<t.length:=by
 unfold step at h ⊢;split at h
 ·rename_i h1;exact absurd h h1
 ·rename_i h1;have A:(Leb.get t).err=0:=by omega
  have D:=Leb.get_ok t A;rw[AF h1];split at h
  ·rename_i h2;rw[AG h2];have:=takeL_ok h y;refine⟨this.1,?_⟩;have o:=this.2;rw[AL] at o;omega
  ·rename_i h2;rw[AF h2];have:=takeM_ok h y;refine⟨this.1,?_⟩;have o:=this.2;rw[AL] at o;omega
theorem toksF_more{f:Nat}{out:L8}(D:out.length<=2048)(y:t.length<=f)(A:t.length<=g):toksF f out t=toksF g out t:=by
 induction f generalizing g out t with
 |zero=>
  cases t with
  |nil=>cases g <;> rfl
  |cons c r=>simp at y
 |succ f ih=>
  cases t with
  |nil=>cases g <;> rfl
  |cons c r=>
   cases g with
   |zero=>simp at A
   |succ g=>
    rw[toksF,toksF];split
    ·rfl
    ·rename_i h;have o:(step out (c::r)).err=0:=(by omega);have:=step_ok o D;exact ih this.1 (by have:=this.2;omega) (by have:=this.2;omega)
theorem toks_nil(out:L8):toks out []=⟨0,out⟩:=rfl
theorem toks_step{out:L8}(y:t≠[])(o:out.length<=2048)(h:(step out t).err=0):toks out t=toks (step out t).out (step out t).rest:=by
 cases t with
 |nil=>exact absurd rfl y
 |cons c r=>
  have:=step_ok h o;show(if _ then _ else _)=_;rw[AF (by omega)];exact toksF_more this.1 (by have:=this.2;simp at this;omega) gQx
theorem put_nil(n:Nat):Leb.put n≠[]:=by
 unfold Leb.put Leb.putF;split <;> simp
theorem toks_lit{out:L8}(r:L8)(A:l≠[])(h:out.length+l.length<=2048):toks out (Leb.put (2*l.length)++(l++r))=toks (out++l) r:=by
 have y:=Leb.get_put (2*l.length) (l++r) (by omega);have D:l.length≠0:=fun e=>A (List.length_eq_zero_iff.1 e);have o:step out (Leb.put (2*l.length)++(l++r))=⟨0,out++l,r⟩:=by
  unfold step;rw[y];simp only[ne_eq,not_true_eq_false,if_false];rw[AG (by omega),List.drop_left,show 2*l.length / 2=l.length by omega];unfold takeL;rw[AF D,AF (by omega),AF (by simp),List.take_left,List.drop_left]
 have E:Leb.put (2*l.length)++(l++r)≠[]:=fun e=>put_nil _ (List.append_eq_nil_iff.1 e).1;rw[toks_step E (by omega) (by rw[o]),o]
theorem toks_match{out:L8}(r:L8)(n d:Nat)(J:4<=n)(E:n<=255)(hd:1<=d)(K:d<=1024)(L:d<=out.length)(h:out.length+n<=2048):toks out (Leb.put (2*n+1)++(Leb.put d++r))=toks (copyB n d out) r:=by
 have y:=Leb.get_put (2*n+1) (Leb.put d++r) (by omega);have A:=Leb.get_put d r (by omega);have o:step out (Leb.put (2*n+1)++(Leb.put d++r))=⟨0,copyB n d out,r⟩:=by
  unfold step;rw[y];simp only[ne_eq,not_true_eq_false,if_false];rw[AF (by omega),List.drop_left,show(2*n+1) / 2=n by omega];unfold takeM;rw[AF (by omega),A];simp only[ne_eq,not_true_eq_false,if_false];rw[AF (by omega),AF (by omega),List.drop_left]
 have D:Leb.put (2*n+1)++(Leb.put d++r)≠[]:=fun e=>put_nil _ (List.append_eq_nil_iff.1 e).1;rw[toks_step D (by omega) (by rw[o]),o]
def Makes(p out:L8):Prop:=∀r,toks [] (p++r)=toks out r
theorem makes_nil:Makes [] []:=fun _=>rfl
theorem Makes.lit{out:L8}(y:Makes p out)(o:l≠[])(h:out.length+l.length<=2048):Makes (p++(Leb.put (2*l.length)++l)) (out++l):=by
 intro r;rw[AN,AN,y];exact toks_lit r o h
theorem Makes.mat{out:L8}(E:Makes p out)(n d:Nat)(y:4<=n)(o:n<=255)(hd:1<=d)(A:d<=1024)(D:d<=out.length)(h:out.length+n<=2048):Makes (p++(Leb.put (2*n+1)++Leb.put d)) (copyB n d out):=by
 intro r;rw[AN,AN,E];exact toks_match r n d y o hd A D h
theorem Makes.done{out:L8}(o:Makes p out):unpack (1::p)=⟨0,out⟩:=by
 have:=o [];rw[Az] at this;rw[unpack,AG (by decide),this,toks_nil]
end Blk
namespace Blk
def four(b:L8)(i:Nat):L8:=(b.drop i).take 4
def last(b f:L8):Nat->Nat
 |0=>0
 |i+1=>if four b i=f then i+1 else last b f i
def ahead(b:L8)(i:Nat):Nat:=if i+4<=b.length then last b (four b i) i else 0
def alike:L8->L8->Nat
 |c::l,d::s=>if c=d then alike l s+1 else 0
 |_,_=>0
structure Mt where
 size:Nat
 back:Nat
def chain(b:L8)(a most:Nat):Nat->Nat->Mt->Mt
 |0,_,m=>m
 |_+1,0,m=>m
 |f+1,g+1,m=>if 1024<a-g∨most<=m.size then m
  else chain b a most f (ahead b g) (if m.size<alike (b.drop g) ((b.drop a).take most) then ⟨alike (b.drop g) ((b.drop a).take most),a-g⟩ else m)
def longest(b:L8)(a:Nat):Mt:=chain b a (min (b.length-a) 255) a (ahead b a) ⟨0,0⟩
def putL(p l:L8):L8:=if l=[] then p else p++(Leb.put (2*l.length)++l)
def putM(p:L8)(m:Mt):L8:=p++(Leb.put (2*m.size+1)++Leb.put m.back)
def pk(b:L8):Nat->Nat->Nat->L8->L8
 |0,fr,_,p=>putL p (b.drop fr)
 |f+1,fr,a,p=>if a<b.length then
   if (longest b a).size=0 then pk b f fr (a+1) p
   else pk b f (a+(longest b a).size) (a+(longest b a).size) (putM (putL p ((b.drop fr).take (a-fr))) (longest b a))
  else putL p (b.drop fr)
def packT(b:L8):L8:=pk b b.length 0 0 [1]
def pack(b:L8):Res:=if 2048<b.length then ⟨2,[]⟩ else if (packT b).length<=b.length then ⟨0,packT b⟩ else ⟨0,0::b⟩
theorem last_le(b f:L8)(n:Nat):last b f n<=n:=by
 induction n with
 |zero=>exact gQx
 |succ i ih=>
  rw[last];split <;> omega
theorem last_some(b f:L8)(n:Nat):last b f n≠0->four b (last b f n-1)=f:=by
 induction n with
 |zero=>intro h;exact absurd rfl h
 |succ i ih=>
  rw[last];split
  ·rename_i h;intro _;exact h
  ·exact ih
theorem ahead_le(b:L8)(i:Nat):ahead b i<=i:=by
 unfold ahead;split
 ·exact last_le _ _ _
 ·omega
theorem ahead_some{b:L8}(h:ahead b i≠0):i+4<=b.length∧four b (ahead b i-1)=four b i:=by
 unfold ahead at h ⊢;split at h
 ·rename_i h1;rw[AG h1];exact⟨h1,last_some _ _ _ h⟩
 ·exact absurd rfl h
theorem alike_le:∀l s:L8,alike l s<=l.length∧alike l s<=s.length:=by
 intro l;induction l with
 |nil=>intro s;simp[alike]
 |cons c l ih=>
  intro s;cases s with
  |nil=>simp[alike]
  |cons d s=>
   have:=ih s;rw[alike];split <;> simp <;> omega
theorem alike_eq:∀(l s:L8) (i:Nat),i<alike l s->l[i]?=s[i]?:=by
 intro l;induction l with
 |nil=>intro s i h;simp[alike] at h
 |cons c l ih=>
  intro s i h;cases s with
  |nil=>simp[alike] at h
  |cons d s=>
   rw[alike] at h;split at h
   ·rename_i e;cases i with
    |zero=>simp[e]
    |succ i=>simp only[List.getElem?_cons_succ];exact ih s i (by omega)
   ·omega
theorem alike_ge:∀(l s:L8) (k:Nat),k<=l.length->k<=s.length->(∀i,i<k->l[i]?=s[i]?)->k<=alike l s:=by
 intro l;induction l with
 |nil=>intro s k o _ _;simp at o;omega
 |cons c l ih=>
  intro s k o y A;cases s with
  |nil=>simp at y;omega
  |cons d s=>
   cases k with
   |zero=>omega
   |succ k=>
    have e:c=d:=(by simpa using A 0 (by omega));rw[alike,AG e];have:=ih s k (by simpa using o) (by simpa using y) (fun i D=>by simpa using A (i+1) (by omega));omega
structure Good(b:L8)(a:Nat)(m:Mt):Prop where
 four:4<=m.size
 most:m.size<=255
 fits:a+m.size<=b.length
 one:1<=m.back
 near:m.back<=1024
 has:m.back<=a
 same:∀i,i<m.size->b[a+i]?=b[a-m.back+i]?
theorem four_get{b:L8}{j:Nat}(h:four b i=four b j)(k:Nat)(o:k<4):b[i+k]?=b[j+k]?:=by
 have:=congrArg (fun l=>l[k]?) h;simp only[four,List.getElem?_take_of_lt o,List.getElem?_drop] at this;exact this
theorem good_next{b:L8}(Q:most=min (b.length-a) 255)(L:a+4<=b.length)(M:g<a)(E:four b g=four b a)(K:a-g<=1024):
  Good b a ⟨alike (b.drop g) ((b.drop a).take most),a-g⟩:=by
 have A:=alike_le (b.drop g) ((b.drop a).take most);have y:((b.drop a).take most).length=most:=by rw[AM,AL];omega
 rw[y] at A;have D:=alike_ge (b.drop g) ((b.drop a).take most) 4 (by rw[AL];omega) (by rw[y];omega) (fun i o=>by
  rw[List.getElem?_take_of_lt (by omega),List.getElem?_drop,List.getElem?_drop];exact four_get E i o)
 refine⟨D,by show alike _ _<=255;omega,by show a+alike _ _<=_;omega,by show 1<=a-g;omega,K,by show a-g<=a;omega,fun i o=>?_⟩;have J:i<alike (b.drop g) ((b.drop a).take most):=o;have:=alike_eq _ _ i J;rw[List.getElem?_take_of_lt (by omega),List.getElem?_drop,List.getElem?_drop] at this;show b[a+i]?=b[a-(a-g)+i]?;rw[show a-(a-g)=g by omega];exact this.symm
theorem chain_good{b:L8}(D:most=min (b.length-a) 255)(f:Nat):∀(g:Nat) (m:Mt),g<=a->(g≠0->a+4<=b.length∧four b (g-1)=four b a)->(m.size=0∨Good b a m)->(chain b a most f g m).size=0∨Good b a (chain b a most f g m):=by
 induction f with
 |zero=>intro g m _ _ h;exact h
 |succ f ih=>
  intro g m J A h;cases g with
  |zero=>exact h
  |succ g=>
   rw[chain];split
   ·exact h
   ·rename_i hc;obtain⟨y,o⟩:=A (by omega);have e:g+1-1=g:=rfl;rw[e] at o;refine ih _ _ (by have:=ahead_le b g;omega) (fun E=>⟨y,?_⟩) ?_
    ·exact(ahead_some E).2.trans o
    ·split
     ·exact .inr (good_next D y (by omega) o (by omega))
     ·exact h
theorem longest_good(b:L8)(a:Nat):(longest b a).size=0∨Good b a (longest b a) :=
 chain_good rfl a _ _ (ahead_le b a) (fun h=>ahead_some h) (.inl rfl)
theorem chain_more{b:L8}{f:Nat}:∀{g:Nat} {m:Mt},g<=f->g<=f'->chain b a most f g m=chain b a most f' g m:=by
 induction f generalizing f' with
 |zero=>
  intro g m o _;obtain rfl:g=0:=by omega
  cases f' <;> rfl
 |succ f ih=>
  intro g m o y;cases g with
  |zero=>cases f' <;> rfl
  |succ g=>
   cases f' with
   |zero=>omega
   |succ f'=>
    rw[chain,chain];split
    ·rfl
    ·exact ih (by have:=ahead_le b g;omega) (by have:=ahead_le b g;omega)
theorem pk_more{b:L8}{f:Nat}:∀{fr a:Nat} {p:L8},b.length-a<=f->b.length-a<=f'->pk b f fr a p=pk b f' fr a p:=by
 induction f generalizing f' with
 |zero=>
  intro fr a p o _;cases f' with
  |zero=>rfl
  |succ f'=>rw[pk,pk,AF (by omega)]
 |succ f ih=>
  intro fr a p o y;cases f' with
  |zero=>rw[pk,pk,AF (by omega)]
  |succ f'=>
   rw[pk,pk];split
   ·split
    ·exact ih (by omega) (by omega)
    ·exact ih (by omega) (by omega)
   ·rfl
theorem pk_end{b:L8}(h:b.length<=a):pk b (b.length-a) fr a p=putL p (b.drop fr):=by
 rw[show b.length-a=0 by omega,pk]
theorem pk_skip{b:L8}(h:a<b.length)(o:(longest b a).size=0):pk b (b.length-a) fr a p=pk b (b.length-(a+1)) fr (a+1) p:=by
 rw[show b.length-a=b.length-(a+1)+1 by omega,pk,AG h,AG o]
theorem pk_take{b:L8}(h:a<b.length)(o:(longest b a).size≠0):pk b (b.length-a) fr a p=pk b (b.length-(a+(longest b a).size)) (a+(longest b a).size) (a+(longest b a).size) (putM (putL p ((b.drop fr).take (a-fr))) (longest b a)):=by
 rw[show b.length-a=b.length-(a+1)+1 by omega,pk,AG h,AF o];exact pk_more (by omega) gQx
theorem copyB_take{b:L8}{d:Nat}(hd:1<=d)(D:d<=a)(n:Nat)(J:a+n<=b.length)(y:∀i,i<n->b[a+i]?=b[a-d+i]?):copyB n d (b.take a)=b.take (a+n):=by
 induction n with
 |zero=>rfl
 |succ n ih=>
  rw[copyB_snoc,ih (by omega) (fun i E=>y i (by omega))];have A:(b.take (a+n)).length=a+n:=by rw[AM];omega
  rw[A,List.getD_eq_getElem?_getD,List.getElem?_take_of_lt (by omega)];have o:=y n (by omega);rw[show a-d+n=a+n-d by omega] at o;rw[<-o,<-Nat.add_assoc,List.take_add_one,List.getElem?_eq_getElem (show a+n<b.length by omega)];rfl
theorem putL_head(p l:L8)(c:UInt8):putL (c::p) l=c::putL p l:=by
 unfold putL;split <;> rfl
theorem putM_head(p:L8)(m:Mt)(c:UInt8):putM (c::p) m=c::putM p m:=rfl
theorem makes_putL{b:L8}(h:Makes p (b.take fr))(A:fr<=a)(y:a<=b.length)(hb:b.length<=2048):Makes (putL p ((b.drop fr).take (a-fr))) (b.take a):=by
 unfold putL;split
 ·rename_i h0;have:=congrArg List.length h0;rw[AM,AL] at this;simp only[List.length_nil] at this;obtain rfl:fr=a:=by omega
  exact h
 ·rename_i h0;have o:=h.lit h0 (by simp only[AM,AL];omega);have e:b.take fr++(b.drop fr).take (a-fr)=b.take a:=by
   rw[<-List.take_add];congr 1;omega
  rw[e] at o;exact o
theorem makes_putM{b:L8}{m:Mt}(h:Makes p (b.take a))(g:Good b a m)(hb:b.length<=2048):Makes (putM p m) (b.take (a+m.size)):=by
 have y:(b.take a).length=a:=by rw[AM];have:=g.fits;omega
 have o:=h.mat m.size m.back g.four g.most g.one g.near (by rw[y];exact g.has) (by rw[y];have:=g.fits;omega);rw[copyB_take g.one g.has m.size g.fits g.same] at o;exact o
theorem pk_makes{b:L8}(hb:b.length<=2048)(f:Nat):∀(fr a:Nat) (p:L8),b.length-a<=f->fr<=a->a<=b.length->Makes p (b.take fr)->∃E,pk b f fr a (1::p)=1::E∧Makes E b:=by
 induction f with
 |zero=>
  intro fr a p J y A o;refine⟨putL p (b.drop fr),by rw[pk,putL_head],?_⟩;have:=makes_putL o (AT y A) gQx hb;rwa [List.take_of_length_le (by rw[AL];exact gQx),List.take_of_length_le gQx] at this
 |succ f ih=>
  intro fr a p J y A o;rw[pk];split
  ·rename_i hlt;split
   ·exact ih fr (a+1) p (by omega) (by omega) (by omega) o
   ·rename_i h0;have D:Good b a (longest b a):=(longest_good b a).resolve_left h0;rw[putL_head,putM_head];exact ih _ _ _ (by omega) gQx D.fits (makes_putM (makes_putL o y A hb) D hb)
  ·refine⟨putL p (b.drop fr),putL_head _ _ _,?_⟩;have:=makes_putL o (show fr<=b.length by omega) gQx hb;rwa [List.take_of_length_le (by rw[AL];exact gQx),List.take_of_length_le gQx] at this
theorem pack_back{b:L8}(hb:b.length<=2048):(pack b).err=0∧unpack (pack b).out=⟨0,b⟩∧(pack b).out.length<=b.length+1:=by
 unfold pack;rw[AF (by omega)];split
 ·rename_i h;obtain⟨A,o,y⟩:=pk_makes hb b.length 0 0 [] (by omega) gQx (Nat.zero_le _) makes_nil;refine⟨rfl,?_,by show(packT b).length<=_;omega⟩;show unpack (packT b)=_;rw[show packT b=1::A from o];exact y.done
 ·refine⟨rfl,?_,by simp⟩;show unpack (0::b)=_;rw[unpack,AF (by decide),AF (by decide),AF (by omega)]
end Blk
section
namespace Bt
def rowsErr(s:List Col):List (List V)->Nat
 | []=>0
 |r::l=>if Rw.err s r=0 then rowsErr s l else Rw.err s r
def bytes:List (List V)->L8
 | []=>[]
 |r::l=>Rw.bytes r++bytes l
def numErr(s:List Col)(n:Int):Nat:=if Sch.err s≠0 then Sch.err s else if n<1 then 4 else if 64<n then 3 else 0
def err(s:List Col)(l:List (List V)):Nat:=if numErr s l.length≠0 then numErr s l.length else if rowsErr s l≠0 then rowsErr s l else if 2048<(bytes l).length then 2 else 0
def out(s:List Col)(l:List (List V)):L8:=if err s l=0 then bytes l else []
def pack(s:List Col)(l:List (List V)):Blk.Res:=if err s l=0 then Blk.pack (bytes l) else ⟨err s l,[]⟩
def rows(s:List Col)(b:L8):Nat->Nat->Except Nat (List (List V)×Nat)
 |0,a=>.ok ([],a)
 |n+1,a=>match Rw.read s b a with
  |I e=>I e
  |.ok (r,k)=>match rows s b n k with
   |I e=>I e
   |.ok (l,j)=>.ok (r::l,j)
def whole(s:List Col)(b:L8)(n:Nat):Except Nat (List (List V)):=match rows s b n 0 with
 |I e=>I e
 |.ok (l,j)=>if j<b.length then I 5 else .ok l
def unpack(s:List Col)(b:L8)(n:Int):Except Nat (List (List V)):=if numErr s n≠0 then I (numErr s n) else if (Blk.unpack b).err≠0 then I (Blk.unpack b).err else whole s (Blk.unpack b).out n.toNat
theorem numErr_open{s:List Col}{n:Int}(h:numErr s n=0):Sch.err s=0∧1<=n∧n<=64:=by
 unfold numErr at h;split at h
 ·next h0=>exact absurd h h0
 ·split at h
  ·omega
  ·split at h
   ·omega
   ·exact⟨by omega,by omega,by omega⟩
theorem numErr_make{s:List Col}{n:Int}(o:Sch.err s=0)(y:1<=n)(A:n<=64):numErr s n=0:=by
 unfold numErr;rw[AF (by omega),AF (by omega),AF (by omega)]
theorem err_open{s:List Col}{l:List (List V)}(h:err s l=0):numErr s l.length=0∧rowsErr s l=0∧(bytes l).length<=2048:=by
 unfold err at h;split at h
 ·next h0=>exact absurd h h0
 ·split at h
  ·next h0=>exact absurd h h0
  ·split at h
   ·omega
   ·exact⟨by omega,by omega,by omega⟩
theorem err_make{s:List Col}{l:List (List V)}(o:numErr s l.length=0)(y:rowsErr s l=0)(A:(bytes l).length<=2048):err s l=0:=by
 unfold err;rw[AF (by omega),AF (by omega),AF (by omega)]
theorem rowsErr_mem{s:List Col}:∀{l:List (List V)},rowsErr s l=0->∀r∈l,Rw.err s r=0
 | [],_,r,o=>by cases o
 |x::l,h,r,o=>by
  rw[rowsErr] at h;split at h
  ·next h0=>
   rcases List.mem_cons.1 o with rfl | o
   ·exact h0
   ·exact rowsErr_mem h r o
  ·next h0=>exact absurd h h0
theorem bytes_append(a b:List (List V)):bytes (a++b)=bytes a++bytes b:=by
 induction a with
 |nil=>rfl
 |cons x a ih=>rw[List.cons_append,bytes,bytes,ih,AN]
theorem bytes_take(l:List (List V))(i:Nat)(h:i<l.length):bytes (l.take (i+1))=bytes (l.take i)++Rw.bytes l[i]:=by
 rw[List.take_succ_eq_append_getElem h,bytes_append];simp[bytes]
theorem bytes_bound{s:List Col}:∀{l:List (List V)},rowsErr s l=0->(bytes l).length<=1024*l.length
 | [],_=>by simp[bytes]
 |x::l,h=>by
  have o:=(Rw.err_open (rowsErr_mem h x (by simp))).2.2.2;have y:=bytes_bound (s:=s) (l:=l) (by
   rw[rowsErr] at h;split at h
   ·exact h
   ·next h0=>exact absurd h h0)
  rw[bytes,AH,AI];omega
theorem rowsErr_take{s:List Col}:∀{l:List (List V)} (i:Nat),(∀j (h:j<l.length),j<i->Rw.err s l[j]=0)->rowsErr s (l.take i)=0
 | [],i,_=>by simp[rowsErr]
 |x::l,0,_=>by simp[rowsErr]
 |x::l,i+1,h=>by
  have o:Rw.err s x=0:=h 0 (by simp) (by omega);rw[List.take_succ_cons,rowsErr,AG o];exact rowsErr_take i (fun j y A=>h (j+1) (by simpa using y) (by omega))
theorem rowsErr_at{s:List Col}:∀{l:List (List V)} (i:Nat) (o:i<l.length),(∀j (h:j<l.length),j<i->Rw.err s l[j]=0)->Rw.err s l[i]≠0->rowsErr s l=Rw.err s l[i]
 | [],i,o,_,_=>by simp at o
 |x::l,0,o,_,hn=>by
  have D:Rw.err s x≠0:=hn;rw[rowsErr,AF D];rfl
 |x::l,i+1,o,h,hn=>by
  have y:Rw.err s x=0:=h 0 (by simp) (by omega);rw[rowsErr,AG y];exact rowsErr_at i (by simpa using o) (fun j A E=>h (j+1) (by simpa using A) (by omega)) hn
theorem rowsErr_all{s:List Col}{l:List (List V)}(h:∀j (h:j<l.length),Rw.err s l[j]=0):rowsErr s l=0:=by
 have:=rowsErr_take (l:=l) l.length (fun j o _=>h j o);rwa [List.take_length] at this
theorem fix_all{l:List (List V)}(h:∀x∈l,∀v∈x,V.fix v=v∧v.wf):l.map (fun x=>x.map V.fix)=l:=by
 have:∀x∈l,(fun x:List V=>x.map V.fix) x=id x:=fun x A=>by
  show x.map V.fix=x;have o:=List.map_congr_left (f:=V.fix) (g:=id) (l:=x) (fun v y=>(h x A v y).1);rw[o,List.map_id]
 rw[List.map_congr_left this,List.map_id]
theorem first_ne{xs:List Nat}(A:n≠0)(h:∀x∈xs,x≠n):V.first xs≠n:=by
 induction xs with
 |nil=>rw[V.first];omega
 |cons x r ih=>
  rw[V.first];split
  ·exact ih (fun y o=>h y (by simp[o]))
  ·exact h x (by simp)
theorem ty_ne:∀(t:Ty) (d:Nat),Ty.check d t≠30:=by
 intro t;refine Ty.ind (P:=fun t=>∀d,Ty.check d t≠30) ?_ t;intro k xs A d;rw[Ty.check_mk];split
 ·omega
 split
 ·omega
 ·refine first_ne (by omega) (fun x o=>?_);obtain⟨D,y,rfl⟩:=List.mem_map.1 o;exact A D y _
theorem chkL_ne{d:Nat}{xs:List V}(h:∀x∈xs,chk d x≠30):fC d xs≠30:=by
 induction xs with
 |nil=>unfold fC;rw[V.checkL_nil];omega
 |cons x r ih=>
  have o:=ih (fun D A=>h D (by simp[A]));have y:=h x (by simp);unfold fC at o ⊢;unfold chk at y;rw[V.checkL_cons];split
  ·exact o
  ·exact y
theorem chk_ne:∀(v:V) (d:Nat),chk d v≠30:=by
 intro v;refine V.ind (P:=fun v=>∀d,chk d v≠30) ?_ v;intro k i b t xs y d;rw[lV];split
 ·omega
 split
 ·omega
 split
 ·omega
 split
 ·omega
 split
 ·omega
 ·exact chkL_ne (fun x o=>y x o _)
theorem colErr_ne(l:List Col)(c:Col):Sch.colErr l c≠30:=by
 unfold Sch.colErr;have o:=ty_ne c.ty 1;have y:=chk_ne c.dflt 1;split
 ·omega
 split
 ·omega
 split
 ·exact o
 split
 ·split <;> omega
 split
 ·exact y
 split <;> omega
theorem colsErr_ne:∀(s l:List Col),Sch.colsErr l s≠30
 | [],l=>by rw[Sch.colsErr];omega
 |c::r,l=>by
  rw[Sch.colsErr];split
  ·exact colsErr_ne r _
  ·exact colErr_ne l c
theorem schErr_ne(s:List Col):Sch.err s≠30:=by
 unfold Sch.err;split
 ·omega
 split
 ·omega
 split
 ·exact colsErr_ne s []
 split <;> omega
theorem read_none(s:List Col):Rw.read s [] (-1)=I (if Sch.err s=0 then 30 else Sch.err s):=by
 unfold Rw.read;split
 ·rfl
 ·next h=>simp;omega
end Bt
end
section
open Go.RowKit
theorem al2(w:U)(o y:Obj):((w.alloc o).alloc y).1[w.1.size]?=some o∧((w.alloc o).alloc y).1[w.1.size+1]?=some y∧Below w.1.size w ((w.alloc o).alloc y)∧((w.alloc o).alloc y).1.size=w.1.size+2:=by
 refine⟨?_,?_,gQy.alloc (by simp) _,by simp⟩
 ·rw[ay _ _ (by simp)];exact an w _
 ·have:=an (w.alloc o) y;simpa using this
theorem al3(w:U)(o y A:Obj):(((w.alloc o).alloc y).alloc A).1[w.1.size]?=some o∧(((w.alloc o).alloc y).alloc A).1[w.1.size+1]?=some y∧(((w.alloc o).alloc y).alloc A).1[w.1.size+1+1]?=some A∧Below w.1.size w (((w.alloc o).alloc y).alloc A)∧(((w.alloc o).alloc y).alloc A).1.size=w.1.size+3:=by
 obtain⟨E,J,hb,D⟩:=al2 w o y;refine⟨?_,?_,?_,hb.alloc (by rw[D];omega) _,?_⟩
 ·rw[ay _ _ (by rw[D];omega)];exact E
 ·rw[ay _ _ (by rw[D];omega)];exact J
 ·have:=an ((w.alloc o).alloc y) A;rw[D] at this;exact this
 ·simp
end
section
open Go.RowKit
def dN(w:U)(q:OA)(c:Nat)(vs:List V):Prop:=aK w (cells5 0 0 0 ⟨#[]⟩ q vs.length c) (.mk 0 0 0 ⟨#[]⟩ vs)∧∀v∈vs,v.wf
theorem dN.on(h:dN w q c vs)(hb:Below w.1.size w w'):dN w' q c vs:=⟨h.1.on hb,h.2⟩
theorem dN.items(h:dN w q c vs):vs.length*64<=140737488351232∧vs.length<=c∧fN w q vs:=by
 obtain⟨p,E,o,y,A,D⟩:=h.1.open;unfold cells5 at o;simp only[Array.mk.injEq,List.cons.injEq,Value.slice.injEq,and_true,true_and] at o;obtain⟨rfl,rfl⟩:=o;exact⟨y,A,D⟩
structure ef(w:U)(p:OA)(c:Nat)(s:List Col):Prop where
 len:s.length*120<=140737488351232
 cap:s.length<=c
 cols:cU w p s
 wf:∀x∈s,x.wf
theorem ef.on{p:OA}{s:List Col}(h:ef w p c s)(hb:Below w.1.size w w'):ef w' p c s:=⟨h.len,h.cap,h.cols.on hb,h.wf⟩
def Told(w:U)(er:Nat)(l:L8)(e:Ending)(w':U):Prop:=∃q cap,e=.returned (.tuple #[.slice q l.length cap,.int .i64 (er:Nat)])∧At w' q l∧l.length<=cap∧Below w.1.size w w'
theorem lT(s:List Col)(vs:List V)(j:Nat)(o:j<s.length)(y:j<vs.length):Rw.colsErr (s.drop j) (vs.drop j)=if Rw.vErr s[j].ty vs[j]=0 then Rw.colsErr (s.drop (j+1)) (vs.drop (j+1)) else Rw.vErr s[j].ty vs[j]:=by
 rw[List.drop_eq_getElem_cons o,List.drop_eq_getElem_cons y,Rw.colsErr]
def lo(s:List Col)(l:L8):Except Nat (V×Nat)->Except Nat (List V×Nat)
 |I e=>I e
 |.ok (v,j)=>glue [v] j (Rw.rd s (l.drop j))
theorem qc(c:Col)(s:List Col)(l:L8):Rw.rd (c::s) l=lo s l (Sch.rdV c.ty l):=by
 rw[Rw.rd];cases Sch.rdV c.ty l with
 |error e=>rfl
 |ok p=>
  obtain⟨v,j⟩:=p;rw[lo];dsimp only;cases Rw.rd s (l.drop j) with
  |error e=>rfl
  |ok q=>rfl
def xi(w:U)(r:Except Nat (List V×Nat))(e:Ending)(w':U):Prop:=match r with
 |I er=>e=.returned (.tuple #[.agg #[.slice none 0 0],.int .i64 0,.int .i64 (er:Nat)])∧Below w.1.size w w'
 |.ok (vs,k)=>∃q c,e=.returned (.tuple #[.agg #[.slice q vs.length c],.int .i64 (k:Nat),.int .i64 0])∧aY w' (fun k=>w.1.size<=k∧k<w'.1.size) (cells5 0 0 0 ⟨#[]⟩ q vs.length c) (.mk 0 0 0 ⟨#[]⟩ vs)∧Below w.1.size w w'
end
end Go.Proofs.YtngmnfdaedlodaaGreatDoor
