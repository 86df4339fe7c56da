import Derived.Test.YtceomhodhmcknaaGreatDoorA15
namespace Go.Proofs.YtceomhodhmcknaaGreatDoor
section
namespace Rw
def vErr(t:Ty)(v:V):Nat:=if chk 1 v≠0 then chk 1 v else if Sch.is v t then 0 else 80
def encErr(t:Ty)(v:V):Nat:=if Ty.check 1 t≠0 then Ty.check 1 t else vErr t v
def encB(t:Ty)(v:V):L8:=if encErr t v=0 then Sch.vB v else []
def colsErr:List Col->List V->Nat
 |c::s,v::r=>if vErr c.ty v=0 then colsErr s r else vErr c.ty v
 |_,_=>0
def bytes(vs:List V):L8:=(vs.map Sch.vB).flatten
def err(s:List Col)(vs:List V):Nat:=if Sch.err s≠0 then Sch.err s else if vs.length≠s.length then 80 else if colsErr s vs≠0 then colsErr s vs else if 1024<(bytes vs).length then 2 else 0
def out(s:List Col)(vs:List V):L8:=if err s vs=0 then bytes vs else []
def rd:List Col->L8->Except Nat (List V×Nat)
 | [],_=>.ok ([],0)
 |c::s,l=>match Sch.rdV c.ty l with
  |.error e=>.error e
  |.ok (v,k)=>match rd s (l.drop k) with
   |.error e=>.error e
   |.ok (vs,j)=>.ok (v::vs,k+j)
def read(s:List Col)(l:L8)(a:Int):Except Nat (List V×Nat):=if Sch.err s≠0 then .error (Sch.err s) else if a<0∨(l.length:Int)<a then .error 30 else match rd s (l.drop a.toNat) with
 |.error e=>.error e
 |.ok (vs,k)=>if 1024<k then .error 2 else .ok (vs,a.toNat+k)
theorem vErr_zero{t:Ty}{v:V}(h:vErr t v=0):Ty.check 1 t=0∧chk 1 v=0∧Sch.of v t=true:=by
 unfold vErr at h
 split at h
 ·next h0=>exact absurd h h0
 ·split at h
  ·next h1=>
   unfold Sch.is at h1
   simp only[Bool.and_eq_true,decide_eq_true_eq] at h1
   exact⟨h1.1.1,h1.1.2,h1.2⟩
  ·omega
theorem vErr_make{t:Ty}{v:V}(h1:Ty.check 1 t=0)(h2:chk 1 v=0)(h3:Sch.of v t=true):vErr t v=0:=by
 unfold vErr
 rw[if_neg (by omega),if_pos]
 unfold Sch.is
 rw[decide_eq_true h1,decide_eq_true h2,h3]
 rfl
theorem bytes_cons(v:V)(r:List V):bytes (v::r)=Sch.vB v++bytes r:=rfl
theorem bytes_fix(vs:List V):bytes (vs.map V.fix)=bytes vs:=by
 unfold bytes
 rw[List.map_map]
 congr 1
 exact List.map_congr_left (fun v _=>Sch.vB_fix v)
theorem rd_put(r:L8):∀(s:List Col) (vs:List V),vs.length=s.length->colsErr s vs=0->(∀v∈vs,v.wf)->rd s (bytes vs++r)=.ok (vs.map V.fix,(bytes vs).length)
 | [],[],_,_,_=>rfl
 | [],_::_,h,_,_=>by simp at h
 |_::_,[],h,_,_=>by simp at h
 |c::s,v::vs,h,he,hw=>by
  have h0:vErr c.ty v=0:=by
   rw[colsErr] at he
   split at he
   ·assumption
   ·next h=>exact absurd he h
  have he':colsErr s vs=0:=by rw[colsErr,if_pos h0] at he;exact he
  obtain⟨h1,h2,h3⟩:=vErr_zero h0
  rw[rd,bytes_cons,List.append_assoc,Sch.rdV_put c.ty 1 v _ h1 h2 h3 (hw v (by simp))]
  dsimp only
  rw[List.drop_left,rd_put r s vs (by simpa using h) he' (fun x hx=>hw x (by simp[hx]))]
  simp
theorem rd_ok:∀(s:List Col) (l:L8) (vs:List V) (k:Nat),(∀c∈s,Ty.check 1 c.ty=0)->rd s l=.ok (vs,k)->vs.length=s.length∧k=(bytes vs).length∧(∃r,l=bytes vs++r)∧colsErr s vs=0∧∀v∈vs,V.fix v=v∧v.wf
 | [],l,vs,k,_,h=>by
  rw[rd] at h
  injection h with h
  injection h with h1 h2
  subst h1 h2
  exact⟨rfl,rfl,⟨l,rfl⟩,rfl,fun v hv=>by cases hv⟩
 |c::s,l,vs,k,ht,h=>by
  rw[rd] at h
  split at h
  ·cases h
  ·next v k1 hv=>
   split at h
   ·cases h
   ·next vs' j hr=>
    injection h with h
    injection h with h1 h2
    subst h1 h2
    obtain⟨a1,⟨r1,a2⟩,a3,a4,a5,a6⟩:=Sch.rdV_ok c.ty 1 l v k1 (ht c (by simp)) hv
    obtain⟨b1,b2,⟨r2,b3⟩,b4,b5⟩:=rd_ok s (l.drop k1) vs' j (fun x hx=>ht x (by simp[hx])) hr
    have e1:l.drop k1=r1:=by rw[a2,a1,List.drop_left]
    refine⟨by simp[b1],by rw[bytes_cons,List.length_append,a1,b2],⟨r2,by rw[bytes_cons,List.append_assoc,<-b3,e1];exact a2⟩,?_,fun x hx=>?_⟩
    ·rw[colsErr,if_pos (vErr_make (ht c (by simp)) a3 a4)]
     exact b4
    ·rcases List.mem_cons.1 hx with rfl | hx
     ·exact⟨a5,a6⟩
     ·exact b5 x hx
theorem err_open{s:List Col}{vs:List V}(h:err s vs=0):Sch.err s=0∧vs.length=s.length∧colsErr s vs=0∧(bytes vs).length<=1024:=by
 unfold err at h
 split at h
 ·next h0=>exact absurd h h0
 ·next h0=>
  split at h
  ·omega
  ·next h1=>
   split at h
   ·next h2=>exact absurd h h2
   ·next h2=>
    split at h
    ·omega
    ·next h3=>exact⟨by omega,by omega,by omega,by omega⟩
theorem err_make{s:List Col}{vs:List V}(h1:Sch.err s=0)(h2:vs.length=s.length)(h3:colsErr s vs=0)(h4:(bytes vs).length<=1024):err s vs=0:=by
 unfold err
 rw[if_neg (by omega),if_neg (by omega),if_neg (by omega),if_neg (by omega)]
theorem types_ok{s:List Col}(h:Sch.err s=0):∀c∈s,Ty.check 1 c.ty=0:=fun c hc=>by
 obtain⟨l',h'⟩:=Sch.colsErr_mem s [] (Sch.err_open h).2.2.1 c hc
 exact(Sch.col_open h').2.2.1
theorem read_put{s:List Col}{vs:List V}(h:err s vs=0)(hw:∀v∈vs,v.wf)(a r:L8):read s (a++(bytes vs++r)) (a.length:Int)=.ok (vs.map V.fix,a.length+(bytes vs).length):=by
 obtain⟨h1,h2,h3,h4⟩:=err_open h
 unfold read
 rw[if_neg (by omega),if_neg (by rw[List.length_append];omega),Int.toNat_natCast,List.drop_left,rd_put r s vs h2 h3 hw]
 dsimp only
 rw[if_neg (by omega)]
theorem read_ok{s:List Col}{l:L8}{a:Int}{vs:List V}{k:Nat}(h:read s l a=.ok (vs,k)):0<=a∧a<=l.length∧k=a.toNat+(bytes vs).length∧k<=l.length∧(l.drop a.toNat).take (bytes vs).length=bytes vs∧err s vs=0∧∀v∈vs,V.fix v=v∧v.wf:=by
 unfold read at h
 split at h
 ·cases h
 ·next h0=>
  split at h
  ·cases h
  ·next h1=>
   split at h
   ·cases h
   ·next vs' j hr=>
    split at h
    ·cases h
    ·next h2=>
     injection h with h
     injection h with h3 h4
     subst h3 h4
     have h0':Sch.err s=0:=by omega
     obtain⟨b1,b2,⟨r,b3⟩,b4,b5⟩:=rd_ok s _ _ _ (types_ok h0') hr
     have hlen:=congrArg List.length b3
     rw[List.length_drop,List.length_append] at hlen
     refine⟨by omega,by omega,by rw[b2],by omega,by rw[b3,List.take_left],err_make h0' b1 b4 (by omega),b5⟩
theorem begins{s:List Col}{q r:List V}(hq:err s q=0)(hr:err s r=0)(wq:∀v∈q,v.wf)(wr:∀v∈r,v.wf):(∃t,bytes r=bytes q++t)↔q.map V.fix=r.map V.fix:=by
 obtain⟨_,a2,a3,_⟩:=err_open hq
 obtain⟨_,b2,b3,_⟩:=err_open hr
 constructor
 ·rintro⟨t,ht⟩
  have h1:=rd_put t s q a2 a3 wq
  have h2:=rd_put [] s r b2 b3 wr
  rw[List.append_nil,ht] at h2
  rw[h1] at h2
  injection h2 with h2
  injection h2 with h2 _
 ·intro he
  refine⟨[],?_⟩
  rw[List.append_nil,<-bytes_fix r,<-bytes_fix q,he]
end Rw
end
section
namespace Rw
theorem rd_err:∀(s:List Col) (l:L8) (er:Nat),(∀c∈s,Ty.check 1 c.ty=0)->rd s l=.error er->er≠0
 | [],l,er,_,h=>by rw[rd] at h;cases h
 |c::s,l,er,ht,h=>by
  rw[rd] at h
  split at h
  ·next e he=>injection h with h;subst h;exact Sch.rdV_ne _ 1 _ _ (ht c (by simp)) he
  ·split at h
   ·next e he=>injection h with h;subst h;exact rd_err s _ _ (fun x hx=>ht x (by simp[hx])) he
   ·cases h
theorem read_err{s:List Col}{l:L8}{a:Int}{er:Nat}(h:read s l a=.error er):er≠0:=by
 unfold read at h
 split at h
 ·next h0=>injection h with h;rw[<-h];exact h0
 ·next h0=>
  split at h
  ·injection h with h;omega
  ·split at h
   ·next e he=>injection h with h;subst h;exact rd_err s _ _ (types_ok (by omega)) he
   ·split at h
    ·injection h with h;omega
    ·cases h
end Rw
end
namespace Blk
def copyB:Nat->Nat->L8->L8
 |0,_,out=>out
 |n+1,d,out=>copyB n d (out++[out.getD (out.length-d) 0])
theorem copyB_length(n d:Nat)(out:L8):(copyB n d out).length=out.length+n:=by
 induction n generalizing out with
 |zero=>rfl
 |succ n ih=>rw[copyB,ih];simp;omega
theorem copyB_snoc(n d:Nat)(out:L8):copyB (n+1) d out=copyB n d out++[(copyB n d out).getD ((copyB n d out).length-d) 0]:=by
 induction n generalizing out with
 |zero=>rfl
 |succ n ih=>rw[copyB,ih];rfl
structure Tk where
 err:Nat
 out:L8
 rest:L8
def takeL(out t:L8)(n:Nat):Tk :=
 if n=0 then ⟨5,[],[]⟩ else if 2048-out.length<n then ⟨2,[],[]⟩ else if t.length<n then ⟨30,[],[]⟩ else ⟨0,out++t.take n,t.drop n⟩
def takeM(out t:L8)(n:Nat):Tk :=
 if n<4∨255<n then ⟨5,[],[]⟩
 else if (Leb.get t).err≠0 then ⟨(Leb.get t).err,[],[]⟩
 else if (Leb.get t).n=0∨1024<(Leb.get t).n∨out.length<(Leb.get t).n then ⟨5,[],[]⟩
 else if 2048-out.length<n then ⟨2,[],[]⟩
 else ⟨0,copyB n (Leb.get t).n out,t.drop (Leb.get t).k⟩
def step(out t:L8):Tk :=
 if (Leb.get t).err≠0 then ⟨(Leb.get t).err,[],[]⟩
 else if (Leb.get t).n % 2=0 then takeL out (t.drop (Leb.get t).k) ((Leb.get t).n / 2)
 else takeM out (t.drop (Leb.get t).k) ((Leb.get t).n / 2)
structure Res where
 err:Nat
 out:L8
def toksF:Nat->L8->L8->Res
 |_,out,[]=>⟨0,out⟩
 |0,_,_::_=>⟨0,[]⟩
 |f+1,out,c::r=>if (step out (c::r)).err≠0 then ⟨(step out (c::r)).err,[]⟩ else toksF f (step out (c::r)).out (step out (c::r)).rest
def toks(out t:L8):Res:=toksF t.length out t
def unpack:L8->Res
 | []=>⟨4,[]⟩
 |c::r=>if c.toNat=1 then toks [] r else if c.toNat≠0 then ⟨5,[]⟩ else if 2048<r.length then ⟨2,[]⟩ else ⟨0,r⟩
theorem takeL_ok{out t:L8}{n:Nat}(h:(takeL out t n).err=0)(ho:out.length<=2048):(takeL out t n).out.length<=2048∧(takeL out t n).rest.length<=t.length:=by
 unfold takeL at h ⊢
 split at h
 ·cases h
 ·split at h
  ·cases h
  ·split at h
   ·cases h
   ·rename_i h1 h2 h3
    rw[if_neg h1,if_neg h2,if_neg h3]
    simp;omega
theorem takeM_ok{out t:L8}{n:Nat}(h:(takeM out t n).err=0)(ho:out.length<=2048):(takeM out t n).out.length<=2048∧(takeM out t n).rest.length<=t.length:=by
 unfold takeM at h ⊢
 split at h
 ·cases h
 ·split at h
  ·rename_i h1;exact absurd h h1
  ·split at h
   ·cases h
   ·split at h
    ·cases h
    ·rename_i h1 h2 h3 h4
     rw[if_neg h1,if_neg h2,if_neg h3,if_neg h4]
     refine⟨?_,by simp⟩
     show(copyB _ _ _).length<=_
     rw[copyB_length];omega
theorem step_ok{out t:L8}(h:(step out t).err=0)(ho:out.length<=2048):(step out t).out.length<=2048∧(step out t).rest.length<t.length:=by
 unfold step at h ⊢
 split at h
 ·rename_i h1;exact absurd h h1
 ·rename_i h1
  have h0:(Leb.get t).err=0:=by omega
  have hk:=Leb.get_ok t h0
  rw[if_neg h1]
  split at h
  ·rename_i h2
   rw[if_pos h2]
   have:=takeL_ok h ho
   refine⟨this.1,?_⟩
   have h3:=this.2
   rw[List.length_drop] at h3
   omega
  ·rename_i h2
   rw[if_neg h2]
   have:=takeM_ok h ho
   refine⟨this.1,?_⟩
   have h3:=this.2
   rw[List.length_drop] at h3
   omega
theorem toksF_more{f g:Nat}{out t:L8}(ho:out.length<=2048)(hf:t.length<=f)(hg:t.length<=g):toksF f out t=toksF g out t:=by
 induction f generalizing g out t with
 |zero=>
  cases t with
  |nil=>cases g <;> rfl
  |cons c r=>simp at hf
 |succ f ih=>
  cases t with
  |nil=>cases g <;> rfl
  |cons c r=>
   cases g with
   |zero=>simp at hg
   |succ g=>
    rw[toksF,toksF]
    split
    ·rfl
    ·rename_i h
     have h0:(step out (c::r)).err=0:=by omega
     have:=step_ok h0 ho
     exact ih this.1 (by have:=this.2;omega) (by have:=this.2;omega)
theorem toks_nil(out:L8):toks out []=⟨0,out⟩:=rfl
theorem toks_err{out t:L8}(ht:t≠[])(h:(step out t).err≠0):toks out t=⟨(step out t).err,[]⟩:=by
 cases t with
 |nil=>exact absurd rfl ht
 |cons c r=>show(if _ then _ else _)=_;rw[if_pos h]
theorem toks_step{out t:L8}(ht:t≠[])(ho:out.length<=2048)(h:(step out t).err=0):toks out t=toks (step out t).out (step out t).rest:=by
 cases t with
 |nil=>exact absurd rfl ht
 |cons c r=>
  have:=step_ok h ho
  show(if _ then _ else _)=_
  rw[if_neg (by omega)]
  exact toksF_more this.1 (by have:=this.2;simp at this;omega) xX
theorem toksF_len{f:Nat}{out t:L8}(ho:out.length<=2048):(toksF f out t).out.length<=2048∧((toksF f out t).err=0∨(toksF f out t).out=[]):=by
 induction f generalizing out t with
 |zero=>cases t <;> simp[toksF,ho]
 |succ f ih=>
  cases t with
  |nil=>simp[toksF,ho]
  |cons c r=>
   rw[toksF]
   split
   ·simp
   ·rename_i h
    exact ih (step_ok (by omega) ho).1
theorem unpack_len(p:L8):(unpack p).out.length<=2048∧((unpack p).err=0∨(unpack p).out=[]):=by
 cases p with
 |nil=>simp[unpack]
 |cons c r=>
  rw[unpack]
  split
  ·exact toksF_len (by simp)
  ·split
   ·simp
   ·split
    ·simp
    ·simp;omega
theorem put_nil(n:Nat):Leb.put n≠[]:=by
 unfold Leb.put Leb.putF
 split <;> simp
theorem toks_lit{out l:L8}(r:L8)(hl:l≠[])(h:out.length+l.length<=2048):toks out (Leb.put (2*l.length)++(l++r))=toks (out++l) r:=by
 have hg:=Leb.get_put (2*l.length) (l++r) (by omega)
 have hl0:l.length≠0:=fun e=>hl (List.length_eq_zero_iff.1 e)
 have hs:step out (Leb.put (2*l.length)++(l++r))=⟨0,out++l,r⟩:=by
  unfold step
  rw[hg]
  simp only[ne_eq,not_true_eq_false,if_false]
  rw[if_pos (by omega),List.drop_left,show 2*l.length / 2=l.length by omega]
  unfold takeL
  rw[if_neg hl0,if_neg (by omega),if_neg (by simp),List.take_left,List.drop_left]
 have hne:Leb.put (2*l.length)++(l++r)≠[]:=fun e=>put_nil _ (List.append_eq_nil_iff.1 e).1
 rw[toks_step hne (by omega) (by rw[hs]),hs]
theorem toks_match{out:L8}(r:L8)(n d:Nat)(h4:4<=n)(h255:n<=255)(hd:1<=d)(hd2:d<=1024)(hd3:d<=out.length)(h:out.length+n<=2048):toks out (Leb.put (2*n+1)++(Leb.put d++r))=toks (copyB n d out) r:=by
 have hg:=Leb.get_put (2*n+1) (Leb.put d++r) (by omega)
 have hg2:=Leb.get_put d r (by omega)
 have hs:step out (Leb.put (2*n+1)++(Leb.put d++r))=⟨0,copyB n d out,r⟩:=by
  unfold step
  rw[hg]
  simp only[ne_eq,not_true_eq_false,if_false]
  rw[if_neg (by omega),List.drop_left,show(2*n+1) / 2=n by omega]
  unfold takeM
  rw[if_neg (by omega),hg2]
  simp only[ne_eq,not_true_eq_false,if_false]
  rw[if_neg (by omega),if_neg (by omega),List.drop_left]
 have hne:Leb.put (2*n+1)++(Leb.put d++r)≠[]:=fun e=>put_nil _ (List.append_eq_nil_iff.1 e).1
 rw[toks_step hne (by omega) (by rw[hs]),hs]
def Makes(p out:L8):Prop:=∀r,toks [] (p++r)=toks out r
theorem makes_nil:Makes [] []:=fun _=>rfl
theorem Makes.lit{p out l:L8}(hm:Makes p out)(hl:l≠[])(h:out.length+l.length<=2048):Makes (p++(Leb.put (2*l.length)++l)) (out++l):=by
 intro r
 rw[List.append_assoc,List.append_assoc,hm]
 exact toks_lit r hl h
theorem Makes.mat{p out:L8}(hm:Makes p out)(n d:Nat)(h4:4<=n)(h255:n<=255)(hd:1<=d)(hd2:d<=1024)(hd3:d<=out.length)(h:out.length+n<=2048):Makes (p++(Leb.put (2*n+1)++Leb.put d)) (copyB n d out):=by
 intro r
 rw[List.append_assoc,List.append_assoc,hm]
 exact toks_match r n d h4 h255 hd hd2 hd3 h
theorem Makes.done{p out:L8}(hm:Makes p out):unpack (1::p)=⟨0,out⟩:=by
 have:=hm []
 rw[List.append_nil] at this
 rw[unpack,if_pos (by decide),this,toks_nil]
end Blk
namespace Blk
def four(b:L8)(i:Nat):L8:=(b.drop i).take 4
def last(b f:L8):Nat->Nat
 |0=>0
 |i+1=>if four b i=f then i+1 else last b f i
def ahead(b:L8)(i:Nat):Nat:=if i+4<=b.length then last b (four b i) i else 0
def alike:L8->L8->Nat
 |c::l,d::s=>if c=d then alike l s+1 else 0
 |_,_=>0
structure Mt where
 size:Nat
 back:Nat
def chain(b:L8)(a most:Nat):Nat->Nat->Mt->Mt
 |0,_,m=>m
 |_+1,0,m=>m
 |f+1,g+1,m=>if 1024<a-g∨most<=m.size then m
  else chain b a most f (ahead b g) (if m.size<alike (b.drop g) ((b.drop a).take most) then ⟨alike (b.drop g) ((b.drop a).take most),a-g⟩ else m)
def longest(b:L8)(a:Nat):Mt:=chain b a (min (b.length-a) 255) a (ahead b a) ⟨0,0⟩
def putL(p l:L8):L8:=if l=[] then p else p++(Leb.put (2*l.length)++l)
def putM(p:L8)(m:Mt):L8:=p++(Leb.put (2*m.size+1)++Leb.put m.back)
def pk(b:L8):Nat->Nat->Nat->L8->L8
 |0,fr,_,p=>putL p (b.drop fr)
 |f+1,fr,a,p=>if a<b.length then
   if (longest b a).size=0 then pk b f fr (a+1) p
   else pk b f (a+(longest b a).size) (a+(longest b a).size) (putM (putL p ((b.drop fr).take (a-fr))) (longest b a))
  else putL p (b.drop fr)
def packT(b:L8):L8:=pk b b.length 0 0 [1]
def pack(b:L8):Res:=if 2048<b.length then ⟨2,[]⟩ else if (packT b).length<=b.length then ⟨0,packT b⟩ else ⟨0,0::b⟩
theorem last_le(b f:L8)(n:Nat):last b f n<=n:=by
 induction n with
 |zero=>exact xX
 |succ i ih=>
  rw[last]
  split <;> omega
theorem last_some(b f:L8)(n:Nat):last b f n≠0->four b (last b f n-1)=f:=by
 induction n with
 |zero=>intro h;exact absurd rfl h
 |succ i ih=>
  rw[last]
  split
  ·rename_i h;intro _;exact h
  ·exact ih
theorem ahead_le(b:L8)(i:Nat):ahead b i<=i:=by
 unfold ahead
 split
 ·exact last_le _ _ _
 ·omega
theorem ahead_some{b:L8}{i:Nat}(h:ahead b i≠0):i+4<=b.length∧four b (ahead b i-1)=four b i:=by
 unfold ahead at h ⊢
 split at h
 ·rename_i h1
  rw[if_pos h1]
  exact⟨h1,last_some _ _ _ h⟩
 ·exact absurd rfl h
theorem alike_le:∀l s:L8,alike l s<=l.length∧alike l s<=s.length:=by
 intro l
 induction l with
 |nil=>intro s;simp[alike]
 |cons c l ih=>
  intro s
  cases s with
  |nil=>simp[alike]
  |cons d s=>
   have:=ih s
   rw[alike]
   split <;> simp <;> omega
theorem alike_eq:∀(l s:L8) (i:Nat),i<alike l s->l[i]?=s[i]?:=by
 intro l
 induction l with
 |nil=>intro s i h;simp[alike] at h
 |cons c l ih=>
  intro s i h
  cases s with
  |nil=>simp[alike] at h
  |cons d s=>
   rw[alike] at h
   split at h
   ·rename_i e
    cases i with
    |zero=>simp[e]
    |succ i=>simp only[List.getElem?_cons_succ];exact ih s i (by omega)
   ·omega
theorem alike_ge:∀(l s:L8) (k:Nat),k<=l.length->k<=s.length->(∀i,i<k->l[i]?=s[i]?)->k<=alike l s:=by
 intro l
 induction l with
 |nil=>intro s k h1 _ _;simp at h1;omega
 |cons c l ih=>
  intro s k h1 h2 h3
  cases s with
  |nil=>simp at h2;omega
  |cons d s=>
   cases k with
   |zero=>omega
   |succ k=>
    have e:c=d:=by simpa using h3 0 (by omega)
    rw[alike,if_pos e]
    have:=ih s k (by simpa using h1) (by simpa using h2) (fun i hi=>by simpa using h3 (i+1) (by omega))
    omega
structure Good(b:L8)(a:Nat)(m:Mt):Prop where
 four:4<=m.size
 most:m.size<=255
 fits:a+m.size<=b.length
 one:1<=m.back
 near:m.back<=1024
 has:m.back<=a
 same:∀i,i<m.size->b[a+i]?=b[a-m.back+i]?
theorem four_get{b:L8}{i j:Nat}(h:four b i=four b j)(k:Nat)(hk:k<4):b[i+k]?=b[j+k]?:=by
 have:=congrArg (fun l=>l[k]?) h
 simp only[four,List.getElem?_take_of_lt hk,List.getElem?_drop] at this
 exact this
theorem good_next{b:L8}{a g most:Nat}(hm:most=min (b.length-a) 255)(ha:a+4<=b.length)(hg:g<a)(hf:four b g=four b a)(hnear:a-g<=1024):
  Good b a ⟨alike (b.drop g) ((b.drop a).take most),a-g⟩:=by
 have h1:=alike_le (b.drop g) ((b.drop a).take most)
 have hl:((b.drop a).take most).length=most:=by rw[List.length_take,List.length_drop];omega
 rw[hl] at h1
 have h4:=alike_ge (b.drop g) ((b.drop a).take most) 4 (by rw[List.length_drop];omega) (by rw[hl];omega) (fun i hi=>by
  rw[List.getElem?_take_of_lt (by omega),List.getElem?_drop,List.getElem?_drop]
  exact four_get hf i hi)
 refine⟨h4,by show alike _ _<=255;omega,by show a+alike _ _<=_;omega,by show 1<=a-g;omega,hnear,by show a-g<=a;omega,fun i hi=>?_⟩
 have hi':i<alike (b.drop g) ((b.drop a).take most):=hi
 have:=alike_eq _ _ i hi'
 rw[List.getElem?_take_of_lt (by omega),List.getElem?_drop,List.getElem?_drop] at this
 show b[a+i]?=b[a-(a-g)+i]?
 rw[show a-(a-g)=g by omega]
 exact this.symm
theorem chain_good{b:L8}{a most:Nat}(hm:most=min (b.length-a) 255)(f:Nat):∀(g:Nat) (m:Mt),g<=a->(g≠0->a+4<=b.length∧four b (g-1)=four b a)->(m.size=0∨Good b a m)->(chain b a most f g m).size=0∨Good b a (chain b a most f g m):=by
 induction f with
 |zero=>intro g m _ _ h;exact h
 |succ f ih=>
  intro g m hg hf h
  cases g with
  |zero=>exact h
  |succ g=>
   rw[chain]
   split
   ·exact h
   ·rename_i hc
    obtain⟨ha,hf4⟩:=hf (by omega)
    have e:g+1-1=g:=rfl
    rw[e] at hf4
    refine ih _ _ (by have:=ahead_le b g;omega) (fun hne=>⟨ha,?_⟩) ?_
    ·exact(ahead_some hne).2.trans hf4
    ·split
     ·exact .inr (good_next hm ha (by omega) hf4 (by omega))
     ·exact h
theorem longest_good(b:L8)(a:Nat):(longest b a).size=0∨Good b a (longest b a) :=
 chain_good rfl a _ _ (ahead_le b a) (fun h=>ahead_some h) (.inl rfl)
theorem copyB_take{b:L8}{a d:Nat}(hd:1<=d)(hda:d<=a)(n:Nat)(hn:a+n<=b.length)(hs:∀i,i<n->b[a+i]?=b[a-d+i]?):copyB n d (b.take a)=b.take (a+n):=by
 induction n with
 |zero=>rfl
 |succ n ih=>
  rw[copyB_snoc,ih (by omega) (fun i hi=>hs i (by omega))]
  have hl:(b.take (a+n)).length=a+n:=by rw[List.length_take];omega
  rw[hl,List.getD_eq_getElem?_getD,List.getElem?_take_of_lt (by omega)]
  have h1:=hs n (by omega)
  rw[show a-d+n=a+n-d by omega] at h1
  rw[<-h1,<-Nat.add_assoc,List.take_add_one,List.getElem?_eq_getElem (show a+n<b.length by omega)]
  rfl
theorem putL_head(p l:L8)(c:UInt8):putL (c::p) l=c::putL p l:=by
 unfold putL
 split <;> rfl
theorem putM_head(p:L8)(m:Mt)(c:UInt8):putM (c::p) m=c::putM p m:=rfl
theorem makes_putL{p b:L8}{fr a:Nat}(h:Makes p (b.take fr))(hf:fr<=a)(ha:a<=b.length)(hb:b.length<=2048):Makes (putL p ((b.drop fr).take (a-fr))) (b.take a):=by
 unfold putL
 split
 ·rename_i h0
  have:=congrArg List.length h0
  rw[List.length_take,List.length_drop] at this
  simp only[List.length_nil] at this
  obtain rfl:fr=a:=by omega
  exact h
 ·rename_i h0
  have h1:=h.lit h0 (by simp only[List.length_take,List.length_drop];omega)
  have e:b.take fr++(b.drop fr).take (a-fr)=b.take a:=by
   rw[<-List.take_add];congr 1;omega
  rw[e] at h1
  exact h1
theorem makes_putM{p b:L8}{a:Nat}{m:Mt}(h:Makes p (b.take a))(g:Good b a m)(hb:b.length<=2048):Makes (putM p m) (b.take (a+m.size)):=by
 have hl:(b.take a).length=a:=by rw[List.length_take];have:=g.fits;omega
 have h1:=h.mat m.size m.back g.four g.most g.one g.near (by rw[hl];exact g.has) (by rw[hl];have:=g.fits;omega)
 rw[copyB_take g.one g.has m.size g.fits g.same] at h1
 exact h1
theorem pk_makes{b:L8}(hb:b.length<=2048)(f:Nat):∀(fr a:Nat) (p:L8),b.length-a<=f->fr<=a->a<=b.length->Makes p (b.take fr)->∃p',pk b f fr a (1::p)=1::p'∧Makes p' b:=by
 induction f with
 |zero=>
  intro fr a p h1 h2 h3 hm
  refine⟨putL p (b.drop fr),by rw[pk,putL_head],?_⟩
  have:=makes_putL hm (Nat.le_trans h2 h3) xX hb
  rwa [List.take_of_length_le (by rw[List.length_drop];exact xX),List.take_of_length_le xX] at this
 |succ f ih=>
  intro fr a p h1 h2 h3 hm
  rw[pk]
  split
  ·rename_i hlt
   split
   ·exact ih fr (a+1) p (by omega) (by omega) (by omega) hm
   ·rename_i h0
    have hg:Good b a (longest b a):=(longest_good b a).resolve_left h0
    rw[putL_head,putM_head]
    exact ih _ _ _ (by omega) xX hg.fits (makes_putM (makes_putL hm h2 h3 hb) hg hb)
  ·refine⟨putL p (b.drop fr),putL_head _ _ _,?_⟩
   have:=makes_putL hm (show fr<=b.length by omega) xX hb
   rwa [List.take_of_length_le (by rw[List.length_drop];exact xX),List.take_of_length_le xX] at this
theorem pack_back{b:L8}(hb:b.length<=2048):(pack b).err=0∧unpack (pack b).out=⟨0,b⟩∧(pack b).out.length<=b.length+1:=by
 unfold pack
 rw[if_neg (by omega)]
 split
 ·rename_i h
  obtain⟨p',h1,h2⟩:=pk_makes hb b.length 0 0 [] (by omega) xX (Nat.zero_le _) makes_nil
  refine⟨rfl,?_,by show(packT b).length<=_;omega⟩
  show unpack (packT b)=_
  rw[show packT b=1::p' from h1]
  exact h2.done
 ·refine⟨rfl,?_,by simp⟩
  show unpack (0::b)=_
  rw[unpack,if_neg (by decide),if_neg (by decide),if_neg (by omega)]
end Blk
section
namespace Bt
def rowsErr(s:List Col):List (List V)->Nat
 | []=>0
 |r::l=>if Rw.err s r=0 then rowsErr s l else Rw.err s r
def bytes:List (List V)->L8
 | []=>[]
 |r::l=>Rw.bytes r++bytes l
def numErr(s:List Col)(n:Int):Nat:=if Sch.err s≠0 then Sch.err s else if n<1 then 4 else if 64<n then 3 else 0
def err(s:List Col)(l:List (List V)):Nat:=if numErr s l.length≠0 then numErr s l.length else if rowsErr s l≠0 then rowsErr s l else if 2048<(bytes l).length then 2 else 0
def out(s:List Col)(l:List (List V)):L8:=if err s l=0 then bytes l else []
def pack(s:List Col)(l:List (List V)):Blk.Res:=if err s l=0 then Blk.pack (bytes l) else ⟨err s l,[]⟩
def rows(s:List Col)(b:L8):Nat->Nat->Except Nat (List (List V)×Nat)
 |0,a=>.ok ([],a)
 |n+1,a=>match Rw.read s b a with
  |.error e=>.error e
  |.ok (r,k)=>match rows s b n k with
   |.error e=>.error e
   |.ok (l,j)=>.ok (r::l,j)
def whole(s:List Col)(b:L8)(n:Nat):Except Nat (List (List V)):=match rows s b n 0 with
 |.error e=>.error e
 |.ok (l,j)=>if j<b.length then .error 5 else .ok l
def unpack(s:List Col)(b:L8)(n:Int):Except Nat (List (List V)):=if numErr s n≠0 then .error (numErr s n) else if (Blk.unpack b).err≠0 then .error (Blk.unpack b).err else whole s (Blk.unpack b).out n.toNat
theorem numErr_open{s:List Col}{n:Int}(h:numErr s n=0):Sch.err s=0∧1<=n∧n<=64:=by
 unfold numErr at h
 split at h
 ·next h0=>exact absurd h h0
 ·split at h
  ·omega
  ·split at h
   ·omega
   ·exact⟨by omega,by omega,by omega⟩
theorem numErr_make{s:List Col}{n:Int}(h0:Sch.err s=0)(h1:1<=n)(h2:n<=64):numErr s n=0:=by
 unfold numErr
 rw[if_neg (by omega),if_neg (by omega),if_neg (by omega)]
theorem err_open{s:List Col}{l:List (List V)}(h:err s l=0):numErr s l.length=0∧rowsErr s l=0∧(bytes l).length<=2048:=by
 unfold err at h
 split at h
 ·next h0=>exact absurd h h0
 ·split at h
  ·next h0=>exact absurd h h0
  ·split at h
   ·omega
   ·exact⟨by omega,by omega,by omega⟩
theorem err_make{s:List Col}{l:List (List V)}(h0:numErr s l.length=0)(h1:rowsErr s l=0)(h2:(bytes l).length<=2048):err s l=0:=by
 unfold err
 rw[if_neg (by omega),if_neg (by omega),if_neg (by omega)]
theorem rowsErr_mem{s:List Col}:∀{l:List (List V)},rowsErr s l=0->∀r∈l,Rw.err s r=0
 | [],_,r,hr=>by cases hr
 |x::l,h,r,hr=>by
  rw[rowsErr] at h
  split at h
  ·next h0=>
   rcases List.mem_cons.1 hr with rfl | hr
   ·exact h0
   ·exact rowsErr_mem h r hr
  ·next h0=>exact absurd h h0
theorem bytes_append(a b:List (List V)):bytes (a++b)=bytes a++bytes b:=by
 induction a with
 |nil=>rfl
 |cons x a ih=>rw[List.cons_append,bytes,bytes,ih,List.append_assoc]
theorem bytes_take(l:List (List V))(i:Nat)(h:i<l.length):bytes (l.take (i+1))=bytes (l.take i)++Rw.bytes l[i]:=by
 rw[List.take_succ_eq_append_getElem h,bytes_append]
 simp[bytes]
theorem bytes_bound{s:List Col}:∀{l:List (List V)},rowsErr s l=0->(bytes l).length<=1024*l.length
 | [],_=>by simp[bytes]
 |x::l,h=>by
  have h1:=(Rw.err_open (rowsErr_mem h x (by simp))).2.2.2
  have h2:=bytes_bound (s:=s) (l:=l) (by
   rw[rowsErr] at h
   split at h
   ·exact h
   ·next h0=>exact absurd h h0)
  rw[bytes,List.length_append,List.length_cons]
  omega
theorem rowsErr_take{s:List Col}:∀{l:List (List V)} (i:Nat),(∀j (h:j<l.length),j<i->Rw.err s l[j]=0)->rowsErr s (l.take i)=0
 | [],i,_=>by simp[rowsErr]
 |x::l,0,_=>by simp[rowsErr]
 |x::l,i+1,h=>by
  have h0:Rw.err s x=0:=h 0 (by simp) (by omega)
  rw[List.take_succ_cons,rowsErr,if_pos h0]
  exact rowsErr_take i (fun j hj hji=>h (j+1) (by simpa using hj) (by omega))
theorem rowsErr_at{s:List Col}:∀{l:List (List V)} (i:Nat) (hi:i<l.length),(∀j (h:j<l.length),j<i->Rw.err s l[j]=0)->Rw.err s l[i]≠0->rowsErr s l=Rw.err s l[i]
 | [],i,hi,_,_=>by simp at hi
 |x::l,0,hi,_,hn=>by
  have hn':Rw.err s x≠0:=hn
  rw[rowsErr,if_neg hn']
  rfl
 |x::l,i+1,hi,h,hn=>by
  have h0:Rw.err s x=0:=h 0 (by simp) (by omega)
  rw[rowsErr,if_pos h0]
  exact rowsErr_at i (by simpa using hi) (fun j hj hji=>h (j+1) (by simpa using hj) (by omega)) hn
theorem rowsErr_all{s:List Col}{l:List (List V)}(h:∀j (h:j<l.length),Rw.err s l[j]=0):rowsErr s l=0:=by
 have:=rowsErr_take (l:=l) l.length (fun j hj _=>h j hj)
 rwa [List.take_length] at this
theorem rows_zero(s:List Col)(b:L8)(a:Nat):rows s b 0 a=.ok ([],a):=by rw[rows]
theorem rows_succ(s:List Col)(b:L8)(n a:Nat):rows s b (n+1) a=(match Rw.read s b a with
  |.error e=>.error e
  |.ok (r,k)=>match rows s b n k with
   |.error e=>.error e
   |.ok (l,j)=>.ok (r::l,j)):=by rw[rows]
theorem rows_put{s:List Col}(r:L8):∀(l:List (List V)) (a:L8),rowsErr s l=0->(∀x∈l,∀v∈x,v.wf)->rows s (a++(bytes l++r)) l.length a.length=.ok (l.map (fun x=>x.map V.fix),a.length+(bytes l).length)
 | [],a,_,_=>by simp[rows,bytes]
 |x::l,a,h,hw=>by
  have h0:=rowsErr_mem h x (by simp)
  have hl:rowsErr s l=0:=by
   rw[rowsErr,if_pos h0] at h
   exact h
  have e1:=Rw.read_put h0 (hw x (by simp)) a (bytes l++r)
  have e2:=rows_put r l (a++Rw.bytes x) hl (fun y hy=>hw y (by simp[hy]))
  rw[List.append_assoc,List.length_append] at e2
  rw[List.length_cons,rows,bytes,List.append_assoc,e1]
  dsimp only
  rw[e2]
  simp[List.length_append,Nat.add_assoc]
theorem rows_ok{s:List Col}{b:L8}:∀(n a:Nat) (l:List (List V)) (k:Nat),a<=b.length->rows s b n a=.ok (l,k)->l.length=n∧rowsErr s l=0∧(∃r,b.drop a=bytes l++r)∧k=a+(bytes l).length∧k<=b.length∧∀x∈l,∀v∈x,V.fix v=v∧v.wf
 |0,a,l,k,ha,h=>by
  rw[rows] at h
  injection h with h
  injection h with h1 h2
  subst h1 h2
  exact⟨rfl,rfl,⟨b.drop a,rfl⟩,rfl,ha,fun x hx=>by cases hx⟩
 |n+1,a,l,k,ha,h=>by
  rw[rows] at h
  split at h
  ·cases h
  ·next x k1 hx=>
   split at h
   ·cases h
   ·next l' j hr=>
    injection h with h
    injection h with h1 h2
    subst h1 h2
    obtain⟨_,_,a3,a4,a5,a6,a7⟩:=Rw.read_ok hx
    rw[Int.toNat_natCast] at a3 a5
    obtain⟨b1,b2,⟨r,b3⟩,b4,b5,b6⟩:=rows_ok n k1 l' j a4 hr
    refine⟨by simp[b1],by rw[rowsErr,if_pos a6];exact b2,⟨r,?_⟩,by rw[bytes,List.length_append];omega,b5,fun y hy=>?_⟩
    ·rw[bytes,List.append_assoc,<-b3,a3,<-List.drop_drop]
     conv=>rhs;lhs;rw[<-a5]
     exact(List.take_append_drop _ _).symm
    ·rcases List.mem_cons.1 hy with rfl | hy
     ·exact a7
     ·exact b6 y hy
theorem rows_snoc{s:List Col}{b:L8}:∀(n a:Nat) (l:List (List V)) (k:Nat),rows s b n a=.ok (l,k)->rows s b (n+1) a=(match Rw.read s b k with
  |.error e=>.error e
  |.ok (r,j)=>.ok (l++[r],j))
 |0,a,l,k,h=>by
  rw[rows_zero] at h
  injection h with h
  injection h with h1 h2
  subst h1 h2
  rw[rows_succ]
  cases Rw.read s b a with
  |error e=>rfl
  |ok p=>obtain⟨r,j⟩:=p;rfl
 |n+1,a,l,k,h=>by
  rw[rows_succ] at h
  split at h
  ·cases h
  ·next x k1 hx=>
   split at h
   ·cases h
   ·next l' j hr=>
    injection h with h
    injection h with h1 h2
    subst h1 h2
    rw[rows_succ,hx]
    dsimp only
    rw[rows_snoc n k1 l' j hr]
    cases Rw.read s b j with
    |error e=>rfl
    |ok p=>obtain⟨r,j⟩:=p;rfl
theorem rows_stop{s:List Col}{b:L8}:∀(n a e m:Nat),rows s b n a=.error e->rows s b (n+m) a=.error e
 |0,a,e,m,h=>by rw[rows_zero] at h;cases h
 |n+1,a,e,m,h=>by
  rw[show n+1+m=(n+m)+1 by omega,rows_succ]
  rw[rows_succ] at h
  split at h
  ·next x hx=>
   injection h with h
   subst h
   rfl
  ·next x k1 hx=>
   split at h
   ·next e' hr=>
    injection h with h
    subst h
    rw[rows_stop n k1 _ m hr]
   ·cases h
theorem whole_ok{s:List Col}{b:L8}{n:Nat}{l:List (List V)}(h:whole s b n=.ok l):l.length=n∧rowsErr s l=0∧b=bytes l∧rows s b n 0=.ok (l,b.length)∧∀x∈l,∀v∈x,V.fix v=v∧v.wf:=by
 unfold whole at h
 split at h
 ·cases h
 ·next l' j hr=>
  split at h
  ·cases h
  ·next hj=>
   injection h with h
   subst h
   obtain⟨b1,b2,⟨r,b3⟩,b4,b5,b6⟩:=rows_ok n 0 l' j (Nat.zero_le _) hr
   have hj2:j=b.length:=by omega
   subst hj2
   rw[List.drop_zero] at b3
   have hr0:r=[]:=by
    have:=congrArg List.length b3
    rw[List.length_append] at this
    exact List.length_eq_zero_iff.1 (by omega)
   rw[hr0,List.append_nil] at b3
   exact⟨b1,b2,b3,hr,b6⟩
theorem whole_put{s:List Col}{l:List (List V)}(h:rowsErr s l=0)(hw:∀x∈l,∀v∈x,v.wf):whole s (bytes l) l.length=.ok (l.map (fun x=>x.map V.fix)):=by
 have:=rows_put (s:=s) [] l [] h hw
 rw[List.nil_append,List.append_nil] at this
 unfold whole
 rw[show(0:Nat)=([]:L8).length from rfl,this]
 simp
theorem unpack_open{s:List Col}{b:L8}{n:Int}{l:List (List V)}(h:unpack s b n=.ok l):numErr s n=0∧(Blk.unpack b).err=0∧whole s (Blk.unpack b).out n.toNat=.ok l:=by
 unfold unpack at h
 split at h
 ·cases h
 ·split at h
  ·cases h
  ·exact⟨by omega,by omega,h⟩
theorem pack_unpack{s:List Col}{l:List (List V)}(h:err s l=0)(hw:∀x∈l,∀v∈x,v.wf):(pack s l).err=0∧unpack s (pack s l).out l.length=.ok (l.map (fun x=>x.map V.fix)):=by
 obtain⟨h0,h1,h2⟩:=err_open h
 obtain⟨g1,g2,g3⟩:=Blk.pack_back h2
 unfold pack
 rw[if_pos h]
 refine⟨g1,?_⟩
 unfold unpack
 rw[if_neg (by omega),g2,if_neg (by simp)]
 exact whole_put h1 hw
theorem fix_all{l:List (List V)}(h:∀x∈l,∀v∈x,V.fix v=v∧v.wf):l.map (fun x=>x.map V.fix)=l:=by
 have:∀x∈l,(fun x:List V=>x.map V.fix) x=id x:=fun x hx=>by
  show x.map V.fix=x
  have h1:=List.map_congr_left (f:=V.fix) (g:=id) (l:=x) (fun v hv=>(h x hx v hv).1)
  rw[h1,List.map_id]
 rw[List.map_congr_left this,List.map_id]
theorem unpack_pack{s:List Col}{b:L8}{n:Int}{l:List (List V)}(h:unpack s b n=.ok l):err s l=0∧bytes l=(Blk.unpack b).out∧(l.length:Int)=n∧(pack s l).err=0∧unpack s (pack s l).out n=.ok l:=by
 obtain⟨h0,h1,h2⟩:=unpack_open h
 obtain⟨b1,b2,b3,_,b5⟩:=whole_ok h2
 have hn:=numErr_open h0
 have hln:(l.length:Int)=n:=by omega
 have he:err s l=0:=err_make (by rw[hln];exact h0) b2 (by rw[<-b3];exact(Blk.unpack_len b).1)
 obtain⟨g1,g2⟩:=pack_unpack he (fun x hx v hv=>(b5 x hx v hv).2)
 rw[hln,fix_all b5] at g2
 exact⟨he,b3.symm,hln,g1,g2⟩
theorem rows_err{s:List Col}{b:L8}:∀(n a er:Nat),rows s b n a=.error er->er≠0
 |0,a,er,h=>by rw[rows] at h;cases h
 |n+1,a,er,h=>by
  rw[rows] at h
  split at h
  ·next e he=>injection h with h;subst h;exact Rw.read_err he
  ·split at h
   ·next e he=>injection h with h;subst h;exact rows_err _ _ _ he
   ·cases h
theorem unpack_err{s:List Col}{b:L8}{n:Int}{er:Nat}(h:unpack s b n=.error er):er≠0:=by
 unfold unpack at h
 split at h
 ·next h0=>injection h with h;subst h;exact h0
 ·split at h
  ·next h0=>injection h with h;subst h;exact h0
  ·unfold whole at h
   split at h
   ·next e he=>injection h with h;subst h;exact rows_err _ _ _ he
   ·split at h
    ·injection h with h;omega
    ·cases h
theorem first_ne{xs:List Nat}{n:Nat}(hn:n≠0)(h:∀x∈xs,x≠n):V.first xs≠n:=by
 induction xs with
 |nil=>rw[V.first];omega
 |cons x r ih=>
  rw[V.first]
  split
  ·exact ih (fun y hy=>h y (by simp[hy]))
  ·exact h x (by simp)
theorem ty_ne:∀(t:Ty) (d:Nat),Ty.check d t≠30:=by
 intro t
 refine Ty.ind (P:=fun t=>∀d,Ty.check d t≠30) ?_ t
 intro k xs ih d
 rw[Ty.check_mk]
 split
 ·omega
 split
 ·omega
 ·refine first_ne (by omega) (fun x hx=>?_)
  obtain⟨y,hy,rfl⟩:=List.mem_map.1 hx
  exact ih y hy _
theorem chkL_ne{d:Nat}{xs:List V}(h:∀x∈xs,chk d x≠30):eN d xs≠30:=by
 induction xs with
 |nil=>unfold eN;rw[V.checkL_nil];omega
 |cons x r ih=>
  have h1:=ih (fun y hy=>h y (by simp[hy]))
  have h2:=h x (by simp)
  unfold eN at h1 ⊢
  unfold chk at h2
  rw[V.checkL_cons]
  split
  ·exact h1
  ·exact h2
theorem chk_ne:∀(v:V) (d:Nat),chk d v≠30:=by
 intro v
 refine V.ind (P:=fun v=>∀d,chk d v≠30) ?_ v
 intro k i b t xs ih d
 rw[kB]
 split
 ·omega
 split
 ·omega
 split
 ·omega
 split
 ·omega
 split
 ·omega
 ·exact chkL_ne (fun x hx=>ih x hx _)
theorem colErr_ne(l:List Col)(c:Col):Sch.colErr l c≠30:=by
 unfold Sch.colErr
 have h1:=ty_ne c.ty 1
 have h2:=chk_ne c.dflt 1
 split
 ·omega
 split
 ·omega
 split
 ·exact h1
 split
 ·split <;> omega
 split
 ·exact h2
 split <;> omega
theorem colsErr_ne:∀(s l:List Col),Sch.colsErr l s≠30
 | [],l=>by rw[Sch.colsErr];omega
 |c::r,l=>by
  rw[Sch.colsErr]
  split
  ·exact colsErr_ne r _
  ·exact colErr_ne l c
theorem schErr_ne(s:List Col):Sch.err s≠30:=by
 unfold Sch.err
 split
 ·omega
 split
 ·omega
 split
 ·exact colsErr_ne s []
 split <;> omega
theorem read_none(s:List Col):Rw.read s [] (-1)=.error (if Sch.err s=0 then 30 else Sch.err s):=by
 unfold Rw.read
 split
 ·rfl
 ·next h=>simp;omega
end Bt
end
section
open Go.RowKit
theorem al2(w:World)(o0 o1:Obj):((w.alloc o0).alloc o1).1[w.1.size]?=some o0∧((w.alloc o0).alloc o1).1[w.1.size+1]?=some o1∧Below w.1.size w ((w.alloc o0).alloc o1)∧((w.alloc o0).alloc o1).1.size=w.1.size+2:=by
 refine⟨?_,?_,xY.alloc (by simp) _,by simp⟩
 ·rw[az _ _ (by simp)];exact ap w _
 ·have:=ap (w.alloc o0) o1
  simpa using this
theorem al3(w:World)(o0 o1 o2:Obj):(((w.alloc o0).alloc o1).alloc o2).1[w.1.size]?=some o0∧(((w.alloc o0).alloc o1).alloc o2).1[w.1.size+1]?=some o1∧(((w.alloc o0).alloc o1).alloc o2).1[w.1.size+1+1]?=some o2∧Below w.1.size w (((w.alloc o0).alloc o1).alloc o2)∧(((w.alloc o0).alloc o1).alloc o2).1.size=w.1.size+3:=by
 obtain⟨h0,h1,hb,hs⟩:=al2 w o0 o1
 refine⟨?_,?_,?_,hb.alloc (by rw[hs];omega) _,?_⟩
 ·rw[az _ _ (by rw[hs];omega)];exact h0
 ·rw[az _ _ (by rw[hs];omega)];exact h1
 ·have:=ap ((w.alloc o0).alloc o1) o2
  rw[hs] at this
  exact this
 ·simp
theorem al4(w:World)(o0 o1 o2 o3:Obj):((((w.alloc o0).alloc o1).alloc o2).alloc o3).1[w.1.size]?=some o0∧((((w.alloc o0).alloc o1).alloc o2).alloc o3).1[w.1.size+1]?=some o1∧((((w.alloc o0).alloc o1).alloc o2).alloc o3).1[w.1.size+1+1]?=some o2∧((((w.alloc o0).alloc o1).alloc o2).alloc o3).1[w.1.size+1+1+1]?=some o3∧Below w.1.size w ((((w.alloc o0).alloc o1).alloc o2).alloc o3)∧((((w.alloc o0).alloc o1).alloc o2).alloc o3).1.size=w.1.size+4:=by
 obtain⟨h0,h1,h2,hb,hs⟩:=al3 w o0 o1 o2
 refine⟨?_,?_,?_,?_,hb.alloc (by rw[hs];omega) _,?_⟩
 ·rw[az _ _ (by rw[hs];omega)];exact h0
 ·rw[az _ _ (by rw[hs];omega)];exact h1
 ·rw[az _ _ (by rw[hs];omega)];exact h2
 ·have:=ap (((w.alloc o0).alloc o1).alloc o2) o3
  rw[hs] at this
  exact this
 ·simp
theorem al5(w:World)(o0 o1 o2 o3 o4:Obj):(((((w.alloc o0).alloc o1).alloc o2).alloc o3).alloc o4).1[w.1.size]?=some o0∧(((((w.alloc o0).alloc o1).alloc o2).alloc o3).alloc o4).1[w.1.size+1]?=some o1∧(((((w.alloc o0).alloc o1).alloc o2).alloc o3).alloc o4).1[w.1.size+1+1]?=some o2∧(((((w.alloc o0).alloc o1).alloc o2).alloc o3).alloc o4).1[w.1.size+1+1+1]?=some o3∧(((((w.alloc o0).alloc o1).alloc o2).alloc o3).alloc o4).1[w.1.size+1+1+1+1]?=some o4∧Below w.1.size w (((((w.alloc o0).alloc o1).alloc o2).alloc o3).alloc o4)∧(((((w.alloc o0).alloc o1).alloc o2).alloc o3).alloc o4).1.size=w.1.size+5:=by
 obtain⟨h0,h1,h2,h3,hb,hs⟩:=al4 w o0 o1 o2 o3
 refine⟨?_,?_,?_,?_,?_,hb.alloc (by rw[hs];omega) _,?_⟩
 ·rw[az _ _ (by rw[hs];omega)];exact h0
 ·rw[az _ _ (by rw[hs];omega)];exact h1
 ·rw[az _ _ (by rw[hs];omega)];exact h2
 ·rw[az _ _ (by rw[hs];omega)];exact h3
 ·have:=ap ((((w.alloc o0).alloc o1).alloc o2).alloc o3) o4
  rw[hs] at this
  exact this
 ·simp
theorem aA{w w':World}{g:Nat}{C:AV}{T:TypeId}{fr:Nat×Nat}(h:w.1[g]?=some (.cells C T fr))(hb:Below w.1.size w w')(m:Nat):w'.cell? ⟨g,m,none⟩=C[m]? :=
 aa ((hb.block _ (ao h)).trans h) m
end
section
open Go.RowKit
def aW(w:World)(q:OA)(c:Nat)(vs:List V):Prop:=aJ w (cells5 0 0 0 ⟨#[]⟩ q vs.length c) (.mk 0 0 0 ⟨#[]⟩ vs)∧∀v∈vs,v.wf
theorem aW.on{w w':World}{q:OA}{c:Nat}{vs:List V}(h:aW w q c vs)(hb:Below w.1.size w w'):aW w' q c vs:=⟨h.1.on hb,h.2⟩
theorem aW.items{w:World}{q:OA}{c:Nat}{vs:List V}(h:aW w q c vs):vs.length*64<=140737488351232∧vs.length<=c∧fO w q vs:=by
 obtain⟨p,c',he,h1,h2,h3⟩:=h.1.open
 unfold cells5 at he
 simp only[Array.mk.injEq,List.cons.injEq,Value.slice.injEq,and_true,true_and] at he
 obtain⟨rfl,rfl⟩:=he
 exact⟨h1,h2,h3⟩
structure dc(w:World)(p:OA)(c:Nat)(s:List Col):Prop where
 len:s.length*120<=140737488351232
 cap:s.length<=c
 cols:bw w p s
 wf:∀x∈s,x.wf
theorem dc.on{w w':World}{p:OA}{c:Nat}{s:List Col}(h:dc w p c s)(hb:Below w.1.size w w'):dc w' p c s:=⟨h.len,h.cap,h.cols.on hb,h.wf⟩
def Told(w:World)(er:Nat)(l:L8)(e:Ending)(w':World):Prop:=∃q cap,e=.returned (.tuple #[.slice q l.length cap,.int .i64 (er:Nat)])∧At w' q l∧l.length<=cap∧Below w.1.size w w'
theorem kz(s:List Col)(vs:List V)(j:Nat)(h1:j<s.length)(h2:j<vs.length):Rw.colsErr (s.drop j) (vs.drop j)=if Rw.vErr s[j].ty vs[j]=0 then Rw.colsErr (s.drop (j+1)) (vs.drop (j+1)) else Rw.vErr s[j].ty vs[j]:=by
 rw[List.drop_eq_getElem_cons h1,List.drop_eq_getElem_cons h2,Rw.colsErr]
def jQ(s:List Col)(l:L8):Except Nat (V×Nat)->Except Nat (List V×Nat)
 |.error e=>.error e
 |.ok (v,j)=>glue [v] j (Rw.rd s (l.drop j))
theorem ot(c:Col)(s:List Col)(l:L8):Rw.rd (c::s) l=jQ s l (Sch.rdV c.ty l):=by
 rw[Rw.rd]
 cases Sch.rdV c.ty l with
 |error e=>rfl
 |ok p=>
  obtain⟨v,j⟩:=p
  rw[jQ]
  dsimp only
  cases Rw.rd s (l.drop j) with
  |error e=>rfl
  |ok q=>rfl
def tU(w:World)(r:Except Nat (List V×Nat))(e:Ending)(w':World):Prop:=match r with
 |.error er=>e=.returned (.tuple #[.agg #[.slice none 0 0],.int .i64 0,.int .i64 (er:Nat)])∧Below w.1.size w w'
 |.ok (vs,k)=>∃q c,e=.returned (.tuple #[.agg #[.slice q vs.length c],.int .i64 (k:Nat),.int .i64 0])∧aR w' (fun k=>w.1.size<=k∧k<w'.1.size) (cells5 0 0 0 ⟨#[]⟩ q vs.length c) (.mk 0 0 0 ⟨#[]⟩ vs)∧Below w.1.size w w'
end
end Go.Proofs.YtceomhodhmcknaaGreatDoor
