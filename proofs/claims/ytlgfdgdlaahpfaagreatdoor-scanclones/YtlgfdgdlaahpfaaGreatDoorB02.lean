import Derived.Test.YtlgfdgdlaahpfaaGreatDoorB01
import Derived.Deep.DeepCutAuto
set_option maxRecDepth 100000
set_option maxHeartbeats 2000000
namespace Go.Proofs.YtlgfdgdlaahpfaaGreatDoor
namespace Cob
def Nz(l:L8):Prop:=∀c,c∈l->c≠0
def sp:L8->L8->List L8
 |cur,[]=>[cur]
 |cur,c::r=>if c=0 then cur::sp [] r else if cur.length+1=254 then (cur++[c])::(if r=[] then [] else sp [] r) else sp (cur++[c]) r
def split(b:L8):List L8:=sp [] b
def join:List L8->L8
 | []=>[]
 | [g]=>g
 |g::h::t=>g++(if g.length<254 then [0] else [])++join (h::t)
def enc:List L8->L8
 | []=>[]
 |g::t=>UInt8.ofNat (g.length+1)::(g++enc t)
def Good:List L8->Prop
 | []=>False
 | [g]=>g.length<=254∧Nz g
 |g::h::t=>g.length<=254∧Nz g∧(g.length=254->¬(h=[]∧t=[]))∧Good (h::t)
def stuff(b:L8):L8:=enc (split b)
theorem sp_ne(cur b:L8):sp cur b≠[]:=by
 induction b generalizing cur with
 |nil=>simp[sp]
 |cons c r ih=>
  rw[sp]
  split
  ·simp
  ·split
   ·simp
   ·exact ih _
theorem join_cons(g:L8)(gs:List L8)(h:gs≠[]):join (g::gs)=g++(if g.length<254 then [0] else [])++join gs:=by
 cases gs with
 |nil=>exact absurd rfl h
 |cons a t=>rfl
theorem join_sp(b:L8):∀cur:L8,cur.length<254->join (sp cur b)=cur++b:=by
 induction b with
 |nil=>intro cur _;simp[sp,join]
 |cons c r ih=>
  intro cur hc
  rw[sp]
  by_cases h0:c=0
  ·rw[if_pos h0,join_cons _ _ (sp_ne _ _),if_pos hc,ih [] (by simp),h0];simp
  ·rw[if_neg h0]
   by_cases h1:cur.length+1=254
   ·rw[if_pos h1]
    by_cases h2:r=[]
    ·rw[if_pos h2,h2];rfl
    ·rw[if_neg h2,join_cons _ _ (sp_ne _ _),if_neg (by simp;omega),ih [] (by simp)];simp
   ·rw[if_neg h1,ih _ (by simp;omega)];simp
theorem join_split(b:L8):join (split b)=b:=join_sp b [] (by simp)
theorem good_cons{g:L8}{gs:List L8}(h:gs≠[])(h1:g.length<=254)(h2:Nz g)(h3:g.length=254->gs≠[[]])(h4:Good gs):Good (g::gs):=by
 cases gs with
 |nil=>exact absurd rfl h
 |cons a t=>exact⟨h1,h2,fun h5 hc=>h3 h5 (by rw[hc.1,hc.2]),h4⟩
theorem good_sp(b:L8):∀cur:L8,cur.length<254->Nz cur->Good (sp cur b):=by
 induction b with
 |nil=>intro cur h1 h2;exact⟨by omega,h2⟩
 |cons c r ih=>
  intro cur hc hn
  rw[sp]
  by_cases h0:c=0
  ·rw[if_pos h0]
   exact good_cons (sp_ne _ _) (by omega) hn (fun h=>by omega) (ih [] (by simp) (by intro d hd;simp at hd))
  ·rw[if_neg h0]
   have hn2:Nz (cur++[c]):=by
    intro d hd
    rcases List.mem_append.1 hd with h | h
    ·exact hn d h
    ·simp at h;rw[h];exact h0
   by_cases h1:cur.length+1=254
   ·rw[if_pos h1]
    by_cases h2:r=[]
    ·rw[if_pos h2];exact⟨by simp;omega,hn2⟩
    ·rw[if_neg h2]
     refine good_cons (sp_ne _ _) (by simp;omega) hn2 (fun _ hc2=>?_) (ih [] (by simp) (by intro d hd;simp at hd))
     have h3:=join_sp r [] (by simp)
     rw[hc2] at h3
     exact h2 (by simpa[join] using h3.symm)
   ·rw[if_neg h1]
    exact ih _ (by simp;omega) hn2
theorem good_split(b:L8):Good (split b):=good_sp b [] (by simp) (by intro d hd;simp at hd)
theorem sp_run(g:L8):∀(cur r:L8),Nz g->cur.length+g.length<254->sp cur (g++r)=sp (cur++g) r:=by
 induction g with
 |nil=>intro cur r _ _;simp
 |cons c g ih=>
  intro cur r hn hl
  have hc:c≠0:=hn c (by simp)
  have hn2:Nz g:=fun d hd=>hn d (by simp[hd])
  simp only[List.length_cons] at hl
  rw[List.cons_append,sp,if_neg hc,if_neg (by omega),ih _ _ hn2 (by simp;omega)]
  simp
theorem sp_full(g:L8):∀(cur r:L8),Nz g->cur.length<254->cur.length+g.length=254->sp cur (g++r)=(cur++g)::(if r=[] then [] else sp [] r):=by
 induction g with
 |nil=>intro cur r _ h1 h2;simp at h2;omega
 |cons c g ih=>
  intro cur r hn h1 h2
  have hc:c≠0:=hn c (by simp)
  have hn2:Nz g:=fun d hd=>hn d (by simp[hd])
  simp only[List.length_cons] at h2
  rw[List.cons_append,sp,if_neg hc]
  by_cases h3:cur.length+1=254
  ·have hg:g=[]:=by
    cases g with
    |nil=>rfl
    |cons _ _=>simp at h2;omega
   subst hg
   rw[if_pos h3];simp
  ·rw[if_neg h3,ih _ _ hn2 (by simp;omega) (by simp;omega)]
   simp
theorem join_nil{g:L8}{t:List L8}(h:join (g::t)=[]):g=[]∧t=[]:=by
 cases t with
 |nil=>exact⟨h,rfl⟩
 |cons a t=>
  rw[join_cons _ _ (by simp)] at h
  have h1:g=[]:=by simp at h;exact h.1
  subst h1
  simp at h
theorem split_join(gs:List L8)(h:Good gs):split (join gs)=gs:=by
 unfold split
 induction gs with
 |nil=>exact h.elim
 |cons g t ih=>
  cases t with
  |nil=>
   obtain⟨h1,h2⟩:=h
   by_cases h3:g.length<254
   ·have:=sp_run g [] [] h2 (by simpa using h3)
    simp only[List.append_nil,List.nil_append] at this
    show sp [] g=[g]
    rw[this];rfl
   ·have:=sp_full g [] [] h2 (by simp) (by simp;omega)
    simp only[List.append_nil,List.nil_append,if_true] at this
    exact this
  |cons a t=>
   obtain⟨h1,h2,h3,h4⟩:=h
   have hi:=ih h4
   rw[join_cons _ _ (by simp)]
   by_cases h5:g.length<254
   ·rw[if_pos h5,List.append_assoc]
    have:=sp_run g [] ([0]++join (a::t)) h2 (by simpa using h5)
    rw[this,List.nil_append,List.singleton_append,sp,if_pos rfl,hi]
   ·rw[if_neg h5,List.append_nil]
    have:=sp_full g [] (join (a::t)) h2 (by simp) (by simp;omega)
    rw[this,List.nil_append,hi,if_neg]
    intro hc
    exact h3 (by omega) (join_nil hc)
def gr:Nat->L8->Option (List L8)
 |_,[]=>some []
 |0,_::_=>none
 |f+1,c::r=>if r.length<c.toNat-1 then none else (gr f (r.drop (c.toNat-1))).map (r.take (c.toNat-1)::·)
theorem len_byte(n:Nat)(h:n<=254):(UInt8.ofNat (n+1)).toNat=n+1:=by
 rw[UInt8.toNat_ofNat'];omega
theorem gr_enc(gs:List L8):∀f,(∀g,g∈gs->g.length<=254)->(enc gs).length<=f->gr f (enc gs)=some gs:=by
 induction gs with
 |nil=>intro f _ _;cases f <;> rfl
 |cons g t ih=>
  intro f hl hf
  have hg:=hl g (by simp)
  simp only[enc,List.length_cons,List.length_append] at hf
  cases f with
  |zero=>omega
  |succ f=>
   simp only[enc,gr,len_byte _ hg,Nat.add_sub_cancel,List.length_append]
   rw[if_neg (by omega),List.drop_left,List.take_left,ih f (fun x hx=>hl x (by simp[hx])) (by omega)]
   rfl
theorem gr_ok(f:Nat):∀(s:L8) (gs:List L8),Nz s->gr f s=some gs->enc gs=s∧(∀g,g∈gs->g.length<=254∧Nz g)∧(s≠[]->gs≠[]):=by
 induction f with
 |zero=>
  intro s gs hn h
  cases s with
  |nil=>simp[gr] at h;subst h;exact⟨rfl,by simp,fun h=>absurd rfl h⟩
  |cons c r=>simp[gr] at h
 |succ f ih=>
  intro s gs hn h
  cases s with
  |nil=>simp[gr] at h;subst h;exact⟨rfl,by simp,fun h=>absurd rfl h⟩
  |cons c r=>
   have hc0:c≠0:=hn c (by simp)
   have hc1:1<=c.toNat:=by
    rcases Nat.eq_zero_or_pos c.toNat with h1 | h1
    ·exact absurd (UInt8.toNat_inj.1 (by rw[h1];rfl)) hc0
    ·exact h1
   have hc2:c.toNat<256:=c.toNat_lt
   have hnr:Nz r:=fun d hd=>hn d (by simp[hd])
   rw[gr] at h
   by_cases h1:r.length<c.toNat-1
   ·rw[if_pos h1] at h;cases h
   ·rw[if_neg h1] at h
    obtain⟨gs',h2,rfl⟩:=Option.map_eq_some_iff.1 h
    obtain⟨i1,i2,_⟩:=ih (r.drop (c.toNat-1)) gs' (fun d hd=>hnr d (List.mem_of_mem_drop hd)) h2
    refine⟨?_,?_,fun _=>by simp⟩
    ·simp only[enc,i1,List.take_append_drop,List.length_take]
     congr 1
     apply UInt8.toNat_inj.1
     rw[UInt8.toNat_ofNat'];omega
    ·intro g hg
     rcases List.mem_cons.1 hg with rfl | hg
     ·exact⟨by rw[List.length_take];omega,fun d hd=>hnr d (List.mem_of_mem_take hd)⟩
     ·exact i2 g hg
theorem good_mem{gs:List L8}(h:Good gs):∀g,g∈gs->g.length<=254∧Nz g:=by
 induction gs with
 |nil=>intro g hg;simp at hg
 |cons a t ih=>
  cases t with
  |nil=>intro g hg;simp at hg;subst hg;exact h
  |cons b t=>
   intro g hg
   rcases List.mem_cons.1 hg with rfl | hg
   ·exact⟨h.1,h.2.1⟩
   ·exact ih h.2.2.2 g hg
theorem enc_nz{gs:List L8}(h:∀g,g∈gs->g.length<=254∧Nz g):Nz (enc gs):=by
 induction gs with
 |nil=>intro c hc;simp[enc] at hc
 |cons g t ih=>
  intro c hc
  have hg:=h g (by simp)
  simp only[enc] at hc
  rcases List.mem_cons.1 hc with rfl | hc
  ·intro h0
   have:=congrArg UInt8.toNat h0
   rw[len_byte _ hg.1] at this
   simp at this
  ·rcases List.mem_append.1 hc with hc | hc
   ·exact hg.2 c hc
   ·exact ih (fun x hx=>h x (by simp[hx])) c hc
theorem stuff_nz(b:L8):Nz (stuff b):=enc_nz (good_mem (good_split b))
theorem gr_stuff(b:L8):gr (stuff b).length (stuff b)=some (split b):=gr_enc _ _ (fun g hg=>(good_mem (good_split b) g hg).1) vX
theorem stuff_join{gs:List L8}(h:Good gs):stuff (join gs)=enc gs:=by
 unfold stuff;rw[split_join gs h]
theorem enc_length{gs:List L8}(h:Good gs):(join gs).length+1<=(enc gs).length∧254*(enc gs).length<=254*(join gs).length+254+(join gs).length:=by
 induction gs with
 |nil=>exact h.elim
 |cons g t ih=>
  cases t with
  |nil=>simp only[join,enc,List.length_cons,List.length_append,List.length_nil];omega
  |cons a t=>
   have hi:=ih h.2.2.2
   have hg:=h.1
   rw[join_cons _ _ (by simp)]
   simp only[enc,List.length_cons,List.length_append] at hi ⊢
   by_cases h5:g.length<254
   ·rw[if_pos h5];simp;omega
   ·rw[if_neg h5];simp;omega
theorem stuff_length(b:L8):b.length+1<=(stuff b).length∧(stuff b).length<=b.length+1+b.length / 254:=by
 have:=enc_length (good_split b)
 rw[join_split] at this
 unfold stuff
 omega
def badEnd:List L8->Bool
 | []=>false
 | [_]=>false
 | [g,h]=>decide (g.length=254∧h=[])
 |_::t=>badEnd t
theorem good_of_read{gs:List L8}(h0:gs≠[])(h:∀g,g∈gs->g.length<=254∧Nz g)(hb:badEnd gs=false):Good gs:=by
 induction gs with
 |nil=>exact absurd rfl h0
 |cons g t ih=>
  cases t with
  |nil=>exact h g (by simp)
  |cons a t=>
   cases t with
   |nil=>
    refine⟨(h g (by simp)).1,(h g (by simp)).2,fun h1 h2=>?_,h a (by simp)⟩
    simp only[badEnd,decide_eq_false_iff_not] at hb
    exact hb ⟨h1,h2.1⟩
   |cons c t=>
    have hb2:badEnd (a::c::t)=false:=hb
    exact⟨(h g (by simp)).1,(h g (by simp)).2,fun _ h2=>by simp at h2,ih (by simp) (fun x hx=>h x (by simp[hx])) hb2⟩
theorem bad_of_good{gs:List L8}(h:Good gs):badEnd gs=false:=by
 induction gs with
 |nil=>rfl
 |cons g t ih=>
  cases t with
  |nil=>rfl
  |cons a t=>
   cases t with
   |nil=>
    simp only[badEnd,decide_eq_false_iff_not]
    rintro⟨h1,h2⟩
    exact h.2.2.1 h1 ⟨h2,rfl⟩
   |cons c t=>exact ih h.2.2.2
end Cob
namespace Cob
theorem nz_take{r:L8}{k:Nat}(h:∀j (hj:j<r.length),j<k->r[j]≠0):Nz (r.take k):=by
 intro c hc
 obtain⟨j,hj,rfl⟩:=List.getElem_of_mem hc
 rw[List.length_take] at hj
 rw[List.getElem_take]
 exact h j (by omega) (by omega)
theorem step_zero(r:L8)(k:Nat)(hk:k<254)(hr:k<r.length)(h:∀j (hj:j<r.length),j<k->r[j]≠0)(h0:r[k]=0):split r=r.take k::split (r.drop (k+1)):=by
 have e:r=r.take k++(0::r.drop (k+1)):=by
  rw[<-h0,<-List.drop_eq_getElem_cons hr,List.take_append_drop]
 have h1:=sp_run (r.take k) [] (0::r.drop (k+1)) (nz_take h) (by simp;omega)
 rw[<-e,List.nil_append] at h1
 unfold split
 rw[h1,sp,if_pos rfl]
theorem step_end(r:L8)(hk:r.length<254)(h:∀j (hj:j<r.length),r[j]≠0):split r=[r]:=by
 have hz:Nz r:=by
  have:=nz_take (r:=r) (k:=r.length) (fun j hj _=>h j hj)
  rwa [List.take_length] at this
 have h1:=sp_run r [] [] hz (by simpa using hk)
 rw[List.append_nil,List.nil_append] at h1
 unfold split
 rw[h1,sp]
theorem step_full(r:L8)(hr:254<=r.length)(h:∀j (hj:j<r.length),j<254->r[j]≠0):split r=r.take 254::(if r.drop 254=[] then [] else split (r.drop 254)):=by
 have h1:=sp_full (r.take 254) [] (r.drop 254) (nz_take h) (by simp) (by simp;omega)
 rw[List.take_append_drop,List.nil_append] at h1
 exact h1
def Writing(b:L8)(at_:Nat)(more:Bool)(xs:L8):Prop :=
 at_<=b.length∧(more=true->stuff b=xs++enc (split (b.drop at_)))∧(more=false->stuff b=xs)
theorem writing_start(b:L8):Writing b 0 true []:=⟨by omega,fun _=>rfl,fun h=>by cases h⟩
section
variable {b xs:L8} {a k:Nat}
theorem writing_zero(h:Writing b a true xs)(hk:k<254)(hr:a+k<b.length)(hz:∀j,j<k->∀h:a+j<b.length,b[a+j]≠0)(h0:b[a+k]=0):
  Writing b (a+k+1) true (xs++[UInt8.ofNat (k+1)]++(b.drop a).take k):=by
 refine⟨by omega,fun _=>?_,fun h=>by cases h⟩
 rw[h.2.1 rfl,step_zero (b.drop a) k hk (by rw[List.length_drop];omega) (fun j hj hjk=>by rw[List.getElem_drop];exact hz j hjk _) (by rw[List.getElem_drop];exact h0),enc,List.drop_drop]
 have e:((b.drop a).take k).length=k:=by rw[List.length_take,List.length_drop];omega
 rw[e,List.append_assoc,List.append_assoc]
 rfl
theorem writing_end(h:Writing b a true xs)(hk:k<254)(hr:a+k=b.length)(hz:∀j,j<k->∀h:a+j<b.length,b[a+j]≠0):
  Writing b (a+k) false (xs++[UInt8.ofNat (k+1)]++(b.drop a).take k):=by
 refine⟨by omega,fun h=>(by cases h),fun _=>?_⟩
 have hl:(b.drop a).length=k:=by rw[List.length_drop];omega
 rw[h.2.1 rfl,step_end (b.drop a) (by omega) (fun j hj=>by rw[List.getElem_drop];exact hz j (by omega) _),enc,enc,hl,List.append_nil,List.append_assoc]
 rw[List.take_of_length_le (by omega)]
 rfl
theorem writing_full(h:Writing b a true xs)(hr:a+254<=b.length)(hz:∀j,j<254->∀h:a+j<b.length,b[a+j]≠0):
  Writing b (a+254) (decide (a+254<b.length)) (xs++[UInt8.ofNat (254+1)]++(b.drop a).take 254):=by
 have hs:=step_full (b.drop a) (by rw[List.length_drop];omega) (fun j hj hjk=>by rw[List.getElem_drop];exact hz j hjk _)
 rw[List.drop_drop] at hs
 have e:((b.drop a).take 254).length=254:=by rw[List.length_take,List.length_drop];omega
 have hw:stuff b=xs++[UInt8.ofNat (254+1)]++(b.drop a).take 254++enc (if b.drop (a+254)=[] then [] else split (b.drop (a+254))):=by
  rw[h.2.1 rfl,hs,enc,e]
  simp
 refine⟨by omega,fun hm=>?_,fun hm=>?_⟩
 ·have:a+254<b.length:=of_decide_eq_true hm
  rw[hw,if_neg]
  intro hc
  have:=congrArg List.length hc
  rw[List.length_drop] at this
  simp at this
  omega
 ·have:¬a+254<b.length:=of_decide_eq_false hm
  rw[hw,if_pos (List.drop_eq_nil_of_le (by omega)),enc,List.append_nil]
theorem writing_bound{m:Bool}(h:Writing b a m xs):xs.length<=b.length+1+b.length / 254:=by
 have hs:=(stuff_length b).2
 cases m with
 |true=>have:=congrArg List.length (h.2.1 rfl);simp only[List.length_append] at this;omega
 |false=>have:=congrArg List.length (h.2.2 rfl);omega
end
def un(s:L8):Nat×L8 :=
 if (0:UInt8)∈s then (40,[]) else if s=[] then (30,[]) else
  match gr s.length s with
  |none=>(30,[])
  |some gs=>if badEnd gs then (5,[]) else (0,join gs)
theorem un_bad{s:L8}(h:(un s).1≠0):(un s).2=[]:=by
 unfold un at h ⊢
 split
 ·rfl
 ·rename_i h1
  rw[if_neg h1] at h
  split
  ·rfl
  ·rename_i h2
   rw[if_neg h2] at h
   split
   ·rfl
   ·rename_i gs hg
    rw[hg] at h
    simp only at h ⊢
    split
    ·rfl
    ·rename_i h3
     rw[if_neg h3] at h
     exact absurd rfl h
theorem un_ok{s:L8}(h:(un s).1=0):stuff (un s).2=s:=by
 unfold un at h ⊢
 split
 ·rename_i h1;rw[if_pos h1] at h;cases h
 ·rename_i h1
  rw[if_neg h1] at h
  split
  ·rename_i h2;rw[if_pos h2] at h;cases h
  ·rename_i h2
   rw[if_neg h2] at h
   split
   ·rename_i hg;rw[hg] at h;cases h
   ·rename_i gs hg
    rw[hg] at h
    simp only at h ⊢
    split
    ·rename_i h3;rw[if_pos h3] at h;cases h
    ·rename_i h3
     have hz:Nz s:=fun c hc h0=>h1 (by rw[<-h0];exact hc)
     obtain⟨e1,e2,e3⟩:=gr_ok s.length s gs hz hg
     have hgood:=good_of_read (e3 h2) e2 (by simpa using h3)
     rw[stuff_join hgood,e1]
theorem un_stuff(b:L8):un (stuff b)=(0,b):=by
 have h1:¬(0:UInt8)∈stuff b:=fun hc=>stuff_nz b 0 hc rfl
 have h2:stuff b≠[]:=by
  intro hc
  have:=(stuff_length b).1
  rw[hc] at this
  simp at this
 unfold un
 rw[if_neg h1,if_neg h2,gr_stuff]
 simp only
 rw[if_neg (by rw[bad_of_good (good_split b)];simp),join_split]
theorem un_length(s:L8):(un s).2.length<=s.length:=by
 by_cases h:(un s).1=0
 ·have:=(stuff_length (un s).2).1
  rw[un_ok h] at this
  omega
 ·rw[un_bad h];simp
end Cob
namespace Cob
theorem gr_fuel:∀(n f:Nat) (s:L8),s.length<=n->s.length<=f->gr f s=gr s.length s:=by
 intro n
 induction n with
 |zero=>
  intro f s h _
  have:s=[]:=List.eq_nil_of_length_eq_zero (by omega)
  subst this
  cases f <;> rfl
 |succ n ih=>
  intro f s h hf
  cases s with
  |nil=>cases f <;> rfl
  |cons c r=>
   simp only[List.length_cons] at h hf ⊢
   cases f with
   |zero=>omega
   |succ f=>
    simp only[gr]
    by_cases hx:r.length<c.toNat-1
    ·rw[if_pos hx,if_pos hx]
    ·rw[if_neg hx,if_neg hx]
     have e1:(r.drop (c.toNat-1)).length<=r.length:=by rw[List.length_drop];omega
     rw[ih f (r.drop (c.toNat-1)) (by omega) (by omega),ih r.length (r.drop (c.toNat-1)) (by omega) (by omega)]
theorem gr_step(s:L8)(a:Nat)(ha:a<s.length):gr (s.length-a) (s.drop a) =
  if s.length-a-1<s[a].toNat-1 then none else (gr (s.length-(a+(s[a].toNat-1)+1)) (s.drop (a+(s[a].toNat-1)+1))).map ((s.drop (a+1)).take (s[a].toNat-1)::·):=by
 have e:s.drop a=s[a]::s.drop (a+1):=List.drop_eq_getElem_cons ha
 have el:s.length-a=(s.length-a-1)+1:=by omega
 have er:(s.drop (a+1)).length=s.length-a-1:=by rw[List.length_drop];omega
 rw[e,el]
 simp only[gr,er,Nat.add_sub_cancel]
 by_cases hx:s.length-a-1<s[a].toNat-1
 ·rw[if_pos hx,if_pos hx]
 ·rw[if_neg hx,if_neg hx,List.drop_drop,show a+1+(s[a].toNat-1)=a+(s[a].toNat-1)+1 by omega]
  have el2:(s.drop (a+(s[a].toNat-1)+1)).length=s.length-(a+(s[a].toNat-1)+1):=by rw[List.length_drop]
  rw[gr_fuel (s.length-a-1) (s.length-a-1) (s.drop (a+(s[a].toNat-1)+1)) (by omega) (by omega),el2]
def lastOf(gs:List L8):Nat:=match gs.getLast? with
 |none=>0
 |some g=>g.length+1
theorem lastOf_snoc(gs:List L8)(g:L8):lastOf (gs++[g])=g.length+1:=by simp[lastOf]
theorem badEnd_snoc2:∀(gs:List L8) (g h:L8),badEnd (gs++[g,h])=decide (g.length=254∧h=[])
 | [],_,_=>rfl
 | [_],_,_=>rfl
 |_::x::t,g,h=>by
  have:=badEnd_snoc2 (x::t) g h
  rw[<-this]
  cases t <;> rfl
theorem badEnd_iff(gs:List L8)(g:L8):badEnd (gs++[g])=(decide (g.length+1=1)&&decide (lastOf gs=255)):=by
 rcases List.eq_nil_or_concat gs with rfl | ⟨gs',h,rfl⟩
 ·simp[badEnd,lastOf]
 ·rw[List.concat_eq_append,List.append_assoc]
  have:=badEnd_snoc2 gs' h g
  simp only[List.cons_append,List.nil_append] at this ⊢
  rw[this,lastOf_snoc,Bool.eq_iff_iff]
  simp[List.length_eq_zero_iff,and_comm]
def Reading(s:L8)(a last ahead:Nat)(xs:L8):Prop :=
 a<=s.length∧xs.length<=a∧last<=255∧ahead<=255∧∃gs:List L8,gr s.length s=(gr (s.length-a) (s.drop a)).map (gs++·) ∧
  (a<s.length->∀rest,rest≠[]->join (gs++rest)=xs++join rest)∧(a=s.length->gs≠[]->xs=join gs)∧(a=0∧gs=[]∨0<a∧gs≠[]∧badEnd gs=(decide (last=1)&&decide (ahead=255)))∧last=lastOf gs
theorem reading_start(s:L8):Reading s 0 0 0 []:=by
 refine⟨by omega,by simp,by omega,by omega,[],?_,fun _ rest _=>rfl,fun _ h=>absurd rfl h,.inl ⟨rfl,rfl⟩,rfl⟩
 simp
theorem reading_short{s:L8}{a last ahead:Nat}{xs:L8}(hz:Nz s)(h:Reading s a last ahead xs)(ha:a<s.length)(hk:s.length-a-1<s[a].toNat-1):un s=(30,[]):=by
 obtain⟨-,-,-,-,gs,h1,-⟩:=h
 have hs:=gr_step s a ha
 rw[if_pos hk] at hs
 rw[hs] at h1
 have h0:¬(0:UInt8)∈s:=fun hc=>hz 0 hc rfl
 have hne:s≠[]:=by intro hc;rw[hc] at ha;simp at ha
 unfold un
 rw[if_neg h0,if_neg hne,h1]
 rfl
theorem reading_next{s:L8}{a last ahead:Nat}{xs:L8}(h:Reading s a last ahead xs)(ha:a<s.length)(k:Nat)(hkv:s[a].toNat=k+1)(hk:a+k+1<=s.length):
  Reading s (a+k+1) (k+1) last (xs++(s.drop (a+1)).take k++(if k<254∧a+k+1<s.length then [0] else [])):=by
 obtain⟨h1,h2,h3,h4,gs,h5,h6,h7,h8,h9⟩:=h
 have hc:=s[a].toNat_lt
 have hs:=gr_step s a ha
 rw[hkv,Nat.add_sub_cancel] at hs
 rw[if_neg (by omega)] at hs
 have hgl:((s.drop (a+1)).take k).length=k:=by rw[List.length_take,List.length_drop];omega
 refine⟨by omega,?_,by omega,h3,gs++[(s.drop (a+1)).take k],?_,?_,?_,.inr ⟨by omega,by simp,?_⟩,?_⟩
 ·simp only[List.length_append,hgl]
  split <;> simp <;> omega
 ·rw[h5,hs,Option.map_map]
  congr 1
  funext x
  simp
 ·intro hlt rest hr
  rw[List.append_assoc,h6 ha ([(s.drop (a+1)).take k]++rest) (by simp)]
  rw[List.cons_append,List.nil_append,join_cons _ _ hr,hgl]
  by_cases h254:k<254
  ·rw[if_pos h254,if_pos ⟨h254,hlt⟩];simp
  ·rw[if_neg h254,if_neg (fun hh=>h254 hh.1)];simp
 ·intro he _
  rw[if_neg (by omega),List.append_nil,h6 ha [(s.drop (a+1)).take k] (by simp)]
  rfl
 ·rw[badEnd_iff,hgl,<-h9]
 ·rw[lastOf_snoc,hgl]
theorem reading_end{s:L8}{last ahead:Nat}{xs:L8}(hz:Nz s)(hne:s≠[])(h:Reading s s.length last ahead xs):un s=if last=1∧ahead=255 then (5,[]) else (0,xs):=by
 obtain⟨-,-,-,-,gs,h5,-,h7,h8,-⟩:=h
 have hpos:0<s.length:=List.length_pos_iff.2 hne
 have h0:¬(0:UInt8)∈s:=fun hc=>hz 0 hc rfl
 rcases h8 with ⟨h8,_⟩ | ⟨_,hgs,hb⟩
 ·omega
 ·rw[Nat.sub_self,List.drop_length] at h5
  have h5':gr s.length s=some gs:=by rw[h5];simp[gr]
  unfold un
  rw[if_neg h0,if_neg hne,h5']
  simp only
  rw[hb,<-h7 rfl hgs]
  by_cases h1:last=1 <;> by_cases h2:ahead=255 <;> simp[h1,h2]
end Cob
namespace Cob
def Rd(l:L8)(a:Nat)(ys:L8)(la ah:Nat):Prop :=
 ∃last ahead xs,Reading l a last ahead xs∧la=last-1∧ah=ahead-1∧(a<l.length->ys=xs)∧(a=l.length->0<last∧ys=xs++if la<254 then [0] else [])
theorem rd_start{l:L8}(h:l≠[]):Rd l 0 [] 0 0 :=
 ⟨0,0,[],reading_start l,rfl,rfl,fun _=>rfl,fun hc=>absurd (List.eq_nil_of_length_eq_zero hc.symm) h⟩
theorem rd_le{l:L8}{a:Nat}{ys:L8}{la ah:Nat}(h:Rd l a ys la ah):ys.length<=a+1∧la<=254:=by
 obtain⟨last,ahead,xs,h1,h2,h3,h4,h5⟩:=h
 have ha:=h1.1
 have hx:=h1.2.1
 have hl:=h1.2.2.1
 refine⟨?_,by omega⟩
 rcases Nat.lt_or_ge a l.length with h6 | h6
 ·rw[h4 h6];omega
 ·rw[(h5 (by omega)).2,List.length_append]
  split <;> simp <;> omega
theorem rd_short{l:L8}{a:Nat}{ys:L8}{la ah:Nat}(hz:Nz l)(h:Rd l a ys la ah)(ha:a<l.length)(hk:l.length-a<l[a].toNat):un l=(30,[]):=by
 obtain⟨last,ahead,xs,h1,-⟩:=h
 exact reading_short hz h1 ha (by omega)
theorem rd_next{l:L8}{a:Nat}{ys:L8}{la ah:Nat}(h:Rd l a ys la ah)(ha:a<l.length)(k:Nat)(hk:l[a].toNat=k+1)(hl:a+k+1<=l.length):
  Rd l (a+k+1) (ys++(l.drop (a+1)).take k++if k<254 then [0] else []) k la:=by
 obtain⟨last,ahead,xs,h1,h2,h3,h4,h5⟩:=h
 have h6:=reading_next h1 ha k hk hl
 refine⟨k+1,last,_,h6,rfl,h2,fun hlt=>?_,fun he=>⟨by omega,?_⟩⟩
 ·rw[h4 ha]
  by_cases h7:k<254
  ·rw[if_pos h7,if_pos ⟨h7,hlt⟩]
  ·rw[if_neg h7,if_neg (fun hc=>h7 hc.1)]
 ·rw[h4 ha,if_neg (show ¬(k<254∧a+k+1<l.length) by omega),List.append_nil]
theorem rd_end{l:L8}{ys:L8}{la ah:Nat}(hz:Nz l)(hne:l≠[])(h:Rd l l.length ys la ah):
  ∃xs,(ys=xs++if la<254 then [0] else [])∧un l=if ah=254∧la=0 then (5,[]) else (0,xs):=by
 obtain⟨last,ahead,xs,h1,h2,h3,h4,h5⟩:=h
 obtain⟨h6,h7⟩:=h5 rfl
 refine⟨xs,h7,?_⟩
 rw[reading_end hz hne h1]
 by_cases h8:last=1∧ahead=255
 ·rw[if_pos h8,if_pos (by omega)]
 ·rw[if_neg h8,if_neg (by omega)]
theorem un_zero{l:L8}(h:(0:UInt8)∈l):un l=(40,[]):=by unfold un;rw[if_pos h]
theorem un_none:un []=(30,[]):=rfl
end Cob
namespace Crc
def poly:Nat:=3988292384
def full:Nat:=4294967295
def step(r:Nat):Nat:=if r % 2=1 then r / 2 ^^^ poly else r / 2
def steps:Nat->Nat->Nat
 |0,r=>r
 |n+1,r=>steps n (step r)
def byte(r c:Nat):Nat:=steps 8 (r ^^^ c)
def take(r:Nat):L8->Nat
 | []=>r
 |c::l=>take (byte r c.toNat) l
def update(s:Nat)(l:L8):Nat:=take (s ^^^ full) l ^^^ full
def sum(l:L8):Nat:=update 0 l
theorem poly_lt:poly<4294967296:=by decide
theorem xor_half(a b:Nat):(a ^^^ b) / 2=a / 2 ^^^ b / 2:=by
 have:=Nat.shiftRight_xor_distrib (a:=a) (b:=b) (i:=1)
 simpa[Nat.shiftRight_eq_div_pow] using this
theorem step_xor(a b:Nat):step (a ^^^ b)=step a ^^^ step b:=by
 unfold step
 have h:=Nat.testBit_xor a b 0
 simp only[Nat.testBit_zero] at h
 rw[xor_half]
 by_cases ha:a % 2=1 <;> by_cases hb:b % 2=1 <;> simp only[ha,hb,decide_true,decide_false,Bool.xor_true,Bool.xor_false,Bool.not_true,Bool.not_false,decide_eq_true_eq,decide_eq_false_iff_not] at h
 ·rw[if_neg h,if_pos ha,if_pos hb]
  rw[Nat.xor_comm (b / 2) poly,Nat.xor_assoc,<-Nat.xor_assoc poly poly,Nat.xor_self,Nat.zero_xor]
 ·rw[if_pos h,if_pos ha,if_neg hb]
  rw[Nat.xor_assoc,Nat.xor_assoc,Nat.xor_comm (b / 2) poly]
 ·rw[if_pos h,if_neg ha,if_pos hb,Nat.xor_assoc]
 ·rw[if_neg h,if_neg ha,if_neg hb]
theorem steps_xor(n:Nat):∀a b,steps n (a ^^^ b)=steps n a ^^^ steps n b:=by
 induction n with
 |zero=>intro a b;rfl
 |succ n ih=>intro a b;simp only[steps];rw[step_xor,ih]
theorem steps_add(m n r:Nat):steps (m+n) r=steps n (steps m r):=by
 induction m generalizing r with
 |zero=>simp[steps]
 |succ m ih=>rw[show m+1+n=(m+n)+1 by omega];simp only[steps];exact ih _
theorem step_double(r:Nat):step (2*r)=r:=by
 unfold step
 rw[if_neg (by omega)];omega
theorem steps_pow(n r:Nat):steps n (2 ^ n*r)=r:=by
 induction n generalizing r with
 |zero=>simp[steps]
 |succ n ih=>
  simp only[steps]
  rw[show 2 ^ (n+1)*r=2*(2 ^ n*r) by rw[Nat.pow_succ,Nat.mul_comm (2 ^ n) 2,Nat.mul_assoc],step_double,ih]
theorem step_lt{r:Nat}(h:r<4294967296):step r<4294967296:=by
 unfold step
 split
 ·exact Nat.xor_lt_two_pow (n:=32) (by omega) poly_lt
 ·omega
theorem steps_lt(n:Nat){r:Nat}(h:r<4294967296):steps n r<4294967296:=by
 induction n generalizing r with
 |zero=>exact h
 |succ n ih=>exact ih (step_lt h)
def num:L8->Nat
 | []=>0
 |c::l=>c.toNat+256*num l
theorem add_xor_pow(k c m:Nat)(h:c<2 ^ k):c+2 ^ k*m=c ^^^ 2 ^ k*m:=by
 have h1:=Nat.two_pow_add_eq_or_of_lt (i:=k) (b:=c) h m
 rw[Nat.add_comm,h1]
 apply Nat.eq_of_testBit_eq
 intro i
 rw[Nat.testBit_or,Nat.testBit_xor]
 by_cases hi:i<k
 ·have h2:(2 ^ k*m).testBit i=false:=by
   rw[Nat.testBit_two_pow_mul];simp;omega
  rw[h2];simp
 ·have h2:c.testBit i=false:=by
   apply Nat.testBit_lt_two_pow
   exact Nat.lt_of_lt_of_le h (Nat.pow_le_pow_right (by omega) (by omega))
  rw[h2];simp
theorem add_xor16(c m:Nat)(h:c<16):c+16*m=c ^^^ 16*m:=add_xor_pow 4 c m h
theorem take_append(a b:L8):∀r,take r (a++b)=take (take r a) b:=by
 induction a with
 |nil=>intro r;rfl
 |cons c a ih=>intro r;exact ih _
theorem flip_flip(s:Nat):s ^^^ full ^^^ full=s:=by rw[Nat.xor_assoc,Nat.xor_self,Nat.xor_zero]
theorem update_nil(s:Nat):update s []=s:=flip_flip s
theorem byte_lt{r c:Nat}(hr:r<4294967296)(hc:c<256):byte r c<4294967296 :=
 steps_lt 8 (Nat.xor_lt_two_pow (n:=32) hr (by omega))
theorem take_lt(l:L8):∀{r:Nat},r<4294967296->take r l<4294967296:=by
 induction l with
 |nil=>intro r h;exact h
 |cons c l ih=>intro r h;exact ih (byte_lt h c.toNat_lt)
theorem update_lt{s:Nat}(h:s<4294967296)(l:L8):update s l<4294967296 :=
 Nat.xor_lt_two_pow (n:=32) (take_lt l (Nat.xor_lt_two_pow (n:=32) h (by decide))) (by decide)
theorem nibble(r:Nat):steps 4 r=r / 16 ^^^ steps 4 (r % 16):=by
 have h:r=r % 16 ^^^ 16*(r / 16):=by
  have:=add_xor16 (r % 16) (r / 16) (Nat.mod_lt _ (by omega))
  rw[<-this];omega
 have e:steps 4 (16*(r / 16))=r / 16:=steps_pow 4 (r / 16)
 calc steps 4 r=steps 4 (r % 16 ^^^ 16*(r / 16)):=by rw[<-h]
  _=r / 16 ^^^ steps 4 (r % 16):=by rw[steps_xor,e,Nat.xor_comm]
def words:List Nat:=(List.range 16).map (steps 4)
theorem byte_nibbles(r:Nat):steps 8 r=steps 4 (steps 4 r):=steps_add 4 4 r
theorem steps_succ(n r:Nat):steps (n+1) r=step (steps n r):=steps_add n 1 r
theorem take_snoc(r:Nat)(l:L8)(c:UInt8):take r (l++[c])=byte (take r l) c.toNat:=take_append l [c] r
end Crc
section
open Go.RowKit
def kP(b:Bool):Nat:=if b then 1 else 0
def gg:Value->Bool
 |.bool b=>b
 |_=>false
theorem kz(b o c:Nat)(l:L8)(hl:l.length<=141000000000000)(w:World)(hc:cg w b o l):
  Calls Tryz.prog 66 #[.slice (some ⟨b,o,none⟩) l.length c] w fun e w'=>∃g cap,e=.returned (.slice (some ⟨g,0,none⟩) (Cob.stuff l).length cap)∧bh w' w.1.size g cap (Cob.stuff l)∧Below w.1.size w w':=by
 have HC:=vQ hc
 clear hc
 go_enter Tryz.func66,Tryz.ntmps66
 go_wp2
 go_loopw [3,4,5] (fun v3 v4 v5 wr=>∃(a:Nat) (m:Bool) (xs:L8),a<=l.length∧v4=.int .i64 a∧v5=.bool m∧xs.length<=150000000000000∧Hid (Cob.Writing l a m xs∧Has wr w.1.size v3 xs∧Below w.1.size w wr)) (fun _ v4 v5 _=>2*(l.length-(intOf v4).toNat)+kP (gg v5))
 case atStart=>exact⟨0,true,[],by omega,rfl,rfl,by simp,Cob.writing_start l,aR _ _,vZ⟩
 case round=>
  obtain⟨a,m,xs,ha,rfl,rfl,hxs,HK⟩:=hrel
  cases m with
  |false=>
   have hS:=HK.out.1.2.2 rfl
   obtain⟨g,cap,hv,hM⟩:∃g cap,u3=.slice (some ⟨g,0,none⟩) (Cob.stuff l).length cap∧bh wr w.1.size g cap (Cob.stuff l):=by
    rcases HK.out.2.1.form with ⟨_,h0⟩ | ⟨g,cap,h1,h2⟩
    ·have:=(Cob.stuff_length l).1
     rw[hS,h0] at this
     simp at this
    ·rw[hS];exact⟨g,cap,h1,h2⟩
   have HM:=vQ hM
   have HB:=vQ HK.out.2.2
   subst hv
   clear hM HK hS
   go_wp2
   go_ret
   exact⟨g,cap,rfl,HM.out,HB.out⟩
  |true=>
   go_wp2
   go_loop [6] (fun v6=>∃k:Nat,k<=254∧a+k<=l.length∧v6=.int .i64 k∧Hid (∀j,j<k->∀h:a+j<l.length,l[a+j]≠0)) (fun v6=>254-(intOf v6).toNat)
   case atStart=>exact⟨0,by omega,by omega,rfl,fun j hj=>by omega⟩
   case round=>
    obtain⟨k,hk,hak,rfl,HZ⟩:=hrel
    by_cases h254:k=254
    ·subst h254
     have HN:=vQ (Cob.writing_full HK.out.1 hak HZ.out)
     clear HZ
     have hcn:(UInt8.ofNat (254+1)).toNat=254+1:=Cob.len_byte 254 (by omega)
     have HO:=vQ HK.out.2.1
     have HBw:=vQ HK.out.2.2
     have hB:=HK.out.2.2.size
     have hbd:=Cob.writing_bound HN.out
     simp only[List.length_append,List.length_cons,List.length_nil,List.length_take,List.length_drop] at hbd
     clear HK
     generalize UInt8.ofNat (254+1)=cc at hcn HN
     go_wp2_with (at_builtin;refine aV HO.out cc (by omega) hB (by omega) rfl rfl rfl rfl rfl ?_;intro g1 cap1 W1 hm1 hb1)
     have HB1:=vQ (HBw.out.trans hb1)
     have HM1:=vQ hm1.has
     clear hm1 hb1 HO HBw hB
     go_loopw [3,7] (fun v3 v7 wq=>∃i:Nat,i<=254∧v7=.int .i64 i∧Hid (Has wq w.1.size v3 (xs++[cc]++(l.drop a).take i)∧Below w.1.size w wq)) (fun _ v7 _=>254-(intOf v7).toNat)
     case atStart=>exact⟨0,by omega,rfl,by have:=HM1.out;simpa using this,HB1.out⟩
     case round=>
      obtain⟨i,hi,rfl,HI⟩:=hrel
      by_cases hik:i<254
      ·have hcl:=HC.out (a+i) (by omega)
       have hcq:wr.cell? ⟨b,o+(a+i),none⟩=some (.int .u8 (l[a+i].toNat:Int)):=by rw[HI.out.2.cell (p:=⟨b,o+(a+i),none⟩) (World.block_lt_of_cell? _ _ hcl)];exact hcl
       have HX:Hid (xs++[cc]++(l.drop a).take (i+1)=(xs++[cc]++(l.drop a).take i)++[l[a+i]]):=by
        show _=_
        rw[List.take_succ_eq_append_getElem (by rw[List.length_drop];omega),List.getElem_drop,List.append_assoc,List.append_assoc,List.append_assoc]
       have HO:=vQ HI.out.1
       have HBq:=vQ HI.out.2
       have hB:=HI.out.2.size
       have hxl:(xs++[cc]++(l.drop a).take i).length<=150000000000257:=by simp only[List.length_append,List.length_cons,List.length_nil,List.length_take,List.length_drop];omega
       clear HI hcl
       generalize hlv:l[a+i]=lv at hcq HX
       clear hlv
       generalize xs++[cc]++(l.drop a).take i=ys at HX HO hxl
       go_wp2_with (at_builtin;refine aV HO.out lv (by omega) hB rfl rfl rfl rfl rfl rfl ?_;intro g2 cap2 W2 hm2 hb2)
       go_roundw
       case rel=>exact⟨i+1,by omega,by go_num,by rw[HX.out];have:=hm2.has;simpa using this,HBq.out.trans hb2⟩
       case measure=>simp[intOf];omega
      ·have hii:i=254:=by omega
       subst hii
       have HO:=vQ HI.out.1
       have HBq:=vQ HI.out.2
       clear HI hik
       by_cases hmore:a+254<l.length
       ·have hm1:(a:Int)+254<(l.length:Int):=by omega
        rw[decide_eq_true hmore] at HN
        go_wp2
        go_roundw
        case rel=>exact⟨a+254,true,_,by omega,by go_num,rfl,by simp only[List.length_append,List.length_cons,List.length_nil,List.length_take,List.length_drop];omega,HN.out,HO.out,HBq.out⟩
        case measure=>simp[intOf,gg,kP];omega
       ·have hm1:decide ((a:Int)+254<(l.length:Int))=false:=decide_eq_false (by omega)
        rw[decide_eq_false hmore] at HN
        go_wp2
        go_roundw
        case rel=>exact⟨a+254,false,_,by omega,by go_num,rfl,by simp only[List.length_append,List.length_cons,List.length_nil,List.length_take,List.length_drop];omega,HN.out,HO.out,HBq.out⟩
        case measure=>simp[intOf,gg,kP];omega
    ·have hk1:(k:Int)<254:=by omega
     by_cases hend:a+k=l.length
     ·have HN:=vQ (Cob.writing_end HK.out.1 (by omega) hend HZ.out)
      have hb1:decide ((a:Int)+(k:Int)<(l.length:Int))=false:=decide_eq_false (by omega)
      clear HZ
      have hcn:(UInt8.ofNat (k+1)).toNat=k+1:=Cob.len_byte k (by omega)
      have HO:=vQ HK.out.2.1
      have HBw:=vQ HK.out.2.2
      have hB:=HK.out.2.2.size
      have hbd:=Cob.writing_bound HN.out
      simp only[List.length_append,List.length_cons,List.length_nil,List.length_take,List.length_drop] at hbd
      clear HK
      generalize UInt8.ofNat (k+1)=cc at hcn HN
      go_wp2_with (at_builtin;refine aV HO.out cc (by omega) hB (by omega) rfl rfl rfl rfl rfl ?_;intro g1 cap1 W1 hm1 hb1)
      have HB1:=vQ (HBw.out.trans hb1)
      have HM1:=vQ hm1.has
      clear hm1 hb1 HO HBw hB
      go_loopw [3,7] (fun v3 v7 wq=>∃i:Nat,i<=k∧v7=.int .i64 i∧Hid (Has wq w.1.size v3 (xs++[cc]++(l.drop a).take i)∧Below w.1.size w wq)) (fun _ v7 _=>k-(intOf v7).toNat)
      case atStart=>exact⟨0,by omega,rfl,by have:=HM1.out;simpa using this,HB1.out⟩
      case round=>
       obtain⟨i,hi,rfl,HI⟩:=hrel
       by_cases hik:i<k
       ·have hcl:=HC.out (a+i) (by omega)
        have hcq:wr.cell? ⟨b,o+(a+i),none⟩=some (.int .u8 (l[a+i].toNat:Int)):=by rw[HI.out.2.cell (p:=⟨b,o+(a+i),none⟩) (World.block_lt_of_cell? _ _ hcl)];exact hcl
        have HX:Hid (xs++[cc]++(l.drop a).take (i+1)=(xs++[cc]++(l.drop a).take i)++[l[a+i]]):=by
         show _=_
         rw[List.take_succ_eq_append_getElem (by rw[List.length_drop];omega),List.getElem_drop,List.append_assoc,List.append_assoc,List.append_assoc]
        have HO:=vQ HI.out.1
        have HBq:=vQ HI.out.2
        have hB:=HI.out.2.size
        have hxl:(xs++[cc]++(l.drop a).take i).length<=150000000000257:=by simp only[List.length_append,List.length_cons,List.length_nil,List.length_take,List.length_drop];omega
        clear HI hcl
        generalize hlv:l[a+i]=lv at hcq HX
        clear hlv
        generalize xs++[cc]++(l.drop a).take i=ys at HX HO hxl
        go_wp2_with (at_builtin;refine aV HO.out lv (by omega) hB rfl rfl rfl rfl rfl rfl ?_;intro g2 cap2 W2 hm2 hb2)
        go_roundw
        case rel=>exact⟨i+1,by omega,by go_num,by rw[HX.out];have:=hm2.has;simpa using this,HBq.out.trans hb2⟩
        case measure=>simp[intOf];omega
       ·have hii:i=k:=by omega
        subst hii
        have HO:=vQ HI.out.1
        have HBq:=vQ HI.out.2
        clear HI hik
        go_wp2
        go_roundw
        case rel=>exact⟨a+i,false,_,by omega,by go_num,rfl,by simp only[List.length_append,List.length_cons,List.length_nil,List.length_take,List.length_drop];omega,HN.out,HO.out,HBq.out⟩
        case measure=>simp[intOf,gg,kP];omega
     ·have hlt:a+k<l.length:=by omega
      have hlt1:(a:Int)+(k:Int)<(l.length:Int):=by omega
      have hcell:=HC.out (a+k) hlt
      by_cases h0:l[a+k]=0
      ·have HN:=vQ (Cob.writing_zero HK.out.1 (by omega) hlt HZ.out h0)
       rw[h0] at hcell
       have hcell':w.cell? ⟨b,o+(a+k),none⟩=some (.int .u8 0):=hcell
       have hcw:wr.cell? ⟨b,o+(a+k),none⟩=some (.int .u8 0):=by rw[HK.out.2.2.cell (p:=⟨b,o+(a+k),none⟩) (World.block_lt_of_cell? _ _ hcell')];exact hcell'
       clear HZ hcell hcell' h0
       have hcn:(UInt8.ofNat (k+1)).toNat=k+1:=Cob.len_byte k (by omega)
       have HO:=vQ HK.out.2.1
       have HBw:=vQ HK.out.2.2
       have hB:=HK.out.2.2.size
       have hbd:=Cob.writing_bound HN.out
       simp only[List.length_append,List.length_cons,List.length_nil,List.length_take,List.length_drop] at hbd
       clear HK
       generalize UInt8.ofNat (k+1)=cc at hcn HN
       go_wp2_with (at_builtin;refine aV HO.out cc (by omega) hB (by omega) rfl rfl rfl rfl rfl ?_;intro g1 cap1 W1 hm1 hb1)
       have HB1:=vQ (HBw.out.trans hb1)
       have HM1:=vQ hm1.has
       clear hm1 hb1 HO HBw hB
       go_loopw [3,7] (fun v3 v7 wq=>∃i:Nat,i<=k∧v7=.int .i64 i∧Hid (Has wq w.1.size v3 (xs++[cc]++(l.drop a).take i)∧Below w.1.size w wq)) (fun _ v7 _=>k-(intOf v7).toNat)
       case atStart=>exact⟨0,by omega,rfl,by have:=HM1.out;simpa using this,HB1.out⟩
       case round=>
        obtain⟨i,hi,rfl,HI⟩:=hrel
        by_cases hik:i<k
        ·have hcl:=HC.out (a+i) (by omega)
         have hcq:wr.cell? ⟨b,o+(a+i),none⟩=some (.int .u8 (l[a+i].toNat:Int)):=by rw[HI.out.2.cell (p:=⟨b,o+(a+i),none⟩) (World.block_lt_of_cell? _ _ hcl)];exact hcl
         have HX:Hid (xs++[cc]++(l.drop a).take (i+1)=(xs++[cc]++(l.drop a).take i)++[l[a+i]]):=by
          show _=_
          rw[List.take_succ_eq_append_getElem (by rw[List.length_drop];omega),List.getElem_drop,List.append_assoc,List.append_assoc,List.append_assoc]
         have HO:=vQ HI.out.1
         have HBq:=vQ HI.out.2
         have hB:=HI.out.2.size
         have hxl:(xs++[cc]++(l.drop a).take i).length<=150000000000257:=by simp only[List.length_append,List.length_cons,List.length_nil,List.length_take,List.length_drop];omega
         clear HI hcl
         generalize hlv:l[a+i]=lv at hcq HX
         clear hlv
         generalize xs++[cc]++(l.drop a).take i=ys at HX HO hxl
         go_wp2_with (at_builtin;refine aV HO.out lv (by omega) hB rfl rfl rfl rfl rfl rfl ?_;intro g2 cap2 W2 hm2 hb2)
         go_roundw
         case rel=>exact⟨i+1,by omega,by go_num,by rw[HX.out];have:=hm2.has;simpa using this,HBq.out.trans hb2⟩
         case measure=>simp[intOf];omega
        ·have hii:i=k:=by omega
         subst hii
         have HO:=vQ HI.out.1
         have HBq:=vQ HI.out.2
         clear HI hik
         by_cases hmore:a+i+1<l.length
         ·have hm1:(a:Int)+(i:Int)+1<(l.length:Int):=by omega
          go_wp2
          go_roundw
          case rel=>exact⟨a+i+1,true,_,by omega,by go_num,rfl,by simp only[List.length_append,List.length_cons,List.length_nil,List.length_take,List.length_drop];omega,HN.out,HO.out,HBq.out⟩
          case measure=>simp[intOf,gg,kP];omega
         ·have hm1:decide ((a:Int)+(i:Int)+1<(l.length:Int))=false:=decide_eq_false (by omega)
          go_wp2
          go_roundw
          case rel=>exact⟨a+i+1,true,_,by omega,by go_num,rfl,by simp only[List.length_append,List.length_cons,List.length_nil,List.length_take,List.length_drop];omega,HN.out,HO.out,HBq.out⟩
          case measure=>simp[intOf,gg,kP];omega
      ·have hcw:wr.cell? ⟨b,o+(a+k),none⟩=some (.int .u8 (l[a+k].toNat:Int)):=by rw[HK.out.2.2.cell (p:=⟨b,o+(a+k),none⟩) (World.block_lt_of_cell? _ _ hcell)];exact hcell
       have hne:((l[a+k].toNat:Int) != 0)=true:=by
        rw[bne_iff_ne]
        intro hc0
        exact h0 (UInt8.toNat_inj.1 (by have:(0:UInt8).toNat=0:=rfl;omega))
       have HN:Hid (∀j,j<k+1->∀h:a+j<l.length,l[a+j]≠0):=by
        intro j hj h
        by_cases e:j=k
        ·subst e;exact h0
        ·exact HZ.out j (by omega) h
       clear HZ hcell h0
       generalize l[a+k].toNat=v at hcw hne
       go_wp2
       go_round
       case rel=>exact⟨k+1,by omega,by omega,by go_num,HN⟩
       case measure=>simp[intOf];omega
theorem nO:Cob.stuff []=[1]:=by decide
theorem iK(p:OA)(c:Nat)(w:World):
  Calls Tryz.prog 66 #[.slice p 0 c] w fun e w'=>∃g cap,e=.returned (.slice (some ⟨g,0,none⟩) 1 cap)∧bh w' w.1.size g cap [1]∧Below w.1.size w w':=by
 go_enter Tryz.func66,Tryz.ntmps66
 go_wp2
 go_loopw [3,4,5] (fun v3 v4 v5 wr=>∃(m:Bool),v4=.int .i64 0∧v5=.bool m∧Hid (Has wr w.1.size v3 (if m then [] else [1])∧Below w.1.size w wr)) (fun _ _ v5 _=>kP (gg v5))
 case atStart=>exact⟨true,rfl,rfl,aR _ _,vZ⟩
 case round=>
  obtain⟨m,rfl,rfl,HK⟩:=hrel
  cases m with
  |false=>
   obtain⟨g,cap,hv,hM⟩:∃g cap,u3=.slice (some ⟨g,0,none⟩) 1 cap∧bh wr w.1.size g cap [1]:=by
    rcases HK.out.1.form with ⟨_,h0⟩ | ⟨g,cap,h1,h2⟩
    ·cases h0
    ·exact⟨g,cap,h1,h2⟩
   have HM:=vQ hM
   have HB:=vQ HK.out.2
   subst hv
   clear hM HK
   go_wp2
   go_ret
   exact⟨g,cap,rfl,HM.out,HB.out⟩
  |true=>
   have HO:Hid (Has wr w.1.size u3 []):=HK.out.1
   have HBw:=vQ HK.out.2
   have hB:=HK.out.2.size
   clear HK
   go_wp2
   go_loop [6] (fun v6=>v6=.int .i64 0) (fun _=>0)
   case atStart=>exact rfl
   case round=>
    subst hrel
    go_wp2_with (at_builtin;refine aV HO.out 1 (by simp) hB (by decide) rfl rfl rfl rfl rfl ?_;intro g1 cap1 W1 hm1 hb1)
    have HB1:=vQ (HBw.out.trans hb1)
    have HM1:=vQ hm1.has
    clear hm1 hb1 HO HBw hB
    go_loop [3,7] (fun v3 v7=>v3=.slice (some ⟨g1,0,none⟩) 1 cap1∧v7=.int .i64 0) (fun _ _=>0)
    case atStart=>exact⟨rfl,rfl⟩
    case round=>
     obtain⟨rfl,rfl⟩:=hrel
     go_wp2
     go_roundw
     case rel=>exact⟨false,rfl,rfl,HM1.out,HB1.out⟩
     case measure=>simp[gg,kP]
theorem jz(p:OA)(c:Nat)(l:L8)(hl:l.length<=141000000000000)(w:World)(h:At w p l):
  Calls Tryz.prog 66 #[.slice p l.length c] w fun e w'=>∃g cap,e=.returned (.slice (some ⟨g,0,none⟩) (Cob.stuff l).length cap)∧bh w' w.1.size g cap (Cob.stuff l)∧Below w.1.size w w':=by
 rcases h with rfl | ⟨b,o,rfl,_,hc⟩
 ·rw[nO]
  exact iK p c w
 ·exact kz b o c l hl w hc
end
section
open Go.RowKit
theorem un_zero{l:L8}{i:Nat}(hi:i<l.length)(h:l[i]=0):Cob.un l=(40,[]):=by
 unfold Cob.un
 rw[if_pos]
 rw[<-h]
 exact List.getElem_mem hi
end
section
open Go.RowKit
theorem rz(w:World)(C:AV)(l:L8)(h:C=(cellsOf l).toArray):At (w.alloc (.cells C 5)) (some ⟨w.1.size,0,none⟩) l:=by
 refine .inr ⟨_,_,rfl,by simp,fun j hj=>?_⟩
 subst h
 have:=oj w l #[] 5 j hj
 rw[Array.append_empty] at this
 exact this
end
end Go.Proofs.YtlgfdgdlaahpfaaGreatDoor
