import Derived.Test.YtngmnfdaedlodaaGreatDoorB01
import Derived.Deep.DeepCutAuto
namespace Go.Proofs.YtngmnfdaedlodaaGreatDoor
variable{a ah la r:Nat}{g l xs ys:L8}
namespace Cob
def Nz(l:L8):Prop:=∀c,c∈l->c≠0
def sp:L8->L8->List L8
 |cur,[]=>[cur]
 |cur,c::r=>if c=0 then cur::sp [] r else if cur.length+1=254 then (cur++[c])::(if r=[] then [] else sp [] r) else sp (cur++[c]) r
def split(b:L8):List L8:=sp [] b
def join:List L8->L8
 | []=>[]
 | [g]=>g
 |g::h::t=>g++(if g.length<254 then [0] else [])++join (h::t)
def enc:List L8->L8
 | []=>[]
 |g::t=>UInt8.ofNat (g.length+1)::(g++enc t)
def Good:List L8->Prop
 | []=>False
 | [g]=>g.length<=254∧Nz g
 |g::h::t=>g.length<=254∧Nz g∧(g.length=254->¬(h=[]∧t=[]))∧Good (h::t)
def stuff(b:L8):L8:=enc (split b)
theorem sp_ne(o b:L8):sp o b≠[]:=by
 induction b generalizing o with
 |nil=>simp[sp]
 |cons c r ih=>
  rw[sp];split
  ·simp
  ·split
   ·simp
   ·exact ih _
theorem join_cons(g:L8)(o:List L8)(h:o≠[]):join (g::o)=g++(if g.length<254 then [0] else [])++join o:=by
 cases o with
 |nil=>exact absurd rfl h
 |cons a t=>rfl
theorem join_sp(b:L8):∀o:L8,o.length<254->join (sp o b)=o++b:=by
 induction b with
 |nil=>intro o _;simp[sp,join]
 |cons c r ih=>
  intro o E;rw[sp];by_cases y:c=0
  ·rw[AG y,join_cons _ _ (sp_ne _ _),AG E,ih [] (by simp),y];simp
  ·rw[AF y];by_cases D:o.length+1=254
   ·rw[AG D];by_cases A:r=[]
    ·rw[AG A,A];rfl
    ·rw[AF A,join_cons _ _ (sp_ne _ _),AF (by simp;omega),ih [] (by simp)];simp
   ·rw[AF D,ih _ (by simp;omega)];simp
theorem join_split(b:L8):join (split b)=b:=join_sp b [] (by simp)
theorem good_cons{o:List L8}(h:o≠[])(A:g.length<=254)(D:Nz g)(E:g.length=254->o≠[[]])(J:Good o):Good (g::o):=by
 cases o with
 |nil=>exact absurd rfl h
 |cons a t=>exact⟨A,D,fun K y=>E K (by rw[y.1,y.2]),J⟩
theorem good_sp(b:L8):∀o:L8,o.length<254->Nz o->Good (sp o b):=by
 induction b with
 |nil=>intro o D y;exact⟨by omega,y⟩
 |cons c r ih=>
  intro o M K;rw[sp];by_cases A:c=0
  ·rw[AG A];exact good_cons (sp_ne _ _) (by omega) K (fun h=>by omega) (ih [] (by simp) (by intro d hd;simp at hd))
  ·rw[AF A];have E:Nz (o++[c]):=by
    intro d hd;rcases List.mem_append.1 hd with h | h
    ·exact K d h
    ·simp at h;rw[h];exact A
   by_cases D:o.length+1=254
   ·rw[AG D];by_cases y:r=[]
    ·rw[AG y];exact⟨by simp;omega,E⟩
    ·rw[AF y];refine good_cons (sp_ne _ _) (by simp;omega) E (fun _ L=>?_) (ih [] (by simp) (by intro d hd;simp at hd));have J:=join_sp r [] (by simp);rw[L] at J;exact y (by simpa[join] using J.symm)
   ·rw[AF D];exact ih _ (by simp;omega) E
theorem good_split(b:L8):Good (split b):=good_sp b [] (by simp) (by intro d hd;simp at hd)
theorem sp_run(g:L8):∀(o r:L8),Nz g->o.length+g.length<254->sp o (g++r)=sp (o++g) r:=by
 induction g with
 |nil=>intro o r _ _;simp
 |cons c g ih=>
  intro o r y D;have A:c≠0:=y c (by simp);have E:Nz g:=fun d hd=>y d (by simp[hd]);simp only[AI] at D;rw[List.cons_append,sp,AF A,AF (by omega),ih _ _ E (by simp;omega)];simp
theorem sp_full(g:L8):∀(o r:L8),Nz g->o.length<254->o.length+g.length=254->sp o (g++r)=(o++g)::(if r=[] then [] else sp [] r):=by
 induction g with
 |nil=>intro o r _ E y;simp at y;omega
 |cons c g ih=>
  intro o r D E y;have J:c≠0:=D c (by simp);have L:Nz g:=fun d hd=>D d (by simp[hd]);simp only[AI] at y;rw[List.cons_append,sp,AF J];by_cases A:o.length+1=254
  ·have K:g=[]:=by
    cases g with
    |nil=>rfl
    |cons _ _=>simp at y;omega
   subst K;rw[AG A];simp
  ·rw[AF A,ih _ _ L (by simp;omega) (by simp;omega)];simp
theorem join_nil{t:List L8}(h:join (g::t)=[]):g=[]∧t=[]:=by
 cases t with
 |nil=>exact⟨h,rfl⟩
 |cons a t=>
  rw[join_cons _ _ (by simp)] at h;have o:g=[]:=by simp at h;exact h.1
  subst o;simp at h
theorem split_join(y:List L8)(h:Good y):split (join y)=y:=by
 unfold split;induction y with
 |nil=>exact h.elim
 |cons g t ih=>
  cases t with
  |nil=>
   obtain⟨J,o⟩:=h;by_cases A:g.length<254
   ·have:=sp_run g [] [] o (by simpa using A);simp only[Az,List.nil_append] at this;show sp [] g=[g];rw[this];rfl
   ·have:=sp_full g [] [] o (by simp) (by simp;omega);simp only[Az,List.nil_append,if_true] at this;exact this
  |cons a t=>
   obtain⟨J,o,A,K⟩:=h;have E:=ih K;rw[join_cons _ _ (by simp)];by_cases D:g.length<254
   ·rw[AG D,AN];have:=sp_run g [] ([0]++join (a::t)) o (by simpa using D);rw[this,List.nil_append,List.singleton_append,sp,AG rfl,E]
   ·rw[AF D,Az];have:=sp_full g [] (join (a::t)) o (by simp) (by simp;omega);rw[this,List.nil_append,E,AF];intro L;exact A (by omega) (join_nil L)
def gr:Nat->L8->Option (List L8)
 |_,[]=>some []
 |0,_::_=>none
 |f+1,c::r=>if r.length<c.toNat-1 then none else (gr f (r.drop (c.toNat-1))).map (r.take (c.toNat-1)::·)
theorem len_byte(n:Nat)(h:n<=254):(UInt8.ofNat (n+1)).toNat=n+1:=by
 rw[UInt8.toNat_ofNat'];omega
theorem gr_enc(o:List L8):∀f,(∀g,g∈o->g.length<=254)->(enc o).length<=f->gr f (enc o)=some o:=by
 induction o with
 |nil=>intro f _ _;cases f <;> rfl
 |cons g t ih=>
  intro f y A;have D:=y g (by simp);simp only[enc,AI,AH] at A;cases f with
  |zero=>omega
  |succ f=>
   simp only[enc,gr,len_byte _ D,Nat.add_sub_cancel,AH];rw[AF (by omega),List.drop_left,List.take_left,ih f (fun x E=>y x (by simp[E])) (by omega)];rfl
theorem gr_ok(f:Nat):∀(s:L8) (o:List L8),Nz s->gr f s=some o->enc o=s∧(∀g,g∈o->g.length<=254∧Nz g)∧(s≠[]->o≠[]):=by
 induction f with
 |zero=>
  intro s o D h;cases s with
  |nil=>simp[gr] at h;subst h;exact⟨rfl,by simp,fun h=>absurd rfl h⟩
  |cons c r=>simp[gr] at h
 |succ f ih=>
  intro s o D h;cases s with
  |nil=>simp[gr] at h;subst h;exact⟨rfl,by simp,fun h=>absurd rfl h⟩
  |cons c r=>
   have L:c≠0:=D c (by simp);have S:1<=c.toNat:=by
    rcases Nat.eq_zero_or_pos c.toNat with y | y
    ·exact absurd (UInt8.toNat_inj.1 (by rw[y];rfl)) L
    ·exact y
   have V:c.toNat<256:=c.toNat_lt;have E:Nz r:=fun d hd=>D d (by simp[hd]);rw[gr] at h;by_cases y:r.length<c.toNat-1
   ·rw[AG y] at h;cases h
   ·rw[AF y] at h;obtain⟨J,K,rfl⟩:=Option.map_eq_some_iff.1 h;obtain⟨M,Q,_⟩:=ih (r.drop (c.toNat-1)) J (fun d hd=>E d (List.mem_of_mem_drop hd)) K;refine⟨?_,?_,fun _=>by simp⟩
    ·simp only[enc,M,List.take_append_drop,AM];congr 1;apply UInt8.toNat_inj.1;rw[UInt8.toNat_ofNat'];omega
    ·intro g A;rcases List.mem_cons.1 A with rfl | A
     ·exact⟨by rw[AM];omega,fun d hd=>E d (List.mem_of_mem_take hd)⟩
     ·exact Q g A
theorem good_mem{y:List L8}(h:Good y):∀g,g∈y->g.length<=254∧Nz g:=by
 induction y with
 |nil=>intro g o;simp at o
 |cons a t ih=>
  cases t with
  |nil=>intro g o;simp at o;subst o;exact h
  |cons b t=>
   intro g o;rcases List.mem_cons.1 o with rfl | o
   ·exact⟨h.1,h.2.1⟩
   ·exact ih h.2.2.2 g o
theorem enc_nz{y:List L8}(h:∀g,g∈y->g.length<=254∧Nz g):Nz (enc y):=by
 induction y with
 |nil=>intro c o;simp[enc] at o
 |cons g t ih=>
  intro c o;have A:=h g (by simp);simp only[enc] at o;rcases List.mem_cons.1 o with rfl | o
  ·intro D;have:=congrArg UInt8.toNat D;rw[len_byte _ A.1] at this;simp at this
  ·rcases List.mem_append.1 o with o | o
   ·exact A.2 c o
   ·exact ih (fun x E=>h x (by simp[E])) c o
theorem stuff_nz(b:L8):Nz (stuff b):=enc_nz (good_mem (good_split b))
theorem gr_stuff(b:L8):gr (stuff b).length (stuff b)=some (split b):=gr_enc _ _ (fun g o=>(good_mem (good_split b) g o).1) gQx
theorem stuff_join{o:List L8}(h:Good o):stuff (join o)=enc o:=by
 unfold stuff;rw[split_join o h]
theorem enc_length{o:List L8}(h:Good o):(join o).length+1<=(enc o).length∧254*(enc o).length<=254*(join o).length+254+(join o).length:=by
 induction o with
 |nil=>exact h.elim
 |cons g t ih=>
  cases t with
  |nil=>simp only[join,enc,AI,AH,List.length_nil];omega
  |cons a t=>
   have A:=ih h.2.2.2;have D:=h.1;rw[join_cons _ _ (by simp)];simp only[enc,AI,AH] at A ⊢;by_cases y:g.length<254
   ·rw[AG y];simp;omega
   ·rw[AF y];simp;omega
theorem stuff_length(b:L8):b.length+1<=(stuff b).length∧(stuff b).length<=b.length+1+b.length / 254:=by
 have:=enc_length (good_split b);rw[join_split] at this;unfold stuff;omega
def badEnd:List L8->Bool
 | []=>false
 | [_]=>false
 | [g,h]=>decide (g.length=254∧h=[])
 |_::t=>badEnd t
theorem good_of_read{o:List L8}(A:o≠[])(h:∀g,g∈o->g.length<=254∧Nz g)(hb:badEnd o=false):Good o:=by
 induction o with
 |nil=>exact absurd rfl A
 |cons g t ih=>
  cases t with
  |nil=>exact h g (by simp)
  |cons a t=>
   cases t with
   |nil=>
    refine⟨(h g (by simp)).1,(h g (by simp)).2,fun D y=>?_,h a (by simp)⟩;simp only[badEnd,decide_eq_false_iff_not] at hb;exact hb ⟨D,y.1⟩
   |cons c t=>
    have E:badEnd (a::c::t)=false:=hb;exact⟨(h g (by simp)).1,(h g (by simp)).2,fun _ y=>by simp at y,ih (by simp) (fun x J=>h x (by simp[J])) E⟩
theorem bad_of_good{o:List L8}(h:Good o):badEnd o=false:=by
 induction o with
 |nil=>rfl
 |cons g t ih=>
  cases t with
  |nil=>rfl
  |cons a t=>
   cases t with
   |nil=>
    simp only[badEnd,decide_eq_false_iff_not];rintro⟨y,A⟩;exact h.2.2.1 y ⟨A,rfl⟩
   |cons c t=>exact ih h.2.2.2
end Cob
namespace Cob
theorem nz_take{r:L8}{k:Nat}(h:∀j (o:j<r.length),j<k->r[j]≠0):Nz (r.take k):=by
 intro c y;obtain⟨j,o,rfl⟩:=List.getElem_of_mem y;rw[AM] at o;rw[List.getElem_take];exact h j (by omega) (by omega)
theorem step_zero(r:L8)(k:Nat)(E:k<254)(A:k<r.length)(h:∀j (D:j<r.length),j<k->r[j]≠0)(y:r[k]=0):split r=r.take k::split (r.drop (k+1)):=by
 have e:r=r.take k++(0::r.drop (k+1)):=by
  rw[<-y,<-List.drop_eq_getElem_cons A,List.take_append_drop]
 have o:=sp_run (r.take k) [] (0::r.drop (k+1)) (nz_take h) (by simp;omega);rw[<-e,List.nil_append] at o;unfold split;rw[o,sp,AG rfl]
theorem step_end(r:L8)(A:r.length<254)(h:∀j (y:j<r.length),r[j]≠0):split r=[r]:=by
 have D:Nz r:=by
  have:=nz_take (r:=r) (k:=r.length) (fun j y _=>h j y);rwa [List.take_length] at this
 have o:=sp_run r [] [] D (by simpa using A);rw[Az,List.nil_append] at o;unfold split;rw[o,sp]
theorem step_full(r:L8)(A:254<=r.length)(h:∀j (y:j<r.length),j<254->r[j]≠0):split r=r.take 254::(if r.drop 254=[] then [] else split (r.drop 254)):=by
 have o:=sp_full (r.take 254) [] (r.drop 254) (nz_take h) (by simp) (by simp;omega);rw[List.take_append_drop,List.nil_append] at o;exact o
def Writing(b:L8)(at_:Nat)(more:Bool)(xs:L8):Prop :=
 at_<=b.length∧(more=true->stuff b=xs++enc (split (b.drop at_)))∧(more=false->stuff b=xs)
theorem writing_start(b:L8):Writing b 0 true []:=⟨by omega,fun _=>rfl,fun h=>by cases h⟩
section
variable {b xs:L8} {a k:Nat}
theorem writing_zero(h:Writing b a true xs)(A:k<254)(J:a+k<b.length)(D:∀j,j<k->∀h:a+j<b.length,b[a+j]≠0)(o:b[a+k]=0):
  Writing b (a+k+1) true (xs++[UInt8.ofNat (k+1)]++(b.drop a).take k):=by
 refine⟨by omega,fun _=>?_,fun h=>by cases h⟩;rw[h.2.1 rfl,step_zero (b.drop a) k A (by rw[AL];omega) (fun j E y=>by rw[List.getElem_drop];exact D j y _) (by rw[List.getElem_drop];exact o),enc,Ax];have e:((b.drop a).take k).length=k:=by rw[AM,AL];omega
 rw[e,AN,AN];rfl
theorem writing_end(h:Writing b a true xs)(D:k<254)(E:a+k=b.length)(y:∀j,j<k->∀h:a+j<b.length,b[a+j]≠0):
  Writing b (a+k) false (xs++[UInt8.ofNat (k+1)]++(b.drop a).take k):=by
 refine⟨by omega,fun h=>(by cases h),fun _=>?_⟩;have o:(b.drop a).length=k:=by rw[AL];omega
 rw[h.2.1 rfl,step_end (b.drop a) (by omega) (fun j A=>by rw[List.getElem_drop];exact y j (by omega) _),enc,enc,o,Az,AN];rw[List.take_of_length_le (by omega)];rfl
theorem writing_full(h:Writing b a true xs)(L:a+254<=b.length)(J:∀j,j<254->∀h:a+j<b.length,b[a+j]≠0):
  Writing b (a+254) (decide (a+254<b.length)) (xs++[UInt8.ofNat (254+1)]++(b.drop a).take 254):=by
 have y:=step_full (b.drop a) (by rw[AL];omega) (fun j K E=>by rw[List.getElem_drop];exact J j E _);rw[Ax] at y;have e:((b.drop a).take 254).length=254:=by rw[AM,AL];omega
 have A:stuff b=xs++[UInt8.ofNat (254+1)]++(b.drop a).take 254++enc (if b.drop (a+254)=[] then [] else split (b.drop (a+254))):=by
  rw[h.2.1 rfl,y,enc,e];simp
 refine⟨by omega,fun o=>?_,fun o=>?_⟩
 ·have:a+254<b.length:=of_decide_eq_true o;rw[A,AF];intro D;have:=congrArg List.length D;rw[AL] at this;simp at this;omega
 ·have:¬a+254<b.length:=of_decide_eq_false o;rw[A,AG (List.drop_eq_nil_of_le (by omega)),enc,Az]
theorem writing_bound{m:Bool}(h:Writing b a m xs):xs.length<=b.length+1+b.length / 254:=by
 have o:=(stuff_length b).2;cases m with
 |true=>have:=congrArg List.length (h.2.1 rfl);simp only[AH] at this;omega
 |false=>have:=congrArg List.length (h.2.2 rfl);omega
end
def un(s:L8):Nat×L8 :=
 if (0:UInt8)∈s then (40,[]) else if s=[] then (30,[]) else
  match gr s.length s with
  |none=>(30,[])
  |some gs=>if badEnd gs then (5,[]) else (0,join gs)
theorem un_bad{s:L8}(h:(un s).1≠0):(un s).2=[]:=by
 unfold un at h ⊢;split
 ·rfl
 ·rename_i h1;rw[AF h1] at h;split
  ·rfl
  ·rename_i h2;rw[AF h2] at h;split
   ·rfl
   ·rename_i gs hg;rw[hg] at h;simp only at h ⊢;split
    ·rfl
    ·rename_i h3;rw[AF h3] at h;exact absurd rfl h
theorem un_ok{s:L8}(h:(un s).1=0):stuff (un s).2=s:=by
 unfold un at h ⊢;split
 ·rename_i h1;rw[AG h1] at h;cases h
 ·rename_i h1;rw[AF h1] at h;split
  ·rename_i h2;rw[AG h2] at h;cases h
  ·rename_i h2;rw[AF h2] at h;split
   ·rename_i hg;rw[hg] at h;cases h
   ·rename_i gs hg;rw[hg] at h;simp only at h ⊢;split
    ·rename_i h3;rw[AG h3] at h;cases h
    ·rename_i h3;have K:Nz s:=fun c E D=>h1 (by rw[<-D];exact E);obtain⟨o,y,A⟩:=gr_ok s.length s gs K hg;have J:=good_of_read (A h2) y (by simpa using h3);rw[stuff_join J,o]
theorem un_stuff(b:L8):un (stuff b)=(0,b):=by
 have y:¬(0:UInt8)∈stuff b:=fun o=>stuff_nz b 0 o rfl;have A:stuff b≠[]:=by
  intro o;have:=(stuff_length b).1;rw[o] at this;simp at this
 unfold un;rw[AF y,AF A,gr_stuff];simp only;rw[AF (by rw[bad_of_good (good_split b)];simp),join_split]
theorem un_length(s:L8):(un s).2.length<=s.length:=by
 by_cases h:(un s).1=0
 ·have:=(stuff_length (un s).2).1;rw[un_ok h] at this;omega
 ·rw[un_bad h];simp
end Cob
namespace Cob
theorem gr_fuel:∀(n f:Nat) (s:L8),s.length<=n->s.length<=f->gr f s=gr s.length s:=by
 intro n;induction n with
 |zero=>
  intro f s h _;have:s=[]:=List.eq_nil_of_length_eq_zero (by omega);subst this;cases f <;> rfl
 |succ n ih=>
  intro f s h y;cases s with
  |nil=>cases f <;> rfl
  |cons c r=>
   simp only[AI] at h y ⊢;cases f with
   |zero=>omega
   |succ f=>
    simp only[gr];by_cases o:r.length<c.toNat-1
    ·rw[AG o,AG o]
    ·rw[AF o,AF o];have A:(r.drop (c.toNat-1)).length<=r.length:=(by rw[AL];omega);rw[ih f (r.drop (c.toNat-1)) (by omega) (by omega),ih r.length (r.drop (c.toNat-1)) (by omega) (by omega)]
theorem gr_step(s:L8)(a:Nat)(E:a<s.length):gr (s.length-a) (s.drop a) =
  if s.length-a-1<s[a].toNat-1 then none else (gr (s.length-(a+(s[a].toNat-1)+1)) (s.drop (a+(s[a].toNat-1)+1))).map ((s.drop (a+1)).take (s[a].toNat-1)::·):=by
 have e:s.drop a=s[a]::s.drop (a+1):=List.drop_eq_getElem_cons E;have y:s.length-a=(s.length-a-1)+1:=by omega
 have D:(s.drop (a+1)).length=s.length-a-1:=by rw[AL];omega
 rw[e,y];simp only[gr,D,Nat.add_sub_cancel];by_cases o:s.length-a-1<s[a].toNat-1
 ·rw[AG o,AG o]
 ·rw[AF o,AF o,Ax,show a+1+(s[a].toNat-1)=a+(s[a].toNat-1)+1 by omega];have A:(s.drop (a+(s[a].toNat-1)+1)).length=s.length-(a+(s[a].toNat-1)+1):=by rw[AL]
  rw[gr_fuel (s.length-a-1) (s.length-a-1) (s.drop (a+(s[a].toNat-1)+1)) (by omega) (by omega),A]
def lastOf(gs:List L8):Nat:=match gs.getLast? with
 |none=>0
 |some g=>g.length+1
theorem lastOf_snoc(o:List L8)(g:L8):lastOf (o++[g])=g.length+1:=by simp[lastOf]
theorem badEnd_snoc2:∀(o:List L8) (g h:L8),badEnd (o++[g,h])=decide (g.length=254∧h=[])
 | [],_,_=>rfl
 | [_],_,_=>rfl
 |_::x::t,g,h=>by
  have:=badEnd_snoc2 (x::t) g h;rw[<-this];cases t <;> rfl
theorem badEnd_iff(o:List L8)(g:L8):badEnd (o++[g])=(decide (g.length+1=1)&&decide (lastOf o=255)):=by
 rcases List.eq_nil_or_concat o with rfl | ⟨y,h,rfl⟩
 ·simp[badEnd,lastOf]
 ·rw[List.concat_eq_append,AN];have:=badEnd_snoc2 y h g;simp only[List.cons_append,List.nil_append] at this ⊢;rw[this,lastOf_snoc,Bool.eq_iff_iff];simp[List.length_eq_zero_iff,and_comm]
def Reading(s:L8)(a last ahead:Nat)(xs:L8):Prop :=
 a<=s.length∧xs.length<=a∧last<=255∧ahead<=255∧∃gs:List L8,gr s.length s=(gr (s.length-a) (s.drop a)).map (gs++·) ∧
  (a<s.length->∀rest,rest≠[]->join (gs++rest)=xs++join rest)∧(a=s.length->gs≠[]->xs=join gs)∧(a=0∧gs=[]∨0<a∧gs≠[]∧badEnd gs=(decide (last=1)&&decide (ahead=255)))∧last=lastOf gs
theorem reading_start(s:L8):Reading s 0 0 0 []:=by
 refine⟨by omega,by simp,by omega,by omega,[],?_,fun _ rest _=>rfl,fun _ h=>absurd rfl h,.inl ⟨rfl,rfl⟩,rfl⟩;simp
theorem reading_short{s:L8}{last ahead:Nat}(L:Nz s)(h:Reading s a last ahead xs)(o:a<s.length)(J:s.length-a-1<s[a].toNat-1):un s=(30,[]):=by
 obtain⟨-,-,-,-,M,A,-⟩:=h;have D:=gr_step s a o;rw[AG J] at D;rw[D] at A;have E:¬(0:UInt8)∈s:=fun y=>L 0 y rfl;have K:s≠[]:=by intro y;rw[y] at o;simp at o
 unfold un;rw[AF E,AF K,A];rfl
theorem reading_next{s:L8}{last ahead:Nat}(h:Reading s a last ahead xs)(A:a<s.length)(k:Nat)(S:s[a].toNat=k+1)(a1:a+k+1<=s.length):
  Reading s (a+k+1) (k+1) last (xs++(s.drop (a+1)).take k++(if k<254∧a+k+1<s.length then [0] else [])):=by
 obtain⟨Z,ab,K,ai,J,L,E,aj,ak,M⟩:=h;have aw:=s[a].toNat_lt;have D:=gr_step s a A;rw[S,Nat.add_sub_cancel] at D;rw[AF (by omega)] at D;have y:((s.drop (a+1)).take k).length=k:=by rw[AM,AL];omega
 refine⟨by omega,?_,by omega,K,J++[(s.drop (a+1)).take k],?_,?_,?_,.inr ⟨by omega,by simp,?_⟩,?_⟩
 ·simp only[AH,y];split <;> simp <;> omega
 ·rw[L,D,Option.map_map];congr 1;funext x;simp
 ·intro V rest X;rw[AN,E A ([(s.drop (a+1)).take k]++rest) (by simp)];rw[List.cons_append,List.nil_append,join_cons _ _ X,y];by_cases o:k<254
  ·rw[AG o,AG ⟨o,V⟩];simp
  ·rw[AF o,AF (fun Q=>o Q.1)];simp
 ·intro a0 _;rw[AF (by omega),Az,E A [(s.drop (a+1)).take k] (by simp)];rfl
 ·rw[badEnd_iff,y,<-M]
 ·rw[lastOf_snoc,y]
theorem reading_end{s:L8}{last ahead:Nat}(V:Nz s)(A:s≠[])(h:Reading s s.length last ahead xs):un s=if last=1∧ahead=255 then (5,[]) else (0,xs):=by
 obtain⟨-,-,-,-,D,o,-,M,y,-⟩:=h;have X:0<s.length:=List.length_pos_iff.2 A;have E:¬(0:UInt8)∈s:=fun Q=>V 0 Q rfl;rcases y with ⟨y,_⟩ | ⟨_,S,hb⟩
 ·omega
 ·rw[Nat.sub_self,List.drop_length] at o;have L:gr s.length s=some D:=by rw[o];simp[gr]
  unfold un;rw[AF E,AF A,L];simp only;rw[hb,<-M rfl S];by_cases J:last=1 <;> by_cases K:ahead=255 <;> simp[J,K]
end Cob
namespace Cob
def Rd(l:L8)(a:Nat)(ys:L8)(la ah:Nat):Prop :=
 ∃last ahead xs,Reading l a last ahead xs∧la=last-1∧ah=ahead-1∧(a<l.length->ys=xs)∧(a=l.length->0<last∧ys=xs++if la<254 then [0] else [])
theorem rd_start(h:l≠[]):Rd l 0 [] 0 0 :=
 ⟨0,0,[],reading_start l,rfl,rfl,fun _=>rfl,fun o=>absurd (List.eq_nil_of_length_eq_zero o.symm) h⟩
theorem rd_le(h:Rd l a ys la ah):ys.length<=a+1∧la<=254:=by
 obtain⟨last,ahead,xs,o,E,J,A,D⟩:=h;have K:=o.1;have M:=o.2.1;have L:=o.2.2.1;refine⟨?_,by omega⟩;rcases Nat.lt_or_ge a l.length with y | y
 ·rw[A y];omega
 ·rw[(D (by omega)).2,AH];split <;> simp <;> omega
theorem rd_short(A:Nz l)(h:Rd l a ys la ah)(y:a<l.length)(D:l.length-a<l[a].toNat):un l=(30,[]):=by
 obtain⟨last,ahead,xs,o,-⟩:=h;exact reading_short A o y (by omega)
theorem rd_next(h:Rd l a ys la ah)(y:a<l.length)(k:Nat)(L:l[a].toNat=k+1)(M:a+k+1<=l.length):
  Rd l (a+k+1) (ys++(l.drop (a+1)).take k++if k<254 then [0] else []) k la:=by
 obtain⟨last,ahead,xs,D,E,S,A,V⟩:=h;have J:=reading_next D y k L M;refine⟨k+1,last,_,J,rfl,E,fun Q=>?_,fun X=>⟨by omega,?_⟩⟩
 ·rw[A y];by_cases o:k<254
  ·rw[AG o,AG ⟨o,Q⟩]
  ·rw[AF o,AF (fun K=>o K.1)]
 ·rw[A y,AF (show ¬(k<254∧a+k+1<l.length) by omega),Az]
theorem rd_end(J:Nz l)(E:l≠[])(h:Rd l l.length ys la ah):
  ∃xs,(ys=xs++if la<254 then [0] else [])∧un l=if ah=254∧la=0 then (5,[]) else (0,xs):=by
 obtain⟨last,ahead,xs,y,K,L,M,A⟩:=h;obtain⟨Q,D⟩:=A rfl;refine⟨xs,D,?_⟩;rw[reading_end J E y];by_cases o:last=1∧ahead=255
 ·rw[AG o,AG (by omega)]
 ·rw[AF o,AF (by omega)]
theorem un_zero(h:(0:UInt8)∈l):un l=(40,[]):=by unfold un;rw[AG h]
theorem un_none:un []=(30,[]):=rfl
end Cob
namespace Crc
def poly:Nat:=3988292384
def full:Nat:=4294967295
def step(r:Nat):Nat:=if r % 2=1 then r / 2 ^^^ poly else r / 2
def steps:Nat->Nat->Nat
 |0,r=>r
 |n+1,r=>steps n (step r)
def byte(r c:Nat):Nat:=steps 8 (r ^^^ c)
def take(r:Nat):L8->Nat
 | []=>r
 |c::l=>take (byte r c.toNat) l
def update(s:Nat)(l:L8):Nat:=take (s ^^^ full) l ^^^ full
def sum(l:L8):Nat:=update 0 l
theorem poly_lt:poly<4294967296:=by decide
theorem xor_half(a b:Nat):(a ^^^ b) / 2=a / 2 ^^^ b / 2:=by
 have:=Nat.shiftRight_xor_distrib (a:=a) (b:=b) (i:=1);simpa[Nat.shiftRight_eq_div_pow] using this
theorem step_xor(a b:Nat):step (a ^^^ b)=step a ^^^ step b:=by
 unfold step;have h:=Nat.testBit_xor a b 0;simp only[Nat.testBit_zero] at h;rw[xor_half];by_cases o:a % 2=1 <;> by_cases hb:b % 2=1 <;> simp only[o,hb,decide_true,decide_false,Bool.xor_true,Bool.xor_false,Bool.not_true,Bool.not_false,decide_eq_true_eq,decide_eq_false_iff_not] at h
 ·rw[AF h,AG o,AG hb];rw[Nat.xor_comm (b / 2) poly,Nat.xor_assoc,<-Nat.xor_assoc poly poly,Nat.xor_self,Nat.zero_xor]
 ·rw[AG h,AG o,AF hb];rw[Nat.xor_assoc,Nat.xor_assoc,Nat.xor_comm (b / 2) poly]
 ·rw[AG h,AF o,AG hb,Nat.xor_assoc]
 ·rw[AF h,AF o,AF hb]
theorem steps_xor(n:Nat):∀a b,steps n (a ^^^ b)=steps n a ^^^ steps n b:=by
 induction n with
 |zero=>intro a b;rfl
 |succ n ih=>intro a b;simp only[steps];rw[step_xor,ih]
theorem steps_add(m n r:Nat):steps (m+n) r=steps n (steps m r):=by
 induction m generalizing r with
 |zero=>simp[steps]
 |succ m ih=>rw[show m+1+n=(m+n)+1 by omega];simp only[steps];exact ih _
theorem step_double(r:Nat):step (2*r)=r:=by
 unfold step;rw[AF (by omega)];omega
theorem steps_pow(n r:Nat):steps n (2 ^ n*r)=r:=by
 induction n generalizing r with
 |zero=>simp[steps]
 |succ n ih=>
  simp only[steps];rw[show 2 ^ (n+1)*r=2*(2 ^ n*r) by rw[Nat.pow_succ,Nat.mul_comm (2 ^ n) 2,Nat.mul_assoc],step_double,ih]
theorem step_lt(h:r<4294967296):step r<4294967296:=by
 unfold step;split
 ·exact Nat.xor_lt_two_pow (n:=32) (by omega) poly_lt
 ·omega
theorem steps_lt(n:Nat){r:Nat}(h:r<4294967296):steps n r<4294967296:=by
 induction n generalizing r with
 |zero=>exact h
 |succ n ih=>exact ih (step_lt h)
def num:L8->Nat
 | []=>0
 |c::l=>c.toNat+256*num l
theorem add_xor_pow(k c m:Nat)(h:c<2 ^ k):c+2 ^ k*m=c ^^^ 2 ^ k*m:=by
 have y:=Nat.two_pow_add_eq_or_of_lt (i:=k) (b:=c) h m;rw[Nat.add_comm,y];apply Nat.eq_of_testBit_eq;intro i;rw[Nat.testBit_or,Nat.testBit_xor];by_cases A:i<k
 ·have o:(2 ^ k*m).testBit i=false:=by
   rw[Nat.testBit_two_pow_mul];simp;omega
  rw[o];simp
 ·have o:c.testBit i=false:=by
   apply Nat.testBit_lt_two_pow;exact AS h (Nat.pow_le_pow_right (by omega) (by omega))
  rw[o];simp
theorem add_xor16(c m:Nat)(h:c<16):c+16*m=c ^^^ 16*m:=add_xor_pow 4 c m h
theorem take_append(a b:L8):∀r,take r (a++b)=take (take r a) b:=by
 induction a with
 |nil=>intro r;rfl
 |cons c a ih=>intro r;exact ih _
theorem flip_flip(s:Nat):s ^^^ full ^^^ full=s:=by rw[Nat.xor_assoc,Nat.xor_self,Nat.xor_zero]
theorem update_nil(s:Nat):update s []=s:=flip_flip s
theorem byte_lt{c:Nat}(o:r<4294967296)(y:c<256):byte r c<4294967296 :=
 steps_lt 8 (Nat.xor_lt_two_pow (n:=32) o (by omega))
theorem take_lt(l:L8):∀{r:Nat},r<4294967296->take r l<4294967296:=by
 induction l with
 |nil=>intro r h;exact h
 |cons c l ih=>intro r h;exact ih (byte_lt h c.toNat_lt)
theorem update_lt{s:Nat}(h:s<4294967296)(l:L8):update s l<4294967296 :=
 Nat.xor_lt_two_pow (n:=32) (take_lt l (Nat.xor_lt_two_pow (n:=32) h (by decide))) (by decide)
theorem nibble(r:Nat):steps 4 r=r / 16 ^^^ steps 4 (r % 16):=by
 have h:r=r % 16 ^^^ 16*(r / 16):=by
  have:=add_xor16 (r % 16) (r / 16) (Nat.mod_lt _ (by omega));rw[<-this];omega
 have e:steps 4 (16*(r / 16))=r / 16:=steps_pow 4 (r / 16)
 calc steps 4 r=steps 4 (r % 16 ^^^ 16*(r / 16)):=by rw[<-h]
  _=r / 16 ^^^ steps 4 (r % 16):=by rw[steps_xor,e,Nat.xor_comm]
def words:List Nat:=(List.range 16).map (steps 4)
theorem byte_nibbles(r:Nat):steps 8 r=steps 4 (steps 4 r):=steps_add 4 4 r
theorem take_snoc(r:Nat)(l:L8)(c:UInt8):take r (l++[c])=byte (take r l) c.toNat:=take_append l [c] r
end Crc
section
open Go.RowKit
end
section
open Go.RowKit
theorem un_zero{i:Nat}(o:i<l.length)(h:l[i]=0):Cob.un l=(40,[]):=by
 unfold Cob.un;rw[AG];rw[<-h];exact Aw o
end
section
open Go.RowKit
theorem uX(w:World)(C:AV)(l:L8)(h:C=(cellsOf l).toArray):At (w.alloc (.cells C 5)) (some ⟨w.1.size,0,none⟩) l:=by
 refine .inr ⟨_,_,rfl,by simp,fun j o=>?_⟩;subst h;have:=rx w l #[] 5 j o;rw[Array.append_empty] at this;exact this
end
end Go.Proofs.YtngmnfdaedlodaaGreatDoor
