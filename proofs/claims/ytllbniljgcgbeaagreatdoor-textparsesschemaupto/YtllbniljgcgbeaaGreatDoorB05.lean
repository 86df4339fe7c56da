import Derived.Test.YtllbniljgcgbeaaGreatDoorB04
namespace Go.Proofs.YtllbniljgcgbeaaGreatDoor
section
namespace Tx
abbrev Bs:=L8
def dig(c:UInt8):Bool:=decide (48<=c.toNat∧c.toNat<=57)
def iset(c:UInt8):Bool:=dig c||decide (c=45)
def fset(c:UInt8):Bool:=Sch.low c||dig c||decide (c=45)
def word(k:Int):Bs:=if k=1 then [98,111,111,108] else if k=2 then [105,110,116] else if k=3 then [102,108,111,97,116] else if k=4 then [116,101,120,116] else if k=5 then [98,121,116,101,115] else if k=6 then [111,112,116] else if k=7 then [108,105,115,116] else []
def kindOf(l:Bs):Int:=if l=[98,111,111,108] then 1 else if l=[105,110,116] then 2 else if l=[102,108,111,97,116] then 3 else if l=[116,101,120,116] then 4 else if l=[98,121,116,101,115] then 5 else if l=[111,112,116] then 6 else if l=[108,105,115,116] then 7 else 0
def ty(t:Ty):Bs:=match t with
 |.mk k xs=>word k++(match xs.map ty with
  | []=>[]
  |y::_=>40::(y++[41]))
theorem ty_mk(k:Int)(xs:List Ty):ty (.mk k xs)=word k++(match xs.map ty with
  | []=>[]
  |y::_=>40::(y++[41])):=by rw[ty]
def hexd(n:Nat):UInt8:=if n<10 then UInt8.ofNat (48+n) else UInt8.ofNat (87+n)
def half(c:UInt8):Nat:=if dig c then c.toNat-48 else if 97<=c.toNat∧c.toNat<=102 then c.toNat-87 else 16
def esc(q c:UInt8):Bs:=if c=q∨c=92 then [92,c] else if 32<=c.toNat∧c.toNat<=126 then [c] else [92,120,hexd (c.toNat / 16),hexd (c.toNat % 16)]
def quo(q:UInt8)(l:Bs):Bs:=q::((l.map (esc q)).flatten++[q])
def join:List Bs->Bs
 | []=>[]
 | [x]=>x
 |x::y::r=>x++44::32::join (y::r)
def val(tx:Nat->Bs)(v:V):Bs:=match v with
 |.mk k i b t xs=>if k=1 then (if i=1 then [116,114,117,101] else [102,97,108,115,101]) else if k=2 then Lib.itoa i else if k=3 then 126::tx b else if k=4 then quo 34 t.data.toList else if k=5 then quo 39 t.data.toList
  else if k=6 then (match xs.map (val tx) with
   | []=>[110,111,110,101]
   |y::_=>[115,111,109,101,40]++(y++[41]))
  else 91::(join (xs.map (val tx))++[93])
theorem val_mk(tx:Nat->Bs)(k i:Int)(b:Nat)(t:ByteArray)(xs:List V):val tx (.mk k i b t xs)=if k=1 then (if i=1 then [116,114,117,101] else [102,97,108,115,101]) else if k=2 then Lib.itoa i else if k=3 then 126::tx b else if k=4 then quo 34 t.data.toList else if k=5 then quo 39 t.data.toList
  else if k=6 then (match xs.map (val tx) with
   | []=>[110,111,110,101]
   |y::_=>[115,111,109,101,40]++(y++[41]))
  else 91::(join (xs.map (val tx))++[93]):=by rw[val]
def row(tx:Nat->Bs)(vs:List V):Bs:=join (vs.map (val tx))
def col(tx:Nat->Bs)(c:Col):Bs:=c.name.data.toList++32::(ty c.ty++(if c.has then 32::61::32::val tx c.dflt else []))
def sch(tx:Nat->Bs)(s:List Col):Bs:=join (s.map (col tx))
abbrev R(α:Type):=Except (Nat×Nat) α
def must:Bs->Bs->R Bs
 | [],l=>.ok l
 |_::_,[]=>.error (5,0)
 |c::s,d::l=>if d=c then must s l else .error (5,l.length+1)
def pty:Nat->Bs->R (Ty×Bs)
 |0,l=>.error (62,l.length)
 |f+1,l=>
  if kindOf (l.takeWhile Sch.low)=0 then .error (5,l.length)
  else if kindOf (l.takeWhile Sch.low)<6 then .ok (⟨kindOf (l.takeWhile Sch.low),[]⟩,l.dropWhile Sch.low)
  else match must [40] (l.dropWhile Sch.low) with
   |.error e=>.error e
   |.ok r=>match pty f r with
    |.error e=>.error e
    |.ok (t,r)=>match must [41] r with
     |.error e=>.error e
     |.ok r=>.ok (⟨kindOf (l.takeWhile Sch.low),[t]⟩,r)
def unum(l:Bs):Nat:=l.foldl (fun n c=>n*10+(c.toNat-48)) 0
def rdI(w:Bs):Int:=if w.head?=some 45 then -(unum w.tail:Int) else unum w
def num(w:Bs):Option Int:=if (-9223372036854775808<=rdI w∧rdI w<=9223372036854775807)∧Lib.itoa (rdI w)=w then some (rdI w) else none
def pq(q:UInt8):Bs->R (Bs×Bs)
 | []=>.error (5,0)
 |c::r=>if c=q then .ok ([],r) else if c.toNat<32∨126<c.toNat then .error (5,r.length+1)
  else if c≠92 then (match pq q r with
   |.error e=>.error e
   |.ok (x,s)=>.ok (c::x,s))
  else match r with
   | []=>.error (5,1)
   |d::r1=>if d=q∨d=92 then (match pq q r1 with
     |.error e=>.error e
     |.ok (x,s)=>.ok (d::x,s))
    else match r1 with
     |a::b::r2=>if d=120∧half a<16∧half b<16∧¬(32<=16*half a+half b∧16*half a+half b<=126) then (match pq q r2 with
       |.error e=>.error e
       |.ok (x,s)=>.ok (UInt8.ofNat (16*half a+half b)::x,s))
      else .error (5,r2.length+4)
     |r1=>.error (5,r1.length+2)
def pits(p:Bs->R (V×Bs)):Nat->Bs->R (List V×Bs)
 |0,_=>.error (0,0)
 |n+1,l=>match p l with
  |.error e=>.error e
  |.ok (x,r)=>if r.head?=some 93 then .ok ([x],r) else match must [44,32] r with
   |.error e=>.error e
   |.ok r=>match pits p n r with
    |.error e=>.error e
    |.ok (xs,r)=>.ok (x::xs,r)
def pseq{α:Type}(p:Bs->R (α×Bs)):Nat->Bs->R (List α×Bs)
 |0,_=>.error (0,0)
 |n+1,l=>match p l with
  |.error e=>.error e
  |.ok (x,r)=>if r.head?=some 44 then (match must [44,32] r with
   |.error e=>.error e
   |.ok r=>match pseq p n r with
    |.error e=>.error e
    |.ok (xs,r)=>.ok (x::xs,r)) else .ok ([x],r)
def pval(rf:Bs->Option Nat):Nat->Bs->R (V×Bs)
 |0,l=>.error (62,l.length)
 |_+1,[]=>.error (5,0)
 |f+1,c::t=>
  if Sch.low c then
   (if (c::t).takeWhile Sch.low=[116,114,117,101] then .ok (⟨1,1,0,⟨#[]⟩,[]⟩,(c::t).dropWhile Sch.low)
   else if (c::t).takeWhile Sch.low=[102,97,108,115,101] then .ok (⟨1,0,0,⟨#[]⟩,[]⟩,(c::t).dropWhile Sch.low)
   else if (c::t).takeWhile Sch.low=[110,111,110,101] then .ok (⟨6,0,0,⟨#[]⟩,[]⟩,(c::t).dropWhile Sch.low)
   else if (c::t).takeWhile Sch.low=[115,111,109,101] then (match must [40] ((c::t).dropWhile Sch.low) with
    |.error e=>.error e
    |.ok r=>match pval rf f r with
     |.error e=>.error e
     |.ok (x,r)=>match must [41] r with
      |.error e=>.error e
      |.ok r=>.ok (⟨6,0,0,⟨#[]⟩,[x]⟩,r))
   else .error (5,t.length+1))
  else if iset c then (match num ((c::t).takeWhile iset) with
   |none=>.error (5,t.length+1)
   |some n=>.ok (⟨2,n,0,⟨#[]⟩,[]⟩,(c::t).dropWhile iset))
  else if c=126 then (match rf (t.takeWhile fset) with
   |none=>.error (5,t.length)
   |some b=>.ok (⟨3,0,b,⟨#[]⟩,[]⟩,t.dropWhile fset))
  else if c=34 then (match pq 34 t with
   |.error e=>.error e
   |.ok (x,r)=>.ok (⟨4,0,0,⟨x.toArray⟩,[]⟩,r))
  else if c=39 then (match pq 39 t with
   |.error e=>.error e
   |.ok (x,r)=>.ok (⟨5,0,0,⟨x.toArray⟩,[]⟩,r))
  else if c=91 then (if t.head?=some 93 then .ok (⟨7,0,0,⟨#[]⟩,[]⟩,t.tail) else match pits (pval rf f) (t.length+1) t with
   |.error e=>.error e
   |.ok (xs,r)=>match must [93] r with
    |.error e=>.error e
    |.ok r=>.ok (⟨7,0,0,⟨#[]⟩,xs⟩,r))
  else .error (5,t.length+1)
def pcol(rf:Bs->Option Nat)(l:Bs):R (Col×Bs) :=
 if l.takeWhile Sch.ch=[] then .error (5,l.length) else match must [32] (l.dropWhile Sch.ch) with
  |.error e=>.error e
  |.ok r=>match pty 4 r with
   |.error e=>.error e
   |.ok (t,r)=>if r.head?=some 32 then (match must [32,61,32] r with
    |.error e=>.error e
    |.ok r=>match pval rf 4 r with
     |.error e=>.error e
     |.ok (v,r)=>.ok (⟨⟨(l.takeWhile Sch.ch).toArray⟩,t,true,v⟩,r)) else .ok (⟨⟨(l.takeWhile Sch.ch).toArray⟩,t,false,V0⟩,r)
def whole{α:Type}(x:R (α×Bs)):R α:=match x with
 |.error e=>.error e
 |.ok (x,[])=>.ok x
 |.ok (_,c::r)=>.error (5,(c::r).length)
def type(l:Bs):R Ty:=whole (pty 4 l)
def value(rf:Bs->Option Nat)(l:Bs):R V:=whole (pval rf 4 l)
def schema(rf:Bs->Option Nat)(l:Bs):R (List Col):=whole (pseq (pcol rf) (l.length+1) l)
def rows(rf:Bs->Option Nat)(l:Bs):R (List V):=if l=[] then .ok [] else whole (pseq (pval rf 4) (l.length+1) l)
structure FOk(tx:Nat->Bs)(rf:Bs->Option Nat):Prop where
 back:∀z,z<18446744073709551616->rf (tx z)=some (ak z)
 fore:∀l b,rf l=some b->tx b=l∧ak b=b∧b<18446744073709551616
 set:∀z,∀c∈tx z,fset c=true
 fix:∀z,tx (ak z)=tx z
end Tx
end
section
namespace Tx
theorem span(p:UInt8->Bool):∀(w r:Bs),(∀c∈w,p c=true)->(∀c,r.head?=some c->p c=false)->(w++r).takeWhile p=w∧(w++r).dropWhile p=r
 | [],[],_,_=>⟨rfl,rfl⟩
 | [],c::r,_,h=>by
  have:=h c rfl
  simp[this]
 |c::w,r,hw,hr=>by
  have h1:=hw c List.mem_cons_self
  obtain⟨h2,h3⟩:=span p w r (fun d hd=>hw d (List.mem_cons_of_mem _ hd)) hr
  simp[h1,h2,h3]
def Stop(r:Bs):Prop:=∀c,r.head?=some c->c=44∨c=41∨c=93∨c=32
theorem Stop.nil:Stop []:=fun c h=>by cases h
theorem Stop.of{c:UInt8}{r:Bs}(h:c=44∨c=41∨c=93∨c=32):Stop (c::r):=fun d hd=>by
 simp only[List.head?_cons,Option.some.injEq] at hd
 rw[<-hd];exact h
theorem Stop.out{r:Bs}(h:Stop r)(p:UInt8->Bool)(hp:p 44=false∧p 41=false∧p 93=false∧p 32=false):∀c,r.head?=some c->p c=false:=fun c hc=>by
 rcases h c hc with rfl | rfl | rfl | rfl
 ·exact hp.1
 ·exact hp.2.1
 ·exact hp.2.2.1
 ·exact hp.2.2.2
theorem word_low(k:Int):∀c∈word k,Sch.low c=true:=by
 unfold word
 intro c hc
 repeat' split at hc
 all_goals (simp only[List.mem_cons,List.not_mem_nil,or_false] at hc)
 all_goals (rcases hc with rfl | rfl | rfl | rfl | rfl <;> decide)
theorem word_cases{k:Int}(h:1<=k∧k<=7):k=1∨k=2∨k=3∨k=4∨k=5∨k=6∨k=7:=by omega
theorem kind_word{k:Int}(h:1<=k∧k<=7):kindOf (word k)=k:=by
 rcases word_cases h with rfl | rfl | rfl | rfl | rfl | rfl | rfl <;> decide
theorem word_kind{l:Bs}(h:kindOf l≠0):l=word (kindOf l)∧1<=kindOf l∧kindOf l<=7:=by
 unfold kindOf at h ⊢
 repeat' split
 all_goals first
  | (rename_i h1;exact⟨h1,by decide,by decide⟩)
  | (simp_all)
theorem must_self:∀(s r:Bs),must s (s++r)=.ok r
 | [],_=>rfl
 |c::s,r=>by
  show(if c=c then must s (s++r) else _)=_
  rw[if_pos rfl,must_self s r]
theorem must_ok:∀(s l r:Bs),must s l=.ok r->l=s++r
 | [],l,r,h=>by
  unfold must at h
  injection h
 |_::_,[],_,h=>by unfold must at h;cases h
 |c::s,d::l,r,h=>by
  unfold must at h
  by_cases hc:d=c
  ·rw[if_pos hc] at h
   rw[hc,must_ok s l r h]
   rfl
  ·rw[if_neg hc] at h;cases h
theorem ty_leaf(k:Int):ty (.mk k [])=word k:=by rw[ty_mk];simp
theorem ty_one(k:Int)(x:Ty):ty (.mk k [x])=word k++(40::(ty x++[41])):=by rw[ty_mk];simp
theorem pty_word{f:Nat}{k:Int}(hk:1<=k∧k<=7)(r:Bs)(hr:∀c,r.head?=some c->Sch.low c=false):pty (f+1) (word k++r)=if k<6 then .ok (⟨k,[]⟩,r) else match must [40] r with
   |.error e=>.error e
   |.ok r=>match pty f r with
    |.error e=>.error e
    |.ok (t,r)=>match must [41] r with
     |.error e=>.error e
     |.ok r=>.ok (⟨k,[t]⟩,r):=by
 obtain⟨h1,h2⟩:=span Sch.low (word k) r (word_low k) hr
 rw[pty,h1,h2,kind_word hk,if_neg (by omega)]
 try rfl
theorem pty_back:∀(t:Ty) (f:Nat) (r:Bs),f<=4->Ty.check (5-f) t=0->Stop r->pty f (ty t++r)=.ok (t,r):=by
 intro t
 refine Ty.ind (P:=fun t=>∀(f:Nat) (r:Bs),f<=4->Ty.check (5-f) t=0->Stop r->pty f (ty t++r)=.ok (t,r)) ?_ t
 intro k xs ih f r hf hc hr
 rw[Ty.check_mk] at hc
 match f,hf with
 |0,_=>simp at hc
 |f+1,hf=>
  rw[if_neg (by omega)] at hc
  by_cases hk:k<1∨7<k∨xs.length≠Ty.want k
  ·rw[if_pos hk] at hc;cases hc
  rw[if_neg hk] at hc
  have hk7:1<=k∧k<=7:=by omega
  have hlen:xs.length=Ty.want k:=by
   by_cases h:xs.length=Ty.want k
   ·exact h
   ·exact absurd (.inr (.inr h)) hk
  unfold Ty.want at hlen
  by_cases h6:k=6∨k=7
  ·rw[if_pos h6] at hlen
   match xs,hlen with
   | [x],_=>
    have hx:Ty.check (5-f) x=0:=by
     have e:5-(f+1)+1=5-f:=by omega
     rw[e] at hc
     simp only[List.map_cons,List.map_nil,V.first] at hc
     by_cases h:Ty.check (5-f) x=0
     ·exact h
     ·rw[if_neg h] at hc;exact absurd hc h
    have h1:=ih x List.mem_cons_self f (41::r) (by omega) hx (.of (by decide))
    rw[ty_one,List.append_assoc,pty_word hk7 _ (fun c hc=>by simp at hc;rw[<-hc];decide),if_neg (by omega)]
    have e2:(40::(ty x++[41]))++r=[40]++(ty x++(41::r)):=by simp
    rw[e2,must_self]
    simp only[h1]
    have e3:(41::r:Bs)=[41]++r:=rfl
    rw[e3,must_self]
  ·rw[if_neg h6] at hlen
   obtain rfl:=List.eq_nil_of_length_eq_zero hlen
   rw[ty_leaf,pty_word hk7 r (hr.out _ (by decide)),if_pos (by omega)]
theorem pty_fore:∀(f:Nat) (l:Bs) (t:Ty) (r:Bs),pty f l=.ok (t,r)->l=ty t++r∧(f<=4->Ty.check (5-f) t=0)
 |0,l,t,r,h=>by unfold pty at h;cases h
 |f+1,l,t,r,h=>by
  unfold pty at h
  by_cases hk:kindOf (l.takeWhile Sch.low)=0
  ·rw[if_pos hk] at h;cases h
  rw[if_neg hk] at h
  obtain⟨h1,h2,h3⟩:=word_kind hk
  have hl:l=l.takeWhile Sch.low++l.dropWhile Sch.low:=List.takeWhile_append_dropWhile.symm
  generalize hkk:kindOf (l.takeWhile Sch.low)=k at *
  rw[h1] at hl
  generalize l.dropWhile Sch.low=s at *
  by_cases h6:k<6
  ·rw[if_pos h6] at h
   injection h with h
   injection h with e1 e2
   subst e1 e2
   refine⟨by rw[ty_leaf];exact hl,fun hf=>?_⟩
   exact Ty.check_leaf _ _ (by omega) (by omega) (by unfold Ty.want;rw[if_neg (by omega)])
  ·rw[if_neg h6] at h
   cases hm:must [40] s with
   |error e=>rw[hm] at h;cases h
   |ok s1=>
    rw[hm] at h
    simp only at h
    cases hp:pty f s1 with
    |error e=>rw[hp] at h;cases h
    |ok q=>
     obtain⟨x,s2⟩:=q
     rw[hp] at h
     simp only at h
     cases hm2:must [41] s2 with
     |error e=>rw[hm2] at h;cases h
     |ok s3=>
      rw[hm2] at h
      simp only at h
      injection h with h
      injection h with e1 e2
      subst e1 e2
      obtain⟨g1,g2⟩:=pty_fore f s1 x s2 hp
      refine⟨?_,fun hf=>?_⟩
      ·rw[ty_one,hl,must_ok _ _ _ hm,g1,must_ok _ _ _ hm2]
       simp
      ·rw[Ty.check_one _ _ _ (by omega) (by omega) (by unfold Ty.want;rw[if_pos (by omega)])]
       have:=g2 (by omega)
       rw[show 5-(f+1)+1=5-f by omega]
       exact this
end Tx
end
section
namespace Tx
theorem dig_of(d:Nat)(h:d<10):(UInt8.ofNat (48+d)).toNat=48+d:=by
 have h1:∀m:Fin 10,(UInt8.ofNat (48+m.val)).toNat=48+m.val:=by decide
 exact h1 ⟨d,h⟩
theorem dec_dig(u:Nat):∀c∈Lib.decDigits u,dig c=true:=by
 induction u using Nat.strongRecOn with
 |ind u ih=>
  rw[Lib.decDigits]
  by_cases h:u<10
  ·rw[dif_pos h]
   intro c hc
   rw[List.mem_singleton] at hc
   rw[hc];unfold dig;rw[dig_of u h];exact decide_eq_true (by omega)
  ·rw[dif_neg h]
   intro c hc
   rcases List.mem_append.1 hc with hc | hc
   ·exact ih (u / 10) (by omega) c hc
   ·rw[List.mem_singleton] at hc
    rw[hc];unfold dig;rw[dig_of (u % 10) (by omega)];exact decide_eq_true (by omega)
theorem dec_ne(u:Nat):Lib.decDigits u≠[]:=by
 rw[Lib.decDigits]
 by_cases h:u<10
 ·rw[dif_pos h];simp
 ·rw[dif_neg h];simp
theorem unum_dec(u:Nat):unum (Lib.decDigits u)=u:=by
 induction u using Nat.strongRecOn with
 |ind u ih=>
  rw[Lib.decDigits]
  by_cases h:u<10
  ·rw[dif_pos h]
   unfold unum
   simp only[List.foldl_cons,List.foldl_nil,dig_of u h]
   omega
  ·rw[dif_neg h]
   have:=ih (u / 10) (by omega)
   unfold unum at this ⊢
   rw[List.foldl_append,this]
   simp only[List.foldl_cons,List.foldl_nil,dig_of (u % 10) (by omega)]
   omega
theorem dig_ne45{c:UInt8}(h:dig c=true):c≠45:=fun hc=>by rw[hc] at h;exact absurd h (by decide)
theorem rdI_itoa(n:Int):rdI (Lib.itoa n)=n:=by
 unfold Lib.itoa
 by_cases h:n<0
 ·rw[if_pos h]
  unfold rdI
  rw[if_pos (by rfl)]
  simp only[List.tail_cons,unum_dec]
  omega
 ·rw[if_neg h]
  unfold rdI
  rw[if_neg,unum_dec]
  ·omega
  ·cases hd:Lib.decDigits n.toNat with
   |nil=>exact absurd hd (dec_ne _)
   |cons c r=>
    have:=dec_dig n.toNat c (by rw[hd];exact List.mem_cons_self)
    intro hc
    simp only[List.head?_cons,Option.some.injEq] at hc
    exact dig_ne45 this hc
theorem num_itoa{n:Int}(h:-9223372036854775808<=n∧n<=9223372036854775807):num (Lib.itoa n)=some n:=by
 unfold num
 rw[rdI_itoa,if_pos ⟨h,rfl⟩]
theorem num_some{w:Bs}{n:Int}(h:num w=some n):Lib.itoa n=w∧(-9223372036854775808<=n∧n<=9223372036854775807):=by
 unfold num at h
 by_cases hc:(-9223372036854775808<=rdI w∧rdI w<=9223372036854775807)∧Lib.itoa (rdI w)=w
 ·rw[if_pos hc] at h
  injection h with h
  rw[<-h]
  exact⟨hc.2,hc.1⟩
 ·rw[if_neg hc] at h;cases h
theorem itoa_set(n:Int):∀c∈Lib.itoa n,iset c=true:=by
 intro c hc
 unfold Lib.itoa at hc
 unfold iset
 by_cases h:n<0
 ·rw[if_pos h] at hc
  rcases List.mem_cons.1 hc with rfl | hc
  ·decide
  ·rw[dec_dig _ c hc];rfl
 ·rw[if_neg h] at hc
  rw[dec_dig _ c hc];rfl
theorem itoa_ne(n:Int):∃c r,Lib.itoa n=c::r:=by
 unfold Lib.itoa
 by_cases h:n<0
 ·rw[if_pos h];exact⟨_,_,rfl⟩
 ·rw[if_neg h]
  cases hd:Lib.decDigits n.toNat with
  |nil=>exact absurd hd (dec_ne _)
  |cons c r=>exact⟨c,r,rfl⟩
theorem iset_low{c:UInt8}(h:iset c=true):Sch.low c=false:=by
 unfold iset dig at h
 unfold Sch.low
 simp only[Bool.or_eq_true,decide_eq_true_eq] at h
 rcases h with h | h
 ·exact decide_eq_false (by omega)
 ·rw[h];decide
theorem half_hexd{n:Nat}(h:n<16):half (hexd n)=n:=by
 have h1:∀m:Fin 16,half (hexd m.val)=m.val:=by decide
 exact h1 ⟨n,h⟩
theorem hexd_half{c:UInt8}(h:half c<16):hexd (half c)=c:=by
 have h1:∀m:Fin 256,half (UInt8.ofNat m.val)<16->hexd (half (UInt8.ofNat m.val))=UInt8.ofNat m.val:=by decide +kernel
 have e:UInt8.ofNat c.toNat=c:=by simp
 have:=h1 ⟨c.toNat,UInt8.toNat_lt c⟩
 simp only[e] at this
 exact this h
theorem pq_back(q:UInt8)(hq:q=34∨q=39):∀(l r:Bs),pq q ((l.map (esc q)).flatten++q::r)=.ok (l,r)
 | [],r=>by
  rw[List.map_nil,List.flatten_nil,List.nil_append,pq.eq_def]
  simp only[if_true]
 |c::l,r=>by
  have ih:=pq_back q hq l r
  rw[List.map_cons,List.flatten_cons,List.append_assoc]
  have q92:(92:UInt8)≠q:=by rcases hq with rfl | rfl <;> decide
  have q120:(120:UInt8)≠q:=by rcases hq with rfl | rfl <;> decide
  generalize hs:(l.map (esc q)).flatten++q::r=s at ih ⊢
  unfold esc
  by_cases h1:c=q∨c=92
  ·rw[if_pos h1]
   show pq q (92::c::s)=_
   rw[pq.eq_def]
   simp only[if_neg q92]
   rw[if_neg (by decide),if_neg (by decide)]
   simp only[if_pos h1,ih]
  ·rw[if_neg h1]
   have hcq:c≠q:=fun h=>h1 (.inl h)
   have hc9:c≠92:=fun h=>h1 (.inr h)
   by_cases h2:32<=c.toNat∧c.toNat<=126
   ·rw[if_pos h2]
    show pq q (c::s)=_
    rw[pq.eq_def]
    simp only[if_neg hcq]
    rw[if_neg (by omega),if_pos hc9]
    simp only[ih]
   ·rw[if_neg h2]
    show pq q (92::120::hexd (c.toNat / 16)::hexd (c.toNat % 16)::s)=_
    have hc:=UInt8.toNat_lt c
    have e1:=half_hexd (n:=c.toNat / 16) (by omega)
    have e2:=half_hexd (n:=c.toNat % 16) (by omega)
    have e3:16*(c.toNat / 16)+c.toNat % 16=c.toNat:=by omega
    rw[pq.eq_def]
    simp only[if_neg q92]
    rw[if_neg (by decide),if_neg (by decide)]
    have h120:¬((120:UInt8)=q∨(120:UInt8)=92):=fun h=>h.elim q120 (by decide)
    simp only[if_neg h120,e1,e2,e3]
    rw[if_pos ⟨trivial,by omega,by omega,h2⟩]
    simp only[ih]
    simp
theorem pq_fore(q:UInt8)(hq:q=34∨q=39):∀(l x r:Bs),pq q l=.ok (x,r)->l=(x.map (esc q)).flatten++q::r
 | [],x,r,h=>by rw[pq] at h;cases h
 |c::l,x,r,h=>by
  rw[pq.eq_def] at h
  simp only at h
  by_cases h1:c=q
  ·rw[if_pos h1] at h
   injection h with h
   injection h with e1 e2
   subst e1 e2
   rw[h1];rfl
  rw[if_neg h1] at h
  by_cases h2:c.toNat<32∨126<c.toNat
  ·rw[if_pos h2] at h;cases h
  rw[if_neg h2] at h
  by_cases h3:c≠92
  ·rw[if_pos h3] at h
   cases hp:pq q l with
   |error e=>rw[hp] at h;cases h
   |ok z=>
    obtain⟨y,s⟩:=z
    rw[hp] at h
    simp only at h
    injection h with h
    injection h with e1 e2
    subst e1 e2
    have:=pq_fore q hq l y s hp
    rw[List.map_cons,List.flatten_cons,List.append_assoc,<-this]
    unfold esc
    rw[if_neg (fun hc=>hc.elim h1 h3),if_pos (by omega)]
    rfl
  rw[if_neg h3] at h
  have hc92:c=92:=by simpa using h3
  match l,h with
  | [],h=>cases h
  |d::l1,h=>
   simp only at h
   by_cases h4:d=q∨d=92
   ·rw[if_pos h4] at h
    cases hp:pq q l1 with
    |error e=>rw[hp] at h;cases h
    |ok z=>
     obtain⟨y,s⟩:=z
     rw[hp] at h
     simp only at h
     injection h with h
     injection h with e1 e2
     subst e1 e2
     have:=pq_fore q hq l1 y s hp
     rw[List.map_cons,List.flatten_cons,List.append_assoc,<-this]
     unfold esc
     rw[if_pos h4,hc92]
     rfl
   rw[if_neg h4] at h
   match l1,h with
   | [],h=>cases h
   | [_],h=>cases h
   |a::b::l2,h=>
    simp only at h
    by_cases h5:d=120∧half a<16∧half b<16∧¬(32<=16*half a+half b∧16*half a+half b<=126)
    ·rw[if_pos h5] at h
     cases hp:pq q l2 with
     |error e=>rw[hp] at h;cases h
     |ok z=>
      obtain⟨y,s⟩:=z
      rw[hp] at h
      simp only at h
      injection h with h
      injection h with e1 e2
      subst e1 e2
      have:=pq_fore q hq l2 y s hp
      rw[List.map_cons,List.flatten_cons,List.append_assoc,<-this]
      obtain⟨g1,g2,g3,g4⟩:=h5
      have et:(UInt8.ofNat (16*half a+half b)).toNat=16*half a+half b:=by
       rw[UInt8.toNat_ofNat']
       omega
      have hne:¬(UInt8.ofNat (16*half a+half b)=q∨UInt8.ofNat (16*half a+half b)=92):=fun hc=>by
       have hn:16*half a+half b=34∨16*half a+half b=39∨16*half a+half b=92:=by
        rcases hc with hc | hc
        ·rcases hq with rfl | rfl
         ·have:=congrArg UInt8.toNat hc;rw[et] at this;exact .inl this
         ·have:=congrArg UInt8.toNat hc;rw[et] at this;exact .inr (.inl this)
        ·have:=congrArg UInt8.toNat hc;rw[et] at this;exact .inr (.inr this)
       omega
      unfold esc
      rw[if_neg hne,et,if_neg g4]
      have e1:(16*half a+half b) / 16=half a:=by omega
      have e2:(16*half a+half b) % 16=half b:=by omega
      rw[e1,e2,hexd_half g2,hexd_half g3,hc92,g1]
      rfl
    ·rw[if_neg h5] at h;cases h
end Tx
end
section
namespace Tx
theorem join_len:∀l:List Bs,l.length<=(join l).length+1
 | []=>by simp
 | [x]=>by simp
 |x::y::r=>by
  have:=join_len (y::r)
  simp only[join,List.length_append,List.length_cons] at this ⊢
  omega
theorem join_cons(x y:Bs)(r:List Bs):join (x::y::r)=x++44::32::join (y::r):=rfl
section
variable {tx:Nat->Bs} {rf:Bs->Option Nat}
theorem val_head:∀(v:V),chk 1 v=0∨(∃d,chk d v=0)->∃c r,val tx v=c::r∧c≠93
 |.mk k i b t xs,h=>by
  have ho:V.ownB k i b t xs.length=true:=by
   rcases h with h | ⟨d,h⟩
   ·exact(Sch.chk_open h).2.1
   ·exact(Sch.chk_open h).2.1
  have hk:=(Sch.own_open ho).1
  rw[val_mk]
  rcases word_cases hk with rfl | rfl | rfl | rfl | rfl | rfl | rfl
  ·rw[if_pos rfl]
   split
   ·exact⟨_,_,rfl,by decide⟩
   ·exact⟨_,_,rfl,by decide⟩
  ·rw[if_neg (by decide),if_pos rfl]
   obtain⟨c,r,e⟩:=itoa_ne i
   have:=itoa_set i c (by rw[e];exact List.mem_cons_self)
   exact⟨c,r,e,fun hc=>by rw[hc] at this;exact absurd this (by decide)⟩
  ·exact⟨126,_,by simp;rfl,by decide⟩
  ·exact⟨34,_,by simp[quo];rfl,by decide⟩
  ·exact⟨39,_,by simp[quo];rfl,by decide⟩
  ·simp only[show((6:Int)=1)=False by decide,show((6:Int)=2)=False by decide,show((6:Int)=3)=False by decide,show((6:Int)=4)=False by decide,show((6:Int)=5)=False by decide,if_false,if_true]
   split
   ·exact⟨_,_,rfl,by decide⟩
   ·exact⟨115,_,rfl,by decide⟩
  ·exact⟨91,_,by simp;rfl,by decide⟩
theorem pits_back{p:Bs->R (V×Bs)}:∀(xs:List V) (n:Nat) (r:Bs),xs≠[]->xs.length<=n->(∀x∈xs,∀r,Stop r->p (val tx x++r)=.ok (V.fix x,r))->pits p n (join (xs.map (val tx))++93::r)=.ok (xs.map V.fix,93::r)
 | [],_,_,h,_,_=>absurd rfl h
 |_::_,0,_,_,h,_=>by simp at h
 | [x],n+1,r,_,_,hp=>by
  have:=hp x List.mem_cons_self (93::r) (.of (by decide))
  show pits p (n+1) (val tx x++93::r)=_
  rw[pits,this]
  simp
 |x::y::l,n+1,r,_,hn,hp=>by
  have h1:=hp x List.mem_cons_self (44::32::(join ((y::l).map (val tx))++93::r)) (.of (by decide))
  have h2:=pits_back (y::l) n r (by simp) (by simp at hn ⊢;omega) (fun z hz=>hp z (List.mem_cons_of_mem _ hz))
  rw[List.map_cons,List.map_cons,join_cons,List.append_assoc,<-List.map_cons]
  show pits p (n+1) (val tx x++44::32::(join ((y::l).map (val tx))++93::r))=_
  rw[pits,h1]
  simp only[List.head?_cons,show(some (44:UInt8)=some 93)=False by simp,if_false]
  have e:(44::32::(join ((y::l).map (val tx))++93::r):Bs)=[44,32]++(join ((y::l).map (val tx))++93::r):=rfl
  rw[e,must_self]
  simp only[h2]
  rfl
theorem pits_fore{p:Bs->R (V×Bs)}(hp:∀l x r,p l=.ok (x,r)->l=val tx x++r):∀(n:Nat) (l:Bs) (xs:List V) (r:Bs),pits p n l=.ok (xs,r)->l=join (xs.map (val tx))++r∧xs≠[]∧∀x∈xs,∃l' r,p l'=.ok (x,r)∧l'.length<=l.length
 |0,l,xs,r,h=>by rw[pits] at h;cases h
 |n+1,l,xs,r,h=>by
  rw[pits] at h
  cases h1:p l with
  |error e=>rw[h1] at h;cases h
  |ok z=>
   obtain⟨x,s⟩:=z
   rw[h1] at h
   simp only at h
   have e1:=hp l x s h1
   by_cases h2:s.head?=some 93
   ·rw[if_pos h2] at h
    injection h with h
    injection h with a1 a2
    subst a1 a2
    exact⟨e1,by simp,fun y hy=>by rw[List.mem_singleton] at hy;rw[hy];exact⟨_,_,h1,tX⟩⟩
   ·rw[if_neg h2] at h
    cases h3:must [44,32] s with
    |error e=>rw[h3] at h;cases h
    |ok s1=>
     rw[h3] at h
     simp only at h
     cases h4:pits p n s1 with
     |error e=>rw[h4] at h;cases h
     |ok z=>
      obtain⟨ys,s2⟩:=z
      rw[h4] at h
      simp only at h
      injection h with h
      injection h with a1 a2
      subst a1 a2
      obtain⟨g1,g2,g3⟩:=pits_fore hp n s1 ys s2 h4
      refine⟨?_,by simp,fun y hy=>?_⟩
      ·cases ys with
       |nil=>exact absurd rfl g2
       |cons y ys=>
        rw[List.map_cons,List.map_cons,join_cons,List.append_assoc,e1,must_ok _ _ _ h3,g1,List.map_cons]
        simp
      ·rcases List.mem_cons.1 hy with rfl | hy
       ·exact⟨_,_,h1,tX⟩
       ·obtain⟨l',r',q1,q2⟩:=g3 y hy
        refine⟨l',r',q1,Nat.le_trans q2 ?_⟩
        rw[e1,must_ok _ _ _ h3]
        simp
        omega
end
end Tx
end
section
namespace Tx
section
variable {tx:Nat->Bs} {rf:Bs->Option Nat}
theorem pval_low{f:Nat}{w r:Bs}(hw:∀c∈w,Sch.low c=true)(hne:w≠[])(hr:∀c,r.head?=some c->Sch.low c=false):pval rf (f+1) (w++r) =
   if w=[116,114,117,101] then .ok (⟨1,1,0,⟨#[]⟩,[]⟩,r)
   else if w=[102,97,108,115,101] then .ok (⟨1,0,0,⟨#[]⟩,[]⟩,r)
   else if w=[110,111,110,101] then .ok (⟨6,0,0,⟨#[]⟩,[]⟩,r)
   else if w=[115,111,109,101] then (match must [40] r with
    |.error e=>.error e
    |.ok r=>match pval rf f r with
     |.error e=>.error e
     |.ok (x,r)=>match must [41] r with
      |.error e=>.error e
      |.ok r=>.ok (⟨6,0,0,⟨#[]⟩,[x]⟩,r))
   else .error (5,(w++r).length):=by
 cases w with
 |nil=>exact absurd rfl hne
 |cons c w=>
  obtain⟨h1,h2⟩:=span Sch.low (c::w) r hw hr
  rw[List.cons_append] at h1 h2 ⊢
  rw[pval,if_pos (hw c List.mem_cons_self),h1,h2]
  try rfl
theorem bytes_mk(t:ByteArray):(⟨t.data.toList.toArray⟩:ByteArray)=t:=by cases t;simp
theorem val_one(tx:Nat->Bs)(i:Int)(b:Nat)(t:ByteArray)(xs:List V):val tx (.mk 1 i b t xs)=if i=1 then [116,114,117,101] else [102,97,108,115,101]:=by rw[val_mk,if_pos rfl]
theorem val_two(tx:Nat->Bs)(i:Int)(b:Nat)(t:ByteArray)(xs:List V):val tx (.mk 2 i b t xs)=Lib.itoa i:=by rw[val_mk,if_neg (by decide),if_pos rfl]
theorem val_three(tx:Nat->Bs)(i:Int)(b:Nat)(t:ByteArray)(xs:List V):val tx (.mk 3 i b t xs)=126::tx b:=by rw[val_mk,if_neg (by decide),if_neg (by decide),if_pos rfl]
theorem val_four(tx:Nat->Bs)(i:Int)(b:Nat)(t:ByteArray)(xs:List V):val tx (.mk 4 i b t xs)=quo 34 t.data.toList:=by rw[val_mk,if_neg (by decide),if_neg (by decide),if_neg (by decide),if_pos rfl]
theorem val_five(tx:Nat->Bs)(i:Int)(b:Nat)(t:ByteArray)(xs:List V):val tx (.mk 5 i b t xs)=quo 39 t.data.toList:=by rw[val_mk,if_neg (by decide),if_neg (by decide),if_neg (by decide),if_neg (by decide),if_pos rfl]
theorem val_none(tx:Nat->Bs)(i:Int)(b:Nat)(t:ByteArray):val tx (.mk 6 i b t [])=[110,111,110,101]:=by rw[val_mk,if_neg (by decide),if_neg (by decide),if_neg (by decide),if_neg (by decide),if_neg (by decide),if_pos rfl];rfl
theorem val_some(tx:Nat->Bs)(i:Int)(b:Nat)(t:ByteArray)(x:V)(xs:List V):val tx (.mk 6 i b t (x::xs))=[115,111,109,101,40]++(val tx x++[41]):=by rw[val_mk,if_neg (by decide),if_neg (by decide),if_neg (by decide),if_neg (by decide),if_neg (by decide),if_pos rfl];rfl
theorem val_list(tx:Nat->Bs)(i:Int)(b:Nat)(t:ByteArray)(xs:List V):val tx (.mk 7 i b t xs)=91::(join (xs.map (val tx))++[93]):=by rw[val_mk,if_neg (by decide),if_neg (by decide),if_neg (by decide),if_neg (by decide),if_neg (by decide),if_neg (by decide)]
theorem join_head(x:Bs)(l:List Bs)(r:Bs):∃s,join (x::l)++r=x++s:=by
 cases l with
 |nil=>exact⟨r,rfl⟩
 |cons y l=>exact⟨(44::32::join (y::l))++r,by rw[join_cons,List.append_assoc]⟩
theorem pval_back(hF:FOk tx rf):∀(v:V) (f:Nat) (r:Bs),f<=4->chk (5-f) v=0->v.wf->Stop r->pval rf f (val tx v++r)=.ok (V.fix v,r):=by
 intro v
 refine V.ind (P:=fun v=>∀(f:Nat) (r:Bs),f<=4->chk (5-f) v=0->v.wf->Stop r->pval rf f (val tx v++r)=.ok (V.fix v,r)) ?_ v
 intro k i b t xs ih f r hf hc hw hr
 obtain⟨hd,ho,-,-,-,hx⟩:=Sch.chk_open hc
 obtain⟨hk,hi,hb,ht,hn,h1,h6⟩:=Sch.own_open ho
 rw[V.wf_mk] at hw
 obtain⟨-,hwi,hwb,-,hwx⟩:=hw
 match f,hf with
 |0,_=>simp at hd
 |f+1,hf=>
  have e5:5-(f+1)+1=5-f:=by omega
  rw[e5] at hx
  rw[V.fix_mk,V.fixL_eq]
  have hlow:∀c,r.head?=some c->Sch.low c=false:=hr.out _ (by decide)
  rcases word_cases hk with rfl | rfl | rfl | rfl | rfl | rfl | rfl
  ·obtain rfl:xs=[]:=List.eq_nil_of_length_eq_zero (by omega)
   obtain rfl:t=⟨#[]⟩:=by rcases ht with h | h | h <;> first | exact h | (exact absurd h (by decide))
   have hb0:ak b=0:=by rcases hb with h | h <;> first | exact h | (exact absurd h (by decide))
   rw[hb0,val_one]
   rcases h1 rfl with rfl | rfl
   ·rw[if_neg (by decide),pval_low (by decide) (by simp) hlow]
    rfl
   ·rw[if_pos rfl,pval_low (by decide) (by simp) hlow]
    rfl
  ·obtain rfl:xs=[]:=List.eq_nil_of_length_eq_zero (by omega)
   obtain rfl:t=⟨#[]⟩:=by rcases ht with h | h | h <;> first | exact h | (exact absurd h (by decide))
   have hb0:ak b=0:=by rcases hb with h | h <;> first | exact h | (exact absurd h (by decide))
   rw[hb0,val_two]
   obtain⟨c,s,e⟩:=itoa_ne i
   have hset:=itoa_set i
   have hnum:=num_itoa hwi
   rw[e] at hset hnum ⊢
   have hc2:=hset c List.mem_cons_self
   obtain⟨g1,g2⟩:=span iset (c::s) r hset (hr.out _ (by decide))
   rw[List.cons_append] at g1 g2 ⊢
   rw[pval,if_neg (by rw[iset_low hc2];decide),if_pos hc2,g1,g2,hnum]
   rfl
  ·obtain rfl:xs=[]:=List.eq_nil_of_length_eq_zero (by omega)
   obtain rfl:t=⟨#[]⟩:=by rcases ht with h | h | h <;> first | exact h | (exact absurd h (by decide))
   obtain rfl:i=0:=by omega
   obtain⟨g1,g2⟩:=span fset (tx b) r (hF.set b) (hr.out _ (by decide))
   rw[val_three,List.cons_append,pval,if_neg (by decide),if_neg (by decide),if_pos rfl,g1,g2,hF.back b hwb]
   rfl
  ·obtain rfl:xs=[]:=List.eq_nil_of_length_eq_zero (by omega)
   obtain rfl:i=0:=by omega
   have hb0:ak b=0:=by rcases hb with h | h <;> first | exact h | (exact absurd h (by decide))
   have hq:=pq_back 34 (.inl rfl) t.data.toList r
   rw[hb0,val_four]
   unfold quo
   rw[List.cons_append,List.append_assoc,List.singleton_append,pval,if_neg (by decide),if_neg (by decide),if_neg (by decide),if_pos rfl,hq]
   simp only[bytes_mk]
   rfl
  ·obtain rfl:xs=[]:=List.eq_nil_of_length_eq_zero (by omega)
   obtain rfl:i=0:=by omega
   have hb0:ak b=0:=by rcases hb with h | h <;> first | exact h | (exact absurd h (by decide))
   have hq:=pq_back 39 (.inr rfl) t.data.toList r
   rw[hb0,val_five]
   unfold quo
   rw[List.cons_append,List.append_assoc,List.singleton_append,pval,if_neg (by decide),if_neg (by decide),if_neg (by decide),if_neg (by decide),if_pos rfl,hq]
   simp only[bytes_mk]
   rfl
  ·obtain rfl:i=0:=by omega
   obtain rfl:t=⟨#[]⟩:=by rcases ht with h | h | h <;> first | exact h | (exact absurd h (by decide))
   have hb0:ak b=0:=by rcases hb with h | h <;> first | exact h | (exact absurd h (by decide))
   rw[hb0]
   match xs,h6 rfl with
   | [],_=>
    rw[val_none,pval_low (by decide) (by simp) hlow]
    rfl
   | [x],_=>
    have h2:=ih x List.mem_cons_self f (41::r) (by omega) (hx x List.mem_cons_self) (hwx x List.mem_cons_self) (.of (by decide))
    have e1:val tx (.mk 6 0 b ⟨#[]⟩ [x])++r=[115,111,109,101]++(40::(val tx x++41::r)):=by rw[val_some];simp
    rw[e1,pval_low (by decide) (by simp) (fun c hc=>by simp at hc;rw[<-hc];decide),if_neg (by decide),if_neg (by decide),if_neg (by decide),if_pos rfl]
    have e2:(40::(val tx x++41::r):Bs)=[40]++(val tx x++41::r):=rfl
    rw[e2,must_self]
    simp only[h2]
    have e3:(41::r:Bs)=[41]++r:=rfl
    rw[e3,must_self]
    rfl
  ·obtain rfl:i=0:=by omega
   obtain rfl:t=⟨#[]⟩:=by rcases ht with h | h | h <;> first | exact h | (exact absurd h (by decide))
   have hb0:ak b=0:=by rcases hb with h | h <;> first | exact h | (exact absurd h (by decide))
   rw[hb0,val_list,List.cons_append,List.append_assoc,List.singleton_append]
   cases xs with
   |nil=>
    show pval rf (f+1) (91::93::r)=_
    rw[pval,if_neg (by decide),if_neg (by decide),if_neg (by decide),if_neg (by decide),if_neg (by decide),if_pos rfl,if_pos (by rfl)]
    rfl
   |cons x l=>
    obtain⟨c,s,hcs,hne⟩:=val_head (tx:=tx) x (.inr ⟨_,hx x List.mem_cons_self⟩)
    have hh:¬(join ((x::l).map (val tx))++93::r).head?=some 93:=by
     rw[List.map_cons]
     obtain⟨s2,e⟩:=join_head (val tx x) (l.map (val tx)) (93::r)
     rw[e,hcs]
     simp only[List.cons_append,List.head?_cons,Option.some.injEq]
     exact hne
    have hl:=join_len ((x::l).map (val tx))
    have h2:=pits_back (tx:=tx) (p:=pval rf f) (x::l) ((join ((x::l).map (val tx))++93::r).length+1) r (by simp) (by rw[List.length_map] at hl;rw[List.length_append];omega) (fun y hy r hr=>ih y hy f r (by omega) (hx y hy) (hwx y hy) hr)
    rw[pval,if_neg (by decide),if_neg (by decide),if_neg (by decide),if_neg (by decide),if_neg (by decide),if_pos rfl,if_neg hh,h2]
    have e3:(93::r:Bs)=[93]++r:=rfl
    simp only[e3,must_self]
end
end Tx
end
section
namespace Tx
section
variable {tx:Nat->Bs} {rf:Bs->Option Nat}
structure Got(tx:Nat->Bs)(l:Bs)(v:V)(r:Bs):Prop where
 text:l=val tx v++r
 fix:V.fix v=v
 wf:l.length<=140737488351232->v.wf
theorem twdw(p:UInt8->Bool)(l:Bs):l=l.takeWhile p++l.dropWhile p:=List.takeWhile_append_dropWhile.symm
theorem quo_app(q:UInt8)(x r:Bs):quo q x++r=q::((x.map (esc q)).flatten++q::r):=by unfold quo;simp
theorem flat_len(q:UInt8):∀x:Bs,x.length<=((x.map (esc q)).flatten).length
 | []=>by simp
 |c::x=>by
  have:=flat_len q x
  rw[List.map_cons,List.flatten_cons,List.length_append,List.length_cons]
  have h1:1<=(esc q c).length:=by
   unfold esc
   split
   ·simp
   ·split <;> simp
  omega
theorem wf_leaf{k i:Int}{b:Nat}(h1:-9223372036854775808<=k∧k<=9223372036854775807)(h2:-9223372036854775808<=i∧i<=9223372036854775807)(h3:b<18446744073709551616):V.wf (.mk k i b ⟨#[]⟩ []):=V.wf_mk.2 ⟨h1,h2,h3,by decide,fun x hx=>by cases hx⟩
theorem fix_leaf(k i:Int)(t:ByteArray):V.fix (.mk k i 0 t [])=.mk k i 0 t []:=by rw[V.fix_mk,Sch.fixB_zero];rfl
theorem pval_fore(hF:FOk tx rf):∀(f:Nat) (l:Bs) (v:V) (r:Bs),pval rf f l=.ok (v,r)->Got tx l v r
 |0,l,v,r,h=>by unfold pval at h;cases h
 |f+1,[],v,r,h=>by unfold pval at h;cases h
 |f+1,c::t,v,r,h=>by
  rw[pval] at h
  by_cases h1:Sch.low c=true
  ·rw[if_pos h1] at h
   have hl:=twdw Sch.low (c::t)
   generalize (c::t).takeWhile Sch.low=w at *
   generalize (c::t).dropWhile Sch.low=s at *
   by_cases h2:w=[116,114,117,101]
   ·rw[if_pos h2] at h
    injection h with h
    injection h with e1 e2
    subst e1 e2
    exact⟨by rw[val_one,if_pos rfl,<-h2];exact hl,fix_leaf _ _ _,fun _=>wf_leaf (by decide) (by decide) (by decide)⟩
   rw[if_neg h2] at h
   by_cases h3:w=[102,97,108,115,101]
   ·rw[if_pos h3] at h
    injection h with h
    injection h with e1 e2
    subst e1 e2
    exact⟨by rw[val_one,if_neg (by decide),<-h3];exact hl,fix_leaf _ _ _,fun _=>wf_leaf (by decide) (by decide) (by decide)⟩
   rw[if_neg h3] at h
   by_cases h4:w=[110,111,110,101]
   ·rw[if_pos h4] at h
    injection h with h
    injection h with e1 e2
    subst e1 e2
    exact⟨by rw[val_none,<-h4];exact hl,fix_leaf _ _ _,fun _=>wf_leaf (by decide) (by decide) (by decide)⟩
   rw[if_neg h4] at h
   by_cases h5:w=[115,111,109,101]
   ·rw[if_pos h5] at h
    cases hm:must [40] s with
    |error e=>rw[hm] at h;cases h
    |ok s1=>
     rw[hm] at h
     simp only at h
     cases hp:pval rf f s1 with
     |error e=>rw[hp] at h;cases h
     |ok q=>
      obtain⟨x,s2⟩:=q
      rw[hp] at h
      simp only at h
      cases hm2:must [41] s2 with
      |error e=>rw[hm2] at h;cases h
      |ok s3=>
       rw[hm2] at h
       simp only at h
       injection h with h
       injection h with e1 e2
       subst e1 e2
       have g:=pval_fore hF f s1 x s2 hp
       have hl2:c::t=[115,111,109,101]++([40]++s1):=by rw[hl,h5,must_ok _ _ _ hm]
       refine⟨?_,?_,fun hB=>?_⟩
       ·rw[val_some,hl2,g.text,must_ok _ _ _ hm2]
        simp
       ·rw[V.fix_mk,Sch.fixB_zero,V.fixL_eq]
        simp only[List.map_cons,List.map_nil,g.fix]
       ·rw[V.wf_mk]
        refine⟨by decide,by decide,by decide,by decide,fun y hy=>?_⟩
        rw[List.mem_singleton] at hy
        rw[hy]
        refine g.wf ?_
        rw[hl2] at hB
        simp at hB
        omega
   ·rw[if_neg h5] at h;cases h
  rw[if_neg h1] at h
  by_cases h2:iset c=true
  ·rw[if_pos h2] at h
   have hl:=twdw iset (c::t)
   generalize (c::t).takeWhile iset=w at *
   generalize (c::t).dropWhile iset=s at *
   cases hn:num w with
   |none=>rw[hn] at h;cases h
   |some n=>
    rw[hn] at h
    simp only at h
    injection h with h
    injection h with e1 e2
    subst e1 e2
    obtain⟨g1,g2⟩:=num_some hn
    exact⟨by rw[val_two,g1];exact hl,fix_leaf _ _ _,fun _=>wf_leaf (by decide) g2 (by decide)⟩
  rw[if_neg h2] at h
  by_cases h3:c=126
  ·rw[if_pos h3] at h
   have hl:=twdw fset t
   generalize t.takeWhile fset=w at *
   generalize t.dropWhile fset=s at *
   cases hn:rf w with
   |none=>rw[hn] at h;cases h
   |some b=>
    rw[hn] at h
    simp only at h
    injection h with h
    injection h with e1 e2
    subst e1 e2
    obtain⟨g1,g2,g3⟩:=hF.fore w b hn
    refine⟨by rw[val_three,g1,h3,hl];rfl,by rw[V.fix_mk,g2];rfl,fun _=>wf_leaf (by decide) (by decide) g3⟩
  rw[if_neg h3] at h
  have hquo:∀(q:UInt8) (k:Int) (x s:Bs),(q=34∧k=4∨q=39∧k=5)->c=q->pq q t=.ok (x,s)->Got tx (c::t) (.mk k 0 0 ⟨x.toArray⟩ []) s:=fun q k x s hq hc hp=>by
   have hq2:q=34∨q=39:=by rcases hq with h | h <;> simp[h.1]
   have e:=pq_fore q hq2 t x s hp
   refine⟨?_,fix_leaf _ _ _,fun hB=>?_⟩
   ·rw[hc,e,<-quo_app]
    rcases hq with ⟨rfl,rfl⟩ | ⟨rfl,rfl⟩
    ·rw[val_four]
    ·rw[val_five]
   ·have hf:=flat_len q x
    have hk:-9223372036854775808<=k∧k<=9223372036854775807:=by rcases hq with h | h <;> rw[h.2] <;> decide
    refine V.wf_mk.2 ⟨hk,by decide,by decide,?_,fun y hy=>(by cases hy)⟩
    rw[e] at hB
    simp only[List.length_cons,List.length_append] at hB
    show x.toArray.size<=_
    rw[List.size_toArray]
    omega
  by_cases h4:c=34
  ·rw[if_pos h4] at h
   cases hp:pq 34 t with
   |error e=>rw[hp] at h;cases h
   |ok z=>
    obtain⟨x,s⟩:=z
    rw[hp] at h
    simp only at h
    injection h with h
    injection h with e1 e2
    subst e1 e2
    exact hquo 34 4 x s (.inl ⟨rfl,rfl⟩) h4 hp
  rw[if_neg h4] at h
  by_cases h5:c=39
  ·rw[if_pos h5] at h
   cases hp:pq 39 t with
   |error e=>rw[hp] at h;cases h
   |ok z=>
    obtain⟨x,s⟩:=z
    rw[hp] at h
    simp only at h
    injection h with h
    injection h with e1 e2
    subst e1 e2
    exact hquo 39 5 x s (.inr ⟨rfl,rfl⟩) h5 hp
  rw[if_neg h5] at h
  by_cases h6:c=91
  ·rw[if_pos h6] at h
   by_cases h7:t.head?=some 93
   ·rw[if_pos h7] at h
    injection h with h
    injection h with e1 e2
    subst e1 e2
    cases t with
    |nil=>cases h7
    |cons d t=>
     simp only[List.head?_cons,Option.some.injEq] at h7
     exact⟨by rw[val_list,h6,h7];rfl,fix_leaf _ _ _,fun _=>wf_leaf (by decide) (by decide) (by decide)⟩
   ·rw[if_neg h7] at h
    cases hp:pits (pval rf f) (t.length+1) t with
    |error e=>rw[hp] at h;cases h
    |ok z=>
     obtain⟨xs,s⟩:=z
     rw[hp] at h
     simp only at h
     cases hm:must [93] s with
     |error e=>rw[hm] at h;cases h
     |ok s1=>
      rw[hm] at h
      simp only at h
      injection h with h
      injection h with e1 e2
      subst e1 e2
      obtain⟨g1,g2,g3⟩:=pits_fore (tx:=tx) (fun l x r hx=>(pval_fore hF f l x r hx).text) (t.length+1) t xs s hp
      refine⟨?_,?_,fun hB=>?_⟩
      ·rw[val_list,h6,g1,must_ok _ _ _ hm]
       simp
      ·rw[V.fix_mk,Sch.fixB_zero,V.fixL_eq]
       have:xs.map V.fix=xs:=by
        rw[List.map_congr_left (g:=id)]
        ·simp
        ·intro x hx
         obtain⟨l',r',q1,-⟩:=g3 x hx
         exact(pval_fore hF f l' x r' q1).fix
       rw[this]
      ·rw[V.wf_mk]
       refine⟨by decide,by decide,by decide,by decide,fun x hx=>?_⟩
       obtain⟨l',r',q1,q2⟩:=g3 x hx
       refine(pval_fore hF f l' x r' q1).wf ?_
       simp at hB
       omega
  ·rw[if_neg h6] at h;cases h
theorem pseq_back{α:Type}{p:Bs->R (α×Bs)}{pr:α->Bs}{fx:α->α}:∀(xs:List α) (n:Nat),xs≠[]->xs.length<=n->(∀x∈xs,∀r,(r=[]∨∃s,r=44::s)->p (pr x++r)=.ok (fx x,r))->pseq p n (join (xs.map pr))=.ok (xs.map fx,[])
 | [],_,h,_,_=>absurd rfl h
 |_::_,0,_,h,_=>by simp at h
 | [x],n+1,_,_,hp=>by
  have:=hp x List.mem_cons_self [] (.inl rfl)
  rw[List.append_nil] at this
  show pseq p (n+1) (pr x)=_
  rw[pseq,this]
  simp
 |x::y::l,n+1,_,hn,hp=>by
  have h1:=hp x List.mem_cons_self (44::32::join ((y::l).map pr)) (.inr ⟨_,rfl⟩)
  have h2:=pseq_back (y::l) n (by simp) (by simp at hn ⊢;omega) (fun z hz=>hp z (List.mem_cons_of_mem _ hz))
  rw[List.map_cons,List.map_cons,join_cons,<-List.map_cons]
  rw[pseq,h1]
  simp only[List.head?_cons,if_true]
  have e:(44::32::join ((y::l).map pr):Bs)=[44,32]++join ((y::l).map pr):=rfl
  rw[e,must_self]
  simp only[h2]
  rfl
theorem pseq_fore{α:Type}{p:Bs->R (α×Bs)}{pr:α->Bs}(hp:∀l x r,p l=.ok (x,r)->l=pr x++r):∀(n:Nat) (l:Bs) (xs:List α) (r:Bs),pseq p n l=.ok (xs,r)->l=join (xs.map pr)++r∧xs≠[]∧∀x∈xs,∃l' r,p l'=.ok (x,r)∧l'.length<=l.length
 |0,l,xs,r,h=>by rw[pseq] at h;cases h
 |n+1,l,xs,r,h=>by
  rw[pseq] at h
  cases h1:p l with
  |error e=>rw[h1] at h;cases h
  |ok z=>
   obtain⟨x,s⟩:=z
   rw[h1] at h
   simp only at h
   have e1:=hp l x s h1
   by_cases h2:s.head?=some 44
   ·rw[if_pos h2] at h
    cases h3:must [44,32] s with
    |error e=>rw[h3] at h;cases h
    |ok s1=>
     rw[h3] at h
     simp only at h
     cases h4:pseq p n s1 with
     |error e=>rw[h4] at h;cases h
     |ok z=>
      obtain⟨ys,s2⟩:=z
      rw[h4] at h
      simp only at h
      injection h with h
      injection h with a1 a2
      subst a1 a2
      obtain⟨g1,g2,g3⟩:=pseq_fore hp n s1 ys s2 h4
      refine⟨?_,by simp,fun y hy=>?_⟩
      ·cases ys with
       |nil=>exact absurd rfl g2
       |cons y ys=>
        rw[List.map_cons,List.map_cons,join_cons,List.append_assoc,e1,must_ok _ _ _ h3,g1,List.map_cons]
        simp
      ·rcases List.mem_cons.1 hy with rfl | hy
       ·exact⟨_,_,h1,tX⟩
       ·obtain⟨l',r',q1,q2⟩:=g3 y hy
        refine⟨l',r',q1,Nat.le_trans q2 ?_⟩
        rw[e1,must_ok _ _ _ h3]
        simp
        omega
   ·rw[if_neg h2] at h
    injection h with h
    injection h with a1 a2
    subst a1 a2
    exact⟨e1,by simp,fun y hy=>by rw[List.mem_singleton] at hy;rw[hy];exact⟨_,_,h1,tX⟩⟩
end
end Tx
end
section
namespace Tx
section
variable {tx:Nat->Bs} {rf:Bs->Option Nat}
theorem cols_each:∀(s l:List Col),Sch.colsErr l s=0->∀c∈s,∃l,Sch.colErr l c=0
 | [],_,_,c,hc=>by cases hc
 |x::s,l,h,c,hc=>by
  rw[Sch.colsErr] at h
  by_cases h1:Sch.colErr l x=0
  ·rw[if_pos h1] at h
   rcases List.mem_cons.1 hc with rfl | hc
   ·exact⟨l,h1⟩
   ·exact cols_each s _ h c hc
  ·rw[if_neg h1] at h;exact absurd h h1
theorem V0_fix:V.fix V0=V0:=by unfold V0;rw[V.fix_mk,Sch.fixB_zero];rfl
theorem col_open{l:List Col}{c:Col}(h:Sch.colErr l c=0):Sch.nameL c.name.data.toList=true∧Ty.check 1 c.ty=0∧(c.has=false->V.fix c.dflt=V0)∧(c.has=true->chk 1 c.dflt=0):=by
 unfold Sch.colErr at h
 by_cases h1:Sch.name c.name=false
 ·rw[if_pos h1] at h;cases h
 rw[if_neg h1] at h
 by_cases h2:(l.any fun x=>decide (x.name=c.name))=true
 ·rw[if_pos h2] at h;cases h
 rw[if_neg h2] at h
 by_cases h3:Ty.check 1 c.ty≠0
 ·rw[if_pos h3] at h;exact absurd h h3
 rw[if_neg h3] at h
 refine⟨by simpa[Sch.name] using h1,by simpa using h3,fun hh=>?_,fun hh=>?_⟩
 ·rw[if_pos hh] at h
  by_cases h4:V.same c.dflt V0=true
  ·rw[same_iff,V0_fix] at h4;exact h4
  ·rw[if_neg h4] at h;cases h
 ·rw[if_neg (by rw[hh];decide)] at h
  by_cases h4:chk 1 c.dflt=0
  ·exact h4
  ·rw[if_pos h4] at h;exact absurd h h4
theorem first_zero:∀(l:List Nat),V.first l=0->∀e∈l,e=0
 | [],_,e,he=>by cases he
 |x::l,h,e,he=>by
  rw[V.first] at h
  by_cases hx:x=0
  ·rw[if_pos hx] at h
   rcases List.mem_cons.1 he with rfl | he
   ·exact hx
   ·exact first_zero l h e he
  ·rw[if_neg hx] at h;exact absurd h hx
theorem check_wf:∀(t:Ty) (d:Nat),Ty.check d t=0->t.wf:=by
 intro t
 refine Ty.ind (P:=fun t=>∀d,Ty.check d t=0->t.wf) ?_ t
 intro k xs ih d h
 rw[Ty.check_mk] at h
 by_cases h1:4<d
 ·rw[if_pos h1] at h;cases h
 rw[if_neg h1] at h
 by_cases h2:k<1∨7<k∨xs.length≠Ty.want k
 ·rw[if_pos h2] at h;cases h
 rw[if_neg h2] at h
 exact Ty.wf_mk.2 ⟨by omega,fun x hx=>ih x hx (d+1) (first_zero _ h _ (List.mem_map.2 ⟨x,hx,rfl⟩))⟩
theorem pcol_back(hF:FOk tx rf){c:Col}(hn:Sch.nameL c.name.data.toList=true)(ht:Ty.check 1 c.ty=0)(h0:c.has=false->V.fix c.dflt=V0)(h1:c.has=true->chk 1 c.dflt=0)(hw:c.wf)(r:Bs)(hr:r=[]∨∃s,r=44::s):pcol rf (col tx c++r)=.ok (Col.fix c,r):=by
 unfold Sch.nameL at hn
 simp only[Bool.and_eq_true,decide_eq_true_eq,List.all_eq_true] at hn
 have hne:c.name.data.toList≠[]:=fun hc=>by rw[hc] at hn;simp at hn
 have hst:Stop r:=by
  rcases hr with rfl | ⟨s,rfl⟩
  ·exact Stop.nil
  ·exact .of (by decide)
 have h32:¬r.head?=some 32:=by
  rcases hr with rfl | ⟨s,rfl⟩
  ·simp
  ·simp
 obtain⟨g1,g2⟩:=span Sch.ch c.name.data.toList (32::(ty c.ty++(if c.has then 32::61::32::val tx c.dflt else [])++r)) hn.2 (fun d hd=>by simp at hd;rw[<-hd];decide)
 have e1:col tx c++r=c.name.data.toList++(32::(ty c.ty++(if c.has then 32::61::32::val tx c.dflt else [])++r)):=by unfold col;simp
 unfold pcol
 rw[e1,g1,g2,if_neg hne]
 have e2:∀z:Bs,must [32] (32::z)=.ok z:=fun z=>must_self [32] z
 rw[e2]
 simp only
 cases hh:c.has with
 |false=>
  have ht2:=pty_back c.ty 4 r (by omega) ht hst
  simp only[Bool.false_eq_true,if_false,List.append_nil,ht2]
  rw[if_neg h32]
  unfold Col.fix
  rw[h0 hh,hh,bytes_mk]
 |true=>
  have ht2:=pty_back c.ty 4 (32::61::32::(val tx c.dflt++r)) (by omega) ht (.of (by decide))
  have hv:=pval_back hF c.dflt 4 r (by omega) (h1 hh) hw.2.2 hst
  simp only[if_true,List.append_assoc,List.cons_append,ht2,List.head?_cons]
  have e3:∀z:Bs,must [32,61,32] (32::61::32::z)=.ok z:=fun z=>must_self [32,61,32] z
  rw[e3]
  simp only[hv]
  unfold Col.fix
  rw[hh,bytes_mk]
theorem pcol_fore(hF:FOk tx rf){l:Bs}{c:Col}{r:Bs}(h:pcol rf l=.ok (c,r)):l=col tx c++r∧c.fix=c∧(l.length<=140737488351232->c.wf):=by
 unfold pcol at h
 have hl:=twdw Sch.ch l
 generalize l.takeWhile Sch.ch=w at *
 generalize l.dropWhile Sch.ch=s at *
 by_cases h1:w=[]
 ·rw[if_pos h1] at h;cases h
 rw[if_neg h1] at h
 cases hm:must [32] s with
 |error e=>rw[hm] at h;cases h
 |ok s1=>
  rw[hm] at h
  simp only at h
  cases hp:pty 4 s1 with
  |error e=>rw[hp] at h;cases h
  |ok z=>
   obtain⟨t,s2⟩:=z
   rw[hp] at h
   simp only at h
   obtain⟨g1,g2⟩:=pty_fore 4 s1 t s2 hp
   have htw:t.wf:=check_wf t 1 (g2 tX)
   have hw:l.length<=140737488351232->(⟨w.toArray⟩:ByteArray).size<=140737488351232:=fun hB=>by
    show w.toArray.size<=_
    rw[List.size_toArray]
    rw[hl] at hB
    simp at hB
    omega
   by_cases h2:s2.head?=some 32
   ·rw[if_pos h2] at h
    cases hm2:must [32,61,32] s2 with
    |error e=>rw[hm2] at h;cases h
    |ok s3=>
     rw[hm2] at h
     simp only at h
     cases hv:pval rf 4 s3 with
     |error e=>rw[hv] at h;cases h
     |ok z=>
      obtain⟨v,s4⟩:=z
      rw[hv] at h
      simp only at h
      injection h with h
      injection h with a1 a2
      subst a1 a2
      have g:=pval_fore hF 4 s3 v s4 hv
      refine⟨?_,?_,fun hB=>⟨hw hB,htw,g.wf ?_⟩⟩
      ·rw[hl,must_ok _ _ _ hm,g1,must_ok _ _ _ hm2,g.text]
       unfold col
       simp
      ·unfold Col.fix
       rw[g.fix]
      ·have:=congrArg List.length hl
       rw[must_ok _ _ _ hm,g1,must_ok _ _ _ hm2] at this
       simp at this
       omega
   ·rw[if_neg h2] at h
    injection h with h
    injection h with a1 a2
    subst a1 a2
    refine⟨?_,?_,fun hB=>⟨hw hB,htw,wf_leaf (by decide) (by decide) (by decide)⟩⟩
    ·rw[hl,must_ok _ _ _ hm,g1]
     unfold col
     simp
    ·unfold Col.fix
     rw[V0_fix]
theorem whole_ok{α:Type}{x:R (α×Bs)}{y:α}(h:whole x=.ok y):x=.ok (y,[]):=by
 unfold whole at h
 split at h
 ·cases h
 ·injection h with h
  rw[h]
 ·cases h
theorem value_back(hF:FOk tx rf){v:V}(h:chk 1 v=0)(hw:v.wf):value rf (val tx v)=.ok (V.fix v):=by
 unfold value
 have:=pval_back hF v 4 [] (by omega) h hw Stop.nil
 rw[List.append_nil] at this
 rw[this]
 rfl
theorem schema_back(hF:FOk tx rf){s:List Col}(h:Sch.err s=0)(hw:∀c∈s,c.wf):schema rf (sch tx s)=.ok (s.map Col.fix):=by
 obtain⟨h1,-,h3,-⟩:=Sch.err_open h
 unfold schema sch
 have hl:=join_len (s.map (col tx))
 rw[List.length_map] at hl
 rw[pseq_back (p:=pcol rf) (pr:=col tx) (fx:=Col.fix) s ((join (s.map (col tx))).length+1) (fun hc=>by rw[hc] at h1;simp at h1) hl (fun c hc r hr=>by
  obtain⟨l,hcl⟩:=cols_each s [] h3 c hc
  obtain⟨k1,k2,k3,k4⟩:=col_open hcl
  exact pcol_back hF k1 k2 k3 k4 (hw c hc) r hr)]
 rfl
theorem rows_back(hF:FOk tx rf){vs:List V}(h:∀v∈vs,chk 1 v=0)(hw:∀v∈vs,v.wf):rows rf (row tx vs)=.ok (vs.map V.fix):=by
 unfold rows row
 cases vs with
 |nil=>rfl
 |cons v l=>
  obtain⟨c,s,hcs,-⟩:=val_head (tx:=tx) v (.inl (h v List.mem_cons_self))
  obtain⟨s2,e⟩:=join_head (val tx v) (l.map (val tx)) []
  rw[List.append_nil] at e
  have hne:¬join ((v::l).map (val tx))=[]:=by rw[List.map_cons,e,hcs];simp
  have hl:=join_len ((v::l).map (val tx))
  rw[List.length_map] at hl
  rw[if_neg hne,pseq_back (p:=pval rf 4) (pr:=val tx) (fx:=V.fix) (v::l) ((join ((v::l).map (val tx))).length+1) (by simp) hl (fun x hx r hr=>pval_back hF x 4 r (by omega) (h x hx) (hw x hx) (by
   rcases hr with rfl | ⟨s,rfl⟩
   ·exact Stop.nil
   ·exact .of (by decide)))]
  rfl
end
end Tx
end
end Go.Proofs.YtllbniljgcgbeaaGreatDoor
