import Derived.Test.YtlgfdgdlaahpfaaGreatDoorB05
namespace Go.Proofs.YtlgfdgdlaahpfaaGreatDoor
section
def V.wf(v:V):Prop:=match v with
 |.mk k i b t xs=>(-9223372036854775808<=k∧k<=9223372036854775807)∧(-9223372036854775808<=i∧i<=9223372036854775807)∧b<18446744073709551616∧t.size<=140737488351232∧∀p∈xs.map V.wf,p
theorem V.wf_mk{k i:Int}{b:Nat}{t:ByteArray}{xs:List V}:V.wf (.mk k i b t xs)↔(-9223372036854775808<=k∧k<=9223372036854775807)∧(-9223372036854775808<=i∧i<=9223372036854775807)∧b<18446744073709551616∧t.size<=140737488351232∧∀x∈xs,V.wf x:=by
 rw[V.wf]
 simp only[List.mem_map,forall_exists_index,and_imp,forall_apply_eq_imp_iff₂]
def Ty.wf(v:Ty):Prop:=match v with
 |.mk k xs=>(-9223372036854775808<=k∧k<=9223372036854775807)∧∀p∈xs.map Ty.wf,p
theorem Ty.wf_mk{k:Int}{xs:List Ty}:Ty.wf (.mk k xs)↔(-9223372036854775808<=k∧k<=9223372036854775807)∧∀x∈xs,Ty.wf x:=by
 rw[Ty.wf]
 simp only[List.mem_map,forall_exists_index,and_imp,forall_apply_eq_imp_iff₂]
def V0:V:=.mk 0 0 0 ⟨#[]⟩ []
structure Col where
 name:ByteArray
 ty:Ty
 has:Bool
 dflt:V
def Col.wf(c:Col):Prop:=c.name.size<=140737488351232∧c.ty.wf∧c.dflt.wf
def Col.fix(c:Col):Col:=⟨c.name,c.ty,c.has,V.fix c.dflt⟩
namespace Sch
def low(c:UInt8):Bool:=decide (97<=c.toNat∧c.toNat<=122)
def ch(c:UInt8):Bool:=low c||decide (48<=c.toNat∧c.toNat<=57)||decide (c.toNat=95)
def nameL(l:L8):Bool:=decide (1<=l.length∧l.length<=16)&&low (l.headD 0)&&l.all ch
def name(t:ByteArray):Bool:=nameL t.data.toList
def inner(t:Ty):Ty:=t.of.headD ⟨0,[]⟩
def of(v:V):Ty->Bool:=match v with
 |.mk k _ _ _ xs=>fun t=>k==t.kind&&(xs.map of).all (fun f=>f (inner t))
theorem of_mk(k i:Int)(b:Nat)(s:ByteArray)(xs:List V)(t:Ty):of (.mk k i b s xs) t=(k==t.kind&&xs.all (fun x=>of x (inner t))):=by
 rw[of]
 simp[List.all_map,Function.comp_def]
def is(v:V)(t:Ty):Bool:=decide (Ty.check 1 t=0)&&decide (chk 1 v=0)&&of v t
def colErr(l:List Col)(c:Col):Nat :=
 if name c.name=false then 70 else if l.any (fun x=>decide (x.name=c.name)) then 71 else if Ty.check 1 c.ty≠0 then Ty.check 1 c.ty
 else if c.has=false then (if V.same c.dflt V0 then 0 else 80) else if chk 1 c.dflt≠0 then chk 1 c.dflt else if is c.dflt c.ty then 0 else 80
def colsErr:List Col->List Col->Nat
 |_,[]=>0
 |l,c::r=>if colErr l c=0 then colsErr (l++[c]) r else colErr l c
def tyB(t:Ty):L8:=match t with
 |.mk k xs=>UInt8.ofNat k.toNat::(if k=6∨k=7 then (xs.map tyB).headD [] else [])
theorem tyB_mk(k:Int)(xs:List Ty):tyB (.mk k xs)=UInt8.ofNat k.toNat::(if k=6∨k=7 then (xs.map tyB).headD [] else []):=by rw[tyB]
def le:Nat->Nat->L8
 |0,_=>[]
 |k+1,n=>UInt8.ofNat (n % 256)::le k (n / 256)
def un:L8->Nat
 | []=>0
 |c::r=>un r*256+c.toNat
def vB(v:V):L8:=match v with
 |.mk k i b t xs=>(if k=1 then [UInt8.ofNat i.toNat] else if k=2 then Leb.put (Leb.zig i) else if k=3 then le 8 (aC b) else if k=4∨k=5 then Leb.put t.size++t.data.toList
  else if k=6 then [if 0<xs.length then 1 else 0] else if k=7 then Leb.put xs.length else [])++(if k=1∨k=2∨k=3∨k=4∨k=5 then [] else (xs.map vB).flatten)
def vH(k i:Int)(b:Nat)(t:ByteArray)(n:Nat):L8 :=
 if k=1 then [UInt8.ofNat i.toNat] else if k=2 then Leb.put (Leb.zig i) else if k=3 then le 8 (aC b) else if k=4∨k=5 then Leb.put t.size++t.data.toList else if k=6 then [if 0<n then 1 else 0] else if k=7 then Leb.put n else []
theorem vB_mk(k i:Int)(b:Nat)(t:ByteArray)(xs:List V):vB (.mk k i b t xs)=vH k i b t xs.length++(if k=1∨k=2∨k=3∨k=4∨k=5 then [] else (xs.map vB).flatten):=by rw[vB,vH]
def cB(c:Col):L8:=Leb.put c.name.size++(c.name.data.toList++(tyB c.ty++(if c.has then 1 else 0)::(if c.has then vB c.dflt else [])))
def bytes(s:List Col):L8:=Leb.put s.length++(s.map cB).flatten
def err(s:List Col):Nat:=if s.length=0 then 4 else if 16<s.length then 3 else if colsErr [] s≠0 then colsErr [] s else if 1024<(bytes s).length then 2 else 0
def colSame(c d:Col):Bool:=decide (c.name=d.name)&&(c.has==d.has)&&Ty.same c.ty d.ty&&V.same c.dflt d.dflt
def same:List Col->List Col->Bool
 | [],[]=>true
 |c::r,d::s=>colSame c d&&same r s
 |_,_=>false
def bit:L8->Except Nat (Nat×Nat)
 | []=>.error 30
 |c::_=>if 1<c.toNat then .error 5 else .ok (c.toNat,1)
def num(l:L8):Except Nat (Nat×Nat):=if (Leb.get l).err=0 then .ok ((Leb.get l).n,(Leb.get l).k) else .error (Leb.get l).err
def text(most long:Nat)(l:L8):Except Nat (ByteArray×Nat):=match num l with
 |.error e=>.error e
 |.ok (n,k)=>if most<n then .error long else if l.length-k<n then .error 30 else .ok (⟨((l.drop k).take n).toArray⟩,k+n)
def float(l:L8):Except Nat (Nat×Nat):=if l.length<8 then .error 30 else if aC (un (l.take 8))=un (l.take 8) then .ok (un (l.take 8),8) else .error 5
def scalar(k:Int)(l:L8):Except Nat (V×Nat) :=
 if k=1 then match bit l with
  |.error e=>.error e
  |.ok (n,j)=>.ok (.mk k n 0 ⟨#[]⟩ [],j)
 else if k=2 then match num l with
  |.error e=>.error e
  |.ok (n,j)=>.ok (.mk k (Leb.zag n) 0 ⟨#[]⟩ [],j)
 else if k=3 then match float l with
  |.error e=>.error e
  |.ok (n,j)=>.ok (.mk k 0 n ⟨#[]⟩ [],j)
 else match text 1024 2 l with
  |.error e=>.error e
  |.ok (t,j)=>if k=4∧cR t=false then .error 61 else .ok (.mk k 0 0 t [],j)
def rdN(f:L8->Except Nat (V×Nat)):Nat->L8->Except Nat (List V×Nat)
 |0,_=>.ok ([],0)
 |m+1,l=>match f l with
  |.error e=>.error e
  |.ok (v,j)=>match rdN f m (l.drop j) with
   |.error e=>.error e
   |.ok (vs,j2)=>.ok (v::vs,j+j2)
def many(k:Int)(l:L8):Except Nat (Nat×Nat):=if k=6 then bit l else match num l with
 |.error e=>.error e
 |.ok (n,j)=>if 256<n then .error 3 else .ok (n,j)
def rdV(t:Ty):L8->Except Nat (V×Nat):=match t with
 |.mk k xs=>fun l=>if k≠6∧k≠7 then scalar k l else match many k l with
  |.error e=>.error e
  |.ok (m,j)=>match rdN ((xs.map rdV).headD (fun _=>.error 0)) m (l.drop j) with
   |.error e=>.error e
   |.ok (vs,j2)=>.ok (.mk k 0 0 ⟨#[]⟩ vs,j+j2)
theorem rdV_mk(k:Int)(xs:List Ty)(l:L8):rdV (.mk k xs) l=if k≠6∧k≠7 then scalar k l else match many k l with
  |.error e=>.error e
  |.ok (m,j)=>match rdN ((xs.map rdV).headD (fun _=>.error 0)) m (l.drop j) with
   |.error e=>.error e
   |.ok (vs,j2)=>.ok (.mk k 0 0 ⟨#[]⟩ vs,j+j2):=by rw[rdV]
def rdT:Nat->L8->Except Nat (Ty×Nat)
 |0,_=>.error 62
 |_+1,[]=>.error 30
 |f+1,c::r=>if c.toNat<1∨7<c.toNat then .error 60 else if c.toNat≠6∧c.toNat≠7 then .ok (⟨(c.toNat:Int),[]⟩,1) else match rdT f r with
  |.error e=>.error e
  |.ok (t,j)=>.ok (⟨(c.toNat:Int),[t]⟩,j+1)
def rdC(l:List Col)(b:L8):Except Nat (Col×Nat):=match num b with
 |.error e=>.error e
 |.ok (n,_)=>if n=0 then .error 70 else match text 16 70 b with
  |.error e=>.error e
  |.ok (s,j)=>if name s=false then .error 70 else if l.any (fun x=>decide (x.name=s)) then .error 71 else match rdT 4 (b.drop j) with
   |.error e=>.error e
   |.ok (t,j2)=>match bit (b.drop (j+j2)) with
    |.error e=>.error e
    |.ok (h,j3)=>if h=0 then .ok (⟨s,t,false,V0⟩,j+j2+j3) else match rdV t (b.drop (j+j2+j3)) with
     |.error e=>.error e
     |.ok (v,j4)=>.ok (⟨s,t,true,v⟩,j+j2+j3+j4)
def rdCs:Nat->List Col->L8->Except Nat (List Col×Nat)
 |0,l,_=>.ok (l,0)
 |m+1,l,b=>match rdC l b with
  |.error e=>.error e
  |.ok (c,j)=>match rdCs m (l++[c]) (b.drop j) with
   |.error e=>.error e
   |.ok (l2,j2)=>.ok (l2,j+j2)
def read(b:L8):Except Nat (List Col):=if 1024<b.length then .error 2 else match num b with
 |.error e=>.error e
 |.ok (n,k)=>if n=0 then .error 4 else if 16<n then .error 3 else match rdCs n [] (b.drop k) with
  |.error e=>.error e
  |.ok (l,j)=>if k+j=b.length then .ok l else .error 5
end Sch
end
section
namespace Sch
theorem le_len:∀(k n:Nat),(le k n).length=k
 |0,_=>rfl
 |k+1,n=>by rw[le,List.length_cons,le_len k]
theorem un_le:∀(k n:Nat),n<256 ^ k->un (le k n)=n
 |0,n,h=>by simp at h;subst h;rfl
 |k+1,n,h=>by
  rw[le,un,un_le k (n / 256) (by rw[Nat.pow_succ] at h;rw[Nat.div_lt_iff_lt_mul (by omega)];exact h),UInt8.toNat_ofNat']
  omega
theorem le_un:∀(l:L8),le l.length (un l)=l
 | []=>rfl
 |c::r=>by
  have hc:c.toNat<256:=c.toNat_lt
  have h1:(un r*256+c.toNat) % 256=c.toNat:=by omega
  have h2:(un r*256+c.toNat) / 256=un r:=by omega
  rw[List.length_cons,le,un,h1,h2,le_un r]
  congr 1
  apply UInt8.toNat_inj.1
  rw[UInt8.toNat_ofNat']
  omega
theorem un_lt:∀(l:L8),un l<256 ^ l.length
 | []=>by simp[un]
 |c::r=>by
  have hc:c.toNat<256:=c.toNat_lt
  have:=un_lt r
  rw[un,List.length_cons,Nat.pow_succ]
  omega
theorem num_put(n:Nat)(r:L8)(h:n<18446744073709551616):num (Leb.put n++r)=.ok (n,(Leb.put n).length):=by
 rw[num,Leb.get_put n r h,if_pos rfl]
theorem num_ok{l:L8}{n k:Nat}(h:num l=.ok (n,k)):n<18446744073709551616∧∃r,l=Leb.put n++r∧k=(Leb.put n).length:=by
 rw[num] at h
 by_cases he:(Leb.get l).err=0
 ·rw[if_pos he] at h
  simp only[Except.ok.injEq,Prod.mk.injEq] at h
  obtain⟨rfl,rfl⟩:=h
  obtain⟨h1,h2,h3,_⟩:=Leb.get_ok l he
  refine⟨h1,l.drop (Leb.get l).k,?_,?_⟩
  ·rw[<-h2,List.take_append_drop]
  ·rw[<-h2,List.length_take];omega
 ·rw[if_neg he] at h;cases h
theorem bit_put(n:Nat)(r:L8)(h:n<=1):bit (UInt8.ofNat n::r)=.ok (n,1):=by
 have h1:(UInt8.ofNat n).toNat=n:=by rw[UInt8.toNat_ofNat'];omega
 rw[bit,h1,if_neg (by omega)]
theorem bit_ok{l:L8}{n k:Nat}(h:bit l=.ok (n,k)):n<=1∧k=1∧∃r,l=UInt8.ofNat n::r:=by
 cases l with
 |nil=>rw[bit] at h;cases h
 |cons c r=>
  rw[bit] at h
  by_cases hc:1<c.toNat
  ·rw[if_pos hc] at h;cases h
  ·rw[if_neg hc] at h
   simp only[Except.ok.injEq,Prod.mk.injEq] at h
   obtain⟨rfl,rfl⟩:=h
   exact⟨by omega,rfl,r,by rw[UInt8.ofNat_toNat]⟩
theorem text_put(most long:Nat)(t:ByteArray)(r:L8)(hm:t.size<=most)(h64:t.size<18446744073709551616):text most long (Leb.put t.size++(t.data.toList++r))=.ok (t,(Leb.put t.size).length+t.size):=by
 have hs:t.data.toList.length=t.size:=by rw[Array.length_toList];rfl
 rw[text,num_put _ _ h64]
 dsimp only
 rw[if_neg (by omega),if_neg (by rw[List.length_append,List.length_append];omega),List.drop_left,List.take_append_of_le_length (by omega),List.take_of_length_le (by omega)]
theorem text_ok{most long:Nat}{l:L8}{t:ByteArray}{j:Nat}(h:text most long l=.ok (t,j)):t.size<=most∧t.size<18446744073709551616∧j=(Leb.put t.size).length+t.size∧∃r,l=Leb.put t.size++(t.data.toList++r):=by
 rw[text] at h
 split at h
 ·cases h
 ·next n k hn=>
  obtain⟨h1,r,rfl,rfl⟩:=num_ok hn
  by_cases hm:most<n
  ·rw[if_pos hm] at h;cases h
  rw[if_neg hm] at h
  by_cases hs:(Leb.put n++r).length-(Leb.put n).length<n
  ·rw[if_pos hs] at h;cases h
  rw[if_neg hs,List.drop_left] at h
  simp only[Except.ok.injEq,Prod.mk.injEq] at h
  obtain⟨rfl,rfl⟩:=h
  have hl:(r.take n).length=n:=by rw[List.length_take];rw[List.length_append] at hs;omega
  have hsz:(⟨(r.take n).toArray⟩:ByteArray).size=n:=by show(r.take n).toArray.size=n;simpa using hl
  rw[hsz]
  refine⟨by omega,h1,rfl,r.drop n,?_⟩
  show Leb.put n++r=Leb.put n++((r.take n).toArray.toList++r.drop n)
  simp
theorem float_put(b:Nat)(r:L8)(h:aC b<18446744073709551616):float (le 8 (aC b)++r)=.ok (aC b,8):=by
 have hl:(le 8 (aC b)).length=8:=le_len 8 _
 have ht:(le 8 (aC b)++r).take 8=le 8 (aC b):=by rw[List.take_append_of_le_length (by omega),List.take_of_length_le (by omega)]
 have hu:un (le 8 (aC b))=aC b:=un_le 8 _ (by simpa using h)
 rw[float,ht,hu,if_neg (by rw[List.length_append];omega),if_pos (fO b)]
theorem float_ok{l:L8}{n j:Nat}(h:float l=.ok (n,j)):n<18446744073709551616∧aC n=n∧j=8∧∃r,l=le 8 n++r:=by
 rw[float] at h
 by_cases hl:l.length<8
 ·rw[if_pos hl] at h;cases h
 rw[if_neg hl] at h
 have hl8:(l.take 8).length=8:=by rw[List.length_take];omega
 by_cases hf:aC (un (l.take 8))=un (l.take 8)
 ·rw[if_pos hf] at h
  simp only[Except.ok.injEq,Prod.mk.injEq] at h
  obtain⟨rfl,rfl⟩:=h
  have h1:=un_lt (l.take 8)
  rw[hl8] at h1
  have h2:=le_un (l.take 8)
  rw[hl8] at h2
  exact⟨by simpa using h1,hf,rfl,l.drop 8,by rw[h2,List.take_append_drop]⟩
 ·rw[if_neg hf] at h;cases h
theorem fixB_lt{b:Nat}(h:b<18446744073709551616):aC b<18446744073709551616:=by
 unfold aC;split <;> omega
theorem empty_of{t:ByteArray}(h:t.toList=[]):t=⟨#[]⟩:=by
 obtain⟨d⟩:=t
 rw[ByteArray.toList_eq] at h
 have:d=#[]:=by
  apply Array.toList_inj.1
  simpa using h
 rw[this]
theorem empty_toList:(⟨#[]⟩:ByteArray).toList=[]:=by rw[ByteArray.toList_eq]
theorem fixB_zero:aC 0=0:=by kernel_rfl
theorem chk_open{d:Nat}{k i:Int}{b:Nat}{t:ByteArray}{xs:List V}(h:chk d (.mk k i b t xs)=0):d<=4∧V.ownB k i b t xs.length=true∧t.size<=1024∧xs.length<=256∧(k=4->cR t=true)∧∀x∈xs,chk (d+1) x=0:=by
 rw[jQ] at h
 by_cases h1:4<d
 ·rw[if_pos h1] at h;cases h
 rw[if_neg h1] at h
 by_cases h2:V.ownB k i b t xs.length=false
 ·rw[if_pos h2] at h;cases h
 rw[if_neg h2] at h
 by_cases h3:1024<t.size
 ·rw[if_pos h3] at h;cases h
 rw[if_neg h3] at h
 by_cases h4:256<xs.length
 ·rw[if_pos h4] at h;cases h
 rw[if_neg h4] at h
 by_cases h5:k=4∧cR t=false
 ·rw[if_pos h5] at h;cases h
 rw[if_neg h5] at h
 refine⟨by omega,by simpa using h2,by omega,by omega,fun hk=>?_,?_⟩
 ·cases hu:cR t
  ·exact absurd ⟨hk,hu⟩ h5
  ·rfl
 ·have key:∀(ys:List V),ei (d+1) ys=0->∀x∈ys,chk (d+1) x=0:=by
   intro ys
   induction ys with
   |nil=>intro _ x hx;cases hx
   |cons y r ih=>
    intro hy x hx
    unfold ei at hy ih
    rw[V.checkL_cons] at hy
    by_cases hy0:V.check cR (d+1) y=0
    ·rw[if_pos hy0] at hy
     rcases List.mem_cons.1 hx with rfl | hx
     ·exact hy0
     ·exact ih hy x hx
    ·rw[if_neg hy0] at hy;exact absurd hy hy0
  exact key xs h
theorem chk_make{d:Nat}{k i:Int}{b:Nat}{t:ByteArray}{xs:List V}(h1:d<=4)(h2:V.ownB k i b t xs.length=true)(h3:t.size<=1024)(h4:xs.length<=256)(h5:k=4->cR t=true)(h6:∀x∈xs,chk (d+1) x=0):chk d (.mk k i b t xs)=0:=by
 rw[jQ,if_neg (by omega),if_neg (by rw[h2];decide),if_neg (by omega),if_neg (by omega),if_neg (fun hc=>by have:=h5 hc.1;rw[hc.2] at this;cases this)]
 exact eh (d+1) xs (fun j hj=>h6 _ (List.getElem_mem hj))
theorem own_open{k i:Int}{b:Nat}{t:ByteArray}{n:Nat}(h:V.ownB k i b t n=true):(1<=k∧k<=7)∧(k=1∨k=2∨i=0)∧(k=3∨aC b=0)∧(k=4∨k=5∨t=⟨#[]⟩)∧(k=6∨k=7∨n=0)∧(k=1->i=0∨i=1)∧(k=6->n<2):=by
 simp only[V.ownB,Bool.and_eq_true,Bool.or_eq_true,beq_iff_eq,decide_eq_true_eq,bne_iff_ne,ne_eq] at h
 obtain⟨⟨⟨⟨⟨⟨h1,h2⟩,h3⟩,h4⟩,h5⟩,h6⟩,h7⟩:=h
 refine⟨h1,by omega,h3,?_,by omega,by omega,by omega⟩
 rcases h4 with (h4 | h4) | h4
 ·exact .inl h4
 ·exact .inr (.inl h4)
 ·exact .inr (.inr (empty_of h4))
theorem own_make{k i:Int}{b:Nat}{t:ByteArray}{n:Nat}(h1:1<=k∧k<=7)(h2:k=1∨k=2∨i=0)(h3:k=3∨aC b=0)(h4:k=4∨k=5∨t=⟨#[]⟩)(h5:k=6∨k=7∨n=0)(h6:k=1->i=0∨i=1)(h7:k=6->n<2):V.ownB k i b t n=true:=by
 simp only[V.ownB,Bool.and_eq_true,Bool.or_eq_true,beq_iff_eq,decide_eq_true_eq,bne_iff_ne,ne_eq]
 refine⟨⟨⟨⟨⟨⟨h1,by omega⟩,h3⟩,?_⟩,by omega⟩,by omega⟩,by omega⟩
 rcases h4 with h4 | h4 | h4
 ·exact .inl (.inl h4)
 ·exact .inl (.inr h4)
 ·exact .inr (by rw[h4];exact empty_toList)
theorem ty_open{d:Nat}{k:Int}{xs:List Ty}(h:Ty.check d (.mk k xs)=0):d<=4∧(1<=k∧k<=7)∧((¬(k=6∨k=7)∧xs=[])∨((k=6∨k=7)∧∃x,xs=[x]∧Ty.check (d+1) x=0)):=by
 rw[Ty.check_mk] at h
 by_cases h1:4<d
 ·rw[if_pos h1] at h;cases h
 rw[if_neg h1] at h
 by_cases h2:k<1∨7<k∨xs.length≠Ty.want k
 ·rw[if_pos h2] at h;cases h
 rw[if_neg h2] at h
 refine⟨by omega,by omega,?_⟩
 have hw:xs.length=Ty.want k:=by omega
 unfold Ty.want at hw
 by_cases hk:k=6∨k=7
 ·rw[if_pos hk] at hw
  obtain⟨x,rfl⟩:=List.length_eq_one_iff.1 hw
  refine .inr ⟨hk,x,rfl,?_⟩
  simp only[List.map_cons,List.map_nil,V.first] at h
  by_cases hx:Ty.check (d+1) x=0
  ·exact hx
  ·rw[if_neg hx] at h;exact absurd h hx
 ·rw[if_neg hk] at hw
  exact .inl ⟨hk,List.eq_nil_of_length_eq_zero hw⟩
theorem ty_leaf{d:Nat}{k:Int}(hd:d<=4)(hk:1<=k∧k<=7)(h:¬(k=6∨k=7)):Ty.check d (.mk k [])=0:=Ty.check_leaf d k (by omega) (by omega) (by unfold Ty.want;rw[if_neg h])
theorem ty_one{d:Nat}{k:Int}{x:Ty}(hd:d<=4)(h:k=6∨k=7)(hx:Ty.check (d+1) x=0):Ty.check d (.mk k [x])=0:=by
 rw[Ty.check_one d k x (by omega) (by omega) (by unfold Ty.want;rw[if_pos h]),hx]
theorem scalar_put{d:Nat}{k i:Int}{b:Nat}{t:ByteArray}(r:L8)(hk:¬(k=6∨k=7))(h:chk d (.mk k i b t [])=0)(hw:V.wf (.mk k i b t [])):scalar k (vH k i b t 0++r)=.ok (.mk k i (aC b) t [],(vH k i b t 0).length):=by
 obtain⟨-,ho,ht,-,hu,-⟩:=chk_open h
 obtain⟨o1,o2,o3,o4,-,o6,-⟩:=own_open ho
 obtain⟨-,wi,wb,-,-⟩:=V.wf_mk.1 hw
 have hr:∀a c:L8,a++c++r=a++(c++r):=fun a c=>List.append_assoc a c r
 rcases(show k=1∨k=2∨k=3∨(k=4∨k=5) by omega) with rfl | rfl | rfl | hk45
 ·have e:vH 1 i b t 0=[UInt8.ofNat i.toNat]:=by rw[vH,if_pos rfl]
  have hi:((i.toNat:Nat):Int)=i:=by omega
  rw[e,scalar,if_pos rfl,List.singleton_append,bit_put i.toNat r (by omega)]
  dsimp only
  rw[hi]
  rcases o3 with o3 | o3
  ·cases o3
  rcases o4 with o4 | o4 | o4
  ·cases o4
  ·cases o4
  rw[o3,o4]
  rfl
 ·have e:vH 2 i b t 0=Leb.put (Leb.zig i):=by rw[vH,if_neg (by decide),if_pos rfl]
  have hz:Leb.zig i<18446744073709551616:=by unfold Leb.zig;split <;> omega
  rw[e,scalar,if_neg (by decide),if_pos rfl,num_put _ r hz]
  dsimp only
  rw[Leb.zag_zig]
  rcases o3 with o3 | o3
  ·cases o3
  rcases o4 with o4 | o4 | o4
  ·cases o4
  ·cases o4
  rw[o3,o4]
 ·have e:vH 3 i b t 0=le 8 (aC b):=by rw[vH,if_neg (by decide),if_neg (by decide),if_pos rfl]
  rw[e,scalar,if_neg (by decide),if_neg (by decide),if_pos rfl,float_put b r (fixB_lt wb)]
  dsimp only
  rw[le_len]
  rcases o2 with o2 | o2 | o2
  ·cases o2
  ·cases o2
  rcases o4 with o4 | o4 | o4
  ·cases o4
  ·cases o4
  rw[o2,o4]
 ·have e:vH k i b t 0=Leb.put t.size++t.data.toList:=by rw[vH,if_neg (by omega),if_neg (by omega),if_neg (by omega),if_pos hk45]
  have hs:t.data.toList.length=t.size:=by rw[Array.length_toList];rfl
  rw[e,scalar,if_neg (by omega),if_neg (by omega),if_neg (by omega),hr,text_put 1024 2 t r ht (by omega)]
  dsimp only
  rw[if_neg (fun hc=>by have:=hu hc.1;rw[hc.2] at this;cases this),List.length_append,hs]
  rcases o3 with o3 | o3
  ·omega
  rcases o2 with o2 | o2 | o2
  ·omega
  ·omega
  rw[o2,o3]
theorem scalar_ok{k:Int}{l:L8}{v:V}{j:Nat}(hk:1<=k∧k<=5)(h:scalar k l=.ok (v,j)):∃i b t,v=.mk k i b t []∧j=(vH k i b t 0).length∧(∃r,l=vH k i b t 0++r)∧aC b=b∧V.wf v∧∀d,d<=4->chk d v=0:=by
 rcases(show k=1∨k=2∨k=3∨(k=4∨k=5) by omega) with rfl | rfl | rfl | hk45
 ·rw[scalar,if_pos rfl] at h
  split at h
  ·cases h
  ·next n m hn=>
   simp only[Except.ok.injEq,Prod.mk.injEq] at h
   obtain⟨rfl,rfl⟩:=h
   obtain⟨h1,rfl,r,rfl⟩:=bit_ok hn
   have e:vH 1 n 0 ⟨#[]⟩ 0=[UInt8.ofNat n]:=by rw[vH,if_pos rfl];rfl
   exact⟨n,0,⟨#[]⟩,rfl,by rw[e];rfl,⟨r,by rw[e];rfl⟩,fixB_zero,V.wf_mk.2 ⟨by omega,by omega,by omega,Nat.zero_le _,fun x hx=>by cases hx⟩,
    fun d hd=>chk_make hd (own_make (by omega) (by omega) (.inr fixB_zero) (.inr (.inr rfl)) (.inr (.inr rfl)) (fun _=>by omega) (fun hc=>by cases hc)) (Nat.zero_le _) (by simp) (fun hc=>by cases hc) (fun x hx=>by cases hx)⟩
 ·rw[scalar,if_neg (by decide),if_pos rfl] at h
  split at h
  ·cases h
  ·next n m hn=>
   simp only[Except.ok.injEq,Prod.mk.injEq] at h
   obtain⟨rfl,rfl⟩:=h
   obtain⟨h1,r,rfl,rfl⟩:=num_ok hn
   have e:vH 2 (Leb.zag n) 0 ⟨#[]⟩ 0=Leb.put n:=by rw[vH,if_neg (by decide),if_pos rfl,Leb.zig_zag]
   have hz:-9223372036854775808<=Leb.zag n∧Leb.zag n<=9223372036854775807:=by unfold Leb.zag;split <;> omega
   exact⟨Leb.zag n,0,⟨#[]⟩,rfl,by rw[e],⟨r,by rw[e]⟩,fixB_zero,V.wf_mk.2 ⟨by omega,hz,by omega,Nat.zero_le _,fun x hx=>by cases hx⟩,
    fun d hd=>chk_make hd (own_make (by omega) (by omega) (.inr fixB_zero) (.inr (.inr rfl)) (.inr (.inr rfl)) (fun hc=>by cases hc) (fun hc=>by cases hc)) (Nat.zero_le _) (by simp) (fun hc=>by cases hc) (fun x hx=>by cases hx)⟩
 ·rw[scalar,if_neg (by decide),if_neg (by decide),if_pos rfl] at h
  split at h
  ·cases h
  ·next n m hn=>
   simp only[Except.ok.injEq,Prod.mk.injEq] at h
   obtain⟨rfl,rfl⟩:=h
   obtain⟨h1,h2,rfl,r,rfl⟩:=float_ok hn
   have e:vH 3 0 n ⟨#[]⟩ 0=le 8 n:=by rw[vH,if_neg (by decide),if_neg (by decide),if_pos rfl,h2]
   exact⟨0,n,⟨#[]⟩,rfl,by rw[e,le_len],⟨r,by rw[e]⟩,h2,V.wf_mk.2 ⟨by omega,by omega,h1,Nat.zero_le _,fun x hx=>by cases hx⟩,
    fun d hd=>chk_make hd (own_make (by omega) (by omega) (.inl rfl) (.inr (.inr rfl)) (.inr (.inr rfl)) (fun hc=>by cases hc) (fun hc=>by cases hc)) (Nat.zero_le _) (by simp) (fun hc=>by cases hc) (fun x hx=>by cases hx)⟩
 ·rw[scalar,if_neg (by omega),if_neg (by omega),if_neg (by omega)] at h
  split at h
  ·cases h
  ·next t m hn=>
   obtain⟨h1,h2,rfl,r,rfl⟩:=text_ok hn
   by_cases hu:k=4∧cR t=false
   ·rw[if_pos hu] at h;cases h
   rw[if_neg hu] at h
   simp only[Except.ok.injEq,Prod.mk.injEq] at h
   obtain⟨rfl,rfl⟩:=h
   have hs:t.data.toList.length=t.size:=by rw[Array.length_toList];rfl
   have e:vH k 0 0 t 0=Leb.put t.size++t.data.toList:=by rw[vH,if_neg (by omega),if_neg (by omega),if_neg (by omega),if_pos hk45]
   exact⟨0,0,t,rfl,by rw[e,List.length_append,hs],⟨r,by rw[e,List.append_assoc]⟩,fixB_zero,V.wf_mk.2 ⟨by omega,by omega,by omega,by omega,fun x hx=>by cases hx⟩,
    fun d hd=>chk_make hd (own_make (by omega) (.inr (.inr rfl)) (.inr fixB_zero) (by omega) (.inr (.inr rfl)) (fun hc=>by omega) (fun hc=>by omega)) h1 (by simp) (fun hc=>by
     cases hq:cR t
     ·exact absurd ⟨hc,hq⟩ hu
     ·rfl) (fun x hx=>by cases hx)⟩
end Sch
end
section
namespace Sch
theorem rdN_put(f:L8->Except Nat (V×Nat))(r:L8):∀xs:List V,(∀x∈xs,∀r,f (vB x++r)=.ok (V.fix x,(vB x).length))->rdN f xs.length ((xs.map vB).flatten++r)=.ok (xs.map V.fix,(xs.map vB).flatten.length)
 | [],_=>rfl
 |x::xs,h=>by
  have ih:=rdN_put f r xs (fun y hy=>h y (List.mem_cons_of_mem _ hy))
  rw[List.length_cons,rdN,List.map_cons,List.flatten_cons,List.append_assoc,h x (by simp)]
  dsimp only
  rw[List.drop_left,ih]
  dsimp only
  rw[List.map_cons,List.length_append]
theorem rdN_ok(f:L8->Except Nat (V×Nat))(Q:V->Prop)(hf:∀l v j,f l=.ok (v,j)->j=(vB v).length∧(∃r,l=vB v++r)∧Q v):∀(m:Nat) (l:L8) (vs:List V) (j:Nat),rdN f m l=.ok (vs,j)->vs.length=m∧j=(vs.map vB).flatten.length∧(∃r,l=(vs.map vB).flatten++r)∧∀v∈vs,Q v
 |0,l,vs,j,h=>by
  rw[rdN] at h
  simp only[Except.ok.injEq,Prod.mk.injEq] at h
  obtain⟨rfl,rfl⟩:=h
  exact⟨rfl,rfl,⟨l,rfl⟩,fun v hv=>by cases hv⟩
 |m+1,l,vs,j,h=>by
  rw[rdN] at h
  split at h
  ·cases h
  ·next v j1 hv=>
   obtain⟨rfl,⟨r,rfl⟩,hq⟩:=hf _ _ _ hv
   rw[List.drop_left] at h
   split at h
   ·cases h
   ·next ws j2 hw=>
    simp only[Except.ok.injEq,Prod.mk.injEq] at h
    obtain⟨rfl,rfl⟩:=h
    obtain⟨h1,rfl,⟨r2,rfl⟩,h4⟩:=rdN_ok f Q hf m r ws j2 hw
    refine⟨by rw[List.length_cons,h1],by rw[List.map_cons,List.flatten_cons,List.length_append],⟨r2,by rw[List.map_cons,List.flatten_cons,List.append_assoc]⟩,fun x hx=>?_⟩
    rcases List.mem_cons.1 hx with rfl | hx
    ·exact hq
    ·exact h4 x hx
theorem many_put{k:Int}(hk:k=6∨k=7)(n:Nat)(i:Int)(b:Nat)(t:ByteArray)(r:L8)(h6:k=6->n<2)(h7:n<=256):many k (vH k i b t n++r)=.ok (n,(vH k i b t n).length):=by
 rcases hk with rfl | rfl
 ·have e:vH 6 i b t n=[UInt8.ofNat n]:=by
   rw[vH,if_neg (by decide),if_neg (by decide),if_neg (by decide),if_neg (by decide),if_pos rfl]
   rcases(show n=0∨n=1 by have:=h6 rfl;omega) with rfl | rfl <;> rfl
  rw[e,many,if_pos rfl,List.singleton_append,bit_put n r (by have:=h6 rfl;omega)]
  rfl
 ·have e:vH 7 i b t n=Leb.put n:=by rw[vH,if_neg (by decide),if_neg (by decide),if_neg (by decide),if_neg (by decide),if_neg (by decide),if_pos rfl]
  rw[e,many,if_neg (by decide),num_put n r (by omega)]
  dsimp only
  rw[if_neg (by omega)]
theorem many_ok{k:Int}(hk:k=6∨k=7){l:L8}{n j:Nat}(h:many k l=.ok (n,j)):(k=6->n<2)∧n<=256∧∀i b t,j=(vH k i b t n).length∧∃r,l=vH k i b t n++r:=by
 rcases hk with rfl | rfl
 ·rw[many,if_pos rfl] at h
  obtain⟨h1,rfl,r,rfl⟩:=bit_ok h
  have e:∀i b t,vH 6 i b t n=[UInt8.ofNat n]:=fun i b t=>by
   rw[vH,if_neg (by decide),if_neg (by decide),if_neg (by decide),if_neg (by decide),if_pos rfl]
   rcases(show n=0∨n=1 by omega) with rfl | rfl <;> rfl
  exact⟨fun _=>by omega,by omega,fun i b t=>⟨by rw[e];rfl,r,by rw[e];rfl⟩⟩
 ·rw[many,if_neg (by decide)] at h
  split at h
  ·cases h
  ·next m j1 hm=>
   by_cases h2:256<m
   ·rw[if_pos h2] at h;cases h
   rw[if_neg h2] at h
   simp only[Except.ok.injEq,Prod.mk.injEq] at h
   obtain⟨rfl,rfl⟩:=h
   obtain⟨h1,r,rfl,rfl⟩:=num_ok hm
   have e:∀i b t,vH 7 i b t m=Leb.put m:=fun i b t=>by rw[vH,if_neg (by decide),if_neg (by decide),if_neg (by decide),if_neg (by decide),if_neg (by decide),if_pos rfl]
   exact⟨fun hc=>(by cases hc),by omega,fun i b t=>⟨by rw[e],r,by rw[e]⟩⟩
theorem vB_leaf{k i:Int}{b:Nat}{t:ByteArray}(xs:List V)(hk:1<=k∧k<=5):vB (.mk k i b t xs)=vH k i b t xs.length:=by
 rw[vB_mk,if_pos (by omega),List.append_nil]
theorem vB_items{k i:Int}{b:Nat}{t:ByteArray}(xs:List V)(hk:k=6∨k=7):vB (.mk k i b t xs)=vH k i b t xs.length++(xs.map vB).flatten:=by
 rw[vB_mk,if_neg (by omega)]
theorem rdV_put:∀(t:Ty) (d:Nat) (v:V) (r:L8),Ty.check d t=0->chk d v=0->of v t=true->v.wf->rdV t (vB v++r)=.ok (V.fix v,(vB v).length):=by
 intro t
 refine Ty.ind (P:=fun t=>∀(d:Nat) (v:V) (r:L8),Ty.check d t=0->chk d v=0->of v t=true->v.wf->rdV t (vB v++r)=.ok (V.fix v,(vB v).length)) ?_ t
 rintro k xs ih d ⟨k',i,b,s,ys⟩ r ht hv ho hw
 rw[of_mk,Bool.and_eq_true,beq_iff_eq] at ho
 obtain⟨hk',ho⟩:=ho
 simp only at hk'
 subst hk'
 obtain⟨hd,hk,htt⟩:=ty_open ht
 obtain⟨-,how,hts,hys,hu,hyc⟩:=chk_open hv
 obtain⟨o1,o2,o3,o4,o5,o6,o7⟩:=own_open how
 rw[V.fix_mk,V.fixL_eq,rdV_mk]
 rcases htt with ⟨h67,rfl⟩ | ⟨h67,x,rfl,hx⟩
 ·have hy0:ys=[]:=List.eq_nil_of_length_eq_zero (by omega)
  subst hy0
  rw[if_pos (by omega),vB_leaf _ (by omega)]
  exact scalar_put r h67 hv hw
 ·rw[if_neg (by omega),vB_items _ h67,List.append_assoc,many_put h67 ys.length i b s _ o7 hys]
  dsimp only
  rw[List.drop_left]
  have hin:inner (.mk k' [x])=x:=rfl
  rw[hin,List.all_eq_true] at ho
  have hwy:=(V.wf_mk.1 hw).2.2.2.2
  have e:=rdN_put (rdV x) r ys (fun y hy r=>ih x (by simp) (d+1) y r hx (hyc y hy) (ho y hy) (hwy y hy))
  have e1:([x].map rdV).headD (fun _=>.error 0)=rdV x:=rfl
  rw[e1,e]
  dsimp only
  rw[List.length_append]
  rcases o3 with o3 | o3
  ·omega
  rcases o2 with o2 | o2 | o2
  ·omega
  ·omega
  rcases o4 with o4 | o4 | o4
  ·omega
  ·omega
  rw[o2,o3,o4]
theorem rdV_ok:∀(t:Ty) (d:Nat) (l:L8) (v:V) (j:Nat),Ty.check d t=0->rdV t l=.ok (v,j)->j=(vB v).length∧(∃r,l=vB v++r)∧chk d v=0∧of v t=true∧V.fix v=v∧v.wf:=by
 intro t
 refine Ty.ind (P:=fun t=>∀(d:Nat) (l:L8) (v:V) (j:Nat),Ty.check d t=0->rdV t l=.ok (v,j)->j=(vB v).length∧(∃r,l=vB v++r)∧chk d v=0∧of v t=true∧V.fix v=v∧v.wf) ?_ t
 intro k xs ih d l v j ht h
 obtain⟨hd,hk,htt⟩:=ty_open ht
 rw[rdV_mk] at h
 rcases htt with ⟨h67,rfl⟩ | ⟨h67,x,rfl,hx⟩
 ·rw[if_pos (by omega)] at h
  obtain⟨i,b,s,rfl,rfl,⟨r,rfl⟩,hb,hw,hc⟩:=scalar_ok (by omega) h
  rw[vB_leaf [] (by omega)]
  refine⟨rfl,⟨r,rfl⟩,hc d hd,?_,?_,hw⟩
  ·rw[of_mk];simp
  ·rw[V.fix_mk,hb];rfl
 ·rw[if_neg (by omega)] at h
  split at h
  ·cases h
  ·next m j1 hm=>
   obtain⟨h1,h2,h3⟩:=many_ok h67 hm
   obtain⟨hj,r,hl⟩:=h3 0 0 ⟨#[]⟩
   have e1:([x].map rdV).headD (fun _=>.error 0)=rdV x:=rfl
   rw[e1] at h
   subst hj hl
   rw[List.drop_left] at h
   split at h
   ·cases h
   ·next vs j2 hv=>
    simp only[Except.ok.injEq,Prod.mk.injEq] at h
    obtain⟨rfl,rfl⟩:=h
    obtain⟨rfl,rfl,⟨r2,rfl⟩,hq⟩:=rdN_ok (rdV x) (fun v=>chk (d+1) v=0∧of v x=true∧V.fix v=v∧v.wf) (fun l v j hvj=>by
     obtain⟨a1,a2,a3⟩:=ih x (by simp) (d+1) l v j hx hvj
     exact⟨a1,a2,a3⟩) _ _ _ _ hv
    rw[vB_items vs h67]
    refine⟨by rw[List.length_append],⟨r2,by rw[List.append_assoc]⟩,?_,?_,?_,?_⟩
    ·exact chk_make hd (own_make (by omega) (.inr (.inr rfl)) (.inr fixB_zero) (.inr (.inr rfl)) (by omega) (fun hc=>by omega) h1) (Nat.zero_le _) h2 (fun hc=>by omega) (fun y hy=>(hq y hy).1)
    ·rw[of_mk]
     simp only[beq_self_eq_true,Bool.true_and,List.all_eq_true]
     exact fun y hy=>(hq y hy).2.1
    ·rw[V.fix_mk,V.fixL_eq,fixB_zero]
     congr 1
     have:vs.map V.fix=vs.map id:=List.map_congr_left (fun y hy=>(hq y hy).2.2.1)
     rw[this,List.map_id]
    ·exact V.wf_mk.2 ⟨by omega,by omega,by omega,Nat.zero_le _,fun y hy=>(hq y hy).2.2.2⟩
theorem kind_byte{k:Int}(hk:1<=k∧k<=7):(UInt8.ofNat k.toNat).toNat=k.toNat:=by rw[UInt8.toNat_ofNat'];omega
theorem rdT_put:∀(f:Nat) (t:Ty) (r:L8),f<=4->Ty.check (5-f) t=0->rdT f (tyB t++r)=.ok (t,(tyB t).length)
 |0,⟨k,xs⟩,r,_,h=>by
  have:=(ty_open h).1
  omega
 |f+1,⟨k,xs⟩,r,hf,h=>by
  obtain⟨hd,hk,htt⟩:=ty_open h
  have hb:=kind_byte hk
  have hki:((k.toNat:Nat):Int)=k:=by omega
  rcases htt with ⟨h67,rfl⟩ | ⟨h67,x,rfl,hx⟩
  ·rw[tyB_mk,if_neg h67,List.cons_append,rdT,hb,if_neg (by omega),if_pos (by omega),hki]
   rfl
  ·have ih:=rdT_put f x r (by omega) (by rw[show 5-f=5-(f+1)+1 by omega];exact hx)
   rw[tyB_mk,if_pos h67,List.cons_append,rdT,hb,if_neg (by omega),if_neg (by omega)]
   have e1:([x].map tyB).headD []=tyB x:=rfl
   rw[e1,ih,hki]
   rfl
theorem rdT_ok:∀(f:Nat) (l:L8) (t:Ty) (j:Nat),f<=4->rdT f l=.ok (t,j)->j=(tyB t).length∧(∃r,l=tyB t++r)∧Ty.check (5-f) t=0∧t.wf
 |0,l,t,j,_,h=>by rw[rdT] at h;cases h
 |f+1,[],t,j,_,h=>by rw[rdT] at h;cases h
 |f+1,c::r,t,j,hf,h=>by
  rw[rdT] at h
  by_cases h1:c.toNat<1∨7<c.toNat
  ·rw[if_pos h1] at h;cases h
  rw[if_neg h1] at h
  have hc:UInt8.ofNat ((c.toNat:Int)).toNat=c:=by
   rw[Int.toNat_natCast,UInt8.ofNat_toNat]
  by_cases h2:c.toNat≠6∧c.toNat≠7
  ·rw[if_pos h2] at h
   simp only[Except.ok.injEq,Prod.mk.injEq] at h
   obtain⟨rfl,rfl⟩:=h
   rw[tyB_mk,if_neg (by omega),hc]
   exact⟨rfl,⟨r,rfl⟩,ty_leaf (by omega) (by omega) (by omega),Ty.wf_mk.2 ⟨by omega,fun x hx=>by cases hx⟩⟩
  ·rw[if_neg h2] at h
   split at h
   ·cases h
   ·next x j1 hx=>
    simp only[Except.ok.injEq,Prod.mk.injEq] at h
    obtain⟨rfl,rfl⟩:=h
    obtain⟨rfl,⟨r2,rfl⟩,h4,h5⟩:=rdT_ok f r x j1 (by omega) hx
    rw[tyB_mk,if_pos (by omega),hc]
    have e1:([x].map tyB).headD []=tyB x:=rfl
    rw[e1]
    exact⟨rfl,⟨r2,rfl⟩,ty_one (by omega) (by omega) (by rw[show 5-(f+1)+1=5-f by omega];exact h4),Ty.wf_mk.2 ⟨by omega,fun y hy=>by simp at hy;subst hy;exact h5⟩⟩
end Sch
end
section
namespace Sch
theorem v0_fix:V.fix V0=V0:=by unfold V0;rw[V.fix_mk,fixB_zero];rfl
theorem v0_wf:V0.wf:=V.wf_mk.2 ⟨by omega,by omega,by omega,Nat.zero_le _,fun x hx=>by cases hx⟩
theorem col_open{l:List Col}{c:Col}(h:colErr l c=0):name c.name=true∧l.any (fun x=>decide (x.name=c.name))=false∧Ty.check 1 c.ty=0∧(c.has=false->V.fix c.dflt=V0)∧(c.has=true->chk 1 c.dflt=0∧of c.dflt c.ty=true):=by
 unfold colErr at h
 by_cases h1:name c.name=false
 ·rw[if_pos h1] at h;cases h
 rw[if_neg h1] at h
 by_cases h2:l.any (fun x=>decide (x.name=c.name))=true
 ·rw[if_pos h2] at h;cases h
 rw[if_neg h2] at h
 by_cases h3:Ty.check 1 c.ty≠0
 ·rw[if_pos h3] at h;exact absurd h h3
 rw[if_neg h3] at h
 refine⟨by simpa using h1,by simpa using h2,by simpa using h3,fun hh=>?_,fun hh=>?_⟩
 ·rw[if_pos hh] at h
  by_cases h4:V.same c.dflt V0=true
  ·rw[(same_iff _ _).1 h4,v0_fix]
  ·rw[if_neg h4] at h;cases h
 ·rw[if_neg (by rw[hh];decide)] at h
  by_cases h4:chk 1 c.dflt≠0
  ·rw[if_pos h4] at h;exact absurd h h4
  rw[if_neg h4] at h
  refine⟨by simpa using h4,?_⟩
  by_cases h5:is c.dflt c.ty=true
  ·unfold is at h5
   simp only[Bool.and_eq_true] at h5
   exact h5.2
  ·rw[if_neg h5] at h;cases h
theorem col_make{l:List Col}{c:Col}(h1:name c.name=true)(h2:l.any (fun x=>decide (x.name=c.name))=false)(h3:Ty.check 1 c.ty=0)(h4:c.has=false->V.fix c.dflt=V0)(h5:c.has=true->chk 1 c.dflt=0∧of c.dflt c.ty=true):colErr l c=0:=by
 unfold colErr
 rw[if_neg (by rw[h1];decide),if_neg (by rw[h2];decide),if_neg (by simp[h3])]
 cases hh:c.has
 ·rw[if_pos rfl,if_pos ((same_iff _ _).2 (by rw[h4 hh,v0_fix]))]
 ·obtain⟨h6,h7⟩:=h5 hh
  rw[if_neg (by decide),if_neg (by simp[h6]),if_pos (by unfold is;simp[h3,h6,h7])]
theorem colErr_names{l l':List Col}(h:l.map Col.name=l'.map Col.name)(c:Col):colErr l c=colErr l' c:=by
 have key:∀(l l':List Col),l.map Col.name=l'.map Col.name->l.any (fun x=>decide (x.name=c.name))=l'.any (fun x=>decide (x.name=c.name)):=by
  intro l
  induction l with
  |nil=>intro l' h;cases l' with
   |nil=>rfl
   |cons y s=>simp at h
  |cons x r ih=>intro l' h;cases l' with
   |nil=>simp at h
   |cons y s=>
    simp only[List.map_cons,List.cons.injEq] at h
    rw[List.any_cons,List.any_cons,h.1,ih s h.2]
 unfold colErr
 rw[key l l' h]
theorem name_size{t:ByteArray}(h:name t=true):1<=t.size∧t.size<=16:=by
 unfold name nameL at h
 simp only[Bool.and_eq_true,decide_eq_true_eq] at h
 have hs:t.data.toList.length=t.size:=by rw[Array.length_toList];rfl
 omega
theorem rdC_put{l:List Col}{c:Col}(r:L8)(h:colErr l c=0)(hw:c.wf):rdC l (cB c++r)=.ok (c.fix,(cB c).length):=by
 obtain⟨h1,h2,h3,h4,h5⟩:=col_open h
 obtain⟨n,t,has,v⟩:=c
 obtain⟨-,wt,wv⟩:=hw
 simp only at h1 h2 h3 h4 h5 wv
 obtain⟨hn1,hn2⟩:=name_size h1
 have hs:n.data.toList.length=n.size:=by rw[Array.length_toList];rfl
 unfold cB Col.fix
 simp only
 rw[List.append_assoc,List.append_assoc,List.append_assoc,rdC,num_put _ _ (by omega)]
 dsimp only
 rw[if_neg (by omega),text_put 16 70 n _ hn2 (by omega)]
 dsimp only
 rw[if_neg (by rw[h1];decide),if_neg (by rw[h2];decide)]
 have d1:∀q:L8,(Leb.put n.size++(n.data.toList++q)).drop ((Leb.put n.size).length+n.size)=q:=fun q=>by
  rw[<-List.append_assoc]
  exact List.drop_left' (by rw[List.length_append,hs])
 rw[d1,rdT_put 4 t _ (by omega) h3]
 dsimp only
 have d2:∀q:L8,(Leb.put n.size++(n.data.toList++(tyB t++q))).drop ((Leb.put n.size).length+n.size+(tyB t).length)=q:=fun q=>by
  rw[<-List.append_assoc,<-List.append_assoc]
  exact List.drop_left' (by rw[List.length_append,List.length_append,hs])
 rw[d2]
 cases has
 ·simp only[Bool.false_eq_true,if_false,List.cons_append,List.nil_append]
  rw[show(0:UInt8)=UInt8.ofNat 0 from rfl,bit_put 0 _ (by omega)]
  dsimp only
  rw[if_pos rfl,h4 rfl]
  simp only[List.length_append,List.length_cons,List.length_nil,hs]
  congr 2
  omega
 ·simp only[if_true,List.cons_append]
  obtain⟨h6,h7⟩:=h5 rfl
  rw[show(1:UInt8)=UInt8.ofNat 1 from rfl,bit_put 1 _ (by omega)]
  dsimp only
  rw[if_neg (by decide)]
  have d3:∀q:L8,(Leb.put n.size++(n.data.toList++(tyB t++UInt8.ofNat 1::q))).drop ((Leb.put n.size).length+n.size+(tyB t).length+1)=q:=fun q=>by
   rw[show UInt8.ofNat 1::q=[UInt8.ofNat 1]++q from rfl,<-List.append_assoc,<-List.append_assoc,<-List.append_assoc]
   exact List.drop_left' (by rw[List.length_append,List.length_append,List.length_append,hs];rfl)
  rw[d3,rdV_put t 1 v r h3 h6 h7 wv]
  dsimp only
  simp only[List.length_append,List.length_cons,hs]
  congr 2
  omega
theorem rdC_ok{l:List Col}{b:L8}{c:Col}{j:Nat}(h:rdC l b=.ok (c,j)):j=(cB c).length∧(∃r,b=cB c++r)∧colErr l c=0∧c.fix=c∧c.wf:=by
 rw[rdC] at h
 split at h
 ·cases h
 ·next n k hn=>
  by_cases hn0:n=0
  ·rw[if_pos hn0] at h;cases h
  rw[if_neg hn0] at h
  split at h
  ·cases h
  ·next s j1 hs=>
   obtain⟨t1,t2,rfl,r,rfl⟩:=text_ok hs
   have hsl:s.data.toList.length=s.size:=by rw[Array.length_toList];rfl
   by_cases h1:name s=false
   ·rw[if_pos h1] at h;cases h
   rw[if_neg h1] at h
   by_cases h2:l.any (fun x=>decide (x.name=s))=true
   ·rw[if_pos h2] at h;cases h
   rw[if_neg h2] at h
   have d1:∀q:L8,(Leb.put s.size++(s.data.toList++q)).drop ((Leb.put s.size).length+s.size)=q:=fun q=>by
    rw[<-List.append_assoc]
    exact List.drop_left' (by rw[List.length_append,hsl])
   rw[d1] at h
   split at h
   ·cases h
   ·next t j2 ht=>
    obtain⟨rfl,⟨r2,rfl⟩,t3,t4⟩:=rdT_ok 4 _ _ _ (by omega) ht
    have d2:∀q:L8,(Leb.put s.size++(s.data.toList++(tyB t++q))).drop ((Leb.put s.size).length+s.size+(tyB t).length)=q:=fun q=>by
     rw[<-List.append_assoc,<-List.append_assoc]
     exact List.drop_left' (by rw[List.length_append,List.length_append,hsl])
    rw[d2] at h
    split at h
    ·cases h
    ·next f j3 hf=>
     obtain⟨f1,rfl,r3,rfl⟩:=bit_ok hf
     by_cases hf0:f=0
     ·rw[if_pos hf0] at h
      simp only[Except.ok.injEq,Prod.mk.injEq] at h
      obtain⟨rfl,rfl⟩:=h
      subst hf0
      unfold cB Col.fix Col.wf
      simp only[Bool.false_eq_true,if_false]
      refine⟨?_,⟨r3,?_⟩,?_,?_,⟨by omega,t4,v0_wf⟩⟩
      ·simp only[List.length_append,List.length_cons,List.length_nil,hsl];omega
      ·simp only[List.append_assoc,List.cons_append,List.nil_append];rfl
      ·exact col_make (by simpa using h1) (by simpa using h2) t3 (fun _=>v0_fix) (fun hc=>by cases hc)
      ·rw[v0_fix]
     ·rw[if_neg hf0] at h
      have hf1:f=1:=by omega
      subst hf1
      have d3:∀q:L8,(Leb.put s.size++(s.data.toList++(tyB t++UInt8.ofNat 1::q))).drop ((Leb.put s.size).length+s.size+(tyB t).length+1)=q:=fun q=>by
       rw[show UInt8.ofNat 1::q=[UInt8.ofNat 1]++q from rfl,<-List.append_assoc,<-List.append_assoc,<-List.append_assoc]
       exact List.drop_left' (by rw[List.length_append,List.length_append,List.length_append,hsl];rfl)
      rw[d3] at h
      split at h
      ·cases h
      ·next v j4 hv=>
       simp only[Except.ok.injEq,Prod.mk.injEq] at h
       obtain⟨rfl,rfl⟩:=h
       obtain⟨rfl,⟨r4,rfl⟩,v1,v2,v3,v4⟩:=rdV_ok t 1 _ _ _ t3 hv
       unfold cB Col.fix Col.wf
       simp only[if_true]
       refine⟨?_,⟨r4,?_⟩,?_,?_,⟨by omega,t4,v4⟩⟩
       ·simp only[List.length_append,List.length_cons,hsl];omega
       ·simp only[List.append_assoc,List.cons_append];rfl
       ·exact col_make (by simpa using h1) (by simpa using h2) t3 (fun hc=>by cases hc) (fun _=>⟨v1,v2⟩)
       ·rw[v3]
theorem rdCs_put(r:L8):∀(s l:List Col),colsErr l s=0->(∀c∈s,c.wf)->rdCs s.length (l.map Col.fix) ((s.map cB).flatten++r)=.ok ((l++s).map Col.fix,(s.map cB).flatten.length)
 | [],l,_,_=>by
  rw[List.append_nil]
  rfl
 |c::s,l,h,hw=>by
  rw[colsErr] at h
  by_cases hc:colErr l c=0
  ·rw[if_pos hc] at h
   have hn:colErr (l.map Col.fix) c=0:=by
    rw[colErr_names (l':=l) ?_ c,hc]
    rw[List.map_map]
    rfl
   have ih:=rdCs_put r s (l++[c]) h (fun x hx=>hw x (List.mem_cons_of_mem _ hx))
   rw[List.length_cons,rdCs,List.map_cons,List.flatten_cons,List.append_assoc,rdC_put _ hn (hw c (by simp))]
   dsimp only
   rw[List.drop_left]
   rw[List.map_append,List.map_cons,List.map_nil] at ih
   rw[ih]
   dsimp only
   rw[List.append_assoc,List.singleton_append,List.length_append]
  ·rw[if_neg hc] at h;exact absurd h hc
theorem rdCs_ok:∀(m:Nat) (l:List Col) (b:L8) (l2:List Col) (j:Nat),rdCs m l b=.ok (l2,j)->∃s,l2=l++s∧s.length=m∧j=(s.map cB).flatten.length∧(∃r,b=(s.map cB).flatten++r)∧colsErr l s=0∧∀c∈s,c.fix=c∧c.wf
 |0,l,b,l2,j,h=>by
  rw[rdCs] at h
  simp only[Except.ok.injEq,Prod.mk.injEq] at h
  obtain⟨rfl,rfl⟩:=h
  exact⟨[],by simp,rfl,rfl,⟨b,rfl⟩,rfl,fun c hc=>by cases hc⟩
 |m+1,l,b,l2,j,h=>by
  rw[rdCs] at h
  split at h
  ·cases h
  ·next c j1 hc=>
   obtain⟨rfl,⟨r,rfl⟩,c1,c2,c3⟩:=rdC_ok hc
   rw[List.drop_left] at h
   split at h
   ·cases h
   ·next l3 j2 hl=>
    simp only[Except.ok.injEq,Prod.mk.injEq] at h
    obtain⟨rfl,rfl⟩:=h
    obtain⟨s,rfl,rfl,rfl,⟨r2,rfl⟩,s1,s2⟩:=rdCs_ok m (l++[c]) r l3 j2 hl
    refine⟨c::s,by simp,rfl,by rw[List.map_cons,List.flatten_cons,List.length_append],⟨r2,by rw[List.map_cons,List.flatten_cons,List.append_assoc]⟩,?_,fun x hx=>?_⟩
    ·rw[colsErr,if_pos c1,s1]
    ·rcases List.mem_cons.1 hx with rfl | hx
     ·exact⟨c2,c3⟩
     ·exact s2 x hx
theorem err_open{s:List Col}(h:err s=0):1<=s.length∧s.length<=16∧colsErr [] s=0∧(bytes s).length<=1024:=by
 unfold err at h
 by_cases h1:s.length=0
 ·rw[if_pos h1] at h;cases h
 rw[if_neg h1] at h
 by_cases h2:16<s.length
 ·rw[if_pos h2] at h;cases h
 rw[if_neg h2] at h
 by_cases h3:colsErr [] s≠0
 ·rw[if_pos h3] at h;exact absurd h h3
 rw[if_neg h3] at h
 by_cases h4:1024<(bytes s).length
 ·rw[if_pos h4] at h;cases h
 exact⟨by omega,by omega,by simpa using h3,by omega⟩
theorem err_make{s:List Col}(h1:1<=s.length)(h2:s.length<=16)(h3:colsErr [] s=0)(h4:(bytes s).length<=1024):err s=0:=by
 unfold err
 rw[if_neg (by omega),if_neg (by omega),if_neg (by simp[h3]),if_neg (by omega)]
theorem read_put{s:List Col}(h:err s=0)(hw:∀c∈s,c.wf):read (bytes s)=.ok (s.map Col.fix):=by
 obtain⟨h1,h2,h3,h4⟩:=err_open h
 have e:=rdCs_put [] s [] h3 hw
 rw[List.append_nil,List.nil_append,List.map_nil] at e
 have e0:bytes s=Leb.put s.length++(s.map cB).flatten:=rfl
 rw[read,if_neg (by omega),e0,num_put _ _ (by omega)]
 dsimp only
 rw[if_neg (by omega),if_neg (by omega),List.drop_left,e]
 dsimp only
 rw[if_pos (by rw[List.length_append])]
theorem read_ok{b:L8}{s:List Col}(h:read b=.ok s):err s=0∧bytes s=b∧∀c∈s,c.fix=c∧c.wf:=by
 rw[read] at h
 by_cases h0:1024<b.length
 ·rw[if_pos h0] at h;cases h
 rw[if_neg h0] at h
 split at h
 ·cases h
 ·next n k hn=>
  obtain⟨n1,r,rfl,rfl⟩:=num_ok hn
  by_cases h1:n=0
  ·rw[if_pos h1] at h;cases h
  rw[if_neg h1] at h
  by_cases h2:16<n
  ·rw[if_pos h2] at h;cases h
  rw[if_neg h2,List.drop_left] at h
  split at h
  ·cases h
  ·next l j hl=>
   by_cases h3:(Leb.put n).length+j=(Leb.put n++r).length
   ·rw[if_pos h3] at h
    simp only[Except.ok.injEq] at h
    subst h
    obtain⟨s,hs,rfl,rfl,⟨r2,rfl⟩,s1,s2⟩:=rdCs_ok _ _ _ _ _ hl
    rw[List.nil_append] at hs
    subst hs
    have hr:r2=[]:=by
     rw[List.length_append,List.length_append] at h3
     exact List.eq_nil_of_length_eq_zero (by omega)
    subst hr
    rw[List.append_nil] at h0 ⊢
    have hb:bytes l=Leb.put l.length++(l.map cB).flatten:=rfl
    exact⟨err_make (by omega) (by omega) s1 (by rw[hb];omega),hb,s2⟩
   ·rw[if_neg h3] at h;cases h
theorem colSame_iff(c d:Col):colSame c d=true↔c.fix=d.fix:=by
 obtain⟨n,t,a,v⟩:=c
 obtain⟨n',t',a',v'⟩:=d
 unfold colSame Col.fix
 simp only[Bool.and_eq_true,decide_eq_true_eq,beq_iff_eq,Ty.same_iff,same_iff,Col.mk.injEq]
 constructor
 ·rintro⟨⟨⟨h1,h2⟩,h3⟩,h4⟩;exact⟨h1,h3,h2,h4⟩
 ·rintro⟨h1,h3,h2,h4⟩;exact⟨⟨⟨h1,h2⟩,h3⟩,h4⟩
theorem same_fix:∀(s t:List Col),same s t=true↔s.map Col.fix=t.map Col.fix
 | [],[]=>by simp[same]
 | [],d::t=>by simp[same]
 |c::s,[]=>by simp[same]
 |c::s,d::t=>by
  rw[same,Bool.and_eq_true,List.map_cons,List.map_cons,List.cons.injEq,colSame_iff,same_fix s t]
end Sch
end
section
namespace Sch
theorem flatten_le{α:Type}(f:α->L8)(B:Nat):∀xs:List α,(∀x∈xs,(f x).length<=B)->(xs.map f).flatten.length<=xs.length*B
 | [],_=>by simp
 |x::xs,h=>by
  have h1:=h x (by simp)
  have h2:=flatten_le f B xs (fun y hy=>h y (List.mem_cons_of_mem _ hy))
  rw[List.map_cons,List.flatten_cons,List.length_append,List.length_cons,Nat.add_mul]
  omega
theorem vH_len{k i:Int}{b:Nat}{t:ByteArray}{n:Nat}(ht:t.size<=1024):(vH k i b t n).length<=1034:=by
 have hs:t.data.toList.length=t.size:=by rw[Array.length_toList];rfl
 have hp:=Leb.put_length_le
 unfold vH
 split
 ·simp
 split
 ·have:=hp (Leb.zig i);omega
 split
 ·rw[le_len];omega
 split
 ·have:=hp t.size;rw[List.length_append];omega
 split
 ·simp
 split
 ·have:=hp n;omega
 ·simp
theorem vB_len:∀(v:V) (d:Nat),chk d v=0->(vB v).length<=1100*260 ^ (4-d):=by
 refine V.ind ?_
 intro k i b t xs ih d h
 obtain⟨hd,ho,ht,hx,-,hc⟩:=chk_open h
 have h1:=vH_len (k:=k) (i:=i) (b:=b) (n:=xs.length) ht
 have hpos:1<=260 ^ (4-d):=Nat.one_le_pow _ _ (by decide)
 rw[vB_mk,List.length_append]
 split
 ·rw[List.length_nil];omega
 ·cases xs with
  |nil=>simp only[List.map_nil,List.flatten_nil,List.length_nil] at h1 ⊢;omega
  |cons x r=>
   have hx1:=hc x (by simp)
   obtain⟨k',i',b',t',ys⟩:=x
   have hd1:=(chk_open hx1).1
   have hf:=flatten_le vB (1100*260 ^ (4-(d+1))) (.mk k' i' b' t' ys::r) (fun y hy=>ih y hy (d+1) (hc y hy))
   have e:260 ^ (4-d)=260 ^ (4-(d+1))*260:=by rw[<-Nat.pow_succ];congr 1;omega
   have hp2:1<=260 ^ (4-(d+1)):=Nat.one_le_pow _ _ (by decide)
   rw[e]
   generalize 260 ^ (4-(d+1))=q at *
   have h3:(V.mk k' i' b' t' ys::r).length*(1100*q)<=256*(1100*q):=Nat.mul_le_mul_right _ hx
   have o:=own_open ho
   have hk67:k=6∨k=7:=by
    obtain⟨-,-,-,-,o5,-⟩:=o
    simp at o5
    exact o5
   have hv:(vH k i b t (V.mk k' i' b' t' ys::r).length).length<=10:=by
    have hp:=Leb.put_length_le (V.mk k' i' b' t' ys::r).length
    unfold vH
    rcases hk67 with rfl | rfl
    ·rw[if_neg (by decide),if_neg (by decide),if_neg (by decide),if_neg (by decide),if_pos rfl];simp
    ·rw[if_neg (by decide),if_neg (by decide),if_neg (by decide),if_neg (by decide),if_neg (by decide),if_pos rfl];exact hp
   omega
theorem vB_small{v:V}{d:Nat}(h:chk d v=0)(hd:1<=d):(vB v).length<=20000000000:=by
 have h1:=vB_len v d h
 have h2:260 ^ (4-d)<=260 ^ 3:=Nat.pow_le_pow_right (by decide) (by omega)
 have e:260 ^ 3=17576000:=by decide
 rw[e] at h2
 omega
theorem tyB_len:∀(x:Ty) (d:Nat),Ty.check d x=0->(tyB x).length+d<=5:=by
 refine Ty.ind ?_
 intro k xs ih d h
 obtain⟨h1,h2,h3⟩:=ty_open h
 rcases h3 with ⟨h3,rfl⟩ | ⟨h3,y,rfl,hy⟩
 ·rw[tyB_mk,if_neg h3,List.length_singleton];omega
 ·have:=ih y (by simp) (d+1) hy
  rw[tyB_mk,if_pos h3,List.length_cons]
  have e:([y].map tyB).headD []=tyB y:=rfl
  rw[e]
  omega
theorem cB_len{l:List Col}{c:Col}(h:colErr l c=0):(cB c).length<=20000000040:=by
 obtain⟨h1,-,h3,-,h5⟩:=col_open h
 have hn:=(name_size h1).2
 have hs:c.name.data.toList.length=c.name.size:=by rw[Array.length_toList];rfl
 have hp:=Leb.put_length_le c.name.size
 have ht:=tyB_len c.ty 1 h3
 unfold cB
 simp only[List.length_append,List.length_cons,hs]
 cases hh:c.has
 ·simp;omega
 ·have:=vB_small (h5 hh).1 (by omega)
  simp;omega
theorem colsErr_mem:∀(s l:List Col),colsErr l s=0->∀c∈s,∃l',colErr l' c=0
 | [],_,_,c,hc=>by cases hc
 |d::r,l,h,c,hc=>by
  rw[colsErr] at h
  by_cases h0:colErr l d=0
  ·rw[if_pos h0] at h
   rcases List.mem_cons.1 hc with rfl | hc
   ·exact⟨l,h0⟩
   ·exact colsErr_mem r _ h c hc
  ·rw[if_neg h0] at h;exact absurd h h0
theorem flat_small{s:List Col}(h:colsErr [] s=0)(hn:s.length<=16):(s.map cB).flatten.length<=320000000640:=by
 have h1:=flatten_le cB 20000000040 s (fun c hc=>by obtain⟨l,hl⟩:=colsErr_mem s [] h c hc;exact cB_len hl)
 have h2:s.length*20000000040<=16*20000000040:=Nat.mul_le_mul_right _ hn
 omega
theorem flatten_take{α:Type}(f:α->L8)(xs:List α)(j:Nat)(h:j<xs.length):((xs.take (j+1)).map f).flatten=((xs.take j).map f).flatten++f xs[j]:=by
 rw[List.take_succ_eq_append_getElem h,List.map_append,List.flatten_append]
 simp
theorem flatten_take_le{α:Type}(f:α->L8)(xs:List α)(j:Nat):((xs.take j).map f).flatten.length<=(xs.map f).flatten.length:=by
 have e:xs.map f=(xs.take j).map f++(xs.drop j).map f:=by rw[<-List.map_append,List.take_append_drop]
 rw[e,List.flatten_append,List.length_append]
 omega
end Sch
end
section
open Go.RowKit
namespace Sch
theorem bit_ne{l:L8}{e:Nat}(h:bit l=.error e):e≠0:=by
 unfold bit at h
 split at h
 ·cases h;decide
 ·split at h
  ·cases h;decide
  ·cases h
theorem num_ne{l:L8}{e:Nat}(h:num l=.error e):e≠0:=by
 unfold num at h
 split at h
 ·cases h
 ·next hn=>cases h;exact hn
theorem text_ne{most long:Nat}{l:L8}{e:Nat}(hl:long≠0)(h:text most long l=.error e):e≠0:=by
 unfold text at h
 split at h
 ·next hn=>cases h;exact num_ne hn
 ·split at h
  ·cases h;exact hl
  ·split at h
   ·cases h;decide
   ·cases h
theorem float_ne{l:L8}{e:Nat}(h:float l=.error e):e≠0:=by
 unfold float at h
 split at h
 ·cases h;decide
 ·split at h
  ·cases h
  ·cases h;decide
theorem scalar_ne{k:Int}{l:L8}{e:Nat}(h:scalar k l=.error e):e≠0:=by
 unfold scalar at h
 split at h
 ·split at h
  ·next hn=>cases h;exact bit_ne hn
  ·cases h
 ·split at h
  ·split at h
   ·next hn=>cases h;exact num_ne hn
   ·cases h
  ·split at h
   ·split at h
    ·next hn=>cases h;exact float_ne hn
    ·cases h
   ·split at h
    ·next hn=>cases h;exact text_ne (by decide) hn
    ·split at h
     ·cases h;decide
     ·cases h
theorem many_ne{k:Int}{l:L8}{e:Nat}(h:many k l=.error e):e≠0:=by
 unfold many at h
 split at h
 ·exact bit_ne h
 ·split at h
  ·next hn=>cases h;exact num_ne hn
  ·split at h
   ·cases h;decide
   ·cases h
theorem rdN_ne{f:L8->Except Nat (V×Nat)}(hf:∀l e,f l=.error e->e≠0):∀(m:Nat) (l:L8) (e:Nat),rdN f m l=.error e->e≠0
 |0,l,e,h=>by rw[rdN] at h;cases h
 |m+1,l,e,h=>by
  rw[rdN] at h
  split at h
  ·next hn=>cases h;exact hf _ _ hn
  ·split at h
   ·next hn=>cases h;exact rdN_ne hf m _ _ hn
   ·cases h
theorem rdV_ne:∀(t:Ty) (d:Nat) (l:L8) (e:Nat),Ty.check d t=0->rdV t l=.error e->e≠0:=by
 intro t
 refine Ty.ind (P:=fun t=>∀(d:Nat) (l:L8) (e:Nat),Ty.check d t=0->rdV t l=.error e->e≠0) ?_ t
 intro k xs ih d l e ht h
 obtain⟨hd,hk,htt⟩:=ty_open ht
 rw[rdV_mk] at h
 rcases htt with ⟨h67,rfl⟩ | ⟨h67,x,rfl,hx⟩
 ·rw[if_pos (by omega)] at h
  exact scalar_ne h
 ·rw[if_neg (by omega)] at h
  split at h
  ·next hn=>cases h;exact many_ne hn
  ·split at h
   ·next hn=>cases h;exact rdN_ne (f:=rdV x) (fun l e h=>ih x (by simp) (d+1) l e hx h) _ _ _ hn
   ·cases h
theorem rdT_ne:∀(f:Nat) (l:L8) (e:Nat),rdT f l=.error e->e≠0
 |0,l,e,h=>by rw[rdT] at h;cases h;decide
 |f+1,[],e,h=>by rw[rdT] at h;cases h;decide
 |f+1,c::r,e,h=>by
  rw[rdT] at h
  split at h
  ·cases h;decide
  ·split at h
   ·cases h
   ·split at h
    ·next hn=>cases h;exact rdT_ne f r _ hn
    ·cases h
theorem rdC_ne{l:List Col}{b:L8}{e:Nat}(h:rdC l b=.error e):e≠0:=by
 rw[rdC] at h
 split at h
 ·next hn=>cases h;exact num_ne hn
 ·split at h
  ·cases h;decide
  ·split at h
   ·next hn=>cases h;exact text_ne (by decide) hn
   ·split at h
    ·cases h;decide
    ·split at h
     ·cases h;decide
     ·split at h
      ·next hn=>cases h;exact rdT_ne _ _ _ hn
      ·next t j2 ht=>
       split at h
       ·next hn=>cases h;exact bit_ne hn
       ·split at h
        ·cases h
        ·split at h
         ·next hn=>cases h;exact rdV_ne t 1 _ _ (rdT_ok 4 _ t j2 (Nat.le_refl 4) ht).2.2.1 hn
         ·cases h
theorem rdCs_ne:∀(m:Nat) (l:List Col) (b:L8) (e:Nat),rdCs m l b=.error e->e≠0
 |0,l,b,e,h=>by rw[rdCs] at h;cases h
 |m+1,l,b,e,h=>by
  rw[rdCs] at h
  split at h
  ·next hn=>cases h;exact rdC_ne hn
  ·split at h
   ·next hn=>cases h;exact rdCs_ne m _ _ _ hn
   ·cases h
theorem read_ne{b:L8}{e:Nat}(h:read b=.error e):e≠0:=by
 rw[read] at h
 split at h
 ·cases h;decide
 ·split at h
  ·next hn=>cases h;exact num_ne hn
  ·split at h
   ·cases h;decide
   ·split at h
    ·cases h;decide
    ·split at h
     ·next hn=>cases h;exact rdCs_ne _ _ _ _ hn
     ·split at h
      ·cases h
      ·cases h;decide
end Sch
end
section
open Go.RowKit
def aA(n:ByteArray)(k:Int)(tp:OA)(tn tc:Nat)(h:Bool)(vk vi:Int)(vb:Nat)(vt:ByteArray)(vp:OA)(vn vc:Nat):AV:=#[.string n,.int .i64 k,.slice tp tn tc,.bool h,.int .i64 vk,.int .i64 vi,.float .f64 vb,.string vt,.slice vp vn vc]
structure dC(w:World)(u:AV)(c:Col):Prop where
 out:∃k tp tn tc vk vi vb vt vp vn vc,u=aA c.name k tp tn tc c.has vk vi vb vt vp vn vc∧ay w (al k tp tn tc) c.ty∧ax w (cells5 vk vi vb vt vp vn vc) c.dflt
theorem dC.on{w w':World}{u:AV}{c:Col}(h:dC w u c)(hb:Below w.1.size w w'):dC w' u c:=by
 obtain⟨k,tp,tn,tc,vk,vi,vb,vt,vp,vn,vc,h1,h2,h3⟩:=h.out
 exact⟨k,tp,tn,tc,vk,vi,vb,vt,vp,vn,vc,h1,h2.on hb,h3.on hb⟩
def At9(w:World)(blk o:Nat)(n:ByteArray)(k:Int)(tp:OA)(tn tc:Nat)(h:Bool)(vk vi:Int)(vb:Nat)(vt:ByteArray)(vp:OA)(vn vc:Nat):Prop :=
 w.cell? ⟨blk,o,none⟩=some (.string n)∧w.cell? ⟨blk,o+1,none⟩=some (.int .i64 k)∧w.cell? ⟨blk,o+2,none⟩=some (.slice tp tn tc)∧w.cell? ⟨blk,o+3,none⟩=some (.bool h)∧w.cell? ⟨blk,o+4,none⟩=some (.int .i64 vk)∧w.cell? ⟨blk,o+5,none⟩=some (.int .i64 vi)∧w.cell? ⟨blk,o+6,none⟩=some (.float .f64 vb)∧w.cell? ⟨blk,o+7,none⟩=some (.string vt)∧w.cell? ⟨blk,o+8,none⟩=some (.slice vp vn vc)
theorem At9.on{w w':World}{blk o:Nat}{n:ByteArray}{k:Int}{tp:OA}{tn tc:Nat}{h:Bool}{vk vi:Int}{vb:Nat}{vt:ByteArray}{vp:OA}{vn vc:Nat}(hh:At9 w blk o n k tp tn tc h vk vi vb vt vp vn vc)(hb:Below w.1.size w w'):At9 w' blk o n k tp tn tc h vk vi vb vt vp vn vc:=by
 obtain⟨h0,h1,h2,h3,h4,h5,h6,h7,h8⟩:=hh
 exact⟨ab hb h0,ab hb h1,ab hb h2,ab hb h3,ab hb h4,ab hb h5,ab hb h6,ab hb h7,ab hb h8⟩
structure nI(w:World)(p:OA)(j:Nat)(u:AV):Prop where
 lies:∃blk off n k tp tn tc h vk vi vb vt vp vn vc,p=some ⟨blk,off,none⟩∧blk<w.1.size∧u=aA n k tp tn tc h vk vi vb vt vp vn vc∧At9 w blk (off+j*9) n k tp tn tc h vk vi vb vt vp vn vc
theorem nI.on{w w':World}{p:OA}{j:Nat}{u:AV}(h:nI w p j u)(hb:Below w.1.size w w'):nI w' p j u:=by
 obtain⟨blk,off,n,k,tp,tn,tc,h,vk,vi,vb,vt,vp,vn,vc,h1,h2,h3,h4⟩:=h.lies
 exact⟨blk,off,n,k,tp,tn,tc,h,vk,vi,vb,vt,vp,vn,vc,h1,by have:=hb.size;omega,h3,h4.on hb⟩
def bg(w:World)(p:OA)(s:List Col):Prop:=∀j (hj:j<s.length),∃u,dC w u s[j]∧nI w p j u
theorem bg.on{w w':World}{p:OA}{s:List Col}(h:bg w p s)(hb:Below w.1.size w w'):bg w' p s:=fun j hj=>by
 obtain⟨u,h1,h2⟩:=h j hj
 exact⟨u,h1.on hb,h2.on hb⟩
theorem bg.take{w:World}{p:OA}{s:List Col}(h:bg w p s)(n:Nat):bg w p (s.take n):=fun j hj=>by
 have hj2:j<s.length:=by rw[List.length_take] at hj;omega
 obtain⟨u,h1,h2⟩:=h j hj2
 exact⟨u,by simpa using h1,h2⟩
theorem bg.at{w:World}{p:OA}{s:List Col}(h:bg w p s)(j:Nat)(hj:j<s.length):∃blk off k tp tn tc vk vi vb vt vp vn vc,p=some ⟨blk,off,none⟩∧blk<w.1.size∧At9 w blk (off+j*9) s[j].name k tp tn tc s[j].has vk vi vb vt vp vn vc∧ay w (al k tp tn tc) s[j].ty∧ax w (cells5 vk vi vb vt vp vn vc) s[j].dflt:=by
 obtain⟨u,h1,h2⟩:=h j hj
 obtain⟨blk,off,n,k,tp,tn,tc,hs,vk,vi,vb,vt,vp,vn,vc,e1,e2,e3,e4⟩:=h2.lies
 obtain⟨k',tp',tn',tc',vk',vi',vb',vt',vp',vn',vc',g1,g2,g3⟩:=h1.out
 rw[e3] at g1
 simp only[aA] at g1
 injection g1 with g1
 injection g1 with q0 g1
 injection g1 with q1 g1
 injection g1 with q2 g1
 injection g1 with q3 g1
 injection g1 with q4 g1
 injection g1 with q5 g1
 injection g1 with q6 g1
 injection g1 with q7 g1
 injection g1 with q8 g1
 injection q0 with q0
 injection q1 with _ q1
 injection q2 with q2 q2a q2b
 injection q3 with q3
 injection q4 with _ q4
 injection q5 with _ q5
 injection q6 with _ q6
 injection q7 with q7
 injection q8 with q8 q8a q8b
 subst q0 q1 q2 q2a q2b q3 q4 q5 q6 q7 q8 q8a q8b
 exact⟨blk,off,k,tp,tn,tc,vk,vi,vb,vt,vp,vn,vc,e1,e2,e4,g2,g3⟩
structure nG(w:World)(u:AV)(s:List Col):Prop where
 out:∃p c,u=#[.slice p s.length c]∧s.length*120<=140737488351232∧s.length<=c∧bg w p s
theorem nG.on{w w':World}{u:AV}{s:List Col}(h:nG w u s)(hb:Below w.1.size w w'):nG w' u s:=by
 obtain⟨p,c,h1,h2,h3,h4⟩:=h.out
 exact⟨p,c,h1,h2,h3,h4.on hb⟩
end
section
open Go.RowKit
structure rE(w:World)(P:(Nat->Prop)->AV->Ty->Prop)(F:Nat->Prop)(g off c:Nat)(xs:List Ty)(us:Nat->AV)(Fs:Nat->Nat->Prop):Prop where
 hl:xs.length*32<=140737488351232
 hc:xs.length<=c
 h5:∀j,j<xs.length->(us j).size=2
 hp:g<w.1.size∧∀j,j<xs.length->∀m,m<2->w.cell? ⟨g,off+j*2+m,none⟩=(us j)[m]?
 hf:∀j,j<xs.length->∀m,m<2->w.frozen? ⟨g,off+j*2+m,none⟩=false
 hg:F g
 hgs:∀j,j<xs.length->¬Fs j g
 hd:∀j n,j<xs.length->n<xs.length->j≠n->∀k,Fs j k->¬Fs n k
 hs:∀j,j<xs.length->∀k,Fs j k->F k
 hr:∀j (h:j<xs.length),P (Fs j) (us j) xs[j]
def aZ(w:World)(F:Nat->Prop)(u:AV)(x:Ty):Prop :=
 ∀P:(Nat->Prop)->AV->Ty->Prop,(∀F k p c,P F (al k p 0 c) (.mk k [])) ->
  (∀F k g off c xs us Fs,rE w P F g off c xs us Fs->P F (al k (.some ⟨g,off,.none⟩) xs.length c) (.mk k xs))->P F u x
section
variable {w w':World} {F G:Nat->Prop} {u:AV} {x:Ty}
theorem aZ.none{F:Nat->Prop}{k:Int}{p:OA}{c:Nat}:aZ w F (al k p 0 c) (.mk k []):=fun _ h0 _=>h0 F k p c
theorem aZ.some{F:Nat->Prop}{k:Int}{g off c:Nat}{xs:List Ty}(us:Nat->AV)(Fs:Nat->Nat->Prop)(hl:xs.length*32<=140737488351232)(hc:xs.length<=c)(h5:∀j,j<xs.length->(us j).size=2)(hp:g<w.1.size∧∀j,j<xs.length->∀m,m<2->w.cell? ⟨g,off+j*2+m,.none⟩=(us j)[m]?)(hf:∀j,j<xs.length->∀m,m<2->w.frozen? ⟨g,off+j*2+m,.none⟩=false)(hg:F g)(hgs:∀j,j<xs.length->¬Fs j g)(hd:∀j n,j<xs.length->n<xs.length->j≠n->∀k,Fs j k->¬Fs n k)(hs:∀j,j<xs.length->∀k,Fs j k->F k)(hr:∀j (h:j<xs.length),aZ w (Fs j) (us j) xs[j]):aZ w F (al k (.some ⟨g,off,.none⟩) xs.length c) (.mk k xs) :=
 fun P h0 h1=>h1 F k g off c xs us Fs ⟨hl,hc,h5,hp,hf,hg,hgs,hd,hs,fun j h=>hr j h P h0 h1⟩
theorem aZ.inv(h:aZ w F u x):(∃k p c,u=al k p 0 c∧x=.mk k [])∨∃k g off c xs us Fs,u=al k (.some ⟨g,off,.none⟩) xs.length c∧x=.mk k xs∧rE w (aZ w) F g off c xs us Fs:=by
 have:=h (fun F u x=>aZ w F u x∧((∃k p c,u=al k p 0 c∧x=.mk k [])∨∃k g off c xs us Fs,u=al k (.some ⟨g,off,.none⟩) xs.length c∧x=.mk k xs∧rE w (aZ w) F g off c xs us Fs))
  (fun F k p c=>⟨.none,.inl ⟨k,p,c,rfl,rfl⟩⟩)
  (fun F k g off c xs us Fs s=>⟨.some us Fs s.hl s.hc s.h5 s.hp s.hf s.hg s.hgs s.hd s.hs (fun j h=>(s.hr j h).1),.inr ⟨k,g,off,c,xs,us,Fs,rfl,rfl,s.hl,s.hc,s.h5,s.hp,s.hf,s.hg,s.hgs,s.hd,s.hs,fun j h=>(s.hr j h).1⟩⟩)
 exact this.2
theorem aZ.five(h:aZ w F u x):u.size=2:=by
 rcases h.inv with ⟨_,_,_,rfl,_⟩ | ⟨_,_,_,_,_,_,_,rfl,_⟩ <;> rfl
theorem aZ.shape(h:aZ w F u x):∃k p n c,u=al k p n c:=by
 rcases h.inv with ⟨_,_,_,rfl,_⟩ | ⟨_,_,_,_,_,_,_,rfl,_⟩ <;> exact⟨_,_,_,_,rfl⟩
theorem aZ.lies(h:aZ w F u x):ay w u x :=
 h (fun _ u x=>ay w u x) (fun F k p c=>ay.mk (xs:=[]) (fun _=>#[]) (by simp) (by simp) (fun hc=>absurd rfl hc) (fun j hj=>by simp at hj))
  (fun F k g off c xs us Fs s=>ay.mk us s.hl s.hc (fun _=>⟨_,_,rfl,s.hp.1,s.hp.2⟩) s.hr)
theorem aZ.aside(h:aZ w F u x):∀{G:Nat->Prop} {w':World},Aside G w w'->(∀k,F k->¬G k)->aZ w' F u x:=by
 intro G w' ha
 refine h (fun F u x=>(∀k,F k->¬G k)->aZ w' F u x) ?_ ?_
 ·intro F k p c _;exact .none
 ·intro F k g off c xs us Fs s hd2
  refine .some us Fs s.hl s.hc s.h5 ⟨Nat.lt_of_lt_of_le s.hp.1 ha.size,fun j hj m hm=>?_⟩ (fun j hj m hm=>?_) s.hg s.hgs s.hd s.hs (fun j hj=>s.hr j hj fun k hk=>hd2 k (s.hs j hj k hk))
  ·rw[ha.cell s.hp.1 (hd2 _ s.hg)];exact s.hp.2 j hj m hm
  ·rw[ha.frozen s.hp.1 (hd2 _ s.hg)];exact s.hf j hj m hm
theorem aZ.under{B:Nat}(h:aZ w F u x)(hb:Below B w w')(hF:∀k,F k->k<B):aZ w' F u x :=
 h.aside (G:=fun k=>B<=k) (fw hb fun _ _ h=>h) fun k hk hc=>by have:=hF k hk;omega
theorem aZ.mono(h:aZ w F u x)(hF:∀k,F k->G k):aZ w G u x:=by
 rcases h.inv with ⟨k,p,c,rfl,rfl⟩ | ⟨k,g,off,c,xs,us,Fs,rfl,rfl,s⟩
 ·exact .none
 ·exact .some us Fs s.hl s.hc s.h5 s.hp s.hf (hF _ s.hg) s.hgs s.hd (fun j hj k hk=>hF k (s.hs j hj k hk)) s.hr
end
theorem aZ.one{w:World}{F G:Nat->Prop}{k:Int}{g:Nat}{u:AV}{x:Ty}{T:TypeId}(hg:w.1[g]?=Option.some (.cells u T (0,0)))(h:aZ w F u x)(hF:∀k,F k->G k)(hgF:¬F g)(hGg:G g):aZ w G (al k (.some ⟨g,0,.none⟩) 1 1) (.mk k [x]):=by
 have hlt:g<w.1.size:=(Array.getElem?_eq_some_iff.1 hg).1
 refine aZ.some (xs:=[x]) (fun _=>u) (fun _=>F) (by simp) (by simp) (fun _ _=>h.five) ⟨hlt,fun j hj m hm=>?_⟩ (fun j hj m hm=>?_) hGg (fun _ _=>hgF) (fun j n hj hn hjn=>?_) (fun _ _ k hk=>hF k hk) (fun j hj=>?_)
 ·have hj0:j=0:=by simp at hj;omega
  subst hj0
  simp[World.cell?,hg]
 ·simp[World.frozen?,hg]
 ·simp at hj hn;omega
 ·have hj0:j=0:=by simp at hj;omega
  subst hj0
  exact h
end
section
open Go.RowKit
structure cN(w:World)(F:Nat->Prop)(u:AV)(c:Col):Prop where
 out:∃(F1 F2:Nat->Prop) (k:Int) (tp:OA) (tn tc:Nat) (vk vi:Int) (vb:Nat) (vt:ByteArray) (vp:OA) (vn vc:Nat),u=aA c.name k tp tn tc c.has vk vi vb vt vp vn vc∧aZ w F1 (al k tp tn tc) c.ty∧br w F2 (cells5 vk vi vb vt vp vn vc) c.dflt∧(∀k,F1 k->F k)∧(∀k,F2 k->F k)∧∀k,F1 k->¬F2 k
section
variable {w w':World} {F G:Nat->Prop} {u:AV} {c:Col}
theorem cN.nine(h:cN w F u c):u.size=9:=by
 obtain⟨_,_,_,_,_,_,_,_,_,_,_,_,_,rfl,_⟩:=h.out
 rfl
theorem cN.lies(h:cN w F u c):dC w u c:=by
 obtain⟨F1,F2,k,tp,tn,tc,vk,vi,vb,vt,vp,vn,vc,h1,h2,h3,_⟩:=h.out
 exact⟨k,tp,tn,tc,vk,vi,vb,vt,vp,vn,vc,h1,h2.lies,h3.lies⟩
theorem cN.aside(h:cN w F u c)(ha:Aside G w w')(hd:∀k,F k->¬G k):cN w' F u c:=by
 obtain⟨F1,F2,k,tp,tn,tc,vk,vi,vb,vt,vp,vn,vc,h1,h2,h3,h4,h5,h6⟩:=h.out
 exact⟨F1,F2,k,tp,tn,tc,vk,vi,vb,vt,vp,vn,vc,h1,h2.aside ha (fun k hk=>hd k (h4 k hk)),h3.aside ha (fun k hk=>hd k (h5 k hk)),h4,h5,h6⟩
theorem cN.under{B:Nat}(h:cN w F u c)(hb:Below B w w')(hF:∀k,F k->k<B):cN w' F u c :=
 h.aside (G:=fun k=>B<=k) (fw hb fun _ _ h=>h) fun k hk hc=>by have:=hF k hk;omega
theorem cN.mono(h:cN w F u c)(hF:∀k,F k->G k):cN w G u c:=by
 obtain⟨F1,F2,k,tp,tn,tc,vk,vi,vb,vt,vp,vn,vc,h1,h2,h3,h4,h5,h6⟩:=h.out
 exact⟨F1,F2,k,tp,tn,tc,vk,vi,vb,vt,vp,vn,vc,h1,h2,h3,fun k hk=>hF k (h4 k hk),fun k hk=>hF k (h5 k hk),h6⟩
theorem cN.one9(h:cN w F u c):∀a∈u.toList,a.oneCell'=true:=by
 obtain⟨_,_,_,_,_,_,_,_,_,_,_,_,_,rfl,_⟩:=h.out
 intro a ha
 simp[aA] at ha
 rcases ha with rfl | rfl | rfl | rfl | rfl | rfl | rfl | rfl | rfl <;> rfl
end
theorem jp(us:Nat->AV):∀n,(∀j,j<n->(us j).size=9)->(flat us n).length=n*9
 |0,_=>by simp[flat]
 |n+1,h=>by
  rw[flat,List.length_append,jp us n fun j hj=>h j (by omega),Array.length_toList,h n (by omega)];omega
theorem jq(us:Nat->AV):∀n,(∀j,j<n->(us j).size=9)->∀j,j<n->∀m,m<9->(flat us n)[j*9+m]?=(us j)[m]?
 |0,_,j,hj,_,_=>by omega
 |n+1,h,j,hj,m,hm=>by
  have hl:=jp us n fun j hj=>h j (by omega)
  rw[flat]
  rcases Nat.lt_or_ge j n with h1 | h1
  ·rw[List.getElem?_append_left (by omega),jq us n (fun j hj=>h j (by omega)) j h1 m hm]
  ·have hjn:j=n:=by omega
   subst hjn
   rw[List.getElem?_append_right (by omega),hl,Nat.add_sub_cancel_left]
   simp
def sP:Value:=.agg (aA ⟨#[]⟩ 0 none 0 0 false 0 0 0 ⟨#[]⟩ none 0 0)
theorem tO:(Tryz.prog.info? 89).map (fun i=>(i.zero,i.size,i.bytes))=some (some sP,9,120):=by kernel_rfl
section
variable {B:Nat} {v:Value} {n:Nat} {us:Nat->AV} {w:World} {u:AV} {ad H:Nat}
theorem po(hown:w.ownsRow B 89 9 v n (flat us n))(h5:u.size=9)(h1:∀a∈u.toList,a.oneCell'=true)(hblk:w.1[ad]?=some (.cells u 89 (0,0)))(hn:(n+1)*120<=140737488355328)(hB:B<=w.1.size)(hH:w.1.size=H){ops:Array Oper}{rest:List Oper}{o:Oper}{a:Act}{Q:Exit->Act->World->Prop}{y x:Operand}(hg:o.guard=none)(hop:o.op=Op.call { callee:=Callee.builtin Builtin.append,args:=#[y,x],argTypes:=#[28,28] })(hs:a.eval y=v)(hx:a.eval x=.slice (some ⟨ad,0,none⟩) 1 1)(hK:∀g cap w',w'.ownsRow B 89 9 (.slice (some ⟨g,0,none⟩) (n+1) cap) (n+1) (flat us n++u.toList)->w.grownBy w' v.ownBlock->(v.ownBlock=some g∨g=H)->wpList Tryz.prog ops Q rest (a.put o.dst (.slice (some ⟨g,0,none⟩) (n+1) cap)) w'):
  wpList Tryz.prog ops Q (o::rest) a w:=by
 obtain⟨i,hi,hz,hsz,hby⟩:=info_parts tO
 exact wpList_append_lies w hg y x 28 hop B 89 i sP 9 120 Tryz.underlying28 hi hz hsz hby rfl (by decide) v n (flat us n) hs hown ⟨ad,0,none⟩ 1 1 u.toList hx (by simp[h5])
  (World.news_of_block hblk) h1 (by decide) (by unfold maxLen;omega) hn hB H hH fun g cap w' h2 h3 h4 _=>hK g cap w' h2 h3 h4
end
structure aL(w:World)(B:Nat)(v:Value)(n:Nat)(us:Nat->AV)(Fs:Nat->Nat->Prop)(ys:List Col):Prop where
 len:ys.length=n
 nine:∀j,j<n->(us j).size=9
 row:w.ownsRow B 89 9 v n (flat us n)
 own:∀j (h:j<ys.length),cN w (Fs j) (us j) ys[j]
 apart:∀j m,j<n->m<n->j≠m->∀k,Fs j k->¬Fs m k
 beside:∀g,v.ownBlock=some g->∀j,j<n->¬Fs j g
 range:∀j,j<n->∀k,Fs j k->B<=k∧k<w.1.size
theorem iw(w:World)(B:Nat):aL w B (.slice none 0 0) 0 (fun _=>#[]) (fun _ _=>False) [] :=
 ⟨rfl,fun j hj=>by omega,World.ownsRow_nil _ _ _ _,fun j hj=>by simp at hj,fun j m hj=>by omega,fun g hg=>by simp[Value.ownBlock] at hg,fun j hj=>by omega⟩
section
variable {w w':World} {B:Nat} {v:Value} {n:Nat} {us:Nat->AV} {Fs:Nat->Nat->Prop} {ys:List Col}
theorem aL.aside{G:Nat->Prop}(h:aL w B v n us Fs ys)(ha:Aside G w w')(h1:∀g,v.ownBlock=some g->¬G g)(h2:∀j,j<n->∀k,Fs j k->¬G k):aL w' B v n us Fs ys:=by
 refine⟨h.len,h.nine,?_,fun j hj=>(h.own j hj).aside ha (h2 j (by rw[<-h.len];exact hj)),h.apart,h.beside,fun j hj k hk=>⟨(h.range j hj k hk).1,Nat.lt_of_lt_of_le (h.range j hj k hk).2 ha.size⟩⟩
 refine⟨h.row.1,?_⟩
 rcases h.row.2 with h3 | ⟨g,cap,cur,rfl,h4,h5,h6⟩
 ·exact .inl h3
 ·exact .inr ⟨g,cap,cur,rfl,h4,by rw[ha.block g (Array.getElem?_eq_some_iff.1 h5).1 (h1 g rfl)];exact h5,h6⟩
theorem aL.lt(h:aL w B v n us Fs ys):∀g,v.ownBlock=some g->B<=g∧g<w.1.size:=World.ownsRow.lt h.row
theorem aL.on(h:aL w B v n us Fs ys)(hb:Below w.1.size w w'):aL w' B v n us Fs ys :=
 h.aside (ae hb (fun _=>False)) (fun _ _ hc=>hc) (fun _ _ _ _ hc=>hc)
theorem aL.set(h:aL w B v n us Fs ys)(p:Addr)(u:Value)(hp:p.block<B):aL (w.setCell p u) B v n us Fs ys :=
 h.aside (G:=fun k=>k=p.block) ((Aside.refl (fun k=>k=p.block) w).setCell (p:=p) (.inl rfl) u) (fun g hg hc=>by have:=(h.lt g hg).1;omega) (fun j hj k hk hc=>by have:=(h.range j hj k hk).1;omega)
theorem aL.step{w2 w3 w4:World}{u:AV}{F:Nat->Prop}{x:Col}{g cap:Nat}(h:aL w B v n us Fs ys)(hb:Below w.1.size w w2)(hx:cN w2 F u x)(hF:∀k,F k->w.1.size<=k∧k<w2.1.size)(hb3:Below w2.1.size w2 w3)(hB:B<=w.1.size)(hr:w4.ownsRow B 89 9 (.slice (some ⟨g,0,none⟩) (n+1) cap) (n+1) (flat us n++u.toList))(hg:w3.grownBy w4 v.ownBlock)(hn:v.ownBlock=some g∨g=w3.1.size):
  aL w4 B (.slice (some ⟨g,0,none⟩) (n+1) cap) (n+1) (fun j=>if j=n then u else us j) (fun j=>if j=n then F else Fs j) (ys++[x]):=by
 have hs:=hb.size
 have hs3:=hb3.size
 have ha:Aside (fun k=>v.ownBlock=some k) w2 w4:=by
  refine(ae hb3 _).trans (G:=fun k=>v.ownBlock=some k) ⟨hg.os,hg.tape,hg.output,hg.size,fun k hk hf=>hg.block k hk (fun hc=>hf hc.symm)⟩ (fun _ _ h=>h)
 have hgF:∀k,F k->¬v.ownBlock=some k:=fun k hk hc=>by have:=(h.lt k hc).2;have:=(hF k hk).1;omega
 have hn1:∀j,j<n+1->j≠n->j<n:=fun j h1 h2=>by omega
 refine⟨by rw[List.length_append,h.len];rfl,fun j hj=>?_,?_,fun j hj=>?_,fun j m hj hm hjm k hk=>?_,fun g' hg' j hj=>?_,fun j hj k hk=>?_⟩
 ·split
  ·exact hx.nine
  ·exact h.nine j (by omega)
 ·rw[flat,dJ _ us n (fun j hj=>by simp[show ¬j=n by omega])]
  simpa using hr
 ·rw[List.length_append,h.len,List.length_singleton] at hj
  by_cases hjn:j=n
  ·subst hjn
   rw[if_pos rfl,if_pos rfl,List.getElem_append_right (by rw[h.len];exact vX)]
   simp only[h.len,Nat.sub_self,List.getElem_singleton]
   exact hx.aside ha hgF
  ·rw[if_neg hjn,if_neg hjn,List.getElem_append_left (by rw[h.len];omega)]
   exact((h.own j (by rw[h.len];omega)).under hb (fun k hk=>(h.range j (by omega) k hk).2)).aside ha (fun k hk hc=>h.beside k hc j (by omega) hk)
 ·by_cases hjn:j=n
  ·rw[if_pos hjn] at hk
   rw[if_neg (by omega)]
   exact fun hc=>by have:=(h.range m (by omega) k hc).2;have:=(hF k hk).1;omega
  ·rw[if_neg hjn] at hk
   by_cases hmn:m=n
   ·rw[if_pos hmn]
    exact fun hc=>by have:=(h.range j (by omega) k hk).2;have:=(hF k hc).1;omega
   ·rw[if_neg hmn]
    exact h.apart j m (by omega) (by omega) hjm k hk
 ·simp only[Value.ownBlock,Option.some.injEq] at hg'
  subst hg'
  by_cases hjn:j=n
  ·rw[if_pos hjn]
   intro hc
   have:=hF _ hc
   rcases hn with hn | hn
   ·exact hgF _ hc hn
   ·omega
  ·rw[if_neg hjn]
   intro hc
   rcases hn with hn | hn
   ·exact h.beside _ hn j (by omega) hc
   ·have:=(h.range j (by omega) _ hc).2;omega
 ·have h4:=ha.size
  by_cases hjn:j=n
  ·rw[if_pos hjn] at hk
   have:=hF k hk;omega
  ·rw[if_neg hjn] at hk
   have:=h.range j (by omega) k hk;omega
theorem aL.low{B':Nat}(h:aL w B v n us Fs ys)(hB:B'<=B):aL w B' v n us Fs ys:=by
 refine⟨h.len,h.nine,⟨h.row.1,?_⟩,h.own,h.apart,h.beside,fun j hj k hk=>⟨Nat.le_trans hB (h.range j hj k hk).1,(h.range j hj k hk).2⟩⟩
 rcases h.row.2 with h3 | ⟨g,cap,cur,rfl,h4,h5⟩
 ·exact .inl h3
 ·exact .inr ⟨g,cap,cur,rfl,Nat.le_trans hB h4,h5⟩
structure cL(w:World)(B:Nat)(u:AV)(s:List Col):Prop where
 out:∃v us Fs,u=#[v]∧aL w B v s.length us Fs s∧s.length*120<=140737488351232
theorem aL.cols(h:aL w B v n us Fs ys)(hl:n*120<=140737488351232):∃p c,v=.slice p n c∧n<=c∧bg w p ys:=by
 rcases h.row.2 with ⟨rfl,h0⟩ | ⟨g,cap,cur,rfl,h1,h2,h3,h4,h5,h6⟩
 ·have hy:ys=[]:=List.eq_nil_of_length_eq_zero (by rw[h.len];exact h0)
  subst hy
  subst h0
  exact⟨none,0,rfl,vX,fun j hj=>by simp at hj⟩
 ·refine⟨_,cap,rfl,h3,fun j hj=>?_⟩
  have hg:=(Array.getElem?_eq_some_iff.1 h2).1
  have hlen:=h.len
  have hcell:∀q,q<n*9->w.cell? ⟨g,q,none⟩=(flat us n)[q]?:=fun q hq=>by
   rw[<-h6,List.getElem?_take_of_lt hq]
   simp[World.cell?,h2]
  have hj2:j<n:=by omega
  refine⟨us j,(h.own j hj).lies,?_⟩
  obtain⟨F1,F2,k,tp,tn,tc,vk,vi,vb,vt,vp,vn,vc,e1,-⟩:=(h.own j hj).out
  have hc9:∀m,m<9->w.cell? ⟨g,0+j*9+m,none⟩=(us j)[m]?:=fun m hm=>by
   rw[Nat.zero_add,hcell _ (by omega),jq us _ h.nine j hj2 m hm]
  rw[e1] at hc9
  refine⟨g,0,_,k,tp,tn,tc,_,vk,vi,vb,vt,vp,vn,vc,rfl,hg,e1,?_⟩
  exact⟨hc9 0 (by omega),hc9 1 (by omega),hc9 2 (by omega),hc9 3 (by omega),hc9 4 (by omega),hc9 5 (by omega),hc9 6 (by omega),hc9 7 (by omega),hc9 8 (by omega)⟩
theorem cL.lies{u:AV}{s:List Col}(h:cL w B u s):nG w u s:=by
 obtain⟨v,us,Fs,rfl,hb,hl⟩:=h.out
 obtain⟨p,c,rfl,hc,hcols⟩:=hb.cols hl
 exact⟨p,c,rfl,hl,hc,hcols⟩
end
end
end Go.Proofs.YtlgfdgdlaahpfaaGreatDoor
