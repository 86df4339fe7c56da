import Derived.Test.YtngmnfdaedlodaaGreatDoorB05
namespace Go.Proofs.YtngmnfdaedlodaaGreatDoor
open Except renaming error->I
open Or renaming inr->U
open Option renaming some->Y,none->O
open Bool renaming true->C,false->N
open Go renaming World->R
open Go.Value renaming slice->pv
variable{B e g j long most n:Nat}{w w':R}{l:L8}{i k:Int}{p:OA}{u:AV}{t:ByteArray}
section
def V.wf(v:V):Prop:=match v with
 |.mk k i b t xs=>(-9223372036854775808<=k∧k<=9223372036854775807)∧(-9223372036854775808<=i∧i<=9223372036854775807)∧b<18446744073709551616∧t.size<=140737488351232∧∀p∈xs.map V.wf,p
theorem V.wf_mk{b:Nat}{xs:List V}:V.wf (.mk k i b t xs)↔(-9223372036854775808<=k∧k<=9223372036854775807)∧(-9223372036854775808<=i∧i<=9223372036854775807)∧b<18446744073709551616∧t.size<=140737488351232∧∀x∈xs,V.wf x:=by
 rw[V.wf];simp only[List.mem_map,forall_exists_index,and_imp,forall_apply_eq_imp_iff₂]
def Ty.wf(v:Ty):Prop:=match v with
 |.mk k xs=>(-9223372036854775808<=k∧k<=9223372036854775807)∧∀p∈xs.map Ty.wf,p
theorem Ty.wf_mk{xs:List Ty}:Ty.wf (.mk k xs)↔(-9223372036854775808<=k∧k<=9223372036854775807)∧∀x∈xs,Ty.wf x:=by
 rw[Ty.wf];simp only[List.mem_map,forall_exists_index,and_imp,forall_apply_eq_imp_iff₂]
def V0:V:=.mk 0 0 0 ⟨#[]⟩ []
structure Col where
 name:ByteArray
 ty:Ty
 has:Bool
 dflt:V
def Col.wf(c:Col):Prop:=c.name.size<=140737488351232∧c.ty.wf∧c.dflt.wf
def Col.fix(c:Col):Col:=⟨c.name,c.ty,c.has,V.fix c.dflt⟩
namespace Sch
def low(c:UInt8):Bool:=decide (97<=c.toNat∧c.toNat<=122)
def ch(c:UInt8):Bool:=low c||decide (48<=c.toNat∧c.toNat<=57)||decide (c.toNat=95)
def nameL(l:L8):Bool:=decide (1<=l.length∧l.length<=16)&&low (l.headD 0)&&l.all ch
def name(t:ByteArray):Bool:=nameL t.data.toList
def inner(t:Ty):Ty:=t.of.headD ⟨0,[]⟩
def of(v:V):Ty->Bool:=match v with
 |.mk k _ _ _ xs=>fun t=>k==t.kind&&(xs.map of).all (fun f=>f (inner t))
theorem of_mk(k i:Int)(b:Nat)(s:ByteArray)(xs:List V)(t:Ty):of (.mk k i b s xs) t=(k==t.kind&&xs.all (fun x=>of x (inner t))):=by
 rw[of];simp[List.all_map,Function.comp_def]
def is(v:V)(t:Ty):Bool:=decide (Ty.check 1 t=0)&&decide (chk 1 v=0)&&of v t
def colErr(l:List Col)(c:Col):Nat :=
 if name c.name=N then 70 else if l.any (fun x=>decide (x.name=c.name)) then 71 else if Ty.check 1 c.ty≠0 then Ty.check 1 c.ty
 else if c.has=N then (if V.same c.dflt V0 then 0 else 80) else if chk 1 c.dflt≠0 then chk 1 c.dflt else if is c.dflt c.ty then 0 else 80
def colsErr:List Col->List Col->Nat
 |_,[]=>0
 |l,c::r=>if colErr l c=0 then colsErr (l++[c]) r else colErr l c
def tyB(t:Ty):L8:=match t with
 |.mk k xs=>UInt8.ofNat k.toNat::(if k=6∨k=7 then (xs.map tyB).headD [] else [])
theorem tyB_mk(k:Int)(xs:List Ty):tyB (.mk k xs)=UInt8.ofNat k.toNat::(if k=6∨k=7 then (xs.map tyB).headD [] else []):=by rw[tyB]
def le:Nat->Nat->L8
 |0,_=>[]
 |k+1,n=>UInt8.ofNat (n % 256)::le k (n / 256)
def un:L8->Nat
 | []=>0
 |c::r=>un r*256+c.toNat
def vB(v:V):L8:=match v with
 |.mk k i b t xs=>(if k=1 then [UInt8.ofNat i.toNat] else if k=2 then Leb.put (Leb.zig i) else if k=3 then le 8 (aH b) else if k=4∨k=5 then Leb.put t.size++t.data.toList
  else if k=6 then [if 0<xs.length then 1 else 0] else if k=7 then Leb.put xs.length else [])++(if k=1∨k=2∨k=3∨k=4∨k=5 then [] else (xs.map vB).flatten)
def vH(k i:Int)(b:Nat)(t:ByteArray)(n:Nat):L8 :=
 if k=1 then [UInt8.ofNat i.toNat] else if k=2 then Leb.put (Leb.zig i) else if k=3 then le 8 (aH b) else if k=4∨k=5 then Leb.put t.size++t.data.toList else if k=6 then [if 0<n then 1 else 0] else if k=7 then Leb.put n else []
theorem vB_mk(k i:Int)(b:Nat)(t:ByteArray)(xs:List V):vB (.mk k i b t xs)=vH k i b t xs.length++(if k=1∨k=2∨k=3∨k=4∨k=5 then [] else (xs.map vB).flatten):=by rw[vB,vH]
def cB(c:Col):L8:=Leb.put c.name.size++(c.name.data.toList++(tyB c.ty++(if c.has then 1 else 0)::(if c.has then vB c.dflt else [])))
def bytes(s:List Col):L8:=Leb.put s.length++(s.map cB).flatten
def err(s:List Col):Nat:=if s.length=0 then 4 else if 16<s.length then 3 else if colsErr [] s≠0 then colsErr [] s else if 1024<(bytes s).length then 2 else 0
def colSame(c d:Col):Bool:=decide (c.name=d.name)&&(c.has==d.has)&&Ty.same c.ty d.ty&&V.same c.dflt d.dflt
def same:List Col->List Col->Bool
 | [],[]=>C
 |c::r,d::s=>colSame c d&&same r s
 |_,_=>N
def bit:L8->Except Nat (Nat×Nat)
 | []=>I 30
 |c::_=>if 1<c.toNat then I 5 else .ok (c.toNat,1)
def num(l:L8):Except Nat (Nat×Nat):=if (Leb.get l).err=0 then .ok ((Leb.get l).n,(Leb.get l).k) else I (Leb.get l).err
def text(most long:Nat)(l:L8):Except Nat (ByteArray×Nat):=match num l with
 |I e=>I e
 |.ok (n,k)=>if most<n then I long else if l.length-k<n then I 30 else .ok (⟨((l.drop k).take n).toArray⟩,k+n)
def float(l:L8):Except Nat (Nat×Nat):=if l.length<8 then I 30 else if aH (un (l.take 8))=un (l.take 8) then .ok (un (l.take 8),8) else I 5
def scalar(k:Int)(l:L8):Except Nat (V×Nat) :=
 if k=1 then match bit l with
  |I e=>I e
  |.ok (n,j)=>.ok (.mk k n 0 ⟨#[]⟩ [],j)
 else if k=2 then match num l with
  |I e=>I e
  |.ok (n,j)=>.ok (.mk k (Leb.zag n) 0 ⟨#[]⟩ [],j)
 else if k=3 then match float l with
  |I e=>I e
  |.ok (n,j)=>.ok (.mk k 0 n ⟨#[]⟩ [],j)
 else match text 1024 2 l with
  |I e=>I e
  |.ok (t,j)=>if k=4∧dQ t=N then I 61 else .ok (.mk k 0 0 t [],j)
def rdN(f:L8->Except Nat (V×Nat)):Nat->L8->Except Nat (List V×Nat)
 |0,_=>.ok ([],0)
 |m+1,l=>match f l with
  |I e=>I e
  |.ok (v,j)=>match rdN f m (l.drop j) with
   |I e=>I e
   |.ok (vs,j2)=>.ok (v::vs,j+j2)
def many(k:Int)(l:L8):Except Nat (Nat×Nat):=if k=6 then bit l else match num l with
 |I e=>I e
 |.ok (n,j)=>if 256<n then I 3 else .ok (n,j)
def rdV(t:Ty):L8->Except Nat (V×Nat):=match t with
 |.mk k xs=>fun l=>if k≠6∧k≠7 then scalar k l else match many k l with
  |I e=>I e
  |.ok (m,j)=>match rdN ((xs.map rdV).headD (fun _=>I 0)) m (l.drop j) with
   |I e=>I e
   |.ok (vs,j2)=>.ok (.mk k 0 0 ⟨#[]⟩ vs,j+j2)
theorem rdV_mk(k:Int)(xs:List Ty)(l:L8):rdV (.mk k xs) l=if k≠6∧k≠7 then scalar k l else match many k l with
  |I e=>I e
  |.ok (m,j)=>match rdN ((xs.map rdV).headD (fun _=>I 0)) m (l.drop j) with
   |I e=>I e
   |.ok (vs,j2)=>.ok (.mk k 0 0 ⟨#[]⟩ vs,j+j2):=by rw[rdV]
def rdT:Nat->L8->Except Nat (Ty×Nat)
 |0,_=>I 62
 |_+1,[]=>I 30
 |f+1,c::r=>if c.toNat<1∨7<c.toNat then I 60 else if c.toNat≠6∧c.toNat≠7 then .ok (⟨(c.toNat:Int),[]⟩,1) else match rdT f r with
  |I e=>I e
  |.ok (t,j)=>.ok (⟨(c.toNat:Int),[t]⟩,j+1)
def rdC(l:List Col)(b:L8):Except Nat (Col×Nat):=match num b with
 |I e=>I e
 |.ok (n,_)=>if n=0 then I 70 else match text 16 70 b with
  |I e=>I e
  |.ok (s,j)=>if name s=N then I 70 else if l.any (fun x=>decide (x.name=s)) then I 71 else match rdT 4 (b.drop j) with
   |I e=>I e
   |.ok (t,j2)=>match bit (b.drop (j+j2)) with
    |I e=>I e
    |.ok (h,j3)=>if h=0 then .ok (⟨s,t,N,V0⟩,j+j2+j3) else match rdV t (b.drop (j+j2+j3)) with
     |I e=>I e
     |.ok (v,j4)=>.ok (⟨s,t,C,v⟩,j+j2+j3+j4)
def rdCs:Nat->List Col->L8->Except Nat (List Col×Nat)
 |0,l,_=>.ok (l,0)
 |m+1,l,b=>match rdC l b with
  |I e=>I e
  |.ok (c,j)=>match rdCs m (l++[c]) (b.drop j) with
   |I e=>I e
   |.ok (l2,j2)=>.ok (l2,j+j2)
def read(b:L8):Except Nat (List Col):=if 1024<b.length then I 2 else match num b with
 |I e=>I e
 |.ok (n,k)=>if n=0 then I 4 else if 16<n then I 3 else match rdCs n [] (b.drop k) with
  |I e=>I e
  |.ok (l,j)=>if k+j=b.length then .ok l else I 5
end Sch
end
section
namespace Sch
theorem le_len:∀(k n:Nat),(le k n).length=k
 |0,_=>rfl
 |k+1,n=>by rw[le,AI,le_len k]
theorem un_le:∀(k n:Nat),n<256 ^ k->un (le k n)=n
 |0,n,h=>by simp at h;subst h;rfl
 |k+1,n,h=>by
  rw[le,un,un_le k (n / 256) (by rw[Nat.pow_succ] at h;rw[Nat.div_lt_iff_lt_mul (by omega)];exact h),UInt8.toNat_ofNat'];omega
theorem le_un:∀(l:L8),le l.length (un l)=l
 | []=>rfl
 |c::r=>by
  have A:c.toNat<256:=c.toNat_lt;have o:(un r*256+c.toNat) % 256=c.toNat:=by omega
  have y:(un r*256+c.toNat) / 256=un r:=by omega
  rw[AI,le,un,o,y,le_un r];congr 1;apply UInt8.toNat_inj.1;rw[UInt8.toNat_ofNat'];omega
theorem un_lt:∀(l:L8),un l<256 ^ l.length
 | []=>by simp[un]
 |c::r=>by
  have o:c.toNat<256:=c.toNat_lt;have:=un_lt r;rw[un,AI,Nat.pow_succ];omega
theorem num_put(n:Nat)(r:L8)(h:n<18446744073709551616):num (Leb.put n++r)=.ok (n,(Leb.put n).length):=by
 rw[num,Leb.get_put n r h,AG rfl]
theorem num_ok{k:Nat}(h:num l=.ok (n,k)):n<18446744073709551616∧∃r,l=Leb.put n++r∧k=(Leb.put n).length:=by
 rw[num] at h;by_cases o:(Leb.get l).err=0
 ·rw[AG o] at h;simp only[Except.ok.injEq,Prod.mk.injEq] at h;obtain⟨rfl,rfl⟩:=h;obtain⟨A,y,D,_⟩:=Leb.get_ok l o;refine⟨A,l.drop (Leb.get l).k,?_,?_⟩
  ·rw[<-y,List.take_append_drop]
  ·rw[<-y,AM];omega
 ·rw[AF o] at h;cases h
theorem bit_put(n:Nat)(r:L8)(h:n<=1):bit (UInt8.ofNat n::r)=.ok (n,1):=by
 have o:(UInt8.ofNat n).toNat=n:=by rw[UInt8.toNat_ofNat'];omega
 rw[bit,o,AF (by omega)]
theorem bit_ok{k:Nat}(h:bit l=.ok (n,k)):n<=1∧k=1∧∃r,l=UInt8.ofNat n::r:=by
 cases l with
 |nil=>rw[bit] at h;cases h
 |cons c r=>
  rw[bit] at h;by_cases o:1<c.toNat
  ·rw[AG o] at h;cases h
  ·rw[AF o] at h;simp only[Except.ok.injEq,Prod.mk.injEq] at h;obtain⟨rfl,rfl⟩:=h;exact⟨by omega,rfl,r,by rw[UInt8.ofNat_toNat]⟩
theorem text_put(most long:Nat)(t:ByteArray)(r:L8)(y:t.size<=most)(o:t.size<18446744073709551616):text most long (Leb.put t.size++(t.data.toList++r))=.ok (t,(Leb.put t.size).length+t.size):=by
 have A:t.data.toList.length=t.size:=by rw[Array.length_toList];rfl
 rw[text,num_put _ _ o];dsimp only;rw[AF (by omega),AF (by rw[AH,AH];omega),List.drop_left,List.take_append_of_le_length (by omega),List.take_of_length_le (by omega)]
theorem text_ok(h:text most long l=.ok (t,j)):t.size<=most∧t.size<18446744073709551616∧j=(Leb.put t.size).length+t.size∧∃r,l=Leb.put t.size++(t.data.toList++r):=by
 rw[text] at h;split at h
 ·cases h
 ·next n k hn=>
  obtain⟨A,r,rfl,rfl⟩:=num_ok hn;by_cases y:most<n
  ·rw[AG y] at h;cases h
  rw[AF y] at h;by_cases o:(Leb.put n++r).length-(Leb.put n).length<n
  ·rw[AG o] at h;cases h
  rw[AF o,List.drop_left] at h;simp only[Except.ok.injEq,Prod.mk.injEq] at h;obtain⟨rfl,rfl⟩:=h;have D:(r.take n).length=n:=by rw[AM];rw[AH] at o;omega
  have E:(⟨(r.take n).toArray⟩:ByteArray).size=n:=by show(r.take n).toArray.size=n;simpa using D
  rw[E];refine⟨by omega,A,rfl,r.drop n,?_⟩;show Leb.put n++r=Leb.put n++((r.take n).toArray.toList++r.drop n);simp
theorem float_put(b:Nat)(r:L8)(h:aH b<18446744073709551616):float (le 8 (aH b)++r)=.ok (aH b,8):=by
 have A:(le 8 (aH b)).length=8:=le_len 8 _;have o:(le 8 (aH b)++r).take 8=le 8 (aH b):=by rw[List.take_append_of_le_length (by omega),List.take_of_length_le (by omega)]
 have y:un (le 8 (aH b))=aH b:=un_le 8 _ (by simpa using h);rw[float,o,y,AF (by rw[AH];omega),AG (fu b)]
theorem float_ok(h:float l=.ok (n,j)):n<18446744073709551616∧aH n=n∧j=8∧∃r,l=le 8 n++r:=by
 rw[float] at h;by_cases D:l.length<8
 ·rw[AG D] at h;cases h
 rw[AF D] at h;have E:(l.take 8).length=8:=by rw[AM];omega
 by_cases o:aH (un (l.take 8))=un (l.take 8)
 ·rw[AG o] at h;simp only[Except.ok.injEq,Prod.mk.injEq] at h;obtain⟨rfl,rfl⟩:=h;have y:=un_lt (l.take 8);rw[E] at y;have A:=le_un (l.take 8);rw[E] at A;exact⟨by simpa using y,o,rfl,l.drop 8,by rw[A,List.take_append_drop]⟩
 ·rw[AF o] at h;cases h
theorem fixB_lt{b:Nat}(h:b<18446744073709551616):aH b<18446744073709551616:=by
 unfold aH;split <;> omega
theorem empty_of(h:t.toList=[]):t=⟨#[]⟩:=by
 obtain⟨d⟩:=t;rw[ByteArray.toList_eq] at h;have:d=#[]:=by
  apply Array.toList_inj.1;simpa using h
 rw[this]
theorem empty_toList:(⟨#[]⟩:ByteArray).toList=[]:=by rw[ByteArray.toList_eq]
theorem fixB_zero:aH 0=0:=by kernel_rfl
theorem chk_open{d:Nat}{b:Nat}{xs:List V}(h:chk d (.mk k i b t xs)=0):d<=4∧V.ownB k i b t xs.length=C∧t.size<=1024∧xs.length<=256∧(k=4->dQ t=C)∧∀x∈xs,chk (d+1) x=0:=by
 rw[lV] at h;by_cases K:4<d
 ·rw[AG K] at h;cases h
 rw[AF K] at h;by_cases E:V.ownB k i b t xs.length=N
 ·rw[AG E] at h;cases h
 rw[AF E] at h;by_cases L:1024<t.size
 ·rw[AG L] at h;cases h
 rw[AF L] at h;by_cases M:256<xs.length
 ·rw[AG M] at h;cases h
 rw[AF M] at h;by_cases J:k=4∧dQ t=N
 ·rw[AG J] at h;cases h
 rw[AF J] at h;refine⟨by omega,by simpa using E,by omega,by omega,fun Q=>?_,?_⟩
 ·cases hu:dQ t
  ·exact absurd ⟨Q,hu⟩ J
  ·rfl
 ·have key:∀(ys:List V),fC (d+1) ys=0->∀x∈ys,chk (d+1) x=0:=by
   intro ys;induction ys with
   |nil=>intro _ x A;cases A
   |cons y r ih=>
    intro o x A;unfold fC at o ih;rw[V.checkL_cons] at o;by_cases D:V.check dQ (d+1) y=0
    ·rw[AG D] at o;rcases List.mem_cons.1 A with rfl | A
     ·exact D
     ·exact ih o x A
    ·rw[AF D] at o;exact absurd o D
  exact key xs h
theorem chk_make{d:Nat}{b:Nat}{xs:List V}(J:d<=4)(y:V.ownB k i b t xs.length=C)(K:t.size<=1024)(L:xs.length<=256)(A:k=4->dQ t=C)(D:∀x∈xs,chk (d+1) x=0):chk d (.mk k i b t xs)=0:=by
 rw[lV,AF (by omega),AF (by rw[y];decide),AF (by omega),AF (by omega),AF (fun o=>by have:=A o.1;rw[o.2] at this;cases this)];exact jL (d+1) xs (fun j E=>D _ (Aw E))
theorem own_open{b:Nat}(h:V.ownB k i b t n=C):(1<=k∧k<=7)∧(k=1∨k=2∨i=0)∧(k=3∨aH b=0)∧(k=4∨k=5∨t=⟨#[]⟩)∧(k=6∨k=7∨n=0)∧(k=1->i=0∨i=1)∧(k=6->n<2):=by
 simp only[V.ownB,Bool.and_eq_true,Bool.or_eq_true,beq_iff_eq,decide_eq_true_eq,bne_iff_ne,ne_eq] at h;obtain⟨⟨⟨⟨⟨⟨y,D⟩,A⟩,o⟩,E⟩,J⟩,K⟩:=h;refine⟨y,by omega,A,?_,by omega,by omega,by omega⟩;rcases o with (o | o) | o
 ·exact .inl o
 ·exact U (.inl o)
 ·exact U (U (empty_of o))
theorem own_make{b:Nat}(y:1<=k∧k<=7)(D:k=1∨k=2∨i=0)(A:k=3∨aH b=0)(o:k=4∨k=5∨t=⟨#[]⟩)(E:k=6∨k=7∨n=0)(J:k=1->i=0∨i=1)(K:k=6->n<2):V.ownB k i b t n=true:=by
 simp only[V.ownB,Bool.and_eq_true,Bool.or_eq_true,beq_iff_eq,decide_eq_true_eq,bne_iff_ne,ne_eq];refine⟨⟨⟨⟨⟨⟨y,by omega⟩,A⟩,?_⟩,by omega⟩,by omega⟩,by omega⟩;rcases o with o | o | o
 ·exact .inl (.inl o)
 ·exact .inl (U o)
 ·exact U (by rw[o];exact empty_toList)
theorem ty_open{d:Nat}{xs:List Ty}(h:Ty.check d (.mk k xs)=0):d<=4∧(1<=k∧k<=7)∧((¬(k=6∨k=7)∧xs=[])∨((k=6∨k=7)∧∃x,xs=[x]∧Ty.check (d+1) x=0)):=by
 rw[Ty.check_mk] at h;by_cases D:4<d
 ·rw[AG D] at h;cases h
 rw[AF D] at h;by_cases E:k<1∨7<k∨xs.length≠Ty.want k
 ·rw[AG E] at h;cases h
 rw[AF E] at h;refine⟨by omega,by omega,?_⟩;have o:xs.length=Ty.want k:=by omega
 unfold Ty.want at o;by_cases y:k=6∨k=7
 ·rw[AG y] at o;obtain⟨x,rfl⟩:=List.length_eq_one_iff.1 o;refine U ⟨y,x,rfl,?_⟩;simp only[List.map_cons,List.map_nil,V.first] at h;by_cases A:Ty.check (d+1) x=0
  ·exact A
  ·rw[AF A] at h;exact absurd h A
 ·rw[AF y] at o;exact .inl ⟨y,List.eq_nil_of_length_eq_zero o⟩
theorem ty_leaf{d:Nat}(hd:d<=4)(o:1<=k∧k<=7)(h:¬(k=6∨k=7)):Ty.check d (.mk k [])=0:=Ty.check_leaf d k (by omega) (by omega) (by unfold Ty.want;rw[AF h])
theorem ty_one{d:Nat}{x:Ty}(hd:d<=4)(h:k=6∨k=7)(o:Ty.check (d+1) x=0):Ty.check d (.mk k [x])=0:=by
 rw[Ty.check_one d k x (by omega) (by omega) (by unfold Ty.want;rw[AG h]),o]
theorem scalar_put{d:Nat}{b:Nat}(r:L8)(ab:¬(k=6∨k=7))(h:chk d (.mk k i b t [])=0)(S:V.wf (.mk k i b t [])):scalar k (vH k i b t 0++r)=.ok (.mk k i (aH b) t [],(vH k i b t 0).length):=by
 obtain⟨-,J,M,-,Q,-⟩:=chk_open h;obtain⟨ah,A,y,o,-,ai,-⟩:=own_open J;obtain⟨-,aj,Z,-,-⟩:=V.wf_mk.1 S;have K:∀a c:L8,a++c++r=a++(c++r):=fun a c=>AN a c r;rcases(show k=1∨k=2∨k=3∨(k=4∨k=5) by omega) with rfl | rfl | rfl | hk45
 ·have e:vH 1 i b t 0=[UInt8.ofNat i.toNat]:=by rw[vH,AG rfl]
  have E:((i.toNat:Nat):Int)=i:=by omega
  rw[e,scalar,AG rfl,List.singleton_append,bit_put i.toNat r (by omega)];dsimp only;rw[E];rcases y with y | y
  ·cases y
  rcases o with o | o | o
  ·cases o
  ·cases o
  rw[y,o];rfl
 ·have e:vH 2 i b t 0=Leb.put (Leb.zig i):=by rw[vH,AF (by decide),AG rfl]
  have X:Leb.zig i<18446744073709551616:=by unfold Leb.zig;split <;> omega
  rw[e,scalar,AF (by decide),AG rfl,num_put _ r X];dsimp only;rw[Leb.zag_zig];rcases y with y | y
  ·cases y
  rcases o with o | o | o
  ·cases o
  ·cases o
  rw[y,o]
 ·have e:vH 3 i b t 0=le 8 (aH b):=by rw[vH,AF (by decide),AF (by decide),AG rfl]
  rw[e,scalar,AF (by decide),AF (by decide),AG rfl,float_put b r (fixB_lt Z)];dsimp only;rw[le_len];rcases A with A | A | A
  ·cases A
  ·cases A
  rcases o with o | o | o
  ·cases o
  ·cases o
  rw[A,o]
 ·have e:vH k i b t 0=Leb.put t.size++t.data.toList:=by rw[vH,AF (by omega),AF (by omega),AF (by omega),AG hk45]
  have L:t.data.toList.length=t.size:=by rw[Array.length_toList];rfl
  rw[e,scalar,AF (by omega),AF (by omega),AF (by omega),K,text_put 1024 2 t r M (by omega)];dsimp only;rw[AF (fun D=>by have:=Q D.1;rw[D.2] at this;cases this),AH,L];rcases y with y | y
  ·omega
  rcases A with A | A | A
  ·omega
  ·omega
  rw[A,y]
theorem scalar_ok{v:V}(L:1<=k∧k<=5)(h:scalar k l=.ok (v,j)):∃i b t,v=.mk k i b t []∧j=(vH k i b t 0).length∧(∃r,l=vH k i b t 0++r)∧aH b=b∧V.wf v∧∀d,d<=4->chk d v=0:=by
 rcases(show k=1∨k=2∨k=3∨(k=4∨k=5) by omega) with rfl | rfl | rfl | hk45
 ·rw[scalar,AG rfl] at h;split at h
  ·cases h
  ·next n m hn=>
   simp only[Except.ok.injEq,Prod.mk.injEq] at h;obtain⟨rfl,rfl⟩:=h;obtain⟨A,rfl,r,rfl⟩:=bit_ok hn;have e:vH 1 n 0 ⟨#[]⟩ 0=[UInt8.ofNat n]:=by rw[vH,AG rfl];rfl
   exact⟨n,0,⟨#[]⟩,rfl,by rw[e];rfl,⟨r,by rw[e];rfl⟩,fixB_zero,V.wf_mk.2 ⟨by omega,by omega,by omega,Nat.zero_le _,fun x y=>by cases y⟩,
    fun d hd=>chk_make hd (own_make (by omega) (by omega) (U fixB_zero) (U (U rfl)) (U (U rfl)) (fun _=>by omega) (fun o=>by cases o)) (Nat.zero_le _) (by simp) (fun o=>by cases o) (fun x y=>by cases y)⟩
 ·rw[scalar,AF (by decide),AG rfl] at h;split at h
  ·cases h
  ·next n m hn=>
   simp only[Except.ok.injEq,Prod.mk.injEq] at h;obtain⟨rfl,rfl⟩:=h;obtain⟨A,r,rfl,rfl⟩:=num_ok hn;have e:vH 2 (Leb.zag n) 0 ⟨#[]⟩ 0=Leb.put n:=(by rw[vH,AF (by decide),AG rfl,Leb.zig_zag]);have K:-9223372036854775808<=Leb.zag n∧Leb.zag n<=9223372036854775807:=by unfold Leb.zag;split <;> omega
   exact⟨Leb.zag n,0,⟨#[]⟩,rfl,by rw[e],⟨r,by rw[e]⟩,fixB_zero,V.wf_mk.2 ⟨by omega,K,by omega,Nat.zero_le _,fun x y=>by cases y⟩,
    fun d hd=>chk_make hd (own_make (by omega) (by omega) (U fixB_zero) (U (U rfl)) (U (U rfl)) (fun o=>by cases o) (fun o=>by cases o)) (Nat.zero_le _) (by simp) (fun o=>by cases o) (fun x y=>by cases y)⟩
 ·rw[scalar,AF (by decide),AF (by decide),AG rfl] at h;split at h
  ·cases h
  ·next n m hn=>
   simp only[Except.ok.injEq,Prod.mk.injEq] at h;obtain⟨rfl,rfl⟩:=h;obtain⟨A,D,rfl,r,rfl⟩:=float_ok hn;have e:vH 3 0 n ⟨#[]⟩ 0=le 8 n:=by rw[vH,AF (by decide),AF (by decide),AG rfl,D]
   exact⟨0,n,⟨#[]⟩,rfl,by rw[e,le_len],⟨r,by rw[e]⟩,D,V.wf_mk.2 ⟨by omega,by omega,A,Nat.zero_le _,fun x y=>by cases y⟩,
    fun d hd=>chk_make hd (own_make (by omega) (by omega) (.inl rfl) (U (U rfl)) (U (U rfl)) (fun o=>by cases o) (fun o=>by cases o)) (Nat.zero_le _) (by simp) (fun o=>by cases o) (fun x y=>by cases y)⟩
 ·rw[scalar,AF (by omega),AF (by omega),AF (by omega)] at h;split at h
  ·cases h
  ·next t m hn=>
   obtain⟨A,D,rfl,r,rfl⟩:=text_ok hn;by_cases E:k=4∧dQ t=N
   ·rw[AG E] at h;cases h
   rw[AF E] at h;simp only[Except.ok.injEq,Prod.mk.injEq] at h;obtain⟨rfl,rfl⟩:=h;have J:t.data.toList.length=t.size:=(by rw[Array.length_toList];rfl);have e:vH k 0 0 t 0=Leb.put t.size++t.data.toList:=by rw[vH,AF (by omega),AF (by omega),AF (by omega),AG hk45]
   exact⟨0,0,t,rfl,by rw[e,AH,J],⟨r,by rw[e,AN]⟩,fixB_zero,V.wf_mk.2 ⟨by omega,by omega,by omega,by omega,fun x y=>by cases y⟩,
    fun d hd=>chk_make hd (own_make (by omega) (U (U rfl)) (U fixB_zero) (by omega) (U (U rfl)) (fun o=>by omega) (fun o=>by omega)) A (by simp) (fun o=>by
     cases hq:dQ t
     ·exact absurd ⟨o,hq⟩ E
     ·rfl) (fun x y=>by cases y)⟩
end Sch
end
section
namespace Sch
theorem rdN_put(f:L8->Except Nat (V×Nat))(r:L8):∀xs:List V,(∀x∈xs,∀r,f (vB x++r)=.ok (V.fix x,(vB x).length))->rdN f xs.length ((xs.map vB).flatten++r)=.ok (xs.map V.fix,(xs.map vB).flatten.length)
 | [],_=>rfl
 |x::xs,h=>by
  have y:=rdN_put f r xs (fun A o=>h A (List.mem_cons_of_mem _ o));rw[AI,rdN,List.map_cons,List.flatten_cons,AN,h x (by simp)];dsimp only;rw[List.drop_left,y];dsimp only;rw[List.map_cons,AH]
theorem rdN_ok(f:L8->Except Nat (V×Nat))(y:V->Prop)(E:∀l v j,f l=.ok (v,j)->j=(vB v).length∧(∃r,l=vB v++r)∧y v):∀(m:Nat) (l:L8) (o:List V) (j:Nat),rdN f m l=.ok (o,j)->o.length=m∧j=(o.map vB).flatten.length∧(∃r,l=(o.map vB).flatten++r)∧∀v∈o,y v
 |0,l,o,j,h=>by
  rw[rdN] at h;simp only[Except.ok.injEq,Prod.mk.injEq] at h;obtain⟨rfl,rfl⟩:=h;exact⟨rfl,rfl,⟨l,rfl⟩,fun v A=>by cases A⟩
 |m+1,l,o,j,h=>by
  rw[rdN] at h;split at h
  ·cases h
  ·next v j1 A=>
   obtain⟨rfl,⟨r,rfl⟩,L⟩:=E _ _ _ A;rw[List.drop_left] at h;split at h
   ·cases h
   ·next ws j2 hw=>
    simp only[Except.ok.injEq,Prod.mk.injEq] at h;obtain⟨rfl,rfl⟩:=h;obtain⟨J,rfl,⟨M,rfl⟩,K⟩:=rdN_ok f y E m r ws j2 hw;refine⟨by rw[AI,J],by rw[List.map_cons,List.flatten_cons,AH],⟨M,by rw[List.map_cons,List.flatten_cons,AN]⟩,fun x D=>?_⟩;rcases List.mem_cons.1 D with rfl | D
    ·exact L
    ·exact K x D
theorem many_put(y:k=6∨k=7)(n:Nat)(i:Int)(b:Nat)(t:ByteArray)(r:L8)(o:k=6->n<2)(A:n<=256):many k (vH k i b t n++r)=.ok (n,(vH k i b t n).length):=by
 rcases y with rfl | rfl
 ·have e:vH 6 i b t n=[UInt8.ofNat n]:=by
   rw[vH,AF (by decide),AF (by decide),AF (by decide),AF (by decide),AG rfl];rcases(show n=0∨n=1 by have:=o rfl;omega) with rfl | rfl <;> rfl
  rw[e,many,AG rfl,List.singleton_append,bit_put n r (by have:=o rfl;omega)];rfl
 ·have e:vH 7 i b t n=Leb.put n:=by rw[vH,AF (by decide),AF (by decide),AF (by decide),AF (by decide),AF (by decide),AG rfl]
  rw[e,many,AF (by decide),num_put n r (by omega)];dsimp only;rw[AF (by omega)]
theorem many_ok(D:k=6∨k=7){l:L8}{n j:Nat}(h:many k l=.ok (n,j)):(k=6->n<2)∧n<=256∧∀i b t,j=(vH k i b t n).length∧∃r,l=vH k i b t n++r:=by
 rcases D with rfl | rfl
 ·rw[many,AG rfl] at h;obtain⟨y,rfl,r,rfl⟩:=bit_ok h;have e:∀i b t,vH 6 i b t n=[UInt8.ofNat n]:=fun i b t=>by
   rw[vH,AF (by decide),AF (by decide),AF (by decide),AF (by decide),AG rfl];rcases(show n=0∨n=1 by omega) with rfl | rfl <;> rfl
  exact⟨fun _=>by omega,by omega,fun i b t=>⟨by rw[e];rfl,r,by rw[e];rfl⟩⟩
 ·rw[many,AF (by decide)] at h;split at h
  ·cases h
  ·next m j1 hm=>
   by_cases o:256<m
   ·rw[AG o] at h;cases h
   rw[AF o] at h;simp only[Except.ok.injEq,Prod.mk.injEq] at h;obtain⟨rfl,rfl⟩:=h;obtain⟨y,r,rfl,rfl⟩:=num_ok hm;have e:∀i b t,vH 7 i b t m=Leb.put m:=fun i b t=>by rw[vH,AF (by decide),AF (by decide),AF (by decide),AF (by decide),AF (by decide),AG rfl]
   exact⟨fun A=>(by cases A),by omega,fun i b t=>⟨by rw[e],r,by rw[e]⟩⟩
theorem vB_leaf{b:Nat}(xs:List V)(o:1<=k∧k<=5):vB (.mk k i b t xs)=vH k i b t xs.length:=by
 rw[vB_mk,AG (by omega),Az]
theorem vB_items{b:Nat}(xs:List V)(o:k=6∨k=7):vB (.mk k i b t xs)=vH k i b t xs.length++(xs.map vB).flatten:=by
 rw[vB_mk,AF (by omega)]
theorem rdV_put:∀(t:Ty) (d:Nat) (v:V) (r:L8),Ty.check d t=0->chk d v=0->of v t=C->v.wf->rdV t (vB v++r)=.ok (V.fix v,(vB v).length):=by
 intro t;refine Ty.ind (P:=fun t=>∀(d:Nat) (v:V) (r:L8),Ty.check d t=0->chk d v=0->of v t=C->v.wf->rdV t (vB v++r)=.ok (V.fix v,(vB v).length)) ?_ t;rintro k xs a1 d ⟨k',i,b,s,ys⟩ r ab M o Q;rw[of_mk,Bool.and_eq_true,beq_iff_eq] at o;obtain⟨L,o⟩:=o;simp only at L;subst L;obtain⟨hd,a3,ah⟩:=ty_open ab;obtain⟨-,Z,a4,a0,a5,aw⟩:=chk_open M;obtain⟨a6,y,E,A,a7,a8,a2⟩:=own_open Z;rw[V.fix_mk,V.fixL_eq,rdV_mk];rcases ah with ⟨D,rfl⟩ | ⟨D,x,rfl,aj⟩
 ·have ak:ys=[]:=List.eq_nil_of_length_eq_zero (by omega);subst ak;rw[AG (by omega),vB_leaf _ (by omega)];exact scalar_put r D M Q
 ·rw[AF (by omega),vB_items _ D,AN,many_put D ys.length i b s _ a2 a0];dsimp only;rw[List.drop_left];have X:inner (.mk k' [x])=x:=rfl;rw[X,List.all_eq_true] at o;have ai:=(V.wf_mk.1 Q).2.2.2.2;have e:=rdN_put (rdV x) r ys (fun J K r=>a1 x (by simp) (d+1) J r aj (aw J K) (o J K) (ai J K));have S:([x].map rdV).headD (fun _=>I 0)=rdV x:=rfl;rw[S,e];dsimp only;rw[AH];rcases E with E | E
  ·omega
  rcases y with y | y | y
  ·omega
  ·omega
  rcases A with A | A | A
  ·omega
  ·omega
  rw[y,E,A]
theorem rdV_ok:∀(t:Ty) (d:Nat) (l:L8) (v:V) (j:Nat),Ty.check d t=0->rdV t l=.ok (v,j)->j=(vB v).length∧(∃r,l=vB v++r)∧chk d v=0∧of v t=C∧V.fix v=v∧v.wf:=by
 intro t;refine Ty.ind (P:=fun t=>∀(d:Nat) (l:L8) (v:V) (j:Nat),Ty.check d t=0->rdV t l=.ok (v,j)->j=(vB v).length∧(∃r,l=vB v++r)∧chk d v=0∧of v t=C∧V.fix v=v∧v.wf) ?_ t;intro k xs a0 d l v j ah h;obtain⟨hd,a2,ai⟩:=ty_open ah;rw[rdV_mk] at h;rcases ai with ⟨D,rfl⟩ | ⟨D,x,rfl,aw⟩
 ·rw[AG (by omega)] at h;obtain⟨i,b,s,rfl,rfl,⟨r,rfl⟩,hb,ak,E⟩:=scalar_ok (by omega) h;rw[vB_leaf [] (by omega)];refine⟨rfl,⟨r,rfl⟩,E d hd,?_,?_,ak⟩
  ·rw[of_mk];simp
  ·rw[V.fix_mk,hb];rfl
 ·rw[AF (by omega)] at h;split at h
  ·cases h
  ·next m j1 hm=>
   obtain⟨Q,S,X⟩:=many_ok D hm;obtain⟨Z,r,ab⟩:=X 0 0 ⟨#[]⟩;have M:([x].map rdV).headD (fun _=>I 0)=rdV x:=rfl;rw[M] at h;subst Z ab;rw[List.drop_left] at h;split at h
   ·cases h
   ·next vs j2 hv=>
    simp only[Except.ok.injEq,Prod.mk.injEq] at h;obtain⟨rfl,rfl⟩:=h;obtain⟨rfl,rfl,⟨a1,rfl⟩,A⟩:=rdN_ok (rdV x) (fun v=>chk (d+1) v=0∧of v x=C∧V.fix v=v∧v.wf) (fun l v j aj=>by
     obtain⟨J,K,L⟩:=a0 x (by simp) (d+1) l v j aw aj
     exact⟨J,K,L⟩) _ _ _ _ hv
    rw[vB_items vs D];refine⟨by rw[AH],⟨a1,by rw[AN]⟩,?_,?_,?_,?_⟩
    ·exact chk_make hd (own_make (by omega) (U (U rfl)) (U fixB_zero) (U (U rfl)) (by omega) (fun E=>by omega) Q) (Nat.zero_le _) S (fun E=>by omega) (fun y o=>(A y o).1)
    ·rw[of_mk];simp only[beq_self_eq_true,Bool.true_and,List.all_eq_true];exact fun y o=>(A y o).2.1
    ·rw[V.fix_mk,V.fixL_eq,fixB_zero];congr 1;have:vs.map V.fix=vs.map id:=List.map_congr_left (fun y o=>(A y o).2.2.1);rw[this,List.map_id]
    ·exact V.wf_mk.2 ⟨by omega,by omega,by omega,Nat.zero_le _,fun y o=>(A y o).2.2.2⟩
theorem kind_byte(o:1<=k∧k<=7):(UInt8.ofNat k.toNat).toNat=k.toNat:=by rw[UInt8.toNat_ofNat'];omega
theorem rdT_put:∀(f:Nat) (t:Ty) (r:L8),f<=4->Ty.check (5-f) t=0->rdT f (tyB t++r)=.ok (t,(tyB t).length)
 |0,⟨k,xs⟩,r,_,h=>by
  have:=(ty_open h).1;omega
 |f+1,⟨k,xs⟩,r,hf,h=>by
  obtain⟨hd,D,E⟩:=ty_open h;have hb:=kind_byte D;have y:((k.toNat:Nat):Int)=k:=by omega
  rcases E with ⟨o,rfl⟩ | ⟨o,x,rfl,J⟩
  ·rw[tyB_mk,AF o,List.cons_append,rdT,hb,AF (by omega),AG (by omega),y];rfl
  ·have K:=rdT_put f x r (by omega) (by rw[show 5-f=5-(f+1)+1 by omega];exact J);rw[tyB_mk,AG o,List.cons_append,rdT,hb,AF (by omega),AF (by omega)];have A:([x].map tyB).headD []=tyB x:=rfl;rw[A,K,y];rfl
theorem rdT_ok:∀(f:Nat) (l:L8) (t:Ty) (j:Nat),f<=4->rdT f l=.ok (t,j)->j=(tyB t).length∧(∃r,l=tyB t++r)∧Ty.check (5-f) t=0∧t.wf
 |0,l,t,j,_,h=>by rw[rdT] at h;cases h
 |f+1,[],t,j,_,h=>by rw[rdT] at h;cases h
 |f+1,c::r,t,j,hf,h=>by
  rw[rdT] at h;by_cases y:c.toNat<1∨7<c.toNat
  ·rw[AG y] at h;cases h
  rw[AF y] at h;have D:UInt8.ofNat ((c.toNat:Int)).toNat=c:=by
   rw[Int.toNat_natCast,UInt8.ofNat_toNat]
  by_cases A:c.toNat≠6∧c.toNat≠7
  ·rw[AG A] at h;simp only[Except.ok.injEq,Prod.mk.injEq] at h;obtain⟨rfl,rfl⟩:=h;rw[tyB_mk,AF (by omega),D];exact⟨rfl,⟨r,rfl⟩,ty_leaf (by omega) (by omega) (by omega),Ty.wf_mk.2 ⟨by omega,fun x o=>by cases o⟩⟩
  ·rw[AF A] at h;split at h
   ·cases h
   ·next x j1 o=>
    simp only[Except.ok.injEq,Prod.mk.injEq] at h;obtain⟨rfl,rfl⟩:=h;obtain⟨rfl,⟨M,rfl⟩,K,L⟩:=rdT_ok f r x j1 (by omega) o;rw[tyB_mk,AG (by omega),D];have J:([x].map tyB).headD []=tyB x:=rfl;rw[J];exact⟨rfl,⟨M,rfl⟩,ty_one (by omega) (by omega) (by rw[show 5-(f+1)+1=5-f by omega];exact K),Ty.wf_mk.2 ⟨by omega,fun Q E=>by simp at E;subst E;exact L⟩⟩
end Sch
end
section
namespace Sch
theorem v0_fix:V.fix V0=V0:=by unfold V0;rw[V.fix_mk,fixB_zero];rfl
theorem v0_wf:V0.wf:=V.wf_mk.2 ⟨by omega,by omega,by omega,Nat.zero_le _,fun x o=>by cases o⟩
theorem col_open{l:List Col}{c:Col}(h:colErr l c=0):name c.name=C∧l.any (fun x=>decide (x.name=c.name))=N∧Ty.check 1 c.ty=0∧(c.has=N->V.fix c.dflt=V0)∧(c.has=C->chk 1 c.dflt=0∧of c.dflt c.ty=C):=by
 unfold colErr at h;by_cases D:name c.name=N
 ·rw[AG D] at h;cases h
 rw[AF D] at h;by_cases E:l.any (fun x=>decide (x.name=c.name))=C
 ·rw[AG E] at h;cases h
 rw[AF E] at h;by_cases y:Ty.check 1 c.ty≠0
 ·rw[AG y] at h;exact absurd h y
 rw[AF y] at h;refine⟨by simpa using D,by simpa using E,by simpa using y,fun J=>?_,fun J=>?_⟩
 ·rw[AG J] at h;by_cases o:V.same c.dflt V0=C
  ·rw[(same_iff _ _).1 o,v0_fix]
  ·rw[AF o] at h;cases h
 ·rw[AF (by rw[J];decide)] at h;by_cases o:chk 1 c.dflt≠0
  ·rw[AG o] at h;exact absurd h o
  rw[AF o] at h;refine⟨by simpa using o,?_⟩;by_cases A:is c.dflt c.ty=C
  ·unfold is at A;simp only[Bool.and_eq_true] at A;exact A.2
  ·rw[AF A] at h;cases h
theorem col_make{l:List Col}{c:Col}(A:name c.name=C)(D:l.any (fun x=>decide (x.name=c.name))=N)(o:Ty.check 1 c.ty=0)(E:c.has=N->V.fix c.dflt=V0)(J:c.has=C->chk 1 c.dflt=0∧of c.dflt c.ty=C):colErr l c=0:=by
 unfold colErr;rw[AF (by rw[A];decide),AF (by rw[D];decide),AF (by simp[o])];cases hh:c.has
 ·rw[AG rfl,AG ((same_iff _ _).2 (by rw[E hh,v0_fix]))]
 ·obtain⟨y,K⟩:=J hh;rw[AF (by decide),AF (by simp[y]),AG (by unfold is;simp[o,y,K])]
theorem colErr_names{l l':List Col}(h:l.map Col.name=l'.map Col.name)(c:Col):colErr l c=colErr l' c:=by
 have key:∀(l l':List Col),l.map Col.name=l'.map Col.name->l.any (fun x=>decide (x.name=c.name))=l'.any (fun x=>decide (x.name=c.name)):=by
  intro l;induction l with
  |nil=>intro l' h;cases l' with
   |nil=>rfl
   |cons y s=>simp at h
  |cons x r ih=>intro l' h;cases l' with
   |nil=>simp at h
   |cons y s=>
    simp only[List.map_cons,List.cons.injEq] at h;rw[List.any_cons,List.any_cons,h.1,ih s h.2]
 unfold colErr;rw[key l l' h]
theorem name_size(h:name t=C):1<=t.size∧t.size<=16:=by
 unfold name nameL at h;simp only[Bool.and_eq_true,decide_eq_true_eq] at h;have o:t.data.toList.length=t.size:=by rw[Array.length_toList];rfl
 omega
theorem rdC_put{l:List Col}{c:Col}(r:L8)(h:colErr l c=0)(Z:c.wf):rdC l (cB c++r)=.ok (c.fix,(cB c).length):=by
 obtain⟨y,D,A,E,J⟩:=col_open h;obtain⟨n,t,has,v⟩:=c;obtain⟨-,ah,K⟩:=Z;simp only at y D A E J K;obtain⟨ab,X⟩:=name_size y;have o:n.data.toList.length=n.size:=by rw[Array.length_toList];rfl
 unfold cB Col.fix;simp only;rw[AN,AN,AN,rdC,num_put _ _ (by omega)];dsimp only;rw[AF (by omega),text_put 16 70 n _ X (by omega)];dsimp only;rw[AF (by rw[y];decide),AF (by rw[D];decide)];have L:∀q:L8,(Leb.put n.size++(n.data.toList++q)).drop ((Leb.put n.size).length+n.size)=q:=fun q=>by
  rw[<-AN];exact List.drop_left' (by rw[AH,o])
 rw[L,rdT_put 4 t _ (by omega) A];dsimp only;have M:∀q:L8,(Leb.put n.size++(n.data.toList++(tyB t++q))).drop ((Leb.put n.size).length+n.size+(tyB t).length)=q:=fun q=>by
  rw[<-AN,<-AN];exact List.drop_left' (by rw[AH,AH,o])
 rw[M];cases has
 ·simp only[Bool.false_eq_true,if_false,List.cons_append,List.nil_append];rw[show(0:UInt8)=UInt8.ofNat 0 from rfl,bit_put 0 _ (by omega)];dsimp only;rw[AG rfl,E rfl];simp only[AH,AI,List.length_nil,o];congr 2;omega
 ·simp only[if_true,List.cons_append];obtain⟨S,V⟩:=J rfl;rw[show(1:UInt8)=UInt8.ofNat 1 from rfl,bit_put 1 _ (by omega)];dsimp only;rw[AF (by decide)];have Q:∀q:L8,(Leb.put n.size++(n.data.toList++(tyB t++UInt8.ofNat 1::q))).drop ((Leb.put n.size).length+n.size+(tyB t).length+1)=q:=fun q=>by
   rw[show UInt8.ofNat 1::q=[UInt8.ofNat 1]++q from rfl,<-AN,<-AN,<-AN];exact List.drop_left' (by rw[AH,AH,AH,o];rfl)
  rw[Q,rdV_put t 1 v r A S V K];dsimp only;simp only[AH,AI,o];congr 2;omega
theorem rdC_ok{l:List Col}{b:L8}{c:Col}(h:rdC l b=.ok (c,j)):j=(cB c).length∧(∃r,b=cB c++r)∧colErr l c=0∧c.fix=c∧c.wf:=by
 rw[rdC] at h;split at h
 ·cases h
 ·next n k hn=>
  by_cases K:n=0
  ·rw[AG K] at h;cases h
  rw[AF K] at h;split at h
  ·cases h
  ·next s j1 hs=>
   obtain⟨aw,a0,rfl,r,rfl⟩:=text_ok hs;have o:s.data.toList.length=s.size:=(by rw[Array.length_toList];rfl);by_cases y:name s=N
   ·rw[AG y] at h;cases h
   rw[AF y] at h;by_cases A:l.any (fun x=>decide (x.name=s))=C
   ·rw[AG A] at h;cases h
   rw[AF A] at h;have M:∀q:L8,(Leb.put s.size++(s.data.toList++q)).drop ((Leb.put s.size).length+s.size)=q:=fun q=>by
    rw[<-AN];exact List.drop_left' (by rw[AH,o])
   rw[M] at h;split at h
   ·cases h
   ·next t j2 ht=>
    obtain⟨rfl,⟨ak,rfl⟩,J,L⟩:=rdT_ok 4 _ _ _ (by omega) ht;have Q:∀q:L8,(Leb.put s.size++(s.data.toList++(tyB t++q))).drop ((Leb.put s.size).length+s.size+(tyB t).length)=q:=fun q=>by
     rw[<-AN,<-AN];exact List.drop_left' (by rw[AH,AH,o])
    rw[Q] at h;split at h
    ·cases h
    ·next f j3 hf=>
     obtain⟨f1,rfl,X,rfl⟩:=bit_ok hf;by_cases E:f=0
     ·rw[AG E] at h;simp only[Except.ok.injEq,Prod.mk.injEq] at h;obtain⟨rfl,rfl⟩:=h;subst E;unfold cB Col.fix Col.wf;simp only[Bool.false_eq_true,if_false];refine⟨?_,⟨X,?_⟩,?_,?_,⟨by omega,L,v0_wf⟩⟩
      ·simp only[AH,AI,List.length_nil,o];omega
      ·simp only[AN,List.cons_append,List.nil_append];rfl
      ·exact col_make (by simpa using y) (by simpa using A) J (fun _=>v0_fix) (fun D=>by cases D)
      ·rw[v0_fix]
     ·rw[AF E] at h;have V:f=1:=(by omega);subst V;have S:∀q:L8,(Leb.put s.size++(s.data.toList++(tyB t++UInt8.ofNat 1::q))).drop ((Leb.put s.size).length+s.size+(tyB t).length+1)=q:=fun q=>by
       rw[show UInt8.ofNat 1::q=[UInt8.ofNat 1]++q from rfl,<-AN,<-AN,<-AN];exact List.drop_left' (by rw[AH,AH,AH,o];rfl)
      rw[S] at h;split at h
      ·cases h
      ·next v j4 hv=>
       simp only[Except.ok.injEq,Prod.mk.injEq] at h;obtain⟨rfl,rfl⟩:=h;obtain⟨rfl,⟨Z,rfl⟩,ab,ah,ai,aj⟩:=rdV_ok t 1 _ _ _ J hv;unfold cB Col.fix Col.wf;simp only[if_true];refine⟨?_,⟨Z,?_⟩,?_,?_,⟨by omega,L,aj⟩⟩
       ·simp only[AH,AI,o];omega
       ·simp only[AN,List.cons_append];rfl
       ·exact col_make (by simpa using y) (by simpa using A) J (fun D=>by cases D) (fun _=>⟨ab,ah⟩)
       ·rw[ai]
theorem rdCs_put(r:L8):∀(s l:List Col),colsErr l s=0->(∀c∈s,c.wf)->rdCs s.length (l.map Col.fix) ((s.map cB).flatten++r)=.ok ((l++s).map Col.fix,(s.map cB).flatten.length)
 | [],l,_,_=>by
  rw[Az];rfl
 |c::s,l,h,hw=>by
  rw[colsErr] at h;by_cases o:colErr l c=0
  ·rw[AG o] at h;have A:colErr (l.map Col.fix) c=0:=by
    rw[colErr_names (l':=l) ?_ c,o];rw[List.map_map];rfl
   have y:=rdCs_put r s (l++[c]) h (fun x D=>hw x (List.mem_cons_of_mem _ D));rw[AI,rdCs,List.map_cons,List.flatten_cons,AN,rdC_put _ A (hw c (by simp))];dsimp only;rw[List.drop_left];rw[List.map_append,List.map_cons,List.map_nil] at y;rw[y];dsimp only;rw[AN,List.singleton_append,AH]
  ·rw[AF o] at h;exact absurd h o
theorem rdCs_ok:∀(m:Nat) (l:List Col) (b:L8) (o:List Col) (j:Nat),rdCs m l b=.ok (o,j)->∃s,o=l++s∧s.length=m∧j=(s.map cB).flatten.length∧(∃r,b=(s.map cB).flatten++r)∧colsErr l s=0∧∀c∈s,c.fix=c∧c.wf
 |0,l,b,o,j,h=>by
  rw[rdCs] at h;simp only[Except.ok.injEq,Prod.mk.injEq] at h;obtain⟨rfl,rfl⟩:=h;exact⟨[],by simp,rfl,rfl,⟨b,rfl⟩,rfl,fun c y=>by cases y⟩
 |m+1,l,b,o,j,h=>by
  rw[rdCs] at h;split at h
  ·cases h
  ·next c j1 y=>
   obtain⟨rfl,⟨r,rfl⟩,c1,c2,c3⟩:=rdC_ok y;rw[List.drop_left] at h;split at h
   ·cases h
   ·next l3 j2 hl=>
    simp only[Except.ok.injEq,Prod.mk.injEq] at h;obtain⟨rfl,rfl⟩:=h;obtain⟨s,rfl,rfl,rfl,⟨D,rfl⟩,E,J⟩:=rdCs_ok m (l++[c]) r l3 j2 hl;refine⟨c::s,by simp,rfl,by rw[List.map_cons,List.flatten_cons,AH],⟨D,by rw[List.map_cons,List.flatten_cons,AN]⟩,?_,fun x A=>?_⟩
    ·rw[colsErr,AG c1,E]
    ·rcases List.mem_cons.1 A with rfl | A
     ·exact⟨c2,c3⟩
     ·exact J x A
theorem err_open{s:List Col}(h:err s=0):1<=s.length∧s.length<=16∧colsErr [] s=0∧(bytes s).length<=1024:=by
 unfold err at h;by_cases y:s.length=0
 ·rw[AG y] at h;cases h
 rw[AF y] at h;by_cases A:16<s.length
 ·rw[AG A] at h;cases h
 rw[AF A] at h;by_cases o:colsErr [] s≠0
 ·rw[AG o] at h;exact absurd h o
 rw[AF o] at h;by_cases D:1024<(bytes s).length
 ·rw[AG D] at h;cases h
 exact⟨by omega,by omega,by simpa using o,by omega⟩
theorem err_make{s:List Col}(y:1<=s.length)(A:s.length<=16)(o:colsErr [] s=0)(D:(bytes s).length<=1024):err s=0:=by
 unfold err;rw[AF (by omega),AF (by omega),AF (by simp[o]),AF (by omega)]
theorem read_put{s:List Col}(h:err s=0)(A:∀c∈s,c.wf):read (bytes s)=.ok (s.map Col.fix):=by
 obtain⟨D,E,y,J⟩:=err_open h;have e:=rdCs_put [] s [] y A;rw[Az,List.nil_append,List.map_nil] at e;have o:bytes s=Leb.put s.length++(s.map cB).flatten:=rfl;rw[read,AF (by omega),o,num_put _ _ (by omega)];dsimp only;rw[AF (by omega),AF (by omega),List.drop_left,e];dsimp only;rw[AG (by rw[AH])]
theorem read_ok{b:L8}{s:List Col}(h:read b=.ok s):err s=0∧bytes s=b∧∀c∈s,c.fix=c∧c.wf:=by
 rw[read] at h;by_cases o:1024<b.length
 ·rw[AG o] at h;cases h
 rw[AF o] at h;split at h
 ·cases h
 ·next n k hn=>
  obtain⟨Q,r,rfl,rfl⟩:=num_ok hn;by_cases A:n=0
  ·rw[AG A] at h;cases h
  rw[AF A] at h;by_cases D:16<n
  ·rw[AG D] at h;cases h
  rw[AF D,List.drop_left] at h;split at h
  ·cases h
  ·next l j hl=>
   by_cases y:(Leb.put n).length+j=(Leb.put n++r).length
   ·rw[AG y] at h;simp only[Except.ok.injEq] at h;subst h;obtain⟨s,E,rfl,rfl,⟨K,rfl⟩,L,M⟩:=rdCs_ok _ _ _ _ _ hl;rw[List.nil_append] at E;subst E;have J:K=[]:=by
     rw[AH,AH] at y;exact List.eq_nil_of_length_eq_zero (by omega)
    subst J;rw[Az] at o ⊢;have hb:bytes l=Leb.put l.length++(l.map cB).flatten:=rfl;exact⟨err_make (by omega) (by omega) L (by rw[hb];omega),hb,M⟩
   ·rw[AF y] at h;cases h
theorem colSame_iff(c d:Col):colSame c d=C↔c.fix=d.fix:=by
 obtain⟨n,t,a,v⟩:=c;obtain⟨n',t',E,v'⟩:=d;unfold colSame Col.fix;simp only[Bool.and_eq_true,decide_eq_true_eq,beq_iff_eq,Ty.same_iff,same_iff,Col.mk.injEq];constructor
 ·rintro⟨⟨⟨o,y⟩,A⟩,D⟩;exact⟨o,A,y,D⟩
 ·rintro⟨o,A,y,D⟩;exact⟨⟨⟨o,y⟩,A⟩,D⟩
theorem same_fix:∀(s t:List Col),same s t=C↔s.map Col.fix=t.map Col.fix
 | [],[]=>by simp[same]
 | [],d::t=>by simp[same]
 |c::s,[]=>by simp[same]
 |c::s,d::t=>by
  rw[same,Bool.and_eq_true,List.map_cons,List.map_cons,List.cons.injEq,colSame_iff,same_fix s t]
theorem vH_fix(k i:Int)(b:Nat)(t:ByteArray)(n:Nat):vH k i (aH b) t n=vH k i b t n:=by unfold vH;rw[fu]
theorem vB_fix:∀v:V,vB (V.fix v)=vB v:=by
 refine V.ind ?_;intro k i b t xs y;rw[V.fix_mk,V.fixL_eq,vB_mk,vB_mk,vH_fix,List.length_map,List.map_map];congr 2;exact congrArg List.flatten (List.map_congr_left (fun x o=>y x o))
theorem cB_fix(c:Col):cB c.fix=cB c:=by
 unfold cB Col.fix;simp only[vB_fix]
theorem bytes_fix(s:List Col):bytes (s.map Col.fix)=bytes s:=by
 unfold bytes;rw[List.length_map,List.map_map];congr 2;exact List.map_congr_left (fun c _=>cB_fix c)
end Sch
end
section
namespace Sch
theorem flatten_le{o:Type}(f:o->L8)(B:Nat):∀xs:List o,(∀x∈xs,(f x).length<=B)->(xs.map f).flatten.length<=xs.length*B
 | [],_=>by simp
 |x::xs,h=>by
  have D:=h x (by simp);have E:=flatten_le f B xs (fun A y=>h A (List.mem_cons_of_mem _ y));rw[List.map_cons,List.flatten_cons,AH,AI,Nat.add_mul];omega
theorem vH_len{b:Nat}(A:t.size<=1024):(vH k i b t n).length<=1034:=by
 have y:t.data.toList.length=t.size:=by rw[Array.length_toList];rfl
 have o:=Leb.put_length_le;unfold vH;split
 ·simp
 split
 ·have:=o (Leb.zig i);omega
 split
 ·rw[le_len];omega
 split
 ·have:=o t.size;rw[AH];omega
 split
 ·simp
 split
 ·have:=o n;omega
 ·simp
theorem vB_len:∀(v:V) (d:Nat),chk d v=0->(vB v).length<=1100*260 ^ (4-d):=by
 refine V.ind ?_;intro k i b t xs ab d h;obtain⟨hd,M,S,X,-,A⟩:=chk_open h;have K:=vH_len (k:=k) (i:=i) (b:=b) (n:=xs.length) S;have a0:1<=260 ^ (4-d):=Nat.one_le_pow _ _ (by decide);rw[vB_mk,AH];split
 ·rw[List.length_nil];omega
 ·cases xs with
  |nil=>simp only[List.map_nil,List.flatten_nil,List.length_nil] at K ⊢;omega
  |cons x r=>
   have Z:=A x (by simp);obtain⟨k',y,b',t',ys⟩:=x;have aj:=(chk_open Z).1;have ak:=flatten_le vB (1100*260 ^ (4-(d+1))) (.mk k' y b' t' ys::r) (fun J D=>ab J D (d+1) (A J D));have e:260 ^ (4-d)=260 ^ (4-(d+1))*260:=(by rw[<-Nat.pow_succ];congr 1;omega);have aw:1<=260 ^ (4-(d+1)):=Nat.one_le_pow _ _ (by decide);rw[e];generalize 260 ^ (4-(d+1))=q at *
   have ai:(V.mk k' y b' t' ys::r).length*(1100*q)<=256*(1100*q):=Nat.mul_le_mul_right _ X;have o:=own_open M;have L:k=6∨k=7:=by
    obtain⟨-,-,-,-,E,-⟩:=o;simp at E;exact E
   have a1:(vH k i b t (V.mk k' y b' t' ys::r).length).length<=10:=by
    have Q:=Leb.put_length_le (V.mk k' y b' t' ys::r).length;unfold vH;rcases L with rfl | rfl
    ·rw[AF (by decide),AF (by decide),AF (by decide),AF (by decide),AG rfl];simp
    ·rw[AF (by decide),AF (by decide),AF (by decide),AF (by decide),AF (by decide),AG rfl];exact Q
   omega
theorem vB_small{v:V}{d:Nat}(h:chk d v=0)(hd:1<=d):(vB v).length<=20000000000:=by
 have y:=vB_len v d h;have o:260 ^ (4-d)<=260 ^ 3:=Nat.pow_le_pow_right (by decide) (by omega);have e:260 ^ 3=17576000:=by decide
 rw[e] at o;omega
theorem tyB_len:∀(x:Ty) (d:Nat),Ty.check d x=0->(tyB x).length+d<=5:=by
 refine Ty.ind ?_;intro k xs D d h;obtain⟨E,J,o⟩:=ty_open h;rcases o with ⟨o,rfl⟩ | ⟨o,y,rfl,A⟩
 ·rw[tyB_mk,AF o,AO];omega
 ·have:=D y (by simp) (d+1) A;rw[tyB_mk,AG o,AI];have e:([y].map tyB).headD []=tyB y:=rfl;rw[e];omega
theorem colsErr_mem:∀(s l:List Col),colsErr l s=0->∀c∈s,∃l',colErr l' c=0
 | [],_,_,c,o=>by cases o
 |d::r,l,h,c,o=>by
  rw[colsErr] at h;by_cases y:colErr l d=0
  ·rw[AG y] at h;rcases List.mem_cons.1 o with rfl | o
   ·exact⟨l,y⟩
   ·exact colsErr_mem r _ h c o
  ·rw[AF y] at h;exact absurd h y
theorem flatten_take{o:Type}(f:o->L8)(xs:List o)(j:Nat)(h:j<xs.length):((xs.take (j+1)).map f).flatten=((xs.take j).map f).flatten++f xs[j]:=by
 rw[List.take_succ_eq_append_getElem h,List.map_append,List.flatten_append];simp
theorem flatten_take_le{o:Type}(f:o->L8)(xs:List o)(j:Nat):((xs.take j).map f).flatten.length<=(xs.map f).flatten.length:=by
 have e:xs.map f=(xs.take j).map f++(xs.drop j).map f:=by rw[<-List.map_append,List.take_append_drop]
 rw[e,List.flatten_append,AH];omega
end Sch
end
section
open Go.RowKit
namespace Sch
theorem bit_ne(h:bit l=I e):e≠0:=by
 unfold bit at h;split at h
 ·cases h;decide
 ·split at h
  ·cases h;decide
  ·cases h
theorem num_ne(h:num l=I e):e≠0:=by
 unfold num at h;split at h
 ·cases h
 ·next hn=>cases h;exact hn
theorem text_ne(o:long≠0)(h:text most long l=I e):e≠0:=by
 unfold text at h;split at h
 ·next hn=>cases h;exact num_ne hn
 ·split at h
  ·cases h;exact o
  ·split at h
   ·cases h;decide
   ·cases h
theorem float_ne(h:float l=I e):e≠0:=by
 unfold float at h;split at h
 ·cases h;decide
 ·split at h
  ·cases h
  ·cases h;decide
theorem scalar_ne(h:scalar k l=I e):e≠0:=by
 unfold scalar at h;split at h
 ·split at h
  ·next hn=>cases h;exact bit_ne hn
  ·cases h
 ·split at h
  ·split at h
   ·next hn=>cases h;exact num_ne hn
   ·cases h
  ·split at h
   ·split at h
    ·next hn=>cases h;exact float_ne hn
    ·cases h
   ·split at h
    ·next hn=>cases h;exact text_ne (by decide) hn
    ·split at h
     ·cases h;decide
     ·cases h
theorem many_ne(h:many k l=I e):e≠0:=by
 unfold many at h;split at h
 ·exact bit_ne h
 ·split at h
  ·next hn=>cases h;exact num_ne hn
  ·split at h
   ·cases h;decide
   ·cases h
theorem rdN_ne{f:L8->Except Nat (V×Nat)}(o:∀l e,f l=I e->e≠0):∀(m:Nat) (l:L8) (e:Nat),rdN f m l=I e->e≠0
 |0,l,e,h=>by rw[rdN] at h;cases h
 |m+1,l,e,h=>by
  rw[rdN] at h;split at h
  ·next hn=>cases h;exact o _ _ hn
  ·split at h
   ·next hn=>cases h;exact rdN_ne o m _ _ hn
   ·cases h
theorem rdV_ne:∀(t:Ty) (d:Nat) (l:L8) (e:Nat),Ty.check d t=0->rdV t l=I e->e≠0:=by
 intro t;refine Ty.ind (P:=fun t=>∀(d:Nat) (l:L8) (e:Nat),Ty.check d t=0->rdV t l=I e->e≠0) ?_ t;intro k xs E d l e y h;obtain⟨hd,J,A⟩:=ty_open y;rw[rdV_mk] at h;rcases A with ⟨o,rfl⟩ | ⟨o,x,rfl,D⟩
 ·rw[AG (by omega)] at h;exact scalar_ne h
 ·rw[AF (by omega)] at h;split at h
  ·next hn=>cases h;exact many_ne hn
  ·split at h
   ·next hn=>cases h;exact rdN_ne (f:=rdV x) (fun l e h=>E x (by simp) (d+1) l e D h) _ _ _ hn
   ·cases h
theorem rdT_ne:∀(f:Nat) (l:L8) (e:Nat),rdT f l=I e->e≠0
 |0,l,e,h=>by rw[rdT] at h;cases h;decide
 |f+1,[],e,h=>by rw[rdT] at h;cases h;decide
 |f+1,c::r,e,h=>by
  rw[rdT] at h;split at h
  ·cases h;decide
  ·split at h
   ·cases h
   ·split at h
    ·next hn=>cases h;exact rdT_ne f r _ hn
    ·cases h
theorem rdC_ne{l:List Col}{b:L8}(h:rdC l b=I e):e≠0:=by
 rw[rdC] at h;split at h
 ·next hn=>cases h;exact num_ne hn
 ·split at h
  ·cases h;decide
  ·split at h
   ·next hn=>cases h;exact text_ne (by decide) hn
   ·split at h
    ·cases h;decide
    ·split at h
     ·cases h;decide
     ·split at h
      ·next hn=>cases h;exact rdT_ne _ _ _ hn
      ·next t j2 ht=>
       split at h
       ·next hn=>cases h;exact bit_ne hn
       ·split at h
        ·cases h
        ·split at h
         ·next hn=>cases h;exact rdV_ne t 1 _ _ (rdT_ok 4 _ t j2 (Nat.le_refl 4) ht).2.2.1 hn
         ·cases h
theorem rdCs_ne:∀(m:Nat) (l:List Col) (b:L8) (e:Nat),rdCs m l b=I e->e≠0
 |0,l,b,e,h=>by rw[rdCs] at h;cases h
 |m+1,l,b,e,h=>by
  rw[rdCs] at h;split at h
  ·next hn=>cases h;exact rdC_ne hn
  ·split at h
   ·next hn=>cases h;exact rdCs_ne m _ _ _ hn
   ·cases h
theorem read_ne{b:L8}(h:read b=I e):e≠0:=by
 rw[read] at h;split at h
 ·cases h;decide
 ·split at h
  ·next hn=>cases h;exact num_ne hn
  ·split at h
   ·cases h;decide
   ·split at h
    ·cases h;decide
    ·split at h
     ·next hn=>cases h;exact rdCs_ne _ _ _ _ hn
     ·split at h
      ·cases h
      ·cases h;decide
end Sch
end
section
open Go.RowKit
def aB(n:ByteArray)(k:Int)(tp:OA)(tn tc:Nat)(h:Bool)(vk vi:Int)(vb:Nat)(vt:ByteArray)(vp:OA)(vn vc:Nat):AV:=#[.string n,.int .i64 k,pv tp tn tc,.bool h,.int .i64 vk,.int .i64 vi,.float .f64 vb,.string vt,pv vp vn vc]
structure fk(w:R)(u:AV)(c:Col):Prop where
 out:∃k tp tn tc vk vi vb vt vp vn vc,u=aB c.name k tp tn tc c.has vk vi vb vt vp vn vc∧aN w (au k tp tn tc) c.ty∧aK w (cells5 vk vi vb vt vp vn vc) c.dflt
theorem fk.on{c:Col}(h:fk w u c)(hb:Below w.1.size w w'):fk w' u c:=by
 obtain⟨k,J,E,D,Q,M,K,X,V,S,L,o,y,A⟩:=h.out;exact⟨k,J,E,D,Q,M,K,X,V,S,L,o,y.on hb,A.on hb⟩
def At9(w:R)(blk o:Nat)(n:ByteArray)(k:Int)(tp:OA)(tn tc:Nat)(h:Bool)(vk vi:Int)(vb:Nat)(vt:ByteArray)(vp:OA)(vn vc:Nat):Prop :=
 w.cell? ⟨blk,o,O⟩=Y (.string n)∧w.cell? ⟨blk,o+1,O⟩=Y (.int .i64 k)∧w.cell? ⟨blk,o+2,O⟩=Y (pv tp tn tc)∧w.cell? ⟨blk,o+3,O⟩=Y (.bool h)∧w.cell? ⟨blk,o+4,O⟩=Y (.int .i64 vk)∧w.cell? ⟨blk,o+5,O⟩=Y (.int .i64 vi)∧w.cell? ⟨blk,o+6,O⟩=Y (.float .f64 vb)∧w.cell? ⟨blk,o+7,O⟩=Y (.string vt)∧w.cell? ⟨blk,o+8,O⟩=Y (pv vp vn vc)
theorem At9.on{blk o:Nat}{n:ByteArray}{D:OA}{A y:Nat}{h:Bool}{L K:Int}{E:Nat}{S:ByteArray}{Q:OA}{M J:Nat}(a0:At9 w blk o n k D A y h L K E S Q M J)(hb:Below w.1.size w w'):At9 w' blk o n k D A y h L K E S Q M J:=by
 obtain⟨V,X,Z,ab,ah,ai,aj,ak,aw⟩:=a0;exact⟨ae hb V,ae hb X,ae hb Z,ae hb ab,ae hb ah,ae hb ai,ae hb aj,ae hb ak,ae hb aw⟩
structure qK(w:R)(p:OA)(j:Nat)(u:AV):Prop where
 lies:∃blk off n k tp tn tc h vk vi vb vt vp vn vc,p=Y ⟨blk,off,O⟩∧blk<w.1.size∧u=aB n k tp tn tc h vk vi vb vt vp vn vc∧At9 w blk (off+j*9) n k tp tn tc h vk vi vb vt vp vn vc
theorem qK.on(h:qK w p j u)(hb:Below w.1.size w w'):qK w' p j u:=by
 obtain⟨blk,D,n,k,K,J,E,h,S,Q,L,Z,X,V,M,o,ab,y,A⟩:=h.lies;exact⟨blk,D,n,k,K,J,E,h,S,Q,L,Z,X,V,M,o,by have:=hb.size;omega,y,A.on hb⟩
def cU(w:R)(p:OA)(s:List Col):Prop:=∀j (hj:j<s.length),∃u,fk w u s[j]∧qK w p j u
theorem cU.on{s:List Col}(h:cU w p s)(hb:Below w.1.size w w'):cU w' p s:=fun j A=>by
 obtain⟨u,o,y⟩:=h j A;exact⟨u,o.on hb,y.on hb⟩
theorem cU.take{s:List Col}(h:cU w p s)(n:Nat):cU w p (s.take n):=fun j A=>by
 have D:j<s.length:=by rw[AM] at A;omega
 obtain⟨u,o,y⟩:=h j D;exact⟨u,by simpa using o,y⟩
theorem cU.at{s:List Col}(h:cU w p s)(j:Nat)(a0:j<s.length):∃blk y k E D A M L J V S Q K,p=Y ⟨blk,y,O⟩∧blk<w.1.size∧At9 w blk (y+j*9) s[j].name k E D A s[j].has M L J V S Q K∧aN w (au k E D A) s[j].ty∧aK w (cells5 M L J V S Q K) s[j].dflt:=by
 obtain⟨u,ak,aw⟩:=h j a0;obtain⟨blk,y,n,k,E,D,A,a1,M,L,J,V,S,Q,K,X,Z,ab,ah⟩:=aw.lies;obtain⟨k',a4,a3,a2,a8,a7,a5,bc,bb,a9,a6,o,ai,aj⟩:=ak.out;rw[ab] at o;simp only[aB] at o;injection o with o;injection o with q0 o;injection o with q1 o;injection o with q2 o;injection o with q3 o;injection o with q4 o;injection o with q5 o;injection o with q6 o;injection o with q7 o;injection o with q8 o;injection q0 with q0;injection q1 with _ q1;injection q2 with q2 q2a q2b;injection q3 with q3;injection q4 with _ q4;injection q5 with _ q5;injection q6 with _ q6;injection q7 with q7;injection q8 with q8 q8a q8b;subst q0 q1 q2 q2a q2b q3 q4 q5 q6 q7 q8 q8a q8b;exact⟨blk,y,k,E,D,A,M,L,J,V,S,Q,K,X,Z,ah,ai,aj⟩
structure qI(w:R)(u:AV)(s:List Col):Prop where
 out:∃p c,u=#[pv p s.length c]∧s.length*120<=140737488351232∧s.length<=c∧cU w p s
theorem qI.on{s:List Col}(h:qI w u s)(hb:Below w.1.size w w'):qI w' u s:=by
 obtain⟨p,c,o,y,A,D⟩:=h.out;exact⟨p,c,o,y,A,D.on hb⟩
end
section
open Go.RowKit
structure vl(w:R)(P:(Nat->Prop)->AV->Ty->Prop)(F:Nat->Prop)(g off c:Nat)(xs:List Ty)(us:Nat->AV)(Fs:Nat->Nat->Prop):Prop where
 hl:xs.length*32<=140737488351232
 hc:xs.length<=c
 h5:∀j,j<xs.length->(us j).size=2
 hp:g<w.1.size∧∀j,j<xs.length->∀m,m<2->w.cell? ⟨g,off+j*2+m,O⟩=(us j)[m]?
 hf:∀j,j<xs.length->∀m,m<2->w.frozen? ⟨g,off+j*2+m,O⟩=N
 hg:F g
 hgs:∀j,j<xs.length->¬Fs j g
 hd:∀j n,j<xs.length->n<xs.length->j≠n->∀k,Fs j k->¬Fs n k
 hs:∀j,j<xs.length->∀k,Fs j k->F k
 hr:∀j (h:j<xs.length),P (Fs j) (us j) xs[j]
def bD(w:R)(F:Nat->Prop)(u:AV)(x:Ty):Prop :=
 ∀P:(Nat->Prop)->AV->Ty->Prop,(∀F k p c,P F (au k p 0 c) (.mk k [])) ->
  (∀F k g off c xs us Fs,vl w P F g off c xs us Fs->P F (au k (.some ⟨g,off,.none⟩) xs.length c) (.mk k xs))->P F u x
section
variable {w w':R} {F G:Nat->Prop} {u:AV} {x:Ty}
theorem bD.none{F:Nat->Prop}{c:Nat}:bD w F (au k p 0 c) (.mk k []):=fun _ o _=>o F k p c
theorem bD.some{F:Nat->Prop}{o c:Nat}{xs:List Ty}(us:Nat->AV)(Fs:Nat->Nat->Prop)(M:xs.length*32<=140737488351232)(E:xs.length<=c)(D:∀j,j<xs.length->(us j).size=2)(Q:g<w.1.size∧∀j,j<xs.length->∀m,m<2->w.cell? ⟨g,o+j*2+m,.none⟩=(us j)[m]?)(J:∀j,j<xs.length->∀m,m<2->w.frozen? ⟨g,o+j*2+m,.none⟩=N)(K:F g)(L:∀j,j<xs.length->¬Fs j g)(hd:∀j n,j<xs.length->n<xs.length->j≠n->∀k,Fs j k->¬Fs n k)(V:∀j,j<xs.length->∀k,Fs j k->F k)(S:∀j (h:j<xs.length),bD w (Fs j) (us j) xs[j]):bD w F (au k (.some ⟨g,o,.none⟩) xs.length c) (.mk k xs) :=
 fun P A y=>y F k g o c xs us Fs ⟨M,E,D,Q,J,K,L,hd,V,fun j h=>S j h P A y⟩
theorem bD.inv(h:bD w F u x):(∃k p c,u=au k p 0 c∧x=.mk k [])∨∃k g o c xs us Fs,u=au k (.some ⟨g,o,.none⟩) xs.length c∧x=.mk k xs∧vl w (bD w) F g o c xs us Fs:=by
 have:=h (fun F u x=>bD w F u x∧((∃k p c,u=au k p 0 c∧x=.mk k [])∨∃k g o c xs us Fs,u=au k (.some ⟨g,o,.none⟩) xs.length c∧x=.mk k xs∧vl w (bD w) F g o c xs us Fs))
  (fun F k p c=>⟨.none,.inl ⟨k,p,c,rfl,rfl⟩⟩)
  (fun F k g o c xs us Fs s=>⟨.some us Fs s.hl s.hc s.h5 s.hp s.hf s.hg s.hgs s.hd s.hs (fun j h=>(s.hr j h).1),U ⟨k,g,o,c,xs,us,Fs,rfl,rfl,s.hl,s.hc,s.h5,s.hp,s.hf,s.hg,s.hgs,s.hd,s.hs,fun j h=>(s.hr j h).1⟩⟩)
 exact this.2
theorem bD.five(h:bD w F u x):u.size=2:=by
 rcases h.inv with ⟨_,_,_,rfl,_⟩ | ⟨_,_,_,_,_,_,_,rfl,_⟩ <;> rfl
theorem bD.shape(h:bD w F u x):∃k p n c,u=au k p n c:=by
 rcases h.inv with ⟨_,_,_,rfl,_⟩ | ⟨_,_,_,_,_,_,_,rfl,_⟩ <;> exact⟨_,_,_,_,rfl⟩
theorem bD.lies(h:bD w F u x):aN w u x :=
 h (fun _ u x=>aN w u x) (fun F k p c=>aN.mk (xs:=[]) (fun _=>#[]) (by simp) (by simp) (fun o=>absurd rfl o) (fun j y=>by simp at y))
  (fun F k g A c xs us Fs s=>aN.mk us s.hl s.hc (fun _=>⟨_,_,rfl,s.hp.1,s.hp.2⟩) s.hr)
theorem bD.aside(h:bD w F u x):∀{G:Nat->Prop} {w':R},Aside G w w'->(∀k,F k->¬G k)->bD w' F u x:=by
 intro G w' y;refine h (fun F u x=>(∀k,F k->¬G k)->bD w' F u x) ?_ ?_
 ·intro F k p c _;exact .none
 ·intro F k g J c xs us Fs s A;refine .some us Fs s.hl s.hc s.h5 ⟨AS s.hp.1 y.size,fun j o m D=>?_⟩ (fun j o m D=>?_) s.hg s.hgs s.hd s.hs (fun j o=>s.hr j o fun k E=>A k (s.hs j o k E))
  ·rw[y.cell s.hp.1 (A _ s.hg)];exact s.hp.2 j o m D
  ·rw[y.frozen s.hp.1 (A _ s.hg)];exact s.hf j o m D
theorem bD.under(h:bD w F u x)(hb:Below B w w')(o:∀k,F k->k<B):bD w' F u x :=
 h.aside (G:=fun k=>B<=k) (gO hb fun _ _ h=>h) fun k y A=>by have:=o k y;omega
theorem bD.mono(h:bD w F u x)(o:∀k,F k->G k):bD w G u x:=by
 rcases h.inv with ⟨k,p,c,rfl,rfl⟩ | ⟨k,g,D,c,xs,us,Fs,rfl,rfl,s⟩
 ·exact .none
 ·exact .some us Fs s.hl s.hc s.h5 s.hp s.hf (o _ s.hg) s.hgs s.hd (fun j y k A=>o k (s.hs j y k A)) s.hr
end
theorem bD.one{F G:Nat->Prop}{x:Ty}{T:TypeId}(y:w.1[g]?=Option.some (.cells u T (0,0)))(h:bD w F u x)(D:∀k,F k->G k)(J:¬F g)(E:G g):bD w G (au k (.some ⟨g,0,.none⟩) 1 1) (.mk k [x]):=by
 have L:g<w.1.size:=(Array.getElem?_eq_some_iff.1 y).1;refine bD.some (xs:=[x]) (fun _=>u) (fun _=>F) (by simp) (by simp) (fun _ _=>h.five) ⟨L,fun j o m M=>?_⟩ (fun j o m M=>?_) E (fun _ _=>J) (fun j n o Q S=>?_) (fun _ _ k K=>D k K) (fun j o=>?_)
 ·have A:j=0:=by simp at o;omega
  subst A;simp[World.cell?,y]
 ·simp[World.frozen?,y]
 ·simp at o Q;omega
 ·have A:j=0:=by simp at o;omega
  subst A;exact h
end
section
open Go.RowKit
structure dx(w:R)(F:Nat->Prop)(u:AV)(c:Col):Prop where
 out:∃(F1 F2:Nat->Prop) (k:Int) (tp:OA) (tn tc:Nat) (vk vi:Int) (vb:Nat) (vt:ByteArray) (vp:OA) (vn vc:Nat),u=aB c.name k tp tn tc c.has vk vi vb vt vp vn vc∧bD w F1 (au k tp tn tc) c.ty∧aY w F2 (cells5 vk vi vb vt vp vn vc) c.dflt∧(∀k,F1 k->F k)∧(∀k,F2 k->F k)∧∀k,F1 k->¬F2 k
section
variable {w w':R} {F G:Nat->Prop} {u:AV} {c:Col}
theorem dx.nine(h:dx w F u c):u.size=9:=by
 obtain⟨_,_,_,_,_,_,_,_,_,_,_,_,_,rfl,_⟩:=h.out;rfl
theorem dx.lies(h:dx w F u c):fk w u c:=by
 obtain⟨Z,ab,k,J,E,D,Q,M,K,X,V,S,L,o,y,A,_⟩:=h.out;exact⟨k,J,E,D,Q,M,K,X,V,S,L,o,y.lies,A.lies⟩
theorem dx.aside(h:dx w F u c)(D:Aside G w w')(hd:∀k,F k->¬G k):dx w' F u c:=by
 obtain⟨E,J,k,X,V,S,ai,ah,Z,aw,ak,aj,ab,K,L,M,y,A,Q⟩:=h.out;exact⟨E,J,k,X,V,S,ai,ah,Z,aw,ak,aj,ab,K,L.aside D (fun k o=>hd k (y k o)),M.aside D (fun k o=>hd k (A k o)),y,A,Q⟩
theorem dx.under(h:dx w F u c)(hb:Below B w w')(o:∀k,F k->k<B):dx w' F u c :=
 h.aside (G:=fun k=>B<=k) (gO hb fun _ _ h=>h) fun k y A=>by have:=o k y;omega
theorem dx.mono(h:dx w F u c)(y:∀k,F k->G k):dx w G u c:=by
 obtain⟨A,D,k,X,V,S,ai,ah,Z,aw,ak,aj,ab,E,J,K,L,M,Q⟩:=h.out;exact⟨A,D,k,X,V,S,ai,ah,Z,aw,ak,aj,ab,E,J,K,fun k o=>y k (L k o),fun k o=>y k (M k o),Q⟩
theorem dx.one9(h:dx w F u c):∀a∈u.toList,a.oneCell'=true:=by
 obtain⟨_,_,_,_,_,_,_,_,_,_,_,_,_,rfl,_⟩:=h.out;intro a o;simp[aB] at o;rcases o with rfl | rfl | rfl | rfl | rfl | rfl | rfl | rfl | rfl <;> rfl
end
theorem kS(us:Nat->AV):∀n,(∀j,j<n->(us j).size=9)->(flat us n).length=n*9
 |0,_=>by simp[flat]
 |n+1,h=>by
  rw[flat,AH,kS us n fun j o=>h j (by omega),Array.length_toList,h n (by omega)];omega
theorem kT(us:Nat->AV):∀n,(∀j,j<n->(us j).size=9)->∀j,j<n->∀m,m<9->(flat us n)[j*9+m]?=(us j)[m]?
 |0,_,j,o,_,_=>by omega
 |n+1,h,j,o,m,hm=>by
  have D:=kS us n fun j o=>h j (by omega);rw[flat];rcases Nat.lt_or_ge j n with y | y
  ·rw[List.getElem?_append_left (by omega),kT us n (fun j o=>h j (by omega)) j y m hm]
  ·have A:j=n:=(by omega);subst A;rw[List.getElem?_append_right (by omega),D,Nat.add_sub_cancel_left];simp
def xl:Value:=.agg (aB ⟨#[]⟩ 0 O 0 0 N 0 0 0 ⟨#[]⟩ O 0 0)
theorem yx:(Tryz.prog.info? 104).map (fun i=>(i.zero,i.size,i.bytes))=Y (Y xl,9,120):=by kernel_rfl
section
variable {B:Nat} {v:Value} {n:Nat} {us:Nat->AV} {w:R} {u:AV} {ad H:Nat}
theorem sU(ak:w.ownsRow B 104 9 v n (flat us n))(M:u.size=9)(E:∀a∈u.toList,a.oneCell'=C)(X:w.1[ad]?=Y (.cells u 104 (0,0)))(ai:(n+1)*120<=140737488355328)(Q:B<=w.1.size)(S:w.1.size=H){D:Array Oper}{rest:List Oper}{o:Oper}{a:Act}{A:Exit->Act->R->Prop}{y x:Operand}(ab:o.guard=O)(aj:o.op=Op.call { callee:=Callee.builtin Builtin.append,args:=#[y,x],argTypes:=#[33,33] })(aw:a.eval y=v)(a1:a.eval x=pv (Y ⟨ad,0,O⟩) 1 1)(V:∀g cap w',w'.ownsRow B 104 9 (pv (Y ⟨g,0,O⟩) (n+1) cap) (n+1) (flat us n++u.toList)->w.grownBy w' v.ownBlock->(v.ownBlock=Y g∨g=H)->wpList Tryz.prog D A rest (a.put o.dst (pv (Y ⟨g,0,O⟩) (n+1) cap)) w'):
  wpList Tryz.prog D A (o::rest) a w:=by
 obtain⟨i,ah,a2,a0,Z⟩:=info_parts yx
 exact wpList_append_lies w ab y x 33 aj B 104 i xl 9 120 Tryz.underlying33 ah a2 a0 Z rfl (by decide) v n (flat us n) aw ak ⟨ad,0,O⟩ 1 1 u.toList a1 (by simp[M])
  (World.news_of_block X) E (by decide) (by unfold maxLen;omega) ai Q H S fun g cap w' J K L _=>V g cap w' J K L
end
structure aS(w:R)(B:Nat)(v:Value)(n:Nat)(us:Nat->AV)(Fs:Nat->Nat->Prop)(ys:List Col):Prop where
 len:ys.length=n
 nine:∀j,j<n->(us j).size=9
 row:w.ownsRow B 104 9 v n (flat us n)
 own:∀j (h:j<ys.length),dx w (Fs j) (us j) ys[j]
 apart:∀j m,j<n->m<n->j≠m->∀k,Fs j k->¬Fs m k
 beside:∀g,v.ownBlock=Y g->∀j,j<n->¬Fs j g
 range:∀j,j<n->∀k,Fs j k->B<=k∧k<w.1.size
theorem jO(w:R)(B:Nat):aS w B (pv O 0 0) 0 (fun _=>#[]) (fun _ _=>False) [] :=
 ⟨rfl,fun j o=>by omega,World.ownsRow_nil _ _ _ _,fun j o=>by simp at o,fun j m o=>by omega,fun g y=>by simp[Value.ownBlock] at y,fun j o=>by omega⟩
section
variable {w w':R} {B:Nat} {v:Value} {n:Nat} {us:Nat->AV} {Fs:Nat->Nat->Prop} {ys:List Col}
theorem aS.aside{G:Nat->Prop}(h:aS w B v n us Fs ys)(y:Aside G w w')(J:∀g,v.ownBlock=Y g->¬G g)(K:∀j,j<n->∀k,Fs j k->¬G k):aS w' B v n us Fs ys:=by
 refine⟨h.len,h.nine,?_,fun j o=>(h.own j o).aside y (K j (by rw[<-h.len];exact o)),h.apart,h.beside,fun j o k D=>⟨(h.range j o k D).1,AS (h.range j o k D).2 y.size⟩⟩;refine⟨h.row.1,?_⟩;rcases h.row.2 with L | ⟨g,cap,E,rfl,M,A,Q⟩
 ·exact .inl L
 ·exact U ⟨g,cap,E,rfl,M,by rw[y.block g (Array.getElem?_eq_some_iff.1 A).1 (J g rfl)];exact A,Q⟩
theorem aS.lt(h:aS w B v n us Fs ys):∀g,v.ownBlock=Y g->B<=g∧g<w.1.size:=World.ownsRow.lt h.row
theorem aS.on(h:aS w B v n us Fs ys)(hb:Below w.1.size w w'):aS w' B v n us Fs ys :=
 h.aside (af hb (fun _=>False)) (fun _ _ o=>o) (fun _ _ _ _ o=>o)
theorem aS.set(h:aS w B v n us Fs ys)(p:Addr)(u:Value)(E:p.block<B):aS (w.setCell p u) B v n us Fs ys :=
 h.aside (G:=fun k=>k=p.block) ((Aside.refl (fun k=>k=p.block) w).setCell (p:=p) (.inl rfl) u) (fun g y o=>by have:=(h.lt g y).1;omega) (fun j A k D o=>by have:=(h.range j A k D).1;omega)
theorem aS.step{J Q w4:R}{F:Nat->Prop}{x:Col}{cap:Nat}(h:aS w B v n us Fs ys)(hb:Below w.1.size w J)(ab:dx J F u x)(K:∀k,F k->w.1.size<=k∧k<J.1.size)(S:Below J.1.size J Q)(a2:B<=w.1.size)(aj:w4.ownsRow B 104 9 (pv (Y ⟨g,0,O⟩) (n+1) cap) (n+1) (flat us n++u.toList))(L:Q.grownBy w4 v.ownBlock)(D:v.ownBlock=Y g∨g=Q.1.size):
  aS w4 B (pv (Y ⟨g,0,O⟩) (n+1) cap) (n+1) (fun j=>if j=n then u else us j) (fun j=>if j=n then F else Fs j) (ys++[x]):=by
 have a5:=hb.size;have a6:=S.size;have M:Aside (fun k=>v.ownBlock=Y k) J w4:=by
  refine(af S _).trans (G:=fun k=>v.ownBlock=Y k) ⟨L.os,L.tape,L.output,L.size,fun k o ah=>L.block k o (fun y=>ah y.symm)⟩ (fun _ _ h=>h)
 have X:∀k,F k->¬v.ownBlock=Y k:=fun k o y=>by have:=(h.lt k y).2;have:=(K k o).1;omega
 have a4:∀j,j<n+1->j≠n->j<n:=fun j aw a0=>by omega
 refine⟨by rw[AH,h.len];rfl,fun j E=>?_,?_,fun j E=>?_,fun j m E a3 ai k o=>?_,fun ak V j E=>?_,fun j E k o=>?_⟩
 ·split
  ·exact ab.nine
  ·exact h.nine j (by omega)
 ·rw[flat,eB _ us n (fun j E=>by simp[show ¬j=n by omega])];simpa using aj
 ·rw[AH,h.len,AO] at E;by_cases A:j=n
  ·subst A;rw[AG rfl,AG rfl,List.getElem_append_right (by rw[h.len];exact gQx)];simp only[h.len,Nat.sub_self,List.getElem_singleton];exact ab.aside M X
  ·rw[AF A,AF A,List.getElem_append_left (by rw[h.len];omega)];exact((h.own j (by rw[h.len];omega)).under hb (fun k o=>(h.range j (by omega) k o).2)).aside M (fun k o y=>h.beside k y j (by omega) o)
 ·by_cases A:j=n
  ·rw[AG A] at o;rw[AF (by omega)];exact fun y=>by have:=(h.range m (by omega) k y).2;have:=(K k o).1;omega
  ·rw[AF A] at o;by_cases Z:m=n
   ·rw[AG Z];exact fun y=>by have:=(h.range j (by omega) k o).2;have:=(K k y).1;omega
   ·rw[AF Z];exact h.apart j m (by omega) (by omega) ai k o
 ·simp only[Value.ownBlock,Option.some.injEq] at V;subst V;by_cases A:j=n
  ·rw[AG A];intro y;have:=K _ y;rcases D with D | D
   ·exact X _ y D
   ·omega
  ·rw[AF A];intro y;rcases D with D | D
   ·exact h.beside _ D j (by omega) y
   ·have:=(h.range j (by omega) _ y).2;omega
 ·have a1:=M.size;by_cases A:j=n
  ·rw[AG A] at o;have:=K k o;omega
  ·rw[AF A] at o;have:=h.range j (by omega) k o;omega
theorem aS.low{B':Nat}(h:aS w B v n us Fs ys)(o:B'<=B):aS w B' v n us Fs ys:=by
 refine⟨h.len,h.nine,⟨h.row.1,?_⟩,h.own,h.apart,h.beside,fun j y k A=>⟨AT o (h.range j y k A).1,(h.range j y k A).2⟩⟩;rcases h.row.2 with E | ⟨g,cap,D,rfl,J,K⟩
 ·exact .inl E
 ·exact U ⟨g,cap,D,rfl,AT o J,K⟩
structure dt(w:R)(B:Nat)(u:AV)(s:List Col):Prop where
 out:∃v us Fs,u=#[v]∧aS w B v s.length us Fs s∧s.length*120<=140737488351232
theorem aS.cols(h:aS w B v n us Fs ys)(a9:n*120<=140737488351232):∃p c,v=pv p n c∧n<=c∧cU w p ys:=by
 rcases h.row.2 with ⟨rfl,D⟩ | ⟨g,cap,a5,rfl,a6,E,J,a7,a8,K⟩
 ·have X:ys=[]:=List.eq_nil_of_length_eq_zero (by rw[h.len];exact D);subst X;subst D;exact⟨O,0,rfl,gQx,fun j y=>by simp at y⟩
 ·refine⟨_,cap,rfl,J,fun j y=>?_⟩;have M:=(Array.getElem?_eq_some_iff.1 E).1;have bb:=h.len;have L:∀q,q<n*9->w.cell? ⟨g,q,O⟩=(flat us n)[q]?:=fun q V=>by
   rw[<-K,List.getElem?_take_of_lt V];simp[World.cell?,E]
  have Q:j<n:=by omega
  refine⟨us j,(h.own j y).lies,?_⟩;obtain⟨a3,a4,k,ah,ab,Z,aw,ak,ai,a2,a1,a0,aj,A,-⟩:=(h.own j y).out;have o:∀m,m<9->w.cell? ⟨g,0+j*9+m,O⟩=(us j)[m]?:=fun m S=>by
   rw[Nat.zero_add,L _ (by omega),kT us _ h.nine j Q m S]
  rw[A] at o;refine⟨g,0,_,k,ah,ab,Z,_,aw,ak,ai,a2,a1,a0,aj,rfl,M,A,?_⟩;exact⟨o 0 (by omega),o 1 (by omega),o 2 (by omega),o 3 (by omega),o 4 (by omega),o 5 (by omega),o 6 (by omega),o 7 (by omega),o 8 (by omega)⟩
theorem dt.lies{s:List Col}(h:dt w B u s):qI w u s:=by
 obtain⟨v,us,Fs,rfl,hb,o⟩:=h.out;obtain⟨p,c,rfl,y,A⟩:=hb.cols o;exact⟨p,c,rfl,o,y,A⟩
end
end
end Go.Proofs.YtngmnfdaedlodaaGreatDoor
