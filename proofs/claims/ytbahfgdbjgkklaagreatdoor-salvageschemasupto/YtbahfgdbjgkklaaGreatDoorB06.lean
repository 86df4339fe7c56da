import Derived.Test.YtbahfgdbjgkklaaGreatDoorB05
namespace Go.Proofs.YtbahfgdbjgkklaaGreatDoor
variable{B b e g j long most n:Nat}{w w':World}{l:L8}{i k:Int}{u:AV}{t:ByteArray}
section
def V.wf(v:V):Prop:=match v with
 |.mk k i b t xs=>(-9223372036854775808<=k∧k<=9223372036854775807)∧(-9223372036854775808<=i∧i<=9223372036854775807)∧b<18446744073709551616∧t.size<=140737488351232∧∀p∈xs.map V.wf,p
theorem V.wf_mk{xs:List V}:V.wf (.mk k i b t xs)↔(-9223372036854775808<=k∧k<=9223372036854775807)∧(-9223372036854775808<=i∧i<=9223372036854775807)∧b<18446744073709551616∧t.size<=140737488351232∧∀x∈xs,V.wf x:=by
 rw[V.wf];simp only[List.mem_map,forall_exists_index,and_imp,forall_apply_eq_imp_iff₂]
def Ty.wf(v:Ty):Prop:=match v with
 |.mk k xs=>(-9223372036854775808<=k∧k<=9223372036854775807)∧∀p∈xs.map Ty.wf,p
theorem Ty.wf_mk{xs:List Ty}:Ty.wf (.mk k xs)↔(-9223372036854775808<=k∧k<=9223372036854775807)∧∀x∈xs,Ty.wf x:=by
 rw[Ty.wf];simp only[List.mem_map,forall_exists_index,and_imp,forall_apply_eq_imp_iff₂]
def V0:V:=.mk 0 0 0 ⟨#[]⟩ []
structure Col where
 name:ByteArray
 ty:Ty
 has:Bool
 dflt:V
def Col.wf(c:Col):Prop:=c.name.size<=140737488351232∧c.ty.wf∧c.dflt.wf
def Col.fix(c:Col):Col:=⟨c.name,c.ty,c.has,V.fix c.dflt⟩
namespace Sch
def low(c:UInt8):Bool:=decide (97<=c.toNat∧c.toNat<=122)
def ch(c:UInt8):Bool:=low c||decide (48<=c.toNat∧c.toNat<=57)||decide (c.toNat=95)
def nameL(l:L8):Bool:=decide (1<=l.length∧l.length<=16)&&low (l.headD 0)&&l.all ch
def name(t:ByteArray):Bool:=nameL t.data.toList
def inner(t:Ty):Ty:=t.of.headD ⟨0,[]⟩
def of(v:V):Ty->Bool:=match v with
 |.mk k _ _ _ xs=>fun t=>k==t.kind&&(xs.map of).all (fun f=>f (inner t))
theorem of_mk(k i:Int)(b:Nat)(s:ByteArray)(xs:List V)(t:Ty):of (.mk k i b s xs) t=(k==t.kind&&xs.all (fun x=>of x (inner t))):=by
 rw[of];simp[List.all_map,Function.comp_def]
def is(v:V)(t:Ty):Bool:=decide (Ty.check 1 t=0)&&decide (chk 1 v=0)&&of v t
def colErr(l:List Col)(c:Col):Nat :=
 if name c.name=false then 70 else if l.any (fun x=>decide (x.name=c.name)) then 71 else if Ty.check 1 c.ty≠0 then Ty.check 1 c.ty
 else if c.has=false then (if V.same c.dflt V0 then 0 else 80) else if chk 1 c.dflt≠0 then chk 1 c.dflt else if is c.dflt c.ty then 0 else 80
def colsErr:List Col->List Col->Nat
 |_,[]=>0
 |l,c::r=>if colErr l c=0 then colsErr (l++[c]) r else colErr l c
def tyB(t:Ty):L8:=match t with
 |.mk k xs=>UInt8.ofNat k.toNat::(if k=6∨k=7 then (xs.map tyB).headD [] else [])
theorem tyB_mk(k:Int)(xs:List Ty):tyB (.mk k xs)=UInt8.ofNat k.toNat::(if k=6∨k=7 then (xs.map tyB).headD [] else []):=by rw[tyB]
def le:Nat->Nat->L8
 |0,_=>[]
 |k+1,n=>UInt8.ofNat (n % 256)::le k (n / 256)
def un:L8->Nat
 | []=>0
 |c::r=>un r*256+c.toNat
def vB(v:V):L8:=match v with
 |.mk k i b t xs=>(if k=1 then [UInt8.ofNat i.toNat] else if k=2 then Leb.put (Leb.zig i) else if k=3 then le 8 (ay b) else if k=4∨k=5 then Leb.put t.size++t.data.toList
  else if k=6 then [if 0<xs.length then 1 else 0] else if k=7 then Leb.put xs.length else [])++(if k=1∨k=2∨k=3∨k=4∨k=5 then [] else (xs.map vB).flatten)
def vH(k i:Int)(b:Nat)(t:ByteArray)(n:Nat):L8 :=
 if k=1 then [UInt8.ofNat i.toNat] else if k=2 then Leb.put (Leb.zig i) else if k=3 then le 8 (ay b) else if k=4∨k=5 then Leb.put t.size++t.data.toList else if k=6 then [if 0<n then 1 else 0] else if k=7 then Leb.put n else []
theorem vB_mk(k i:Int)(b:Nat)(t:ByteArray)(xs:List V):vB (.mk k i b t xs)=vH k i b t xs.length++(if k=1∨k=2∨k=3∨k=4∨k=5 then [] else (xs.map vB).flatten):=by rw[vB,vH]
def cB(c:Col):L8:=Leb.put c.name.size++(c.name.data.toList++(tyB c.ty++(if c.has then 1 else 0)::(if c.has then vB c.dflt else [])))
def bytes(s:List Col):L8:=Leb.put s.length++(s.map cB).flatten
def err(s:List Col):Nat:=if s.length=0 then 4 else if 16<s.length then 3 else if colsErr [] s≠0 then colsErr [] s else if 1024<(bytes s).length then 2 else 0
def colSame(c d:Col):Bool:=decide (c.name=d.name)&&(c.has==d.has)&&Ty.same c.ty d.ty&&V.same c.dflt d.dflt
def same:List Col->List Col->Bool
 | [],[]=>true
 |c::r,d::s=>colSame c d&&same r s
 |_,_=>false
def find(n:ByteArray):List Col->Nat->Option Nat
 | [],_=>none
 |c::r,k=>if c.name=n then some k else find n r (k+1)
def bit:L8->Except Nat (Nat×Nat)
 | []=>.error 30
 |c::_=>if 1<c.toNat then .error 5 else .ok (c.toNat,1)
def num(l:L8):Except Nat (Nat×Nat):=if (Leb.get l).err=0 then .ok ((Leb.get l).n,(Leb.get l).k) else .error (Leb.get l).err
def text(most long:Nat)(l:L8):Except Nat (ByteArray×Nat):=match num l with
 |.error e=>.error e
 |.ok (n,k)=>if most<n then .error long else if l.length-k<n then .error 30 else .ok (⟨((l.drop k).take n).toArray⟩,k+n)
def float(l:L8):Except Nat (Nat×Nat):=if l.length<8 then .error 30 else if ay (un (l.take 8))=un (l.take 8) then .ok (un (l.take 8),8) else .error 5
def scalar(k:Int)(l:L8):Except Nat (V×Nat) :=
 if k=1 then match bit l with
  |.error e=>.error e
  |.ok (n,j)=>.ok (.mk k n 0 ⟨#[]⟩ [],j)
 else if k=2 then match num l with
  |.error e=>.error e
  |.ok (n,j)=>.ok (.mk k (Leb.zag n) 0 ⟨#[]⟩ [],j)
 else if k=3 then match float l with
  |.error e=>.error e
  |.ok (n,j)=>.ok (.mk k 0 n ⟨#[]⟩ [],j)
 else match text 1024 2 l with
  |.error e=>.error e
  |.ok (t,j)=>if k=4∧dM t=false then .error 61 else .ok (.mk k 0 0 t [],j)
def rdN(f:L8->Except Nat (V×Nat)):Nat->L8->Except Nat (List V×Nat)
 |0,_=>.ok ([],0)
 |m+1,l=>match f l with
  |.error e=>.error e
  |.ok (v,j)=>match rdN f m (l.drop j) with
   |.error e=>.error e
   |.ok (vs,j2)=>.ok (v::vs,j+j2)
def many(k:Int)(l:L8):Except Nat (Nat×Nat):=if k=6 then bit l else match num l with
 |.error e=>.error e
 |.ok (n,j)=>if 256<n then .error 3 else .ok (n,j)
def rdV(t:Ty):L8->Except Nat (V×Nat):=match t with
 |.mk k xs=>fun l=>if k≠6∧k≠7 then scalar k l else match many k l with
  |.error e=>.error e
  |.ok (m,j)=>match rdN ((xs.map rdV).headD (fun _=>.error 0)) m (l.drop j) with
   |.error e=>.error e
   |.ok (vs,j2)=>.ok (.mk k 0 0 ⟨#[]⟩ vs,j+j2)
theorem rdV_mk(k:Int)(xs:List Ty)(l:L8):rdV (.mk k xs) l=if k≠6∧k≠7 then scalar k l else match many k l with
  |.error e=>.error e
  |.ok (m,j)=>match rdN ((xs.map rdV).headD (fun _=>.error 0)) m (l.drop j) with
   |.error e=>.error e
   |.ok (vs,j2)=>.ok (.mk k 0 0 ⟨#[]⟩ vs,j+j2):=by rw[rdV]
def rdT:Nat->L8->Except Nat (Ty×Nat)
 |0,_=>.error 62
 |_+1,[]=>.error 30
 |f+1,c::r=>if c.toNat<1∨7<c.toNat then .error 60 else if c.toNat≠6∧c.toNat≠7 then .ok (⟨(c.toNat:Int),[]⟩,1) else match rdT f r with
  |.error e=>.error e
  |.ok (t,j)=>.ok (⟨(c.toNat:Int),[t]⟩,j+1)
def rdC(l:List Col)(b:L8):Except Nat (Col×Nat):=match num b with
 |.error e=>.error e
 |.ok (n,_)=>if n=0 then .error 70 else match text 16 70 b with
  |.error e=>.error e
  |.ok (s,j)=>if name s=false then .error 70 else if l.any (fun x=>decide (x.name=s)) then .error 71 else match rdT 4 (b.drop j) with
   |.error e=>.error e
   |.ok (t,j2)=>match bit (b.drop (j+j2)) with
    |.error e=>.error e
    |.ok (h,j3)=>if h=0 then .ok (⟨s,t,false,V0⟩,j+j2+j3) else match rdV t (b.drop (j+j2+j3)) with
     |.error e=>.error e
     |.ok (v,j4)=>.ok (⟨s,t,true,v⟩,j+j2+j3+j4)
def rdCs:Nat->List Col->L8->Except Nat (List Col×Nat)
 |0,l,_=>.ok (l,0)
 |m+1,l,b=>match rdC l b with
  |.error e=>.error e
  |.ok (c,j)=>match rdCs m (l++[c]) (b.drop j) with
   |.error e=>.error e
   |.ok (l2,j2)=>.ok (l2,j+j2)
def read(b:L8):Except Nat (List Col):=if 1024<b.length then .error 2 else match num b with
 |.error e=>.error e
 |.ok (n,k)=>if n=0 then .error 4 else if 16<n then .error 3 else match rdCs n [] (b.drop k) with
  |.error e=>.error e
  |.ok (l,j)=>if k+j=b.length then .ok l else .error 5
end Sch
end
section
namespace Sch
theorem le_len:∀(k n:Nat),(le k n).length=k
 |0,_=>rfl
 |k+1,n=>by rw[le,List.length_cons,le_len k]
theorem un_le:∀(k n:Nat),n<256 ^ k->un (le k n)=n
 |0,n,h=>by simp at h;subst h;rfl
 |k+1,n,h=>by
  rw[le,un,un_le k (n / 256) (by rw[Nat.pow_succ] at h;rw[Nat.div_lt_iff_lt_mul (by omega)];exact h),UInt8.toNat_ofNat'];omega
theorem le_un:∀(l:L8),le l.length (un l)=l
 | []=>rfl
 |c::r=>by
  have z:c.toNat<256:=c.toNat_lt;have o:(un r*256+c.toNat) % 256=c.toNat:=by omega
  have y:(un r*256+c.toNat) / 256=un r:=by omega
  rw[List.length_cons,le,un,o,y,le_un r];congr 1;apply UInt8.toNat_inj.1;rw[UInt8.toNat_ofNat'];omega
theorem un_lt:∀(l:L8),un l<256 ^ l.length
 | []=>by simp[un]
 |c::r=>by
  have o:c.toNat<256:=c.toNat_lt;have:=un_lt r;rw[un,List.length_cons,Nat.pow_succ];omega
theorem num_put(n:Nat)(r:L8)(h:n<18446744073709551616):num (Leb.put n++r)=.ok (n,(Leb.put n).length):=by
 rw[num,Leb.get_put n r h,if_pos rfl]
theorem num_ok{k:Nat}(h:num l=.ok (n,k)):n<18446744073709551616∧∃r,l=Leb.put n++r∧k=(Leb.put n).length:=by
 rw[num] at h;by_cases o:(Leb.get l).err=0
 ·rw[if_pos o] at h;simp only[Except.ok.injEq,Prod.mk.injEq] at h;obtain⟨rfl,rfl⟩:=h;obtain⟨z,y,D,_⟩:=Leb.get_ok l o;refine⟨z,l.drop (Leb.get l).k,?_,?_⟩
  ·rw[<-y,List.take_append_drop]
  ·rw[<-y,List.length_take];omega
 ·rw[if_neg o] at h;cases h
theorem bit_put(n:Nat)(r:L8)(h:n<=1):bit (UInt8.ofNat n::r)=.ok (n,1):=by
 have o:(UInt8.ofNat n).toNat=n:=by rw[UInt8.toNat_ofNat'];omega
 rw[bit,o,if_neg (by omega)]
theorem bit_ok{k:Nat}(h:bit l=.ok (n,k)):n<=1∧k=1∧∃r,l=UInt8.ofNat n::r:=by
 cases l with
 |nil=>rw[bit] at h;cases h
 |cons c r=>
  rw[bit] at h;by_cases o:1<c.toNat
  ·rw[if_pos o] at h;cases h
  ·rw[if_neg o] at h;simp only[Except.ok.injEq,Prod.mk.injEq] at h;obtain⟨rfl,rfl⟩:=h;exact⟨by omega,rfl,r,by rw[UInt8.ofNat_toNat]⟩
theorem text_put(most long:Nat)(t:ByteArray)(r:L8)(y:t.size<=most)(o:t.size<18446744073709551616):text most long (Leb.put t.size++(t.data.toList++r))=.ok (t,(Leb.put t.size).length+t.size):=by
 have z:t.data.toList.length=t.size:=by rw[Array.length_toList];rfl
 rw[text,num_put _ _ o];dsimp only;rw[if_neg (by omega),if_neg (by rw[List.length_append,List.length_append];omega),List.drop_left,List.take_append_of_le_length (by omega),List.take_of_length_le (by omega)]
theorem text_ok(h:text most long l=.ok (t,j)):t.size<=most∧t.size<18446744073709551616∧j=(Leb.put t.size).length+t.size∧∃r,l=Leb.put t.size++(t.data.toList++r):=by
 rw[text] at h;split at h
 ·cases h
 ·next n k hn=>
  obtain⟨z,r,rfl,rfl⟩:=num_ok hn;by_cases y:most<n
  ·rw[if_pos y] at h;cases h
  rw[if_neg y] at h;by_cases o:(Leb.put n++r).length-(Leb.put n).length<n
  ·rw[if_pos o] at h;cases h
  rw[if_neg o,List.drop_left] at h;simp only[Except.ok.injEq,Prod.mk.injEq] at h;obtain⟨rfl,rfl⟩:=h;have D:(r.take n).length=n:=by rw[List.length_take];rw[List.length_append] at o;omega
  have E:(⟨(r.take n).toArray⟩:ByteArray).size=n:=by show(r.take n).toArray.size=n;simpa using D
  rw[E];refine⟨by omega,z,rfl,r.drop n,?_⟩;show Leb.put n++r=Leb.put n++((r.take n).toArray.toList++r.drop n);simp
theorem float_put(b:Nat)(r:L8)(h:ay b<18446744073709551616):float (le 8 (ay b)++r)=.ok (ay b,8):=by
 have z:(le 8 (ay b)).length=8:=le_len 8 _;have o:(le 8 (ay b)++r).take 8=le 8 (ay b):=by rw[List.take_append_of_le_length (by omega),List.take_of_length_le (by omega)]
 have y:un (le 8 (ay b))=ay b:=un_le 8 _ (by simpa using h);rw[float,o,y,if_neg (by rw[List.length_append];omega),if_pos (eT b)]
theorem float_ok(h:float l=.ok (n,j)):n<18446744073709551616∧ay n=n∧j=8∧∃r,l=le 8 n++r:=by
 rw[float] at h;by_cases D:l.length<8
 ·rw[if_pos D] at h;cases h
 rw[if_neg D] at h;have E:(l.take 8).length=8:=by rw[List.length_take];omega
 by_cases o:ay (un (l.take 8))=un (l.take 8)
 ·rw[if_pos o] at h;simp only[Except.ok.injEq,Prod.mk.injEq] at h;obtain⟨rfl,rfl⟩:=h;have y:=un_lt (l.take 8);rw[E] at y;have z:=le_un (l.take 8);rw[E] at z;exact⟨by simpa using y,o,rfl,l.drop 8,by rw[z,List.take_append_drop]⟩
 ·rw[if_neg o] at h;cases h
theorem fixB_lt(h:b<18446744073709551616):ay b<18446744073709551616:=by
 unfold ay;split <;> omega
theorem empty_of(h:t.toList=[]):t=⟨#[]⟩:=by
 obtain⟨d⟩:=t;rw[ByteArray.toList_eq] at h;have:d=#[]:=by
  apply Array.toList_inj.1;simpa using h
 rw[this]
theorem empty_toList:(⟨#[]⟩:ByteArray).toList=[]:=by rw[ByteArray.toList_eq]
theorem fixB_zero:ay 0=0:=by kernel_rfl
theorem chk_open{d:Nat}{xs:List V}(h:chk d (.mk k i b t xs)=0):d<=4∧V.ownB k i b t xs.length=true∧t.size<=1024∧xs.length<=256∧(k=4->dM t=true)∧∀x∈xs,chk (d+1) x=0:=by
 rw[mM] at h;by_cases J:4<d
 ·rw[if_pos J] at h;cases h
 rw[if_neg J] at h;by_cases E:V.ownB k i b t xs.length=false
 ·rw[if_pos E] at h;cases h
 rw[if_neg E] at h;by_cases K:1024<t.size
 ·rw[if_pos K] at h;cases h
 rw[if_neg K] at h;by_cases L:256<xs.length
 ·rw[if_pos L] at h;cases h
 rw[if_neg L] at h;by_cases I:k=4∧dM t=false
 ·rw[if_pos I] at h;cases h
 rw[if_neg I] at h;refine⟨by omega,by simpa using E,by omega,by omega,fun M=>?_,?_⟩
 ·cases hu:dM t
  ·exact absurd ⟨M,hu⟩ I
  ·rfl
 ·have key:∀(ys:List V),fY (d+1) ys=0->∀x∈ys,chk (d+1) x=0:=by
   intro ys;induction ys with
   |nil=>intro _ x z;cases z
   |cons y r ih=>
    intro o x z;unfold fY at o ih;rw[V.checkL_cons] at o;by_cases D:V.check dM (d+1) y=0
    ·rw[if_pos D] at o;rcases List.mem_cons.1 z with rfl | z
     ·exact D
     ·exact ih o x z
    ·rw[if_neg D] at o;exact absurd o D
  exact key xs h
theorem chk_make{d:Nat}{xs:List V}(I:d<=4)(y:V.ownB k i b t xs.length=true)(J:t.size<=1024)(K:xs.length<=256)(z:k=4->dM t=true)(D:∀x∈xs,chk (d+1) x=0):chk d (.mk k i b t xs)=0:=by
 rw[mM,if_neg (by omega),if_neg (by rw[y];decide),if_neg (by omega),if_neg (by omega),if_neg (fun o=>by have:=z o.1;rw[o.2] at this;cases this)];exact kz (d+1) xs (fun j E=>D _ (List.getElem_mem E))
theorem own_open(h:V.ownB k i b t n=true):(1<=k∧k<=7)∧(k=1∨k=2∨i=0)∧(k=3∨ay b=0)∧(k=4∨k=5∨t=⟨#[]⟩)∧(k=6∨k=7∨n=0)∧(k=1->i=0∨i=1)∧(k=6->n<2):=by
 simp only[V.ownB,Bool.and_eq_true,Bool.or_eq_true,beq_iff_eq,decide_eq_true_eq,bne_iff_ne,ne_eq] at h;obtain⟨⟨⟨⟨⟨⟨y,D⟩,z⟩,o⟩,E⟩,I⟩,J⟩:=h;refine⟨y,by omega,z,?_,by omega,by omega,by omega⟩;rcases o with (o | o) | o
 ·exact .inl o
 ·exact .inr (.inl o)
 ·exact .inr (.inr (empty_of o))
theorem own_make(y:1<=k∧k<=7)(D:k=1∨k=2∨i=0)(z:k=3∨ay b=0)(o:k=4∨k=5∨t=⟨#[]⟩)(E:k=6∨k=7∨n=0)(I:k=1->i=0∨i=1)(J:k=6->n<2):V.ownB k i b t n=true:=by
 simp only[V.ownB,Bool.and_eq_true,Bool.or_eq_true,beq_iff_eq,decide_eq_true_eq,bne_iff_ne,ne_eq];refine⟨⟨⟨⟨⟨⟨y,by omega⟩,z⟩,?_⟩,by omega⟩,by omega⟩,by omega⟩;rcases o with o | o | o
 ·exact .inl (.inl o)
 ·exact .inl (.inr o)
 ·exact .inr (by rw[o];exact empty_toList)
theorem ty_open{d:Nat}{xs:List Ty}(h:Ty.check d (.mk k xs)=0):d<=4∧(1<=k∧k<=7)∧((¬(k=6∨k=7)∧xs=[])∨((k=6∨k=7)∧∃x,xs=[x]∧Ty.check (d+1) x=0)):=by
 rw[Ty.check_mk] at h;by_cases D:4<d
 ·rw[if_pos D] at h;cases h
 rw[if_neg D] at h;by_cases E:k<1∨7<k∨xs.length≠Ty.want k
 ·rw[if_pos E] at h;cases h
 rw[if_neg E] at h;refine⟨by omega,by omega,?_⟩;have o:xs.length=Ty.want k:=by omega
 unfold Ty.want at o;by_cases y:k=6∨k=7
 ·rw[if_pos y] at o;obtain⟨x,rfl⟩:=List.length_eq_one_iff.1 o;refine .inr ⟨y,x,rfl,?_⟩;simp only[List.map_cons,List.map_nil,V.first] at h;by_cases z:Ty.check (d+1) x=0
  ·exact z
  ·rw[if_neg z] at h;exact absurd h z
 ·rw[if_neg y] at o;exact .inl ⟨y,List.eq_nil_of_length_eq_zero o⟩
theorem ty_leaf{d:Nat}(hd:d<=4)(o:1<=k∧k<=7)(h:¬(k=6∨k=7)):Ty.check d (.mk k [])=0:=Ty.check_leaf d k (by omega) (by omega) (by unfold Ty.want;rw[if_neg h])
theorem ty_one{d:Nat}{x:Ty}(hd:d<=4)(h:k=6∨k=7)(o:Ty.check (d+1) x=0):Ty.check d (.mk k [x])=0:=by
 rw[Ty.check_one d k x (by omega) (by omega) (by unfold Ty.want;rw[if_pos h]),o]
theorem scalar_put{d:Nat}(r:L8)(U:¬(k=6∨k=7))(h:chk d (.mk k i b t [])=0)(O:V.wf (.mk k i b t [])):scalar k (vH k i b t 0++r)=.ok (.mk k i (ay b) t [],(vH k i b t 0).length):=by
 obtain⟨-,I,L,-,M,-⟩:=chk_open h;obtain⟨W,z,y,o,-,X,-⟩:=own_open I;obtain⟨-,Y,S,-,-⟩:=V.wf_mk.1 O;have J:∀a c:L8,a++c++r=a++(c++r):=fun a c=>List.append_assoc a c r;rcases(show k=1∨k=2∨k=3∨(k=4∨k=5) by omega) with rfl | rfl | rfl | hk45
 ·have e:vH 1 i b t 0=[UInt8.ofNat i.toNat]:=by rw[vH,if_pos rfl]
  have E:((i.toNat:Nat):Int)=i:=by omega
  rw[e,scalar,if_pos rfl,List.singleton_append,bit_put i.toNat r (by omega)];dsimp only;rw[E];rcases y with y | y
  ·cases y
  rcases o with o | o | o
  ·cases o
  ·cases o
  rw[y,o];rfl
 ·have e:vH 2 i b t 0=Leb.put (Leb.zig i):=by rw[vH,if_neg (by decide),if_pos rfl]
  have Q:Leb.zig i<18446744073709551616:=by unfold Leb.zig;split <;> omega
  rw[e,scalar,if_neg (by decide),if_pos rfl,num_put _ r Q];dsimp only;rw[Leb.zag_zig];rcases y with y | y
  ·cases y
  rcases o with o | o | o
  ·cases o
  ·cases o
  rw[y,o]
 ·have e:vH 3 i b t 0=le 8 (ay b):=by rw[vH,if_neg (by decide),if_neg (by decide),if_pos rfl]
  rw[e,scalar,if_neg (by decide),if_neg (by decide),if_pos rfl,float_put b r (fixB_lt S)];dsimp only;rw[le_len];rcases z with z | z | z
  ·cases z
  ·cases z
  rcases o with o | o | o
  ·cases o
  ·cases o
  rw[z,o]
 ·have e:vH k i b t 0=Leb.put t.size++t.data.toList:=by rw[vH,if_neg (by omega),if_neg (by omega),if_neg (by omega),if_pos hk45]
  have K:t.data.toList.length=t.size:=by rw[Array.length_toList];rfl
  rw[e,scalar,if_neg (by omega),if_neg (by omega),if_neg (by omega),J,text_put 1024 2 t r L (by omega)];dsimp only;rw[if_neg (fun D=>by have:=M D.1;rw[D.2] at this;cases this),List.length_append,K];rcases y with y | y
  ·omega
  rcases z with z | z | z
  ·omega
  ·omega
  rw[z,y]
theorem scalar_ok{v:V}(K:1<=k∧k<=5)(h:scalar k l=.ok (v,j)):∃i b t,v=.mk k i b t []∧j=(vH k i b t 0).length∧(∃r,l=vH k i b t 0++r)∧ay b=b∧V.wf v∧∀d,d<=4->chk d v=0:=by
 rcases(show k=1∨k=2∨k=3∨(k=4∨k=5) by omega) with rfl | rfl | rfl | hk45
 ·rw[scalar,if_pos rfl] at h;split at h
  ·cases h
  ·next n m hn=>
   simp only[Except.ok.injEq,Prod.mk.injEq] at h;obtain⟨rfl,rfl⟩:=h;obtain⟨z,rfl,r,rfl⟩:=bit_ok hn;have e:vH 1 n 0 ⟨#[]⟩ 0=[UInt8.ofNat n]:=by rw[vH,if_pos rfl];rfl
   exact⟨n,0,⟨#[]⟩,rfl,by rw[e];rfl,⟨r,by rw[e];rfl⟩,fixB_zero,V.wf_mk.2 ⟨by omega,by omega,by omega,Nat.zero_le _,fun x y=>by cases y⟩,
    fun d hd=>chk_make hd (own_make (by omega) (by omega) (.inr fixB_zero) (.inr (.inr rfl)) (.inr (.inr rfl)) (fun _=>by omega) (fun o=>by cases o)) (Nat.zero_le _) (by simp) (fun o=>by cases o) (fun x y=>by cases y)⟩
 ·rw[scalar,if_neg (by decide),if_pos rfl] at h;split at h
  ·cases h
  ·next n m hn=>
   simp only[Except.ok.injEq,Prod.mk.injEq] at h;obtain⟨rfl,rfl⟩:=h;obtain⟨z,r,rfl,rfl⟩:=num_ok hn;have e:vH 2 (Leb.zag n) 0 ⟨#[]⟩ 0=Leb.put n:=(by rw[vH,if_neg (by decide),if_pos rfl,Leb.zig_zag]);have J:-9223372036854775808<=Leb.zag n∧Leb.zag n<=9223372036854775807:=by unfold Leb.zag;split <;> omega
   exact⟨Leb.zag n,0,⟨#[]⟩,rfl,by rw[e],⟨r,by rw[e]⟩,fixB_zero,V.wf_mk.2 ⟨by omega,J,by omega,Nat.zero_le _,fun x y=>by cases y⟩,
    fun d hd=>chk_make hd (own_make (by omega) (by omega) (.inr fixB_zero) (.inr (.inr rfl)) (.inr (.inr rfl)) (fun o=>by cases o) (fun o=>by cases o)) (Nat.zero_le _) (by simp) (fun o=>by cases o) (fun x y=>by cases y)⟩
 ·rw[scalar,if_neg (by decide),if_neg (by decide),if_pos rfl] at h;split at h
  ·cases h
  ·next n m hn=>
   simp only[Except.ok.injEq,Prod.mk.injEq] at h;obtain⟨rfl,rfl⟩:=h;obtain⟨z,D,rfl,r,rfl⟩:=float_ok hn;have e:vH 3 0 n ⟨#[]⟩ 0=le 8 n:=by rw[vH,if_neg (by decide),if_neg (by decide),if_pos rfl,D]
   exact⟨0,n,⟨#[]⟩,rfl,by rw[e,le_len],⟨r,by rw[e]⟩,D,V.wf_mk.2 ⟨by omega,by omega,z,Nat.zero_le _,fun x y=>by cases y⟩,
    fun d hd=>chk_make hd (own_make (by omega) (by omega) (.inl rfl) (.inr (.inr rfl)) (.inr (.inr rfl)) (fun o=>by cases o) (fun o=>by cases o)) (Nat.zero_le _) (by simp) (fun o=>by cases o) (fun x y=>by cases y)⟩
 ·rw[scalar,if_neg (by omega),if_neg (by omega),if_neg (by omega)] at h;split at h
  ·cases h
  ·next t m hn=>
   obtain⟨z,D,rfl,r,rfl⟩:=text_ok hn;by_cases E:k=4∧dM t=false
   ·rw[if_pos E] at h;cases h
   rw[if_neg E] at h;simp only[Except.ok.injEq,Prod.mk.injEq] at h;obtain⟨rfl,rfl⟩:=h;have I:t.data.toList.length=t.size:=(by rw[Array.length_toList];rfl);have e:vH k 0 0 t 0=Leb.put t.size++t.data.toList:=by rw[vH,if_neg (by omega),if_neg (by omega),if_neg (by omega),if_pos hk45]
   exact⟨0,0,t,rfl,by rw[e,List.length_append,I],⟨r,by rw[e,List.append_assoc]⟩,fixB_zero,V.wf_mk.2 ⟨by omega,by omega,by omega,by omega,fun x y=>by cases y⟩,
    fun d hd=>chk_make hd (own_make (by omega) (.inr (.inr rfl)) (.inr fixB_zero) (by omega) (.inr (.inr rfl)) (fun o=>by omega) (fun o=>by omega)) z (by simp) (fun o=>by
     cases hq:dM t
     ·exact absurd ⟨o,hq⟩ E
     ·rfl) (fun x y=>by cases y)⟩
end Sch
end
section
namespace Sch
theorem rdN_put(f:L8->Except Nat (V×Nat))(r:L8):∀xs:List V,(∀x∈xs,∀r,f (vB x++r)=.ok (V.fix x,(vB x).length))->rdN f xs.length ((xs.map vB).flatten++r)=.ok (xs.map V.fix,(xs.map vB).flatten.length)
 | [],_=>rfl
 |x::xs,h=>by
  have y:=rdN_put f r xs (fun z o=>h z (List.mem_cons_of_mem _ o));rw[List.length_cons,rdN,List.map_cons,List.flatten_cons,List.append_assoc,h x (by simp)];dsimp only;rw[List.drop_left,y];dsimp only;rw[List.map_cons,List.length_append]
theorem rdN_ok(f:L8->Except Nat (V×Nat))(y:V->Prop)(E:∀l v j,f l=.ok (v,j)->j=(vB v).length∧(∃r,l=vB v++r)∧y v):∀(m:Nat) (l:L8) (o:List V) (j:Nat),rdN f m l=.ok (o,j)->o.length=m∧j=(o.map vB).flatten.length∧(∃r,l=(o.map vB).flatten++r)∧∀v∈o,y v
 |0,l,o,j,h=>by
  rw[rdN] at h;simp only[Except.ok.injEq,Prod.mk.injEq] at h;obtain⟨rfl,rfl⟩:=h;exact⟨rfl,rfl,⟨l,rfl⟩,fun v z=>by cases z⟩
 |m+1,l,o,j,h=>by
  rw[rdN] at h;split at h
  ·cases h
  ·next v j1 z=>
   obtain⟨rfl,⟨r,rfl⟩,K⟩:=E _ _ _ z;rw[List.drop_left] at h;split at h
   ·cases h
   ·next ws j2 hw=>
    simp only[Except.ok.injEq,Prod.mk.injEq] at h;obtain⟨rfl,rfl⟩:=h;obtain⟨I,rfl,⟨L,rfl⟩,J⟩:=rdN_ok f y E m r ws j2 hw;refine⟨by rw[List.length_cons,I],by rw[List.map_cons,List.flatten_cons,List.length_append],⟨L,by rw[List.map_cons,List.flatten_cons,List.append_assoc]⟩,fun x D=>?_⟩;rcases List.mem_cons.1 D with rfl | D
    ·exact K
    ·exact J x D
theorem many_put(y:k=6∨k=7)(n:Nat)(i:Int)(b:Nat)(t:ByteArray)(r:L8)(o:k=6->n<2)(z:n<=256):many k (vH k i b t n++r)=.ok (n,(vH k i b t n).length):=by
 rcases y with rfl | rfl
 ·have e:vH 6 i b t n=[UInt8.ofNat n]:=by
   rw[vH,if_neg (by decide),if_neg (by decide),if_neg (by decide),if_neg (by decide),if_pos rfl];rcases(show n=0∨n=1 by have:=o rfl;omega) with rfl | rfl <;> rfl
  rw[e,many,if_pos rfl,List.singleton_append,bit_put n r (by have:=o rfl;omega)];rfl
 ·have e:vH 7 i b t n=Leb.put n:=by rw[vH,if_neg (by decide),if_neg (by decide),if_neg (by decide),if_neg (by decide),if_neg (by decide),if_pos rfl]
  rw[e,many,if_neg (by decide),num_put n r (by omega)];dsimp only;rw[if_neg (by omega)]
theorem many_ok(D:k=6∨k=7){l:L8}{n j:Nat}(h:many k l=.ok (n,j)):(k=6->n<2)∧n<=256∧∀i b t,j=(vH k i b t n).length∧∃r,l=vH k i b t n++r:=by
 rcases D with rfl | rfl
 ·rw[many,if_pos rfl] at h;obtain⟨y,rfl,r,rfl⟩:=bit_ok h;have e:∀i b t,vH 6 i b t n=[UInt8.ofNat n]:=fun i b t=>by
   rw[vH,if_neg (by decide),if_neg (by decide),if_neg (by decide),if_neg (by decide),if_pos rfl];rcases(show n=0∨n=1 by omega) with rfl | rfl <;> rfl
  exact⟨fun _=>by omega,by omega,fun i b t=>⟨by rw[e];rfl,r,by rw[e];rfl⟩⟩
 ·rw[many,if_neg (by decide)] at h;split at h
  ·cases h
  ·next m j1 hm=>
   by_cases o:256<m
   ·rw[if_pos o] at h;cases h
   rw[if_neg o] at h;simp only[Except.ok.injEq,Prod.mk.injEq] at h;obtain⟨rfl,rfl⟩:=h;obtain⟨y,r,rfl,rfl⟩:=num_ok hm;have e:∀i b t,vH 7 i b t m=Leb.put m:=fun i b t=>by rw[vH,if_neg (by decide),if_neg (by decide),if_neg (by decide),if_neg (by decide),if_neg (by decide),if_pos rfl]
   exact⟨fun z=>(by cases z),by omega,fun i b t=>⟨by rw[e],r,by rw[e]⟩⟩
theorem vB_leaf(xs:List V)(o:1<=k∧k<=5):vB (.mk k i b t xs)=vH k i b t xs.length:=by
 rw[vB_mk,if_pos (by omega),List.append_nil]
theorem vB_items(xs:List V)(o:k=6∨k=7):vB (.mk k i b t xs)=vH k i b t xs.length++(xs.map vB).flatten:=by
 rw[vB_mk,if_neg (by omega)]
theorem rdV_put:∀(t:Ty) (d:Nat) (v:V) (r:L8),Ty.check d t=0->chk d v=0->of v t=true->v.wf->rdV t (vB v++r)=.ok (V.fix v,(vB v).length):=by
 intro t;refine Ty.ind (P:=fun t=>∀(d:Nat) (v:V) (r:L8),Ty.check d t=0->chk d v=0->of v t=true->v.wf->rdV t (vB v++r)=.ok (V.fix v,(vB v).length)) ?_ t;rintro k xs aj d ⟨k',i,b,s,ys⟩ r U L o M;rw[of_mk,Bool.and_eq_true,beq_iff_eq] at o;obtain⟨K,o⟩:=o;simp only at K;subst K;obtain⟨hd,a0,W⟩:=ty_open U;obtain⟨-,S,a1,ah,a2,ab⟩:=chk_open L;obtain⟨a3,y,E,z,a4,a5,ak⟩:=own_open S;rw[V.fix_mk,V.fixL_eq,rdV_mk];rcases W with ⟨D,rfl⟩ | ⟨D,x,rfl,Y⟩
 ·have Z:ys=[]:=List.eq_nil_of_length_eq_zero (by omega);subst Z;rw[if_pos (by omega),vB_leaf _ (by omega)];exact scalar_put r D L M
 ·rw[if_neg (by omega),vB_items _ D,List.append_assoc,many_put D ys.length i b s _ ak ah];dsimp only;rw[List.drop_left];have Q:inner (.mk k' [x])=x:=rfl;rw[Q,List.all_eq_true] at o;have X:=(V.wf_mk.1 M).2.2.2.2;have e:=rdN_put (rdV x) r ys (fun I J r=>aj x (by simp) (d+1) I r Y (ab I J) (o I J) (X I J));have O:([x].map rdV).headD (fun _=>.error 0)=rdV x:=rfl;rw[O,e];dsimp only;rw[List.length_append];rcases E with E | E
  ·omega
  rcases y with y | y | y
  ·omega
  ·omega
  rcases z with z | z | z
  ·omega
  ·omega
  rw[y,E,z]
theorem rdV_ok:∀(t:Ty) (d:Nat) (l:L8) (v:V) (j:Nat),Ty.check d t=0->rdV t l=.ok (v,j)->j=(vB v).length∧(∃r,l=vB v++r)∧chk d v=0∧of v t=true∧V.fix v=v∧v.wf:=by
 intro t;refine Ty.ind (P:=fun t=>∀(d:Nat) (l:L8) (v:V) (j:Nat),Ty.check d t=0->rdV t l=.ok (v,j)->j=(vB v).length∧(∃r,l=vB v++r)∧chk d v=0∧of v t=true∧V.fix v=v∧v.wf) ?_ t;intro k xs ah d l v j W h;obtain⟨hd,ak,X⟩:=ty_open W;rw[rdV_mk] at h;rcases X with ⟨D,rfl⟩ | ⟨D,x,rfl,ab⟩
 ·rw[if_pos (by omega)] at h;obtain⟨i,b,s,rfl,rfl,⟨r,rfl⟩,hb,Z,E⟩:=scalar_ok (by omega) h;rw[vB_leaf [] (by omega)];refine⟨rfl,⟨r,rfl⟩,E d hd,?_,?_,Z⟩
  ·rw[of_mk];simp
  ·rw[V.fix_mk,hb];rfl
 ·rw[if_neg (by omega)] at h;split at h
  ·cases h
  ·next m j1 hm=>
   obtain⟨M,O,Q⟩:=many_ok D hm;obtain⟨S,r,U⟩:=Q 0 0 ⟨#[]⟩;have L:([x].map rdV).headD (fun _=>.error 0)=rdV x:=rfl;rw[L] at h;subst S U;rw[List.drop_left] at h;split at h
   ·cases h
   ·next vs j2 hv=>
    simp only[Except.ok.injEq,Prod.mk.injEq] at h;obtain⟨rfl,rfl⟩:=h;obtain⟨rfl,rfl,⟨aj,rfl⟩,z⟩:=rdN_ok (rdV x) (fun v=>chk (d+1) v=0∧of v x=true∧V.fix v=v∧v.wf) (fun l v j Y=>by
     obtain⟨I,J,K⟩:=ah x (by simp) (d+1) l v j ab Y
     exact⟨I,J,K⟩) _ _ _ _ hv
    rw[vB_items vs D];refine⟨by rw[List.length_append],⟨aj,by rw[List.append_assoc]⟩,?_,?_,?_,?_⟩
    ·exact chk_make hd (own_make (by omega) (.inr (.inr rfl)) (.inr fixB_zero) (.inr (.inr rfl)) (by omega) (fun E=>by omega) M) (Nat.zero_le _) O (fun E=>by omega) (fun y o=>(z y o).1)
    ·rw[of_mk];simp only[beq_self_eq_true,Bool.true_and,List.all_eq_true];exact fun y o=>(z y o).2.1
    ·rw[V.fix_mk,V.fixL_eq,fixB_zero];congr 1;have:vs.map V.fix=vs.map id:=List.map_congr_left (fun y o=>(z y o).2.2.1);rw[this,List.map_id]
    ·exact V.wf_mk.2 ⟨by omega,by omega,by omega,Nat.zero_le _,fun y o=>(z y o).2.2.2⟩
theorem kind_byte(o:1<=k∧k<=7):(UInt8.ofNat k.toNat).toNat=k.toNat:=by rw[UInt8.toNat_ofNat'];omega
theorem rdT_put:∀(f:Nat) (t:Ty) (r:L8),f<=4->Ty.check (5-f) t=0->rdT f (tyB t++r)=.ok (t,(tyB t).length)
 |0,⟨k,xs⟩,r,_,h=>by
  have:=(ty_open h).1;omega
 |f+1,⟨k,xs⟩,r,hf,h=>by
  obtain⟨hd,D,E⟩:=ty_open h;have hb:=kind_byte D;have y:((k.toNat:Nat):Int)=k:=by omega
  rcases E with ⟨o,rfl⟩ | ⟨o,x,rfl,I⟩
  ·rw[tyB_mk,if_neg o,List.cons_append,rdT,hb,if_neg (by omega),if_pos (by omega),y];rfl
  ·have J:=rdT_put f x r (by omega) (by rw[show 5-f=5-(f+1)+1 by omega];exact I);rw[tyB_mk,if_pos o,List.cons_append,rdT,hb,if_neg (by omega),if_neg (by omega)];have z:([x].map tyB).headD []=tyB x:=rfl;rw[z,J,y];rfl
theorem rdT_ok:∀(f:Nat) (l:L8) (t:Ty) (j:Nat),f<=4->rdT f l=.ok (t,j)->j=(tyB t).length∧(∃r,l=tyB t++r)∧Ty.check (5-f) t=0∧t.wf
 |0,l,t,j,_,h=>by rw[rdT] at h;cases h
 |f+1,[],t,j,_,h=>by rw[rdT] at h;cases h
 |f+1,c::r,t,j,hf,h=>by
  rw[rdT] at h;by_cases y:c.toNat<1∨7<c.toNat
  ·rw[if_pos y] at h;cases h
  rw[if_neg y] at h;have D:UInt8.ofNat ((c.toNat:Int)).toNat=c:=by
   rw[Int.toNat_natCast,UInt8.ofNat_toNat]
  by_cases z:c.toNat≠6∧c.toNat≠7
  ·rw[if_pos z] at h;simp only[Except.ok.injEq,Prod.mk.injEq] at h;obtain⟨rfl,rfl⟩:=h;rw[tyB_mk,if_neg (by omega),D];exact⟨rfl,⟨r,rfl⟩,ty_leaf (by omega) (by omega) (by omega),Ty.wf_mk.2 ⟨by omega,fun x o=>by cases o⟩⟩
  ·rw[if_neg z] at h;split at h
   ·cases h
   ·next x j1 o=>
    simp only[Except.ok.injEq,Prod.mk.injEq] at h;obtain⟨rfl,rfl⟩:=h;obtain⟨rfl,⟨L,rfl⟩,J,K⟩:=rdT_ok f r x j1 (by omega) o;rw[tyB_mk,if_pos (by omega),D];have I:([x].map tyB).headD []=tyB x:=rfl;rw[I];exact⟨rfl,⟨L,rfl⟩,ty_one (by omega) (by omega) (by rw[show 5-(f+1)+1=5-f by omega];exact J),Ty.wf_mk.2 ⟨by omega,fun M E=>by simp at E;subst E;exact K⟩⟩
end Sch
end
section
namespace Sch
theorem v0_fix:V.fix V0=V0:=by unfold V0;rw[V.fix_mk,fixB_zero];rfl
theorem v0_wf:V0.wf:=V.wf_mk.2 ⟨by omega,by omega,by omega,Nat.zero_le _,fun x o=>by cases o⟩
theorem col_open{l:List Col}{c:Col}(h:colErr l c=0):name c.name=true∧l.any (fun x=>decide (x.name=c.name))=false∧Ty.check 1 c.ty=0∧(c.has=false->V.fix c.dflt=V0)∧(c.has=true->chk 1 c.dflt=0∧of c.dflt c.ty=true):=by
 unfold colErr at h;by_cases D:name c.name=false
 ·rw[if_pos D] at h;cases h
 rw[if_neg D] at h;by_cases E:l.any (fun x=>decide (x.name=c.name))=true
 ·rw[if_pos E] at h;cases h
 rw[if_neg E] at h;by_cases y:Ty.check 1 c.ty≠0
 ·rw[if_pos y] at h;exact absurd h y
 rw[if_neg y] at h;refine⟨by simpa using D,by simpa using E,by simpa using y,fun I=>?_,fun I=>?_⟩
 ·rw[if_pos I] at h;by_cases o:V.same c.dflt V0=true
  ·rw[(same_iff _ _).1 o,v0_fix]
  ·rw[if_neg o] at h;cases h
 ·rw[if_neg (by rw[I];decide)] at h;by_cases o:chk 1 c.dflt≠0
  ·rw[if_pos o] at h;exact absurd h o
  rw[if_neg o] at h;refine⟨by simpa using o,?_⟩;by_cases z:is c.dflt c.ty=true
  ·unfold is at z;simp only[Bool.and_eq_true] at z;exact z.2
  ·rw[if_neg z] at h;cases h
theorem col_make{l:List Col}{c:Col}(z:name c.name=true)(D:l.any (fun x=>decide (x.name=c.name))=false)(o:Ty.check 1 c.ty=0)(E:c.has=false->V.fix c.dflt=V0)(I:c.has=true->chk 1 c.dflt=0∧of c.dflt c.ty=true):colErr l c=0:=by
 unfold colErr;rw[if_neg (by rw[z];decide),if_neg (by rw[D];decide),if_neg (by simp[o])];cases hh:c.has
 ·rw[if_pos rfl,if_pos ((same_iff _ _).2 (by rw[E hh,v0_fix]))]
 ·obtain⟨y,J⟩:=I hh;rw[if_neg (by decide),if_neg (by simp[y]),if_pos (by unfold is;simp[o,y,J])]
theorem colErr_names{l l':List Col}(h:l.map Col.name=l'.map Col.name)(c:Col):colErr l c=colErr l' c:=by
 have key:∀(l l':List Col),l.map Col.name=l'.map Col.name->l.any (fun x=>decide (x.name=c.name))=l'.any (fun x=>decide (x.name=c.name)):=by
  intro l;induction l with
  |nil=>intro l' h;cases l' with
   |nil=>rfl
   |cons y s=>simp at h
  |cons x r ih=>intro l' h;cases l' with
   |nil=>simp at h
   |cons y s=>
    simp only[List.map_cons,List.cons.injEq] at h;rw[List.any_cons,List.any_cons,h.1,ih s h.2]
 unfold colErr;rw[key l l' h]
theorem name_size(h:name t=true):1<=t.size∧t.size<=16:=by
 unfold name nameL at h;simp only[Bool.and_eq_true,decide_eq_true_eq] at h;have o:t.data.toList.length=t.size:=by rw[Array.length_toList];rfl
 omega
theorem rdC_put{l:List Col}{c:Col}(r:L8)(h:colErr l c=0)(U:c.wf):rdC l (cB c++r)=.ok (c.fix,(cB c).length):=by
 obtain⟨y,D,z,E,I⟩:=col_open h;obtain⟨n,t,has,v⟩:=c;obtain⟨-,W,J⟩:=U;simp only at y D z E I J;obtain⟨V,S⟩:=name_size y;have o:n.data.toList.length=n.size:=by rw[Array.length_toList];rfl
 unfold cB Col.fix;simp only;rw[List.append_assoc,List.append_assoc,List.append_assoc,rdC,num_put _ _ (by omega)];dsimp only;rw[if_neg (by omega),text_put 16 70 n _ S (by omega)];dsimp only;rw[if_neg (by rw[y];decide),if_neg (by rw[D];decide)];have K:∀q:L8,(Leb.put n.size++(n.data.toList++q)).drop ((Leb.put n.size).length+n.size)=q:=fun q=>by
  rw[<-List.append_assoc];exact List.drop_left' (by rw[List.length_append,o])
 rw[K,rdT_put 4 t _ (by omega) z];dsimp only;have L:∀q:L8,(Leb.put n.size++(n.data.toList++(tyB t++q))).drop ((Leb.put n.size).length+n.size+(tyB t).length)=q:=fun q=>by
  rw[<-List.append_assoc,<-List.append_assoc];exact List.drop_left' (by rw[List.length_append,List.length_append,o])
 rw[L];cases has
 ·simp only[Bool.false_eq_true,if_false,List.cons_append,List.nil_append];rw[show(0:UInt8)=UInt8.ofNat 0 from rfl,bit_put 0 _ (by omega)];dsimp only;rw[if_pos rfl,E rfl];simp only[List.length_append,List.length_cons,List.length_nil,o];congr 2;omega
 ·simp only[if_true,List.cons_append];obtain⟨O,Q⟩:=I rfl;rw[show(1:UInt8)=UInt8.ofNat 1 from rfl,bit_put 1 _ (by omega)];dsimp only;rw[if_neg (by decide)];have M:∀q:L8,(Leb.put n.size++(n.data.toList++(tyB t++UInt8.ofNat 1::q))).drop ((Leb.put n.size).length+n.size+(tyB t).length+1)=q:=fun q=>by
   rw[show UInt8.ofNat 1::q=[UInt8.ofNat 1]++q from rfl,<-List.append_assoc,<-List.append_assoc,<-List.append_assoc];exact List.drop_left' (by rw[List.length_append,List.length_append,List.length_append,o];rfl)
  rw[M,rdV_put t 1 v r z O Q J];dsimp only;simp only[List.length_append,List.length_cons,o];congr 2;omega
theorem rdC_ok{l:List Col}{b:L8}{c:Col}(h:rdC l b=.ok (c,j)):j=(cB c).length∧(∃r,b=cB c++r)∧colErr l c=0∧c.fix=c∧c.wf:=by
 rw[rdC] at h;split at h
 ·cases h
 ·next n k hn=>
  by_cases J:n=0
  ·rw[if_pos J] at h;cases h
  rw[if_neg J] at h;split at h
  ·cases h
  ·next s j1 hs=>
   obtain⟨ab,ah,rfl,r,rfl⟩:=text_ok hs;have o:s.data.toList.length=s.size:=(by rw[Array.length_toList];rfl);by_cases y:name s=false
   ·rw[if_pos y] at h;cases h
   rw[if_neg y] at h;by_cases z:l.any (fun x=>decide (x.name=s))=true
   ·rw[if_pos z] at h;cases h
   rw[if_neg z] at h;have L:∀q:L8,(Leb.put s.size++(s.data.toList++q)).drop ((Leb.put s.size).length+s.size)=q:=fun q=>by
    rw[<-List.append_assoc];exact List.drop_left' (by rw[List.length_append,o])
   rw[L] at h;split at h
   ·cases h
   ·next t j2 ht=>
    obtain⟨rfl,⟨Z,rfl⟩,I,K⟩:=rdT_ok 4 _ _ _ (by omega) ht;have M:∀q:L8,(Leb.put s.size++(s.data.toList++(tyB t++q))).drop ((Leb.put s.size).length+s.size+(tyB t).length)=q:=fun q=>by
     rw[<-List.append_assoc,<-List.append_assoc];exact List.drop_left' (by rw[List.length_append,List.length_append,o])
    rw[M] at h;split at h
    ·cases h
    ·next f j3 hf=>
     obtain⟨f1,rfl,S,rfl⟩:=bit_ok hf;by_cases E:f=0
     ·rw[if_pos E] at h;simp only[Except.ok.injEq,Prod.mk.injEq] at h;obtain⟨rfl,rfl⟩:=h;subst E;unfold cB Col.fix Col.wf;simp only[Bool.false_eq_true,if_false];refine⟨?_,⟨S,?_⟩,?_,?_,⟨by omega,K,v0_wf⟩⟩
      ·simp only[List.length_append,List.length_cons,List.length_nil,o];omega
      ·simp only[List.append_assoc,List.cons_append,List.nil_append];rfl
      ·exact col_make (by simpa using y) (by simpa using z) I (fun _=>v0_fix) (fun D=>by cases D)
      ·rw[v0_fix]
     ·rw[if_neg E] at h;have Q:f=1:=(by omega);subst Q;have O:∀q:L8,(Leb.put s.size++(s.data.toList++(tyB t++UInt8.ofNat 1::q))).drop ((Leb.put s.size).length+s.size+(tyB t).length+1)=q:=fun q=>by
       rw[show UInt8.ofNat 1::q=[UInt8.ofNat 1]++q from rfl,<-List.append_assoc,<-List.append_assoc,<-List.append_assoc];exact List.drop_left' (by rw[List.length_append,List.length_append,List.length_append,o];rfl)
      rw[O] at h;split at h
      ·cases h
      ·next v j4 hv=>
       simp only[Except.ok.injEq,Prod.mk.injEq] at h;obtain⟨rfl,rfl⟩:=h;obtain⟨rfl,⟨U,rfl⟩,V,W,X,Y⟩:=rdV_ok t 1 _ _ _ I hv;unfold cB Col.fix Col.wf;simp only[if_true];refine⟨?_,⟨U,?_⟩,?_,?_,⟨by omega,K,Y⟩⟩
       ·simp only[List.length_append,List.length_cons,o];omega
       ·simp only[List.append_assoc,List.cons_append];rfl
       ·exact col_make (by simpa using y) (by simpa using z) I (fun D=>by cases D) (fun _=>⟨V,W⟩)
       ·rw[X]
theorem rdCs_put(r:L8):∀(s l:List Col),colsErr l s=0->(∀c∈s,c.wf)->rdCs s.length (l.map Col.fix) ((s.map cB).flatten++r)=.ok ((l++s).map Col.fix,(s.map cB).flatten.length)
 | [],l,_,_=>by
  rw[List.append_nil];rfl
 |c::s,l,h,hw=>by
  rw[colsErr] at h;by_cases o:colErr l c=0
  ·rw[if_pos o] at h;have z:colErr (l.map Col.fix) c=0:=by
    rw[colErr_names (l':=l) ?_ c,o];rw[List.map_map];rfl
   have y:=rdCs_put r s (l++[c]) h (fun x D=>hw x (List.mem_cons_of_mem _ D));rw[List.length_cons,rdCs,List.map_cons,List.flatten_cons,List.append_assoc,rdC_put _ z (hw c (by simp))];dsimp only;rw[List.drop_left];rw[List.map_append,List.map_cons,List.map_nil] at y;rw[y];dsimp only;rw[List.append_assoc,List.singleton_append,List.length_append]
  ·rw[if_neg o] at h;exact absurd h o
theorem rdCs_ok:∀(m:Nat) (l:List Col) (b:L8) (o:List Col) (j:Nat),rdCs m l b=.ok (o,j)->∃s,o=l++s∧s.length=m∧j=(s.map cB).flatten.length∧(∃r,b=(s.map cB).flatten++r)∧colsErr l s=0∧∀c∈s,c.fix=c∧c.wf
 |0,l,b,o,j,h=>by
  rw[rdCs] at h;simp only[Except.ok.injEq,Prod.mk.injEq] at h;obtain⟨rfl,rfl⟩:=h;exact⟨[],by simp,rfl,rfl,⟨b,rfl⟩,rfl,fun c y=>by cases y⟩
 |m+1,l,b,o,j,h=>by
  rw[rdCs] at h;split at h
  ·cases h
  ·next c j1 y=>
   obtain⟨rfl,⟨r,rfl⟩,c1,c2,c3⟩:=rdC_ok y;rw[List.drop_left] at h;split at h
   ·cases h
   ·next l3 j2 hl=>
    simp only[Except.ok.injEq,Prod.mk.injEq] at h;obtain⟨rfl,rfl⟩:=h;obtain⟨s,rfl,rfl,rfl,⟨D,rfl⟩,E,I⟩:=rdCs_ok m (l++[c]) r l3 j2 hl;refine⟨c::s,by simp,rfl,by rw[List.map_cons,List.flatten_cons,List.length_append],⟨D,by rw[List.map_cons,List.flatten_cons,List.append_assoc]⟩,?_,fun x z=>?_⟩
    ·rw[colsErr,if_pos c1,E]
    ·rcases List.mem_cons.1 z with rfl | z
     ·exact⟨c2,c3⟩
     ·exact I x z
theorem err_open{s:List Col}(h:err s=0):1<=s.length∧s.length<=16∧colsErr [] s=0∧(bytes s).length<=1024:=by
 unfold err at h;by_cases y:s.length=0
 ·rw[if_pos y] at h;cases h
 rw[if_neg y] at h;by_cases z:16<s.length
 ·rw[if_pos z] at h;cases h
 rw[if_neg z] at h;by_cases o:colsErr [] s≠0
 ·rw[if_pos o] at h;exact absurd h o
 rw[if_neg o] at h;by_cases D:1024<(bytes s).length
 ·rw[if_pos D] at h;cases h
 exact⟨by omega,by omega,by simpa using o,by omega⟩
theorem err_make{s:List Col}(y:1<=s.length)(z:s.length<=16)(o:colsErr [] s=0)(D:(bytes s).length<=1024):err s=0:=by
 unfold err;rw[if_neg (by omega),if_neg (by omega),if_neg (by simp[o]),if_neg (by omega)]
theorem read_put{s:List Col}(h:err s=0)(z:∀c∈s,c.wf):read (bytes s)=.ok (s.map Col.fix):=by
 obtain⟨D,E,y,I⟩:=err_open h;have e:=rdCs_put [] s [] y z;rw[List.append_nil,List.nil_append,List.map_nil] at e;have o:bytes s=Leb.put s.length++(s.map cB).flatten:=rfl;rw[read,if_neg (by omega),o,num_put _ _ (by omega)];dsimp only;rw[if_neg (by omega),if_neg (by omega),List.drop_left,e];dsimp only;rw[if_pos (by rw[List.length_append])]
theorem read_ok{b:L8}{s:List Col}(h:read b=.ok s):err s=0∧bytes s=b∧∀c∈s,c.fix=c∧c.wf:=by
 rw[read] at h;by_cases o:1024<b.length
 ·rw[if_pos o] at h;cases h
 rw[if_neg o] at h;split at h
 ·cases h
 ·next n k hn=>
  obtain⟨M,r,rfl,rfl⟩:=num_ok hn;by_cases z:n=0
  ·rw[if_pos z] at h;cases h
  rw[if_neg z] at h;by_cases D:16<n
  ·rw[if_pos D] at h;cases h
  rw[if_neg D,List.drop_left] at h;split at h
  ·cases h
  ·next l j hl=>
   by_cases y:(Leb.put n).length+j=(Leb.put n++r).length
   ·rw[if_pos y] at h;simp only[Except.ok.injEq] at h;subst h;obtain⟨s,E,rfl,rfl,⟨J,rfl⟩,K,L⟩:=rdCs_ok _ _ _ _ _ hl;rw[List.nil_append] at E;subst E;have I:J=[]:=by
     rw[List.length_append,List.length_append] at y;exact List.eq_nil_of_length_eq_zero (by omega)
    subst I;rw[List.append_nil] at o ⊢;have hb:bytes l=Leb.put l.length++(l.map cB).flatten:=rfl;exact⟨err_make (by omega) (by omega) K (by rw[hb];omega),hb,L⟩
   ·rw[if_neg y] at h;cases h
theorem colSame_iff(c d:Col):colSame c d=true↔c.fix=d.fix:=by
 obtain⟨n,t,a,v⟩:=c;obtain⟨n',I,E,v'⟩:=d;unfold colSame Col.fix;simp only[Bool.and_eq_true,decide_eq_true_eq,beq_iff_eq,Ty.same_iff,same_iff,Col.mk.injEq];constructor
 ·rintro⟨⟨⟨o,y⟩,z⟩,D⟩;exact⟨o,z,y,D⟩
 ·rintro⟨o,z,y,D⟩;exact⟨⟨⟨o,y⟩,z⟩,D⟩
theorem same_fix:∀(s t:List Col),same s t=true↔s.map Col.fix=t.map Col.fix
 | [],[]=>by simp[same]
 | [],d::t=>by simp[same]
 |c::s,[]=>by simp[same]
 |c::s,d::t=>by
  rw[same,Bool.and_eq_true,List.map_cons,List.map_cons,List.cons.injEq,colSame_iff,same_fix s t]
theorem vH_fix(k i:Int)(b:Nat)(t:ByteArray)(n:Nat):vH k i (ay b) t n=vH k i b t n:=by unfold vH;rw[eT]
theorem vB_fix:∀v:V,vB (V.fix v)=vB v:=by
 refine V.ind ?_;intro k i b t xs y;rw[V.fix_mk,V.fixL_eq,vB_mk,vB_mk,vH_fix,List.length_map,List.map_map];congr 2;exact congrArg List.flatten (List.map_congr_left (fun x o=>y x o))
theorem cB_fix(c:Col):cB c.fix=cB c:=by
 unfold cB Col.fix;simp only[vB_fix]
theorem bytes_fix(s:List Col):bytes (s.map Col.fix)=bytes s:=by
 unfold bytes;rw[List.length_map,List.map_map];congr 2;exact List.map_congr_left (fun c _=>cB_fix c)
theorem unlike{s t:List Col}(y:err s=0)(z:err t=0)(D:∀c∈s,c.wf)(E:∀c∈t,c.wf):bytes s=bytes t↔same s t=true:=by
 rw[same_fix];constructor
 ·intro h;have o:=read_put y D;rw[h,read_put z E] at o;simp only[Except.ok.injEq] at o;exact o.symm
 ·intro h;rw[<-bytes_fix s,h,bytes_fix]
end Sch
end
section
namespace Sch
theorem flatten_le{o:Type}(f:o->L8)(B:Nat):∀xs:List o,(∀x∈xs,(f x).length<=B)->(xs.map f).flatten.length<=xs.length*B
 | [],_=>by simp
 |x::xs,h=>by
  have D:=h x (by simp);have E:=flatten_le f B xs (fun z y=>h z (List.mem_cons_of_mem _ y));rw[List.map_cons,List.flatten_cons,List.length_append,List.length_cons,Nat.add_mul];omega
theorem vH_len(z:t.size<=1024):(vH k i b t n).length<=1034:=by
 have y:t.data.toList.length=t.size:=by rw[Array.length_toList];rfl
 have o:=Leb.put_length_le;unfold vH;split
 ·simp
 split
 ·have:=o (Leb.zig i);omega
 split
 ·rw[le_len];omega
 split
 ·have:=o t.size;rw[List.length_append];omega
 split
 ·simp
 split
 ·have:=o n;omega
 ·simp
theorem vB_len:∀(v:V) (d:Nat),chk d v=0->(vB v).length<=1100*260 ^ (4-d):=by
 refine V.ind ?_;intro k i b t xs W d h;obtain⟨hd,M,Q,S,-,D⟩:=chk_open h;have K:=vH_len (k:=k) (i:=i) (b:=b) (n:=xs.length) Q;have aj:1<=260 ^ (4-d):=Nat.one_le_pow _ _ (by decide);rw[vB_mk,List.length_append];split
 ·rw[List.length_nil];omega
 ·cases xs with
  |nil=>simp only[List.map_nil,List.flatten_nil,List.length_nil] at K ⊢;omega
  |cons x r=>
   have U:=D x (by simp);obtain⟨k',y,o,z,ys⟩:=x;have Z:=(chk_open U).1;have ab:=flatten_le vB (1100*260 ^ (4-(d+1))) (.mk k' y o z ys::r) (fun J E=>W J E (d+1) (D J E));have e:260 ^ (4-d)=260 ^ (4-(d+1))*260:=(by rw[<-Nat.pow_succ];congr 1;omega);have ah:1<=260 ^ (4-(d+1)):=Nat.one_le_pow _ _ (by decide);rw[e];generalize 260 ^ (4-(d+1))=q at *
   have Y:(V.mk k' y o z ys::r).length*(1100*q)<=256*(1100*q):=Nat.mul_le_mul_right _ S;have X:=own_open M;have L:k=6∨k=7:=by
    obtain⟨-,-,-,-,I,-⟩:=X;simp at I;exact I
   have ak:(vH k i b t (V.mk k' y o z ys::r).length).length<=10:=by
    have O:=Leb.put_length_le (V.mk k' y o z ys::r).length;unfold vH;rcases L with rfl | rfl
    ·rw[if_neg (by decide),if_neg (by decide),if_neg (by decide),if_neg (by decide),if_pos rfl];simp
    ·rw[if_neg (by decide),if_neg (by decide),if_neg (by decide),if_neg (by decide),if_neg (by decide),if_pos rfl];exact O
   omega
theorem vB_small{v:V}{d:Nat}(h:chk d v=0)(hd:1<=d):(vB v).length<=20000000000:=by
 have y:=vB_len v d h;have o:260 ^ (4-d)<=260 ^ 3:=Nat.pow_le_pow_right (by decide) (by omega);have e:260 ^ 3=17576000:=by decide
 rw[e] at o;omega
theorem tyB_len:∀(x:Ty) (d:Nat),Ty.check d x=0->(tyB x).length+d<=5:=by
 refine Ty.ind ?_;intro k xs D d h;obtain⟨E,I,o⟩:=ty_open h;rcases o with ⟨o,rfl⟩ | ⟨o,y,rfl,z⟩
 ·rw[tyB_mk,if_neg o,List.length_singleton];omega
 ·have:=D y (by simp) (d+1) z;rw[tyB_mk,if_pos o,List.length_cons];have e:([y].map tyB).headD []=tyB y:=rfl;rw[e];omega
theorem colsErr_mem:∀(s l:List Col),colsErr l s=0->∀c∈s,∃l',colErr l' c=0
 | [],_,_,c,o=>by cases o
 |d::r,l,h,c,o=>by
  rw[colsErr] at h;by_cases y:colErr l d=0
  ·rw[if_pos y] at h;rcases List.mem_cons.1 o with rfl | o
   ·exact⟨l,y⟩
   ·exact colsErr_mem r _ h c o
  ·rw[if_neg y] at h;exact absurd h y
theorem flatten_take{o:Type}(f:o->L8)(xs:List o)(j:Nat)(h:j<xs.length):((xs.take (j+1)).map f).flatten=((xs.take j).map f).flatten++f xs[j]:=by
 rw[List.take_succ_eq_append_getElem h,List.map_append,List.flatten_append];simp
theorem flatten_take_le{o:Type}(f:o->L8)(xs:List o)(j:Nat):((xs.take j).map f).flatten.length<=(xs.map f).flatten.length:=by
 have e:xs.map f=(xs.take j).map f++(xs.drop j).map f:=by rw[<-List.map_append,List.take_append_drop]
 rw[e,List.flatten_append,List.length_append];omega
end Sch
end
section
open Go.RowKit
namespace Sch
theorem bit_ne(h:bit l=.error e):e≠0:=by
 unfold bit at h;split at h
 ·cases h;decide
 ·split at h
  ·cases h;decide
  ·cases h
theorem num_ne(h:num l=.error e):e≠0:=by
 unfold num at h;split at h
 ·cases h
 ·next hn=>cases h;exact hn
theorem text_ne(o:long≠0)(h:text most long l=.error e):e≠0:=by
 unfold text at h;split at h
 ·next hn=>cases h;exact num_ne hn
 ·split at h
  ·cases h;exact o
  ·split at h
   ·cases h;decide
   ·cases h
theorem float_ne(h:float l=.error e):e≠0:=by
 unfold float at h;split at h
 ·cases h;decide
 ·split at h
  ·cases h
  ·cases h;decide
theorem scalar_ne(h:scalar k l=.error e):e≠0:=by
 unfold scalar at h;split at h
 ·split at h
  ·next hn=>cases h;exact bit_ne hn
  ·cases h
 ·split at h
  ·split at h
   ·next hn=>cases h;exact num_ne hn
   ·cases h
  ·split at h
   ·split at h
    ·next hn=>cases h;exact float_ne hn
    ·cases h
   ·split at h
    ·next hn=>cases h;exact text_ne (by decide) hn
    ·split at h
     ·cases h;decide
     ·cases h
theorem many_ne(h:many k l=.error e):e≠0:=by
 unfold many at h;split at h
 ·exact bit_ne h
 ·split at h
  ·next hn=>cases h;exact num_ne hn
  ·split at h
   ·cases h;decide
   ·cases h
theorem rdN_ne{f:L8->Except Nat (V×Nat)}(o:∀l e,f l=.error e->e≠0):∀(m:Nat) (l:L8) (e:Nat),rdN f m l=.error e->e≠0
 |0,l,e,h=>by rw[rdN] at h;cases h
 |m+1,l,e,h=>by
  rw[rdN] at h;split at h
  ·next hn=>cases h;exact o _ _ hn
  ·split at h
   ·next hn=>cases h;exact rdN_ne o m _ _ hn
   ·cases h
theorem rdV_ne:∀(t:Ty) (d:Nat) (l:L8) (e:Nat),Ty.check d t=0->rdV t l=.error e->e≠0:=by
 intro t;refine Ty.ind (P:=fun t=>∀(d:Nat) (l:L8) (e:Nat),Ty.check d t=0->rdV t l=.error e->e≠0) ?_ t;intro k xs E d l e y h;obtain⟨hd,I,z⟩:=ty_open y;rw[rdV_mk] at h;rcases z with ⟨o,rfl⟩ | ⟨o,x,rfl,D⟩
 ·rw[if_pos (by omega)] at h;exact scalar_ne h
 ·rw[if_neg (by omega)] at h;split at h
  ·next hn=>cases h;exact many_ne hn
  ·split at h
   ·next hn=>cases h;exact rdN_ne (f:=rdV x) (fun l e h=>E x (by simp) (d+1) l e D h) _ _ _ hn
   ·cases h
theorem rdT_ne:∀(f:Nat) (l:L8) (e:Nat),rdT f l=.error e->e≠0
 |0,l,e,h=>by rw[rdT] at h;cases h;decide
 |f+1,[],e,h=>by rw[rdT] at h;cases h;decide
 |f+1,c::r,e,h=>by
  rw[rdT] at h;split at h
  ·cases h;decide
  ·split at h
   ·cases h
   ·split at h
    ·next hn=>cases h;exact rdT_ne f r _ hn
    ·cases h
theorem rdC_ne{l:List Col}{b:L8}(h:rdC l b=.error e):e≠0:=by
 rw[rdC] at h;split at h
 ·next hn=>cases h;exact num_ne hn
 ·split at h
  ·cases h;decide
  ·split at h
   ·next hn=>cases h;exact text_ne (by decide) hn
   ·split at h
    ·cases h;decide
    ·split at h
     ·cases h;decide
     ·split at h
      ·next hn=>cases h;exact rdT_ne _ _ _ hn
      ·next t j2 ht=>
       split at h
       ·next hn=>cases h;exact bit_ne hn
       ·split at h
        ·cases h
        ·split at h
         ·next hn=>cases h;exact rdV_ne t 1 _ _ (rdT_ok 4 _ t j2 (Nat.le_refl 4) ht).2.2.1 hn
         ·cases h
theorem rdCs_ne:∀(m:Nat) (l:List Col) (b:L8) (e:Nat),rdCs m l b=.error e->e≠0
 |0,l,b,e,h=>by rw[rdCs] at h;cases h
 |m+1,l,b,e,h=>by
  rw[rdCs] at h;split at h
  ·next hn=>cases h;exact rdC_ne hn
  ·split at h
   ·next hn=>cases h;exact rdCs_ne m _ _ _ hn
   ·cases h
theorem read_ne{b:L8}(h:read b=.error e):e≠0:=by
 rw[read] at h;split at h
 ·cases h;decide
 ·split at h
  ·next hn=>cases h;exact num_ne hn
  ·split at h
   ·cases h;decide
   ·split at h
    ·cases h;decide
    ·split at h
     ·next hn=>cases h;exact rdCs_ne _ _ _ _ hn
     ·split at h
      ·cases h
      ·cases h;decide
end Sch
end
section
open Go.RowKit
def av(n:ByteArray)(k:Int)(tp:OA)(tn tc:Nat)(h:Bool)(vk vi:Int)(vb:Nat)(vt:ByteArray)(vp:OA)(vn vc:Nat):AV:=#[.string n,.int .i64 k,.slice tp tn tc,.bool h,.int .i64 vk,.int .i64 vi,.float .f64 vb,.string vt,.slice vp vn vc]
structure iv(w:World)(u:AV)(c:Col):Prop where
 out:∃k tp tn tc vk vi vb vt vp vn vc,u=av c.name k tp tn tc c.has vk vi vb vt vp vn vc∧aH w (an k tp tn tc) c.ty∧aJ w (cells5 vk vi vb vt vp vn vc) c.dflt
theorem iv.on{c:Col}(h:iv w u c)(hb:Below w.1.size w w'):iv w' u c:=by
 obtain⟨k,I,E,D,M,L,J,S,Q,O,K,o,y,z⟩:=h.out;exact⟨k,I,E,D,M,L,J,S,Q,O,K,o,y.on hb,z.on hb⟩
def At9(w:World)(blk o:Nat)(n:ByteArray)(k:Int)(tp:OA)(tn tc:Nat)(h:Bool)(vk vi:Int)(vb:Nat)(vt:ByteArray)(vp:OA)(vn vc:Nat):Prop :=
 w.cell? ⟨blk,o,none⟩=some (.string n)∧w.cell? ⟨blk,o+1,none⟩=some (.int .i64 k)∧w.cell? ⟨blk,o+2,none⟩=some (.slice tp tn tc)∧w.cell? ⟨blk,o+3,none⟩=some (.bool h)∧w.cell? ⟨blk,o+4,none⟩=some (.int .i64 vk)∧w.cell? ⟨blk,o+5,none⟩=some (.int .i64 vi)∧w.cell? ⟨blk,o+6,none⟩=some (.float .f64 vb)∧w.cell? ⟨blk,o+7,none⟩=some (.string vt)∧w.cell? ⟨blk,o+8,none⟩=some (.slice vp vn vc)
theorem At9.on{blk o:Nat}{n:ByteArray}{D:OA}{z y:Nat}{h:Bool}{K J:Int}{E:Nat}{O:ByteArray}{M:OA}{L I:Nat}(ah:At9 w blk o n k D z y h K J E O M L I)(hb:Below w.1.size w w'):At9 w' blk o n k D z y h K J E O M L I:=by
 obtain⟨Q,S,U,V,W,X,Y,Z,ab⟩:=ah;exact⟨ae hb Q,ae hb S,ae hb U,ae hb V,ae hb W,ae hb X,ae hb Y,ae hb Z,ae hb ab⟩
structure rF(w:World)(p:OA)(j:Nat)(u:AV):Prop where
 lies:∃blk off n k tp tn tc h vk vi vb vt vp vn vc,p=some ⟨blk,off,none⟩∧blk<w.1.size∧u=av n k tp tn tc h vk vi vb vt vp vn vc∧At9 w blk (off+j*9) n k tp tn tc h vk vi vb vt vp vn vc
theorem rF.on{p:OA}(h:rF w p j u)(hb:Below w.1.size w w'):rF w' p j u:=by
 obtain⟨blk,off,n,k,I,E,D,h,M,L,J,S,Q,O,K,o,U,y,z⟩:=h.lies;exact⟨blk,off,n,k,I,E,D,h,M,L,J,S,Q,O,K,o,by have:=hb.size;omega,y,z.on hb⟩
def et(w:World)(p:OA)(s:List Col):Prop:=∀j (hj:j<s.length),∃u,iv w u s[j]∧rF w p j u
theorem et.on{p:OA}{s:List Col}(h:et w p s)(hb:Below w.1.size w w'):et w' p s:=fun j z=>by
 obtain⟨u,o,y⟩:=h j z;exact⟨u,o.on hb,y.on hb⟩
theorem et.take{p:OA}{s:List Col}(h:et w p s)(n:Nat):et w p (s.take n):=fun j z=>by
 have D:j<s.length:=by rw[List.length_take] at z;omega
 obtain⟨u,o,y⟩:=h j D;exact⟨u,by simpa using o,y⟩
theorem et.at{p:OA}{s:List Col}(h:et w p s)(j:Nat)(ab:j<s.length):∃blk off k D z y K J E O M L I,p=some ⟨blk,off,none⟩∧blk<w.1.size∧At9 w blk (off+j*9) s[j].name k D z y s[j].has K J E O M L I∧aH w (an k D z y) s[j].ty∧aJ w (cells5 K J E O M L I) s[j].dflt:=by
 obtain⟨u,Y,Z⟩:=h j ab;obtain⟨blk,off,n,k,D,z,y,ah,K,J,E,O,M,L,I,Q,S,U,V⟩:=Z.lies;obtain⟨k',a0,ak,aj,a4,a3,a1,a7,a6,a5,a2,o,W,X⟩:=Y.out;rw[U] at o;simp only[av] at o;injection o with o;injection o with q0 o;injection o with q1 o;injection o with q2 o;injection o with q3 o;injection o with q4 o;injection o with q5 o;injection o with q6 o;injection o with q7 o;injection o with q8 o;injection q0 with q0;injection q1 with _ q1;injection q2 with q2 q2a q2b;injection q3 with q3;injection q4 with _ q4;injection q5 with _ q5;injection q6 with _ q6;injection q7 with q7;injection q8 with q8 q8a q8b;subst q0 q1 q2 q2a q2b q3 q4 q5 q6 q7 q8 q8a q8b;exact⟨blk,off,k,D,z,y,K,J,E,O,M,L,I,Q,S,V,W,X⟩
structure rA(w:World)(u:AV)(s:List Col):Prop where
 out:∃p c,u=#[.slice p s.length c]∧s.length*120<=140737488351232∧s.length<=c∧et w p s
theorem rA.on{s:List Col}(h:rA w u s)(hb:Below w.1.size w w'):rA w' u s:=by
 obtain⟨p,c,o,y,z,D⟩:=h.out;exact⟨p,c,o,y,z,D.on hb⟩
end
section
open Go.RowKit
structure vV(w:World)(P:(Nat->Prop)->AV->Ty->Prop)(F:Nat->Prop)(g off c:Nat)(xs:List Ty)(us:Nat->AV)(Fs:Nat->Nat->Prop):Prop where
 hl:xs.length*32<=140737488351232
 hc:xs.length<=c
 h5:∀j,j<xs.length->(us j).size=2
 hp:g<w.1.size∧∀j,j<xs.length->∀m,m<2->w.cell? ⟨g,off+j*2+m,none⟩=(us j)[m]?
 hf:∀j,j<xs.length->∀m,m<2->w.frozen? ⟨g,off+j*2+m,none⟩=false
 hg:F g
 hgs:∀j,j<xs.length->¬Fs j g
 hd:∀j n,j<xs.length->n<xs.length->j≠n->∀k,Fs j k->¬Fs n k
 hs:∀j,j<xs.length->∀k,Fs j k->F k
 hr:∀j (h:j<xs.length),P (Fs j) (us j) xs[j]
def aW(w:World)(F:Nat->Prop)(u:AV)(x:Ty):Prop :=
 ∀P:(Nat->Prop)->AV->Ty->Prop,(∀F k p c,P F (an k p 0 c) (.mk k [])) ->
  (∀F k g off c xs us Fs,vV w P F g off c xs us Fs->P F (an k (.some ⟨g,off,.none⟩) xs.length c) (.mk k xs))->P F u x
section
variable {w w':World} {F G:Nat->Prop} {u:AV} {x:Ty}
theorem aW.none{F:Nat->Prop}{p:OA}{c:Nat}:aW w F (an k p 0 c) (.mk k []):=fun _ o _=>o F k p c
theorem aW.some{F:Nat->Prop}{off c:Nat}{xs:List Ty}(us:Nat->AV)(Fs:Nat->Nat->Prop)(K:xs.length*32<=140737488351232)(D:xs.length<=c)(z:∀j,j<xs.length->(us j).size=2)(L:g<w.1.size∧∀j,j<xs.length->∀m,m<2->w.cell? ⟨g,off+j*2+m,.none⟩=(us j)[m]?)(E:∀j,j<xs.length->∀m,m<2->w.frozen? ⟨g,off+j*2+m,.none⟩=false)(I:F g)(J:∀j,j<xs.length->¬Fs j g)(hd:∀j n,j<xs.length->n<xs.length->j≠n->∀k,Fs j k->¬Fs n k)(O:∀j,j<xs.length->∀k,Fs j k->F k)(M:∀j (h:j<xs.length),aW w (Fs j) (us j) xs[j]):aW w F (an k (.some ⟨g,off,.none⟩) xs.length c) (.mk k xs) :=
 fun P y o=>o F k g off c xs us Fs ⟨K,D,z,L,E,I,J,hd,O,fun j h=>M j h P y o⟩
theorem aW.inv(h:aW w F u x):(∃k p c,u=an k p 0 c∧x=.mk k [])∨∃k g off c xs us Fs,u=an k (.some ⟨g,off,.none⟩) xs.length c∧x=.mk k xs∧vV w (aW w) F g off c xs us Fs:=by
 have:=h (fun F u x=>aW w F u x∧((∃k p c,u=an k p 0 c∧x=.mk k [])∨∃k g off c xs us Fs,u=an k (.some ⟨g,off,.none⟩) xs.length c∧x=.mk k xs∧vV w (aW w) F g off c xs us Fs))
  (fun F k p c=>⟨.none,.inl ⟨k,p,c,rfl,rfl⟩⟩)
  (fun F k g off c xs us Fs s=>⟨.some us Fs s.hl s.hc s.h5 s.hp s.hf s.hg s.hgs s.hd s.hs (fun j h=>(s.hr j h).1),.inr ⟨k,g,off,c,xs,us,Fs,rfl,rfl,s.hl,s.hc,s.h5,s.hp,s.hf,s.hg,s.hgs,s.hd,s.hs,fun j h=>(s.hr j h).1⟩⟩)
 exact this.2
theorem aW.five(h:aW w F u x):u.size=2:=by
 rcases h.inv with ⟨_,_,_,rfl,_⟩ | ⟨_,_,_,_,_,_,_,rfl,_⟩ <;> rfl
theorem aW.shape(h:aW w F u x):∃k p n c,u=an k p n c:=by
 rcases h.inv with ⟨_,_,_,rfl,_⟩ | ⟨_,_,_,_,_,_,_,rfl,_⟩ <;> exact⟨_,_,_,_,rfl⟩
theorem aW.lies(h:aW w F u x):aH w u x :=
 h (fun _ u x=>aH w u x) (fun F k p c=>aH.mk (xs:=[]) (fun _=>#[]) (by simp) (by simp) (fun o=>absurd rfl o) (fun j y=>by simp at y))
  (fun F k g off c xs us Fs s=>aH.mk us s.hl s.hc (fun _=>⟨_,_,rfl,s.hp.1,s.hp.2⟩) s.hr)
theorem aW.aside(h:aW w F u x):∀{G:Nat->Prop} {w':World},Aside G w w'->(∀k,F k->¬G k)->aW w' F u x:=by
 intro G w' y;refine h (fun F u x=>(∀k,F k->¬G k)->aW w' F u x) ?_ ?_
 ·intro F k p c _;exact .none
 ·intro F k g off c xs us Fs s z;refine .some us Fs s.hl s.hc s.h5 ⟨Nat.lt_of_lt_of_le s.hp.1 y.size,fun j o m D=>?_⟩ (fun j o m D=>?_) s.hg s.hgs s.hd s.hs (fun j o=>s.hr j o fun k E=>z k (s.hs j o k E))
  ·rw[y.cell s.hp.1 (z _ s.hg)];exact s.hp.2 j o m D
  ·rw[y.frozen s.hp.1 (z _ s.hg)];exact s.hf j o m D
theorem aW.under(h:aW w F u x)(hb:Below B w w')(o:∀k,F k->k<B):aW w' F u x :=
 h.aside (G:=fun k=>B<=k) (ij hb fun _ _ h=>h) fun k y z=>by have:=o k y;omega
theorem aW.mono(h:aW w F u x)(o:∀k,F k->G k):aW w G u x:=by
 rcases h.inv with ⟨k,p,c,rfl,rfl⟩ | ⟨k,g,off,c,xs,us,Fs,rfl,rfl,s⟩
 ·exact .none
 ·exact .some us Fs s.hl s.hc s.h5 s.hp s.hf (o _ s.hg) s.hgs s.hd (fun j y k z=>o k (s.hs j y k z)) s.hr
end
theorem aW.one{F G:Nat->Prop}{x:Ty}{T:TypeId}(y:w.1[g]?=Option.some (.cells u T (0,0)))(h:aW w F u x)(D:∀k,F k->G k)(I:¬F g)(E:G g):aW w G (an k (.some ⟨g,0,.none⟩) 1 1) (.mk k [x]):=by
 have K:g<w.1.size:=(Array.getElem?_eq_some_iff.1 y).1;refine aW.some (xs:=[x]) (fun _=>u) (fun _=>F) (by simp) (by simp) (fun _ _=>h.five) ⟨K,fun j o m L=>?_⟩ (fun j o m L=>?_) E (fun _ _=>I) (fun j n o M O=>?_) (fun _ _ k J=>D k J) (fun j o=>?_)
 ·have z:j=0:=by simp at o;omega
  subst z;simp[World.cell?,y]
 ·simp[World.frozen?,y]
 ·simp at o M;omega
 ·have z:j=0:=by simp at o;omega
  subst z;exact h
end
section
open Go.RowKit
structure cR(w:World)(F:Nat->Prop)(u:AV)(c:Col):Prop where
 out:∃(F1 F2:Nat->Prop) (k:Int) (tp:OA) (tn tc:Nat) (vk vi:Int) (vb:Nat) (vt:ByteArray) (vp:OA) (vn vc:Nat),u=av c.name k tp tn tc c.has vk vi vb vt vp vn vc∧aW w F1 (an k tp tn tc) c.ty∧aO w F2 (cells5 vk vi vb vt vp vn vc) c.dflt∧(∀k,F1 k->F k)∧(∀k,F2 k->F k)∧∀k,F1 k->¬F2 k
section
variable {w w':World} {F G:Nat->Prop} {u:AV} {c:Col}
theorem cR.nine(h:cR w F u c):u.size=9:=by
 obtain⟨_,_,_,_,_,_,_,_,_,_,_,_,_,rfl,_⟩:=h.out;rfl
theorem cR.lies(h:cR w F u c):iv w u c:=by
 obtain⟨U,V,k,I,E,D,M,L,J,S,Q,O,K,o,y,z,_⟩:=h.out;exact⟨k,I,E,D,M,L,J,S,Q,O,K,o,y.lies,z.lies⟩
theorem cR.aside(h:cR w F u c)(D:Aside G w w')(hd:∀k,F k->¬G k):cR w' F u c:=by
 obtain⟨E,I,k,S,Q,O,X,W,U,ab,Z,Y,V,J,K,L,y,z,M⟩:=h.out;exact⟨E,I,k,S,Q,O,X,W,U,ab,Z,Y,V,J,K.aside D (fun k o=>hd k (y k o)),L.aside D (fun k o=>hd k (z k o)),y,z,M⟩
theorem cR.under(h:cR w F u c)(hb:Below B w w')(o:∀k,F k->k<B):cR w' F u c :=
 h.aside (G:=fun k=>B<=k) (ij hb fun _ _ h=>h) fun k y z=>by have:=o k y;omega
theorem cR.mono(h:cR w F u c)(y:∀k,F k->G k):cR w G u c:=by
 obtain⟨z,D,k,S,Q,O,X,W,U,ab,Z,Y,V,E,I,J,K,L,M⟩:=h.out;exact⟨z,D,k,S,Q,O,X,W,U,ab,Z,Y,V,E,I,J,fun k o=>y k (K k o),fun k o=>y k (L k o),M⟩
theorem cR.one9(h:cR w F u c):∀a∈u.toList,a.oneCell'=true:=by
 obtain⟨_,_,_,_,_,_,_,_,_,_,_,_,_,rfl,_⟩:=h.out;intro a o;simp[av] at o;rcases o with rfl | rfl | rfl | rfl | rfl | rfl | rfl | rfl | rfl <;> rfl
end
theorem lP(us:Nat->AV):∀n,(∀j,j<n->(us j).size=9)->(flat us n).length=n*9
 |0,_=>by simp[flat]
 |n+1,h=>by
  rw[flat,List.length_append,lP us n fun j o=>h j (by omega),Array.length_toList,h n (by omega)];omega
theorem lQ(us:Nat->AV):∀n,(∀j,j<n->(us j).size=9)->∀j,j<n->∀m,m<9->(flat us n)[j*9+m]?=(us j)[m]?
 |0,_,j,o,_,_=>by omega
 |n+1,h,j,o,m,hm=>by
  have D:=lP us n fun j o=>h j (by omega);rw[flat];rcases Nat.lt_or_ge j n with y | y
  ·rw[List.getElem?_append_left (by omega),lQ us n (fun j o=>h j (by omega)) j y m hm]
  ·have z:j=n:=(by omega);subst z;rw[List.getElem?_append_right (by omega),D,Nat.add_sub_cancel_left];simp
def xC:Value:=.agg (av ⟨#[]⟩ 0 none 0 0 false 0 0 0 ⟨#[]⟩ none 0 0)
theorem yu:(Tryz.prog.info? 40).map (fun i=>(i.zero,i.size,i.bytes))=some (some xC,9,120):=by kernel_rfl
section
variable {B:Nat} {v:Value} {n:Nat} {us:Nat->AV} {w:World} {u:AV} {ad H:Nat}
theorem nc(Z:w.ownsRow B 40 9 v n (flat us n))(L:u.size=9)(E:∀a∈u.toList,a.oneCell'=true)(S:w.1[ad]?=some (.cells u 40 (0,0)))(X:(n+1)*120<=140737488355328)(M:B<=w.1.size)(O:w.1.size=H){D:Array Oper}{rest:List Oper}{o:Oper}{a:Act}{z:Exit->Act->World->Prop}{y x:Operand}(V:o.guard=none)(Y:o.op=Op.call { callee:=Callee.builtin Builtin.append,args:=#[y,x],argTypes:=#[27,27] })(ab:a.eval y=v)(aj:a.eval x=.slice (some ⟨ad,0,none⟩) 1 1)(Q:∀g cap w',w'.ownsRow B 40 9 (.slice (some ⟨g,0,none⟩) (n+1) cap) (n+1) (flat us n++u.toList)->w.grownBy w' v.ownBlock->(v.ownBlock=some g∨g=H)->wpList Tryz.prog D z rest (a.put o.dst (.slice (some ⟨g,0,none⟩) (n+1) cap)) w'):
  wpList Tryz.prog D z (o::rest) a w:=by
 obtain⟨i,W,ak,ah,U⟩:=info_parts yu
 exact wpList_append_lies w V y x 27 Y B 40 i xC 9 120 Tryz.underlying27 W ak ah U rfl (by decide) v n (flat us n) ab Z ⟨ad,0,none⟩ 1 1 u.toList aj (by simp[L])
  (World.news_of_block S) E (by decide) (by unfold maxLen;omega) X M H O fun g cap w' I J K _=>Q g cap w' I J K
end
structure aT(w:World)(B:Nat)(v:Value)(n:Nat)(us:Nat->AV)(Fs:Nat->Nat->Prop)(ys:List Col):Prop where
 len:ys.length=n
 nine:∀j,j<n->(us j).size=9
 row:w.ownsRow B 40 9 v n (flat us n)
 own:∀j (h:j<ys.length),cR w (Fs j) (us j) ys[j]
 apart:∀j m,j<n->m<n->j≠m->∀k,Fs j k->¬Fs m k
 beside:∀g,v.ownBlock=some g->∀j,j<n->¬Fs j g
 range:∀j,j<n->∀k,Fs j k->B<=k∧k<w.1.size
theorem gG(w:World)(B:Nat):aT w B (.slice none 0 0) 0 (fun _=>#[]) (fun _ _=>False) [] :=
 ⟨rfl,fun j o=>by omega,World.ownsRow_nil _ _ _ _,fun j o=>by simp at o,fun j m o=>by omega,fun g y=>by simp[Value.ownBlock] at y,fun j o=>by omega⟩
section
variable {w w':World} {B:Nat} {v:Value} {n:Nat} {us:Nat->AV} {Fs:Nat->Nat->Prop} {ys:List Col}
theorem aT.aside{G:Nat->Prop}(h:aT w B v n us Fs ys)(y:Aside G w w')(I:∀g,v.ownBlock=some g->¬G g)(J:∀j,j<n->∀k,Fs j k->¬G k):aT w' B v n us Fs ys:=by
 refine⟨h.len,h.nine,?_,fun j o=>(h.own j o).aside y (J j (by rw[<-h.len];exact o)),h.apart,h.beside,fun j o k D=>⟨(h.range j o k D).1,Nat.lt_of_lt_of_le (h.range j o k D).2 y.size⟩⟩;refine⟨h.row.1,?_⟩;rcases h.row.2 with K | ⟨g,cap,E,rfl,L,z,M⟩
 ·exact .inl K
 ·exact .inr ⟨g,cap,E,rfl,L,by rw[y.block g (Array.getElem?_eq_some_iff.1 z).1 (I g rfl)];exact z,M⟩
theorem aT.lt(h:aT w B v n us Fs ys):∀g,v.ownBlock=some g->B<=g∧g<w.1.size:=World.ownsRow.lt h.row
theorem aT.on(h:aT w B v n us Fs ys)(hb:Below w.1.size w w'):aT w' B v n us Fs ys :=
 h.aside (al hb (fun _=>False)) (fun _ _ o=>o) (fun _ _ _ _ o=>o)
theorem aT.set(h:aT w B v n us Fs ys)(p:Addr)(u:Value)(E:p.block<B):aT (w.setCell p u) B v n us Fs ys :=
 h.aside (G:=fun k=>k=p.block) ((Aside.refl (fun k=>k=p.block) w).setCell (p:=p) (.inl rfl) u) (fun g y o=>by have:=(h.lt g y).1;omega) (fun j z k D o=>by have:=(h.range j z k D).1;omega)
theorem aT.step{I M w4:World}{F:Nat->Prop}{x:Col}{cap:Nat}(h:aT w B v n us Fs ys)(hb:Below w.1.size w I)(V:cR I F u x)(J:∀k,F k->w.1.size<=k∧k<I.1.size)(O:Below I.1.size I M)(ak:B<=w.1.size)(Y:w4.ownsRow B 40 9 (.slice (some ⟨g,0,none⟩) (n+1) cap) (n+1) (flat us n++u.toList))(K:M.grownBy w4 v.ownBlock)(D:v.ownBlock=some g∨g=M.1.size):
  aT w4 B (.slice (some ⟨g,0,none⟩) (n+1) cap) (n+1) (fun j=>if j=n then u else us j) (fun j=>if j=n then F else Fs j) (ys++[x]):=by
 have a2:=hb.size;have a3:=O.size;have L:Aside (fun k=>v.ownBlock=some k) I w4:=by
  refine(al O _).trans (G:=fun k=>v.ownBlock=some k) ⟨K.os,K.tape,K.output,K.size,fun k o W=>K.block k o (fun y=>W y.symm)⟩ (fun _ _ h=>h)
 have S:∀k,F k->¬v.ownBlock=some k:=fun k o y=>by have:=(h.lt k y).2;have:=(J k o).1;omega
 have a1:∀j,j<n+1->j≠n->j<n:=fun j ab ah=>by omega
 refine⟨by rw[List.length_append,h.len];rfl,fun j E=>?_,?_,fun j E=>?_,fun j m E a0 X k o=>?_,fun Z Q j E=>?_,fun j E k o=>?_⟩
 ·split
  ·exact V.nine
  ·exact h.nine j (by omega)
 ·rw[flat,fq _ us n (fun j E=>by simp[show ¬j=n by omega])];simpa using Y
 ·rw[List.length_append,h.len,List.length_singleton] at E;by_cases z:j=n
  ·subst z;rw[if_pos rfl,if_pos rfl,List.getElem_append_right (by rw[h.len];exact gQx)];simp only[h.len,Nat.sub_self,List.getElem_singleton];exact V.aside L S
  ·rw[if_neg z,if_neg z,List.getElem_append_left (by rw[h.len];omega)];exact((h.own j (by rw[h.len];omega)).under hb (fun k o=>(h.range j (by omega) k o).2)).aside L (fun k o y=>h.beside k y j (by omega) o)
 ·by_cases z:j=n
  ·rw[if_pos z] at o;rw[if_neg (by omega)];exact fun y=>by have:=(h.range m (by omega) k y).2;have:=(J k o).1;omega
  ·rw[if_neg z] at o;by_cases U:m=n
   ·rw[if_pos U];exact fun y=>by have:=(h.range j (by omega) k o).2;have:=(J k y).1;omega
   ·rw[if_neg U];exact h.apart j m (by omega) (by omega) X k o
 ·simp only[Value.ownBlock,Option.some.injEq] at Q;subst Q;by_cases z:j=n
  ·rw[if_pos z];intro y;have:=J _ y;rcases D with D | D
   ·exact S _ y D
   ·omega
  ·rw[if_neg z];intro y;rcases D with D | D
   ·exact h.beside _ D j (by omega) y
   ·have:=(h.range j (by omega) _ y).2;omega
 ·have aj:=L.size;by_cases z:j=n
  ·rw[if_pos z] at o;have:=J k o;omega
  ·rw[if_neg z] at o;have:=h.range j (by omega) k o;omega
theorem aT.low{B':Nat}(h:aT w B v n us Fs ys)(o:B'<=B):aT w B' v n us Fs ys:=by
 refine⟨h.len,h.nine,⟨h.row.1,?_⟩,h.own,h.apart,h.beside,fun j y k z=>⟨Nat.le_trans o (h.range j y k z).1,(h.range j y k z).2⟩⟩;rcases h.row.2 with E | ⟨g,cap,D,rfl,I,J⟩
 ·exact .inl E
 ·exact .inr ⟨g,cap,D,rfl,Nat.le_trans o I,J⟩
structure fv(w:World)(B:Nat)(u:AV)(s:List Col):Prop where
 out:∃v us Fs,u=#[v]∧aT w B v s.length us Fs s∧s.length*120<=140737488351232
theorem aT.cols(h:aT w B v n us Fs ys)(a6:n*120<=140737488351232):∃p c,v=.slice p n c∧n<=c∧et w p ys:=by
 rcases h.row.2 with ⟨rfl,D⟩ | ⟨g,cap,a2,rfl,a3,E,I,a4,a5,J⟩
 ·have S:ys=[]:=List.eq_nil_of_length_eq_zero (by rw[h.len];exact D);subst S;subst D;exact⟨none,0,rfl,gQx,fun j y=>by simp at y⟩
 ·refine⟨_,cap,rfl,I,fun j y=>?_⟩;have L:=(Array.getElem?_eq_some_iff.1 E).1;have a7:=h.len;have K:∀q,q<n*9->w.cell? ⟨g,q,none⟩=(flat us n)[q]?:=fun q Q=>by
   rw[<-J,List.getElem?_take_of_lt Q];simp[World.cell?,E]
  have M:j<n:=by omega
  refine⟨us j,(h.own j y).lies,?_⟩;obtain⟨a0,a1,k,W,V,U,ab,Z,X,ak,aj,ah,Y,z,-⟩:=(h.own j y).out;have o:∀m,m<9->w.cell? ⟨g,0+j*9+m,none⟩=(us j)[m]?:=fun m O=>by
   rw[Nat.zero_add,K _ (by omega),lQ us _ h.nine j M m O]
  rw[z] at o;refine⟨g,0,_,k,W,V,U,_,ab,Z,X,ak,aj,ah,Y,rfl,L,z,?_⟩;exact⟨o 0 (by omega),o 1 (by omega),o 2 (by omega),o 3 (by omega),o 4 (by omega),o 5 (by omega),o 6 (by omega),o 7 (by omega),o 8 (by omega)⟩
theorem fv.lies{s:List Col}(h:fv w B u s):rA w u s:=by
 obtain⟨v,us,Fs,rfl,hb,o⟩:=h.out;obtain⟨p,c,rfl,y,z⟩:=hb.cols o;exact⟨p,c,rfl,o,y,z⟩
end
end
end Go.Proofs.YtbahfgdbjgkklaaGreatDoor
