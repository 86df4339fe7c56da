import Derived.Test.YtllbniljgcgbeaaGreatDoorB05
import Derived.Lib.ItoaLen
import Derived.Test.YtllbniljgcgbeaaGreatDoorB15
namespace Go.Proofs.YtllbniljgcgbeaaGreatDoor
section
theorem ka(k:Int):(Tx.word k).length<=5:=by
 unfold Tx.word
 repeat' split
 all_goals decide
theorem oC:∀(x:Ty) (d:Nat),Ty.check d x=0->(Tx.ty x).length+7*d<=40:=by
 refine Ty.ind ?_
 intro k xs ih d h
 obtain⟨h1,h2,h3⟩:=Sch.ty_open h
 have:=ka k
 rcases h3 with ⟨h3,rfl⟩ | ⟨h3,y,rfl,hy⟩
 ·rw[Tx.ty_leaf];omega
 ·have:=ih y (by simp) (d+1) hy
  rw[Tx.ty_one]
  simp
  omega
theorem qa(a b:L8):(ByteArray.mk a.toArray++ByteArray.mk b.toArray)=ByteArray.mk (a++b).toArray:=by
 apply ByteArray.ext
 simp
theorem cF(n:Int)(h:-9223372036854775808<=n∧n<=9223372036854775807):(Lib.itoa n).length<=21:=Lib.itoa_length_le n h.1 h.2
theorem mD(q c:UInt8):(Tx.esc q c).length<=4:=by
 unfold Tx.esc
 split
 ·simp
 ·split <;> simp
def qtd(q:UInt8)(l:L8)(i:Nat):L8:=q::((l.take i).map (Tx.esc q)).flatten
theorem kv(q:UInt8)(l:L8)(i:Nat)(h:i<l.length):qtd q l (i+1)=qtd q l i++Tx.esc q l[i]:=by
 unfold qtd
 rw[List.take_succ_eq_append_getElem h,List.map_append,List.flatten_append]
 simp
theorem mz(q:UInt8)(l:L8):∀i,(qtd q l i).length<=4*i+1
 |0=>by simp[qtd]
 |i+1=>by
  have h0:=mz q l i
  by_cases h:i<l.length
  ·rw[kv q l i h,List.length_append]
   have:=mD q l[i]
   omega
  ·unfold qtd at h0 ⊢
   rw[List.take_of_length_le (by omega)]
   rw[List.take_of_length_le (by omega)] at h0
   omega
theorem qB(q:UInt8)(l:L8)(i:Nat)(h:l.length<=i):qtd q l i++[q]=Tx.quo q l:=by
 unfold qtd Tx.quo
 rw[List.take_of_length_le h]
 rfl
theorem jN(q:UInt8):∀l:L8,((l.map (Tx.esc q)).flatten).length<=4*l.length
 | []=>by simp
 |c::l=>by
  have h1:=jN q l
  have h2:=mD q c
  rw[List.map_cons,List.flatten_cons,List.length_append,List.length_cons]
  omega
theorem jK(B:Nat):∀l:List Tx.Bs,(∀x∈l,x.length<=B)->(Tx.join l).length<=l.length*(B+2)
 | [],_=>by simp[Tx.join]
 | [x],h=>by
  have:=h x (by simp)
  simp[Tx.join]
  omega
 |x::y::r,h=>by
  have h1:=jK B (y::r) (fun z hz=>h z (List.mem_cons_of_mem _ hz))
  have h2:=h x (by simp)
  rw[Tx.join_cons]
  simp only[List.length_append,List.length_cons] at h1 ⊢
  rw[Nat.add_mul] at h1 ⊢
  rw[Nat.add_mul]
  omega
theorem fq:∀(l:List Tx.Bs) (x:Tx.Bs),l≠[]->Tx.join (l++[x])=Tx.join l++44::32::x
 | [],_,h=>absurd rfl h
 | [y],x,_=>rfl
 |y::z::r,x,_=>by
  have:=fq (z::r) x (by simp)
  rw[List.cons_append,List.cons_append,Tx.join_cons,Tx.join_cons,<-List.cons_append,this]
  simp
theorem fp:∀(l:List Tx.Bs) (j:Nat),(Tx.join (l.take j)).length<=(Tx.join l).length
 | [],j=>by simp
 | [x],0=>by simp[Tx.join]
 | [x],j+1=>by simp
 |x::y::r,0=>by simp[Tx.join]
 |x::y::r,1=>by rw[Tx.join_cons];simp[Tx.join]
 |x::y::r,j+2=>by
  have:=fp (y::r) (j+1)
  rw[List.take_succ_cons,List.take_succ_cons,Tx.join_cons,Tx.join_cons]
  rw[List.take_succ_cons] at this
  simp only[List.length_append,List.length_cons]
  omega
def itd(tx:Nat->Tx.Bs)(xs:List V)(j:Nat):Tx.Bs:=91::Tx.join ((xs.take j).map (Tx.val tx))
theorem pC(tx:Nat->Tx.Bs)(xs:List V)(j:Nat)(h:j<xs.length):itd tx xs (j+1)=itd tx xs j++((if j=0 then [] else [44,32])++Tx.val tx xs[j]):=by
 unfold itd
 rw[List.take_succ_eq_append_getElem h,List.map_append]
 by_cases hj:j=0
 ·subst hj
  simp[Tx.join]
 ·rw[List.map_cons,List.map_nil,fq _ _ (fun hc=>by have:=congrArg List.length hc;rw[List.length_map,List.length_take] at this;simp only[List.length_nil] at this;omega),if_neg hj]
  simp
theorem kY{v:V}{d:Nat}(h:chk d v=0):d<=4:=by
 obtain⟨k,i,b,t,xs⟩:=v
 exact(Sch.chk_open h).1
theorem qs{tx:Nat->Tx.Bs}(hP:∀x,(tx x).length<=100):∀(v:V) (d:Nat),chk d v=0->v.wf->(Tx.val tx v).length<=5000*300 ^ (4-d):=by
 refine V.ind ?_
 intro k i b t xs ih d h hw
 obtain⟨h1,ho,h3,h4,-,h6⟩:=Sch.chk_open h
 obtain⟨hk,-,-,-,-,-,h7⟩:=Sch.own_open ho
 rw[V.wf_mk] at hw
 have hpos:1<=300 ^ (4-d):=Nat.pow_pos (by decide)
 have ht:t.data.toList.length<=1024:=by show t.data.toList.length<=1024;have:t.data.size<=1024:=h3;simpa using this
 rcases Tx.word_cases hk with rfl | rfl | rfl | rfl | rfl | rfl | rfl
 ·rw[Tx.val_one]
  split <;> simp <;> omega
 ·rw[Tx.val_two]
  have:=cF i hw.2.1
  omega
 ·rw[Tx.val_three]
  have:=hP b
  simp
  omega
 ·rw[Tx.val_four]
  have:=jN 34 t.data.toList
  simp[Tx.quo] at this ⊢
  omega
 ·rw[Tx.val_five]
  have:=jN 39 t.data.toList
  simp[Tx.quo] at this ⊢
  omega
 ·match xs,h7 rfl with
  | [],_=>rw[Tx.val_none];simp;omega
  | [x],_=>
   have hx:=h6 x (by simp)
   have hd:=kY hx
   have h2:=ih x (by simp) (d+1) hx (hw.2.2.2.2 x (by simp))
   have e:4-d=(4-(d+1))+1:=by omega
   rw[Tx.val_some,e,Nat.pow_succ]
   have hp2:1<=300 ^ (4-(d+1)):=Nat.pow_pos (by decide)
   generalize 300 ^ (4-(d+1))=P at h2 hp2 ⊢
   simp only[List.length_append,List.length_cons,List.length_nil]
   omega
 ·rw[Tx.val_list]
  cases xs with
  |nil=>simp[Tx.join];omega
  |cons x l=>
   have hx:=h6 x (by simp)
   have hd:=kY hx
   have hj:=jK (5000*300 ^ (4-(d+1))) ((x::l).map (Tx.val tx)) (fun y hy=>by
    obtain⟨z,hz,rfl⟩:=List.mem_map.1 hy
    exact ih z hz (d+1) (h6 z hz) (hw.2.2.2.2 z hz))
   rw[List.length_map] at hj
   have e:4-d=(4-(d+1))+1:=by omega
   rw[e,Nat.pow_succ]
   have hp2:1<=300 ^ (4-(d+1)):=Nat.pow_pos (by decide)
   have h8:(x::l).length*(5000*300 ^ (4-(d+1))+2)<=256*(5000*300 ^ (4-(d+1))+2):=Nat.mul_le_mul_right _ h4
   simp only[List.length_cons,List.length_append,List.length_nil] at hj h8 ⊢
   omega
theorem iM{tx:Nat->Tx.Bs}(hP:∀x,(tx x).length<=100){v:V}{d:Nat}(h:chk d v=0)(hd:1<=d)(hw:v.wf):(Tx.val tx v).length<=135000000000:=by
 have h1:=qs hP v d h hw
 have h2:300 ^ (4-d)<=300 ^ 3:=Nat.pow_le_pow_right (by decide) (by omega)
 have h3:300 ^ 3=27000000:=by decide
 omega
end
section
open Tx
theorem nT:∀n:Fin 16,fset (Hex.hexd n.val)=true:=by decide
theorem fM(u:Nat):∀k,∀c∈Hex.digits u k,fset c=true
 |0,c,h=>by simp[Hex.digits] at h
 |k+1,c,h=>by
  rw[Hex.digits,List.mem_cons] at h
  rcases h with rfl | h
  ·exact nT ⟨u / 16 ^ k % 16,Nat.mod_lt _ (by decide)⟩
  ·exact fM u k c h
theorem nP{c:UInt8}(h:iset c=true):fset c=true:=by
 unfold iset at h
 unfold fset
 rw[Bool.or_eq_true] at h
 rcases h with h | h
 ·rw[h];simp
 ·rw[h];simp
theorem oE(z:Nat):∀c∈text z,fset c=true:=by
 rcases bd z with ⟨h,-⟩ | ⟨h,-⟩ | ⟨h,-⟩ | ⟨h,-⟩ | ⟨h,-,-⟩ | ⟨h,-⟩
 ·rw[h];decide
 ·rw[h];decide
 ·rw[h];decide
 ·rw[h];decide
 ·rw[h];exact fun c hc=>nP (itoa_set _ c hc)
 ·rw[h]
  intro c hc
  rw[List.mem_cons] at hc
  rcases hc with rfl | hc
  ·decide
  ·exact fM z 16 c hc
structure bP(rf:Bs->Option Nat):Prop where
 yes:∀z,z<18446744073709551616->rf (text z)=some (ak z)
 no:∀l,(∀z,z<18446744073709551616->l≠text z)->rf l=none
theorem rA:∃rf,bP rf:=by
 classical
 refine⟨fun l=>if h:∃z,z<18446744073709551616∧l=text z then some (ak h.choose) else none,fun z hz=>?_,fun l hl=>?_⟩
 ·have h:∃y,y<18446744073709551616∧text z=text y:=⟨z,hz,rfl⟩
  show(if h:∃y,y<18446744073709551616∧text z=text y then some (ak h.choose) else none)=_
  rw[dif_pos h]
  have:=h.choose_spec
  rw[oG hz this.1 this.2]
 ·show(if h:∃y,y<18446744073709551616∧l=text y then some (ak h.choose) else none)=_
  rw[dif_neg (fun⟨z,hz,he⟩=>hl z hz he)]
theorem l7{x:Nat}(h:x<18446744073709551616):ak x<18446744073709551616:=by
 cases hn:bk x
 ·rw[bX hn];exact h
 ·rw[fL hn];decide
theorem cQ{rf:Bs->Option Nat}(h:bP rf):FOk text rf:=by
 refine⟨h.yes,fun l b hl=>?_,oE,eN⟩
 by_cases hz:∃z,z<18446744073709551616∧l=text z
 ·obtain⟨z,hz,rfl⟩:=hz
  rw[h.yes z hz] at hl
  injection hl with hl
  subst hl
  exact⟨eN z,fw z,l7 hz⟩
 ·rw[h.no l (fun z hz' he=>hz ⟨z,hz',he⟩)] at hl
  cases hl
theorem fJ{n:Int}(h:-9223372036854775808<=n∧n<=9223372036854775807):Lib.parseIntB 64 (Lib.itoa n)=.ok n:=by
 unfold Lib.itoa
 by_cases h0:n<0
 ·rw[if_pos h0,Lib.parseIntB_minus,Txt.parseB_digits _ (by omega)]
  show(if 9223372036854775808<n.natAbs then Lib.NumEnd.range else Lib.NumEnd.ok (-(n.natAbs:Int)))=_
  rw[if_neg (by omega),show -(n.natAbs:Int)=n by omega]
 ·rw[if_neg h0]
  obtain⟨c,r,he,h1,h2⟩:=Txt.dec_cons n.toNat
  rw[he,Lib.parseIntB_plain 64 c r (by omega) (by omega),<-he,Txt.parseB_digits _ (by omega)]
  show(if 9223372036854775808<=n.toNat then Lib.NumEnd.range else Lib.NumEnd.ok (n.toNat:Int))=_
  rw[if_neg (by omega),show(n.toNat:Int)=n by omega]
theorem jH{l:Bs}{n:Int}(h:Lib.parseIntB 64 l=.ok n):num l=if Lib.itoa n=l then some n else none:=by
 have hb:=Lib.parseIntB_bounds h
 have hr:-9223372036854775808<=n∧n<=9223372036854775807:=by
  have e:((2 ^ (64-1):Nat):Int)=9223372036854775808:=by decide
  rw[e] at hb
  omega
 split
 ·next he=>rw[<-he];exact num_itoa hr
 ·next he=>
  cases hn:num l with
  |none=>rfl
  |some m=>
   obtain⟨h1,h2⟩:=num_some hn
   have:=fJ h2
   rw[h1,h] at this
   injection this with this
   subst this
   exact absurd h1 he
theorem pp{l:Bs}(h:∀n,Lib.parseIntB 64 l≠.ok n):num l=none:=by
 cases hn:num l with
 |none=>rfl
 |some m=>
  obtain⟨h1,h2⟩:=num_some hn
  have:=fJ h2
  rw[h1] at this
  exact absurd this (h m)
end
end Go.Proofs.YtllbniljgcgbeaaGreatDoor
