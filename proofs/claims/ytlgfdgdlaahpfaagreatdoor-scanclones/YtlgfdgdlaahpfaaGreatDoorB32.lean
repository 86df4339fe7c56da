import Derived.Test.YtlgfdgdlaahpfaaGreatDoorB30
set_option maxRecDepth 100000
set_option maxHeartbeats 1000000
namespace Go.Proofs.YtlgfdgdlaahpfaaGreatDoor
open Go.RowKit
attribute [local go_sem] aP aT
theorem sL{w:World}{b:Nat}{v:Value}{T:TypeId}(h:w.1[b]?=some (.cells #[v] T))(u:Value):(w.setCell ⟨b,0,none⟩ u).1[b]?=some (.cells #[u] T):=by
 simp[World.setCell,Array.getElem?_modify,h]
theorem pm{B:Nat}{v:Value}{xs:L8}{w:World}(hown:Has w B v xs)(c:UInt8)(hlen:xs.length+1<=140737488355328)(hB:B<=w.1.size){z:Int}{ops:Array Oper}{rest:List Oper}{o:Oper}{a:Act}{Q:Exit->Act->World->Prop}{y x:Operand}{ad:Nat}(hz:z=(c.toNat:Int))(ht:o.type=31)(hg:o.guard=none)(hop:o.op=Op.call { callee:=Callee.builtin Builtin.append,args:=#[y,x],argTypes:=#[31,31] })(hs:a.eval y=v)(hx:a.eval x=.slice (some ⟨ad,0,none⟩) 1 1)(had:ad=w.1.size)(hK:∀ys q cap W,Hid (ys=xs++[c])->Has W B (.slice q ys.length cap) ys->Aside (fun k=>v.ownBlock=some k) w W->(∀k,(Value.slice q ys.length cap).ownBlock=some k->v.ownBlock=some k∨w.1.size<=k)->wpList Tryz.prog ops Q rest (a.put o.dst (.slice q ys.length cap)) W):
  wpList Tryz.prog ops Q (o::rest) a (w.alloc (.cells #[.int .u8 z] 5)):=by
 subst had
 have hat:At (w.alloc (.cells #[.int .u8 z] 5)) (some ⟨w.1.size,0,none⟩) [c]:=by
  refine .inr ⟨_,_,rfl,by simp,fun j hj=>?_⟩
  have hj0:j=0:=by simp at hj;omega
  subst hj0
  rw[World.cell?_alloc_new,hz]
  rfl
 have ha0:Aside (fun k=>v.ownBlock=some k) w (w.alloc (.cells #[.int .u8 z] 5)):=(Aside.refl _ _).alloc _
 refine kg (l:=[c]) (c:=1) (hown.alloc _) hat (by simpa using hlen) (Nat.le_trans hB ha0.size) ht hg hop hs hx ?_
 intro ys q cap W HY hH ha hk
 refine hK ys q cap W HY hH (ha0.trans ha (fun _ _ h=>h)) (fun j hj=>?_)
 rcases hk j hj with h | h
 ·exact .inl h
 ·exact .inr (Nat.le_trans ha0.size h)
section
variable {B g:Nat} {v:Value} {s:Dv.St} {x k:Nat} {w:World}
theorem su{bn bb c n:Nat}{xs l:L8}{p:OA}(hH:Has w B v xs)(hbn:w.1[bn]?=some (.cells #[.int .i64 n] 3))(hbb:w.1[bb]?=some (.cells #[.slice p l.length c] 31))(hA:At w p l)(hp:∀b o,p=some ⟨b,o,none⟩->b≠bn)(hn:n<l.length)(hll:l.length<=2097152)(hlen:xs.length<=2097152)(hB:B<=w.1.size)(cc:UInt8)(hcc:cc=l[n]):
  Calls Tryz.prog 54 #[v,.pointer (some ⟨bn,0,none⟩),.pointer (some ⟨bb,0,none⟩)] w fun e w'=>∃q cap,e=.returned (.slice q (xs++[cc]).length cap)∧Has w' B (.slice q (xs++[cc]).length cap) (xs++[cc])∧Aside (fun k=>k=bn∨v.ownBlock=some k) w w'∧w'.1[bn]?=some (.cells #[.int .i64 ((n:Int)+1)] 3)∧∀k,(Value.slice q (xs++[cc]).length cap).ownBlock=some k->v.ownBlock=some k∨w.1.size<=k:=by
 have cn:=fq hbn
 have fn:=ry hbn
 have cb:=fq hbb
 have hne:bb≠bn:=by
  rintro rfl
  rw[hbb] at hbn
  injection hbn with h1
  injection h1 with h2 h3
  revert h3
  decide
 have hvn:v.ownBlock≠some bn:=du hH hbn (by decide)
 have ha1:Aside (·=bn) w (w.setCell ⟨bn,0,none⟩ (.int .i64 ((n:Int)+1))):=(Aside.refl (·=bn) w).setCell (p:=⟨bn,0,none⟩) (.inl rfl) _
 have hH1:=hH.aside ha1 (fun j hj hc=>hvn (by rw[hj,hc]))
 have hbn1:=sL hbn (.int .i64 ((n:Int)+1))
 obtain⟨b,o,rfl,hbl,hc⟩:=bz hA (by omega)
 have hcw:w.cell? ⟨b,o+n,none⟩=some (.int .u8 (cc.toNat:Int)):=by rw[hcc];exact hc n hn
 have hpb:=hp b o rfl
 have HH1:=vQ hH1
 have HA1:=vQ ha1
 have HBn:=vQ hbn1
 have HVn:=vQ hvn
 have hlt:=dP hbn
 obtain⟨q0,cap0,hv,-,-⟩:=hH.at
 subst hv
 have hn1:(n:Int)<(l.length:Int):=by omega
 clear hA hH hbn hbb hc hcc hp ha1 hH1 hbn1 hvn
 go_enter Tryz.func54,Tryz.ntmps54
 go_wp2_with (at_builtin;refine pm HH1.out cc (by omega) (by simpa[World.setCell] using hB) rfl rfl rfl rfl rfl rfl (by simp[World.setCell]) ?_;intro ys q cap W HY hH2 ha2 hk2)
 go_ret
 rw[<-HY.out]
 refine⟨q,cap,rfl,hH2,?_,?_,fun j hj=>?_⟩
 ·exact(HA1.out.mono (fun _ _ h=>.inl h)).trans ha2 (fun _ _ h=>.inr h)
 ·rw[ha2.block bn (by simpa[World.setCell] using hlt) HVn.out];exact HBn.out
 ·rcases hk2 j hj with h | h
  ·exact .inl h
  ·exact .inr (by simpa[World.setCell] using h)
def WrI(w:World)(B g:Nat)(v:Value)(s:Dv.St)(p:OA)(c:Nat)(l:L8)(i:Nat)(wr:World):Prop :=
 ∃t v' x' k',aE wr B g v' t x' k'∧Dv.lay s l=Dv.lay t (l.drop i)∧wr.1[w.1.size+1]?=some (.cells #[.int .i64 (i:Int)] 3)∧wr.1[w.1.size]?=some (.cells #[.slice p l.length c] 31)∧Aside (fun j=>j=g∨v.ownBlock=some j) w wr ∧
  (∀j,v'.ownBlock=some j->v.ownBlock=some j∨w.1.size<=j)∧t.safe<=t.b.length∧t.b.length<=s.b.length+i∧t.done<=s.done+i
theorem j9{wr:World}{p:OA}{c i:Nat}{l:L8}(h:WrI w B g v s p c l i wr)(hi:i<l.length)(hg:g<w.1.size)(hA:At w p l)(hp:∀b o,p=some ⟨b,o,none⟩->¬(b=g∨v.ownBlock=some b))(hlen:s.b.length+l.length<=2097152)(hdone:s.done+l.length<4611686018427387904)(hB:B<=w.1.size):
  Calls Tryz.prog 55 #[.pointer (some ⟨g,0,none⟩),.func (.func 54) #[] #[.pointer (some ⟨w.1.size+1,0,none⟩),.pointer (some ⟨w.1.size,0,none⟩)]] wr fun e w'=>
   (e=.returned (.int .i64 0)∧WrI w B g v s p c l (i+1) w')∨(e=.returned (.int .i64 51)∧(Dv.lay s l).1=true∧gk w B g v (51,(Dv.lay s l).2) (.returned (.int .i64 51)) w'):=by
 obtain⟨t,v',x',k',hK,hlay,hbn,hbb,ha,ho,hs,hlb,hdn⟩:=h
 have hdrop:l.drop i=l[i]::l.drop (i+1):=List.drop_eq_getElem_cons hi
 rw[hdrop,Dv.lay] at hlay
 have hAr:At wr p l:=hA.aside ha hp
 obtain⟨b,o,hpe,hbl,-⟩:=bz hA (by omega)
 cases hm:Dv.may t with
 |true=>
  rw[if_pos (by rw[hm])] at hlay
  refine(rb 54 #[.pointer (some ⟨w.1.size+1,0,none⟩),.pointer (some ⟨w.1.size,0,none⟩)] (fun u l' w''=>∃q cap,u=.slice q (t.b++[l[i]]).length cap∧l'=t.b++[l[i]]∧Aside (fun j=>j=g∨j=w.1.size+1∨v'.ownBlock=some j) wr w''∧w''.1[w.1.size+1]?=some (.cells #[.int .i64 ((i:Int)+1)] 3)∧w''.1[w.1.size]?=some (.cells #[.slice p l.length c] 31)∧∀j,u.ownBlock=some j->v'.ownBlock=some j∨wr.1.size<=j) hK hm (by omega) (fun args w=>fl Tryz.func54 (by kernel_rfl) rfl args w) (fun w' x'' hl' ha'=>?_)).mono ?_
  ·have hbn':w'.1[w.1.size+1]?=some (.cells #[.int .i64 (i:Int)] 3):=by rw[ha'.block _ (dP hbn) (by omega)];exact hbn
   have hbb':w'.1[w.1.size]?=some (.cells #[.slice p l.length c] 31):=by rw[ha'.block _ (dP hbb) (by omega)];exact hbb
   have hH':=hK.has.aside ha' (fun j hj hc=>hK.apart (by rw[hj,hc]))
   have hA':At w' p l:=hAr.aside ha' (fun b o he hc=>hp b o he (.inl hc))
   have hB':B<=w'.1.size:=by have:=ha.size;have:=ha'.size;omega
   refine(su hH' hbn' hbb' hA' (fun b2 o2 he=>by rw[hpe] at he;cases he;omega) hi (by omega) (by omega) hB' l[i] rfl).mono ?_
   rintro e w'' ⟨q,cap,rfl,hH2,ha2,hbn2,hk2⟩
   have hvb:v'.ownBlock≠some w.1.size:=du hH' hbb' (by decide)
   refine⟨_,t.b++[l[i]],rfl,hH2,?_,q,cap,rfl,rfl,?_,hbn2,?_,fun j hj=>?_⟩
   ·rw[ha2.block g (dP hl') (fun hc=>by
     rcases hc with hc | hc
     ·omega
     ·exact hK.apart hc)]
    exact hl'
   ·exact(ha'.mono (fun _ _ h=>.inl h)).trans ha2 (fun _ _ h=>.inr h)
   ·rw[ha2.block w.1.size (dP hbb') (fun hc=>by
     rcases hc with hc | hc
     ·omega
     ·exact hvb hc)]
    exact hbb'
   ·rcases hk2 j hj with h1 | h1
    ·exact .inl h1
    ·exact .inr (Nat.le_trans ha'.size h1)
  ·rintro e w3 ⟨rfl,u,l',w2,x3,⟨q,cap,rfl,rfl,ha2,hbn2,hbb2,hk2⟩,ha3,hK3⟩
   refine .inl ⟨rfl,{ Dv.did t with b:=t.b++[l[i]] },.slice q (t.b++[l[i]]).length cap,x3,k',?_,hlay,?_,?_,?_,fun j hj=>?_,?_,?_,?_⟩
   ·have hmin:min t.safe (t.b++[l[i]]).length=t.safe:=by rw[List.length_append];omega
    rw[hmin] at hK3
    exact hK3
   ·rw[ha3.block _ (dP hbn2) (by omega),hbn2]
    push_cast
    rfl
   ·rw[ha3.block _ (dP hbb2) (by omega)];exact hbb2
   ·refine ha.trans (ha2.trans ha3 (fun _ _ h=>.inl h)) (fun j hj hc=>?_)
    rcases hc with hc | hc | hc
    ·exact .inl hc
    ·omega
    ·rcases ho j hc with h1 | h1
     ·exact .inr h1
     ·omega
   ·rcases hk2 j hj with h1 | h1
    ·exact ho j h1
    ·exact .inr (by have:=ha.size;omega)
   ·show t.safe<=(t.b++[l[i]]).length
    rw[List.length_append];omega
   ·show(t.b++[l[i]]).length<=_
    rw[List.length_append];simp;omega
   ·show t.done+1<=_
    omega
 |false=>
  rw[if_neg (by rw[hm];simp)] at hlay
  refine(mO _ hK hm hs (by omega)).mono ?_
  rintro e w3 ⟨rfl,v3,hK3,ha3,ho3⟩
  refine .inr ⟨rfl,by rw[hlay],rfl,v3,0,0,?_,ha.trans ha3 (fun _ _ h=>.inl h),fun j hj=>ho j (by rw[<-ho3];exact hj)⟩
  rw[hlay]
  exact hK3
theorem j8{p:OA}{c:Nat}{l:L8}(h:aE w B g v s x k)(hs:s.safe<=s.b.length)(j:Nat):
  WrI w B g v s p c l 0 (((w.alloc (.cells #[.slice p l.length c] 31)).drewN j).alloc (.cells #[.int .i64 0] 3)):=by
 have hb:Below w.1.size w (((w.alloc (.cells #[.slice p l.length c] 31)).drewN j).alloc (.cells #[.int .i64 0] 3)):=(below_drewN vY j).alloc (by simp) _
 refine⟨s,v,x,k,h.below hb,by rw[List.drop_zero],?_,?_,ae hb _,fun _ h=>.inl h,hs,by omega,by omega⟩
 ·have:=bK ((w.alloc (.cells #[.slice p l.length c] 31)).drewN j) (.cells #[.int .i64 0] 3)
  simpa using this
 ·have h1:=bK w (.cells #[.slice p l.length c] 31)
  have h2:(((w.alloc (.cells #[.slice p l.length c] 31)).drewN j).alloc (.cells #[.int .i64 0] 3)).1[w.1.size]?=(w.alloc (.cells #[.slice p l.length c] 31)).1[w.1.size]?:=by
   show((w.alloc (.cells #[.slice p l.length c] 31)).1.push _)[w.1.size]?=_
   rw[Array.getElem?_push,if_neg (by simp)]
  exact h2.trans h1
theorem tD(h:aE w B g v s x k)(p:OA)(c:Nat)(l:L8)(hl:l.length<=140737488351232)(hA:At w p l)(hp:l≠[]->∀b o,p=some ⟨b,o,none⟩->¬(b=g∨v.ownBlock=some b))(hs:s.safe<=s.b.length)(hlen:s.b.length<=2097152)(hmost:s.most<=1048576)(hdone:s.done<4611686018425290752)(hB:B<=w.1.size):
  Calls Tryz.prog 21 #[.pointer (some ⟨g,0,none⟩),.slice p l.length c] w (gk w B g v (Dv.write s l)):=by
 have hg:=h.lt
 have hB1:Below w.1.size w (w.alloc (.cells #[.slice p l.length c] 31)):=vY
 have HK1:=vQ (h.below hB1)
 have HA1:Hid (Aside (fun i=>i=g∨v.ownBlock=some i) w (w.alloc (.cells #[.slice p l.length c] 31))):=ae hB1 _
 have HS:=vQ (fun j=>j8 (p:=p) (c:=c) (l:=l) h hs j)
 have c0:w.cell? ⟨g,0,none⟩=some v:=h.cell 0
 have c1:w.cell? ⟨g,1,none⟩=some (.int .i64 s.most):=h.cell 1
 have c5:w.cell? ⟨g,5,none⟩=some (.bool s.down):=h.cell 5
 obtain⟨q,cap,hv,-,hcap⟩:=h.has.at
 subst hv
 clear h hB1
 by_cases hd:s.down=true
 ·have HE:Hid (Dv.write s l=(50,s)):=by show _=_;unfold Dv.write;rw[if_pos hd]
  rw[hd] at c5
  clear hd hA hp
  go_enter Tryz.func21,Tryz.ntmps21
  go_wp2
  go_ret
  unfold gk
  rw[HE.out]
  exact⟨rfl,_,_,_,HK1.out,HA1.out,fun _ h=>.inl h⟩
 ·have hd':s.down=false:=by simpa using hd
  rw[hd'] at c5
  by_cases h0:l=[]
  ·subst h0
   have HE:Hid (Dv.write s []=(0,s)):=by show _=_;unfold Dv.write;rw[if_neg hd,if_neg (by simp)];simp[Dv.lay]
   clear hd hd' hA hp
   go_enter Tryz.func21,Tryz.ntmps21
   go_wp2
   go_quiet (fail)
   go_wp2
   go_loopw [35] (fun v35 wr=>v35=.int .i64 0∧Hid (WrI w B g (.slice q s.b.length cap) s p c [] 0 wr)) (fun _ _=>0)
   case atStart=>exact⟨rfl,HS.out _⟩
   case round=>
    obtain⟨rfl,HI⟩:=hrel
    have HF:Hid (gk w B g (.slice q s.b.length cap) (Dv.write s []) (.returned (.int .i64 0)) wr):=by
     obtain⟨t,v',x',k',hK,hlay,-,-,ha,ho,-⟩:=HI.out
     have hl2:s=t:=by simpa[Dv.lay] using hlay
     show gk _ _ _ _ _ _ _
     rw[HE.out,hl2]
     rw[hl2] at ha ho
     exact⟨rfl,v',x',k',hK,ha,ho⟩
    go_wp2
    go_ret
    exact HF.out
  ·have hpos:=List.length_pos_iff.2 h0
   have hpos1:(0:Int)<(l.length:Int):=by omega
   have hb0:decide ((0:Int)<(l.length:Int))=true:=decide_eq_true hpos1
   by_cases hsp:s.most<s.b.length+l.length
   ·have HE:Hid (Dv.write s l=(52,s)):=by show _=_;unfold Dv.write;rw[if_neg hd,if_pos ⟨h0,hsp⟩]
    have hs1:(s.most:Int)-(s.b.length:Int)<(l.length:Int):=by omega
    clear hd hd' hA hp
    go_enter Tryz.func21,Tryz.ntmps21
    go_wp2
    go_quiet (fail)
    go_wp2
    go_ret
    unfold gk
    rw[HE.out]
    exact⟨rfl,_,_,_,HK1.out.drewN _,HA1.out.drewN _,fun _ h=>.inl h⟩
   ·have HE:Hid (Dv.write s l=(if (Dv.lay s l).1 then 51 else 0,(Dv.lay s l).2)):=by show _=_;unfold Dv.write;rw[if_neg hd,if_neg (fun h=>hsp h.2)]
    have hs1:¬(s.most:Int)-(s.b.length:Int)<(l.length:Int):=by omega
    have HR:=vQ (fun i wr (hI:WrI w B g (.slice q s.b.length cap) s p c l i wr) (hi:i<l.length)=>j9 hI hi hg hA (hp h0) (by omega) (by omega) hB)
    clear hd hd' hA hp HK1 HA1
    go_enter Tryz.func21,Tryz.ntmps21
    go_wp2
    go_quiet (fail)
    go_wp2
    go_loopw [35] (fun v35 wr=>∃i:Nat,i<=l.length∧v35=.int .i64 i∧Hid (WrI w B g (.slice q s.b.length cap) s p c l i wr)) (fun v35 _=>l.length-(intOf v35).toNat)
    case atStart=>exact⟨0,by omega,rfl,HS.out _⟩
    case round=>
     obtain⟨i,hi,rfl,HI⟩:=hrel
     by_cases hlt:i<l.length
     ·have hlt1:(i:Int)<(l.length:Int):=by omega
      go_wp2_with fail
      refine(HR.out i wr HI.out hlt).mono ?_
      rintro e w1 (⟨rfl,hI1⟩ | ⟨rfl,hl1,hP⟩)
      ·have HI1:=vQ hI1
       clear hI1
       go_wp2
       go_roundw
       case rel=>exact⟨i+1,by omega,by go_num,HI1.out⟩
       case measure=>simp[intOf];omega
      ·have HL1:=vQ hl1
       have HP:=vQ hP
       clear hl1 hP
       go_wp2
       go_ret
       rw[HE.out,HL1.out]
       exact HP.out
     ·have hii:i=l.length:=by omega
      have hlt1:¬(i:Int)<(l.length:Int):=by omega
      have HF:Hid (gk w B g (.slice q s.b.length cap) (Dv.write s l) (.returned (.int .i64 0)) wr):=by
       obtain⟨t,v',x',k',hK,hlay,-,-,ha,ho,-⟩:=HI.out
       rw[hii,List.drop_length] at hlay
       have hl2:Dv.lay s l=(false,t):=hlay.trans (by simp[Dv.lay])
       show gk _ _ _ _ _ _ _
       rw[HE.out,hl2]
       exact⟨rfl,v',x',k',hK,ha,ho⟩
      clear hii
      go_wp2
      go_ret
      exact HF.out
end
end Go.Proofs.YtlgfdgdlaahpfaaGreatDoor
