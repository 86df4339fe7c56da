import Derived.Test.YtllbniljgcgbeaaGreatDoorA2
set_option maxRecDepth 100000
set_option maxHeartbeats 4000000
namespace Go.Proofs.YtllbniljgcgbeaaGreatDoor
section
theorem jk:∀(k u:Nat),u<10 ^ (k+1)->(Lib.decDigits u).length<=k+1
 |0,u,h=>by
  rw[Lib.decDigits,dif_pos (by simpa using h)]
  simp
 |k+1,u,h=>by
  rw[Lib.decDigits]
  by_cases h1:u<10
  ·rw[dif_pos h1];simp
  ·rw[dif_neg h1,List.length_append]
   have:=jk k (u / 10) (by rw[Nat.pow_succ] at h;omega)
   simp only[List.length_cons,List.length_nil]
   omega
def ca(l:Tx.Bs):Tx.Bs:=if l.head?=some 45 then l.tail else l
theorem eV{l:Tx.Bs}{m:Int}(h:Tx.num l=some m):(∀c∈ca l,Tx.dig c=true)∧1<=(ca l).length∧(ca l).length<=19∧m=(if l.head?=some 45 then -(Tx.unum (ca l):Int) else Tx.unum (ca l))∧-9223372036854775808<=m∧m<=9223372036854775807:=by
 obtain⟨h1,h2,h3⟩:=Tx.num_some h
 have hlen:∀u:Nat,u<=9223372036854775808->(Lib.decDigits u).length<=19:=fun u hu=>jk 18 u (by omega)
 have hpos:∀u:Nat,1<=(Lib.decDigits u).length:=fun u=>List.length_pos_iff.2 (Tx.dec_ne u)
 unfold Lib.itoa at h1
 by_cases hm:m<0
 ·rw[if_pos hm] at h1
  have hh:l.head?=some 45:=by rw[<-h1];rfl
  have hu:ca l=Lib.decDigits m.natAbs:=by unfold ca;rw[if_pos hh,<-h1];rfl
  rw[hu,if_pos hh,Tx.unum_dec]
  exact⟨Tx.dec_dig _,hpos _,hlen _ (by omega),by omega,h2,h3⟩
 ·rw[if_neg hm] at h1
  have hh:¬l.head?=some 45:=by
   rw[<-h1]
   cases hd:Lib.decDigits m.toNat with
   |nil=>exact absurd hd (Tx.dec_ne _)
   |cons c r=>
    have:=Tx.dec_dig m.toNat c (by rw[hd];exact List.mem_cons_self)
    intro hc
    simp only[List.head?_cons,Option.some.injEq] at hc
    exact Tx.dig_ne45 this hc
  have hu:ca l=Lib.decDigits m.toNat:=by unfold ca;rw[if_neg hh,<-h1]
  rw[hu,if_neg hh,Tx.unum_dec]
  exact⟨Tx.dec_dig _,hpos _,hlen _ (by omega),by omega,h2,h3⟩
theorem cC{l:Tx.Bs}(h:¬((∀c∈ca l,Tx.dig c=true)∧1<=(ca l).length∧(ca l).length<=19)):Tx.num l=none:=by
 cases hn:Tx.num l with
 |none=>rfl
 |some m=>exact absurd ⟨(eV hn).1,(eV hn).2.1,(eV hn).2.2.1⟩ h
theorem iN(l:Tx.Bs)(c:UInt8):Tx.unum (l++[c])=Tx.unum l*10+(c.toNat-48):=by
 unfold Tx.unum
 rw[List.foldl_append]
 rfl
theorem iG{u d:Nat}:IntKind.i64.wrap (IntKind.i64.wrap (10*IntKind.i64.wrap (-(u:Int)))-(d:Int))=IntKind.i64.wrap (-((u*10+d:Nat):Int)):=by
 simp only[IntKind.wrap_i64]
 omega
theorem mM{u:Nat}:IntKind.i64.wrap (-IntKind.i64.wrap (-(u:Int)))=IntKind.i64.wrap (u:Int):=by
 simp only[IntKind.wrap_i64]
 omega
theorem kF{l:Tx.Bs}{n:Int}(hn:n=IntKind.i64.wrap (if l.head?=some 45 then -(Tx.unum (ca l):Int) else Tx.unum (ca l))):(match Tx.num l with
  |some m=>n=m∧(Lib.itoa n==l)=true
  |none=>(Lib.itoa n==l)=false):=by
 have hr:-9223372036854775808<=n∧n<=9223372036854775807:=by
  rw[hn,IntKind.wrap_i64]
  omega
 cases hm:Tx.num l with
 |some m=>
  obtain⟨-,-,-,h1,h2,h3⟩:=eV hm
  have e:n=m:=by
   rw[hn,<-h1,IntKind.wrap_i64]
   omega
  refine⟨e,?_⟩
  rw[e,(Tx.num_some hm).1]
  exact beq_self_eq_true _
 |none=>
  rw[beq_eq_false_iff_ne]
  intro hc
  have:=Tx.num_itoa hr
  rw[hc,hm] at this
  cases this
end
section
open Go.RowKit
def qg(w:World)(l:Tx.Bs)(e:Ending)(w':World):Prop:=∃k b,e=.returned (.tuple #[.int .i64 k,.bool b])∧(match Tx.num l with
 |some m=>k=m∧b=true
 |none=>b=false)∧Below w.1.size w w'
theorem dm{w w':World}{l:Tx.Bs}(h:Tx.num l=none)(hb:Below w.1.size w w')(k:Int):qg w l (.returned (.tuple #[.int .i64 k,.bool false])) w':=by
 refine⟨k,false,rfl,?_,hb⟩
 rw[h]
theorem js{S:ByteArray}{i:Nat}(h:i<S.size):∃hl:i<S.data.toList.length,S[i]'h=S.data.toList[i]:=by
 refine⟨by rw[Array.length_toList];exact h,?_⟩
 simp[ByteArray.getElem_eq_getElem_data]
theorem kr(S:ByteArray)(hS:S.size<=140737488351232)(w:World):Calls Tryz.prog 57 #[.string S] w (qg w S.data.toList):=by
 obtain⟨l,hl⟩:∃l,l=S.data.toList:=⟨_,rfl⟩
 have hll:l.length=S.size:=by rw[hl,Array.length_toList];rfl
 rw[<-hl]
 by_cases h0:S.size=0
 ·have hn:Tx.num l=none:=cC (fun h=>by
   have h1:l=[]:=List.length_eq_zero_iff.1 (by omega)
   rw[h1] at h
   exact absurd h.2.1 (by decide))
  have HN:=tQ hn
  have g0:decide ((0:Int)<(S.size:Int))=false:=decide_eq_false (by omega)
  have g1:¬(0:Int)<(S.size:Int):=by omega
  have g2:(S.size:Int)<1:=by omega
  clear hl hll hn
  go_enter Tryz.func57,Tryz.ntmps57
  go_wp2
  go_ret2
  exact dm HN.out tZ _
 ·have hlt0:0<S.size:=by omega
  obtain⟨hx0,hc0⟩:=js hlt0
  obtain⟨c,hc⟩:∃c,c=S[0]'hlt0:=⟨_,rfl⟩
  have hd0:∃hlt:0<S.size,S[0]'hlt=c:=⟨hlt0,hc.symm⟩
  have hhd:l.head?=some c:=by
   subst hl
   rw[hc,hc0,List.head?_eq_getElem?,List.getElem?_eq_getElem hx0]
  have g1:(0:Int)<(S.size:Int):=by omega
  have g0:decide ((0:Int)<(S.size:Int))=true:=decide_eq_true g1
  clear hlt0 hx0 hc0 hc h0
  obtain⟨hlt0,hd0⟩:=hd0
  by_cases hc45:c=45
  ·have HH:Hid (l.head?=some 45):=by show l.head?=some 45;rw[hhd,hc45]
   have hul:ca l=l.drop 1:=by unfold ca;rw[if_pos HH.out];cases l <;> rfl
   have e45:((c.toNat:Int)==45)=true:=by rw[hc45];rfl
   have HU:=tQ hul
   have hbl:(l.drop 1).length=S.size-1:=by rw[List.length_drop,hll]
   clear hc45 hhd
   by_cases hs:S.size-1<1∨19<S.size-1
   ·have hn:Tx.num l=none:=cC (fun h=>by rw[hul] at h;omega)
    have HN:=tQ hn
    clear hn hul hbl hl hll HU HH
    by_cases h1:S.size-1<1
    ·have g2:(S.size:Int)-1<1:=by omega
     have g3:decide ((S.size:Int)-1<1)=true:=decide_eq_true g2
     clear hs h1
     go_enter Tryz.func57,Tryz.ntmps57
     go_wp2
     go_ret2
     exact dm HN.out tZ _
    ·have g2:¬(S.size:Int)-1<1:=by omega
     have g3:decide ((S.size:Int)-1<1)=false:=decide_eq_false g2
     have g4:(19:Int)<(S.size:Int)-1:=by omega
     clear hs h1
     go_enter Tryz.func57,Tryz.ntmps57
     go_wp2
     go_ret2
     exact dm HN.out tZ _
   ·have g2:¬(S.size:Int)-1<1:=by omega
    have g3:decide ((S.size:Int)-1<1)=false:=decide_eq_false g2
    have g4:¬(19:Int)<(S.size:Int)-1:=by omega
    have hsl:S.size<=20:=by omega
    have HI:Hid (∀i,1<=i->i<S.size->∃d,(∃hlt:i<S.size,S[i]'hlt=d)∧(l.drop 1).take (i+1-1)=(l.drop 1).take (i-1)++[d]∧d∈ca l):=fun i h1 h2=>by
     obtain⟨hx,hg⟩:=js h2
     subst hl
     have h3:i-1<(S.data.toList.drop 1).length:=by omega
     have e:(S.data.toList.drop 1)[i-1]=S.data.toList[i]:=by simp;try (congr 1;omega)
     refine⟨S.data.toList[i],⟨h2,hg⟩,?_,?_⟩
     ·rw[show i+1-1=(i-1)+1 by omega,List.take_succ_eq_append_getElem h3,e]
     ·rw[hul,<-e];exact List.getElem_mem h3
    have HE:Hid (∀i n,S.size<=i->n=IntKind.i64.wrap (-(Tx.unum ((l.drop 1).take (i-1)):Int))->∀n2,n2=n->((match Tx.num l with
      |some m=>n2=m∧(Lib.itoa n2==l)=true
      |none=>(Lib.itoa n2==l)=false))∧(-9223372036854775808<=n2∧n2<=9223372036854775807)):=fun i n h1 h2 n2 h3=>by
     rw[List.take_of_length_le (by omega),<-hul] at h2
     have h4:n2=IntKind.i64.wrap (if l.head?=some 45 then -(Tx.unum (ca l):Int) else Tx.unum (ca l)):=by
      rw[if_pos HH.out,h3,h2]
     refine⟨kF h4,?_⟩
     rw[h4,IntKind.wrap_i64]
     omega
    have HLs:Hid (l=S.data.toList):=hl
    clear hul hbl hl hll hs
    go_enter Tryz.func57,Tryz.ntmps57
    go_wp2_with fail
    go_loopw [5,7] (fun v5 v7 wr=>∃(i:Nat) (n:Int),1<=i∧i<=S.size∧v7=.int .i64 (i:Nat)∧v5=.int .i64 n∧Hid (n=IntKind.i64.wrap (-(Tx.unum ((l.drop 1).take (i-1)):Int)))∧wr=w) (fun _ v7 _=>S.size-(intOf v7).toNat)
    case atStart=>exact⟨1,0,tX,by omega,rfl,rfl,(show(0:Int)=_ by simp[Tx.unum];decide),rfl⟩
    case round=>
     obtain⟨i,n,hi0,hi,rfl,rfl,HNv,rfl⟩:=hrel
     have hiI:(i:Int)<=20:=by omega
     by_cases hlt:i<S.size
     ·have f1:(i:Int)<(S.size:Int):=by omega
      obtain⟨d,⟨hlt',hd⟩,htk,hmem⟩:=HI.out i hi0 hlt
      have HD:=tQ (cV d wr)
      by_cases hdig:Tx.dig d=true
      ·have hd48:48<=d.toNat∧d.toNat<=57:=by unfold Tx.dig at hdig;simpa using hdig
       have HNx:Hid (wrap64 (wrap64 (10*n)-((d.toNat:Int)-48))=IntKind.i64.wrap (-(Tx.unum ((l.drop 1).take (i+1-1)):Int))):=by
        show _=_
        simp only[<-IntWalk.i64_left]
        rw[htk,iN,HNv.out,<-iG,show((d.toNat-48:Nat):Int)=(d.toNat:Int)-48 by omega]
       have ew:IntKind.u8.wrap ((d.toNat:Int)-48)=(d.toNat:Int)-48:=by rw[IntKind.wrap_u8];omega
       rw[hdig] at HD
       clear htk hmem hdig HI HE
       go_wp2_with fail
       refine HD.out.mono ?_
       rintro e w1 ⟨rfl,rfl⟩
       clear HD
       go_wp2
       go_roundw
       case rel=>exact⟨i+1,_,by omega,by omega,by go_num,rfl,HNx,(by first | rfl | trivial)⟩
       case measure=>simp[intOf];omega
      ·have hn:Tx.num l=none:=cC (fun h=>hdig (h.1 d hmem))
       have HN:=tQ hn
       have hdf:Tx.dig d=false:=by simpa using hdig
       rw[hdf] at HD
       clear htk hmem hdig hn hdf HI HE
       go_wp2_with fail
       refine HD.out.mono ?_
       rintro e w1 ⟨rfl,rfl⟩
       clear HD
       go_wp2
       go_ret2
       exact dm HN.out tZ _
     ·have f1:¬(i:Int)<(S.size:Int):=by omega
      obtain⟨n2,hn2⟩:∃n2,n2=n:=⟨_,rfl⟩
      obtain⟨ht,hr⟩:=HE.out i n (by omega) HNv.out n2 hn2
      have HDg:=tQ (fH n2.natAbs n2 tX hr wr)
      have HR:Hid (∀w',Below wr.1.size wr w'->qg wr l (.returned (.tuple #[.int .i64 n2,.bool (Lib.itoa n2==S.toList)])) w'):=fun w' hb=>by
       have e:(Lib.itoa n2==S.toList)=(Lib.itoa n2==l):=by
        rw[Lib.toList_data,<-HLs.out]
       rw[e]
       refine⟨_,_,rfl,?_,hb⟩
       cases hm:Tx.num l with
       |some m=>rw[hm] at ht;exact ht
       |none=>rw[hm] at ht;exact ht
      subst hn2
      clear HI HE ht hr
      go_wp2_with fail
      refine HDg.out.mono ?_
      rintro e w1 ⟨rfl,hb1⟩
      have HB:=tQ hb1
      clear hb1 HDg
      go_wp2
      go_ret2
      exact HR.out _ HB.out
  ·have HH:Hid (¬l.head?=some 45):=by show ¬l.head?=some 45;rw[hhd];intro hc;injection hc with hc;exact hc45 hc
   have hul:ca l=l:=by unfold ca;rw[if_neg HH.out]
   have e45:((c.toNat:Int)==45)=false:=by rw[beq_eq_false_iff_ne];intro hc;exact hc45 (UInt8.toNat_inj.1 (by show c.toNat=45;omega))
   have HU:=tQ hul
   have hbl:l.length=S.size:=by exact hll
   clear hc45 hhd
   by_cases hs:S.size<1∨19<S.size
   ·have hn:Tx.num l=none:=cC (fun h=>by rw[hul] at h;omega)
    have HN:=tQ hn
    clear hn hul hbl hl hll HU HH
    by_cases h1:S.size<1
    ·have g2:(S.size:Int)<1:=by omega
     have g3:decide ((S.size:Int)<1)=true:=decide_eq_true g2
     clear hs h1
     go_enter Tryz.func57,Tryz.ntmps57
     go_wp2
     go_ret2
     exact dm HN.out tZ _
    ·have g2:¬(S.size:Int)<1:=by omega
     have g3:decide ((S.size:Int)<1)=false:=decide_eq_false g2
     have g4:(19:Int)<(S.size:Int):=by omega
     clear hs h1
     go_enter Tryz.func57,Tryz.ntmps57
     go_wp2
     go_ret2
     exact dm HN.out tZ _
   ·have g2:¬(S.size:Int)<1:=by omega
    have g3:decide ((S.size:Int)<1)=false:=decide_eq_false g2
    have g4:¬(19:Int)<(S.size:Int):=by omega
    have hsl:S.size<=20:=by omega
    have HI:Hid (∀i,0<=i->i<S.size->∃d,(∃hlt:i<S.size,S[i]'hlt=d)∧l.take (i+1)=l.take (i)++[d]∧d∈ca l):=fun i h1 h2=>by
     obtain⟨hx,hg⟩:=js h2
     subst hl
     have h3:i<(S.data.toList).length:=by omega
     have e:(S.data.toList)[i]=S.data.toList[i]:=by rfl
     refine⟨S.data.toList[i],⟨h2,hg⟩,?_,?_⟩
     ·rw[List.take_succ_eq_append_getElem h3,e]
     ·rw[hul,<-e];exact List.getElem_mem h3
    have HE:Hid (∀i n,S.size<=i->n=IntKind.i64.wrap (-(Tx.unum (l.take (i)):Int))->∀n2,n2=wrap64 (-n)->((match Tx.num l with
      |some m=>n2=m∧(Lib.itoa n2==l)=true
      |none=>(Lib.itoa n2==l)=false))∧(-9223372036854775808<=n2∧n2<=9223372036854775807)):=fun i n h1 h2 n2 h3=>by
     rw[List.take_of_length_le (by omega),<-hul] at h2
     have h4:n2=IntKind.i64.wrap (if l.head?=some 45 then -(Tx.unum (ca l):Int) else Tx.unum (ca l)):=by
      rw[if_neg HH.out,h3,<-IntWalk.i64_left,h2,mM]
     refine⟨kF h4,?_⟩
     rw[h4,IntKind.wrap_i64]
     omega
    have HLs:Hid (l=S.data.toList):=hl
    clear hul hbl hl hll hs
    go_enter Tryz.func57,Tryz.ntmps57
    go_wp2_with fail
    go_loopw [5,7] (fun v5 v7 wr=>∃(i:Nat) (n:Int),0<=i∧i<=S.size∧v7=.int .i64 (i:Nat)∧v5=.int .i64 n∧Hid (n=IntKind.i64.wrap (-(Tx.unum (l.take (i)):Int)))∧wr=w) (fun _ v7 _=>S.size-(intOf v7).toNat)
    case atStart=>exact⟨0,0,tX,by omega,rfl,rfl,(show(0:Int)=_ by simp[Tx.unum];decide),rfl⟩
    case round=>
     obtain⟨i,n,hi0,hi,rfl,rfl,HNv,rfl⟩:=hrel
     have hiI:(i:Int)<=20:=by omega
     by_cases hlt:i<S.size
     ·have f1:(i:Int)<(S.size:Int):=by omega
      obtain⟨d,⟨hlt',hd⟩,htk,hmem⟩:=HI.out i hi0 hlt
      have HD:=tQ (cV d wr)
      by_cases hdig:Tx.dig d=true
      ·have hd48:48<=d.toNat∧d.toNat<=57:=by unfold Tx.dig at hdig;simpa using hdig
       have HNx:Hid (wrap64 (wrap64 (10*n)-((d.toNat:Int)-48))=IntKind.i64.wrap (-(Tx.unum (l.take (i+1)):Int))):=by
        show _=_
        simp only[<-IntWalk.i64_left]
        rw[htk,iN,HNv.out,<-iG,show((d.toNat-48:Nat):Int)=(d.toNat:Int)-48 by omega]
       have ew:IntKind.u8.wrap ((d.toNat:Int)-48)=(d.toNat:Int)-48:=by rw[IntKind.wrap_u8];omega
       rw[hdig] at HD
       clear htk hmem hdig HI HE
       go_wp2_with fail
       refine HD.out.mono ?_
       rintro e w1 ⟨rfl,rfl⟩
       clear HD
       go_wp2
       go_roundw
       case rel=>exact⟨i+1,_,by omega,by omega,by go_num,rfl,HNx,(by first | rfl | trivial)⟩
       case measure=>simp[intOf];omega
      ·have hn:Tx.num l=none:=cC (fun h=>hdig (h.1 d hmem))
       have HN:=tQ hn
       have hdf:Tx.dig d=false:=by simpa using hdig
       rw[hdf] at HD
       clear htk hmem hdig hn hdf HI HE
       go_wp2_with fail
       refine HD.out.mono ?_
       rintro e w1 ⟨rfl,rfl⟩
       clear HD
       go_wp2
       go_ret2
       exact dm HN.out tZ _
     ·have f1:¬(i:Int)<(S.size:Int):=by omega
      obtain⟨n2,hn2⟩:∃n2,n2=wrap64 (-n):=⟨_,rfl⟩
      obtain⟨ht,hr⟩:=HE.out i n (by omega) HNv.out n2 hn2
      have HDg:=tQ (fH n2.natAbs n2 tX hr wr)
      have HR:Hid (∀w',Below wr.1.size wr w'->qg wr l (.returned (.tuple #[.int .i64 n2,.bool (Lib.itoa n2==S.toList)])) w'):=fun w' hb=>by
       have e:(Lib.itoa n2==S.toList)=(Lib.itoa n2==l):=by
        rw[Lib.toList_data,<-HLs.out]
       rw[e]
       refine⟨_,_,rfl,?_,hb⟩
       cases hm:Tx.num l with
       |some m=>rw[hm] at ht;exact ht
       |none=>rw[hm] at ht;exact ht
      subst hn2
      clear HI HE ht hr
      go_wp2_with fail
      refine HDg.out.mono ?_
      rintro e w1 ⟨rfl,hb1⟩
      have HB:=tQ hb1
      clear hb1 HDg
      go_wp2
      go_ret2
      exact HR.out _ HB.out
end
end Go.Proofs.YtllbniljgcgbeaaGreatDoor
