import Derived.Test.YtlgfdgdlaahpfaaGreatDoorB47
import Derived.Test.YtlgfdgdlaahpfaaGreatDoorB13
set_option maxRecDepth 100000
set_option maxHeartbeats 4000000
namespace Go.Proofs.YtlgfdgdlaahpfaaGreatDoor
section
open Go.RowKit
theorem jf{w W:World}{B:Nat}{q:OA}{cap:Nat}{Z:List (List Value×(Fr×Int))}(h:cO W B (.slice q Z.length cap) (Z.map (·.1)))(hV:∀z∈Z,PlV w z.1 z.2)(i:Nat)(hi:i<Z.length):
  ∃b o sp sc bp bc ep ec,q=some ⟨b,o,none⟩∧W.cell? ⟨b,o+i*12,none⟩=some (.int .i64 Z[i].2.1.kind)∧W.cell? ⟨b,o+i*12+1,none⟩=some (.int .i64 Z[i].2.1.number)∧W.cell? ⟨b,o+i*12+2,none⟩=some (.slice sp Z[i].2.1.cols.length sc)∧W.cell? ⟨b,o+i*12+3,none⟩=some (.int .i64 Z[i].2.1.seq)∧W.cell? ⟨b,o+i*12+4,none⟩=some (.int .i64 Z[i].2.1.first)∧W.cell? ⟨b,o+i*12+5,none⟩=some (.int .i64 Z[i].2.1.rows)∧W.cell? ⟨b,o+i*12+6,none⟩=some (.slice bp Z[i].2.1.block.length bc)∧W.cell? ⟨b,o+i*12+7,none⟩=some (.int .i64 Z[i].2.1.index.at_)∧W.cell? ⟨b,o+i*12+8,none⟩=some (.int .i64 Z[i].2.1.index.frames)∧W.cell? ⟨b,o+i*12+9,none⟩=some (.int .i64 Z[i].2.1.index.rows)∧W.cell? ⟨b,o+i*12+10,none⟩=some (.slice ep Z[i].2.1.index.entries.length ec)∧W.cell? ⟨b,o+i*12+11,none⟩=some (.int .i64 Z[i].2.2):=by
 obtain⟨p,c,hv,-,hl⟩:=h.lies
 injection hv with hp _ _
 subst hp
 obtain⟨b,o,rfl,hc⟩:=hl i (by rw[List.length_map];exact hi)
 rw[List.getElem_map] at hc
 obtain⟨sp,sc,bp,bc,ep,ec,-,hu⟩:=hV Z[i] (List.getElem_mem hi)
 rw[hu] at hc
 exact⟨b,o,sp,sc,bp,bc,ep,ec,rfl,hc 0 (by omega),hc 1 (by omega),hc 2 (by omega),hc 3 (by omega),hc 4 (by omega),hc 5 (by omega),hc 6 (by omega),hc 7 (by omega),hc 8 (by omega),hc 9 (by omega),hc 10 (by omega),hc 11 (by omega)⟩
section
variable {w w':World} {a:Nat} {x:Rw} {F:Nat->Prop}
theorem cI(h:aG w a x F):Calls Tryz.prog 35 #[.pointer (some ⟨a,0,none⟩)] w fun e w'=>e=.returned (.int .i64 x.number)∧Below w.1.size w w':=by
 have HS:=vQ (dE h)
 have hsz:x.schemas.length<=1000001:=by
  unfold Rw.schemas
  rw[List.length_append]
  have:=List.length_filter_le (fun q:Fr×Int=>decide (q.1.kind=1)) x.l
  have:=h.small.l
  have:=h.small.s0
  omega
 obtain⟨S,hS⟩:∃S,S=x.schemas:=⟨_,rfl⟩
 have HX:Hid (x.number=S.foldl (fun n q=>if n<q.1.number then q.1.number else n) (-1)):=by show x.number=_;rw[hS];rfl
 rw[<-hS] at hsz HS
 rw[HX.out]
 clear h hS HX
 go_enter Tryz.func35,Tryz.ntmps35
 go_wp2_with fail
 refine HS.out.mono ?_
 rintro e w1 ⟨q,cap,Z,rfl,hO,hV,hZ,hb⟩
 have hzl:Z.length=S.length:=by rw[<-hZ,List.length_map]
 have hzl2:Z.length<=1000001:=by omega
 have HO:=vQ hO
 have HV:=vQ (hV w (Aside.refl _ _))
 have HZ:=vQ hZ
 have HB1:=vQ hb
 obtain⟨G,hG⟩:∃G:Int->(List Value×(Fr×Int))->Int,G=fun n z=>if n<z.2.1.number then z.2.1.number else n:=⟨_,rfl⟩
 have HG:=vQ hG
 clear hO hV hZ hb HS hzl hG
 go_wp2_with fail
 go_loopw [3,9] (fun v3 v9 wr=>∃i:Nat,i<=Z.length∧v9=.int .i64 (i:Nat)∧v3=.int .i64 ((Z.take i).foldl G (-1))∧Hid (Below w1.1.size w1 wr)) (fun _ v9 _=>Z.length-(intOf v9).toNat)
 case atStart=>exact⟨0,by omega,rfl,rfl,vZ⟩
 case round=>
  obtain⟨i,hi,rfl,rfl,HB⟩:=hrel
  have hiI:(i:Int)<=1000001:=by omega
  obtain⟨N,hN⟩:∃N,N=(Z.take i).foldl G (-1):=⟨_,rfl⟩
  rw[<-hN]
  by_cases hlt:i<Z.length
  ·have f1:(i:Int)<(Z.length:Int):=by omega
   have hst:=cu G (-1) Z i hlt
   rw[<-hN] at hst
   have hg:G N Z[i]=if N<Z[i].2.1.number then Z[i].2.1.number else N:=by rw[HG.out]
   rw[hg] at hst
   obtain⟨b,o,sp,sc,bp,bc,ep,ec,rfl,d0,d1,d2,d3,d4,d5,d6,d7,d8,d9,d10,d11⟩:=jf (HO.out.on HB.out) HV.out i hlt
   generalize Z[i].2.1.kind=k0,Z[i].2.1.number=k1,Z[i].2.1.cols.length=k2,Z[i].2.1.seq=k3,Z[i].2.1.first=k4,Z[i].2.1.rows=k5,Z[i].2.1.block.length=k6,Z[i].2.1.index.at_=k7,Z[i].2.1.index.frames=k8,Z[i].2.1.index.rows=k9,Z[i].2.1.index.entries.length=k10,Z[i].2.2=k11 at d0 d1 d2 d3 d4 d5 d6 d7 d8 d9 d10 d11 hst
   have HSt:=vQ hst
   have HB2:Hid (∀o,Below w1.1.size w1 (wr.alloc o)):=fun o=>HB.out.alloc HB.out.size o
   clear hst hg hN HB
   by_cases hk:N<k1
   ·have HS2:Hid ((Z.take (i+1)).foldl G (-1)=k1):=by show _=_;rw[HSt.out,if_pos hk]
    clear HSt
    go_wp2
    go_roundw
    case rel=>exact⟨i+1,by omega,by go_num,by rw[HS2.out],HB2.out _⟩
    case measure=>simp[intOf];omega
   ·have HS2:Hid ((Z.take (i+1)).foldl G (-1)=N):=by show _=_;rw[HSt.out,if_neg hk]
    clear HSt
    go_wp2
    go_roundw
    case rel=>exact⟨i+1,by omega,by go_num,by rw[HS2.out],HB2.out _⟩
    case measure=>simp[intOf];omega
  ·have f1:¬(i:Int)<(Z.length:Int):=by omega
   have HE:Hid (N=S.foldl (fun n q=>if n<q.1.number then q.1.number else n) (-1)):=by
    show N=_
    rw[hN,List.take_of_length_le (by omega),<-HZ.out,List.foldl_map,HG.out]
   have HBf:=vQ (HB1.out.trans (HB.out.mono HB1.out.size))
   clear hN hlt
   go_wp2
   go_ret
   exact⟨by rw[<-HE.out];rfl,HBf.out⟩
theorem l6(h:aG w a x F)(m:Int):Calls Tryz.prog 43 #[.pointer (some ⟨a,0,none⟩),.int .i64 m] w fun e w'=>e=.returned (.tuple #[.int .i64 (x.place m).1,.bool (x.place m).2])∧Below w.1.size w w':=by
 have HS:=vQ (dE h)
 have hsz:x.schemas.length<=1000001:=by
  unfold Rw.schemas
  rw[List.length_append]
  have:=List.length_filter_le (fun q:Fr×Int=>decide (q.1.kind=1)) x.l
  have:=h.small.l
  have:=h.small.s0
  omega
 obtain⟨S,hS⟩:∃S,S=x.schemas:=⟨_,rfl⟩
 have HX:Hid (x.place m=S.foldl (fun r q=>if q.1.number=m then (q.2,true) else r) (0,false)):=by show x.place m=_;rw[hS];rfl
 rw[<-hS] at hsz HS
 rw[HX.out]
 clear h hS HX
 go_enter Tryz.func43,Tryz.ntmps43
 go_wp2_with fail
 refine HS.out.mono ?_
 rintro e w1 ⟨q,cap,Z,rfl,hO,hV,hZ,hb⟩
 have hzl:Z.length=S.length:=by rw[<-hZ,List.length_map]
 have hzl2:Z.length<=1000001:=by omega
 have HO:=vQ hO
 have HV:=vQ (hV w (Aside.refl _ _))
 have HZ:=vQ hZ
 have HB1:=vQ hb
 obtain⟨G,hG⟩:∃G:Int×Bool->(List Value×(Fr×Int))->Int×Bool,G=fun r z=>if z.2.1.number=m then (z.2.2,true) else r:=⟨_,rfl⟩
 have HG:=vQ hG
 clear hO hV hZ hb HS hzl hG
 go_wp2_with fail
 go_loopw [6,7,13] (fun v6 v7 v13 wr=>∃i:Nat,i<=Z.length∧v13=.int .i64 (i:Nat)∧v6=.int .i64 ((Z.take i).foldl G (0,false)).1∧v7=.bool ((Z.take i).foldl G (0,false)).2∧Hid (Below w1.1.size w1 wr)) (fun _ _ v13 _=>Z.length-(intOf v13).toNat)
 case atStart=>exact⟨0,by omega,rfl,rfl,rfl,vZ⟩
 case round=>
  obtain⟨i,hi,rfl,rfl,rfl,HB⟩:=hrel
  have hiI:(i:Int)<=1000001:=by omega
  obtain⟨N,hN⟩:∃N,N=(Z.take i).foldl G (0,false):=⟨_,rfl⟩
  rw[<-hN]
  obtain⟨n1,n2⟩:=N
  by_cases hlt:i<Z.length
  ·have f1:(i:Int)<(Z.length:Int):=by omega
   have hst:=cu G (0,false) Z i hlt
   rw[<-hN] at hst
   have hg:G (n1,n2) Z[i]=if Z[i].2.1.number=m then (Z[i].2.2,true) else (n1,n2):=by rw[HG.out]
   rw[hg] at hst
   obtain⟨b,o,sp,sc,bp,bc,ep,ec,rfl,d0,d1,d2,d3,d4,d5,d6,d7,d8,d9,d10,d11⟩:=jf (HO.out.on HB.out) HV.out i hlt
   generalize Z[i].2.1.kind=k0,Z[i].2.1.number=k1,Z[i].2.1.cols.length=k2,Z[i].2.1.seq=k3,Z[i].2.1.first=k4,Z[i].2.1.rows=k5,Z[i].2.1.block.length=k6,Z[i].2.1.index.at_=k7,Z[i].2.1.index.frames=k8,Z[i].2.1.index.rows=k9,Z[i].2.1.index.entries.length=k10,Z[i].2.2=k11 at d0 d1 d2 d3 d4 d5 d6 d7 d8 d9 d10 d11 hst
   have HSt:=vQ hst
   have HB2:Hid (∀o,Below w1.1.size w1 (wr.alloc o)):=fun o=>HB.out.alloc HB.out.size o
   clear hst hg hN HB
   by_cases hk:k1=m
   ·have f2:(k1==m)=true:=by rw[beq_iff_eq];exact hk
    have HS2:Hid ((Z.take (i+1)).foldl G (0,false)=(k11,true)):=by show _=_;rw[HSt.out,if_pos hk]
    clear HSt hk
    go_wp2
    go_roundw
    case rel=>exact⟨i+1,by omega,by go_num,by rw[HS2.out],by rw[HS2.out],HB2.out _⟩
    case measure=>simp[intOf];omega
   ·have f2:(k1==m)=false:=by rw[beq_eq_false_iff_ne];exact hk
    have HS2:Hid ((Z.take (i+1)).foldl G (0,false)=(n1,n2)):=by show _=_;rw[HSt.out,if_neg hk]
    clear HSt hk
    go_wp2
    go_roundw
    case rel=>exact⟨i+1,by omega,by go_num,by rw[HS2.out],by rw[HS2.out],HB2.out _⟩
    case measure=>simp[intOf];omega
  ·have f1:¬(i:Int)<(Z.length:Int):=by omega
   have HE:Hid ((n1,n2)=S.foldl (fun r q=>if q.1.number=m then (q.2,true) else r) (0,false)):=by
    show(n1,n2)=_
    rw[hN,List.take_of_length_le (by omega),<-HZ.out,List.foldl_map,HG.out]
   have HBf:=vQ (HB1.out.trans (HB.out.mono HB1.out.size))
   clear hN hlt
   go_wp2
   go_ret2
   exact⟨by rw[<-HE.out];rfl,HBf.out⟩
end
end
section
open Go.RowKit
theorem ip{A:Type}(p:A->Bool):∀(l:List A) (i:Nat) (hi:i<l.length),p l[i]=true->(∀k (hk:k<l.length),k<i->p l[k]=false)->l.find? p=some l[i]
 | [],i,hi,_,_=>by simp at hi
 |x::l,0,_,h,_=>by
  rw[List.find?_cons]
  have h':p x=true:=h
  rw[h']
  rfl
 |x::l,i+1,hi,h,hb=>by
  rw[List.find?_cons]
  have h0:p x=false:=hb 0 (by simp) (by omega)
  rw[h0]
  exact ip p l i (by simpa using hi) h (fun k hk hki=>hb (k+1) (by simpa using hk) (by omega))
theorem p9{w W:World}{B:Nat}{q:OA}{cap:Nat}{Z:List (List Value×(Fr×Int))}{G:World->Prop}(h:cO W B (.slice q Z.length cap) (Z.map (·.1)))(hw:G w)(hV:∀w',G w'->∀z∈Z,PlV w' z.1 z.2)(i:Nat)(hi:i<Z.length):
  ∃b o sp sc bp bc ep ec,q=some ⟨b,o,none⟩∧(∀w',G w'->Z[i].2.1.cols.length*120<=140737488351232∧Z[i].2.1.cols.length<=sc∧bg w' sp Z[i].2.1.cols)∧W.cell? ⟨b,o+i*12,none⟩=some (.int .i64 Z[i].2.1.kind)∧W.cell? ⟨b,o+i*12+1,none⟩=some (.int .i64 Z[i].2.1.number)∧W.cell? ⟨b,o+i*12+2,none⟩=some (.slice sp Z[i].2.1.cols.length sc)∧W.cell? ⟨b,o+i*12+3,none⟩=some (.int .i64 Z[i].2.1.seq)∧W.cell? ⟨b,o+i*12+4,none⟩=some (.int .i64 Z[i].2.1.first)∧W.cell? ⟨b,o+i*12+5,none⟩=some (.int .i64 Z[i].2.1.rows)∧W.cell? ⟨b,o+i*12+6,none⟩=some (.slice bp Z[i].2.1.block.length bc)∧W.cell? ⟨b,o+i*12+7,none⟩=some (.int .i64 Z[i].2.1.index.at_)∧W.cell? ⟨b,o+i*12+8,none⟩=some (.int .i64 Z[i].2.1.index.frames)∧W.cell? ⟨b,o+i*12+9,none⟩=some (.int .i64 Z[i].2.1.index.rows)∧W.cell? ⟨b,o+i*12+10,none⟩=some (.slice ep Z[i].2.1.index.entries.length ec)∧W.cell? ⟨b,o+i*12+11,none⟩=some (.int .i64 Z[i].2.2):=by
 obtain⟨p,c,hv,-,hl⟩:=h.lies
 injection hv with hp _ _
 subst hp
 obtain⟨b,o,rfl,hc⟩:=hl i (by rw[List.length_map];exact hi)
 rw[List.getElem_map] at hc
 obtain⟨sp,sc,bp,bc,ep,ec,-,hu⟩:=hV w hw Z[i] (List.getElem_mem hi)
 rw[hu] at hc
 refine⟨b,o,sp,sc,bp,bc,ep,ec,rfl,fun w' hw'=>?_,hc 0 (by omega),hc 1 (by omega),hc 2 (by omega),hc 3 (by omega),hc 4 (by omega),hc 5 (by omega),hc 6 (by omega),hc 7 (by omega),hc 8 (by omega),hc 9 (by omega),hc 10 (by omega),hc 11 (by omega)⟩
 obtain⟨sp2,sc2,bp2,bc2,ep2,ec2,hf,hu2⟩:=hV w' hw' Z[i] (List.getElem_mem hi)
 rw[hu] at hu2
 simp only[List.cons.injEq,Value.slice.injEq,and_true,true_and] at hu2
 obtain⟨⟨rfl,rfl⟩,-⟩:=hu2
 obtain⟨sp',sc',bp',bc',ep',ec',hcc,h1,h2,h3,-⟩:=hf.out
 unfold av at hcc
 simp only[Array.mk.injEq,List.cons.injEq,Value.slice.injEq,and_true,true_and] at hcc
 obtain⟨⟨rfl,rfl⟩,-⟩:=hcc
 exact⟨h1,h2,h3⟩
def rG(w':World)(o:Option (Fr×Int))(e:Ending):Prop:=match o with
 |some q=>∃sp sc,e=.returned (.tuple #[.agg #[.slice sp q.1.cols.length sc],.bool true])∧(q.1.cols.length*120<=140737488351232∧q.1.cols.length<=sc∧bg w' sp q.1.cols)
 |none=>e=.returned (.tuple #[.agg #[.slice none 0 0],.bool false])
section
variable {w w':World} {a:Nat} {x:Rw} {F:Nat->Prop}
theorem fU(h:aG w a x F)(hFa:¬F a)(m:Int):Calls Tryz.prog 41 #[.pointer (some ⟨a,0,none⟩),.int .i64 m] w fun e w'=>rG w' (x.schema m) e∧Below w.1.size w w':=by
 obtain⟨W0,hW0⟩:∃W0,W0=w.alloc (.cells #[.slice none 0 0] 30):=⟨_,rfl⟩
 have hb0:Below w.1.size w W0:=by rw[hW0];exact vY
 have hbk:W0.1[w.1.size]?=some (.cells #[.slice none 0 0] 30):=by rw[hW0];exact ag w _
 have h0:aG W0 a x (fun i=>i=w.1.size):=h.aside (F':=fun i=>i=w.1.size) (ae hb0 F) hFa (fun k hk=>.inr (by omega))
 have HS:=vQ (dE h0)
 have hal:=h.lt
 have hsz:x.schemas.length<=1000001:=by
  unfold Rw.schemas
  rw[List.length_append]
  have:=List.length_filter_le (fun q:Fr×Int=>decide (q.1.kind=1)) x.l
  have:=h.small.l
  have:=h.small.s0
  omega
 obtain⟨S,hS⟩:∃S,S=x.schemas:=⟨_,rfl⟩
 have HX:Hid (x.schema m=S.find? fun q=>decide (q.1.number=m)):=by show x.schema m=_;rw[hS];rfl
 rw[<-hS] at hsz HS
 rw[HX.out]
 have HB0:=vQ hb0
 have HBk:=vQ hbk
 have HW0:=vQ hW0.symm
 have hz0:W0.1.size=w.1.size+1:=by rw[hW0];simp
 clear h h0 hS HX hb0 hbk hW0
 go_enter Tryz.func41,Tryz.ntmps41
 go_wp2_with fail
 rw[HW0.out]
 refine HS.out.mono ?_
 rintro e w1 ⟨q,cap,Z,rfl,hO,hV,hZ,hb⟩
 have hzl:Z.length=S.length:=by rw[<-hZ,List.length_map]
 have hzl2:Z.length<=1000001:=by omega
 have HO:=vQ hO
 have HV:=vQ hV
 have HZ:=vQ hZ
 have HB1:=vQ hb
 have HBk1:=vQ ((hb.block _ (by omega)).trans HBk.out)
 have hz1:=hb.size
 clear hO hV hZ hb HS hzl HBk
 go_wp2_with fail
 go_loopw [11] (fun v11 wr=>∃i:Nat,i<=Z.length∧v11=.int .i64 (i:Nat)∧Hid (Below w1.1.size w1 wr∧∀k (hk:k<Z.length),k<i->decide (Z[k].2.1.number=m)=false)) (fun v11 _=>Z.length-(intOf v11).toNat)
 case atStart=>exact⟨0,by omega,rfl,vZ,fun k _ hk=>by omega⟩
 case round=>
  obtain⟨i,hi,rfl,HB⟩:=hrel
  have hiI:(i:Int)<=1000001:=by omega
  have hbk2:∀o,(wr.alloc o).1[w.1.size]?=some (.cells #[.slice none 0 0] 30):=fun o=>(aD wr o (by have:=HB.out.1.size;omega)).trans ((HB.out.1.block _ (by omega)).trans HBk1.out)
  by_cases hlt:i<Z.length
  ·have f1:(i:Int)<(Z.length:Int):=by omega
   obtain⟨b,o,sp,sc,bp,bc,ep,ec,rfl,hcol,d0,d1,d2,d3,d4,d5,d6,d7,d8,d9,d10,d11⟩:=p9 (G:=fun w''=>Aside (fun i=>i=a∨i=w.1.size) W0 w'') (HO.out.on HB.out.1) (Aside.refl _ _) HV.out i hlt
   have HFi:Hid (Z[i].2.1.number=m->S.find? (fun q=>decide (q.1.number=m))=some Z[i].2):=fun he=>by
    have e1:S.find? (fun q=>decide (q.1.number=m))=(Z.find? (fun z=>decide (z.2.1.number=m))).map (·.2):=by rw[<-HZ.out,List.find?_map];rfl
    rw[e1,ip _ Z i hlt (decide_eq_true he) HB.out.2]
    rfl
   have HCol:=vQ hcol
   have HNx:Hid (¬Z[i].2.1.number=m->∀k (hk:k<Z.length),k<i+1->decide (Z[k].2.1.number=m)=false):=fun he k hk hki=>by
    rcases Nat.lt_or_ge k i with h1 | h1
    ·exact HB.out.2 k hk h1
    ·obtain rfl:k=i:=by omega
     exact decide_eq_false he
   obtain⟨zz,hzz⟩:∃zz,zz=Z[i].2:=⟨_,rfl⟩
   rw[<-hzz] at d0 d1 d2 d3 d4 d5 d6 d7 d8 d9 d10 d11 HFi HCol HNx
   have HB2:Hid (∀o,Below w.1.size w (wr.alloc o)):=fun o=>(HB0.out.trans ((HB1.out.trans (HB.out.1.mono HB1.out.size)).mono HB0.out.size)).alloc (by have:=HB.out.1.size;omega) o
   have HB3:Hid (∀o,Below w1.1.size w1 (wr.alloc o)):=fun o=>HB.out.1.alloc HB.out.1.size o
   have HB4:Hid (Below W0.1.size W0 wr):=HB1.out.trans (HB.out.1.mono HB1.out.size)
   have HBk2:=vQ hbk2
   have y0:∀o,(wr.alloc o).cell? ⟨w.1.size,0,none⟩=some (.slice none 0 0):=fun o=>aa (hbk2 o) 0
   have y1:∀o,(wr.alloc o).frozen? ⟨w.1.size,0,none⟩=false:=fun o=>ac (hbk2 o) 0
   have hz2:=HB.out.1.size
   obtain⟨k1,hk1⟩:∃k1,k1=zz.1.number:=⟨_,rfl⟩
   rw[<-hk1] at d1 HFi HNx
   obtain⟨nn,hnn⟩:∃nn,nn=zz.1.cols.length:=⟨_,rfl⟩
   rw[<-hnn] at d2 HCol
   have HNn:=vQ hnn
   clear hcol hzz hbk2 HB hk1 hnn
   by_cases hk:k1=m
   ·have f2:(k1==m)=true:=by rw[beq_iff_eq];exact hk
    have HE:=vQ (HFi.out hk)
    have HCl:Hid (∀o,zz.1.cols.length*120<=140737488351232∧zz.1.cols.length<=sc∧bg ((wr.alloc o).setCell ⟨w.1.size,0,none⟩ (.slice sp nn sc)) sp zz.1.cols):=fun o=>by
     have h1:=HCol.out _ (((ae HB4.out (fun i=>i=a∨i=w.1.size)).alloc o).setCell (p:=⟨w.1.size,0,none⟩) (.inl (.inr rfl)) (.slice sp nn sc))
     have e:=HNn.out
     exact⟨by rw[<-e];exact h1.1,by rw[<-e];exact h1.2.1,h1.2.2⟩
    have HBf:Hid (∀o,((wr.alloc o).setCell ⟨w.1.size,0,none⟩ (.slice sp nn sc)).1[w.1.size]?=some (.cells #[.slice sp nn sc] 30)):=fun o=>by
     show _=_
     simp only[World.setCell,Array.getElem?_modify,HBk2.out o,if_true,Option.map_some]
     rfl
    have HB5:Hid (∀o,Below w.1.size w ((wr.alloc o).setCell ⟨w.1.size,0,none⟩ (.slice sp nn sc))):=fun o=>(HB2.out o).setCell vX _
    clear HFi HNx hk
    go_wp2
    refine bodyPost_ret (cU rfl _ _ w.1.size _ _ _ _ rfl (HBf.out _) Tryz.underlying30 rfl (by kernel_rfl)) rfl ?_
    rw[HE.out]
    have e0:=HNn.out
    subst e0
    exact⟨⟨sp,sc,rfl,HCl.out _⟩,HB5.out _⟩
   ·have f2:(k1==m)=false:=by rw[beq_eq_false_iff_ne];exact hk
    have HN2:=vQ (HNx.out hk)
    clear HFi HNx hk
    go_wp2
    go_roundw
    case rel=>exact⟨i+1,by omega,by go_num,HB3.out _,HN2.out⟩
    case measure=>simp[intOf];omega
  ·have f1:¬(i:Int)<(Z.length:Int):=by omega
   have HE:Hid (S.find? (fun q=>decide (q.1.number=m))=none):=by
    show _=_
    rw[List.find?_eq_none]
    intro t ht
    rw[<-HZ.out] at ht
    obtain⟨zt,hzt,rfl⟩:=List.mem_map.1 ht
    obtain⟨k,hk,rfl⟩:=List.mem_iff_getElem.1 hzt
    rw[HB.out.2 k hk (by omega)]
    simp
   have hbk3:=(HB.out.1.block _ (by omega)).trans HBk1.out
   have y0:wr.cell? ⟨w.1.size,0,none⟩=some (.slice none 0 0):=aa hbk3 0
   have y1:wr.frozen? ⟨w.1.size,0,none⟩=false:=ac hbk3 0
   have HBf:Hid ((wr.setCell ⟨w.1.size,0,none⟩ (.slice none 0 0)).1[w.1.size]?=some (.cells #[.slice none 0 0] 30)):=by
    show _=_
    simp only[World.setCell,Array.getElem?_modify,hbk3,if_true,Option.map_some]
    rfl
   have HB5:Hid (Below w.1.size w (wr.setCell ⟨w.1.size,0,none⟩ (.slice none 0 0))):=(HB0.out.trans ((HB1.out.trans (HB.out.1.mono HB1.out.size)).mono HB0.out.size)).setCell vX _
   clear hbk2 hbk3 HB
   go_wp2
   refine bodyPost_ret (cU rfl _ _ w.1.size _ _ _ _ rfl HBf.out Tryz.underlying30 rfl (by kernel_rfl)) rfl ?_
   rw[HE.out]
   exact⟨rfl,HB5.out⟩
end
end
section
open Go.RowKit
structure EnB(x:Rw)(i:Nat)(R:Rw.En):Prop where
 frames:0<=R.frames∧R.frames<=70368744177664+i
 rows:0<=R.rows∧R.rows<=1099511627776+64*i
 out:R.out.length<=x.e0.length∨R.out.length<=64
theorem qY{x:Rw}{i:Nat}{R:Rw.En}(h:EnB x i R)(q:Fr×Int)(hq:q.1.kind=2->0<=q.1.rows∧q.1.rows<=64):EnB x (i+1) (Rw.enter R q):=by
 have h1:=h.frames
 have h2:=h.rows
 unfold Rw.enter
 split
 ·exact⟨by show 0<=R.frames∧R.frames<=_;omega,by show 0<=R.rows∧R.rows<=_;omega,h.out⟩
 ·split
  ·next hk=>
   have h3:=hq hk
   refine⟨by show 0<=R.frames+1∧R.frames+1<=_;omega,by show 0<=R.rows+q.1.rows∧R.rows+q.1.rows<=_;omega,?_⟩
   show(if R.frames % 4=0∧R.out.length<64 then R.out++[⟨q.2,R.rows,R.last⟩] else R.out).length<=_∨_
   split
   ·next hc=>right;rw[List.length_append,List.length_singleton];omega
   ·exact h.out
  ·exact⟨by omega,by omega,h.out⟩
section
variable {w w':World} {a:Nat} {x:Rw} {F:Nat->Prop}
theorem fb(h:aG w a x F):Calls Tryz.prog 40 #[.pointer (some ⟨a,0,none⟩)] w fun e w'=>∃q cap,e=.returned (.slice q x.entries.length cap)∧bf w' w.1.size (.slice q x.entries.length cap) x.entries∧Below w.1.size w w':=by
  obtain⟨lp,lc,ep,ec,sp,sc,h1,h2,h3⟩:=h.old
  have c0:w.cell? ⟨a,0,none⟩=some (.slice lp x.l.length lc):=aa h1 0
  have c1:w.cell? ⟨a,1,none⟩=some (.int .i64 x.f0):=aa h1 1
  have c2:w.cell? ⟨a,2,none⟩=some (.int .i64 x.r0):=aa h1 2
  have c3:w.cell? ⟨a,3,none⟩=some (.slice ep x.e0.length ec):=aa h1 3
  have c4:w.cell? ⟨a,4,none⟩=some (.slice sp x.s0.length sc):=aa h1 4
  obtain⟨hPl,hEn,hPs⟩:=h2 w (Aside.refl _ _)
  have hs:=h.small
  obtain⟨f0,hf0⟩:∃f0,f0=x.f0:=⟨_,rfl⟩
  obtain⟨r0,hr0⟩:∃r0,r0=x.r0:=⟨_,rfl⟩
  obtain⟨l,hl⟩:∃l,l=x.l:=⟨_,rfl⟩
  obtain⟨s0,hs0⟩:∃s0,s0=x.s0:=⟨_,rfl⟩
  obtain⟨e0,he0⟩:∃e0,e0=x.e0:=⟨_,rfl⟩
  have HX:Hid (x.entries=(l.foldl Rw.enter ⟨e0,f0,r0,s0.foldl (fun _ q=>q.2) 0⟩).out):=by show x.entries=_;rw[hl,hf0,hr0,hs0,he0];rfl
  have hf1:=hs.f0
  have hr1:=hs.r0
  have hl1:=hs.l
  have hs1:=hs.s0
  have HRw:Hid (∀q∈l,q.1.kind=2->0<=q.1.rows∧q.1.rows<=64):=by rw[hl];exact hs.rows
  rw[<-hf0] at c1 hf1
  rw[<-hr0] at c2 hr1
  rw[<-hl] at c0 hPl hl1
  rw[<-hs0] at c4 hPs hs1
  have HE0:Hid (e0=x.e0):=he0
  rw[<-he0] at c3 hEn h3
  have HPl:=vQ hPl
  have HPs:=vQ hPs
  have HEn:=vQ hEn
  obtain⟨T,hT⟩:∃T,T=x.entries:=⟨_,rfl⟩
  rw[<-hT] at HX ⊢
  clear h h1 h2 hs hf0 hr0 hl hs0 he0 hPl hPs hEn hT
  go_enter Tryz.func40,Tryz.ntmps40
  go_wp2_with (first
    | (at_builtin
       refine gI (xs:=[]) (B:=w.1.size) (dx w w.1.size) HEn.out (by simp;omega) vX rfl rfl rfl rfl rfl ?_
       intro ys q0 cap0 W0 HY hh ha hk2
       have HP0:=vQ hh
       have hB0:Below w.1.size w W0:=ha.below vX (fun i hi hc=>by simp[Value.ownBlock] at hc)
       have z0:=ab hB0 c0
       have z1:=ab hB0 c1
       have z2:=ab hB0 c2
       have z4:=ab hB0 c4
       have HB0:=vQ hB0
       clear hh ha hk2 hB0)
    |fail)
  have hy:ys=e0:=HY.out
  rw[hy] at HP0 ⊢
  clear hy HY c0 c1 c2 c3 c4
  go_loopw [6,29] (fun v6 v29 wr=>∃i:Nat,i<=s0.length∧v29=.int .i64 (i:Nat)∧v6=.int .i64 ((s0.take i).foldl (fun _ q=>q.2) 0)∧Hid (Below W0.1.size W0 wr)) (fun _ v29 _=>s0.length-(intOf v29).toNat)
  case atStart=>exact⟨0,by omega,rfl,rfl,vZ⟩
  case round=>
    obtain⟨i,hi,rfl,rfl,HB⟩:=hrel
    have hiI:(i:Int)<=1:=by omega
    obtain⟨N,hN⟩:∃N,N=(s0.take i).foldl (fun(_:Int) (q:Fr×Int)=>q.2) 0:=⟨_,rfl⟩
    rw[<-hN]
    by_cases hlt:i<s0.length
    · have f1:(i:Int)<(s0.length:Int):=by omega
      have hst:=cu (fun(_:Int) (q:Fr×Int)=>q.2) 0 s0 i hlt
      have hBw:Below w.1.size w wr:=HB0.out.trans (HB.out.mono HB0.out.size)
      obtain⟨b,o,rfl,hA⟩:=HPs.out i hlt
      obtain⟨sp2,sc2,bp,bc,ep2,ec2,-,d0,d1,d2,d3,d4,d5,d6,d7,d8,d9,d10,d11⟩:=(hA.on hBw).out
      generalize s0[i].1.kind=k0,s0[i].1.number=k1,s0[i].1.cols.length=k2,s0[i].1.seq=k3,s0[i].1.first=k4,s0[i].1.rows=k5,s0[i].1.block.length=k6,s0[i].1.index.at_=k7,s0[i].1.index.frames=k8,s0[i].1.index.rows=k9,s0[i].1.index.entries.length=k10,s0[i].2=k11 at d0 d1 d2 d3 d4 d5 d6 d7 d8 d9 d10 d11 hst
      have HSt:=vQ hst
      have HB2:Hid (∀o,Below W0.1.size W0 (wr.alloc o)):=fun o=>HB.out.alloc HB.out.size o
      clear hst hA hN HB hBw
      go_wp2
      go_roundw
      case rel=>exact⟨i+1,by omega,by go_num,by rw[HSt.out],HB2.out _⟩
      case measure=>simp[intOf];omega
    · have f1:¬(i:Int)<(s0.length:Int):=by omega
      have HN:Hid (N=s0.foldl (fun _ q=>q.2) 0):=by show N=_;rw[hN,List.take_of_length_le (by omega)]
      have y0:=ab HB.out z0
      have hEB:EnB x 0 ⟨e0,f0,r0,N⟩:=⟨by show 0<=f0∧f0<=_;omega,by show 0<=r0∧r0<=_;omega,.inl (by show e0.length<=_;rw[HE0.out];exact vX)⟩
      have HEB:=vQ hEB
      have hBw:Below w.1.size w wr:=HB0.out.trans (HB.out.mono HB0.out.size)
      have HBw:=vQ hBw
      have HO1:=vQ (HP0.out.on HB.out)
      have hxe:x.e0.length*24<=140737488351232:=by rw[<-HE0.out];exact h3
      obtain⟨E,hE⟩:∃E:Rw.En,E=⟨e0,f0,r0,N⟩:=⟨_,rfl⟩
      have HEE:=vQ hE
      clear hN hlt hEB hBw HB z0 z1 z2 z4 hE
      go_wp2_with fail
      go_loopw [3,4,5,6,41] (fun v3 v4 v5 v6 v41 wq=>∃(i:Nat) (R:Rw.En) (q:OA) (cap:Nat),i<=l.length∧v41=.int .i64 (i:Nat)∧v3=.slice q R.out.length cap∧v4=.int .i64 R.frames∧v5=.int .i64 R.rows∧v6=.int .i64 R.last∧Hid (R=(l.take i).foldl Rw.enter E∧EnB x i R)∧Hid (bf wq w.1.size (.slice q R.out.length cap) R.out)∧Hid (Below w.1.size w wq)) (fun _ _ _ _ v41 _=>l.length-(intOf v41).toNat)
      case atStart=>exact⟨0,⟨e0,f0,r0,N⟩,q0,cap0,by omega,rfl,rfl,rfl,rfl,rfl,⟨by rw[HEE.out];rfl,HEB.out⟩,HO1,HBw⟩
      case round=>
        obtain⟨i2,R,q,cap,hi2,rfl,rfl,rfl,rfl,rfl,HR,HO,HB⟩:=hrel
        have hiI2:(i2:Int)<=1000000:=by omega
        obtain⟨out,fr,ro,la⟩:=R
        have hb1:0<=fr∧fr<=70368744177664+i2:=HR.out.2.frames
        have hb2:0<=ro∧ro<=1099511627776+64*i2:=HR.out.2.rows
        have hb3:out.length<=x.e0.length∨out.length<=64:=HR.out.2.out
        have hfrI:fr<=72057594037927936:=by omega
        have hroI:ro<=72057594037927936:=by omega
        have hfr0:0<=fr:=hb1.1
        have hro0:0<=ro:=hb2.1
        have hoI:(out.length:Int)<=140737488351232:=by omega
        dsimp only
        by_cases hlt:i2<l.length
        · have f1b:(i2:Int)<(l.length:Int):=by omega
          have hst:=cu Rw.enter E l i2 hlt
          rw[<-HR.out.1] at hst
          have hEB2:=qY HR.out.2 l[i2] (HRw.out l[i2] (List.getElem_mem hlt))
          have hrw:=HRw.out l[i2] (List.getElem_mem hlt)
          obtain⟨b,o,rfl,hA⟩:=HPl.out i2 hlt
          obtain⟨sp2,sc2,bp,bc,ep2,ec2,-,d0,d1,d2,d3,d4,d5,d6,d7,d8,d9,d10,d11⟩:=(hA.on HB.out).out
          have hen:Rw.enter ⟨out,fr,ro,la⟩ l[i2]=if l[i2].1.kind=1 then ⟨out,fr,ro,l[i2].2⟩ else if l[i2].1.kind=2 then ⟨if fr % 4=0∧out.length<64 then out++[⟨l[i2].2,ro,la⟩] else out,fr+1,ro+l[i2].1.rows,la⟩ else ⟨out,fr,ro,la⟩:=rfl
          rw[hen] at hst hEB2
          generalize l[i2].1.kind=k0,l[i2].1.number=k1,l[i2].1.cols.length=k2,l[i2].1.seq=k3,l[i2].1.first=k4,l[i2].1.rows=k5,l[i2].1.block.length=k6,l[i2].1.index.at_=k7,l[i2].1.index.frames=k8,l[i2].1.index.rows=k9,l[i2].1.index.entries.length=k10,l[i2].2=k11 at d0 d1 d2 d3 d4 d5 d6 d7 d8 d9 d10 d11 hst hEB2 hrw
          have HSt:=vQ hst
          have HEB2:=vQ hEB2
          have HB2:Hid (∀o,Below w.1.size w (wr.alloc o)):=fun o=>HB.out.alloc HB.out.size o
          have HOl:Hid (∀k,(Value.slice q out.length cap).ownBlock=some k->w.1.size<=k∧k<wr.1.size):=HO.out.lt
          have HO2:Hid (∀o,bf (wr.alloc o) w.1.size (.slice q out.length cap) out):=fun o=>HO.out.on (vZ.alloc vX o)
          clear hst hA hen hEB2 HR HO HB
          by_cases hk:k0=1
          · have f2:(k0==1)=true:=by rw[beq_iff_eq];exact hk
            have HS2:Hid ((l.take (i2+1)).foldl Rw.enter E=⟨out,fr,ro,k11⟩):=by show _=_;rw[HSt.out,if_pos hk]
            have HE2:Hid (EnB x (i2+1) ⟨out,fr,ro,k11⟩):=by have:=HEB2.out;rw[if_pos hk] at this;exact this
            clear HSt HEB2 hk
            go_wp2
            go_roundw
            case rel=>exact⟨i2+1,⟨out,fr,ro,k11⟩,q,cap,by omega,by go_num,rfl,rfl,rfl,rfl,⟨HS2.out.symm,HE2.out⟩,HO2.out _,HB2.out _⟩
            case measure=>simp[intOf];omega
          · have f2:(k0==1)=false:=by rw[beq_eq_false_iff_ne];exact hk
            by_cases hk2:k0=2
            · have f3:(k0==2)=true:=by rw[beq_iff_eq];exact hk2
              obtain⟨hk5a,hk5b⟩:=hrw hk2
              have hst3:(l.take (i2+1)).foldl Rw.enter E=⟨if fr % 4=0∧out.length<64 then out++[⟨k11,ro,la⟩] else out,fr+1,ro+k5,la⟩:=by rw[HSt.out,if_neg hk,if_pos hk2]
              have hEB3:EnB x (i2+1) ⟨if fr % 4=0∧out.length<64 then out++[⟨k11,ro,la⟩] else out,fr+1,ro+k5,la⟩:=by have:=HEB2.out;rw[if_neg hk,if_pos hk2] at this;exact this
              by_cases hc:fr % 4=0∧out.length<64
              · have f4:(fr.tmod 4==0)=true:=by rw[beq_iff_eq,Int.tmod_eq_emod_of_nonneg hfr0];exact hc.1
                have f5:(out.length:Int)<64:=by omega
                have f5':decide ((out.length:Int)<64)=true:=decide_eq_true f5
                rw[if_pos hc] at hst3 hEB3
                have f6:decide (out.length<64)=true:=decide_eq_true hc.2
                have f4e:(fr % 4==0)=true:=by rw[beq_iff_eq];exact hc.1
                have HS2:=vQ hst3
                have HE2:=vQ hEB3
                obtain⟨WP,hWP⟩:∃WP,WP=wr.alloc (.cells #[.int .i64 k0,.int .i64 k1,.slice sp2 k2 sc2,.int .i64 k3,.int .i64 k4,.int .i64 k5,.slice bp k6 bc,.int .i64 k7,.int .i64 k8,.int .i64 k9,.slice ep2 k10 ec2,.int .i64 k11] 76):=⟨_,rfl⟩
                obtain⟨WA,hWA⟩:∃WA,WA=WP.alloc (.cells #[.int .i64 k11,.int .i64 ro,.int .i64 la] 64):=⟨_,rfl⟩
                have hzP:WP.1.size=wr.1.size+1:=by rw[hWP];simp
                have hbP:Below wr.1.size wr WP:=by rw[hWP];exact vY
                have hbA:Below WP.1.size WP WA:=by rw[hWA];exact vY
                have hkP:WP.1[wr.1.size]?=some (.cells #[.int .i64 k0,.int .i64 k1,.slice sp2 k2 sc2,.int .i64 k3,.int .i64 k4,.int .i64 k5,.slice bp k6 bc,.int .i64 k7,.int .i64 k8,.int .i64 k9,.slice ep2 k10 ec2,.int .i64 k11] 76):=by rw[hWP];exact ag wr _
                have hkA:WA.1[WP.1.size]?=some (.cells #[.int .i64 k11,.int .i64 ro,.int .i64 la] 64):=by rw[hWA];exact ag WP _
                have HWA:Hid ((wr.alloc (.cells #[.int .i64 k0,.int .i64 k1,.slice sp2 k2 sc2,.int .i64 k3,.int .i64 k4,.int .i64 k5,.slice bp k6 bc,.int .i64 k7,.int .i64 k8,.int .i64 k9,.slice ep2 k10 ec2,.int .i64 k11] 76)).alloc (.cells #[.int .i64 k11,.int .i64 ro,.int .i64 la] 64)=WA):=by rw[hWA,hWP];exact rfl
                have HEA:Hid (cQ WA (some ⟨wr.1.size+1,0,none⟩) [⟨k11,ro,la⟩]):=fun j hj=>by
                  obtain rfl:j=0:=by simpa using hj
                  rw[<-hzP]
                  exact⟨WP.1.size,0,rfl,aw hkA,aa hkA 0,aa hkA 1,aa hkA 2⟩
                have HOA:Hid (bf WA w.1.size (.slice q out.length cap) out):=by
                  have h5:=HO2.out (.cells #[.int .i64 k0,.int .i64 k1,.slice sp2 k2 sc2,.int .i64 k3,.int .i64 k4,.int .i64 k5,.slice bp k6 bc,.int .i64 k7,.int .i64 k8,.int .i64 k9,.slice ep2 k10 ec2,.int .i64 k11] 76)
                  rw[<-hWP] at h5
                  exact h5.on hbA
                have HBA:Hid (Below w.1.size w WA):=by
                  have h5:=HB2.out (.cells #[.int .i64 k0,.int .i64 k1,.slice sp2 k2 sc2,.int .i64 k3,.int .i64 k4,.int .i64 k5,.slice bp k6 bc,.int .i64 k7,.int .i64 k8,.int .i64 k9,.slice ep2 k10 ec2,.int .i64 k11] 76)
                  rw[<-hWP] at h5
                  exact h5.trans (hbA.mono h5.size)
                have HkA:Hid (WA.1[wr.1.size]?=some (.cells #[.int .i64 k0,.int .i64 k1,.slice sp2 k2 sc2,.int .i64 k3,.int .i64 k4,.int .i64 k5,.slice bp k6 bc,.int .i64 k7,.int .i64 k8,.int .i64 k9,.slice ep2 k10 ec2,.int .i64 k11] 76)):=(hbA.block _ (by omega)).trans hkP
                have HSz:Hid (w.1.size<=WA.1.size):=HBA.out.size
                have hlen:(out.length+1)*24<=140737488355328:=by omega
                clear HSt HEB2 hk hk2 hc hst3 hEB3 hrw hb3 hWP hWA hzP hbP hbA hkP hkA
                go_wp2_with (first
                  | (at_builtin
                     rw[HWA.out]
                     refine gI HOA.out HEA.out (by simpa using hlen) HSz.out rfl rfl rfl rfl rfl ?_
                     intro ys2 q2 cap2 W2 HY2 hh ha hk2
                     have HP2:=vQ hh
                     have HB3:Hid (Below w.1.size w W2):=HBA.out.trans (ha.below HBA.out.size (fun k hk hc=>by have:=(HOl.out k hc).1;omega))
                     have hkW:=(ha.block _ (aw HkA.out) (fun hc=>by have:=(HOl.out _ hc).2;omega)).trans HkA.out
                     have t5:W2.cell? ⟨wr.1.size,5,none⟩=some (.int .i64 k5):=aa hkW 5
                     clear hh ha hk2 hkW)
                  |fail)
                have hys:ys2=out++[⟨k11,ro,la⟩]:=HY2.out
                have HYs:=vQ hys
                have HRl:Hid (∃(i:Nat) (R:Rw.En) (q':OA) (cap':Nat),i<=l.length∧Value.int .i64 ((i2:Int)+1)=.int .i64 (i:Nat)∧Value.slice q2 ys2.length cap2=.slice q' R.out.length cap'∧Value.int .i64 (fr+1)=.int .i64 R.frames∧Value.int .i64 (ro+k5)=.int .i64 R.rows∧Value.int .i64 la=.int .i64 R.last∧Hid (R=(l.take i).foldl Rw.enter E∧EnB x i R)∧Hid (bf W2 w.1.size (.slice q' R.out.length cap') R.out)∧Hid (Below w.1.size w W2)):=⟨i2+1,⟨ys2,fr+1,ro+k5,la⟩,q2,cap2,by omega,by go_num,rfl,rfl,rfl,rfl,⟨by rw[hys];exact HS2.out.symm,by rw[hys];exact HE2.out⟩,HP2.out,HB3.out⟩
                clear hys HY2 HP2 HB3
                go_roundw
                case rel=>exact HRl.out
                case measure=>simp[intOf];omega
              · rw[if_neg hc] at hst3 hEB3
                have HS2:=vQ hst3
                have HE2:=vQ hEB3
                have HRel:Hid (∀wx,(∃o,wx=wr.alloc o)->∃(i:Nat) (R:Rw.En) (q':OA) (cap':Nat),i<=l.length∧Value.int .i64 ((i2:Int)+1)=.int .i64 (i:Nat)∧Value.slice q out.length cap=.slice q' R.out.length cap'∧Value.int .i64 (fr+1)=.int .i64 R.frames∧Value.int .i64 (ro+k5)=.int .i64 R.rows∧Value.int .i64 la=.int .i64 R.last∧Hid (R=(l.take i).foldl Rw.enter E∧EnB x i R)∧Hid (bf wx w.1.size (.slice q' R.out.length cap') R.out)∧Hid (Below w.1.size w wx)):=fun wx ⟨o,ho⟩=>⟨i2+1,⟨out,fr+1,ro+k5,la⟩,q,cap,by omega,by go_num,rfl,rfl,rfl,rfl,⟨HS2.out.symm,HE2.out⟩,by rw[ho];exact HO2.out o,by rw[ho];exact HB2.out o⟩
                by_cases hc4:fr % 4=0
                · have f4:(fr.tmod 4==0)=true:=by rw[beq_iff_eq,Int.tmod_eq_emod_of_nonneg hfr0];exact hc4
                  have f5:¬(out.length:Int)<64:=fun h=>hc ⟨hc4,by omega⟩
                  have f5':decide ((out.length:Int)<64)=false:=decide_eq_false f5
                  have f6:decide (out.length<64)=false:=decide_eq_false (by omega)
                  have f4e:(fr % 4==0)=true:=by rw[beq_iff_eq];exact hc4
                  clear HSt HEB2 hk hk2 hc hc4 hst3 hEB3 hrw hb3
                  go_wp2
                  go_roundw
                  case rel=>exact HRel.out _ ⟨_,rfl⟩
                  case measure=>simp[intOf];omega
                · have f4:(fr.tmod 4==0)=false:=by rw[beq_eq_false_iff_ne,Int.tmod_eq_emod_of_nonneg hfr0];exact hc4
                  have f4e:(fr % 4==0)=false:=by rw[beq_eq_false_iff_ne];exact hc4
                  have f4d:¬fr.tmod 4=0:=by rw[Int.tmod_eq_emod_of_nonneg hfr0];exact hc4
                  clear HSt HEB2 hk hk2 hc hc4 hst3 hEB3 hrw hb3
                  go_wp2
                  go_roundw
                  case rel=>exact HRel.out _ ⟨_,rfl⟩
                  case measure=>simp[intOf];omega
            · have f3:(k0==2)=false:=by rw[beq_eq_false_iff_ne];exact hk2
              have HS2:Hid ((l.take (i2+1)).foldl Rw.enter E=⟨out,fr,ro,la⟩):=by show _=_;rw[HSt.out,if_neg hk,if_neg hk2]
              have HE2:Hid (EnB x (i2+1) ⟨out,fr,ro,la⟩):=by have:=HEB2.out;rw[if_neg hk,if_neg hk2] at this;exact this
              clear HSt HEB2 hk hk2 hrw
              go_wp2
              go_roundw
              case rel=>exact⟨i2+1,⟨out,fr,ro,la⟩,q,cap,by omega,by go_num,rfl,rfl,rfl,rfl,⟨HS2.out.symm,HE2.out⟩,HO2.out _,HB2.out _⟩
              case measure=>simp[intOf];omega
        · have f1b:¬(i2:Int)<(l.length:Int):=by omega
          have HE:Hid (out=T):=by
            show out=T
            have h5:=HR.out.1
            rw[List.take_of_length_le (by omega),HEE.out,HN.out] at h5
            rw[HX.out,<-h5]
          clear HR hlt hb3
          go_wp2
          go_ret
          rw[<-HE.out]
          exact⟨q,cap,rfl,HO.out,HB.out⟩
end
end
section
open Go.RowKit
section
variable {w w':World} {a:Nat} {x:Rw} {F:Nat->Prop}
theorem g9(h:aG w a x F)(hFa:¬F a)(hn:-1<=x.number∧x.number<2147483648)(f:Fr)(hk:f.kind=1)(u:AV)(hf:aB w u f)(p:Int):
  Calls Tryz.prog 32 #[.pointer (some ⟨a,0,none⟩),.agg u,.int .i64 p] w fun e w'=>e=.returned (.bool (x.follows f p))∧Below w.1.size w w':=by
 obtain⟨sp,sc,bp,bc,ep,ec,rfl,hf1,hf2,hf3,-⟩:=hf.out
 unfold av
 have HX:Hid (x.follows f p=if f.number=x.number+1 then true else match x.schema f.number with
  |some q=>decide (f.number=x.number)&&Sch.same q.1.cols f.cols
  |none=>false):=by show x.follows f p=_;unfold Rw.follows;rw[if_pos hk];rfl
 obtain⟨W0,hW0⟩:∃W0,W0=w.alloc (.cells #[.int .i64 f.kind,.int .i64 f.number,.slice sp f.cols.length sc,.int .i64 f.seq,.int .i64 f.first,.int .i64 f.rows,.slice bp f.block.length bc,.int .i64 f.index.at_,.int .i64 f.index.frames,.int .i64 f.index.rows,.slice ep f.index.entries.length ec] 36):=⟨_,rfl⟩
 have hb0:Below w.1.size w W0:=by rw[hW0];exact vY
 have hbk:W0.1[w.1.size]?=some (.cells #[.int .i64 f.kind,.int .i64 f.number,.slice sp f.cols.length sc,.int .i64 f.seq,.int .i64 f.first,.int .i64 f.rows,.slice bp f.block.length bc,.int .i64 f.index.at_,.int .i64 f.index.frames,.int .i64 f.index.rows,.slice ep f.index.entries.length ec] 36 (0,0)):=by rw[hW0];exact ag w _
 have h0:=h.on hb0 hFa
 have HN:=vQ (cI h0)
 have H0:=vQ h0
 have HC:=vQ (hf3.on hb0)
 obtain⟨N,hN⟩:∃N,N=x.number:=⟨_,rfl⟩
 rw[<-hN] at HN HX hn
 rw[hk] at hW0 hbk
 obtain⟨b1,hb1⟩:∃y,y=f.number:=⟨_,rfl⟩
 obtain⟨b2,hbb2⟩:∃y,y=f.cols.length:=⟨_,rfl⟩
 obtain⟨b3,hb3⟩:∃y,y=f.seq:=⟨_,rfl⟩
 obtain⟨b4,hb4⟩:∃y,y=f.first:=⟨_,rfl⟩
 obtain⟨b5,hb5⟩:∃y,y=f.rows:=⟨_,rfl⟩
 obtain⟨b6,hb6⟩:∃y,y=f.block.length:=⟨_,rfl⟩
 obtain⟨b7,hb7⟩:∃y,y=f.index.at_:=⟨_,rfl⟩
 obtain⟨b8,hb8⟩:∃y,y=f.index.frames:=⟨_,rfl⟩
 obtain⟨b9,hb9⟩:∃y,y=f.index.rows:=⟨_,rfl⟩
 obtain⟨b10,hb10⟩:∃y,y=f.index.entries.length:=⟨_,rfl⟩
 rw[<-hb1,<-hbb2,<-hb3,<-hb4,<-hb5,<-hb6,<-hb7,<-hb8,<-hb9,<-hb10] at hW0 hbk
 rw[hk,<-hb1,<-hbb2,<-hb3,<-hb4,<-hb5,<-hb6,<-hb7,<-hb8,<-hb9,<-hb10]
 rw[<-hb1] at HX
 rw[<-hbb2] at hf1 hf2
 have HL:=vQ hbb2
 have HW0:=vQ hW0.symm
 have HB0:=vQ hb0
 have HBk:=vQ hbk
 have hz0:W0.1.size=w.1.size+1:=by rw[hW0];simp
 obtain⟨r,hr⟩:∃r,r=x.follows f p:=⟨_,rfl⟩
 rw[<-hr] at HX ⊢
 clear h h0 hf hf3 hN hb0 hbk hW0 hb1 hbb2 hb3 hb4 hb5 hb6 hb7 hb8 hb9 hb10 hk hr
 go_enter Tryz.func32,Tryz.ntmps32
 go_wp2_with fail
 rw[HW0.out]
 refine HN.out.mono ?_
 rintro e w1 ⟨rfl,hb1⟩
 have HB1:=vQ hb1
 have hbk1:=(hb1.block _ (by omega)).trans HBk.out
 obtain⟨x0,x1,x2,x3,x4,x5,x6,x7,x8,x9,x10⟩:=aO hbk1
 have HBk1:=vQ hbk1
 have hz1:=hb1.size
 clear hb1 hbk1 HN HBk
 by_cases hA:b1=N+1
 ·have g1:(b1==N+1)=true:=by rw[beq_iff_eq];exact hA
  have HR:Hid (r=true):=by show r=true;rw[HX.out,if_pos hA]
  have HBf:=vQ (HB0.out.trans (HB1.out.mono HB0.out.size))
  clear hA HX
  go_wp2
  go_ret
  exact⟨by rw[HR.out];rfl,HBf.out⟩
 ·have g1:(b1==N+1)=false:=by rw[beq_eq_false_iff_ne];exact hA
  have HS:=vQ (fU (H0.out.on HB1.out hFa) hFa b1)
  rw[if_neg hA] at HX
  obtain⟨o,ho⟩:∃o,o=x.schema b1:=⟨_,rfl⟩
  rw[<-ho] at HS HX
  clear hA ho
  go_wp2_with fail
  refine HS.out.mono ?_
  rintro e w2 ⟨hs,hb2⟩
  have HBf:=vQ (HB0.out.trans ((HB1.out.trans (hb2.mono HB1.out.size)).mono HB0.out.size))
  have hbk2:=(hb2.block _ (by omega)).trans HBk1.out
  have HB2:=vQ hb2
  have hz2:=hb2.size
  clear x0 x1 x2 x3 x4 x5 x6 x7 x8 x9 x10 hb2 HS
  cases o with
  |none=>
   replace hs:e=.returned (.tuple #[.agg #[.slice none 0 0],.bool false]):=hs
   subst hs
   have HR:Hid (r=false):=HX.out
   clear hbk2 HX
   go_wp2
   go_ret
   exact⟨by rw[HR.out];rfl,HBf.out.alloc HBf.out.size _⟩
  |some q=>
   obtain⟨sp2,sc2,rfl,h1,h2,h3⟩:=hs
   have HX2:Hid (r=(decide (b1=N)&&Sch.same q.1.cols f.cols)):=HX.out
   obtain⟨n2,hn2⟩:∃n2,n2=q.1.cols.length:=⟨_,rfl⟩
   rw[<-hn2]
   obtain⟨W3,hW3⟩:∃W3,W3=w2.alloc (.cells #[.slice sp2 n2 sc2] 30):=⟨_,rfl⟩
   have hb3:Below w2.1.size w2 W3:=by rw[hW3];exact vY
   have hbk3:=(hb3.block _ (aw hbk2)).trans hbk2
   have hkS:W3.1[w2.1.size]?=some (.cells #[.slice sp2 n2 sc2] 30):=by rw[hW3];exact ag w2 _
   have hS:=fM q.1.cols f.cols sp2 sp sc2 sc W3 h1 (h3.on hb3) (((HC.out.on HB1.out).on HB2.out).on hb3)
   rw[<-hn2,<-HL.out] at hS
   have HSm:=vQ hS
   have HB3:=vQ (HBf.out.trans (hb3.mono HBf.out.size))
   have HW3:=vQ hW3.symm
   have e1:∀o,(w2.alloc o).cell? ⟨w.1.size,1,none⟩=some (.int .i64 b1):=fun o=>ab (vZ.alloc vX o) (aa hbk2 1)
   have e2:∀o,(w2.alloc o).cell? ⟨w.1.size,2,none⟩=some (.slice sp b2 sc):=fun o=>ab (vZ.alloc vX o) (aa hbk2 2)
   clear hS hW3 hb3 hbk3 hkS h1 h2 h3 hbk2 hn2 HX
   by_cases hB:b1=N
   ·have g2:(b1==N)=true:=by rw[beq_iff_eq];exact hB
    have HR:Hid (r=Sch.same q.1.cols f.cols):=by show r=_;rw[HX2.out,decide_eq_true hB,Bool.true_and]
    clear hB HX2
    go_wp2_with fail
    rw[HW3.out]
    refine HSm.out.mono ?_
    rintro e w4 ⟨rfl,hb4⟩
    have HB4:=vQ (HB3.out.trans (hb4.mono HB3.out.size))
    obtain⟨z,hz⟩:∃z,z=Sch.same q.1.cols f.cols:=⟨_,rfl⟩
    rw[<-hz] at HR ⊢
    clear hb4 hz HSm
    go_wp2
    go_ret
    exact⟨by rw[HR.out];rfl,HB4.out⟩
   ·have g2:(b1==N)=false:=by rw[beq_eq_false_iff_ne];exact hB
    have HR:Hid (r=false):=by show r=_;rw[HX2.out,decide_eq_false hB,Bool.false_and]
    clear hB HX2 HSm
    go_wp2
    go_ret
    exact⟨by rw[HR.out];rfl,HBf.out.alloc HBf.out.size _⟩
end
end
section
open Go.RowKit
section
variable {w w':World} {a:Nat} {x:Rw} {F:Nat->Prop}
theorem gZ(h:aG w a x F)(hFa:¬F a)(f:Fr)(hk:f.kind=2)(u:AV)(hf:aB w u f)(p:Int):
  Calls Tryz.prog 32 #[.pointer (some ⟨a,0,none⟩),.agg u,.int .i64 p] w fun e w'=>e=.returned (.bool (x.follows f p))∧Below w.1.size w w':=by
 obtain⟨sp,sc,bp,bc,ep,ec,rfl,-⟩:=hf.out
 unfold av
 have HX:Hid (x.follows f p=decide (0<=x.number∧f.number=x.number∧f.seq=x.frames∧f.first=x.rows)):=by show x.follows f p=_;unfold Rw.follows;rw[if_neg (by omega),if_pos hk]
 obtain⟨W0,hW0⟩:∃W0,W0=w.alloc (.cells #[.int .i64 f.kind,.int .i64 f.number,.slice sp f.cols.length sc,.int .i64 f.seq,.int .i64 f.first,.int .i64 f.rows,.slice bp f.block.length bc,.int .i64 f.index.at_,.int .i64 f.index.frames,.int .i64 f.index.rows,.slice ep f.index.entries.length ec] 36):=⟨_,rfl⟩
 have hb0:Below w.1.size w W0:=by rw[hW0];exact vY
 have hbk:W0.1[w.1.size]?=some (.cells #[.int .i64 f.kind,.int .i64 f.number,.slice sp f.cols.length sc,.int .i64 f.seq,.int .i64 f.first,.int .i64 f.rows,.slice bp f.block.length bc,.int .i64 f.index.at_,.int .i64 f.index.frames,.int .i64 f.index.rows,.slice ep f.index.entries.length ec] 36 (0,0)):=by rw[hW0];exact ag w _
 have h0:=h.on hb0 hFa
 have HN:=vQ (cI h0)
 have H0:=vQ h0
 obtain⟨N,hN⟩:∃N,N=x.number:=⟨_,rfl⟩
 rw[<-hN] at HN HX
 rw[hk] at hW0 hbk
 obtain⟨b1,hb1⟩:∃y,y=f.number:=⟨_,rfl⟩
 obtain⟨b2,hbb2⟩:∃y,y=f.cols.length:=⟨_,rfl⟩
 obtain⟨b3,hb3⟩:∃y,y=f.seq:=⟨_,rfl⟩
 obtain⟨b4,hb4⟩:∃y,y=f.first:=⟨_,rfl⟩
 obtain⟨b5,hb5⟩:∃y,y=f.rows:=⟨_,rfl⟩
 obtain⟨b6,hb6⟩:∃y,y=f.block.length:=⟨_,rfl⟩
 obtain⟨b7,hb7⟩:∃y,y=f.index.at_:=⟨_,rfl⟩
 obtain⟨b8,hb8⟩:∃y,y=f.index.frames:=⟨_,rfl⟩
 obtain⟨b9,hb9⟩:∃y,y=f.index.rows:=⟨_,rfl⟩
 obtain⟨b10,hb10⟩:∃y,y=f.index.entries.length:=⟨_,rfl⟩
 rw[<-hb1,<-hbb2,<-hb3,<-hb4,<-hb5,<-hb6,<-hb7,<-hb8,<-hb9,<-hb10] at hW0 hbk
 rw[hk,<-hb1,<-hbb2,<-hb3,<-hb4,<-hb5,<-hb6,<-hb7,<-hb8,<-hb9,<-hb10]
 rw[<-hb1,<-hb3,<-hb4] at HX
 have HW0:=vQ hW0.symm
 have HB0:=vQ hb0
 have HBk:=vQ hbk
 have hz0:W0.1.size=w.1.size+1:=by rw[hW0];simp
 obtain⟨r,hr⟩:∃r,r=x.follows f p:=⟨_,rfl⟩
 rw[<-hr] at HX ⊢
 clear h h0 hf hN hb0 hbk hW0 hb1 hbb2 hb3 hb4 hb5 hb6 hb7 hb8 hb9 hb10 hk hr
 go_enter Tryz.func32,Tryz.ntmps32
 go_wp2_with fail
 rw[HW0.out]
 refine HN.out.mono ?_
 rintro e w1 ⟨rfl,hb1⟩
 have HB1:=vQ hb1
 have hbk1:=(hb1.block _ (by omega)).trans HBk.out
 obtain⟨x0,x1,x2,x3,x4,x5,x6,x7,x8,x9,x10⟩:=aO hbk1
 have HBk1:=vQ hbk1
 have hz1:=hb1.size
 clear hb1 hbk1 HN HBk
 obtain⟨fr,hfr⟩:∃fr,fr=x.frames:=⟨_,rfl⟩
 obtain⟨ro,hro⟩:∃ro,ro=x.rows:=⟨_,rfl⟩
 have HF:Hid (∀w',Below w1.1.size w1 w'->Calls Tryz.prog 33 #[.pointer (some ⟨a,0,none⟩)] w' fun e w''=>e=.returned (.int .i64 fr)∧Below w1.1.size w1 w''):=fun w' hb=>(dX ((H0.out.on HB1.out hFa).on hb hFa)).mono fun e w'' ⟨q1,q2⟩=>⟨by rw[hfr];exact q1,hb.trans (q2.mono hb.size)⟩
 have HR:Hid (∀w',Below w1.1.size w1 w'->Calls Tryz.prog 34 #[.pointer (some ⟨a,0,none⟩)] w' fun e w''=>e=.returned (.int .i64 ro)∧Below w1.1.size w1 w''):=fun w' hb=>(fN ((H0.out.on HB1.out hFa).on hb hFa)).mono fun e w'' ⟨q1,q2⟩=>⟨by rw[hro];exact q1,hb.trans (q2.mono hb.size)⟩
 have HCl:Hid (∀w',Below w1.1.size w1 w'->w'.cell? ⟨w.1.size,1,none⟩=some (.int .i64 b1)∧w'.cell? ⟨w.1.size,3,none⟩=some (.int .i64 b3)∧w'.cell? ⟨w.1.size,4,none⟩=some (.int .i64 b4)):=fun w' hb=>⟨ab hb x1,ab hb x3,ab hb x4⟩
 rw[<-hfr,<-hro] at HX
 have HBf:=vQ (HB0.out.trans (HB1.out.mono HB0.out.size))
 clear hfr hro H0 HB1 HBk1 x2 x5 x6 x7 x8 x9 x10
 by_cases h1:0<=N
 case neg=>
  have g1:decide (0<=N)=false:=decide_eq_false h1
  have HRr:Hid (r=false):=by show r=_;rw[HX.out,decide_eq_false (fun hc=>h1 hc.1)]
  clear h1 HX
  go_wp2_with fail
  go_quiet (fail)
  go_wp2
  go_ret
  exact⟨by rw[HRr.out];rfl,below_drewN HBf.out _⟩
 have g1:decide (0<=N)=true:=decide_eq_true h1
 by_cases h2:b1=N
 case neg=>
  have g2:(b1==N)=false:=by rw[beq_eq_false_iff_ne];exact h2
  have HRr:Hid (r=false):=by show r=_;rw[HX.out,decide_eq_false (fun hc=>h2 hc.2.1)]
  clear h2 HX
  go_wp2_with fail
  go_quiet (fail)
  go_wp2
  go_ret
  exact⟨by rw[HRr.out];rfl,below_drewN HBf.out _⟩
 have g2:(b1==N)=true:=by rw[beq_iff_eq];exact h2
 by_cases h3:b3=fr
 case neg=>
  have g3:(b3==fr)=false:=by rw[beq_eq_false_iff_ne];exact h3
  have HRr:Hid (r=false):=by show r=_;rw[HX.out,decide_eq_false (fun hc=>h3 hc.2.2.1)]
  clear h2 h3 HX
  go_wp2_with fail
  first
   |go_region_with (first
    | (go_at_call 33;refine(HF.out _ (vZ.drew)).mono ?_;rintro e w18 ⟨rfl,hb18⟩;obtain⟨c18a,c18b,c18c⟩:=HCl.out _ hb18;have HBn18:=vQ hb18;clear hb18)
    | (go_at_call 34;refine(HR.out _ HBn18.out).mono ?_;rintro e w19 ⟨rfl,hb19⟩;obtain⟨c19a,c19b,c19c⟩:=HCl.out _ hb19;have HBn19:=vQ hb19;clear hb19)
    |fail)
   |fail
  all_goals
   go_wp2
   go_ret
   exact⟨by rw[HRr.out];rfl,HBf.out.trans (HBn18.out.mono HBf.out.size)⟩
 have g3:(b3==fr)=true:=by rw[beq_iff_eq];exact h3
 have HRr:Hid (r=(b4==ro)):=by
  show r=_
  rw[HX.out]
  by_cases h4:b4=ro
  ·rw[decide_eq_true ⟨h1,h2,h3,h4⟩];exact(by rw[h4];simp)
  ·rw[decide_eq_false (fun hc=>h4 hc.2.2.2)];exact(by symm;rw[beq_eq_false_iff_ne];exact h4)
 clear h2 h3 HX
 go_wp2_with fail
 go_region_held3 (fun w'=>w'.cell? ⟨w.1.size,1,none⟩=some (.int .i64 b1)∧w'.cell? ⟨w.1.size,3,none⟩=some (.int .i64 b3)∧w'.cell? ⟨w.1.size,4,none⟩=some (.int .i64 b4)) (go_keep) (first
  | (go_at_call 33;refine(HF.out _ (vZ.drew)).mono ?_;rintro e w18 ⟨rfl,hb18⟩;obtain⟨c18a,c18b,c18c⟩:=HCl.out _ hb18;have HBn18:=vQ hb18;clear hb18)
  | (go_at_call 34;refine(HR.out _ HBn18.out).mono ?_;rintro e w19 ⟨rfl,hb19⟩;obtain⟨c19a,c19b,c19c⟩:=HCl.out _ hb19;have HBn19:=vQ hb19;clear hb19)
  |fail)
 go_wp2
 go_ret
 exact⟨by rw[HRr.out];rfl,HBf.out.trans (HBn19.out.mono HBf.out.size)⟩
end
end
end Go.Proofs.YtlgfdgdlaahpfaaGreatDoor
