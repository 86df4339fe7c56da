import Derived.Test.YtllbniljgcgbeaaGreatDoorA18
import Derived.Test.YtllbniljgcgbeaaGreatDoorB07
import Derived.Test.YtllbniljgcgbeaaGreatDoorB16
set_option maxRecDepth 100000
set_option maxHeartbeats 2000000
namespace Go.Proofs.YtllbniljgcgbeaaGreatDoor
section
open Go.RowKit
def gK:AV:=#[.string ⟨#[]⟩,.string ⟨#[98,111,111,108]⟩,.string ⟨#[105,110,116]⟩,.string ⟨#[102,108,111,97,116]⟩,.string ⟨#[116,101,120,116]⟩,.string ⟨#[98,121,116,101,115]⟩,.string ⟨#[111,112,116]⟩,.string ⟨#[108,105,115,116]⟩]
theorem lL(w:World):Calls Tryz.prog 53 #[] w fun e w'=>e=.returned (.slice (some ⟨w.1.size,0,none⟩) 8 8)∧w'=w.alloc (.cells gK 9):=by
 go_enter Tryz.func53,Tryz.ntmps53
 go_wp2
 go_ret
 exact⟨rfl,rfl⟩
theorem pA{m:Nat}(h:1<=m∧m<=7):gK[m]?=some (.string ⟨(Tx.word (m:Int)).toArray⟩):=by
 have h7:m=1∨m=2∨m=3∨m=4∨m=5∨m=6∨m=7:=by omega
 rcases h7 with rfl | rfl | rfl | rfl | rfl | rfl | rfl <;> rfl
end
section
open Go.RowKit
theorem gL{u:Nat}(h:u<10):Lib.itoa (u:Int)=[UInt8.ofNat (48+u)]:=by rw[Lib.itoa_nonneg,Lib.decDigits,dif_pos h]
theorem jf{u:Nat}(h:¬u<10):Lib.itoa (u:Int)=Lib.itoa ((u / 10:Nat):Int)++Lib.itoa ((u % 10:Nat):Int):=by
 rw[Lib.itoa_nonneg,Lib.itoa_nonneg,gL (by omega),Lib.decDigits,dif_neg h]
theorem eC{u:Nat}(h:1<=u):Lib.itoa (-(u:Int))=45::Lib.itoa (u:Int):=by rw[Lib.itoa_neg u h,Lib.itoa_nonneg]
theorem lW{u:Nat}(h:¬u<10):Lib.itoa (-(u:Int))=Lib.itoa (-((u / 10:Nat):Int))++Lib.itoa ((u % 10:Nat):Int):=by
 rw[eC (by omega),jf h,eC (by omega)]
 rfl
theorem dj{u:Nat}(h:u<10)(w:World):Calls Tryz.prog 87 #[.int .i64 (u:Nat)] w fun e w'=>e=.returned (.string ⟨(Lib.itoa (u:Int)).toArray⟩)∧Below w.1.size w w':=by
 have hd:=Tx.dig_of u h
 obtain⟨c,hc⟩:∃c,c=UInt8.ofNat (48+u):=⟨_,rfl⟩
 have hu:(48+(u:Int))=(c.toNat:Int):=by rw[hc,hd];omega
 have hcv:(convert 79 9 (.slice (some ⟨w.1.size,0,none⟩) 1 1)).run Tryz.prog (w.alloc (.cells #[.int .u8 (48+(u:Int))] 5))=.ok (.string ⟨#[c]⟩) (w.alloc (.cells #[.int .u8 (48+(u:Int))] 5)):=by
  have hA:At (w.alloc (.cells #[.int .u8 (48+(u:Int))] 5)) (some ⟨w.1.size,0,none⟩) [c]:=by
   rw[hu]
   refine .inr ⟨w.1.size,0,rfl,by simp,fun j hj=>?_⟩
   obtain rfl:j=0:=by simpa using hj
   exact ab (aj w _) 0
  exact cZ hA 1
 have hB:Below w.1.size w (w.alloc (.cells #[.int .u8 (48+(u:Int))] 5)):=tY
 have HB:=tQ hB
 have HE:Hid ((Lib.itoa (u:Int)).toArray=#[c]):=by show _=_;rw[gL h,hc]
 have g0:(u:Int)<10:=by omega
 have g1:decide ((u:Int)<0)=false:=decide_eq_false (by omega)
 clear hc
 clear hd hu hB h
 go_enter Tryz.func87,Tryz.ntmps87
 go_wp2
 go_ret
 rw[HE.out]
 exact⟨rfl,HB.out⟩
theorem fH:∀(k:Nat) (n:Int),n.natAbs<=k->(-9223372036854775808<=n∧n<=9223372036854775807)->∀w:World,Calls Tryz.prog 87 #[.int .i64 n] w fun e w'=>e=.returned (.string ⟨(Lib.itoa n).toArray⟩)∧Below w.1.size w w':=by
 intro k
 induction k using Nat.strongRecOn with
 |ind k ih=>
  intro n hk hn w
  have HI:Hid (∀m:Int,m.natAbs<n.natAbs->(-9223372036854775808<=m∧m<=9223372036854775807)->∀w:World,Calls Tryz.prog 87 #[.int .i64 m] w fun e w'=>e=.returned (.string ⟨(Lib.itoa m).toArray⟩)∧Below w.1.size w w'):=fun m hm h w=>ih m.natAbs (by omega) m tX h w
  clear ih hk
  by_cases h0:n<0
  ·obtain⟨u,rfl⟩:∃u:Nat,n=-(u:Int):=⟨n.natAbs,by omega⟩
   have u0:0<u:=by omega
   have u1:decide (0<u)=true:=decide_eq_true u0
   by_cases h10:u<10
   ·have HS:=tQ (dj h10 w)
    have g1:(u:Int)<10:=by omega
    have g2:decide ((u:Int)<10)=true:=decide_eq_true g1
    have HE:Hid (ByteArray.mk #[45]++ByteArray.mk (Lib.itoa (u:Int)).toArray=⟨(Lib.itoa (-(u:Int))).toArray⟩):=by
     show _=_
     have e1:(#[45]:Array UInt8)=[45].toArray:=rfl
     rw[e1,qa,eC u0]
     rfl
    have hl:=cF (u:Int) (by omega)
    obtain⟨T,hT⟩:∃T,T=(Lib.itoa (u:Int)).toArray:=⟨_,rfl⟩
    have hts:T.size<=21:=by rw[hT,List.size_toArray];exact hl
    rw[<-hT] at HS HE
    have k1:¬9223372036854775807<1+T.size:=by omega
    clear hT hl h10 HI h0
    go_enter Tryz.func87,Tryz.ntmps87
    go_wp2_with fail
    refine HS.out.mono ?_
    rintro e w1 ⟨rfl,hb1⟩
    have HB1:=tQ hb1
    clear hb1 HS
    go_wp2
    go_ret
    rw[HE.out]
    exact⟨rfl,HB1.out⟩
   ·have g1:¬(u:Int)<10:=by omega
    have g2:decide ((u:Int)<10)=false:=decide_eq_false g1
    have H1:=tQ (HI.out (-((u / 10:Nat):Int)) (by omega) (by omega))
    have H2:=tQ (fun w=>dj (u:=u % 10) (by omega) w)
    have HE:Hid (ByteArray.mk (Lib.itoa (-((u / 10:Nat):Int))).toArray++ByteArray.mk (Lib.itoa ((u % 10:Nat):Int)).toArray=⟨(Lib.itoa (-(u:Int))).toArray⟩):=by
     show _=_
     rw[qa,lW h10]
    have hl:=cF (-((u / 10:Nat):Int)) (by omega)
    have hl2:=cF ((u % 10:Nat):Int) (by omega)
    obtain⟨T,hT⟩:∃T,T=(Lib.itoa (-((u / 10:Nat):Int))).toArray:=⟨_,rfl⟩
    obtain⟨U,hU⟩:∃U,U=(Lib.itoa ((u % 10:Nat):Int)).toArray:=⟨_,rfl⟩
    have hts:T.size<=21:=by rw[hT,List.size_toArray];exact hl
    have hus:U.size<=21:=by rw[hU,List.size_toArray];exact hl2
    rw[<-hT] at H1 HE
    rw[<-hU] at H2 HE
    have k1:¬9223372036854775807<T.size+U.size:=by omega
    have e1:(-((u / 10:Nat):Int))=-((u:Int) / 10):=by omega
    have e2:((u % 10:Nat):Int)=(u:Int) % 10:=by omega
    rw[e1] at H1
    rw[e2] at H2
    clear hT hU hl hl2 HI h0 e1 e2
    go_enter Tryz.func87,Tryz.ntmps87
    go_wp2_with fail
    refine(H1.out w).mono ?_
    rintro e w1 ⟨rfl,hb1⟩
    have HB1:=tQ hb1
    clear hb1 H1
    go_wp2_with fail
    refine(H2.out w1).mono ?_
    rintro e w2 ⟨rfl,hb2⟩
    have HB2:=tQ (HB1.out.trans (hb2.mono HB1.out.size))
    clear hb2 H2
    go_wp2
    go_ret
    rw[HE.out]
    exact⟨rfl,HB2.out⟩
  ·obtain⟨u,rfl⟩:∃u:Nat,n=(u:Int):=⟨n.natAbs,by omega⟩
   by_cases h10:u<10
   ·exact dj h10 w
   ·have g1:¬(u:Int)<10:=by omega
    have g2:decide ((u:Int)<10)=false:=decide_eq_false g1
    have H1:=tQ (HI.out ((u / 10:Nat):Int) (by omega) (by omega))
    have H2:=tQ (fun w=>dj (u:=u % 10) (by omega) w)
    have HE:Hid (ByteArray.mk (Lib.itoa ((u / 10:Nat):Int)).toArray++ByteArray.mk (Lib.itoa ((u % 10:Nat):Int)).toArray=⟨(Lib.itoa (u:Int)).toArray⟩):=by
     show _=_
     rw[qa,jf h10]
    have hl:=cF ((u / 10:Nat):Int) (by omega)
    have hl2:=cF ((u % 10:Nat):Int) (by omega)
    obtain⟨T,hT⟩:∃T,T=(Lib.itoa ((u / 10:Nat):Int)).toArray:=⟨_,rfl⟩
    obtain⟨U,hU⟩:∃U,U=(Lib.itoa ((u % 10:Nat):Int)).toArray:=⟨_,rfl⟩
    have hts:T.size<=21:=by rw[hT,List.size_toArray];exact hl
    have hus:U.size<=21:=by rw[hU,List.size_toArray];exact hl2
    rw[<-hT] at H1 HE
    rw[<-hU] at H2 HE
    have k1:¬9223372036854775807<T.size+U.size:=by omega
    have e1:((u / 10:Nat):Int)=(u:Int) / 10:=by omega
    have e2:((u % 10:Nat):Int)=(u:Int) % 10:=by omega
    rw[e1] at H1
    rw[e2] at H2
    clear hT hU hl hl2 HI h0 e1 e2
    go_enter Tryz.func87,Tryz.ntmps87
    go_wp2_with fail
    refine(H1.out w).mono ?_
    rintro e w1 ⟨rfl,hb1⟩
    have HB1:=tQ hb1
    clear hb1 H1
    go_wp2_with fail
    refine(H2.out w1).mono ?_
    rintro e w2 ⟨rfl,hb2⟩
    have HB2:=tQ (HB1.out.trans (hb2.mono HB1.out.size))
    clear hb2 H2
    go_wp2
    go_ret
    rw[HE.out]
    exact⟨rfl,HB2.out⟩
end
section
open Go.RowKit
theorem mi{w:World}(l:L8){C:AV}(hC:C=(cellsOf l).toArray):At (w.alloc (.cells C 5)) (some ⟨w.1.size,0,none⟩) l:=by
 subst hC
 refine .inr ⟨w.1.size,0,rfl,by simp,fun j hj=>?_⟩
 have hn:=aj w (.cells (cellsOf l).toArray 5)
 unfold World.cell?
 rw[hn]
 simp[cellsOf,hj]
theorem kD{B:Nat}{v:Value}{xs l:L8}{p:OA}{c:Nat}{w:World}(hown:Has w B v xs)(h:At w p l)(hlen:xs.length+l.length<=140737488355328)(hB:B<=w.1.size){o:Oper}{a:Act}{K:Act->World->Prop}{Q:Exit->Act->World->Prop}(y x:Operand)(ht:o.type=79)(hop:o.op=Op.call { callee:=Callee.builtin Builtin.append,args:=#[y,x],argTypes:=#[79,79] })(hs:a.eval y=v)(hx:a.eval x=.slice p l.length c)(hK:∀ys q cap W,Hid (ys=xs++l)->Has W B (.slice q ys.length cap) ys->Below B w W->K (a.put o.dst (.slice q ys.length cap)) W):
  Oper.wp Tryz.prog o a w K Q:=by
 obtain⟨q,cap,W,hr,hm,ha,-,hb⟩:=eU B v xs l p c w hown h hlen hB
 have hr:=hr.run
 have h2:=hK (xs++l) q cap W (tQ rfl) hm (aH ha hown hB)
 rw[List.length_append] at hr h2
 unfold Oper.wp
 simp[execOp,hop,resolve,invoke,builtin,hs,hx,ht,hr,Result.andThen]
 exact h2
end
section
open Go.RowKit
theorem qL(c:UInt8):(decide ((97:Int)<=(c.toNat:Int))&&decide ((c.toNat:Int)<=122))=Sch.low c:=by
 unfold Sch.low
 rw[<-Bool.decide_and]
 exact decide_eq_decide.2 (by omega)
theorem mE(c:UInt8):(decide ((48:Int)<=(c.toNat:Int))&&decide ((c.toNat:Int)<=57))=Tx.dig c:=by
 unfold Tx.dig
 rw[<-Bool.decide_and]
 exact decide_eq_decide.2 (by omega)
theorem gy(c:UInt8)(w:World):Calls Tryz.prog 54 #[.int .u8 (c.toNat:Int)] w fun e w'=>e=.returned (.bool (Sch.low c))∧w'=w:=by
 have H:=tQ (qL c)
 by_cases h1:(97:Int)<=(c.toNat:Int)
 ·by_cases h2:(c.toNat:Int)<=122
  ·have HR:Hid (Sch.low c=true):=by show _=_;rw[<-H.out,decide_eq_true h1,decide_eq_true h2];rfl
   have n1:97<=c.toNat:=by omega
   have n2:c.toNat<=122:=by omega
   clear H
   go_enter Tryz.func54,Tryz.ntmps54
   go_wp2
   go_ret
   exact⟨by rw[HR.out];rfl,rfl⟩
  ·have HR:Hid (Sch.low c=false):=by show _=_;rw[<-H.out,decide_eq_true h1,decide_eq_false h2];rfl
   have n1:97<=c.toNat:=by omega
   have n2:¬c.toNat<=122:=by omega
   clear H
   go_enter Tryz.func54,Tryz.ntmps54
   go_wp2
   go_ret
   exact⟨by rw[HR.out];rfl,rfl⟩
 ·have HR:Hid (Sch.low c=false):=by show _=_;rw[<-H.out,decide_eq_false h1];rfl
  have n1:¬97<=c.toNat:=by omega
  clear H
  go_enter Tryz.func54,Tryz.ntmps54
  go_wp2
  go_ret
  exact⟨by rw[HR.out];rfl,rfl⟩
theorem cV(c:UInt8)(w:World):Calls Tryz.prog 56 #[.int .u8 (c.toNat:Int)] w fun e w'=>e=.returned (.bool (Tx.dig c))∧w'=w:=by
 have H:=tQ (mE c)
 by_cases h1:(48:Int)<=(c.toNat:Int)
 ·by_cases h2:(c.toNat:Int)<=57
  ·have HR:Hid (Tx.dig c=true):=by show _=_;rw[<-H.out,decide_eq_true h1,decide_eq_true h2];rfl
   have n1:48<=c.toNat:=by omega
   have n2:c.toNat<=57:=by omega
   clear H
   go_enter Tryz.func56,Tryz.ntmps56
   go_wp2
   go_ret
   exact⟨by rw[HR.out];rfl,rfl⟩
  ·have HR:Hid (Tx.dig c=false):=by show _=_;rw[<-H.out,decide_eq_true h1,decide_eq_false h2];rfl
   have n1:48<=c.toNat:=by omega
   have n2:¬c.toNat<=57:=by omega
   clear H
   go_enter Tryz.func56,Tryz.ntmps56
   go_wp2
   go_ret
   exact⟨by rw[HR.out];rfl,rfl⟩
 ·have HR:Hid (Tx.dig c=false):=by show _=_;rw[<-H.out,decide_eq_false h1];rfl
  have n1:¬48<=c.toNat:=by omega
  clear H
  go_enter Tryz.func56,Tryz.ntmps56
  go_wp2
  go_ret
  exact⟨by rw[HR.out];rfl,rfl⟩
def cH(n:Nat)(c:UInt8):Bool:=if n=0 then Sch.low c else if n=1 then Tx.iset c else if n=2 then Tx.fset c else Sch.ch c
theorem eqb{c d:UInt8}:((c.toNat:Int)==(d.toNat:Int))=decide (c=d):=by
 by_cases h:c=d
 ·rw[h];simp
 ·rw[decide_eq_false h,beq_eq_false_iff_ne]
  intro hc
  exact h (UInt8.toNat_inj.1 (by omega))
theorem kj(c:UInt8)(n:Nat)(hn:n<=3)(w:World):Calls Tryz.prog 52 #[.int .u8 (c.toNat:Int),.int .i64 (n:Nat)] w fun e w'=>e=.returned (.bool (cH n c))∧w'=w:=by
 have HS:=tQ (fun w'=>gy c w')
 have HD:=tQ (fun w'=>cV c w')
 have e45:((c.toNat:Int)==45)=decide (c=45):=eqb (d:=45)
 have e95:((c.toNat:Int)==95)=decide (c=95):=eqb (d:=95)
 have h4:n=0∨n=1∨n=2∨n=3:=by omega
 rcases h4 with rfl | rfl | rfl | rfl
 ·have HR:Hid (cH 0 c=Sch.low c):=rfl
  go_enter Tryz.func52,Tryz.ntmps52
  go_wp2_with fail
  refine(HS.out w).mono ?_
  rintro e w' ⟨rfl,hw'⟩
  subst hw'
  go_wp2
  go_ret
  exact⟨by rw[HR.out];rfl,rfl⟩
 ·have HR:Hid (cH 1 c=(Tx.dig c||decide (c=45))):=rfl
  obtain⟨b,hb⟩:∃b,b=Tx.dig c:=⟨_,rfl⟩
  obtain⟨m,hm⟩:∃m,m=decide (c=45):=⟨_,rfl⟩
  rw[<-hb] at HD HR
  rw[<-hm] at HR e45
  clear hb hm
  cases b with
  |false=>
   go_enter Tryz.func52,Tryz.ntmps52
   go_wp2_with fail
   refine(HD.out _).mono ?_
   rintro e w' ⟨rfl,hw'⟩
   subst hw'
   go_wp2
   go_ret
   exact⟨by rw[HR.out];rfl,rfl⟩
  |true=>
   go_enter Tryz.func52,Tryz.ntmps52
   go_wp2_with fail
   refine(HD.out _).mono ?_
   rintro e w' ⟨rfl,hw'⟩
   subst hw'
   go_wp2
   go_ret
   exact⟨by rw[HR.out];rfl,rfl⟩
 ·have HR:Hid (cH 2 c=(Sch.low c||Tx.dig c||decide (c=45))):=rfl
  obtain⟨a,ha⟩:∃a,a=Sch.low c:=⟨_,rfl⟩
  obtain⟨b,hb⟩:∃b,b=Tx.dig c:=⟨_,rfl⟩
  obtain⟨m,hm⟩:∃m,m=decide (c=45):=⟨_,rfl⟩
  rw[<-ha] at HS HR
  rw[<-hb] at HD HR
  rw[<-hm] at HR e45
  clear ha hb hm
  cases a with
  |true=>
   go_enter Tryz.func52,Tryz.ntmps52
   go_wp2_with fail
   refine(HS.out _).mono ?_
   rintro e w' ⟨rfl,hw'⟩
   subst hw'
   go_wp2
   go_ret
   exact⟨by rw[HR.out];rfl,rfl⟩
  |false=>
   cases b with
   |false=>
    go_enter Tryz.func52,Tryz.ntmps52
    go_wp2_with fail
    refine(HS.out _).mono ?_
    rintro e w' ⟨rfl,hw'⟩
    subst hw'
    go_wp2_with fail
    refine(HD.out _).mono ?_
    rintro e w' ⟨rfl,hw'⟩
    subst hw'
    go_wp2
    go_ret
    exact⟨by rw[HR.out];rfl,rfl⟩
   |true=>
    go_enter Tryz.func52,Tryz.ntmps52
    go_wp2_with fail
    refine(HS.out _).mono ?_
    rintro e w' ⟨rfl,hw'⟩
    subst hw'
    go_wp2_with fail
    refine(HD.out _).mono ?_
    rintro e w' ⟨rfl,hw'⟩
    subst hw'
    go_wp2
    go_ret
    exact⟨by rw[HR.out];rfl,rfl⟩
 ·have HR:Hid (cH 3 c=(Sch.low c||Tx.dig c||decide (c=95))):=(by show Sch.ch c=_;unfold Sch.ch;rw[show decide (c.toNat=95)=decide (c=95) from decide_eq_decide.2 ⟨fun h=>UInt8.toNat_inj.1 h,fun h=>by rw[h];rfl⟩];rfl)
  obtain⟨a,ha⟩:∃a,a=Sch.low c:=⟨_,rfl⟩
  obtain⟨b,hb⟩:∃b,b=Tx.dig c:=⟨_,rfl⟩
  obtain⟨m,hm⟩:∃m,m=decide (c=95):=⟨_,rfl⟩
  rw[<-ha] at HS HR
  rw[<-hb] at HD HR
  rw[<-hm] at HR e95
  clear ha hb hm
  cases a with
  |true=>
   go_enter Tryz.func52,Tryz.ntmps52
   go_wp2_with fail
   refine(HS.out _).mono ?_
   rintro e w' ⟨rfl,hw'⟩
   subst hw'
   go_wp2
   go_ret
   exact⟨by rw[HR.out];rfl,rfl⟩
  |false=>
   cases b with
   |false=>
    go_enter Tryz.func52,Tryz.ntmps52
    go_wp2_with fail
    refine(HS.out _).mono ?_
    rintro e w' ⟨rfl,hw'⟩
    subst hw'
    go_wp2_with fail
    refine(HD.out _).mono ?_
    rintro e w' ⟨rfl,hw'⟩
    subst hw'
    go_wp2
    go_ret
    exact⟨by rw[HR.out];rfl,rfl⟩
   |true=>
    go_enter Tryz.func52,Tryz.ntmps52
    go_wp2_with fail
    refine(HS.out _).mono ?_
    rintro e w' ⟨rfl,hw'⟩
    subst hw'
    go_wp2_with fail
    refine(HD.out _).mono ?_
    rintro e w' ⟨rfl,hw'⟩
    subst hw'
    go_wp2
    go_ret
    exact⟨by rw[HR.out];rfl,rfl⟩
end
end Go.Proofs.YtllbniljgcgbeaaGreatDoor
