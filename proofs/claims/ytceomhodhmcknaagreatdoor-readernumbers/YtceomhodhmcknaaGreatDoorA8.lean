import Derived.Test.YtceomhodhmcknaaGreatDoorA7
set_option maxRecDepth 100000
set_option maxHeartbeats 8000000
namespace Go.Proofs.YtceomhodhmcknaaGreatDoor
variable{B b c n:Nat}{W w:World}{p q:OA}
section
open Go.RowKit
theorem rI(b:L8)(p:OA)(c:Nat)(w:World)(hl:b.length<=2097152)(hA:At w p b):Calls Tryz.prog 5 #[.slice p b.length c] w fun e w'=>∃g y v,e=.returned (.tuple #[.pointer (some ⟨g,0,none⟩),.pointer (some ⟨y,0,none⟩)])∧cL w' w.1.size g v b 0∧Below w.1.size w w':=by
 have HN:=xQ (tv 1048576 (by omega) w)
 have HA:=xQ hA
 clear hA
 go_enter Tryz.func5,Tryz.ntmps5
 go_wp2_with fail
 refine HN.out.mono ?_
 rintro e w1 ⟨rfl,hk,hb1⟩
 have HR:=xQ (pm 1048576 (by omega) w1)
 have HK:=xQ hk
 have HB1:=xQ hb1
 clear hk hb1 HN
 go_wp2_with fail
 refine HR.out.mono ?_
 rintro e w2 ⟨rfl,hr,hb2⟩
 have hb12:=HB1.out.trans (hb2.mono HB1.out.size)
 have hs1:w.1.size<w1.1.size:=HK.out.lt
 have e1:Dv.tail (Dv.new 1048576) b=(0,{ Dv.new 1048576 with b:=b,safe:=b.length }):=by
  unfold Dv.tail
  rw[if_neg (by simp[Dv.new];omega)]
  simp[Dv.new]
 have hT:=wO (HK.out.below hb2) p c b (HA.out.on hb12) (fun hne k o hp=>by
  rcases HA.out with h0 | ⟨b',o',h1,h2,h3⟩
  ·exact absurd h0 hne
  ·rw[h1] at hp
   injection hp with hp
   injection hp with e1 _
   subst e1
   omega) (by simp[Dv.new]) hb12.size
 rw[e1] at hT
 have HT:=xQ hT
 have HR2:=xQ hr
 have HB2:=xQ hb12
 have HE1:=xQ e1
 have HBx:=xQ hb2
 clear hr hb2 hb12 hT e1 HR
 go_wp2_with fail
 refine HT.out.mono ?_
 rintro e w3 ⟨rfl,v',x',k',hk3,ha3,hv3⟩
 have hB3:Below w.1.size w w3:=HB2.out.trans (ha3.below HB2.out.size (fun k hk hc=>by
  rcases hc with hc | hc
  ·omega
  ·simp[Value.ownBlock] at hc))
 have hR3:=HR2.out.aside ha3 (fun hc=>by
  rcases hc with hc | hc
  ·omega
  ·simp[Value.ownBlock] at hc) (fun k hk=>by simp[Value.ownBlock] at hk)
 have hT2:=tf hR3 p c b (by omega) (HA.out.on hB3) (fun hne k o hp=>by
  rcases HA.out with h0 | ⟨b',o',h1,h2,h3⟩
  ·exact absurd h0 hne
  ·rw[h1] at hp
   injection hp with hp
   injection hp with e1 _
   subst e1
   exact⟨by omega,by simp[Value.ownBlock]⟩) (by simp[Dv.new]) (by have:=ha3.size;have:=HBx.out.size;omega)
 rw[HE1.out] at hT2
 have HT2:=xQ hT2
 have HK3:=xQ hk3
 have HB3:=xQ hB3
 have HV3:=xQ hv3
 have hs3:=ha3.size
 have hs2:=HBx.out.size
 clear hk3 ha3 hv3 hB3 hR3 hT2 HT
 go_wp2_with fail
 refine HT2.out.mono ?_
 rintro e w4 ⟨rfl,v4,hr4,ha4,hv4⟩
 have HF:Hid (cL w4 w.1.size w.1.size v' b 0∧Below w.1.size w w4):=by
  have hne:∀i,i=w1.1.size∨(Value.slice none 0 0).ownBlock=some i->i=w1.1.size:=fun i hi=>hi.elim id (fun h=>by simp[Value.ownBlock] at h)
  refine⟨⟨_,x',k',HK3.out.aside ha4 (fun hc=>by have:=hne _ hc;omega) (fun k hk hc=>?_),rfl,rfl,xX⟩,HB3.out.trans (ha4.below HB3.out.size (fun k hk hc=>by have:=hne _ hc;omega))⟩
  have h1:=hne _ hc
  subst h1
  have h2:=HR2.out.lt
  rcases HV3.out _ hk with h4 | h4
  ·simp[Value.ownBlock] at h4
  ·omega
 clear hr4 ha4 hv4 HT2
 go_wp2
 go_ret2
 exact⟨_,_,_,rfl,HF.out⟩
end
section
open Go.RowKit
theorem cL.counted{g:Nat}{v:Value}{b:L8}(h:cL w B g v b n):∃k,k<=n∧Calls Tryz.prog 7 #[.pointer (some ⟨g,0,none⟩)] w fun e w'=>e=.returned (.int .i64 (k:Nat))∧w'=w:=by
 obtain⟨s,x,k,h1,-,-,h4⟩:=h.out
 exact⟨s.told,h4,rM h1⟩
theorem Rd.end_ne{b:L8}{j er:Nat}{X:Sc.Pos}{tr:List V->List V}{ts:List Tl}(hI:Rd.Inv tr b j X ts)(h:Rd.End b X er)(h140:er=140):Sc.step b X=.error 140:=by
 subst h140
 rcases h with h | ⟨f,n,h1,h2,h3,h4⟩
 ·exact h
 ·obtain⟨k,-,k2,-,k4⟩:=kZ (Sc.goes_good hI.goes).1 h2 h3
  rw[k2] at k4
  have:=((Sc.err_parts (Sc.may_parts h2).2.1).2.1 h3).2.2.2
  have:=Rd.unpack_lt140 k4 this h4
  omega
theorem gQ(HLv:∀w,Hv w->Calls Tryz.prog 4 #[] w fun e w'=>e=.returned (.bool true)∧Below w.1.size w w')(b:L8)(p:OA)(c:Nat)(w:World)(hA:At w p b)(hv:Hv w):
  Calls Tryz.prog 3 #[.slice p b.length c] w fun e w'=>e=.returned (.bool true)∧Below w.1.size w w':=by
 have HA:=xQ hA
 have HV:=xQ hv
 have HL:=xQ (HLv w hv)
 clear hA hv HLv
 go_enter Tryz.func3,Tryz.ntmps3
 go_wp2_with fail
 refine HL.out.mono ?_
 rintro e w1 ⟨rfl,hb1⟩
 have HB1:=xQ hb1
 clear hb1 HL
 by_cases hlen:¬b.length<=100000
 ·have g0:(100000:Int)<(b.length:Int):=by omega
  go_wp2
  go_ret
  exact⟨rfl,HB1.out⟩
 replace hlen:b.length<=100000:=Classical.not_not.1 hlen
 have g0:¬(100000:Int)<(b.length:Int):=by omega
 have HLd:=xQ (rI b p c w1 (by omega) (HA.out.on HB1.out))
 go_wp2_with fail
 refine HLd.out.mono ?_
 rintro e w2 ⟨g,y,v,rfl,hup,hb2⟩
 have hgl:=hup.lt
 have HB2:=xQ hb2
 have HRw:=xQ (uS w2 g (fun i=>i=g∨v.ownBlock=some i) (fun k hk=>hk.elim (fun h=>by omega) (fun h=>(hup.own h).2)))
 have HUp:=xQ hup
 clear hb2 hup HLd
 go_wp2_with fail
 refine HRw.out.mono ?_
 rintro e w3 ⟨r,a,M,rfl,hnew⟩
 have hup3:=HUp.out.on hnew.below
 have hv1:Hv w1:=HV.out.next HB1.out
 have hB:1<w1.1.size:=hv1.lt
 have hfar:=hnew.far
 have hs23:=hnew.below.size
 have hs12:=HB2.out.size
 obtain⟨hC,hL⟩:=jR (tr:=id) (un:=.slice none 0 0) hnew.blk hnew.walk hup3 (((hv1.next HB2.out)).next hnew.below) hB hs12 (by omega) (by omega) (fun i hi=>by
  rcases hi with hi | hi | hi
  ·exact .inl (.inl hi)
  ·exact .inl (.inr hi)
  ·exact .inr hi) (by omega) (fun i hi=>⟨HUp.out.ne i hi,by have:=(HUp.out.own hi).2;omega⟩)
 have HAll:=xQ (vV (om w3 g r a M 0 b) hC hL (by omega) (by omega))
 obtain⟨k3,hk3,hc3⟩:=hup3.counted
 have hk30:k3=0:=by omega
 subst hk30
 have HC3:=xQ hc3
 have HB3:Hid (Below w.1.size w w3):=(HB1.out.trans (HB2.out.mono HB1.out.size)).trans (hnew.below.mono (by have:=HB1.out.size;omega))
 have HCr:=xQ hC
 have hs3:=HB1.out.size
 clear hnew hup3 hC hL hc3 hk3 HRw
 go_wp2_with fail
 refine HC3.out.mono ?_
 rintro e w' ⟨rfl,hw'⟩
 rw[hw']
 clear hw' w' HC3
 go_wp2_with fail
 refine HAll.out.mono ?_
 rintro e w4 ⟨vs,xs,er,rfl,hlist,-,j,X,hI,hE,hne,hRE⟩
 obtain⟨pv,cv,rfl,hcv,hTl⟩:=hlist.form
 obtain⟨k4,hk4,hc4⟩:=hRE.file.counted
 have HC4:=xQ hc4
 have HTl:=xQ hTl
 have HI:=xQ hI
 have HE:=xQ hE
 have HRE:=xQ hRE
 have hwk:=hgl
 have HB4:Hid (Below w.1.size w w4):=HB3.out.trans (hRE.asd.below HB3.out.size (fun k hk hc=>by have:=(HCr.out.far k hc).1;omega))
 obtain⟨hgd,hXb,h8,-⟩:=Sc.goes_good hI.goes
 have hfew:xs.length<=64*b.length:=by
  have:=Rd.rows_few hI.goes
  have:=hI.len
  simp at this
  omega
 have hk4b:k4<=100000000:=by omega
 have HJ:Hid (k4<=2202*(j+1)∧8*j<=b.length):=⟨by omega,by omega⟩
 clear hlist hTl hc4 hI hE hRE HAll hk4 hgd hXb h8 hwk
 go_wp2_with fail
 refine HC4.out.mono ?_
 rintro e w' ⟨rfl,hw'⟩
 rw[hw']
 clear hw' w' HC4
 have HNum:Hid (∀i (h:i<xs.length),xs[i].t.at_=(i:Nat)∧0<=xs[i].t.num∧(∀h':i+1<xs.length,xs[i].t.num<=xs[i+1].t.num)):=fun i h=>by
  have h1:=HI.out.at_ i (by simpa using h)
  have h2:=HI.out.num i (by simpa using h)
  simp only[List.getElem_map] at h1 h2
  exact⟨h1,h2.1,fun h'=>by have h3:=HI.out.mono i (by simpa using h');simpa using h3⟩
 go_wp2_with fail
 go_loopw [10,42] (fun v10 v42 wr=>∃(i:Nat) (L:Int),i<=xs.length∧v10=.int .i64 L∧v42=.int .i64 i∧Hid (Below w4.1.size w4 wr∧∀h:i<xs.length,L<=xs[i].t.num)) (fun _ v42 _=>xs.length-(intOf v42).toNat)
 case atStart=>exact⟨0,0,Nat.zero_le _,rfl,rfl,xZ,fun h=>(HNum.out 0 h).2.1⟩
 case round=>
  obtain⟨i,L,hi,rfl,rfl,HR⟩:=hrel
  by_cases hil:i<xs.length
  ·have hil':(i:Int)<(xs.length:Int):=by omega
   obtain⟨bb,o,hq,hbb,hcl⟩:=HTl.out i hil
   subst hq
   obtain⟨x,hx⟩:∃x,x=xs[i]:=⟨_,rfl⟩
   rw[<-hx] at hcl
   have hn:=HNum.out i hil
   have hL:=HR.out.2 hil
   rw[<-hx] at hn hL
   have x0:wr.cell? ⟨bb,o+i*4,none⟩=some (.slice x.q x.t.row.length x.d):=ae HR.out.1 (hcl 0 (by omega))
   have x1:wr.cell? ⟨bb,o+i*4+1,none⟩=some (.int .i64 (i:Nat)):=by rw[<-hn.1];exact ae HR.out.1 (hcl 1 (by omega))
   have x2:wr.cell? ⟨bb,o+i*4+2,none⟩=some (.int .i64 x.t.num):=ae HR.out.1 (hcl 2 (by omega))
   have x3:wr.cell? ⟨bb,o+i*4+3,none⟩=some (.int .i64 0):=ae HR.out.1 (hcl 3 (by omega))
   have g1:((i:Int) != (i:Int))=false:=cg rfl
   have g2:¬x.t.num<L:=by omega
   have hiI:(i:Int)<6400000:=by omega
   have HN2:Hid (∀h':i+1<xs.length,x.t.num<=xs[i+1].t.num):=fun h'=>by rw[hx];exact(HNum.out i hil).2.2 h'
   have HBo:Hid (∀ob,Below w4.1.size w4 (wr.alloc ob)):=fun ob=>HR.out.1.alloc HR.out.1.size ob
   clear hn hL hcl hx hbb
   go_wp2
   go_roundw
   case rel=>exact⟨i+1,_,by omega,rfl,by go_num,HBo.out _,HN2.out⟩
   case measure=>simp[intOf];omega
  ·have hie:i=xs.length:=by omega
   subst hie
   clear hil
   have hB4r:=HR.out.1
   have hBr:Below w.1.size w wr:=HB4.out.trans (hB4r.mono HB4.out.size)
   obtain⟨s,x,k,q1,q2,q3,q4⟩:=(HRE.out.file.on hB4r).out
   have hvr:Hv wr:=HV.out.next hBr
   have hzr:=hBr.size
   have hzr2:=HRE.out.asd.size
   have hzr3:=hB4r.size
   have hB:1<w1.1.size:=(HV.out.next HB1.out).lt
   have HWh:=xQ (uY q1 q3 (by rw[q2];omega) (by have:=HJ.out;omega) hvr hB (by omega) (G:=fun i=>i=g∨v.ownBlock=some i) (fun i hi=>hi) (fun i hi=>hi.elim (fun h=>by omega) (fun h=>(q1.has.lt i h).2)))
   obtain⟨pb,hrb⟩:=HRE.out.blk
   have hrbr:=(hB4r.block r (ao hrb)).trans hrb
   have HRb:=xQ hrbr
   have HBr:=xQ hBr
   have HQ2:=xQ q2
   have hgr:=HCr.out.gr
   clear q1 q2 q3 q4 hvr hrb hrbr hBr hB4r
   go_wp2_with fail
   refine HWh.out.mono ?_
   rintro e w5 ⟨j5,X5,er5,v5,g5,t1,t2,rfl,hk5,hd5,ha5⟩
   rw[HQ2.out] at t1 t2
   have hb5:=(ha5.block r (ao HRb.out) (fun hc=>hgr hc.symm)).trans HRb.out
   have HEr:=xQ (vN hb5)
   have HRows:=xQ (wP hk5)
   have HB5:Hid (Below w.1.size w w5):=HBr.out.trans (ha5.below HBr.out.size (fun k hk hc=>by omega))
   have hup:X.wk.rows<=X5.wk.rows:=Rd.rows_up HI.out.goes (Sc.goes_once t1 t2 HI.out.goes) t1
   have hxl:(xs.length:Int)=X.wk.rows:=by simpa using HI.out.len
   have hr5:=hk5.good.rows
   have h3:(xs.length:Int)<=X5.wk.rows:=by omega
   have HT:=xQ (And.intro t1 t2)
   obtain⟨R5,hR5⟩:∃R5,R5=X5.wk.rows:=⟨_,rfl⟩
   obtain⟨A5,hA5⟩:∃A5,A5=X5.at_:=⟨_,rfl⟩
   have HX5:=xQ (And.intro hR5 hA5)
   rw[<-hR5] at HRows h3 hr5
   rw[<-hA5]
   clear t1 t2 hk5 hd5 ha5 hb5 HWh hup hxl hR5 hA5
   by_cases he:er=140
   ·subst he
    have hst:=Rd.end_ne HI.out HE.out rfl
    obtain⟨-,rfl,rfl⟩:=Sc.goes_uniq HI.out.goes hst HT.out.1 HT.out.2
    have hat:=Sc.step_ne (Sc.goes_good HI.out.goes).2.1 hst rfl
    have hx1:R5=(xs.length:Int):=by rw[HX5.out.1];exact(by simpa using HI.out.len.symm)
    have hx2:A5=b.length:=by rw[HX5.out.2];exact hat
    subst hx1 hx2
    rw[if_pos rfl] at HEr
    clear hst hat
    go_wp2_with fail
    refine HEr.out.mono ?_
    rintro e w' ⟨rfl,hw'⟩
    rw[hw']
    clear hw' w'
    go_wp2_with fail
    refine HRows.out.mono ?_
    rintro e w' ⟨rfl,hw'⟩
    rw[hw']
    clear hw' w'
    go_wp2_with fail
    refine HRows.out.mono ?_
    rintro e w' ⟨rfl,hw'⟩
    rw[hw']
    clear hw' w'
    go_wp2
    go_ret
    refine⟨?_,HB5.out⟩
    show Ending.returned (.bool (decide ((k4:Int)<=((b.length:Int) / 3+2)*2202)))=_
    rw[decide_eq_true (by have:=HJ.out;omega)]
   ·rw[if_neg he] at HEr
    have g1:((er:Int)==0)=false:=bv (by omega)
    clear he
    go_wp2_with fail
    refine HEr.out.mono ?_
    rintro e w' ⟨rfl,hw'⟩
    rw[hw']
    clear hw' w'
    go_wp2_with fail
    refine HRows.out.mono ?_
    rintro e w' ⟨rfl,hw'⟩
    rw[hw']
    clear hw' w'
    go_wp2
    go_ret
    refine⟨?_,HB5.out⟩
    show Ending.returned (.bool (decide ((k4:Int)<=((b.length:Int) / 3+2)*2202)))=_
    rw[decide_eq_true (by have:=HJ.out;omega)]
end
section
open Go.RowKit
attribute [local go_sem] af
def mW(k:Int):AV:=#[.string ⟨#[97]⟩,.int .i64 k,.slice none 0 0,.bool false,.int .i64 0,.int .i64 0,.float .f64 0,.string ⟨#[]⟩,.slice none 0 0]
theorem mU{k:Int}(hk:k=2∨k=3)(h1:W.1[b]?=some (.cells (mW k) 90 (0,0))):dc W (some ⟨b,0,none⟩) 1 (ay k):=by
 refine⟨by show 1*120<=_;decide,by show 1<=1;decide,?_,eo hk⟩
 have h3:=aa h1
 intro j hj
 have hj2:j<1:=hj
 obtain rfl:j=0:=by omega
 refine⟨aD ⟨#[97]⟩ k none 0 0 false 0 0 0 ⟨#[]⟩ none 0 0,⟨k,none,0,0,0,0,0,⟨#[]⟩,none,0,0,rfl,.mk (xs:=[]) (fun _=>#[]) (by simp) (by simp) (fun hc=>absurd rfl hc) (fun j hj=>by simp at hj),.mk (xs:=[]) (fun _=>#[]) (by simp) (by simp) (fun hc=>absurd rfl hc) (fun j hj=>by simp at hj)⟩,⟨b,0,⟨#[97]⟩,k,none,0,0,false,0,0,0,⟨#[]⟩,none,0,0,rfl,ao h1,rfl,?_⟩⟩
 exact⟨h3 0,h3 1,h3 2,h3 3,h3 4,h3 5,h3 6,h3 7,h3 8⟩
theorem mV(k:Int)(hk:k=2∨k=3)(w:World):Calls Tryz.prog 14 #[.int .i64 k] w fun e w'=>∃p,e=.returned (.agg #[.slice p 1 1])∧dc w' p 1 (ay k)∧Below w.1.size w w':=by
 obtain⟨W,hW⟩:∃W,W=(w.alloc (.cells #[.slice (some ⟨w.1.size+1,0,none⟩) 1 1] 53)).alloc (.cells (mW k) 90):=⟨_,rfl⟩
 obtain⟨h0,h1,hb,-⟩:=al2 w (.cells #[.slice (some ⟨w.1.size+1,0,none⟩) 1 1] 53) (.cells (mW k) 90)
 rw[<-hW] at h0 h1 hb
 have HB:=xQ hb
 have H1:=xQ (mU hk h1)
 have H0:=xQ h0
 have HW:Hid ((w.alloc (.cells #[.slice (some ⟨w.1.size+1,0,none⟩) 1 1] 53)).alloc (.cells #[.string ⟨#[97]⟩,.int .i64 k,.slice none 0 0,.bool false,.int .i64 0,.int .i64 0,.float .f64 0,.string ⟨#[]⟩,.slice none 0 0] 90)=W):=hW.symm
 clear h0 h1 hW hb hk
 go_enter Tryz.func14,Tryz.ntmps14
 go_wp2
 rw[HW.out]
 refine bodyPost_ret (results_cell_row rfl _ _ w.1.size _ _ _ _ rfl H0.out Tryz.underlying53 rfl (by kernel_rfl)) rfl ?_
 exact⟨_,rfl,H1.out,HB.out⟩
theorem mM{i:Int}(hi:-10<=i∧i<=10)(h:W.1[b]?=some (.cells #[.int .i64 2,.int .i64 i,.float .f64 0,.string ⟨#[]⟩,.slice none 0 0] 47 (0,0))):aW W (some ⟨b,0,none⟩) 1 (bV i):=by
 refine⟨.mk (xs:=bV i) (fun _=>cells5 2 i 0 ⟨#[]⟩ none 0 0) (by show 1*64<=_;decide) (by show 1<=1;decide) (fun _=>⟨b,0,rfl,ao h,fun j hj m hm=>?_⟩) (fun j hj=>?_),io i hi⟩
 ·have:j=0:=by have:j<1:=hj;omega
  subst this
  rw[aa h]
  simp[cells5]
 ·have:j=0:=by have:j<1:=hj;omega
  subst this
  exact .mk (xs:=[]) (fun _=>#[]) (by simp) (by simp) (fun hc=>absurd rfl hc) (fun j hj=>by simp at hj)
theorem qW(i:Int)(hi:-10<=i∧i<=10)(w:World):Calls Tryz.prog 12 #[.int .i64 i] w fun e w'=>∃q,e=.returned (.agg #[.slice q 1 1])∧aW w' q 1 (bV i)∧Below w.1.size w w':=by
 obtain⟨W,hW⟩:∃W,W=(w.alloc (.cells #[.slice (some ⟨w.1.size+1,0,none⟩) 1 1] 35)).alloc (.cells #[.int .i64 2,.int .i64 i,.float .f64 0,.string ⟨#[]⟩,.slice none 0 0] 47):=⟨_,rfl⟩
 obtain⟨h0,h1,hb,-⟩:=al2 w (.cells #[.slice (some ⟨w.1.size+1,0,none⟩) 1 1] 35) (.cells #[.int .i64 2,.int .i64 i,.float .f64 0,.string ⟨#[]⟩,.slice none 0 0] 47)
 rw[<-hW] at h0 h1 hb
 have HB:=xQ hb
 have H1:=xQ (mM hi h1)
 have H0:=xQ h0
 have HW:=xQ hW.symm
 clear h0 h1 hW hb hi
 go_enter Tryz.func12,Tryz.ntmps12
 go_wp2
 rw[HW.out]
 refine bodyPost_ret (results_cell_row rfl _ _ w.1.size _ _ _ _ rfl H0.out Tryz.underlying35 rfl (by kernel_rfl)) rfl ?_
 exact⟨_,rfl,H1.out,HB.out⟩
theorem lD{q1 q2:OA}(h:W.1[b]?=some (.cells #[.slice q1 1 1,.slice q2 1 1] 35 (0,0)))(h1:aW W q1 1 (bV 1))(h2:aW W q2 1 (bV (-2))):fJ W (some ⟨b,0,none⟩) 2 cr :=
 ⟨by show 2*24<=_;decide,by show 2<=2;decide,fun j hj=>by
  have hj2:j<2:=hj
  match j,hj2 with
  |0,_=>exact⟨b,0,q1,1,rfl,ao h,aa h 0,h1⟩
  |1,_=>exact⟨b,0,q2,1,rfl,ao h,aa h 1,h2⟩⟩
theorem uU(p q:OA)(c d:Nat)(w:World)(hS:dc w p c (ay 2))(hL:fJ w q d cr):Calls Tryz.prog 13 #[.agg #[.slice p 1 c],.slice q 2 d] w (sO w ⟨0,[0,2,3]⟩):=by
 have h:=uT (ay 2) p c cr (qV (fun y hy x hx=>by
  unfold cr at hy
  rcases List.mem_cons.1 hy with rfl | hy
  ·exact⟨1,0,⟨#[]⟩,List.mem_singleton.1 hx⟩
  ·rw[List.mem_singleton.1 hy] at hx
   exact⟨-2,0,⟨#[]⟩,List.mem_singleton.1 hx⟩)) (by rw[di];decide) sB q d w hS hL
 rw[di] at h
 exact h
theorem vA(h:dc W p c (ay 2)):cC W (av 1 0 p 1 c 0 0 0 none 0 0 0 0 0 none 0 0) bf:=⟨p,c,none,0,none,0,rfl,h.len,h.cap,h.cols,by decide,by decide,.inl rfl,by decide,by decide,iG _ _⟩
theorem vC(h:At W q [0,2,3])(hc:3<=c):cC W (av 2 0 none 0 0 0 0 2 q 3 c 0 0 0 none 0 0) bg:=⟨none,0,q,c,none,0,rfl,by decide,by decide,fun j hj=>absurd hj (Nat.not_lt_zero _),by decide,hc,h,by decide,by decide,iG _ _⟩
theorem uB:bf.wf:=by
 refine⟨by simp[bf,Fr.i64],by simp[bf,Fr.i64],eo (.inl rfl),by simp[bf,Fr0,Fr.i64],by simp[bf,Fr0,Fr.i64],by simp[bf,Fr0,Fr.i64],by simp[bf,Fr0,kO,Fr.i64],by simp[bf,Fr0,kO]⟩
theorem uC:bg.wf:=by
 refine⟨by simp[bg,Fr.i64],by simp[bg,Fr.i64],by simp[bg,Fr0],by simp[bg,Fr.i64],by simp[bg,Fr.i64],by simp[bg,Fr.i64],by simp[bg,Fr0,kO,Fr.i64],by simp[bg,Fr0,kO]⟩
theorem aW.flo16{x:Nat}(h:aW w q c [F16 x]):∃b o vp vc,q=some ⟨b,o,none⟩∧w.cell? ⟨b,o,none⟩=some (.int .i64 3)∧w.cell? ⟨b,o+1,none⟩=some (.int .i64 0)∧w.cell? ⟨b,o+2,none⟩=some (.float .f64 x)∧w.cell? ⟨b,o+3,none⟩=some (.string ⟨#[]⟩)∧w.cell? ⟨b,o+4,none⟩=some (.slice vp 0 vc):=by
 obtain⟨u,h1,h2⟩:=h.items.2.2 0 (by show 0<1;decide)
 obtain⟨p',c',hu,-⟩:=aJ.open (k:=3) (i:=0) (b:=x) (t:=⟨#[]⟩) (xs:=[]) h1
 subst hu
 obtain⟨b,o,k',i',b',t',q',n',d',e1,e2,e3,e4,e5,e6,e7,e8⟩:=h2.lies
 simp only[cells5,Array.mk.injEq,List.cons.injEq,Value.slice.injEq,Value.int.injEq,Value.float.injEq,Value.string.injEq,and_true,true_and] at e3
 obtain⟨rfl,rfl,rfl,rfl,rfl,rfl,rfl⟩:=e3
 exact⟨b,o,_,_,e1,e4,e5,e6,e7,e8⟩
theorem tZ{xs:List Tx}{t0 t1:Tl}(h:xs.map Tx.t=[t0,t1]):∃x0 x1,xs=[x0,x1]∧x0.t=t0∧x1.t=t1:=by
 match xs,h with
 | [x0,x1],h=>
  simp at h
  exact⟨x0,x1,rfl,h.1,h.2⟩
theorem fz{l:L8}(h:Has w B (.slice p n c) l):At w p l∧l.length<=c:=by
 obtain⟨p',c',he,h1,h2⟩:=h.at
 injection he with e1 e2 e3
 subst e1 e3
 exact⟨h1,h2⟩
theorem uW(w:World)(hv:Hv w):Calls Tryz.prog 4 #[] w fun e w'=>e=.returned (.bool true)∧Below w.1.size w w':=by
  have HV:=xQ hv
  clear hv
  go_enter Tryz.func4,Tryz.ntmps4
  go_wp2_with fail
  refine(mV 2 (.inl rfl) w).mono ?_
  rintro e w1 ⟨p1,rfl,hs1,hb1⟩
  have HS1:=xQ hs1
  have HB1:=xQ hb1
  clear hs1 hb1
  go_wp2_with fail
  refine(qW 1 (by omega) w1).mono ?_
  rintro e w2 ⟨q1,rfl,hr1,hb2⟩
  have HR1:=xQ hr1
  have HB2:=xQ hb2
  clear hr1 hb2
  go_wp2_with fail
  refine(qW (-2) (by omega) w2).mono ?_
  rintro e w3 ⟨q2,rfl,hr2,hb3⟩
  obtain⟨W3,hW3⟩:∃W3,W3=w3.alloc (.cells #[.slice q1 1 1,.slice q2 1 1] 35):=⟨_,rfl⟩
  have hbW:Below w3.1.size w3 W3:=by rw[hW3];exact xY
  have hb13:=HB2.out.trans (hb3.mono HB2.out.size)
  have hkW:W3.1[w3.1.size]?=some (.cells #[.slice q1 1 1,.slice q2 1 1] 35 (0,0)):=by rw[hW3];exact ap w3 _
  have HPk:=xQ (uU p1 (some ⟨w3.1.size,0,none⟩) 1 2 W3 ((HS1.out.on hb13).on hbW) (lD hkW ((HR1.out.on hb3).on hbW) (hr2.on hbW)))
  have HB3:=xQ ((HB1.out.trans (hb13.mono HB1.out.size)).trans (hbW.mono (by have:=HB1.out.size;have:=hb13.size;omega)))
  have HW3:=xQ hW3
  clear hr2 hb3 hW3 hbW hb13 hkW
  go_wp2_with fail
  rw[<-HW3.out]
  refine HPk.out.mono ?_
  rintro e w4 ⟨qb,m4,cb,rfl,hm4,hh4,hb4⟩
  have hm:m4=3:=hm4
  subst hm
  have hat4:=fz hh4
  have HT:=xQ hat4
  have HB4:=xQ (HB3.out.trans (hb4.mono HB3.out.size))
  clear hm4 hh4 hb4 HPk HW3 hat4
  go_wp2_with fail
  refine(mV 2 (.inl rfl) w4).mono ?_
  rintro e w5 ⟨p5,rfl,hs5,hb5⟩
  have HB5:=xQ (HB4.out.trans (hb5.mono HB4.out.size))
  have HV5:=xQ (HV.out.next HB5.out)
  have HE5:=xQ (jJ bf rfl uB _ w5 HV5.out (vA hs5))
  have HT5:=xQ (And.intro (HT.out.1.on hb5) HT.out.2)
  rw[kl,jU] at HE5
  unfold av at HE5
  clear hs5 hb5
  go_wp2_with fail
  refine HE5.out.mono ?_
  rintro e w6 (⟨-,qs,cs,rfl,hh6,hb6⟩ | ⟨h,-⟩)
  case inr=>exact absurd rfl h
  have HS6:=xQ (fz hh6)
  have HB6:=xQ (HB5.out.trans (hb6.mono HB5.out.size))
  have HV6:=xQ (HV.out.next HB6.out)
  have HE6:=xQ (jI bg rfl uC _ w6 HV6.out (vC (HT5.out.1.on hb6) HT5.out.2))
  rw[km,jV] at HE6
  unfold av at HE6
  rw[show(0::(i7++[0])).length=14 from rfl]
  clear hh6 hb6 HE5
  go_wp2_with fail
  refine HE6.out.mono ?_
  rintro e w7 (⟨-,qx,cx,rfl,hh7,hb7⟩ | ⟨h,-⟩)
  case inr=>exact absurd rfl h
  have HX7:=xQ (fz hh7)
  have HS7:=xQ (And.intro (HS6.out.1.on hb7) HS6.out.2)
  have HB7:=xQ (HB6.out.trans (hb7.mono HB6.out.size))
  rw[show(0::(pw++[0])).length=15 from rfl]
  clear hh7 hb7 HE6
  go_wp2_with (first
    | (at_builtin
       refine aK (B:=w7.1.size) (xs:=[]) (l:=0::(i7++[0])) (p:=qs) (c:=cs) (aX _ _) HS7.out.1 (by decide) xX rfl rfl rfl rfl rfl ?_
       intro ys q8 c8 W8 HY hh8 ha8 ho8
       have hb8:Below w7.1.size w7 W8:=aE ha8 (aX _ _) xX
       have hye:ys=0::(i7++[0]):=HY.out
       subst hye
       rw[show(0::(i7++[0])).length=14 from rfl]
       have HH8:Hid (Has W8 w7.1.size (.slice q8 14 c8) (0::(i7++[0]))):=hh8
       have HB8:=xQ hb8
       clear hh8 ha8 ho8 HY hb8)
    | (at_builtin
       refine aK (B:=w7.1.size) (xs:=0::(i7++[0])) (l:=0::(pw++[0])) (p:=qx) (c:=cx) HH8.out (HX7.out.1.on HB8.out) (by decide) HB8.out.size rfl rfl rfl rfl rfl ?_
       intro ys q9 c9 W9 HY hh9 ha9 ho9
       have hb9:Below w7.1.size w7 W9:=HB8.out.trans (aE ha9 HH8.out HB8.out.size)
       have hye:ys=bh:=HY.out
       subst hye
       rw[show bh.length=29 from rfl]
       have HH9:Hid (At W9 q9 bh∧bh.length<=c9):=fz hh9
       have HB9:=xQ hb9
       clear hh9 ha9 ho9 HY hb9)
    |fail)
  have HB9w:=xQ (HB7.out.trans (HB9.out.mono HB7.out.size))
  have HLd:=xQ (rI bh q9 c9 W9 (by decide) HH9.out.1)
  rw[show bh.length=29 from rfl] at HLd
  refine HLd.out.mono ?_
  rintro e w10 ⟨g,y,v,rfl,hup,hb10⟩
  have hgl:=hup.lt
  have HRw:=xQ (uS w10 g (fun i=>i=g∨v.ownBlock=some i) (fun k hk=>hk.elim (fun h=>by omega) (fun h=>(hup.own h).2)))
  have HUp:=xQ hup
  have HB10:=xQ hb10
  clear hup hb10 HLd
  go_wp2_with fail
  refine HRw.out.mono ?_
  rintro e w11 ⟨r,a,M,rfl,hnew⟩
  have HN1:=xQ hnew
  clear hnew HRw
  go_wp2_with fail
  refine(mV 3 (.inr rfl) w11).mono ?_
  rintro e w12 ⟨p12,rfl,hs12,hb12⟩
  have hfar:=HN1.out.far
  have hbas:=HN1.out.walk.base
  have hz11:=HN1.out.below.size
  have HAs:=xQ (asK w12 g p12 1 (fun i=>i=g∨v.ownBlock=some i∨i=r∨i=a∨i=M) (fun k hk=>by
    have hz:=hb12.size
    have hal:=HN1.out.walk.lt
    rcases hk with hk | hk | hk | hk | hk
    · omega
    · have:=(HUp.out.own hk).2;omega
    · omega
    · omega
    · omega) hs12.cols)
  have HB12:=xQ hb12
  clear hs12 hb12
  go_wp2_with fail
  refine HAs.out.mono ?_
  rintro e w13 ⟨r2,a2,M2,uq,uc,rfl,hnew2,hst2⟩
  have hb1213:=hnew2.below
  have hb1113:=HB12.out.trans (hb1213.mono HB12.out.size)
  have hb1013:=HN1.out.below.trans (hb1113.mono HN1.out.below.size)
  have hz7:=HB7.out.size
  have hz9:=HB9.out.size
  have hz10:=HB10.out.size
  have hz12:=HB12.out.size
  have hz13:=hb1213.size
  have hfar2:=hnew2.far
  have hbas2:=hnew2.walk.base
  have hal:=HN1.out.walk.lt
  have hal2:=hnew2.walk.lt
  have hml2:=hnew2.walk.map.lt
  have hB9w:=HB9w.out
  have hzw:=HB9w.out.size
  have hbw13:Below w.1.size w w13:=(hB9w.trans (HB10.out.mono hB9w.size)).trans (hb1013.mono (by omega))
  have hv13:Hv w13:=HV.out.next hbw13
  have hhB:1<W9.1.size:=(HV.out.next hB9w).lt
  have hownl:∀i,v.ownBlock=some i->i<w10.1.size:=fun i hi=>(HUp.out.own hi).2
  have hgG:=HUp.out.ne
  obtain⟨hC1,hL1⟩:=jR (tr:=id) (un:=.slice none 0 0) (r:=r) (a:=a) (M:=M) ((hb1113.block r (by omega)).trans HN1.out.blk) (HN1.out.walk.on hb1113) (HUp.out.on hb1013) hv13 hhB hz10 (by omega) (by decide) (fun i hi=>by
    rcases hi with hi | hi | hi
    · exact .inl (.inl hi)
    · exact .inl (.inr hi)
    · exact .inr hi) (by omega) (fun i hi=>⟨hgG i hi,by have:=hownl i hi;omega⟩)
  have HAll1:=xQ (vV (om w13 g r a M 0 bh) hC1 hL1 (by omega) (by omega))
  have HN2:=xQ hnew2
  have HSt2:=xQ hst2
  have HBw13:=xQ hbw13
  have HHB:=xQ hhB
  clear hnew2 hst2 hC1 hL1 hb1213 hb1113 hb1013 hv13 hB9w hbw13 hhB HAs
  go_wp2_with fail
  refine HAll1.out.mono ?_
  rintro e w14 ⟨vs1,xs1,er1,rfl,ho1,hs1,j1,X1,hI1,hE1,-,hR1⟩
  obtain⟨rfl,hts1⟩:=ut hI1 hE1
  obtain⟨x0,x1,rfl,ht0,ht1⟩:=tZ hts1
  have hz14:=hR1.asd.size
  have hbw14:Below w.1.size w w14:=HBw13.out.trans (hR1.asd.below (by omega) (fun k hk hc=>by rcases hc with hc | hc | hc | hc <;> omega))
  have hv14:Hv w14:=HV.out.next hbw14
  have hwk2:=HN2.out.walk.aside (G':=fun i=>(i=g∨v.ownBlock=some i∨i=r∨i=a∨i=M)∨i=r2) (hR1.asd.mono (fun i _ hi=>.inl (by
    rcases hi with hi | hi | hi | hi
    · exact .inl hi
    · exact .inr (.inr (.inl hi))
    · exact .inr (.inr (.inr (.inl hi)))
    · exact .inr (.inr (.inr (.inr hi)))))) (fun k hk=>.inl hk) (fun k hk=>Nat.lt_of_lt_of_le (HN2.out.walk.low k hk) hz14)
  have hno2:∀i,i=r2∨i=a2∨i=M2->¬gS g r a M i:=fun i hi hc=>by rcases hc with hc | hc | hc | hc <;> omega
  have hj1:j1<=10:=by have:=(Sc.goes_good hI1.goes).2;have:bh.length=29:=rfl;omega
  obtain⟨hC2,hL2⟩:=jR (tr:=uH) (un:=.slice uq 1 uc) (r:=r2) (a:=a2) (M:=M2) ((hR1.asd.block r2 (by omega) (hno2 r2 (.inl rfl))).trans HN2.out.blk) hwk2 hR1.file hv14 HHB.out (by omega) (by omega) (by decide) (fun i hi=>by
    rcases hi with hi | hi | hi
    · exact .inl (.inl hi)
    · exact .inl (.inr (.inl hi))
    · exact .inr hi) (by omega) (fun i hi=>⟨hgG i hi,by have:=hownl i hi;omega⟩)
  have hU:bI (gS g r2 a2 M2) w14 (fun W=>bw W uq (ay 3)):=HSt2.out.step (hR1.asd.mono (fun i _ hi=>.inl (by rcases hi with hi | hi | hi | hi <;> omega))) (fun k hk=>.inl (by
    rcases hk with hk | hk | hk | hk
    · exact .inl (by omega)
    · exact .inr (.inl hk)
    · exact .inr (.inr (.inl hk))
    · exact .inr (.inr (.inr hk))))
  have HAll2:=xQ (vV (uN (c:=uc) hU) hC2 hL2 (by omega) (by omega))
  have HO1:=xQ ho1
  have HS1':=xQ hs1
  have HRE1:=xQ hR1
  have HBw14:=xQ hbw14
  obtain⟨pv1,cv1,hvs1,hcv1,-⟩:=ho1.form
  subst hvs1
  have HTs:=xQ (And.intro ht0 ht1)
  have hl2:([x0,x1]:List Tx).length=2:=rfl
  rw[hl2]
  clear ho1 hs1 hI1 hE1 hR1 hts1 hbw14 hv14 hwk2 hC2 hL2 hU HAll1 ht0 ht1 hcv1 hj1
  go_wp2_with fail
  refine HAll2.out.mono ?_
  rintro e w15 ⟨vs2,xs2,er2,rfl,ho2,hs2,j2,X2,hI2,hE2,-,hR2⟩
  obtain⟨rfl,hts2⟩:=ut hI2 hE2
  obtain⟨y0,y1,rfl,hu0,hu1⟩:=tZ hts2
  obtain⟨pv2,cv2,hvs2,hcv2,hTl2⟩:=ho2.form
  subst hvs2
  have hz15:=hR2.asd.size
  have hbw15:Below w.1.size w w15:=HBw14.out.trans (hR2.asd.below (by omega) (fun k hk hc=>by rcases hc with hc | hc | hc | hc <;> omega))
  have hTl1:TlL w15 pv1 [x0,x1]:=by
    have h1:=HO1.out.aside hR2.asd (fun i hi hc=>by have:=(HO1.out.lt i hi).1;rcases hc with hc | hc | hc | hc <;> omega)
    obtain⟨p',c',he,-,h2⟩:=h1.form
    injection he with e1 _ _
    rw[e1]
    exact h2
  have hrl1:aW w15 x1.q x1.d x1.t.row:=(HS1'.out.step (F':=fun i=>i<w13.1.size) (hR2.asd.mono (fun i _ hc=>by rcases hc with hc | hc | hc | hc <;> omega)) (fun k hk=>.inl hk) x1 (by simp)).here
  have hrl2:aW w15 y1.q y1.d y1.t.row:=(hs2 y1 (by simp)).here
  rw[HTs.out.2] at hrl1
  rw[hu1] at hrl2
  obtain⟨b1,o1,h1q,hb1l,hc1⟩:=hTl1 1 (by simp)
  obtain⟨b2,o2,h2q,hb2l,hc2⟩:=hTl2 1 (by simp)
  subst h1q h2q
  obtain⟨f1,u1,vp1,vc1,hq1,-,-,a0,a1,a2',a3,a4⟩:=aW.val16 (i:=-2) hrl1
  obtain⟨f2,u2,vp2,vc2,hq2,b0',b1',b2',b3',b4'⟩:=aW.flo16 (x:=13835058055282163712) hrl2
  have k0:w15.cell? ⟨b1,o1+4,none⟩=some (.slice (some ⟨f1,u1,none⟩) 1 x1.d):=by
    have:=hc1 0 (by omega)
    simp only[List.getElem_cons_succ,List.getElem_cons_zero,tlC,HTs.out.2,hq1] at this
    exact this
  have k1:w15.cell? ⟨b1,o1+4+1,none⟩=some (.int .i64 1):=by
    have:=hc1 1 (by omega)
    simp only[List.getElem_cons_succ,List.getElem_cons_zero,tlC,HTs.out.2,hq1] at this
    exact this
  have m0:w15.cell? ⟨b2,o2+4,none⟩=some (.slice (some ⟨f2,u2,none⟩) 1 y1.d):=by
    have:=hc2 0 (by omega)
    simp only[List.getElem_cons_succ,List.getElem_cons_zero,tlC,hu1,hq2] at this
    exact this
  obtain⟨pb1,hrb1⟩:=HRE1.out.blk
  obtain⟨pb2,hrb2⟩:=hR2.blk
  have HEr1:=xQ (vN ((hR2.asd.block r (by omega) (fun hc=>by rcases hc with hc | hc | hc | hc <;> omega)).trans hrb1))
  have HEr2:=xQ (vN hrb2)
  rw[if_pos rfl] at HEr1 HEr2
  have HB15:=xQ hbw15
  have hl2':([y0,y1]:List Tx).length=2:=rfl
  rw[hl2']
  clear ho2 hs2 hI2 hE2 hR2 hts2 hTl1 hTl2 hrl1 hrl2 hc1 hc2 hrb1 hrb2 HAll2 hbw15 hu0 hu1 hq1 hq2 hcv2 hb1l hb2l
  go_wp2_with fail
  refine HEr1.out.mono ?_
  rintro e w' ⟨rfl,hw'⟩
  rw[hw']
  clear hw' w'
  go_wp2_with fail
  refine HEr2.out.mono ?_
  rintro e w' ⟨rfl,hw'⟩
  rw[hw']
  clear hw' w'
  have gf:(FloatKind.f64.format.order 13835058055282163712 13835058055282163712==some .eq)=true:=by kernel_rfl
  go_wp2
  go_ret
  exact⟨rfl,HB15.out⟩
end
end Go.Proofs.YtceomhodhmcknaaGreatDoor
