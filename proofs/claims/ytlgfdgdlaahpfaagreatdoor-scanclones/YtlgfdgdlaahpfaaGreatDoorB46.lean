import Derived.Test.YtlgfdgdlaahpfaaGreatDoorA3
set_option maxRecDepth 100000
set_option maxHeartbeats 8000000
namespace Go.Proofs.YtlgfdgdlaahpfaaGreatDoor
open Go.RowKit
theorem mu:Dv.write (Dv.new 100) (0::(Fr.run an++[0]))=(0,{ Dv.new 100 with b:=0::(Fr.run an++[0]),done:=14 }):=by
 have hl:=dp
 unfold Dv.write
 rw[if_neg (by simp[Dv.new]),if_neg (by simp[Dv.new,hl]),Dv.lay_free _ _ rfl]
 simp[Dv.new,hl]
theorem oV(w:World):(binOp .eql 64 (.agg #[.int .i64 20,.int .i64 0,.int .i64 0]) (.agg #[.int .i64 20,.int .i64 0,.int .i64 0])).run Tryz.prog w=.ok (.bool true) w:=by kernel_rfl
theorem tB(w:World)(hv:Hv w):Calls Tryz.prog 6 #[] w fun e w'=>e=.returned (.bool true)∧Below w.1.size w w':=by
 have HN:=vQ (qI w (fun _=>False) (fun _ h=>h.elim))
 have HHv:=vQ hv
 clear hv
 go_enter Tryz.func6,Tryz.ntmps6
 go_wp2_with fail
 refine HN.out.mono ?_
 rintro e w1 ⟨rfl,hk1,hb1,hs1⟩
 have HO:=vQ (sT w1)
 have HK1:=vQ hk1
 have HB1:=vQ hb1
 clear hk1 hb1 HN
 go_wp2_with fail
 refine HO.out.mono ?_
 rintro e w2 ⟨rfl,hc2,hb2,hs2⟩
 obtain⟨W3,hW3⟩:∃W3,W3=((w2.alloc (.cells #[.int .i64 1,.int .i64 0,.slice (some ⟨w1.1.size+1,0,none⟩) 1 1,.int .i64 0,.int .i64 0,.int .i64 0,.slice none 0 0,.int .i64 0,.int .i64 0,.int .i64 0,.slice none 0 0] 36)).alloc (.cells #[.int .u8 0,.int .u8 2,.int .u8 4] 5)).alloc (.cells #[.int .i64 2,.int .i64 0,.slice none 0 0,.int .i64 0,.int .i64 0,.int .i64 2,.slice (some ⟨w2.1.size+1,0,none⟩) 3 3,.int .i64 0,.int .i64 0,.int .i64 0,.slice none 0 0] 36):=⟨_,rfl⟩
 have hb3:Below w2.1.size w2 W3:=by rw[hW3];exact(vY.alloc (by simp) _).alloc (by simp;omega) _
 have hS:W3.1[w2.1.size]?=some (.cells #[.int .i64 1,.int .i64 0,.slice (some ⟨w1.1.size+1,0,none⟩) 1 1,.int .i64 0,.int .i64 0,.int .i64 0,.slice none 0 0,.int .i64 0,.int .i64 0,.int .i64 0,.slice none 0 0] 36 (0,0)):=by
  rw[hW3,aD _ _ (by simp;omega),aD _ _ (by simp)]
  exact ag w2 _
 have hY:W3.1[w2.1.size+1]?=some (.cells #[.int .u8 0,.int .u8 2,.int .u8 4] 5 (0,0)):=by
  rw[hW3,aD _ _ (by simp)]
  have:=ag (w2.alloc (.cells #[.int .i64 1,.int .i64 0,.slice (some ⟨w1.1.size+1,0,none⟩) 1 1,.int .i64 0,.int .i64 0,.int .i64 0,.slice none 0 0,.int .i64 0,.int .i64 0,.int .i64 0,.slice none 0 0] 36)) (.cells #[.int .u8 0,.int .u8 2,.int .u8 4] 5)
  simpa using this
 have hD:W3.1[w2.1.size+1+1]?=some (.cells #[.int .i64 2,.int .i64 0,.slice none 0 0,.int .i64 0,.int .i64 0,.int .i64 2,.slice (some ⟨w2.1.size+1,0,none⟩) 3 3,.int .i64 0,.int .i64 0,.int .i64 0,.slice none 0 0] 36 (0,0)):=by
  rw[hW3]
  have:=ag ((w2.alloc (.cells #[.int .i64 1,.int .i64 0,.slice (some ⟨w1.1.size+1,0,none⟩) 1 1,.int .i64 0,.int .i64 0,.int .i64 0,.slice none 0 0,.int .i64 0,.int .i64 0,.int .i64 0,.slice none 0 0] 36)).alloc (.cells #[.int .u8 0,.int .u8 2,.int .u8 4] 5)) (.cells #[.int .i64 2,.int .i64 0,.slice none 0 0,.int .i64 0,.int .i64 0,.int .i64 2,.slice (some ⟨w2.1.size+1,0,none⟩) 3 3,.int .i64 0,.int .i64 0,.int .i64 0,.slice none 0 0] 36)
  simpa using this
 have hI3:LvI w W3 0 Sc.new w2.1.size (w1.1.size+1) (w2.1.size+1+1) (w2.1.size+1):=by
  refine⟨⟨_,_,(HK1.out.on hb2).on hb3⟩,⟨hS,(hb3.block _ (aw hc2)).trans hc2,hD,hY⟩,(HB1.out.trans (hb2.mono HB1.out.size)).trans (hb3.mono (by have:=hb2.size;have:=HB1.out.size;omega))⟩
 have HW3:Hid (((w2.alloc (.cells #[.int .i64 1,.int .i64 0,.slice (some ⟨w1.1.size+1,0,none⟩) 1 1,.int .i64 0,.int .i64 0,.int .i64 0,.slice none 0 0,.int .i64 0,.int .i64 0,.int .i64 0,.slice none 0 0] 36)).alloc (.cells #[.int .u8 0,.int .u8 2,.int .u8 4] 5)).alloc (.cells #[.int .i64 2,.int .i64 0,.slice none 0 0,.int .i64 0,.int .i64 0,.int .i64 2,.slice (some ⟨w2.1.size+1,0,none⟩) 3 3,.int .i64 0,.int .i64 0,.int .i64 0,.slice none 0 0] 36)=W3):=hW3.symm
 have HCa:=vQ (hI3.calls HHv.out (by omega) aU jL _ hI3.lv.flD 0)
 rw[qz,sg] at HCa
 clear hb3 hS hY hD hI3 hc2 hb2 HO HK1 HB1 hW3 hs1 hs2
 go_wp2_with fail
 rw[HW3.out]
 refine HCa.out.mono ?_
 rintro e w4 ⟨rfl,hI4⟩
 obtain⟨a0,a1,a2,a3,a4,a5,a6,a7,a8,a9,a10⟩:=aO hI4.lv.s
 have HCb:=vQ (hI4.calls HHv.out (by omega) an gQ _ hI4.lv.flS 0)
 rw[qs,r9] at HCb
 clear hI4 HCa HW3
 go_wp2_with fail
 refine HCb.out.mono ?_
 rintro e w5 ⟨rfl,hI5⟩
 clear a0 a1 a2 a3 a4 a5 a6 a7 a8 a9 a10
 obtain⟨a0,a1,a2,a3,a4,a5,a6,a7,a8,a9,a10⟩:=aO hI5.lv.d
 have HCc:=vQ (hI5.calls HHv.out (by omega) aU jL _ hI5.lv.flD 20)
 rw[qw,sf] at HCc
 clear hI5 HCb
 go_wp2_with fail
 refine HCc.out.mono ?_
 rintro e w6 ⟨rfl,hI6⟩
 clear a0 a1 a2 a3 a4 a5 a6 a7 a8 a9 a10
 obtain⟨a0,a1,a2,a3,a4,a5,a6,a7,a8,a9,a10⟩:=aO hI6.lv.d
 have HCd:=vQ (hI6.calls HHv.out (by omega) aU jL _ hI6.lv.flD 40)
 rw[qu,sd] at HCd
 clear hI6 HCc
 go_wp2_with fail
 refine HCd.out.mono ?_
 rintro e w7 ⟨rfl,hI7⟩
 clear a0 a1 a2 a3 a4 a5 a6 a7 a8 a9 a10
 obtain⟨v7,g7,hk7⟩:=hI7.walk
 have HE:=vQ (kS hk7)
 rw[pw] at HE
 have HI7:=vQ hI7
 have HK7:=vQ hk7
 clear hI7 hk7 HCd
 go_wp2_with fail
 refine HE.out.mono ?_
 rintro e w8 ⟨ql,cl,rfl,hl8,hb8⟩
 have hk8:=HK7.out.on hb8
 have hSc:=nl hk8 0 ⟨by omega,by omega⟩
 rw[rM] at hSc
 have HSc:Hid (Calls Tryz.prog 18 #[.pointer (some ⟨w.1.size+1,0,none⟩),.int .i64 0] w8 fun e w'=>(∃q cap,e=.returned (.tuple #[.agg #[.slice q 1 cap],.bool true])∧cL w' w8.1.size #[.slice q 1 cap] (an.cols.map Col.fix))∧Below w8.1.size w8 w'):=hSc
 clear hSc
 have HL8:=vQ hl8
 have HK8:=vQ hk8
 have HI8:=vQ (HI7.out.on hb8)
 clear hl8 hb8 hk8 HE HI7 HK7
 go_wp2_with fail
 refine HSc.out.mono ?_
 rintro e w9 ⟨⟨qx,cx,rfl,hx9⟩,hb9⟩
 obtain⟨W10,hW10⟩:∃W10,W10=w9.alloc (.cells #[.slice qx 1 cx] 30):=⟨_,rfl⟩
 have hb10:Below w9.1.size w9 W10:=by rw[hW10];exact vY
 have hx10:W10.1[w9.1.size]?=some (.cells #[.slice qx 1 cx] 30):=by rw[hW10];exact ag w9 _
 have hB810:Below w8.1.size w8 W10:=hb9.trans (hb10.mono hb9.size)
 have hI10:=HI8.out.on hB810
 have HL10:=vQ (HL8.out.on hB810)
 have HK10:=vQ (HK8.out.on hB810)
 have HX10:=vQ (hx9.lies.on hb10)
 have HXb:=vQ hx10
 have HI10:=vQ hI10
 have HW10:Hid (w9.alloc (.cells #[.slice qx 1 cx] 30)=W10):=hW10.symm
 have HN:=vQ (sv 100 (by omega) W10)
 have hz10:W10.1.size=w9.1.size+1:=by rw[hW10];simp
 have HZ10:=vQ hz10
 clear hW10 hb10 hx10 hI10 hx9 hb9 hB810 HSc HL8 HK8 HI8 hz10
 go_wp2_with fail
 rw[HW10.out]
 refine HN.out.mono ?_
 rintro e w11 ⟨rfl,hk11,hb11⟩
 have hI11:=HI10.out.on hb11
 have hE:=nB an gQ _ w11 (HHv.out.next hI11.below) hI11.lv.flS
 rw[fI] at hE
 obtain⟨a0,a1,a2,a3,a4,a5,a6,a7,a8,a9,a10⟩:=aO hI11.lv.s
 obtain⟨L,hL⟩:∃L,L=0::(Fr.run an++[0]):=⟨_,rfl⟩
 have hLl:L.length=14:=by rw[hL];simp[dp]
 rw[<-hL] at hE
 have HE:=vQ hE
 have HLL:=vQ hL
 have HLl:=vQ hLl
 have HD11:=vQ hk11
 have HB11:=vQ hb11
 have HI11:=vQ hI11
 clear hI11 hE hk11 hb11 hL hLl HN HW10
 go_wp2_with fail
 refine HE.out.mono ?_
 rintro e w12 (⟨-,q,cap,rfl,hh,hb12⟩ | ⟨hc,-⟩)
 case inr=>exact absurd rfl hc
 obtain⟨gq,rfl,hm,-⟩:=il hh (by intro hc;have:=HLl.out;rw[hc] at this;cases this)
 obtain⟨q',cap',hcc,hat,hcapl⟩:=hh.at
 injection hcc with hq1 _ hcc
 subst hq1
 subst hcc
 have hgq:=(hh.lt gq rfl)
 have hB1012:Below W10.1.size W10 w12:=HB11.out.trans (hb12.mono HB11.out.size)
 have hd12:=HD11.out.below hb12
 have hgl:W10.1.size<w11.1.size:=HD11.out.lt
 have hWr:=tD hd12 (some ⟨gq,0,none⟩) cap L (by have:=HLl.out;omega) hat (fun _ b o hp hc=>by
  simp only[Option.some.injEq,Addr.mk.injEq,and_true] at hp
  rcases hc with hc | hc
  ·omega
  ·simp[Value.ownBlock] at hc) vX (by simp[Dv.new]) (by simp[Dv.new]) (by simp[Dv.new]) (by have:=hb12.size;omega)
 have e2:Dv.write (Dv.new 100) L=(0,{ Dv.new 100 with b:=L,done:=14 }):=by rw[HLL.out];exact mu
 rw[e2] at hWr
 have HWr:=vQ hWr
 have HB12:=vQ hB1012
 clear a0 a1 a2 a3 a4 a5 a6 a7 a8 a9 a10 hWr e2 hh hm hat hcapl hd12 hB1012 hb12 HE hgq
 go_wp2_with fail
 refine HWr.out.mono ?_
 rintro e w13 ⟨rfl,v13,x13,k13,hd13,ha13,hv13⟩
 have hB13:Below W10.1.size W10 w13:=HB12.out.trans (ha13.below (by have:=HB12.out.size;omega) (fun i hi hc=>by
  rcases hc with hc | hc
  ·omega
  ·simp[Value.ownBlock] at hc))
 have hH13:Hv w13:=HHv.out.next ((HI10.out.below).trans (hB13.mono HI10.out.below.size))
 have hHB:2<W10.1.size:=by have:=HHv.out.lt;have:=HI10.out.below.size;omega
 have hA:=kAt hd13 rfl (by show L.length<=_;have:=HLl.out;omega) (by show(Dv.new 100).told+L.length<=_;have:=HLl.out;simp[Dv.new];omega) hH13 hHB 0
 have e3:Sc.at_ L 0=.ok (Fr.norm an,14):=by rw[HLL.out];exact so
 have hA2:Calls Tryz.prog 22 #[.pointer (some ⟨W10.1.size,0,none⟩),.int .i64 0] w13 fun e w'=>(∃u,e=.returned (.tuple #[.agg u,.int .i64 14,.int .i64 0])∧cV w' w13.1.size u (Fr.norm an))∧aE w' W10.1.size W10.1.size v13 { Dv.new 100 with b:=L,done:=14,told:=0+Sc.reads L 0 } x13 k13∧Aside (fun k=>k=W10.1.size) w13 w':=by
  have h1:AtA (Sc.at_ L 0) w13=fun e w'=>∃u,e=.returned (.tuple #[.agg u,.int .i64 14,.int .i64 0])∧cV w' w13.1.size u (Fr.norm an):=by rw[e3];rfl
  have h2:=hA
  show Calls _ _ _ _ (fun e w'=>(fun e w'=>∃u,e=.returned (.tuple #[.agg u,.int .i64 14,.int .i64 0])∧cV w' w13.1.size u (Fr.norm an)) e w'∧_)
  rw[<-h1]
  exact h2
 have HA:=vQ hA2
 have HB13:=vQ hB13
 have HBB:=vQ hHB
 clear hd13 ha13 hv13 hB13 hH13 hHB hA hA2 e3 HWr HB12 HB11 HD11
 go_wp2_with fail
 refine HA.out.mono ?_
 rintro e w14 ⟨⟨u,rfl,hfo⟩,hd14,ha14⟩
 obtain⟨sp,sc,bp,bc,ep,ec,hu,-⟩:=hfo.out
 have hu2:u=#[.int .i64 1,.int .i64 (Fr.norm an).number,.slice sp (Fr.norm an).cols.length sc,.int .i64 (Fr.norm an).seq,.int .i64 (Fr.norm an).first,.int .i64 (Fr.norm an).rows,.slice bp (Fr.norm an).block.length bc,.int .i64 (Fr.norm an).index.at_,.int .i64 (Fr.norm an).index.frames,.int .i64 (Fr.norm an).index.rows,.slice ep (Fr.norm an).index.entries.length ec]:=hu
 subst hu2
 clear hu hfo
 generalize (Fr.norm an).number=b1,(Fr.norm an).cols.length=b2,(Fr.norm an).seq=b3,(Fr.norm an).first=b4,(Fr.norm an).rows=b5,(Fr.norm an).block.length=b6,(Fr.norm an).index.at_=b7,(Fr.norm an).index.frames=b8,(Fr.norm an).index.rows=b9,(Fr.norm an).index.entries.length=b10
 obtain⟨W15,hW15⟩:∃W15,W15=w14.alloc (.cells #[.int .i64 1,.int .i64 b1,.slice sp b2 sc,.int .i64 b3,.int .i64 b4,.int .i64 b5,.slice bp b6 bc,.int .i64 b7,.int .i64 b8,.int .i64 b9,.slice ep b10 ec] 36):=⟨_,rfl⟩
 have hb15:Below w14.1.size w14 W15:=by rw[hW15];exact vY
 have hy15:W15.1[w14.1.size]?=some (.cells #[.int .i64 1,.int .i64 b1,.slice sp b2 sc,.int .i64 b3,.int .i64 b4,.int .i64 b5,.slice bp b6 bc,.int .i64 b7,.int .i64 b8,.int .i64 b9,.slice ep b10 ec] 36 (0,0)):=by rw[hW15];exact ag w14 _
 have HW15:Hid (w14.alloc (.cells #[.int .i64 1,.int .i64 b1,.slice sp b2 sc,.int .i64 b3,.int .i64 b4,.int .i64 b5,.slice bp b6 bc,.int .i64 b7,.int .i64 b8,.int .i64 b9,.slice ep b10 ec] 36)=W15):=hW15.symm
 have hB15:Below W10.1.size W10 W15:=(HB13.out.trans (ha14.below (by have:=HB13.out.size;omega) (fun i hi hc=>by omega))).trans (hb15.mono (by have:=HB13.out.size;have:=ha14.size;omega))
 have hH15:Hv W15:=HHv.out.next ((HI10.out.below).trans (hB15.mono HI10.out.below.size))
 have hA:=kAt (hd14.below hb15) rfl (by show L.length<=_;have:=HLl.out;omega) (by show 0+Sc.reads L 0+L.length<=_;have:=HLl.out;have:=Sc.reads_le L 0;omega) hH15 HBB.out 14
 have e3:Sc.at_ L 14=.error 140:=by rw[HLL.out];exact qA
 have hA2:Calls Tryz.prog 22 #[.pointer (some ⟨W10.1.size,0,none⟩),.int .i64 14] W15 fun e w'=>e=.returned (.tuple #[.agg #[.int .i64 0,.int .i64 0,.slice none 0 0,.int .i64 0,.int .i64 0,.int .i64 0,.slice none 0 0,.int .i64 0,.int .i64 0,.int .i64 0,.slice none 0 0],.int .i64 0,.int .i64 140])∧Aside (fun k=>k=W10.1.size) W15 w':=by
  refine hA.mono fun e w' ⟨h1,_,h3⟩=>⟨?_,h3⟩
  have h2:AtA (Sc.at_ L 14) W15 e w':=h1
  rw[e3] at h2
  exact h2
 have HA2:=vQ hA2
 have HB15:=vQ hB15
 have HY15:=vQ hy15
 have HLt:Hid (W10.1.size<w14.1.size):=hd14.lt
 clear hd14 ha14 hW15 hb15 hy15 hB15 hH15 hA hA2 e3 HA HB13
 go_wp2_with fail
 rw[HW15.out]
 refine HA2.out.mono ?_
 rintro e w16 ⟨rfl,ha16⟩
 obtain⟨W17,hW17⟩:∃W17,W17=w16.alloc (.cells #[.int .i64 0,.int .i64 0,.slice none 0 0,.int .i64 0,.int .i64 0,.int .i64 0,.slice none 0 0,.int .i64 0,.int .i64 0,.int .i64 0,.slice none 0 0] 36):=⟨_,rfl⟩
 have hb17:Below w16.1.size w16 W17:=by rw[hW17];exact vY
 have HW17:Hid (w16.alloc (.cells #[.int .i64 0,.int .i64 0,.slice none 0 0,.int .i64 0,.int .i64 0,.int .i64 0,.slice none 0 0,.int .i64 0,.int .i64 0,.int .i64 0,.slice none 0 0] 36)=W17):=hW17.symm
 have hB17:Below W10.1.size W10 W17:=(HB15.out.trans (ha16.below HB15.out.size (fun i hi hc=>by omega))).trans (hb17.mono (by have:=HB15.out.size;have:=ha16.size;omega))
 have hy17:=(hb17.block _ (Nat.lt_of_lt_of_le (aw HY15.out) ha16.size)).trans ((ha16.block _ (aw HY15.out) (by have:=HLt.out;omega)).trans HY15.out)
 have hk17:=HK10.out.on hB17
 have hl17:=HL10.out.on hB17
 have HX17:=vQ (HX10.out.on hB17)
 have hxb:=(hB17.block _ (aw HXb.out)).trans HXb.out
 obtain⟨pl,cl2,hpl,hcl,hen,hpg⟩:=hl17.ents
 obtain⟨bl,ol,hbo,-,i0,i1,i2⟩:=hen 0 (by decide)
 injection hpl with hp1 hp2 hp3
 rw[hbo] at hp1
 rw[hp1]
 have j0:W17.cell? ⟨bl,ol,none⟩=some (.int .i64 20):=i0
 have j1:W17.cell? ⟨bl,ol+1,none⟩=some (.int .i64 0):=i1
 have j2:W17.cell? ⟨bl,ol+2,none⟩=some (.int .i64 0):=i2
 have xb0:W17.cell? ⟨w9.1.size,0,none⟩=some (.slice qx 1 cx):=aa hxb 0
 have hq:=oV
 have n1:wk2.frames=1:=rfl
 have n2:wk2.rows=2:=rfl
 have n3:wk2.number=0:=rfl
 have n4:wk2.since=1:=rfl
 have HF:Hid (∀w',Below W17.1.size W17 w'->Calls Tryz.prog 23 #[.pointer (some ⟨w.1.size+1,0,none⟩)] w' fun e w''=>e=.returned (.int .i64 1)∧Below W17.1.size W17 w''):=fun w' hb=>(np (hk17.on hb)).mono fun e w'' ⟨h1,h2⟩=>⟨by rw[<-n1];exact h1,by rw[h2];exact hb⟩
 have HR:Hid (∀w',Below W17.1.size W17 w'->Calls Tryz.prog 24 #[.pointer (some ⟨w.1.size+1,0,none⟩)] w' fun e w''=>e=.returned (.int .i64 2)∧Below W17.1.size W17 w''):=fun w' hb=>(s8 (hk17.on hb)).mono fun e w'' ⟨h1,h2⟩=>⟨by rw[<-n2];exact h1,by rw[h2];exact hb⟩
 have HNb:Hid (∀w',Below W17.1.size W17 w'->Calls Tryz.prog 25 #[.pointer (some ⟨w.1.size+1,0,none⟩)] w' fun e w''=>e=.returned (.int .i64 0)∧Below W17.1.size W17 w''):=fun w' hb=>(no (hk17.on hb)).mono fun e w'' ⟨h1,h2⟩=>⟨by rw[<-n3];exact h1,by rw[h2];exact hb⟩
 have HSi:Hid (∀w',Below W17.1.size W17 w'->Calls Tryz.prog 26 #[.pointer (some ⟨w.1.size+1,0,none⟩)] w' fun e w''=>e=.returned (.int .i64 1)∧Below W17.1.size W17 w''):=fun w' hb=>(qG (hk17.on hb)).mono fun e w'' ⟨h1,h2⟩=>⟨by rw[<-n4];exact h1,by rw[h2];exact hb⟩
 have HOn:Hid (∀w',Below W17.1.size W17 w'->Calls Tryz.prog 16 #[] w' fun e w''=>∃q,e=.returned (.agg #[.slice q 1 1])∧bg w'' q an.cols∧Below W17.1.size W17 w''):=fun w' hb=>(sT w').mono fun e w'' ⟨h1,h2,h3,_⟩=>⟨_,h1,kI h2,hb.trans (h3.mono hb.size)⟩
 have HSm:Hid (∀w' q,Below W17.1.size W17 w'->bg w' q an.cols->Calls Tryz.prog 27 #[.agg #[.slice qx 1 cx],.agg #[.slice q 1 1]] w' fun e w''=>e=.returned (.bool true)∧Below W17.1.size W17 w''):=fun w' q hb hc=>by
  obtain⟨p',c',hu',hl',hcc',hcols'⟩:=(HX17.out.on hb).out
  simp only[Array.mk.injEq,List.cons.injEq,and_true] at hu'
  injection hu' with hp' _ hc'
  subst hp'
  subst hc'
  have h1:=fM (an.cols.map Col.fix) an.cols qx q cx 1 w' hl' hcols' hc
  rw[pu] at h1
  exact h1.mono fun e w'' ⟨h2,h3⟩=>⟨h2,hb.trans (h3.mono hb.size)⟩
 have yk0:W17.cell? ⟨w14.1.size,0,none⟩=some (.int .i64 1):=aa hy17 0
 have HCl:Hid (∀w',Below W17.1.size W17 w'->w'.cell? ⟨bl,ol,none⟩=some (.int .i64 20)∧w'.cell? ⟨bl,ol+1,none⟩=some (.int .i64 0)∧w'.cell? ⟨bl,ol+2,none⟩=some (.int .i64 0)∧w'.cell? ⟨w9.1.size,0,none⟩=some (.slice qx 1 cx)∧w'.cell? ⟨w14.1.size,0,none⟩=some (.int .i64 1)):=fun w' hb=>⟨ab hb j0,ab hb j1,ab hb j2,ab hb xb0,ab hb yk0⟩
 have HY17:=vQ hy17
 have HB17:=vQ ((HI10.out.below).trans (hB17.mono HI10.out.below.size))
 have HLl2:=HLl.out
 clear n1 n2 n3 n4 hW17 hb17 hB17 hy17 hk17 hl17 hxb hen hpg i0 i1 i2 hbo hp1 hp2 hp3 hcl ha16 HA2 HB15 HY15 HK10 HL10 HX10 HXb HW15
 go_wp2_with fail
 rw[HW17.out]
 simp only[List.append]
 go_region_held3 (fun w'=>w'.cell? ⟨bl,ol,none⟩=some (.int .i64 20)∧w'.cell? ⟨bl,ol+1,none⟩=some (.int .i64 0)∧w'.cell? ⟨bl,ol+2,none⟩=some (.int .i64 0)∧w'.cell? ⟨w9.1.size,0,none⟩=some (.slice qx 1 cx)∧w'.cell? ⟨w14.1.size,0,none⟩=some (.int .i64 1)) (go_keep) (first
  | (go_at_call 23;refine(HF.out _ (vZ.drew)).mono ?_;rintro e w18 ⟨rfl,hb18⟩;obtain⟨c18a,c18b,c18c,c18d,c18e⟩:=HCl.out _ hb18;have HBn18:=vQ hb18;clear hb18)
  | (go_at_call 24;refine(HR.out _ HBn18.out).mono ?_;rintro e w19 ⟨rfl,hb19⟩;obtain⟨c19a,c19b,c19c,c19d,c19e⟩:=HCl.out _ hb19;have HBn19:=vQ hb19;clear hb19)
  | (go_at_call 25;refine(HNb.out _ HBn19.out).mono ?_;rintro e w20 ⟨rfl,hb20⟩;obtain⟨c20a,c20b,c20c,c20d,c20e⟩:=HCl.out _ hb20;have HBn20:=vQ hb20;clear hb20)
  | (go_at_call 26;refine(HSi.out _ HBn20.out).mono ?_;rintro e w21 ⟨rfl,hb21⟩;obtain⟨c21a,c21b,c21c,c21d,c21e⟩:=HCl.out _ hb21;have HBn21:=vQ hb21;clear hb21)
  | (go_at_call 16;refine(HOn.out _ HBn21.out).mono ?_;rintro e w22 ⟨qo,rfl,hco,hb22⟩;obtain⟨c22a,c22b,c22c,c22d,c22e⟩:=HCl.out _ hb22;have HBn22:=vQ hb22;clear hb22;have HCo:=vQ hco;clear hco)
  | (go_at_call 27;refine(HSm.out _ qo HBn22.out HCo.out).mono ?_;rintro e w23 ⟨rfl,hb23⟩;obtain⟨c23a,c23b,c23c,c23d,c23e⟩:=HCl.out _ hb23;have HBn23:=vQ hb23;clear hb23)
  |fail)
 go_wp2
 go_ret
 exact⟨rfl,HB17.out.trans (HBn23.out.mono HB17.out.size)⟩
end Go.Proofs.YtlgfdgdlaahpfaaGreatDoor
