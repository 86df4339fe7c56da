import Derived.Test.YtllbniljgcgbeaaGreatDoorA1
set_option maxRecDepth 100000
set_option maxHeartbeats 8000000
namespace Go.Proofs.YtllbniljgcgbeaaGreatDoor
open Go.RowKit
attribute [local go_sem] ah
theorem sN{rf:Tx.Bs->Option Nat}(hRf:bP rf)(w:World)(hv:Hv w):Calls Tryz.prog 7 #[.string ⟨#[97,32,105,110,116,44,32,98,32,116,101,120,116,32,61,32,34,120,34,44,32,99,32,111,112,116,40,98,121,116,101,115,41,32,61,32,110,111,110,101]⟩] w fun e w'=>∃q c,e=.returned (.tuple #[.agg #[.slice q 3 c],.int .i64 0,.int .i64 0])∧bA w' q cD∧Below w.1.size w w':=by
 refine(j7 hRf ⟨#[97,32,105,110,116,44,32,98,32,116,101,120,116,32,61,32,34,120,34,44,32,99,32,111,112,116,40,98,121,116,101,115,41,32,61,32,110,111,110,101]⟩ (by decide) w hv).mono ?_
 have h:=s5 hRf (S:=⟨#[97,32,105,110,116,44,32,98,32,116,101,120,116,32,61,32,34,120,34,44,32,99,32,111,112,116,40,98,121,116,101,115,41,32,61,32,110,111,110,101]⟩) jc kN
 rw[gI,nK] at h
 rintro e w' ⟨q,c,he,h1,-,hb⟩
 rw[h] at he h1
 exact⟨q,c,he,h1,hb⟩
theorem sM(q:OA)(c:Nat)(w:World)(hv:Hv w)(hx:bA w q cD):Calls Tryz.prog 16 #[.agg #[.slice q 3 c]] w fun e w'=>e=.returned (.tuple #[.string ⟨#[97,32,105,110,116,44,32,98,32,116,101,120,116,32,61,32,34,120,34,44,32,99,32,111,112,116,40,98,121,116,101,115,41,32,61,32,110,111,110,101]⟩,.int .i64 0])∧Below w.1.size w w':=by
 refine(j5 cD q c w hv (by decide) hx kN).mono ?_
 intro e w' h
 obtain⟨he,hb⟩:=h.open
 rw[jc,if_pos rfl,gI] at he
 exact⟨he,hb⟩
theorem sL{rf:Tx.Bs->Option Nat}(hRf:bP rf)(w:World)(hv:Hv w):Calls Tryz.prog 10 #[.string ⟨#[91,115,111,109,101,40,126,45,48,41,44,32,110,111,110,101,93]⟩] w fun e w'=>∃k i b t p n c,e=.returned (.tuple #[.agg #[.int .i64 k,.int .i64 i,.float .f64 b,.string t,.slice p n c],.int .i64 0,.int .i64 0])∧av w' #[.int .i64 k,.int .i64 i,.float .f64 b,.string t,.slice p n c] dA∧Below w.1.size w w':=by
 refine(lk hRf ⟨#[91,115,111,109,101,40,126,45,48,41,44,32,110,111,110,101,93]⟩ (by decide) w hv).mono ?_
 have h:=sZ hRf (S:=⟨#[91,115,111,109,101,40,126,45,48,41,44,32,110,111,110,101,93]⟩) jb kM
 rw[gH,nJ] at h
 rintro e w' ⟨k,i,b,t,p,n,c,he,h1,hb⟩
 rw[h] at he h1
 exact⟨k,i,b,t,p,n,c,he,h1,hb⟩
theorem sK(u:AV)(w:World)(hv:Hv w)(hx:av w u dA):Calls Tryz.prog 17 #[.agg u] w fun e w'=>e=.returned (.tuple #[.string ⟨#[91,115,111,109,101,40,126,45,48,41,44,32,110,111,110,101,93]⟩,.int .i64 0])∧Below w.1.size w w':=by
 refine(li dA w u hv hx kM).mono ?_
 intro e w' h
 obtain⟨he,hb⟩:=h.open
 rw[jb,if_pos rfl,gH] at he
 exact⟨he,hb⟩
theorem sJ(w:World)(hv:Hv w):Calls Tryz.prog 18 #[.string ⟨#[111,112,116,40,111,112,116,40,111,112,116,40,111,112,116,40,105,110,116,41,41,41,41]⟩] w fun e w'=>∃k p n c,e=.returned (.tuple #[.agg #[.int .i64 k,.slice p n c],.int .i64 62,.int .i64 16])∧Below w.1.size w w':=by
 refine(mp ⟨#[111,112,116,40,111,112,116,40,111,112,116,40,111,112,116,40,105,110,116,41,41,41,41]⟩ (by decide) w hv).mono ?_
 have h:=sG (S:=⟨#[111,112,116,40,111,112,116,40,111,112,116,40,111,112,116,40,105,110,116,41,41,41,41]⟩) rfl
 rintro e w' ⟨k,p,n,c,he,-,hb⟩
 rw[h] at he
 exact⟨k,p,n,c,he,hb⟩
theorem sI{rf:Tx.Bs->Option Nat}(hRf:bP rf)(w:World)(hv:Hv w):Calls Tryz.prog 13 #[.string ⟨#[49,44,32,39,92,120,48,48,39]⟩] w fun e w'=>∃q c,e=.returned (.tuple #[.agg #[.slice q 2 c],.int .i64 0,.int .i64 0])∧bv w' q dB∧Below w.1.size w w':=by
 refine(ol hRf ⟨#[49,44,32,39,92,120,48,48,39]⟩ (by decide) w hv).mono ?_
 have h:=s6 hRf (S:=⟨#[49,44,32,39,92,120,48,48,39]⟩) jd kP
 rw[eB,nL] at h
 rintro e w' ⟨q,c,he,h1,-,hb⟩
 rw[h] at he h1
 exact⟨q,c,he,h1,hb⟩
theorem sH(q:OA)(c:Nat)(w:World)(hv:Hv w)(hx:bv w q dB):Calls Tryz.prog 19 #[.agg #[.slice q 2 c]] w fun e w'=>e=.returned (.tuple #[.string ⟨#[49,44,32,39,92,120,48,48,39]⟩,.int .i64 0])∧Below w.1.size w w':=by
 refine(oi dB q c w hv (by decide) hx kP (fun _=>by rw[eB];decide)).mono ?_
 intro e w' h
 obtain⟨he,hb⟩:=h.open
 rw[jd,if_pos rfl,eB] at he
 exact⟨he,hb⟩
theorem rY(w:World)(hv:Hv w):Calls Tryz.prog 6 #[] w fun e w'=>e=.returned (.bool true)∧Below w.1.size w w':=by
 obtain⟨rf,hRf⟩:=rA
 have HRf:=tQ hRf
 have HHv:=tQ (fun w' (hb:Below w.1.size w w')=>hv.on hb hv.size)
 have HA:=tQ (sN hRf w hv)
 clear hRf hv
 go_enter Tryz.func6,Tryz.ntmps6
 go_wp2_with fail
 refine HA.out.mono ?_
 rintro e w1 ⟨q1,c1,rfl,hc1,hb1⟩
 obtain⟨W1,hW1⟩:∃W1,W1=w1.alloc (.cells #[.slice q1 3 c1] 25):=⟨_,rfl⟩
 have hbw1:Below w1.1.size w1 W1:=by rw[hW1];exact tY
 have hk1:W1.1[w1.1.size]?=some (.cells #[.slice q1 3 c1] 25 (0,0)):=by rw[hW1];exact aj w1 _
 have HB1:=tQ (hb1.trans (hbw1.mono hb1.size))
 have HC1:=tQ (hc1.on hbw1)
 have b1:W1.cell? ⟨w1.1.size,0,none⟩=some (.slice q1 3 c1):=ab hk1 0
 have HK1:=tQ hk1
 have HW1:=tQ hW1
 have HP:=tQ (sM q1 c1 W1 (HHv.out W1 HB1.out) HC1.out)
 clear hc1 hb1 hbw1 hk1 hW1 HA
 go_wp2_with fail
 rw[<-HW1.out]
 refine HP.out.mono ?_
 rintro e w2 ⟨rfl,hb2⟩
 have HB2:=tQ (HB1.out.trans (hb2.mono HB1.out.size))
 have HB12:=tQ hb2
 have HD:=tQ (sL HRf.out w2 (HHv.out w2 HB2.out))
 clear hb2 HP b1
 go_wp2_with fail
 refine HD.out.mono ?_
 rintro e w3 ⟨k3,i3,f3,t3,p3,n3,c3,rfl,hl3,hb3⟩
 obtain⟨W3,hW3⟩:∃W3,W3=w3.alloc (.cells #[.int .i64 k3,.int .i64 i3,.float .f64 f3,.string t3,.slice p3 n3 c3] 36):=⟨_,rfl⟩
 have hbw3:Below w3.1.size w3 W3:=by rw[hW3];exact tY
 have hk3:W3.1[w3.1.size]?=some (.cells #[.int .i64 k3,.int .i64 i3,.float .f64 f3,.string t3,.slice p3 n3 c3] 36 (0,0)):=by rw[hW3];exact aj w3 _
 have HB23:=tQ (hb3.trans (hbw3.mono hb3.size))
 have HB3:=tQ (HB2.out.trans (HB23.out.mono HB2.out.size))
 have m0:W3.cell? ⟨w3.1.size,0,none⟩=some (.int .i64 k3):=ab hk3 0
 have m1:W3.cell? ⟨w3.1.size,1,none⟩=some (.int .i64 i3):=ab hk3 1
 have m2:W3.cell? ⟨w3.1.size,2,none⟩=some (.float .f64 f3):=ab hk3 2
 have m3:W3.cell? ⟨w3.1.size,3,none⟩=some (.string t3):=ab hk3 3
 have m4:W3.cell? ⟨w3.1.size,4,none⟩=some (.slice p3 n3 c3):=ab hk3 4
 have HW3:=tQ hW3
 have HP:=tQ (sK _ W3 (HHv.out W3 HB3.out) (hl3.on hbw3))
 clear hl3 hb3 hbw3 hk3 hW3 HD
 go_wp2_with fail
 rw[<-HW3.out]
 refine HP.out.mono ?_
 rintro e w4 ⟨rfl,hb4⟩
 have HB24:=tQ (HB23.out.trans (hb4.mono HB23.out.size))
 have HB4:=tQ (HB2.out.trans (HB24.out.mono HB2.out.size))
 have HD:=tQ (sJ w4 (HHv.out w4 HB4.out))
 clear hb4 HP m0 m1 m2 m3 m4
 go_wp2_with fail
 refine HD.out.mono ?_
 rintro e w5 ⟨k5,p5,n5,c5,rfl,hb5⟩
 obtain⟨W5,hW5⟩:∃W5,W5=w5.alloc (.cells #[.int .i64 k5,.slice p5 n5 c5] 32):=⟨_,rfl⟩
 have hbw5:Below w5.1.size w5 W5:=by rw[hW5];exact tY
 have HB25:=tQ (HB24.out.trans ((hb5.trans (hbw5.mono hb5.size)).mono HB24.out.size))
 have HB5:=tQ (HB2.out.trans (HB25.out.mono HB2.out.size))
 have HW5:=tQ hW5
 have HD2:=tQ (sI HRf.out W5 (HHv.out W5 HB5.out))
 clear hb5 hbw5 hW5 HD
 go_wp2_with fail
 rw[<-HW5.out]
 refine HD2.out.mono ?_
 rintro e w6 ⟨q6,c6,rfl,hi6,hb6⟩
 obtain⟨W6,hW6⟩:∃W6,W6=w6.alloc (.cells #[.slice q6 2 c6] 44):=⟨_,rfl⟩
 have hbw6:Below w6.1.size w6 W6:=by rw[hW6];exact tY
 have hk6:W6.1[w6.1.size]?=some (.cells #[.slice q6 2 c6] 44 (0,0)):=by rw[hW6];exact aj w6 _
 have HB26:=tQ (HB25.out.trans ((hb6.trans (hbw6.mono hb6.size)).mono HB25.out.size))
 have HB6:=tQ (HB2.out.trans (HB26.out.mono HB2.out.size))
 have HI6:=tQ (hi6.on hbw6)
 have b6:W6.cell? ⟨w6.1.size,0,none⟩=some (.slice q6 2 c6):=ab hk6 0
 have HK6:=tQ hk6
 have HW6:=tQ hW6
 have HP:=tQ (sH q6 c6 W6 (HHv.out W6 HB6.out) HI6.out)
 clear hi6 hb6 hbw6 hk6 hW6 HD2
 go_wp2_with fail
 rw[<-HW6.out]
 refine HP.out.mono ?_
 rintro e w7 ⟨rfl,hb7⟩
 have HB7:=tQ (HB6.out.trans (hb7.mono HB6.out.size))
 have hb17:Below W1.1.size W1 w7:=HB12.out.trans ((HB26.out.trans (hb7.mono HB26.out.size)).mono HB12.out.size)
 have hk17:=ay HK1.out hb17 (ae HK1.out)
 have hk67:=ay HK6.out hb7 (ae HK6.out)
 have b1:w7.cell? ⟨w1.1.size,0,none⟩=some (.slice q1 3 c1):=ab hk17 0
 have b2:w7.cell? ⟨w6.1.size,0,none⟩=some (.slice q6 2 c6):=ab hk67 0
 obtain⟨blk,off,k,tp,tn,tc,vk,vi,vb,vt,vp,vn,vc,hq1,-,⟨a0,a1,a2,a3,a4,a5,a6,a7,a8⟩,-,hvl⟩:=(HC1.out.on hb17).at 1 (by decide)
 obtain⟨pd,cd,hud,-⟩:=av.open (show av w7 _ (.mk 4 0 0 ⟨#[120]⟩ []) from hvl)
 unfold cells5 at hud
 simp at hud
 obtain⟨-,-,-,hvt,-⟩:=hud
 have a3':w7.cell? ⟨blk,off+9+3,none⟩=some (.bool true):=by rw[Nat.one_mul] at a3;exact a3
 have a7':w7.cell? ⟨blk,off+9+7,none⟩=some (.string ⟨#[120]⟩):=by rw[Nat.one_mul,hvt] at a7;exact a7
 obtain⟨u6,hu6,hit⟩:=(HI6.out.on hb7) 1 (by decide)
 obtain⟨bx,ox,kx,ix,fx,tx,qx,nx,cx,hq6,-,hux,y0,y1,y2,y3,y4⟩:=hit.lies
 obtain⟨pe,ce,hue,-⟩:=av.open (show av w7 _ (.mk 5 0 0 ⟨#[0]⟩ []) from hu6)
 rw[hux] at hue
 unfold cells5 at hue
 simp at hue
 obtain⟨-,-,-,htx,-⟩:=hue
 have y3':w7.cell? ⟨bx,ox+5+3,none⟩=some (.string ⟨#[0]⟩):=by rw[Nat.one_mul,htx] at y3;exact y3
 subst hq1 hq6
 clear hb7 hb17 hk17 hk67 a0 a1 a2 a3 a4 a5 a6 a7 a8 hvl hvt hu6 hit hux htx y0 y1 y2 y3 y4 HP b6
 go_wp2
 go_ret
 exact⟨rfl,HB7.out⟩
end Go.Proofs.YtllbniljgcgbeaaGreatDoor
