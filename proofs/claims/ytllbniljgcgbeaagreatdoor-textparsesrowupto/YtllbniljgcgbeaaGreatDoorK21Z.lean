import Derived.Test.YtllbniljgcgbeaaGreatDoorA1
set_option maxRecDepth 100000
set_option maxHeartbeats 8000000
namespace Go.Proofs.YtllbniljgcgbeaaGreatDoor
open Go.RowKit
attribute [local go_sem] run_store_float
theorem liveA {rf:Tx.Bs → Option Nat} (hRf:RfOk rf) (w:World) (hv:Hv w):Calls Tryz.prog 7 #[.string ⟨#[97,32,105,110,116,44,32,98,32,116,101,120,116,32,61,32,34,120,34,44,32,99,32,111,112,116,40,98,121,116,101,115,41,32,61,32,110,111,110,101]⟩] w fun e w' => ∃ q c,e = .returned (.tuple #[.agg #[.slice q 3 c],.int .i64 0,.int .i64 0]) ∧ Cols w' q liveS ∧ Below w.heap.size w w':=by
 refine (ParseSchemaL hRf ⟨#[97,32,105,110,116,44,32,98,32,116,101,120,116,32,61,32,34,120,34,44,32,99,32,111,112,116,40,98,121,116,101,115,41,32,61,32,110,111,110,101]⟩ (by decide) w hv).mono ?_
 have h:=backS hRf (S:=⟨#[97,32,105,110,116,44,32,98,32,116,101,120,116,32,61,32,34,120,34,44,32,99,32,111,112,116,40,98,121,116,101,115,41,32,61,32,110,111,110,101]⟩) liveS_err liveS_wf
 rw [liveS_text,liveS_fix] at h
 rintro e w' ⟨q,c,he,h1,-,hb⟩
 rw [h] at he h1
 exact ⟨q,c,he,h1,hb⟩
theorem liveB (q:Option Addr) (c:Nat) (w:World) (hv:Hv w) (hx:Cols w q liveS):Calls Tryz.prog 16 #[.agg #[.slice q 3 c]] w fun e w' => e = .returned (.tuple #[.string ⟨#[97,32,105,110,116,44,32,98,32,116,101,120,116,32,61,32,34,120,34,44,32,99,32,111,112,116,40,98,121,116,101,115,41,32,61,32,110,111,110,101]⟩,.int .i64 0]) ∧ Below w.heap.size w w':=by
 refine (PrintSchemaX liveS q c w hv (by decide) hx liveS_wf).mono ?_
 intro e w' h
 obtain ⟨he,hb⟩:=h.open
 rw [liveS_err,if_pos rfl,liveS_text] at he
 exact ⟨he,hb⟩
theorem liveC {rf:Tx.Bs → Option Nat} (hRf:RfOk rf) (w:World) (hv:Hv w):Calls Tryz.prog 10 #[.string ⟨#[91,115,111,109,101,40,126,45,48,41,44,32,110,111,110,101,93]⟩] w fun e w' => ∃ k i b t p n c,e = .returned (.tuple #[.agg #[.int .i64 k,.int .i64 i,.float .f64 b,.string t,.slice p n c],.int .i64 0,.int .i64 0]) ∧ VLies w' #[.int .i64 k,.int .i64 i,.float .f64 b,.string t,.slice p n c] liveV ∧ Below w.heap.size w w':=by
 refine (ParseValueL hRf ⟨#[91,115,111,109,101,40,126,45,48,41,44,32,110,111,110,101,93]⟩ (by decide) w hv).mono ?_
 have h:=backV hRf (S:=⟨#[91,115,111,109,101,40,126,45,48,41,44,32,110,111,110,101,93]⟩) liveV_chk liveV_wf
 rw [liveV_text,liveV_fix] at h
 rintro e w' ⟨k,i,b,t,p,n,c,he,h1,hb⟩
 rw [h] at he h1
 exact ⟨k,i,b,t,p,n,c,he,h1,hb⟩
theorem liveD (u:Array Value) (w:World) (hv:Hv w) (hx:VLies w u liveV):Calls Tryz.prog 17 #[.agg u] w fun e w' => e = .returned (.tuple #[.string ⟨#[91,115,111,109,101,40,126,45,48,41,44,32,110,111,110,101,93]⟩,.int .i64 0]) ∧ Below w.heap.size w w':=by
 refine (PrintValueX liveV w u hv hx liveV_wf).mono ?_
 intro e w' h
 obtain ⟨he,hb⟩:=h.open
 rw [liveV_chk,if_pos rfl,liveV_text] at he
 exact ⟨he,hb⟩
theorem liveE (w:World) (hv:Hv w):Calls Tryz.prog 18 #[.string ⟨#[111,112,116,40,111,112,116,40,111,112,116,40,111,112,116,40,105,110,116,41,41,41,41]⟩] w fun e w' => ∃ k p n c,e = .returned (.tuple #[.agg #[.int .i64 k,.slice p n c],.int .i64 62,.int .i64 16]) ∧ Below w.heap.size w w':=by
 refine (ParseTypeL ⟨#[111,112,116,40,111,112,116,40,111,112,116,40,111,112,116,40,105,110,116,41,41,41,41]⟩ (by decide) w hv).mono ?_
 have h:=liveT (S:=⟨#[111,112,116,40,111,112,116,40,111,112,116,40,111,112,116,40,105,110,116,41,41,41,41]⟩) rfl
 rintro e w' ⟨k,p,n,c,he,-,hb⟩
 rw [h] at he
 exact ⟨k,p,n,c,he,hb⟩
theorem liveF {rf:Tx.Bs → Option Nat} (hRf:RfOk rf) (w:World) (hv:Hv w):Calls Tryz.prog 13 #[.string ⟨#[49,44,32,39,92,120,48,48,39]⟩] w fun e w' => ∃ q c,e = .returned (.tuple #[.agg #[.slice q 2 c],.int .i64 0,.int .i64 0]) ∧ Items w' q liveR ∧ Below w.heap.size w w':=by
 refine (ParseRowL hRf ⟨#[49,44,32,39,92,120,48,48,39]⟩ (by decide) w hv).mono ?_
 have h:=backR hRf (S:=⟨#[49,44,32,39,92,120,48,48,39]⟩) liveR_err liveR_wf
 rw [liveR_text,liveR_fix] at h
 rintro e w' ⟨q,c,he,h1,-,hb⟩
 rw [h] at he h1
 exact ⟨q,c,he,h1,hb⟩
theorem liveG (q:Option Addr) (c:Nat) (w:World) (hv:Hv w) (hx:Items w q liveR):Calls Tryz.prog 19 #[.agg #[.slice q 2 c]] w fun e w' => e = .returned (.tuple #[.string ⟨#[49,44,32,39,92,120,48,48,39]⟩,.int .i64 0]) ∧ Below w.heap.size w w':=by
 refine (PrintRowX liveR q c w hv (by decide) hx liveR_wf (fun _ => by rw [liveR_text];decide)).mono ?_
 intro e w' h
 obtain ⟨he,hb⟩:=h.open
 rw [liveR_err,if_pos rfl,liveR_text] at he
 exact ⟨he,hb⟩
theorem live21 (w:World) (hv:Hv w):Calls Tryz.prog 6 #[] w fun e w' => e = .returned (.bool true) ∧ Below w.heap.size w w':=by
 obtain ⟨rf,hRf⟩:=rf_ex
 have HRf:=Lib.hid hRf
 have HHv:=Lib.hid (fun w' (hb:Below w.heap.size w w') => hv.on hb hv.size)
 have HA:=Lib.hid (liveA hRf w hv)
 clear hRf hv
 go_enter Tryz.func6,Tryz.ntmps6
 go_wp2_with fail
 refine HA.out.mono ?_
 rintro e w1 ⟨q1,c1,rfl,hc1,hb1⟩
 obtain ⟨W1,hW1⟩:∃ W1,W1 = w1.alloc (.cells #[.slice q1 3 c1] 25):=⟨_,rfl⟩
 have hbw1:Below w1.heap.size w1 W1:=by rw [hW1];exact (Below.refl _ _).alloc (Nat.le_refl _) _
 have hk1:W1.heap[w1.heap.size]? = some (.cells #[.slice q1 3 c1] 25 (0,0)):=by rw [hW1];exact blk_new w1 _
 have HB1:=Lib.hid (hb1.trans (hbw1.mono hb1.size))
 have HC1:=Lib.hid (hc1.on hbw1)
 have b1:W1.cell? ⟨w1.heap.size,0,none⟩ = some (.slice q1 3 c1):=blk_cell hk1 0
 have HK1:=Lib.hid hk1
 have HW1:=Lib.hid hW1
 have HP:=Lib.hid (liveB q1 c1 W1 (HHv.out W1 HB1.out) HC1.out)
 clear hc1 hb1 hbw1 hk1 hW1 HA
 go_wp2_with fail
 rw [← HW1.out]
 refine HP.out.mono ?_
 rintro e w2 ⟨rfl,hb2⟩
 have HB2:=Lib.hid (HB1.out.trans (hb2.mono HB1.out.size))
 have HB12:=Lib.hid hb2
 have HD:=Lib.hid (liveC HRf.out w2 (HHv.out w2 HB2.out))
 clear hb2 HP b1
 go_wp2_with fail
 refine HD.out.mono ?_
 rintro e w3 ⟨k3,i3,f3,t3,p3,n3,c3,rfl,hl3,hb3⟩
 obtain ⟨W3,hW3⟩:∃ W3,W3 = w3.alloc (.cells #[.int .i64 k3,.int .i64 i3,.float .f64 f3,.string t3,.slice p3 n3 c3] 36):=⟨_,rfl⟩
 have hbw3:Below w3.heap.size w3 W3:=by rw [hW3];exact (Below.refl _ _).alloc (Nat.le_refl _) _
 have hk3:W3.heap[w3.heap.size]? = some (.cells #[.int .i64 k3,.int .i64 i3,.float .f64 f3,.string t3,.slice p3 n3 c3] 36 (0,0)):=by rw [hW3];exact blk_new w3 _
 have HB23:=Lib.hid (hb3.trans (hbw3.mono hb3.size))
 have HB3:=Lib.hid (HB2.out.trans (HB23.out.mono HB2.out.size))
 have m0:W3.cell? ⟨w3.heap.size,0,none⟩ = some (.int .i64 k3):=blk_cell hk3 0
 have m1:W3.cell? ⟨w3.heap.size,1,none⟩ = some (.int .i64 i3):=blk_cell hk3 1
 have m2:W3.cell? ⟨w3.heap.size,2,none⟩ = some (.float .f64 f3):=blk_cell hk3 2
 have m3:W3.cell? ⟨w3.heap.size,3,none⟩ = some (.string t3):=blk_cell hk3 3
 have m4:W3.cell? ⟨w3.heap.size,4,none⟩ = some (.slice p3 n3 c3):=blk_cell hk3 4
 have HW3:=Lib.hid hW3
 have HP:=Lib.hid (liveD _ W3 (HHv.out W3 HB3.out) (hl3.on hbw3))
 clear hl3 hb3 hbw3 hk3 hW3 HD
 go_wp2_with fail
 rw [← HW3.out]
 refine HP.out.mono ?_
 rintro e w4 ⟨rfl,hb4⟩
 have HB24:=Lib.hid (HB23.out.trans (hb4.mono HB23.out.size))
 have HB4:=Lib.hid (HB2.out.trans (HB24.out.mono HB2.out.size))
 have HD:=Lib.hid (liveE w4 (HHv.out w4 HB4.out))
 clear hb4 HP m0 m1 m2 m3 m4
 go_wp2_with fail
 refine HD.out.mono ?_
 rintro e w5 ⟨k5,p5,n5,c5,rfl,hb5⟩
 obtain ⟨W5,hW5⟩:∃ W5,W5 = w5.alloc (.cells #[.int .i64 k5,.slice p5 n5 c5] 32):=⟨_,rfl⟩
 have hbw5:Below w5.heap.size w5 W5:=by rw [hW5];exact (Below.refl _ _).alloc (Nat.le_refl _) _
 have HB25:=Lib.hid (HB24.out.trans ((hb5.trans (hbw5.mono hb5.size)).mono HB24.out.size))
 have HB5:=Lib.hid (HB2.out.trans (HB25.out.mono HB2.out.size))
 have HW5:=Lib.hid hW5
 have HD2:=Lib.hid (liveF HRf.out W5 (HHv.out W5 HB5.out))
 clear hb5 hbw5 hW5 HD
 go_wp2_with fail
 rw [← HW5.out]
 refine HD2.out.mono ?_
 rintro e w6 ⟨q6,c6,rfl,hi6,hb6⟩
 obtain ⟨W6,hW6⟩:∃ W6,W6 = w6.alloc (.cells #[.slice q6 2 c6] 44):=⟨_,rfl⟩
 have hbw6:Below w6.heap.size w6 W6:=by rw [hW6];exact (Below.refl _ _).alloc (Nat.le_refl _) _
 have hk6:W6.heap[w6.heap.size]? = some (.cells #[.slice q6 2 c6] 44 (0,0)):=by rw [hW6];exact blk_new w6 _
 have HB26:=Lib.hid (HB25.out.trans ((hb6.trans (hbw6.mono hb6.size)).mono HB25.out.size))
 have HB6:=Lib.hid (HB2.out.trans (HB26.out.mono HB2.out.size))
 have HI6:=Lib.hid (hi6.on hbw6)
 have b6:W6.cell? ⟨w6.heap.size,0,none⟩ = some (.slice q6 2 c6):=blk_cell hk6 0
 have HK6:=Lib.hid hk6
 have HW6:=Lib.hid hW6
 have HP:=Lib.hid (liveG q6 c6 W6 (HHv.out W6 HB6.out) HI6.out)
 clear hi6 hb6 hbw6 hk6 hW6 HD2
 go_wp2_with fail
 rw [← HW6.out]
 refine HP.out.mono ?_
 rintro e w7 ⟨rfl,hb7⟩
 have HB7:=Lib.hid (HB6.out.trans (hb7.mono HB6.out.size))
 have hb17:Below W1.heap.size W1 w7:=HB12.out.trans ((HB26.out.trans (hb7.mono HB26.out.size)).mono HB12.out.size)
 have hk17:=blk_on HK1.out hb17 (blk_lt HK1.out)
 have hk67:=blk_on HK6.out hb7 (blk_lt HK6.out)
 have b1:w7.cell? ⟨w1.heap.size,0,none⟩ = some (.slice q1 3 c1):=blk_cell hk17 0
 have b2:w7.cell? ⟨w6.heap.size,0,none⟩ = some (.slice q6 2 c6):=blk_cell hk67 0
 obtain ⟨blk,off,k,tp,tn,tc,vk,vi,vb,vt,vp,vn,vc,hq1,-,⟨a0,a1,a2,a3,a4,a5,a6,a7,a8⟩,-,hvl⟩:=(HC1.out.on hb17).at 1 (by decide)
 obtain ⟨pd,cd,hud,-⟩:=VLies.open (show VLies w7 _ (.mk 4 0 0 ⟨#[120]⟩ []) from hvl)
 unfold cells5 at hud
 simp at hud
 obtain ⟨-,-,-,hvt,-⟩:=hud
 have a3':w7.cell? ⟨blk,off + 9 + 3,none⟩ = some (.bool true):=by rw [Nat.one_mul] at a3;exact a3
 have a7':w7.cell? ⟨blk,off + 9 + 7,none⟩ = some (.string ⟨#[120]⟩):=by rw [Nat.one_mul,hvt] at a7;exact a7
 obtain ⟨u6,hu6,hit⟩:=(HI6.out.on hb7) 1 (by decide)
 obtain ⟨bx,ox,kx,ix,fx,tx,qx,nx,cx,hq6,-,hux,y0,y1,y2,y3,y4⟩:=hit.lies
 obtain ⟨pe,ce,hue,-⟩:=VLies.open (show VLies w7 _ (.mk 5 0 0 ⟨#[0]⟩ []) from hu6)
 rw [hux] at hue
 unfold cells5 at hue
 simp at hue
 obtain ⟨-,-,-,htx,-⟩:=hue
 have y3':w7.cell? ⟨bx,ox + 5 + 3,none⟩ = some (.string ⟨#[0]⟩):=by rw [Nat.one_mul,htx] at y3;exact y3
 subst hq1 hq6
 clear hb7 hb17 hk17 hk67 a0 a1 a2 a3 a4 a5 a6 a7 a8 hvl hvt hu6 hit hux htx y0 y1 y2 y3 y4 HP b6
 go_wp2
 go_ret
 exact ⟨rfl,HB7.out⟩
end Go.Proofs.YtllbniljgcgbeaaGreatDoor
