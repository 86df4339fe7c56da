import Derived.Test.YtkooafdhceeeoaaGreatDoorQ2
import Derived.Test.YtkooafdhceeeoaaGreatDoorK21Z
set_option maxRecDepth 100000
set_option maxHeartbeats 16000000
namespace Go.Proofs.YtkooafdhceeeoaaGreatDoor
open Go.RowKit
attribute [local go_sem] run_store_float
theorem textBack21 (tk:Int) (tp:Option Addr) (tn tc:Nat) (t:Ty) (sp:Option Addr) (sc:Nat) (s:List Col) (vk vi:Int) (vb:Nat) (vt:ByteArray) (vp:Option Addr) (vn vc:Nat) (v:V) (rp:Option Addr) (rc:Nat) (r:List V) (S:ByteArray) (w:World)
  (hv:Hv w) (hT:TLies w #[.int .i64 tk,.slice tp tn tc] t) (hsl:s.length * 120 ≤ 140737488351232) (hS:Cols w sp s) (hsw:∀ c ∈ s,c.wf) (hV:VLies w #[.int .i64 vk,.int .i64 vi,.float .f64 vb,.string vt,.slice vp vn vc] v) (hvw:v.wf) (hrl:r.length * 64 ≤ 140737488351232) (hR:Items w rp r) (hrw:∀ x ∈ r,x.wf) (hrt:rowErr r = 0 → (Tx.row text r).length ≤ 1099511627776) (hO:S.size ≤ 1099511627776) :
  Calls Tryz.prog 8 #[.agg #[.int .i64 tk,.slice tp tn tc],.agg #[.slice sp s.length sc],.agg #[.int .i64 vk,.int .i64 vi,.float .f64 vb,.string vt,.slice vp vn vc],.agg #[.slice rp r.length rc],.string S] w fun e w' => e = .returned (.bool true) ∧ Below w.heap.size w w':=by
 obtain ⟨sl,hsl'⟩:∃ n,n = s.length:=⟨_,rfl⟩
 obtain ⟨rl,hrl'⟩:∃ n,n = r.length:=⟨_,rfl⟩
 rw [← hsl',← hrl']
 obtain ⟨W0,hW0⟩:∃ W0,W0 = (((w.alloc (.cells #[.int .i64 tk,.slice tp tn tc] 24)).alloc (.cells #[.slice sp sl sc] 27)).alloc (.cells #[.int .i64 vk,.int .i64 vi,.float .f64 vb,.string vt,.slice vp vn vc] 31)).alloc (.cells #[.slice rp rl rc] 33):=⟨_,rfl⟩
 have hb0:Below w.heap.size w W0:=by rw [hW0];exact ((((Below.refl _ _).alloc (Nat.le_refl _) _).alloc (by simp) _).alloc (by simp;omega) _).alloc (by simp;omega) _
 have HCells:Hid (∀ wx,Below W0.heap.size W0 wx → wx.cell? ⟨w.heap.size,0,none⟩ = some (.int .i64 tk) ∧ wx.cell? ⟨w.heap.size,1,none⟩ = some (.slice tp tn tc) ∧ wx.cell? ⟨w.heap.size + 1,0,none⟩ = some (.slice sp sl sc) ∧ wx.cell? ⟨w.heap.size + 1 + 1,0,none⟩ = some (.int .i64 vk) ∧ wx.cell? ⟨w.heap.size + 1 + 1,1,none⟩ = some (.int .i64 vi) ∧ wx.cell? ⟨w.heap.size + 1 + 1,2,none⟩ = some (.float .f64 vb) ∧ wx.cell? ⟨w.heap.size + 1 + 1,3,none⟩ = some (.string vt) ∧ wx.cell? ⟨w.heap.size + 1 + 1,4,none⟩ = some (.slice vp vn vc) ∧ wx.cell? ⟨w.heap.size + 1 + 1 + 1,0,none⟩ = some (.slice rp rl rc)):=fun wx hx => by
  have e1:(w.alloc (.cells #[.int .i64 tk,.slice tp tn tc] 24)).heap.size = w.heap.size + 1:=by simp
  have e2:((w.alloc (.cells #[.int .i64 tk,.slice tp tn tc] 24)).alloc (.cells #[.slice sp sl sc] 27)).heap.size = w.heap.size + 1 + 1:=by simp
  have e3:(((w.alloc (.cells #[.int .i64 tk,.slice tp tn tc] 24)).alloc (.cells #[.slice sp sl sc] 27)).alloc (.cells #[.int .i64 vk,.int .i64 vi,.float .f64 vb,.string vt,.slice vp vn vc] 31)).heap.size = w.heap.size + 1 + 1 + 1:=by simp
  have k0:=blk_new w (.cells #[.int .i64 tk,.slice tp tn tc] 24)
  have k1:=blk_new (w.alloc (.cells #[.int .i64 tk,.slice tp tn tc] 24)) (.cells #[.slice sp sl sc] 27)
  have k2:=blk_new ((w.alloc (.cells #[.int .i64 tk,.slice tp tn tc] 24)).alloc (.cells #[.slice sp sl sc] 27)) (.cells #[.int .i64 vk,.int .i64 vi,.float .f64 vb,.string vt,.slice vp vn vc] 31)
  have k3:=blk_new (((w.alloc (.cells #[.int .i64 tk,.slice tp tn tc] 24)).alloc (.cells #[.slice sp sl sc] 27)).alloc (.cells #[.int .i64 vk,.int .i64 vi,.float .f64 vb,.string vt,.slice vp vn vc] 31)) (.cells #[.slice rp rl rc] 33)
  rw [e1] at k1
  rw [e2] at k2
  rw [e3] at k3
  have k0:=(blk_old _ (.cells #[.slice sp sl sc] 27) (blk_lt k0)).trans k0
  have k0:=(blk_old _ (.cells #[.int .i64 vk,.int .i64 vi,.float .f64 vb,.string vt,.slice vp vn vc] 31) (blk_lt k0)).trans k0
  have k0:=(blk_old _ (.cells #[.slice rp rl rc] 33) (blk_lt k0)).trans k0
  have k1:=(blk_old _ (.cells #[.int .i64 vk,.int .i64 vi,.float .f64 vb,.string vt,.slice vp vn vc] 31) (blk_lt k1)).trans k1
  have k1:=(blk_old _ (.cells #[.slice rp rl rc] 33) (blk_lt k1)).trans k1
  have k2:=(blk_old _ (.cells #[.slice rp rl rc] 33) (blk_lt k2)).trans k2
  rw [← hW0] at k0 k1 k2 k3
  have ht0:W0.cell? ⟨w.heap.size,0,none⟩ = some (.int .i64 tk):=blk_cell k0 0
  have ht1:W0.cell? ⟨w.heap.size,1,none⟩ = some (.slice tp tn tc):=blk_cell k0 1
  have hs0:W0.cell? ⟨w.heap.size + 1,0,none⟩ = some (.slice sp sl sc):=blk_cell k1 0
  have hv0:W0.cell? ⟨w.heap.size + 1 + 1,0,none⟩ = some (.int .i64 vk):=blk_cell k2 0
  have hv1:W0.cell? ⟨w.heap.size + 1 + 1,1,none⟩ = some (.int .i64 vi):=blk_cell k2 1
  have hv2:W0.cell? ⟨w.heap.size + 1 + 1,2,none⟩ = some (.float .f64 vb):=blk_cell k2 2
  have hv3:W0.cell? ⟨w.heap.size + 1 + 1,3,none⟩ = some (.string vt):=blk_cell k2 3
  have hv4:W0.cell? ⟨w.heap.size + 1 + 1,4,none⟩ = some (.slice vp vn vc):=blk_cell k2 4
  have hr0:W0.cell? ⟨w.heap.size + 1 + 1 + 1,0,none⟩ = some (.slice rp rl rc):=blk_cell k3 0
  exact ⟨cell_on hx ht0,cell_on hx ht1,cell_on hx hs0,cell_on hx hv0,cell_on hx hv1,cell_on hx hv2,cell_on hx hv3,cell_on hx hv4,cell_on hx hr0⟩
 have HHv:=Lib.hid (fun w' (hb:Below W0.heap.size W0 w') => hv.on (hb0.trans (hb.mono hb0.size)) hv.size)
 have HTw:=Lib.hid (fun w' (hb:Below W0.heap.size W0 w') => hb0.trans (hb.mono hb0.size))
 have HLv:=Lib.hid (live21 W0 (HHv.out W0 (Below.refl _ _)))
 have HAg:=Lib.hid (fun w' (hb:Below W0.heap.size W0 w') => againX S hO w' (HHv.out w' hb))
 have HP1:=Lib.hid (fun w' (hb:Below W0.heap.size W0 w') => PrintTypeX t w' _ (HHv.out w' hb) (hT.on (HTw.out w' hb)))
 have HP2:=Lib.hid (fun w' (hb:Below W0.heap.size W0 w') => PrintSchemaX s sp sc w' (HHv.out w' hb) hsl (hS.on (HTw.out w' hb)) hsw)
 have HP3:=Lib.hid (fun w' (hb:Below W0.heap.size W0 w') => PrintValueX v w' _ (HHv.out w' hb) (hV.on (HTw.out w' hb)) hvw)
 have HP4:=Lib.hid (fun w' (hb:Below W0.heap.size W0 w') => PrintRowX r rp rc w' (HHv.out w' hb) hrl (hR.on (HTw.out w' hb)) hrw (fun h => by have:=hrt h;omega))
 have HQ1:=Lib.hid (fun w' u (hb:Below W0.heap.size W0 w') (hl:TLies w' u t) => refSameType7 t t w' _ u (hT.on (HTw.out w' hb)) hl)
 have HQ2:=Lib.hid (fun w' q c (hb:Below W0.heap.size W0 w') (hl:Cols w' q (s.map Col.fix)) => refSameS7 s (s.map Col.fix) sp q sc c w' hsl (hS.on (HTw.out w' hb)) hl)
 have HQ3:=Lib.hid (fun w' u (hb:Below W0.heap.size W0 w') (hl:VLies w' u (V.fix v)) => refSame6 v (V.fix v) w' _ u (hV.on (HTw.out w' hb)) hl)
 have HQ4:=Lib.hid (fun w' q c (hb:Below W0.heap.size W0 w') (hl:Items w' q (r.map V.fix)) => refSameRow r (r.map V.fix) rp q rc c w' (hR.on (HTw.out w' hb)) hl hrl)
 rw [(Ty.same_iff t t).2 rfl] at HQ1
 rw [sameS_fix s] at HQ2
 rw [show V.same v (V.fix v) = true from (same_iff _ _).2 (fix_idem v).symm] at HQ3
 rw [sameL_fix r] at HQ4
 rw [← hsl'] at HP2 HQ2
 rw [← hrl'] at HP4 HQ4
 obtain ⟨f1,hf1⟩:∃ f,f = Ty.check 1 t:=⟨_,rfl⟩
 obtain ⟨T1,hT1⟩:∃ T:ByteArray,T = ⟨(if f1 = 0 then Tx.ty t else []).toArray⟩:=⟨_,rfl⟩
 have HZ1:Hid (((f1:Int) == 0) = false ∨ (((f1:Int) == 0) = true ∧ ∀ w1,Hv w1 → Calls Tryz.prog 18 #[.string T1] w1 fun e w2 => ∃ k p n c,e = .returned (.tuple #[.agg #[.int .i64 k,.slice p n c],.int .i64 0,.int .i64 0]) ∧ TLies w2 #[.int .i64 k,.slice p n c] t ∧ Below w1.heap.size w1 w2)):=by
  by_cases h:f1 = 0
  ·have h0:Ty.check 1 t = 0:=by rw [← hf1];exact h
   refine .inr ⟨beq_t (by omega),fun w1 hv1 => ?_⟩
   rw [hT1,if_pos h]
   exact BackT t h0 w1 hv1
  ·exact .inl (beq_f (by omega))
 unfold PrnR at HP1
 rw [← hf1,← hT1] at HP1
 obtain ⟨f2,hf2⟩:∃ f,f = Sch.err s:=⟨_,rfl⟩
 obtain ⟨T2,hT2⟩:∃ T:ByteArray,T = ⟨(if f2 = 0 then Tx.sch text s else []).toArray⟩:=⟨_,rfl⟩
 have HZ2:Hid (((f2:Int) == 0) = false ∨ (((f2:Int) == 0) = true ∧ ∀ w1,Hv w1 → Calls Tryz.prog 21 #[.string T2] w1 fun e w2 => ∃ q c,e = .returned (.tuple #[.agg #[.slice q (s.map Col.fix).length c],.int .i64 0,.int .i64 0]) ∧ Cols w2 q (s.map Col.fix) ∧ Below w1.heap.size w1 w2)):=by
  by_cases h:f2 = 0
  ·have h0:Sch.err s = 0:=by rw [← hf2];exact h
   refine .inr ⟨beq_t (by omega),fun w1 hv1 => ?_⟩
   rw [hT2,if_pos h]
   exact BackS s h0 hsw w1 hv1
  ·exact .inl (beq_f (by omega))
 unfold PrnR at HP2
 rw [← hf2,← hT2] at HP2
 obtain ⟨f3,hf3⟩:∃ f,f = chk 1 v:=⟨_,rfl⟩
 obtain ⟨T3,hT3⟩:∃ T:ByteArray,T = ⟨(if f3 = 0 then Tx.val text v else []).toArray⟩:=⟨_,rfl⟩
 have HZ3:Hid (((f3:Int) == 0) = false ∨ (((f3:Int) == 0) = true ∧ ∀ w1,Hv w1 → Calls Tryz.prog 24 #[.string T3] w1 fun e w2 => ∃ k i b t p n c,e = .returned (.tuple #[.agg #[.int .i64 k,.int .i64 i,.float .f64 b,.string t,.slice p n c],.int .i64 0,.int .i64 0]) ∧ VLies w2 #[.int .i64 k,.int .i64 i,.float .f64 b,.string t,.slice p n c] (V.fix v) ∧ Below w1.heap.size w1 w2)):=by
  by_cases h:f3 = 0
  ·have h0:chk 1 v = 0:=by rw [← hf3];exact h
   refine .inr ⟨beq_t (by omega),fun w1 hv1 => ?_⟩
   rw [hT3,if_pos h]
   exact BackV v h0 hvw w1 hv1
  ·exact .inl (beq_f (by omega))
 unfold PrnR at HP3
 rw [← hf3,← hT3] at HP3
 obtain ⟨f4,hf4⟩:∃ f,f = rowErr r:=⟨_,rfl⟩
 obtain ⟨T4,hT4⟩:∃ T:ByteArray,T = ⟨(if f4 = 0 then Tx.row text r else []).toArray⟩:=⟨_,rfl⟩
 have HZ4:Hid (((f4:Int) == 0) = false ∨ (((f4:Int) == 0) = true ∧ ∀ w1,Hv w1 → Calls Tryz.prog 27 #[.string T4] w1 fun e w2 => ∃ q c,e = .returned (.tuple #[.agg #[.slice q (r.map V.fix).length c],.int .i64 0,.int .i64 0]) ∧ Items w2 q (r.map V.fix) ∧ Below w1.heap.size w1 w2)):=by
  by_cases h:f4 = 0
  ·have h0:rowErr r = 0:=by rw [← hf4];exact h
   refine .inr ⟨beq_t (by omega),fun w1 hv1 => ?_⟩
   rw [hT4,if_pos h]
   exact BackR r h0 hrw (hrt h0) w1 hv1
  ·exact .inl (beq_f (by omega))
 unfold PrnR at HP4
 rw [← hf4,← hT4] at HP4
 obtain ⟨s2,hs2⟩:∃ n,n = (s.map Col.fix).length:=⟨_,rfl⟩
 obtain ⟨r2,hr2⟩:∃ n,n = (r.map V.fix).length:=⟨_,rfl⟩
 rw [← hs2] at HZ2 HQ2
 rw [← hr2] at HZ4 HQ4
 have HW0:=Lib.hid hW0
 have HB0:=Lib.hid hb0
 clear hW0 hb0 hT hS hV hR hv hsl hrl hsw hvw hrw hrt hO hf1 hf2 hf3 hf4 hT1 hT2 hT3 hT4 hsl' hrl' hs2 hr2
 go_enter Tryz.func8,Tryz.ntmps8
 go_wp2_with fail
 rw [← HW0.out]
 clear HW0
 refine HLv.out.mono ?_
 rintro e x0 ⟨rfl,hb⟩
 have hcut:Hid (Below W0.heap.size W0 x0):=hb
 clear hb HLv
 obtain ⟨t0,t1,s0,v0,v1,v2,v3,v4,r0⟩:=HCells.out _ hcut.out
 have HX:=Lib.hid (HP1.out _ hcut.out)
 clear HP1
 go_wp2_with fail
 refine HX.out.mono ?_
 rintro e y1 ⟨rfl,hb⟩
 have HY1:=Lib.hid (hcut.out.trans (hb.mono hcut.out.size))
 clear hb HX hcut t0 t1 s0 v0 v1 v2 v3 v4 r0
 go_upto_if 39 with fail
 go_cut [14,15,16] from 39 (fun _ _ _ wx => Hid (Below W0.heap.size W0 wx))
 case first =>
  rcases HZ1.out with g0 | ⟨g0,hB⟩
  ·clear HZ1
   go_wp2
   go_meet
   exact HY1
  ·have HB:=Lib.hid (hB y1 (HHv.out _ HY1.out))
   clear HZ1 hB
   go_wp2_with fail
   refine HB.out.mono ?_
   rintro e z1 ⟨k3,p3,n3,c3,rfl,hl,hb⟩
   obtain ⟨Z1,hZ⟩:∃ Z,Z = z1.alloc (.cells #[.int .i64 k3,.slice p3 n3 c3] 24):=⟨_,rfl⟩
   have hbz:Below z1.heap.size z1 Z1:=by rw [hZ];exact (Below.refl _ _).alloc (Nat.le_refl _) _
   have hk:Z1.heap[z1.heap.size]? = some (.cells #[.int .i64 k3,.slice p3 n3 c3] 24 (0,0)):=by rw [hZ];exact blk_new z1 _
   have hb2:=hb.trans (hbz.mono hb.size)
   have HC:=Lib.hid (HY1.out.trans (hb2.mono HY1.out.size))
   obtain ⟨t0,t1,s0,v0,v1,v2,v3,v4,r0⟩:=HCells.out _ HC.out
   have m0:Z1.cell? ⟨z1.heap.size,0,none⟩ = some (.int .i64 k3):=blk_cell hk 0
   have m1:Z1.cell? ⟨z1.heap.size,1,none⟩ = some (.slice p3 n3 c3):=blk_cell hk 1
   have HS:=Lib.hid (HQ1.out Z1 _ HC.out (hl.on hbz))
   have HZ:=Lib.hid hZ
   clear hl hb hbz hk hb2 hZ HB HQ1
   rw [HZ.out] at t0 t1 s0 v0 v1 v2 v3 v4 r0 m0 m1
   go_wp2_with fail
   rw [← HZ.out]
   refine HS.out.mono ?_
   rintro e y ⟨rfl,hb⟩
   have HE:=Lib.hid (HC.out.trans (hb.mono HC.out.size))
   clear hb HS HC HZ t0 t1 s0 v0 v1 v2 v3 v4 r0 m0 m1
   go_wp2
   go_meet
   exact HE
 case rest =>
  clear HZ1 HQ1 HY1
  obtain ⟨t0,t1,s0,v0,v1,v2,v3,v4,r0⟩:=HCells.out _ hcut.out
  have HX:=Lib.hid (HP2.out _ hcut.out)
  clear HP2
  go_wp2_with fail
  refine HX.out.mono ?_
  rintro e y2 ⟨rfl,hb⟩
  have HY2:=Lib.hid (hcut.out.trans (hb.mono hcut.out.size))
  clear hb HX hcut t0 t1 s0 v0 v1 v2 v3 v4 r0
  go_upto_if 64 with fail
  go_cut [19,20,21] from 64 (fun _ _ _ wx => Hid (Below W0.heap.size W0 wx))
  case first =>
   rcases HZ2.out with g0 | ⟨g0,hB⟩
   ·clear HZ2
    go_wp2
    go_meet
    exact HY2
   ·have HB:=Lib.hid (hB y2 (HHv.out _ HY2.out))
    clear HZ2 hB
    go_wp2_with fail
    refine HB.out.mono ?_
    rintro e z2 ⟨q3,c3,rfl,hl,hb⟩
    obtain ⟨Z2,hZ⟩:∃ Z,Z = z2.alloc (.cells #[.slice q3 s2 c3] 27):=⟨_,rfl⟩
    have hbz:Below z2.heap.size z2 Z2:=by rw [hZ];exact (Below.refl _ _).alloc (Nat.le_refl _) _
    have hk:Z2.heap[z2.heap.size]? = some (.cells #[.slice q3 s2 c3] 27 (0,0)):=by rw [hZ];exact blk_new z2 _
    have hb2:=hb.trans (hbz.mono hb.size)
    have HC:=Lib.hid (HY2.out.trans (hb2.mono HY2.out.size))
    obtain ⟨t0,t1,s0,v0,v1,v2,v3,v4,r0⟩:=HCells.out _ HC.out
    have m0:Z2.cell? ⟨z2.heap.size,0,none⟩ = some (.slice q3 s2 c3):=blk_cell hk 0
    have HS:=Lib.hid (HQ2.out Z2 q3 c3 HC.out (hl.on hbz))
    have HZ:=Lib.hid hZ
    clear hl hb hbz hk hb2 hZ HB HQ2
    rw [HZ.out] at t0 t1 s0 v0 v1 v2 v3 v4 r0 m0
    go_wp2_with fail
    rw [← HZ.out]
    refine HS.out.mono ?_
    rintro e y ⟨rfl,hb⟩
    have HE:=Lib.hid (HC.out.trans (hb.mono HC.out.size))
    clear hb HS HC HZ t0 t1 s0 v0 v1 v2 v3 v4 r0 m0
    go_wp2
    go_meet
    exact HE
  case rest =>
   clear HZ2 HQ2 HY2
   obtain ⟨t0,t1,s0,v0,v1,v2,v3,v4,r0⟩:=HCells.out _ hcut.out
   have HX:=Lib.hid (HP3.out _ hcut.out)
   clear HP3
   go_wp2_with fail
   refine HX.out.mono ?_
   rintro e y3 ⟨rfl,hb⟩
   have HY3:=Lib.hid (hcut.out.trans (hb.mono hcut.out.size))
   clear hb HX hcut t0 t1 s0 v0 v1 v2 v3 v4 r0
   go_upto_if 89 with fail
   go_cut [24,25,26] from 89 (fun _ _ _ wx => Hid (Below W0.heap.size W0 wx))
   case first =>
    rcases HZ3.out with g0 | ⟨g0,hB⟩
    ·clear HZ3
     go_wp2
     go_meet
     exact HY3
    ·have HB:=Lib.hid (hB y3 (HHv.out _ HY3.out))
     clear HZ3 hB
     go_wp2_with fail
     refine HB.out.mono ?_
     rintro e z3 ⟨k3,i3,b3,t3,p3,n3,c3,rfl,hl,hb⟩
     obtain ⟨Z3,hZ⟩:∃ Z,Z = z3.alloc (.cells #[.int .i64 k3,.int .i64 i3,.float .f64 b3,.string t3,.slice p3 n3 c3] 31):=⟨_,rfl⟩
     have hbz:Below z3.heap.size z3 Z3:=by rw [hZ];exact (Below.refl _ _).alloc (Nat.le_refl _) _
     have hk:Z3.heap[z3.heap.size]? = some (.cells #[.int .i64 k3,.int .i64 i3,.float .f64 b3,.string t3,.slice p3 n3 c3] 31 (0,0)):=by rw [hZ];exact blk_new z3 _
     have hb2:=hb.trans (hbz.mono hb.size)
     have HC:=Lib.hid (HY3.out.trans (hb2.mono HY3.out.size))
     obtain ⟨t0,t1,s0,v0,v1,v2,v3,v4,r0⟩:=HCells.out _ HC.out
     have m0:Z3.cell? ⟨z3.heap.size,0,none⟩ = some (.int .i64 k3):=blk_cell hk 0
     have m1:Z3.cell? ⟨z3.heap.size,1,none⟩ = some (.int .i64 i3):=blk_cell hk 1
     have m2:Z3.cell? ⟨z3.heap.size,2,none⟩ = some (.float .f64 b3):=blk_cell hk 2
     have m3:Z3.cell? ⟨z3.heap.size,3,none⟩ = some (.string t3):=blk_cell hk 3
     have m4:Z3.cell? ⟨z3.heap.size,4,none⟩ = some (.slice p3 n3 c3):=blk_cell hk 4
     have HS:=Lib.hid (HQ3.out Z3 _ HC.out (hl.on hbz))
     have HZ:=Lib.hid hZ
     clear hl hb hbz hk hb2 hZ HB HQ3
     rw [HZ.out] at t0 t1 s0 v0 v1 v2 v3 v4 r0 m0 m1 m2 m3 m4
     go_wp2_with fail
     rw [← HZ.out]
     refine HS.out.mono ?_
     rintro e y ⟨rfl,hb⟩
     have HE:=Lib.hid (HC.out.trans (hb.mono HC.out.size))
     clear hb HS HC HZ t0 t1 s0 v0 v1 v2 v3 v4 r0 m0 m1 m2 m3 m4
     go_wp2
     go_meet
     exact HE
   case rest =>
    clear HZ3 HQ3 HY3
    obtain ⟨t0,t1,s0,v0,v1,v2,v3,v4,r0⟩:=HCells.out _ hcut.out
    have HX:=Lib.hid (HP4.out _ hcut.out)
    clear HP4
    go_wp2_with fail
    refine HX.out.mono ?_
    rintro e y4 ⟨rfl,hb⟩
    have HY4:=Lib.hid (hcut.out.trans (hb.mono hcut.out.size))
    clear hb HX hcut t0 t1 s0 v0 v1 v2 v3 v4 r0
    go_upto_if 114 with fail
    go_cut [29,30,31] from 114 (fun _ _ _ wx => Hid (Below W0.heap.size W0 wx))
    case first =>
     rcases HZ4.out with g0 | ⟨g0,hB⟩
     ·clear HZ4
      go_wp2
      go_meet
      exact HY4
     ·have HB:=Lib.hid (hB y4 (HHv.out _ HY4.out))
      clear HZ4 hB
      go_wp2_with fail
      refine HB.out.mono ?_
      rintro e z4 ⟨q3,c3,rfl,hl,hb⟩
      obtain ⟨Z4,hZ⟩:∃ Z,Z = z4.alloc (.cells #[.slice q3 r2 c3] 33):=⟨_,rfl⟩
      have hbz:Below z4.heap.size z4 Z4:=by rw [hZ];exact (Below.refl _ _).alloc (Nat.le_refl _) _
      have hk:Z4.heap[z4.heap.size]? = some (.cells #[.slice q3 r2 c3] 33 (0,0)):=by rw [hZ];exact blk_new z4 _
      have hb2:=hb.trans (hbz.mono hb.size)
      have HC:=Lib.hid (HY4.out.trans (hb2.mono HY4.out.size))
      obtain ⟨t0,t1,s0,v0,v1,v2,v3,v4,r0⟩:=HCells.out _ HC.out
      have m0:Z4.cell? ⟨z4.heap.size,0,none⟩ = some (.slice q3 r2 c3):=blk_cell hk 0
      have HS:=Lib.hid (HQ4.out Z4 q3 c3 HC.out (hl.on hbz))
      have HZ:=Lib.hid hZ
      clear hl hb hbz hk hb2 hZ HB HQ4
      rw [HZ.out] at t0 t1 s0 v0 v1 v2 v3 v4 r0 m0
      go_wp2_with fail
      rw [← HZ.out]
      refine HS.out.mono ?_
      rintro e y ⟨rfl,hb⟩
      have HE:=Lib.hid (HC.out.trans (hb.mono HC.out.size))
      clear hb HS HC HZ t0 t1 s0 v0 v1 v2 v3 v4 r0 m0
      go_wp2
      go_meet
      exact HE
    case rest =>
     clear HZ4 HQ4 HY4
     have HX:=Lib.hid (HAg.out _ hcut.out)
     go_wp2_with fail
     refine HX.out.mono ?_
     rintro e y ⟨rfl,hb⟩
     have HE:=Lib.hid (HB0.out.trans ((hcut.out.trans (hb.mono hcut.out.size)).mono HB0.out.size))
     clear hb HX
     go_wp2
     go_ret
     exact ⟨rfl,HE.out⟩
end Go.Proofs.YtkooafdhceeeoaaGreatDoor
