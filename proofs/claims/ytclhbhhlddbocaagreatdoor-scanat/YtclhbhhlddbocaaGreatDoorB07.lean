import Derived.Test.YtclhbhhlddbocaaGreatDoorB04
import Derived.Test.YtclhbhhlddbocaaGreatDoorB06
import Derived.Test.YtclhbhhlddbocaaGreatDoorB05
set_option maxRecDepth 100000
set_option maxHeartbeats 1000000
namespace Go.Proofs.YtclhbhhlddbocaaGreatDoor
open Go.RowKit
theorem refSameType7:∀ (x y:Ty) (w:World) (u v:Array Value),TLies w u x → TLies w v y → Calls Tryz.prog 99 #[.agg u,.agg v] w fun e w' => e = .returned (.bool (Ty.same x y)) ∧ Below w.heap.size w w':=by
 intro x
 refine Ty.ind (P:=fun x => ∀ (y:Ty) (w:World) (u v:Array Value),TLies w u x → TLies w v y → Calls Tryz.prog 99 #[.agg u,.agg v] w fun e w' => e = .returned (.bool (Ty.same x y)) ∧ Below w.heap.size w w') ?_ x
 rintro k xs ih ⟨k',ys⟩ w u v hx hy
 obtain ⟨p,c,rfl,hxl,hxc,hxi⟩:=hx.open
 obtain ⟨q,d,rfl,hyl,hyc,hyi⟩:=hy.open
 unfold cells2
 obtain ⟨W0,hW0⟩:∃ W0,W0 = (w.alloc (.cells #[.int .i64 k,.slice p xs.length c] 127)).alloc (.cells #[.int .i64 k',.slice q ys.length d] 127):=⟨_,rfl⟩
 have HB0:Hid (Below w.heap.size w W0):=by rw [hW0];exact ((Below.refl _ _).alloc (Nat.le_refl _) _).alloc (by simp) _
 have HY:Hid (W0.cell? ⟨w.heap.size,1,none⟩ = some (.slice p xs.length c) ∧ W0.cell? ⟨w.heap.size + 1,1,none⟩ = some (.slice q ys.length d)):=by rw [hW0];exact ⟨by simp,by simp⟩
 have HW0:=Lib.hid hW0
 clear hW0 hx hy
 by_cases h1:¬ k = k'
 ·have g1:=bne_t h1
  have HE:Hid (Ty.same (.mk k xs) (.mk k' ys) = false):=by show _ = _;simp [Ty.same_mk,h1]
  clear ih hxi hyi h1
  go_enter Tryz.func99,Tryz.ntmps99
  go_wp2
  rw [← HW0.out]
  go_ret
  exact ⟨by rw [HE.out];rfl,HB0.out⟩
 replace h1:k = k':=Classical.not_not.1 h1
 have g1:=bne_f h1
 by_cases h5:¬ xs.length = ys.length
 ·have g5:((xs.length:Int) != (ys.length:Int)) = true:=bne_t (by omega)
  have HE:Hid (Ty.same (.mk k xs) (.mk k' ys) = false):=by show _ = _;simp [Ty.same_mk,Ty.sameL_ne xs ys h5]
  clear ih hxi hyi h1 h5
  go_enter Tryz.func99,Tryz.ntmps99
  go_wp2
  rw [← HW0.out]
  go_ret
  exact ⟨by rw [HE.out];rfl,HB0.out⟩
 replace h5:xs.length = ys.length:=Classical.not_not.1 h5
 have g5:((xs.length:Int) != (ys.length:Int)) = false:=bne_f (by omega)
 have HE:Hid (Ty.same (.mk k xs) (.mk k' ys) = Ty.sameL xs ys):=by show _ = _;simp [Ty.same_mk,h1]
 have HX:Hid (∀ j (hj:j < xs.length),∃ u',TLies w u' xs[j] ∧ ItemT w p j u'):=hxi
 have HY2:Hid (∀ j (hj:j < ys.length),∃ u',TLies w u' ys[j] ∧ ItemT w q j u'):=hyi
 have HIH:=Lib.hid ih
 have H5:=Lib.hid h5
 clear ih hxi hyi h1 h5
 go_enter Tryz.func99,Tryz.ntmps99
 go_wp2_with fail
 rw [← HW0.out]
 clear HW0
 go_loopw [5,6] (fun v5 _ wr => ∃ j:Nat,j ≤ xs.length ∧ v5 = .int .i64 j ∧ Hid (Below W0.heap.size W0 wr ∧ ∀ m (h1:m < xs.length) (h2:m < ys.length),m < j → Ty.same xs[m] ys[m] = true)) (fun v5 _ _ => xs.length - (intOf v5).toNat)
 case atStart => exact ⟨0,by omega,rfl,Below.refl _ _,fun m _ _ h => by omega⟩
 case round =>
  obtain ⟨j,hj,rfl,HL⟩:=hrel
  have hbw:Below w.heap.size w wr:=HB0.out.trans (HL.out.1.mono HB0.out.size)
  have y1:wr.cell? ⟨w.heap.size,1,none⟩ = some (.slice p xs.length c):=cell_on HL.out.1 HY.out.1
  have y2:wr.cell? ⟨w.heap.size + 1,1,none⟩ = some (.slice q ys.length d):=cell_on HL.out.1 HY.out.2
  by_cases hlt:j < xs.length
  ·have hlt2:j < ys.length:=by have:=H5.out;omega
   obtain ⟨ux,hvx,hix⟩:=HX.out j hlt
   obtain ⟨uy,hvy,hiy⟩:=HY2.out j hlt2
   obtain ⟨bx,ox,kx,qx,nx,cx,rfl,_,rfl,a0,a1⟩:=(hix.on hbw).lies
   obtain ⟨by',oy,ky,qy,ny,cy,rfl,_,rfl,b0,b1⟩:=(hiy.on hbw).lies
   have HC:Hid (∀ w',Below w.heap.size w w' → Calls Tryz.prog 99 #[.agg #[.int .i64 kx,.slice qx nx cx],.agg #[.int .i64 ky,.slice qy ny cy]] w' fun e w'' => e = .returned (.bool (Ty.same xs[j] ys[j])) ∧ Below w'.heap.size w' w'') :=
    fun w' hb => HIH.out _ (List.getElem_mem hlt) ys[j] w' _ _ (hvx.on hb) (hvy.on hb)
   have HBw:=Lib.hid hbw
   have HBW:=Lib.hid HL.out.1
   have HAll:=Lib.hid HL.out.2
   have hj1:(j:Int) < (xs.length:Int):=by omega
   have hj2:(j:Int) < (ys.length:Int):=by omega
   obtain ⟨r,hr⟩:∃ r,r = Ty.same xs[j] ys[j]:=⟨_,rfl⟩
   rw [← hr] at HC
   have HRr:=Lib.hid hr
   clear hvx hvy hix hiy hbw HL hr
   go_wp2_with fail
   go_region_held3 (fun w' => w'.cell? ⟨bx,ox + j * 2,none⟩ = some (.int .i64 kx) ∧ w'.cell? ⟨bx,ox + j * 2 + 1,none⟩ = some (.slice qx nx cx) ∧ w'.cell? ⟨by',oy + j * 2,none⟩ = some (.int .i64 ky) ∧ w'.cell? ⟨by',oy + j * 2 + 1,none⟩ = some (.slice qy ny cy) ∧ w'.cell? ⟨w.heap.size,1,none⟩ = some (.slice (some ⟨bx,ox,none⟩) xs.length c) ∧ w'.cell? ⟨w.heap.size + 1,1,none⟩ = some (.slice (some ⟨by',oy,none⟩) ys.length d)) (go_keep) (first
    | (go_at_call 99;refine (HC.out _ (below_drewN HBw.out _)).mono ?_;rintro e w4 ⟨rfl,hb4⟩;have hb5:=below_via (w:=wr) hb4 (by rfl) (by rfl) (by rfl) (by rfl);have z3:=cell_on hb5 a0;have z4:=cell_on hb5 a1;have z5:=cell_on hb5 b0;have z6:=cell_on hb5 b1;have z7:=cell_on hb5 y1;have z8:=cell_on hb5 y2;have HB4:=Lib.hid hb5;clear hb4 hb5))
   clear z3 z4 z5 z6 z7 z8 a0 a1 b0 b1 y1 y2
   cases r with
   | true =>
    have HN:Hid (Below W0.heap.size W0 w4 ∧ ∀ m (h1:m < xs.length) (h2:m < ys.length),m < j + 1 → Ty.same xs[m] ys[m] = true):=by
     refine ⟨HBW.out.trans (HB4.out.mono HBW.out.size),fun m h1 h2 hm => ?_⟩
     by_cases hmj:m = j
     ·subst hmj;exact HRr.out.symm
     ·exact HAll.out m h1 h2 (by omega)
    clear HB4 HAll HC
    go_wp2
    go_roundw
    case rel => exact ⟨j + 1,by omega,by go_num,HN⟩
    case measure => simp [intOf];omega
   | false =>
    have HF0:Hid (Ty.sameL xs ys = false):=Ty.sameL_at xs ys j hlt hlt2 HRr.out.symm
    have HF:=Lib.hid (HBw.out.trans (HB4.out.mono HBw.out.size))
    clear HB4 HAll HC
    go_wp2
    go_ret
    exact ⟨by rw [HE.out,HF0.out];rfl,HF.out⟩
  ·have HF0:Hid (Ty.sameL xs ys = true):=Ty.sameL_all xs ys H5.out (fun m h1 h2 => HL.out.2 m h1 h2 (by omega))
   have HF:=Lib.hid hbw
   have hjn:¬ (j:Int) < (xs.length:Int):=by omega
   clear HL hbw hlt
   go_wp2
   go_ret
   exact ⟨by rw [HE.out,HF0.out];rfl,HF.out⟩
end Go.Proofs.YtclhbhhlddbocaaGreatDoor
namespace Go.Proofs.YtclhbhhlddbocaaGreatDoor
open Go.RowKit
theorem headD_get {l:List UInt8} (h:0 < l.length):l.headD 0 = l[0]:=by
 cases l with
 | nil => simp at h
 | cons a r => rfl
theorem name_short {t:ByteArray} (h:t.size < 1 ∨ 16 < t.size):Sch.name t = false:=by
 have hs:t.data.toList.length = t.size:=by rw [Array.length_toList];rfl
 unfold Sch.name Sch.nameL
 rw [decide_eq_false (by omega)]
 rfl
theorem name_head {t:ByteArray} (h:0 < t.size) (hc:Sch.low t[0] = false):Sch.name t = false:=by
 have hs:t.data.toList.length = t.size:=by rw [Array.length_toList];rfl
 unfold Sch.name Sch.nameL
 have e:t.data.toList.headD 0 = t[0]:=by
  rw [← text_get t 0 h]
  exact headD_get (by omega)
 rw [e,hc,Bool.and_false,Bool.false_and]
theorem name_bad {t:ByteArray} (j:Nat) (h:j < t.size) (hc:Sch.ch t[j] = false):Sch.name t = false:=by
 have hs:t.data.toList.length = t.size:=by rw [Array.length_toList];rfl
 unfold Sch.name Sch.nameL
 have:t.data.toList.all Sch.ch = false:=by
  rw [List.all_eq_false]
  refine ⟨t[j],?_,by simp [hc]⟩
  rw [← text_get t j h]
  exact List.getElem_mem _
 rw [this,Bool.and_false]
theorem name_good {t:ByteArray} (h1:1 ≤ t.size) (h2:t.size ≤ 16) (h3:Sch.low (t[0]'(by omega)) = true) (h4:∀ j (h:j < t.size),Sch.ch t[j] = true):Sch.name t = true:=by
 have hs:t.data.toList.length = t.size:=by rw [Array.length_toList];rfl
 unfold Sch.name Sch.nameL
 have e:t.data.toList.headD 0 = t[0]'(by omega):=by
  rw [← text_get t 0 (by omega)]
  exact headD_get (by omega)
 have:t.data.toList.all Sch.ch = true:=by
  rw [List.all_eq_true]
  intro x hx
  obtain ⟨j,hj,rfl⟩:=List.getElem_of_mem hx
  rw [text_get t j (by omega)]
  exact h4 j (by omega)
 rw [e,h3,this,decide_eq_true (by omega)]
 rfl
theorem refName7 (t:ByteArray) (w:World):Calls Tryz.prog 151 #[.string t] w fun e w' => e = .returned (.bool (Sch.name t)) ∧ w' = w:=by
 by_cases h1:t.size < 1
 ·have g1:(t.size:Int) < 1:=by omega
  have HE:=Lib.hid (name_short (t:=t) (.inl h1))
  clear h1
  go_enter Tryz.func151,Tryz.ntmps151
  go_wp2
  go_ret
  exact ⟨by rw [HE.out];rfl,rfl⟩
 have g1:¬ (t.size:Int) < 1:=by omega
 by_cases h2:16 < t.size
 ·have g2:(16:Int) < (t.size:Int):=by omega
  have HE:=Lib.hid (name_short (t:=t) (.inr h2))
  clear h1 h2
  go_enter Tryz.func151,Tryz.ntmps151
  go_wp2
  go_ret
  exact ⟨by rw [HE.out];rfl,rfl⟩
 have g2:¬ (16:Int) < (t.size:Int):=by omega
 have h0:0 < t.size:=by omega
 have h0':(0:Int) < (t.size:Int):=by omega
 by_cases h3:Sch.low t[0] = false
 ·have HE:=Lib.hid (name_head h0 h3)
  have h4:t[0].toNat < 97 ∨ 122 < t[0].toNat:=by
   unfold Sch.low at h3
   rw [decide_eq_false_iff_not] at h3
   omega
  clear h3 h1 h2
  rcases h4 with h4 | h4
  ·have g4:(t[0].toNat:Int) < 97:=by omega
   go_enter Tryz.func151,Tryz.ntmps151
   go_wp2
   go_ret
   exact ⟨by rw [HE.out];rfl,rfl⟩
  ·have g4:¬ (t[0].toNat:Int) < 97:=by omega
   have g5:(122:Int) < (t[0].toNat:Int):=by omega
   go_enter Tryz.func151,Tryz.ntmps151
   go_wp2
   go_ret
   exact ⟨by rw [HE.out];rfl,rfl⟩
 have h3':Sch.low t[0] = true:=by simpa using h3
 have H3:=Lib.hid h3'
 have h4:97 ≤ t[0].toNat ∧ t[0].toNat ≤ 122:=by
  unfold Sch.low at h3'
  rw [decide_eq_true_eq] at h3'
  exact h3'
 have g4:¬ (t[0].toNat:Int) < 97:=by omega
 have g5:¬ (122:Int) < (t[0].toNat:Int):=by omega
 clear h3 h3' h4
 go_enter Tryz.func151,Tryz.ntmps151
 go_wp2
 go_loop [3,4] (fun v3 _ => ∃ a:Nat,a ≤ t.size ∧ v3 = .int .i64 a ∧ Hid (∀ j (h:j < t.size),j < a → Sch.ch t[j] = true)) (fun v3 _ => t.size - (intOf v3).toNat)
 case atStart => exact ⟨0,by omega,rfl,fun j _ h => by omega⟩
 case round =>
  obtain ⟨a,ha,rfl,HA⟩:=hrel
  by_cases hlt:a < t.size
  ·have hlt':(a:Int) < (t.size:Int):=by omega
   have hc2:=t[a].toNat_lt
   by_cases hc:Sch.ch t[a] = true
   ·have HN:Hid (∀ j (h:j < t.size),j < a + 1 → Sch.ch t[j] = true):=fun j h hj => by
     by_cases hja:j = a
     ·subst hja;exact hc
     ·exact HA.out j h (by omega)
    have hcs:(97 ≤ t[a].toNat ∧ t[a].toNat ≤ 122) ∨ (48 ≤ t[a].toNat ∧ t[a].toNat ≤ 57) ∨ t[a].toNat = 95:=by
     unfold Sch.ch Sch.low at hc
     simp only [Bool.or_eq_true,decide_eq_true_eq] at hc
     omega
    clear HA hc g4 g5 H3
    rcases hcs with hcs | hcs | hcs
    ·have k1:¬ (t[a].toNat:Int) < 97:=by omega
     have k2:¬ (122:Int) < (t[a].toNat:Int):=by omega
     clear hcs
     go_wp2
     go_round
     case rel => exact ⟨a + 1,by omega,by go_num,HN⟩
     case measure => simp [intOf];omega
    ·have k1:(t[a].toNat:Int) < 97:=by omega
     have k2:¬ (t[a].toNat:Int) < 48:=by omega
     have k3:¬ (57:Int) < (t[a].toNat:Int):=by omega
     clear hcs
     go_wp2
     go_round
     case rel => exact ⟨a + 1,by omega,by go_num,HN⟩
     case measure => simp [intOf];omega
    ·have k1:(t[a].toNat:Int) < 97:=by omega
     have k2:¬ (t[a].toNat:Int) < 48:=by omega
     have k3:(57:Int) < (t[a].toNat:Int):=by omega
     have k4:((t[a].toNat:Int) != 95) = false:=by rw [hcs];rfl
     clear hcs
     go_wp2
     go_round
     case rel => exact ⟨a + 1,by omega,by go_num,HN⟩
     case measure => simp [intOf];omega
   ·have HE:=Lib.hid (name_bad a hlt (by simpa using hc))
    have hcs:t[a].toNat < 48 ∨ (57 < t[a].toNat ∧ t[a].toNat < 97 ∧ t[a].toNat ≠ 95) ∨ 122 < t[a].toNat:=by
     unfold Sch.ch Sch.low at hc
     simp only [Bool.or_eq_true,decide_eq_true_eq] at hc
     omega
    clear HA hc g4 g5 H3
    rcases hcs with hcs | hcs | hcs
    ·have k1:(t[a].toNat:Int) < 97:=by omega
     have k2:(t[a].toNat:Int) < 48:=by omega
     have k4:((t[a].toNat:Int) != 95) = true:=by rw [bne_iff_ne];omega
     clear hcs
     go_wp2
     go_ret
     exact ⟨by rw [HE.out];rfl,rfl⟩
    ·have k1:(t[a].toNat:Int) < 97:=by omega
     have k2:¬ (t[a].toNat:Int) < 48:=by omega
     have k3:(57:Int) < (t[a].toNat:Int):=by omega
     have k4:((t[a].toNat:Int) != 95) = true:=by rw [bne_iff_ne];omega
     clear hcs
     go_wp2
     go_ret
     exact ⟨by rw [HE.out];rfl,rfl⟩
    ·have k1:¬ (t[a].toNat:Int) < 97:=by omega
     have k5:(122:Int) < (t[a].toNat:Int):=by omega
     have k2:¬ (t[a].toNat:Int) < 48:=by omega
     have k3:(57:Int) < (t[a].toNat:Int):=by omega
     have k4:((t[a].toNat:Int) != 95) = true:=by rw [bne_iff_ne];omega
     clear hcs
     go_wp2
     go_ret
     exact ⟨by rw [HE.out];rfl,rfl⟩
  ·have HE:=Lib.hid (name_good (t:=t) (by omega) (by omega) H3.out (fun j h => HA.out j h (by omega)))
   have hjn:¬ (a:Int) < (t.size:Int):=by omega
   clear HA
   go_wp2
   go_ret
   exact ⟨by rw [HE.out];rfl,rfl⟩
end Go.Proofs.YtclhbhhlddbocaaGreatDoor
namespace Go.Proofs.YtclhbhhlddbocaaGreatDoor
open Go.RowKit
def foundV (r:Option Nat):Value:=match r with
 | some k => .tuple #[.int .i64 k,.bool true]
 | none => .tuple #[.int .i64 0,.bool false]
theorem find_drop (n:ByteArray) (s:List Col) (j:Nat) (hj:j < s.length):Sch.find n (s.drop j) j = if s[j].name = n then some j else Sch.find n (s.drop (j + 1)) (j + 1):=by
 rw [List.drop_eq_getElem_cons hj,Sch.find]
theorem refFind7 (s:List Col) (t:ByteArray) (p:Option Addr) (c:Nat) (w:World) (hs:s.length * 120 ≤ 140737488351232) (hx:Cols w p s):Calls Tryz.prog 167 #[.agg #[.slice p s.length c],.string t] w fun e w' => e = .returned (foundV (Sch.find t s 0)) ∧ Below w.heap.size w w':=by
 have HX:=Lib.hid hx
 clear hx
 obtain ⟨W0,hW0⟩:∃ W0,W0 = w.alloc (.cells #[.slice p s.length c] 24):=⟨_,rfl⟩
 have HB0:Hid (Below w.heap.size w W0):=by rw [hW0];exact (Below.refl _ _).alloc (Nat.le_refl _) _
 have y0:W0.cell? ⟨w.heap.size,0,none⟩ = some (.slice p s.length c):=by rw [hW0];simp
 have HW0:=Lib.hid hW0
 obtain ⟨R,hR⟩:∃ R,R = Sch.find t s 0:=⟨_,rfl⟩
 have HR:=Lib.hid hR
 rw [← hR]
 clear hW0 hR
 go_enter Tryz.func167,Tryz.ntmps167
 go_wp2_with fail
 rw [← HW0.out]
 go_loopw [6] (fun v6 wr => ∃ j:Nat,j ≤ s.length ∧ v6 = .int .i64 j ∧ wr = W0 ∧ Hid (R = Sch.find t (s.drop j) j)) (fun v6 _ => s.length - (intOf v6).toNat)
 case atStart => exact ⟨0,by omega,rfl,rfl,HR.out⟩
 case round =>
  obtain ⟨j,hj,rfl,rfl,HF⟩:=hrel
  by_cases hlt:j < s.length
  ·obtain ⟨bx,ox,k,tp,tn,tc,vk,vi,vb,vt,vp,vn,vc,rfl,_,h9,-⟩:=(HX.out.on HB0.out).at j hlt
   have a0:=h9.1
   have hj1:(j:Int) < (s.length:Int):=by omega
   have HD:=Lib.hid (HF.out.trans (find_drop t s j hlt))
   by_cases hn:s[j].name = t
   ·have g:(s[j].name.toList == t.toList) = true:=by rw [text_eq,decide_eq_true hn]
    have HE:Hid (foundV R = .tuple #[.int .i64 j,.bool true]):=by show _ = _;rw [HD.out,if_pos hn];rfl
    generalize s[j].name = nm at *
    clear HF HD h9 hn
    go_wp2
    go_ret2
    exact ⟨by rw [HE.out];rfl,HB0.out⟩
   ·have g:(s[j].name.toList == t.toList) = false:=by rw [text_eq,decide_eq_false hn]
    have HE:Hid (R = Sch.find t (s.drop (j + 1)) (j + 1)):=by show _ = _;rw [HD.out,if_neg hn]
    generalize s[j].name = nm at *
    clear HF HD h9 hn
    go_wp2
    go_roundw
    case rel => exact ⟨j + 1,by omega,by go_num,trivial,HE⟩
    case measure => simp [intOf];omega
  ·have hjn:¬ (j:Int) < (s.length:Int):=by omega
   have HE:Hid (foundV R = .tuple #[.int .i64 0,.bool false]):=by show _ = _;rw [HF.out,List.drop_eq_nil_of_le (by omega)];rfl
   clear HF
   go_wp2
   go_ret2
   exact ⟨by rw [HE.out];rfl,HB0.out⟩
end Go.Proofs.YtclhbhhlddbocaaGreatDoor
namespace Go.Proofs.YtclhbhhlddbocaaGreatDoor
open Go.RowKit
end Go.Proofs.YtclhbhhlddbocaaGreatDoor
namespace Go.Proofs.YtclhbhhlddbocaaGreatDoor
theorem sameS_ne:∀ (s t:List Col),s.length ≠ t.length → Sch.same s t = false
 | [],[],h => absurd rfl h
 | [],_ :: _,_ => rfl
 | _ :: _,[],_ => rfl
 | c :: s,d :: t,h => by rw [Sch.same,sameS_ne s t (by simpa using h),Bool.and_false]
theorem sameS_at:∀ (s t:List Col) (j:Nat) (h1:j < s.length) (h2:j < t.length),Sch.colSame s[j] t[j] = false → Sch.same s t = false
 | c :: s,d :: t,0,_,_,h => by rw [Sch.same];simp at h;rw [h,Bool.false_and]
 | c :: s,d :: t,j + 1,h1,h2,h => by rw [Sch.same,sameS_at s t j (by simpa using h1) (by simpa using h2) (by simpa using h),Bool.and_false]
theorem sameS_all:∀ (s t:List Col),s.length = t.length → (∀ j (h1:j < s.length) (h2:j < t.length),Sch.colSame s[j] t[j] = true) → Sch.same s t = true
 | [],[],_,_ => rfl
 | [],_ :: _,h,_ => by simp at h
 | _ :: _,[],h,_ => by simp at h
 | c :: s,d :: t,h,ha => by
  rw [Sch.same,sameS_all s t (by simpa using h) (fun j h1 h2 => by have:=ha (j + 1) (by simpa using h1) (by simpa using h2);simpa using this)]
  have:=ha 0 (by simp) (by simp)
  simp at this
  rw [this];rfl
end Go.Proofs.YtclhbhhlddbocaaGreatDoor
