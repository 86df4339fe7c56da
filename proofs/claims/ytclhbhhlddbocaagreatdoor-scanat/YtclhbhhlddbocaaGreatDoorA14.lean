import Derived.Test.YtclhbhhlddbocaaGreatDoorA3
import Derived.Test.YtclhbhhlddbocaaGreatDoorA12
import Derived.Test.YtclhbhhlddbocaaGreatDoorD1
set_option maxRecDepth 100000
set_option maxHeartbeats 8000000
namespace Go.Proofs.YtclhbhhlddbocaaGreatDoor
open Go.RowKit
theorem findIdx_at14 {t:List UInt8} {i:Nat} (hi:i < t.length) (h0:t[i] = 0) (hn:∀ j (hj:j < t.length),j < i → t[j] ≠ 0):t.findIdx (· == 0) = i:=by
 have e:t = t.take i ++ 0 :: t.drop (i + 1):=by
  rw [← h0,← List.drop_eq_getElem_cons hi,List.take_append_drop]
 have hl:(t.take i).length = i:=by rw [List.length_take];omega
 have h1:=Sc.findIdx_pre (t.take i) (t.drop (i + 1)) (fun c hc => by
  obtain ⟨j,hj,rfl⟩:=List.getElem_of_mem hc
  rw [List.getElem_take]
  exact hn j (by omega) (by omega))
 rw [← e,hl] at h1
 exact h1
theorem findIdx_no14 {t:List UInt8} (hn:∀ j (hj:j < t.length),t[j] ≠ 0):¬ t.findIdx (· == 0) < t.length:=by
 intro h
 have h1:=List.findIdx_getElem (w:=h)
 exact hn _ h (by simpa using h1)
section
variable {w:World} {B g:Nat} {v:Value} {s:Dv.St}
theorem at_doneR {w w1:World} {d0 d1 d2 d3 d4 d5 d6 d7 d8 d9 d10:Value} (hb:w1.heap[w.heap.size]? = some (.cells #[d0,d1,d2,d3,d4,d5,d6,d7,d8,d9,d10] 30 (0,0))) (ha:Aside (fun k => k = g) w w1) (h:RDev w1 B g v s) (hg:g < w.heap.size) (c0 c1 c2 c3 c4 c5 c6 c7 c8 c9 c10:Value) :
  (set11 w1 w.heap.size c0 c1 c2 c3 c4 c5 c6 c7 c8 c9 c10).heap[w.heap.size]? = some (.cells #[c0,c1,c2,c3,c4,c5,c6,c7,c8,c9,c10] 30 (0,0)) ∧ RDev (set11 w1 w.heap.size c0 c1 c2 c3 c4 c5 c6 c7 c8 c9 c10) B g v s ∧ Aside (fun k => k = g) w (set11 w1 w.heap.size c0 c1 c2 c3 c4 c5 c6 c7 c8 c9 c10):=by
 have hs:=set11_aside w1 w.heap.size c0 c1 c2 c3 c4 c5 c6 c7 c8 c9 c10
 refine ⟨set11_block hb _ _ _ _ _ _ _ _ _ _ _,h.aside hs (by omega) (fun j hj hc => ?_),ha.trans hs (fun i hi hc => by omega)⟩
 have:=has_apart h.has hb (by decide)
 exact this (by rw [hj,hc])
theorem at_doneR_alloc {w w1:World} {d0 d1 d2 d3 d4 d5 d6 d7 d8 d9 d10:Value} (hb:w1.heap[w.heap.size]? = some (.cells #[d0,d1,d2,d3,d4,d5,d6,d7,d8,d9,d10] 30 (0,0))) (ha:Aside (fun k => k = g) w w1) (h:RDev w1 B g v s) (hg:g < w.heap.size) (c0 c1 c2 c3 c4 c5 c6 c7 c8 c9 c10:Value) (o:Obj) :
  (set11 (w1.alloc o) w.heap.size c0 c1 c2 c3 c4 c5 c6 c7 c8 c9 c10).heap[w.heap.size]? = some (.cells #[c0,c1,c2,c3,c4,c5,c6,c7,c8,c9,c10] 30 (0,0)) ∧ RDev (set11 (w1.alloc o) w.heap.size c0 c1 c2 c3 c4 c5 c6 c7 c8 c9 c10) B g v s ∧ Aside (fun k => k = g) w (set11 (w1.alloc o) w.heap.size c0 c1 c2 c3 c4 c5 c6 c7 c8 c9 c10):=by
 exact at_doneR ((blk_old _ o (blk_lt hb)).trans hb) (ha.alloc o) (h.below ((Below.refl _ _).alloc (Nat.le_refl _) o)) hg c0 c1 c2 c3 c4 c5 c6 c7 c8 c9 c10
theorem refAt_out (h:RDev w B g v s) (hd:s.down = false) (hl:s.b.length ≤ 2097152) (p:Int) (er:Nat) (hp:(er = 7 ∧ (p < 0 ∨ (s.b.length:Int) < p)) ∨ (er = 140 ∧ p = (s.b.length:Int))) :
  Calls Tryz.prog 26 #[.pointer (some ⟨g,0,none⟩),.int .i64 p] w fun e w' => e = .returned (.tuple #[.agg zero11,.int .i64 0,.int .i64 (er:Nat)]) ∧ RDev w' B g v s ∧ Aside (fun k => k = g) w w':=by
 obtain ⟨W0,hW0⟩:∃ W0,W0 = w.alloc (.cells zero11 30):=⟨_,rfl⟩
 have hb0:Below w.heap.size w W0:=by rw [hW0];exact (Below.refl _ _).alloc (Nat.le_refl _) _
 have hk0:W0.heap[w.heap.size]? = some (.cells zero11 30 (0,0)):=by rw [hW0];exact blk_new w _
 have HW0:Hid (w.alloc (.cells #[.int .i64 0,.int .i64 0,.slice none 0 0,.int .i64 0,.int .i64 0,.int .i64 0,.slice none 0 0,.int .i64 0,.int .i64 0,.int .i64 0,.slice none 0 0] 30) = W0):=hW0.symm
 have HBad:=Lib.hid (at_doneR (w:=w) hk0 (aside_new hb0 _) (h.below hb0) h.lt (.int .i64 0) (.int .i64 0) (.slice none 0 0) (.int .i64 0) (.int .i64 0) (.int .i64 0) (.slice none 0 0) (.int .i64 0) (.int .i64 0) (.int .i64 0) (.slice none 0 0))
 have HU:=Lib.hid (refUp (h.below hb0))
 rw [hd] at HU
 have HL:=Lib.hid (refLen5 (h.below hb0))
 obtain ⟨n,hn⟩:∃ n,n = s.b.length:=⟨_,rfl⟩
 rw [← hn] at HL hp hl
 obtain ⟨x0,x1,x2,x3,x4,x5,x6,x7,x8,x9,x10⟩:=blk_all14 hk0
 obtain ⟨y0,y1,y2,y3,y4,y5,y6,y7,y8,y9,y10⟩:=blk_thaw14 hk0
 clear hW0 hb0 hk0 h hn hd
 have hc:(er = 7 ∧ decide (p < 0) = true) ∨ (er = 7 ∧ decide (p < 0) = false ∧ (n:Int) < p) ∨ (er = 140 ∧ decide ((n:Int) < 0) = false ∧ p = (n:Int)):=by
  rcases hp with ⟨h1,h2⟩ | ⟨h1,h2⟩
  ·by_cases h3:p < 0
   ·exact .inl ⟨h1,decide_eq_true h3⟩
   ·exact .inr (.inl ⟨h1,decide_eq_false h3,by omega⟩)
  ·exact .inr (.inr ⟨h1,decide_eq_false (by omega),h2⟩)
 clear hp
 go_enter Tryz.func26,Tryz.ntmps26
 go_wp2_with fail
 rw [HW0.out]
 refine HU.out.mono ?_
 rintro e w' ⟨rfl,hw'⟩
 rw [hw']
 clear hw' w' HU
 go_wp2_with fail
 refine HL.out.mono ?_
 rintro e w' ⟨rfl,hw'⟩
 rw [hw']
 clear hw' w' HL
 rcases hc with ⟨rfl,g0⟩ | ⟨rfl,g0,g1⟩ | ⟨rfl,g0,rfl⟩
 all_goals
  go_wp2
  refine bodyPost_ret (results_row3 rfl _ _ w.heap.size _ _ _ _ rfl HBad.out.1 Tryz.underlying30 rfl (by kernel_rfl)) rfl ?_
  exact ⟨rfl,HBad.out.2.1,HBad.out.2.2⟩
end
end Go.Proofs.YtclhbhhlddbocaaGreatDoor
namespace Go.Proofs.YtclhbhhlddbocaaGreatDoor
open Go.RowKit
section
variable {w:World} {B g:Nat} {v:Value} {s:Dv.St}
theorem refAt_in (h:RDev w B g v s) (hd:s.down = false) (hl:s.b.length ≤ 2097152) (ht:s.told + s.b.length ≤ 9223372036854775807) (p:Nat) (hp:p < s.b.length) (L:List UInt8) (hL:L = (s.b.drop p).take 2202) :
  Calls Tryz.prog 26 #[.pointer (some ⟨g,0,none⟩),.int .i64 p] w fun e w' => AtA (match Sc.runOf L with
   | .error e => .error e
   | .ok r => match Fr.dec r with
    | .error e => .error e
    | .ok f => .ok (f,p + r.length + 2)) w e w' ∧ RDev w' B g v { s with told:=s.told + L.length } ∧ Aside (fun k => k = g) w w':=by
 obtain ⟨W0,hW0⟩:∃ W0,W0 = w.alloc (.cells zero11 30):=⟨_,rfl⟩
 have hb0:Below w.heap.size w W0:=by rw [hW0];exact (Below.refl _ _).alloc (Nat.le_refl _) _
 have hk0:W0.heap[w.heap.size]? = some (.cells zero11 30 (0,0)):=by rw [hW0];exact blk_new w _
 have hz0:W0.heap.size = w.heap.size + 1:=by rw [hW0];simp
 have hgl:=h.lt
 have hbase:=h.base
 have HW0:Hid (w.alloc (.cells #[.int .i64 0,.int .i64 0,.slice none 0 0,.int .i64 0,.int .i64 0,.int .i64 0,.slice none 0 0,.int .i64 0,.int .i64 0,.int .i64 0,.slice none 0 0] 30) = W0):=hW0.symm
 have HU:=Lib.hid (refUp (h.below hb0))
 rw [hd] at HU
 have HLn:=Lib.hid (refLen5 (h.below hb0))
 have hR:=refRead (h.below hb0) (p:Int) 2202 (by omega) (by omega) (by omega) (by omega) ht
 have hr:Dv.read s (p:Int) 2202 = ((s.b.drop p).take 2202,0,{ s with told:=s.told + ((s.b.drop p).take 2202).length }):=by
  unfold Dv.read
  rw [if_neg (by omega)]
  simp
 rw [hr,← hL] at hR
 have hpl:(p:Int) ≤ 2097152:=by omega
 have hlen:L.length ≤ 2202:=by rw [hL,List.length_take];omega
 have hne:L ≠ []:=by
  intro hc
  rw [hL] at hc
  have:=congrArg List.length hc
  simp only [List.length_take,List.length_drop,List.length_nil] at this
  omega
 obtain ⟨R,hRR⟩:∃ R,R = (match Sc.runOf L with
   | .error e => .error e
   | .ok r => match Fr.dec r with
    | .error e => .error e
    | .ok f => .ok (f,p + r.length + 2):Except Nat (Fr × Nat)):=⟨_,rfl⟩
 rw [← hRR]
 obtain ⟨n,hn⟩:∃ n,n = s.b.length:=⟨_,rfl⟩
 rw [← hn] at HLn hp hl
 have g0:decide ((p:Int) < 0) = false:=decide_eq_false (by omega)
 have g1:decide ((n:Int) < (p:Int)) = false:=decide_eq_false (by omega)
 have g2:((p:Int) == (n:Int)) = false:=by rw [beq_eq_false_iff_ne];omega
 have g3:decide (n < p) = false:=decide_eq_false (by omega)
 have g4:(p == n) = false:=by rw [beq_eq_false_iff_ne];omega
 have HR:=Lib.hid hR
 have HK0:=Lib.hid hk0
 have HB0:=Lib.hid hb0
 have HRR:=Lib.hid hRR
 clear hW0 hb0 hk0 h hd hl ht hp hR hL hRR hr hn
 go_enter Tryz.func26,Tryz.ntmps26
 go_wp2_with fail
 rw [HW0.out]
 refine HU.out.mono ?_
 rintro e w' ⟨rfl,hw'⟩
 rw [hw']
 clear hw' w' HU
 go_wp2_with fail
 refine HLn.out.mono ?_
 rintro e w' ⟨rfl,hw'⟩
 rw [hw']
 clear hw' w' HLn
 go_wp2_with fail
 refine HR.out.mono ?_
 rintro e w1 ⟨q,cap,rfl,hh,hk1,ha1⟩
 obtain ⟨gq,rfl,hm,-⟩:=has_some14 hh hne
 have hcells:Cells w1 gq 0 L:=hm.free.2.1
 obtain ⟨q',cap',hcc,-,hcapl⟩:=hh.at
 injection hcc with hq1 _ hcc
 subst hq1
 subst hcc
 obtain ⟨c,t,rfl⟩:∃ c t,L = c :: t:=by
  cases L with
  | nil => exact absurd rfl hne
  | cons c t => exact ⟨c,t,rfl⟩
 rw [List.length_cons] at hlen hcapl hk1 ⊢
 have hk1b:w1.heap[w.heap.size]? = some (.cells zero11 30 (0,0)):=(ha1.block _ (by omega) (by omega)).trans HK0.out
 have haw:Aside (fun k => k = g) w w1:=(aside_new HB0.out _).trans ha1 (fun _ _ h => h)
 have hz1:=ha1.size
 have HGq:Hid (gq < w1.heap.size):=(hh.lt gq rfl).2
 have HC:=Lib.hid hcells
 have z0:w1.cell? ⟨gq,0,none⟩ = some (.int .u8 (c.toNat:Nat)):=hcells 0 (by simp)
 have HBad:=Lib.hid (at_doneR (w:=w) hk1b haw hk1 hgl (.int .i64 0) (.int .i64 0) (.slice none 0 0) (.int .i64 0) (.int .i64 0) (.int .i64 0) (.slice none 0 0) (.int .i64 0) (.int .i64 0) (.int .i64 0) (.slice none 0 0))
 have HK1:=Lib.hid hk1
 have HK1b:=Lib.hid hk1b
 have HAw:=Lib.hid haw
 obtain ⟨x0,x1,x2,x3,x4,x5,x6,x7,x8,x9,x10⟩:=blk_all14 hk1b
 obtain ⟨y0,y1,y2,y3,y4,y5,y6,y7,y8,y9,y10⟩:=blk_thaw14 hk1b
 clear hh hm hcells hk1 hk1b haw ha1 HR HK0 HB0 hne
 by_cases hc0:c ≠ 0
 ·have f0:((c.toNat:Int) != 0) = true:=by
   rw [bne_iff_ne]
   intro hx
   exact hc0 (UInt8.toNat_inj.1 (by simpa using hx))
  have HRe:Hid (R = .error 141):=by show R = _;rw [HRR.out,Sc.runOf_cons,if_pos hc0]
  clear HRR hc0
  go_wp2
  refine bodyPost_ret (results_row3 rfl _ _ w.heap.size _ _ _ _ rfl HBad.out.1 Tryz.underlying30 rfl (by kernel_rfl)) rfl ?_
  rw [HRe.out]
  exact ⟨rfl,HBad.out.2.1,HBad.out.2.2⟩
 obtain rfl:c = 0:=by simpa using hc0
 have z1:w1.cell? ⟨gq,0,none⟩ = some (.int .u8 0):=z0
 have HRT:Hid (R = match Sc.runT (t.length + 1) t with
   | .error e => .error e
   | .ok r => match Fr.dec r with
    | .error e => .error e
    | .ok f => .ok (f,p + r.length + 2)):=by
  show R = _
  rw [HRR.out,Sc.runOf_cons,if_neg (by simp)]
 clear HRR hc0 z0
 go_wp2_with fail
 go_loopw [11] (fun v11 wr => ∃ i:Nat,i ≤ t.length ∧ v11 = .int .i64 ((i + 1:Nat):Int) ∧ wr = w1 ∧ Hid (∀ j (hj:j < t.length),j < i → t[j] ≠ 0)) (fun v11 _ => t.length + 1 - (intOf v11).toNat)
 case atStart => exact ⟨0,by omega,rfl,rfl,fun j hj hc => by omega⟩
 case round =>
  obtain ⟨i,hi,rfl,hwr,HN⟩:=hrel
  rw [hwr]
  clear hwr wr
  have hiI:(i:Int) ≤ 2202:=by omega
  by_cases hlt:i < t.length
  case' pos =>
   have f1:(i:Int) + 1 < (t.length:Int) + 1:=by omega
   have f2:((i + 1:Nat):Int) < (t.length:Int) + 1:=by omega
   obtain ⟨ti,hti⟩:∃ ti,ti = t[i]:=⟨_,rfl⟩
   have zi:w1.cell? ⟨gq,i + 1,none⟩ = some (.int .u8 (ti.toNat:Nat)):=by
    have:=HC.out (i + 1) (by simpa using hlt)
    rw [hti]
    simpa using this
   have HZi:=Lib.hid hti
   clear hti
   by_cases hz:ti = 0
   case' neg =>
    have f3:((ti.toNat:Int) != 0) = true:=by
     rw [bne_iff_ne]
     intro hx
     exact hz (UInt8.toNat_inj.1 (by simpa using hx))
    have HN2:Hid (∀ j (hj:j < t.length),j < i + 1 → t[j] ≠ 0):=fun j hj hji => by
     by_cases hje:j = i
     ·subst hje
      rw [← HZi.out]
      exact hz
     ·exact HN.out j hj (by omega)
    clear HBad x0 x1 x2 x3 x4 x5 x6 x7 x8 x9 x10 y0 y1 y2 y3 y4 y5 y6 y7 y8 y9 y10
    go_wp2
    go_roundw
    case rel => exact ⟨i + 1,by omega,by go_num,trivial,HN2⟩
    case measure => simp [intOf];omega
   case' pos =>
    have hfi:=findIdx_at14 hlt (by rw [← HZi.out];exact hz) (fun j hj hji => HN.out j hj hji)
    have zj:w1.cell? ⟨gq,i + 1,none⟩ = some (.int .u8 0):=by rw [zi,hz];rfl
    clear zi
    by_cases hi0:i = 0
    ·have HRe:Hid (R = .error 4):=by
      show R = _
      rw [HRT.out]
      unfold Sc.runT
      rw [if_pos (by rw [hfi];exact hlt),if_pos (by rw [hfi];exact hi0)]
     subst hi0
     clear HRT hfi HN
     go_wp2
     refine bodyPost_ret (results_row3 rfl _ _ w.heap.size _ _ _ _ rfl HBad.out.1 Tryz.underlying30 rfl (by kernel_rfl)) rfl ?_
     rw [HRe.out]
     exact ⟨rfl,HBad.out.2.1,HBad.out.2.2⟩
    ·obtain ⟨r,hr⟩:∃ r,r = t.take i:=⟨_,rfl⟩
     have hrl:r.length = i:=by rw [hr,List.length_take];omega
     have HRe:Hid (R = match Fr.dec r with
      | .error e => .error e
      | .ok f => .ok (f,p + r.length + 2)):=by
      show R = _
      rw [HRT.out]
      unfold Sc.runT
      rw [if_pos (by rw [hfi];exact hlt),if_neg (by rw [hfi];exact hi0),hfi,← hr]
     have hrc:Cells w1 gq 1 r:=fun j hj => by
      have hjt:j < t.length:=by omega
      have h1:=HC.out (j + 1) (Nat.succ_lt_succ hjt)
      rw [show 1 + j = 0 + (j + 1) by omega,h1]
      have h2:((0:UInt8) :: t)[j + 1]'(Nat.succ_lt_succ hjt) = r[j]:=by
       show t[j] = r[j]
       simp [hr]
      rw [h2]
     have hD:=refDecode12 (some ⟨gq,1,none⟩) (cap - 1) r (by omega) w1 (.inr ⟨gq,1,rfl,HGq.out,hrc⟩)
     rw [hrl] at hD
     have HD:=Lib.hid hD
     have HRl:=Lib.hid hrl
     have i0:((i:Int) + 1 == 1) = false:=by rw [beq_eq_false_iff_ne];omega
     have i1:(((i + 1:Nat):Int) == 1) = false:=by rw [beq_eq_false_iff_ne];omega
     clear HRT hfi HN hD hr hrc HBad x0 x1 x2 x3 x4 x5 x6 x7 x8 x9 x10 y0 y1 y2 y3 y4 y5 y6 y7 y8 y9 y10 hrl
     go_wp2_with fail
     refine HD.out.mono ?_
     intro e w2 h2
     obtain ⟨dr,hdr⟩:∃ dr,dr = Fr.dec r:=⟨_,rfl⟩
     rw [← hdr] at h2 HRe
     cases dr with
     | error er =>
      obtain ⟨rfl,hb2⟩:=h2
      have hne:=dec_ne14 hdr.symm
      have j0:((er:Int) != 0) = true:=by rw [bne_iff_ne];omega
      have HRf:Hid (R = .error er):=HRe.out
      have hk2:=(hb2.block _ (blk_lt HK1b.out)).trans HK1b.out
      have HBad:=Lib.hid (at_doneR_alloc (w:=w) hk2 (HAw.out.trans (aside_new hb2 (fun k => k = g)) (fun _ _ h => h)) (HK1.out.below hb2) hgl (.int .i64 0) (.int .i64 0) (.slice none 0 0) (.int .i64 0) (.int .i64 0) (.int .i64 0) (.slice none 0 0) (.int .i64 0) (.int .i64 0) (.int .i64 0) (.slice none 0 0))
      obtain ⟨x0,x1,x2,x3,x4,x5,x6,x7,x8,x9,x10⟩:=blk_alloc14 hk2
      obtain ⟨y0,y1,y2,y3,y4,y5,y6,y7,y8,y9,y10⟩:=blk_alloct14 hk2
      clear hb2 hne hdr HRe hk2 HD
      go_wp2
      refine bodyPost_ret (results_row3 rfl _ _ w.heap.size _ _ _ _ rfl (HBad.out _).1 Tryz.underlying30 rfl (by kernel_rfl)) rfl ?_
      rw [HRf.out]
      exact ⟨rfl,(HBad.out _).2.1,(HBad.out _).2.2⟩
     | ok f =>
      obtain ⟨u,rfl,hfo,hb2⟩:=h2
      have HRf:Hid (R = .ok (f,p + r.length + 2)):=HRe.out
      obtain ⟨sp,sc,bp,bc,ep,ec,hu,-⟩:=hfo.out
      unfold cells11 at hu
      subst hu
      have HFo:=Lib.hid hfo
      obtain ⟨b0,hb0⟩:∃ x,x = f.kind:=⟨_,rfl⟩
      obtain ⟨b1,hb1⟩:∃ x,x = f.number:=⟨_,rfl⟩
      obtain ⟨b2,hbb2⟩:∃ x,x = f.cols.length:=⟨_,rfl⟩
      obtain ⟨b3,hb3⟩:∃ x,x = f.seq:=⟨_,rfl⟩
      obtain ⟨b4,hb4⟩:∃ x,x = f.first:=⟨_,rfl⟩
      obtain ⟨b5,hb5⟩:∃ x,x = f.rows:=⟨_,rfl⟩
      obtain ⟨b6,hb6⟩:∃ x,x = f.block.length:=⟨_,rfl⟩
      obtain ⟨b7,hb7⟩:∃ x,x = f.index.at_:=⟨_,rfl⟩
      obtain ⟨b8,hb8⟩:∃ x,x = f.index.frames:=⟨_,rfl⟩
      obtain ⟨b9,hb9⟩:∃ x,x = f.index.rows:=⟨_,rfl⟩
      obtain ⟨b10,hb10⟩:∃ x,x = f.index.entries.length:=⟨_,rfl⟩
      rw [← hb0,← hb1,← hbb2,← hb3,← hb4,← hb5,← hb6,← hb7,← hb8,← hb9,← hb10] at HFo ⊢
      have hk2:=(hb2.block _ (blk_lt HK1b.out)).trans HK1b.out
      have HDone:=Lib.hid (at_doneR_alloc (w:=w) hk2 (HAw.out.trans (aside_new hb2 (fun k => k = g)) (fun _ _ h => h)) (HK1.out.below hb2) hgl (.int .i64 b0) (.int .i64 b1) (.slice sp b2 sc) (.int .i64 b3) (.int .i64 b4) (.int .i64 b5) (.slice bp b6 bc) (.int .i64 b7) (.int .i64 b8) (.int .i64 b9) (.slice ep b10 ec))
      have HFin:Hid (∀ o,FOwn (set11 (w2.alloc o) w.heap.size (.int .i64 b0) (.int .i64 b1) (.slice sp b2 sc) (.int .i64 b3) (.int .i64 b4) (.int .i64 b5) (.slice bp b6 bc) (.int .i64 b7) (.int .i64 b8) (.int .i64 b9) (.slice ep b10 ec)) w.heap.size #[.int .i64 b0,.int .i64 b1,.slice sp b2 sc,.int .i64 b3,.int .i64 b4,.int .i64 b5,.slice bp b6 bc,.int .i64 b7,.int .i64 b8,.int .i64 b9,.slice ep b10 ec] f):=fun o => by
       have h1:=HFo.out.beside14 (aside_new ((Below.refl _ _).alloc (Nat.le_refl _) o) (fun _ => False)) (fun k hk => hk.elim)
       exact (h1.beside14 (set11_aside (w2.alloc o) w.heap.size (.int .i64 b0) (.int .i64 b1) (.slice sp b2 sc) (.int .i64 b3) (.int .i64 b4) (.int .i64 b5) (.slice bp b6 bc) (.int .i64 b7) (.int .i64 b8) (.int .i64 b9) (.slice ep b10 ec)) (fun k hk => by omega)).low14 (by omega)
      obtain ⟨x0,x1,x2,x3,x4,x5,x6,x7,x8,x9,x10⟩:=blk_alloc14 hk2
      obtain ⟨y0,y1,y2,y3,y4,y5,y6,y7,y8,y9,y10⟩:=blk_alloct14 hk2
      clear hfo hb2 hdr HRe hk2 HD hb0 hb1 hbb2 hb3 hb4 hb5 hb6 hb7 hb8 hb9 hb10 HFo
      go_wp2
      refine bodyPost_ret (results_row3 rfl _ _ w.heap.size _ _ _ _ rfl (HDone.out _).1 Tryz.underlying30 rfl (by kernel_rfl)) rfl ?_
      rw [HRf.out]
      refine ⟨⟨_,?_,HFin.out _⟩,(HDone.out _).2.1,(HDone.out _).2.2⟩
      have hq:(p:Int) + ((i:Int) + 1) + 1 = ((p + r.length + 2:Nat):Int):=by have:=HRl.out;omega
      rw [← hq]
      rfl
  case' neg =>
   have f1:¬ (i:Int) + 1 < (t.length:Int) + 1:=by omega
   have f2:¬ ((i + 1:Nat):Int) < (t.length:Int) + 1:=by omega
   have hfi:=findIdx_no14 (t:=t) (fun j hj => HN.out j hj (by omega))
   by_cases hm2:t.length + 1 = 2202
   ·have HRe:Hid (R = .error 2):=by
     show R = _
     rw [HRT.out]
     unfold Sc.runT
     rw [if_neg hfi,if_pos hm2]
    have k0:((t.length:Int) + 1 == 2202) = true:=by rw [beq_iff_eq];omega
    clear hm2
    clear HRT hfi HN
    go_wp2
    refine bodyPost_ret (results_row3 rfl _ _ w.heap.size _ _ _ _ rfl HBad.out.1 Tryz.underlying30 rfl (by kernel_rfl)) rfl ?_
    rw [HRe.out]
    exact ⟨rfl,HBad.out.2.1,HBad.out.2.2⟩
   ·have HRe:Hid (R = .error 142):=by
     show R = _
     rw [HRT.out]
     unfold Sc.runT
     rw [if_neg hfi,if_neg hm2]
    have k0:((t.length:Int) + 1 == 2202) = false:=by rw [beq_eq_false_iff_ne];omega
    clear HRT hfi HN
    go_wp2
    refine bodyPost_ret (results_row3 rfl _ _ w.heap.size _ _ _ _ rfl HBad.out.1 Tryz.underlying30 rfl (by kernel_rfl)) rfl ?_
    rw [HRe.out]
    exact ⟨rfl,HBad.out.2.1,HBad.out.2.2⟩
theorem refAt14 (h:RDev w B g v s) (hd:s.down = false) (hl:s.b.length ≤ 2097152) (ht:s.told + s.b.length ≤ 9223372036854775807) (p:Int) :
  Calls Tryz.prog 26 #[.pointer (some ⟨g,0,none⟩),.int .i64 p] w fun e w' => AtA (Sc.at_ s.b p) w e w' ∧ RDev w' B g v { s with told:=s.told + Sc.reads s.b p } ∧ Aside (fun k => k = g) w w':=by
 by_cases hp:p < 0 ∨ (s.b.length:Int) ≤ p
 ·have hr0:Sc.reads s.b p = 0:=by unfold Sc.reads;rw [if_pos hp]
  have hs:{ s with told:=s.told + Sc.reads s.b p } = s:=by rw [hr0];rfl
  rw [hs]
  by_cases hp2:p < 0 ∨ (s.b.length:Int) < p
  ·have he:Sc.at_ s.b p = .error 7:=by unfold Sc.at_;rw [if_pos hp2]
   rw [he]
   exact refAt_out h hd hl p 7 (.inl ⟨rfl,hp2⟩)
  ·have hp3:p = (s.b.length:Int):=by omega
   have he:Sc.at_ s.b p = .error 140:=by unfold Sc.at_;rw [if_neg hp2,if_pos hp3]
   rw [he]
   exact refAt_out h hd hl p 140 (.inr ⟨rfl,hp3⟩)
 ·obtain ⟨q,rfl⟩:∃ q:Nat,p = (q:Int):=⟨p.toNat,by omega⟩
  have hq:q < s.b.length:=by omega
  have hr0:Sc.reads s.b (q:Int) = ((s.b.drop q).take 2202).length:=by unfold Sc.reads;rw [if_neg hp];rfl
  have he:Sc.at_ s.b (q:Int) = (match Sc.runOf ((s.b.drop q).take 2202) with
   | .error e => .error e
   | .ok r => match Fr.dec r with
    | .error e => .error e
    | .ok f => .ok (f,q + r.length + 2)):=by
   unfold Sc.at_
   rw [if_neg (by omega),if_neg (by omega)]
   rfl
  rw [hr0,he]
  exact refAt_in h hd hl ht q hq _ rfl
end
end Go.Proofs.YtclhbhhlddbocaaGreatDoor
