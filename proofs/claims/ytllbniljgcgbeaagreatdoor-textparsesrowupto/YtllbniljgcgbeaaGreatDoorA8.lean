import Derived.Test.YtllbniljgcgbeaaGreatDoorA4
import Derived.Test.YtllbniljgcgbeaaGreatDoorA19
import Derived.Test.YtllbniljgcgbeaaGreatDoorK21K
set_option maxRecDepth 100000
set_option maxHeartbeats 8000000
namespace Go.Proofs.YtllbniljgcgbeaaGreatDoor
open Go.RowKit
attribute [local go_sem] run_store_float
def Val21 (w:World) (R:Nat) (S:ByteArray) (x:Tx.R (V × Tx.Bs)) (r:Ending) (w':World):Prop:=∃ (k i:Int) (b:Nat) (t:ByteArray) (p:Option Addr) (n c:Nat),r = .returned (.agg #[.int .i64 k,.int .i64 i,.float .f64 b,.string t,.slice p n c]) ∧ RdY21 w' R S x ∧ Aside (fun j => j = R) w w' ∧ ∀ v l,x = .ok (v,l) → VOwn w' (fun j => w.heap.size ≤ j ∧ j < w'.heap.size) (cells5 k i b t p n c) v
theorem RdY21.aside {α:Type} {w w':World} {R:Nat} {S:ByteArray} {x:Tx.R (α × Tx.Bs)} {F:Nat → Prop} (h:RdY21 w R S x) (ha:Aside F w w') (hF:¬ F R):RdY21 w' R S x:=by
 match x,h with
 | .ok (_,r),h => exact Rd21.aside h ha hF
 | .error (e,m),h => exact Bad21.aside h ha hF
theorem val_fin {w wr:World} {R:Nat} {S:ByteArray} {k i:Int} {b:Nat} {t:ByteArray} {p:Option Addr} {n c:Nat} {X:Tx.R (V × Tx.Bs)} {C:Array Value} (hR:R < w.heap.size) (bN:wr.heap[w.heap.size]? = some (.cells C 36 (0,0))) (hC:C.size = 5) (hrd:RdY21 wr R S X) (ha:Aside (fun i => i = R) w wr)
  (hown:∀ v l,X = .ok (v,l) → ∃ F:Nat → Prop,VOwn wr F (cells5 k i b t p n c) v ∧ ∀ j,F j → w.heap.size < j ∧ j < wr.heap.size) :
  (set5 wr w.heap.size k i b t p n c).heap[w.heap.size]? = some (.cells #[.int .i64 k,.int .i64 i,.float .f64 b,.string t,.slice p n c] 36 (0,0)) ∧ Val21 w R S X (.returned (.agg #[.int .i64 k,.int .i64 i,.float .f64 b,.string t,.slice p n c])) (set5 wr w.heap.size k i b t p n c):=by
 have h2:Aside (fun i => i = w.heap.size) wr (set5 wr w.heap.size k i b t p n c):=set5_aside _ _ _ _ _ _ _ _ _
 have hs:(set5 wr w.heap.size k i b t p n c).heap.size = wr.heap.size:=set5_size _ _ _ _ _ _ _ _ _
 refine ⟨set5_block bN hC _ _ _ _ _ _ _,k,i,b,t,p,n,c,rfl,hrd.aside h2 (by omega),ha.trans h2 (fun i hi he => by rw [he] at hi;omega),fun v l hx => ?_⟩
 obtain ⟨F,h3,h4⟩:=hown v l hx
 exact (h3.aside h2 (fun k hk he => by have:=h4 k hk;omega)).mono (fun k hk => by have:=h4 k hk;omega)
theorem closeV21 {w w3 w4:World} {R tb:Nat} {S:ByteArray} {k i:Int} {b:Nat} {t:ByteArray} {p:Option Addr} {n c:Nat} {X Y:Tx.R (V × Tx.Bs)} (hR:R < w.heap.size) (htb:w.heap.size < tb) (htb3:tb < w3.heap.size) (hA3:Aside (fun j => j = R) w w3)
  (hz4:w4.heap[w.heap.size]? = some (.cells zero5 36 (0,0))) (ht4:w4.heap[tb]? = some (.cells #[.int .i64 6,.int .i64 0,.float .f64 0,.string ⟨#[]⟩,.slice none 0 0] 36 (0,0)))
  (hX:X = andP Y fun x r => andM (Tx.must [41] r) fun r => .ok (⟨6,0,0,⟨#[]⟩,[x]⟩,r))
  (hrd:RdY21 w4 R S Y) (ha4:Aside (fun j => j = R) w3 w4) (hown:∀ v l,Y = .ok (v,l) → VOwn w4 (fun j => w3.heap.size ≤ j ∧ j < w4.heap.size) (cells5 k i b t p n c) v) :
  Calls Tryz.prog 25 #[.pointer (some ⟨R,0,none⟩),.string ⟨#[41]⟩] ((w4.setCell ⟨tb,4,none⟩ (.slice (some ⟨w4.heap.size,0,none⟩) 1 1)).alloc (.cells #[.int .i64 k,.int .i64 i,.float .f64 b,.string t,.slice p n c] 36)) fun e w6 => e = .returned (.tuple #[]) ∧ w6.heap[w.heap.size]? = some (.cells zero5 36 (0,0)) ∧ w6.heap[tb]? = some (.cells #[.int .i64 6,.int .i64 0,.float .f64 0,.string ⟨#[]⟩,.slice (some ⟨w4.heap.size,0,none⟩) 1 1] 36 (0,0)) ∧ RdY21 w6 R S X ∧ Aside (fun j => j = R) w w6 ∧ ∀ v l,X = .ok (v,l) → ∃ F:Nat → Prop,VOwn w6 F (cells5 6 0 0 ⟨#[]⟩ (some ⟨w4.heap.size,0,none⟩) 1 1) v ∧ ∀ j,F j → w.heap.size < j ∧ j < w6.heap.size:=by
 obtain ⟨V,hV⟩:∃ V,w4.setCell ⟨tb,4,none⟩ (.slice (some ⟨w4.heap.size,0,none⟩) 1 1) = V:=⟨_,rfl⟩
 have hVs:V.heap.size = w4.heap.size:=by rw [← hV];simp only [World.setCell,Array.size_modify]
 have hVa:Aside (fun k => k = tb) w4 V:=by rw [← hV];exact (Aside.refl (fun k => k = tb) w4).setCell (p:=⟨tb,4,none⟩) (.inl rfl) _
 have hVt:V.heap[tb]? = some (.cells #[.int .i64 6,.int .i64 0,.float .f64 0,.string ⟨#[]⟩,.slice (some ⟨w4.heap.size,0,none⟩) 1 1] 36 (0,0)):=by
  rw [← hV,blk_set ht4 4]
  rfl
 rw [hV]
 obtain ⟨W,hW⟩:∃ W,V.alloc (.cells #[.int .i64 k,.int .i64 i,.float .f64 b,.string t,.slice p n c] 36) = W:=⟨_,rfl⟩
 have hb:Below V.heap.size V W:=by rw [← hW];exact (Below.refl _ _).alloc (Nat.le_refl _) _
 have hg:W.heap[w4.heap.size]? = some (.cells #[.int .i64 k,.int .i64 i,.float .f64 b,.string t,.slice p n c] 36 (0,0)):=by rw [← hW,← hVs];exact blk_new V _
 rw [hW]
 have h44:w3.heap.size ≤ w4.heap.size:=ha4.size
 have hA5:Aside (fun k => k = tb) w4 W:=hVa.trans (aside_new hb _) (fun _ _ h => h)
 have hz5:W.heap[w.heap.size]? = some (.cells zero5 36 (0,0)):=(hA5.block w.heap.size (blk_lt hz4) (by omega)).trans hz4
 have ht5:W.heap[tb]? = some (.cells #[.int .i64 6,.int .i64 0,.float .f64 0,.string ⟨#[]⟩,.slice (some ⟨w4.heap.size,0,none⟩) 1 1] 36 (0,0)):=(hb.block tb (blk_lt hVt)).trans hVt
 have hAw:Aside (fun k => k = R) w W:=(hA3.trans ha4 (fun _ _ h => h)).trans hA5 (fun i hi hc => by omega)
 cases Y with
 | error y =>
  obtain ⟨e,m⟩:=y
  have hB5:Bad21 W R S e m:=Bad21.aside hrd hA5 (by omega)
  have hX':X = .error (e,m):=hX
  refine (refMustBad21 hB5 ⟨#[41]⟩ (by decide)).mono fun r w' ⟨q1,q2⟩ => ?_
  subst q2
  refine ⟨q1,hz5,ht5,?_,hAw,fun v l hc => ?_⟩
  ·rw [hX'];exact hB5
  ·rw [hX'] at hc;cases hc
 | ok y =>
  obtain ⟨x,r2⟩:=y
  have hD5:Rd21 W R S r2:=Rd21.aside hrd hA5 (by omega)
  have hX':X = andM (Tx.must [41] r2) fun r => .ok (⟨6,0,0,⟨#[]⟩,[x]⟩,r):=hX
  have ho:=hown x r2 rfl
  refine (refMust21 hD5 ⟨#[41]⟩ (by decide)).mono fun r w' ⟨q1,q2,q3⟩ => ?_
  have em:(ByteArray.mk #[41]).data.toList = [41]:=rfl
  rw [em] at q2
  have hs3:=q3.size
  have hgl:=blk_lt hg
  have hg7:w'.heap[w4.heap.size]? = some (.cells #[.int .i64 k,.int .i64 i,.float .f64 b,.string t,.slice p n c] 36 (0,0)):=(q3.block w4.heap.size hgl (by omega)).trans hg
  have hT7:=(ho.aside hA5 (fun i hi hc => by omega)).aside q3 (fun i hi hc => by omega)
  have hO:=VOwn.one (G:=fun i => w.heap.size < i ∧ i < w'.heap.size) (k:=6) (i:=0) (b:=0) (t:=⟨#[]⟩) hg7 hT7 (fun k hk => by omega) (fun hc => by omega) (by omega)
  refine ⟨q1,(q3.block w.heap.size (blk_lt hz5) (by omega)).trans hz5,(q3.block tb (blk_lt ht5) (by omega)).trans ht5,?_,hAw.trans q3 (fun _ _ h => h),fun v l hc => ?_⟩
  ·rw [hX']
   cases hm:Tx.must [41] r2 with
   | error y => obtain ⟨e,m⟩:=y;rw [hm] at q2;exact q2
   | ok r3 => rw [hm] at q2;exact q2
  ·rw [hX'] at hc
   cases hm:Tx.must [41] r2 with
   | error y => rw [hm] at hc;cases hc
   | ok r3 => rw [hm] at hc;cases hc;exact ⟨_,hO,fun j hj => hj⟩
theorem refWord21 {rf:Tx.Bs → Option Nat} {w:World} {R:Nat} {S:ByteArray} {l:Tx.Bs} (h:Rd21 w R S l) (f d:Nat) (hd:d ≤ 4) (hval:∀ w' l',Rd21 w' R S l' → Calls Tryz.prog 28 #[.pointer (some ⟨R,0,none⟩),.int .i64 ((d:Int) + 1)] w' (Val21 w' R S (Tx.pval rf f l'))) :
  Calls Tryz.prog 55 #[.pointer (some ⟨R,0,none⟩),.int .i64 (d:Nat)] w (Val21 w R S (pwrd rf f l)):=by
 have hdi:(d:Int) ≤ 4:=by omega
 obtain ⟨W0,hW0⟩:∃ W0,W0 = w.alloc (.cells #[.int .i64 0,.int .i64 0,.float .f64 0,.string ⟨#[]⟩,.slice none 0 0] 36):=⟨_,rfl⟩
 have HB0:Hid (Below w.heap.size w W0):=by rw [hW0];exact (Below.refl _ _).alloc (Nat.le_refl _) _
 have HN0:Hid (W0.heap[w.heap.size]? = some (.cells zero5 36 (0,0))):=by rw [hW0];exact blk_new w _
 have HW0:=Lib.hid hW0
 have h0:=h.on HB0.out
 have HL:=Lib.hid (refRow21 h0 0 (by omega))
 rw [show inSet 0 = Sch.low from rfl] at HL
 obtain ⟨wd,hwd⟩:∃ wd,wd = l.takeWhile Sch.low:=⟨_,rfl⟩
 obtain ⟨r0,hr0⟩:∃ r,r = l.dropWhile Sch.low:=⟨_,rfl⟩
 have hsp:l = wd ++ r0:=by rw [hwd,hr0];exact (List.takeWhile_append_dropWhile).symm
 obtain ⟨X,hX⟩:∃ X,X = pwrd rf f l:=⟨_,rfl⟩
 have HRR:Hid (X = if wd = [116,114,117,101] then .ok (⟨1,1,0,⟨#[]⟩,[]⟩,r0) else if wd = [102,97,108,115,101] then .ok (⟨1,0,0,⟨#[]⟩,[]⟩,r0) else if wd = [110,111,110,101] then .ok (⟨6,0,0,⟨#[]⟩,[]⟩,r0)
  else if wd = [115,111,109,101] then andM (Tx.must [40] r0) fun r => andP (Tx.pval rf f r) fun x r => andM (Tx.must [41] r) fun r => .ok (⟨6,0,0,⟨#[]⟩,[x]⟩,r) else .error (5,l.length)):=by show X = _;rw [hX,hwd,hr0];rfl
 rw [← hX]
 rw [← hwd] at HL
 have HRlt:=Lib.hid h.lt
 have HH0:=Lib.hid h0
 have hsm:=h.small
 have hle:=h.le
 have HSp:=Lib.hid hsp
 have HVa:=Lib.hid hval
 have HA0:=Lib.hid (aside_new HB0.out (fun i => i = R))
 clear h h0 hW0 hwd hr0 hX hsp hval
 obtain ⟨a,ha⟩:∃ a,a = S.size - l.length:=⟨_,rfl⟩
 have hal:a + l.length ≤ 140737488351232:=by omega
 have HAS:Hid (a = S.size - l.length):=ha
 have HAL:=Lib.hid hal
 have e9:(ByteArray.mk wd.toArray).toList = wd:=by rw [ByteArray.toList_eq]
 clear ha hle hsm
 go_enter Tryz.func55,Tryz.ntmps55
 go_wp2_with fail
 rw [← HW0.out]
 refine HL.out.mono ?_
 rintro e w1 ⟨rfl,hb1⟩
 have HH1:=Lib.hid (HH0.out.on hb1)
 have HA1:=Lib.hid (HA0.out.trans (aside_new hb1 (fun i => i = R)) (fun _ _ h => h))
 have HN1:Hid (w1.heap[w.heap.size]? = some (.cells zero5 36 (0,0))):=blk_on HN0.out hb1 (blk_lt HN0.out)
 clear hb1 HL HB0 HN0 HH0 HA0 HW0
 have hlt1:w.heap.size < w1.heap.size:=blk_lt HN1.out
 have hP1:R < w1.heap.size:=HH1.out.lt
 have hRN:¬ w.heap.size = R:=by have:=HRlt.out;omega
 have hRN2:¬ R = w.heap.size:=by omega
 have c1:w1.cell? ⟨R,1,none⟩ = some (.int .i64 (a:Int)):=by rw [HAS.out];exact HH1.out.cell 1
 have t1:=HH1.out.thawed 1
 have zf0:=blk_free HN1.out 0
 have zf1:=blk_free HN1.out 1
 have zf2:=blk_free HN1.out 2
 have zf3:=blk_free HN1.out 3
 have zf4:=blk_free HN1.out 4
 have z0:w1.cell? ⟨w.heap.size,0,none⟩ = some (.int .i64 0):=blk_cell HN1.out 0
 have z1:w1.cell? ⟨w.heap.size,1,none⟩ = some (.int .i64 0):=blk_cell HN1.out 1
 have z2:w1.cell? ⟨w.heap.size,2,none⟩ = some (.float .f64 0):=blk_cell HN1.out 2
 have z3:w1.cell? ⟨w.heap.size,3,none⟩ = some (.string ⟨#[]⟩):=blk_cell HN1.out 3
 have z4:w1.cell? ⟨w.heap.size,4,none⟩ = some (.slice none 0 0):=blk_cell HN1.out 4
 by_cases q1:wd = [116,114,117,101]
 ·have e1:=str_eq q1
  have hst:=HH1.out.step 4 (by have:=HSp.out;rw [this,q1];simp) ((a:Int) + 4) (by rw [HAS.out];rfl)
  rw [show l.drop 4 = r0 by rw [HSp.out,q1];rfl] at hst
  obtain ⟨hr,haV⟩:=hst
  have HRk:Hid (X = .ok (⟨1,1,0,⟨#[]⟩,[]⟩,r0)):=by show X = _;rw [HRR.out];rw [if_pos q1]
  have HFin:=Lib.hid (val_fin (k:=1) (i:=1) (b:=0) (t:=⟨#[]⟩) (p:=none) (n:=0) (c:=0) (X:=.ok (⟨1,1,0,⟨#[]⟩,[]⟩,r0)) HRlt.out ((haV.block _ hlt1 hRN).trans HN1.out) rfl hr (HA1.out.trans haV (fun _ _ h => h)) (fun v l hc => by cases hc;exact ⟨fun _ => False,.none,fun _ h => h.elim⟩))
  have f5:(a:Int) + 4 ≤ 140737488351232:=by have:=HSp.out;rw [q1] at this;have hl:=congrArg List.length this;simp at hl;omega
  have f6:(0:Int) ≤ (a:Int) + 4:=by omega
  clear HRR HVa HH1 HA1 HN1 q1 hr haV HSp HAL hal
  go_wp2
  refine bodyPost_ret (v:=.agg (cells5 1 1 0 ⟨#[]⟩ none 0 0)) (results_cell_row rfl _ _ w.heap.size _ _ _ _ rfl HFin.out.1 Tryz.underlying36 rfl (by kernel_rfl)) rfl ?_
  rw [HRk.out]
  exact HFin.out.2
 have e1:=str_ne q1
 have N1:=Lib.hid q1
 clear q1
 by_cases q1:wd = [102,97,108,115,101]
 ·have e2:=str_eq q1
  have hst:=HH1.out.step 5 (by have:=HSp.out;rw [this,q1];simp) ((a:Int) + 5) (by rw [HAS.out];rfl)
  rw [show l.drop 5 = r0 by rw [HSp.out,q1];rfl] at hst
  obtain ⟨hr,haV⟩:=hst
  have HRk:Hid (X = .ok (⟨1,0,0,⟨#[]⟩,[]⟩,r0)):=by show X = _;rw [HRR.out];rw [if_neg N1.out,if_pos q1]
  have HFin:=Lib.hid (val_fin (k:=1) (i:=0) (b:=0) (t:=⟨#[]⟩) (p:=none) (n:=0) (c:=0) (X:=.ok (⟨1,0,0,⟨#[]⟩,[]⟩,r0)) HRlt.out ((haV.block _ hlt1 hRN).trans HN1.out) rfl hr (HA1.out.trans haV (fun _ _ h => h)) (fun v l hc => by cases hc;exact ⟨fun _ => False,.none,fun _ h => h.elim⟩))
  have f5:(a:Int) + 5 ≤ 140737488351232:=by have:=HSp.out;rw [q1] at this;have hl:=congrArg List.length this;simp at hl;omega
  have f6:(0:Int) ≤ (a:Int) + 5:=by omega
  clear HRR HVa HH1 HA1 HN1 q1 hr haV HSp HAL hal
  go_wp2
  refine bodyPost_ret (v:=.agg (cells5 1 0 0 ⟨#[]⟩ none 0 0)) (results_cell_row rfl _ _ w.heap.size _ _ _ _ rfl HFin.out.1 Tryz.underlying36 rfl (by kernel_rfl)) rfl ?_
  rw [HRk.out]
  exact HFin.out.2
 have e2:=str_ne q1
 have N2:=Lib.hid q1
 clear q1
 by_cases q1:wd = [110,111,110,101]
 ·have e3:=str_eq q1
  have hst:=HH1.out.step 4 (by have:=HSp.out;rw [this,q1];simp) ((a:Int) + 4) (by rw [HAS.out];rfl)
  rw [show l.drop 4 = r0 by rw [HSp.out,q1];rfl] at hst
  obtain ⟨hr,haV⟩:=hst
  have HRk:Hid (X = .ok (⟨6,0,0,⟨#[]⟩,[]⟩,r0)):=by show X = _;rw [HRR.out];rw [if_neg N1.out,if_neg N2.out,if_pos q1]
  have HFin:=Lib.hid (val_fin (k:=6) (i:=0) (b:=0) (t:=⟨#[]⟩) (p:=none) (n:=0) (c:=0) (X:=.ok (⟨6,0,0,⟨#[]⟩,[]⟩,r0)) HRlt.out ((haV.block _ hlt1 hRN).trans HN1.out) rfl hr (HA1.out.trans haV (fun _ _ h => h)) (fun v l hc => by cases hc;exact ⟨fun _ => False,.none,fun _ h => h.elim⟩))
  have f5:(a:Int) + 4 ≤ 140737488351232:=by have:=HSp.out;rw [q1] at this;have hl:=congrArg List.length this;simp at hl;omega
  have f6:(0:Int) ≤ (a:Int) + 4:=by omega
  clear HRR HVa HH1 HA1 HN1 q1 hr haV HSp HAL hal
  go_wp2
  refine bodyPost_ret (v:=.agg (cells5 6 0 0 ⟨#[]⟩ none 0 0)) (results_cell_row rfl _ _ w.heap.size _ _ _ _ rfl HFin.out.1 Tryz.underlying36 rfl (by kernel_rfl)) rfl ?_
  rw [HRk.out]
  exact HFin.out.2
 have e3:=str_ne q1
 have N3:=Lib.hid q1
 clear q1
 by_cases q1:wd = [115,111,109,101]
 case neg =>
  have e4:=str_ne q1
  have HRe:Hid (X = .error (5,l.length)):=by show X = _;rw [HRR.out,if_neg N1.out,if_neg N2.out,if_neg N3.out,if_neg q1]
  have HF:=Lib.hid (refFail21 HH1.out 5 l.length (by decide))
  rw [← HAS.out] at HF
  clear HRR HVa q1 HSp HAL hal
  go_wp2_with fail
  refine HF.out.mono ?_
  rintro e w2 ⟨rfl,hb2,ha2⟩
  have hN2:=(ha2.block _ hlt1 hRN).trans HN1.out
  have HFin:=Lib.hid (val_fin (k:=0) (i:=0) (b:=0) (t:=⟨#[]⟩) (p:=none) (n:=0) (c:=0) (X:=.error (5,l.length)) HRlt.out hN2 rfl hb2 (HA1.out.trans ha2 (fun _ _ h => h)) (fun v l hc => by cases hc))
  have zf0:=blk_free hN2 0
  have zf1:=blk_free hN2 1
  have zf2:=blk_free hN2 2
  have zf3:=blk_free hN2 3
  have zf4:=blk_free hN2 4
  have z0:w2.cell? ⟨w.heap.size,0,none⟩ = some (.int .i64 0):=blk_cell hN2 0
  have z1:w2.cell? ⟨w.heap.size,1,none⟩ = some (.int .i64 0):=blk_cell hN2 1
  have z2:w2.cell? ⟨w.heap.size,2,none⟩ = some (.float .f64 0):=blk_cell hN2 2
  have z3:w2.cell? ⟨w.heap.size,3,none⟩ = some (.string ⟨#[]⟩):=blk_cell hN2 3
  have z4:w2.cell? ⟨w.heap.size,4,none⟩ = some (.slice none 0 0):=blk_cell hN2 4
  clear hb2 ha2 hN2 HF HH1 HA1 HN1
  go_wp2
  refine bodyPost_ret (v:=.agg (cells5 0 0 0 ⟨#[]⟩ none 0 0)) (results_cell_row rfl _ _ w.heap.size _ _ _ _ rfl HFin.out.1 Tryz.underlying36 rfl (by kernel_rfl)) rfl ?_
  rw [HRe.out]
  exact HFin.out.2
 have e4:=str_eq q1
 have HR2:Hid (X = andM (Tx.must [40] r0) fun r => andP (Tx.pval rf f r) fun x r => andM (Tx.must [41] r) fun r => .ok (⟨6,0,0,⟨#[]⟩,[x]⟩,r)):=by show X = _;rw [HRR.out,if_neg N1.out,if_neg N2.out,if_neg N3.out,if_pos q1]
 have hst:=HH1.out.step 4 (by have:=HSp.out;rw [this,q1];simp) ((a:Int) + 4) (by rw [HAS.out];rfl)
 rw [show l.drop 4 = r0 by rw [HSp.out,q1];rfl] at hst
 obtain ⟨hr,haV⟩:=hst
 have f5:(a:Int) + 4 ≤ 140737488351232:=by have:=HSp.out;rw [q1] at this;have hl:=congrArg List.length this;simp at hl;omega
 have f6:(0:Int) ≤ (a:Int) + 4:=by omega
 have HM:=Lib.hid (refMust21 hr ⟨#[40]⟩ (by decide))
 rw [show (ByteArray.mk #[40]).data.toList = [40] from rfl] at HM
 have HAV:=Lib.hid (HA1.out.trans haV (fun _ _ h => h))
 have HNV:Hid ((w1.setCell ⟨R,1,none⟩ (.int .i64 ((a:Int) + 4))).heap[w.heap.size]? = some (.cells zero5 36 (0,0))):=(haV.block _ hlt1 hRN).trans HN1.out
 obtain ⟨G,hG⟩:∃ G,G = Tx.must [40] r0:=⟨_,rfl⟩
 rw [← hG] at HM HR2
 clear hG HRR q1 hr haV HSp HAL hal HH1 HN1 HA1 zf0 zf1 zf2 zf3 zf4 z0 z1 z2 z3 z4
 go_wp2_with fail
 refine HM.out.mono ?_
 rintro e w3 ⟨rfl,hq,ha3⟩
 have hN3:=(ha3.block _ (blk_lt HNV.out) hRN).trans HNV.out
 have hA3:=HAV.out.trans ha3 (fun _ _ h => h)
 have hl3:w.heap.size < w3.heap.size:=blk_lt hN3
 obtain ⟨W4,hW4⟩:∃ W4,W4 = w3.alloc (.cells #[.int .i64 6,.int .i64 0,.float .f64 0,.string ⟨#[]⟩,.slice none 0 0] 36):=⟨_,rfl⟩
 have hb4:Below w3.heap.size w3 W4:=by rw [hW4];exact (Below.refl _ _).alloc (Nat.le_refl _) _
 have hN4:W4.heap[w.heap.size]? = some (.cells zero5 36 (0,0)):=blk_on hN3 hb4 hl3
 have hT4:W4.heap[w3.heap.size]? = some (.cells #[.int .i64 6,.int .i64 0,.float .f64 0,.string ⟨#[]⟩,.slice none 0 0] 36 (0,0)):=by rw [hW4];exact blk_new w3 _
 have hA4:=hA3.trans (aside_new hb4 (fun i => i = R)) (fun _ _ h => h)
 have hT3:¬ w3.heap.size = w.heap.size:=by omega
 have hT3':¬ w.heap.size = w3.heap.size:=by omega
 have hl4:=blk_lt hT4
 have HN4:=Lib.hid hN4
 have HT4:=Lib.hid hT4
 have HA4:=Lib.hid hA4
 have HW4:=Lib.hid hW4
 have HL3:=Lib.hid hl3
 have HL4:=Lib.hid hl4
 clear HM HNV HAV ha3 hN3 hA3 c1 t1
 cases G with
 | error er =>
  obtain ⟨ek,en⟩:=er
  have hq:Bad21 w3 R S ek en:=hq
  have HRe:Hid (X = .error (ek,en)):=HR2.out
  have hB4:Bad21 W4 R S ek en:=hq.aside (aside_new hb4 (fun _ => False)) (fun h => h)
  have c2:W4.cell? ⟨R,2,none⟩ = some (.int .i64 (ek:Int)):=hB4.cell2
  have g0:=hB4.bad
  have g1:((ek:Int) == 0) = false:=by rw [beq_eq_false_iff_ne];omega
  have g2:(ek == 0) = false:=by rw [beq_eq_false_iff_ne];exact g0
  have HB:=Lib.hid (refMustBad21 hB4 ⟨#[41]⟩ (by decide))
  have HFin:=Lib.hid (val_fin (k:=6) (i:=0) (b:=0) (t:=⟨#[]⟩) (p:=none) (n:=0) (c:=0) (X:=.error (ek,en)) HRlt.out hN4 rfl hB4 hA4 (fun v l hc => by cases hc))
  have zf0:=blk_free hN4 0
  have zf1:=blk_free hN4 1
  have zf2:=blk_free hN4 2
  have zf3:=blk_free hN4 3
  have zf4:=blk_free hN4 4
  have z0:W4.cell? ⟨w.heap.size,0,none⟩ = some (.int .i64 0):=blk_cell hN4 0
  have z1:W4.cell? ⟨w.heap.size,1,none⟩ = some (.int .i64 0):=blk_cell hN4 1
  have z2:W4.cell? ⟨w.heap.size,2,none⟩ = some (.float .f64 0):=blk_cell hN4 2
  have z3:W4.cell? ⟨w.heap.size,3,none⟩ = some (.string ⟨#[]⟩):=blk_cell hN4 3
  have z4:W4.cell? ⟨w.heap.size,4,none⟩ = some (.slice none 0 0):=blk_cell hN4 4
  have y0:W4.cell? ⟨w3.heap.size,0,none⟩ = some (.int .i64 6):=blk_cell hT4 0
  have y1:W4.cell? ⟨w3.heap.size,1,none⟩ = some (.int .i64 0):=blk_cell hT4 1
  have y2:W4.cell? ⟨w3.heap.size,2,none⟩ = some (.float .f64 0):=blk_cell hT4 2
  have y3:W4.cell? ⟨w3.heap.size,3,none⟩ = some (.string ⟨#[]⟩):=blk_cell hT4 3
  have y4:W4.cell? ⟨w3.heap.size,4,none⟩ = some (.slice none 0 0):=blk_cell hT4 4
  rw [hW4] at c2
  clear HR2 hq hB4 hb4 hN4 hT4 hA4 hW4 hl3 hl4 HVa g0
  go_wp2_with fail
  rw [← HW4.out]
  refine HB.out.mono ?_
  rintro e w5 ⟨rfl,hw5⟩
  subst hw5
  clear HB
  go_wp2
  refine bodyPost_ret (v:=.agg (cells5 6 0 0 ⟨#[]⟩ none 0 0)) (results_cell_row rfl _ _ w.heap.size _ _ _ _ rfl HFin.out.1 Tryz.underlying36 rfl (by kernel_rfl)) rfl ?_
  rw [HRe.out]
  exact HFin.out.2
 | ok r1 =>
  have hq:Rd21 w3 R S r1:=hq
  have HR3:Hid (X = andP (Tx.pval rf f r1) fun x r => andM (Tx.must [41] r) fun r => .ok (⟨6,0,0,⟨#[]⟩,[x]⟩,r)):=HR2.out
  have hD4:Rd21 W4 R S r1:=hq.on hb4
  have c2:W4.cell? ⟨R,2,none⟩ = some (.int .i64 0):=hD4.cell 2
  rw [hW4] at c2
  have HCa:=Lib.hid (HVa.out W4 r1 hD4)
  obtain ⟨Y,hY⟩:∃ Y,Y = Tx.pval rf f r1:=⟨_,rfl⟩
  rw [← hY] at HCa HR3
  clear HR2 hq hD4 hb4 hN4 hT4 hA4 hW4 hl3 hl4 HVa hY
  go_wp2_with fail
  rw [← HW4.out]
  refine HCa.out.mono ?_
  rintro e w5 ⟨k,i,b,t,p,n,c,rfl,hrd,ha5,hown⟩
  have hN5:w5.heap[w.heap.size]? = some (.cells zero5 36 (0,0)):=(ha5.block _ (blk_lt HN4.out) hRN).trans HN4.out
  have hT5:w5.heap[w3.heap.size]? = some (.cells #[.int .i64 6,.int .i64 0,.float .f64 0,.string ⟨#[]⟩,.slice none 0 0] 36 (0,0)):=(ha5.block _ HL4.out (by have:=HRlt.out;have:=HL3.out;omega)).trans HT4.out
  have HCl:=Lib.hid (closeV21 (k:=k) (i:=i) (b:=b) (t:=t) (p:=p) (n:=n) (c:=c) HRlt.out HL3.out HL4.out HA4.out hN5 hT5 HR3.out hrd ha5 hown)
  have y4:w5.cell? ⟨w3.heap.size,4,none⟩ = some (.slice none 0 0):=blk_cell hT5 4
  have yf4:=blk_free hT5 4
  have hl5:w3.heap.size < w5.heap.size:=blk_lt hT5
  have hT5':¬ w3.heap.size = w5.heap.size:=by omega
  have hT5'':¬ w5.heap.size = w3.heap.size:=by omega
  clear HR3 hrd ha5 hown hN5 hT5 HCa HN4 HT4 HA4 HW4
  go_wp2_with fail
  refine HCl.out.mono ?_
  rintro e w6 ⟨rfl,hN6,hT6,hrd6,hA6,ho6⟩
  have HFin:=Lib.hid (val_fin (k:=6) (i:=0) (b:=0) (t:=⟨#[]⟩) (p:=some ⟨w5.heap.size,0,none⟩) (n:=1) (c:=1) (X:=X) HRlt.out hN6 rfl hrd6 hA6 ho6)
  have zf0:=blk_free hN6 0
  have zf1:=blk_free hN6 1
  have zf2:=blk_free hN6 2
  have zf3:=blk_free hN6 3
  have zf4:=blk_free hN6 4
  have z0:w6.cell? ⟨w.heap.size,0,none⟩ = some (.int .i64 0):=blk_cell hN6 0
  have z1:w6.cell? ⟨w.heap.size,1,none⟩ = some (.int .i64 0):=blk_cell hN6 1
  have z2:w6.cell? ⟨w.heap.size,2,none⟩ = some (.float .f64 0):=blk_cell hN6 2
  have z3:w6.cell? ⟨w.heap.size,3,none⟩ = some (.string ⟨#[]⟩):=blk_cell hN6 3
  have z4:w6.cell? ⟨w.heap.size,4,none⟩ = some (.slice none 0 0):=blk_cell hN6 4
  have y0:w6.cell? ⟨w3.heap.size,0,none⟩ = some (.int .i64 6):=blk_cell hT6 0
  have y1:w6.cell? ⟨w3.heap.size,1,none⟩ = some (.int .i64 0):=blk_cell hT6 1
  have y2:w6.cell? ⟨w3.heap.size,2,none⟩ = some (.float .f64 0):=blk_cell hT6 2
  have y3:w6.cell? ⟨w3.heap.size,3,none⟩ = some (.string ⟨#[]⟩):=blk_cell hT6 3
  have y4:w6.cell? ⟨w3.heap.size,4,none⟩ = some (.slice (some ⟨w5.heap.size,0,none⟩) 1 1):=blk_cell hT6 4
  clear hN6 hT6 hrd6 hA6 ho6 HCl yf4
  go_wp2
  refine bodyPost_ret (v:=.agg (cells5 6 0 0 ⟨#[]⟩ (some ⟨w5.heap.size,0,none⟩) 1 1)) (results_cell_row rfl _ _ w.heap.size _ _ _ _ rfl HFin.out.1 Tryz.underlying36 rfl (by kernel_rfl)) rfl ?_
  exact HFin.out.2
end Go.Proofs.YtllbniljgcgbeaaGreatDoor
namespace Go.Proofs.YtllbniljgcgbeaaGreatDoor
open Go.RowKit
attribute [local go_sem] run_store_float
structure Lst21 (w wr:World) (R:Nat) (q:Option Addr) (n c:Nat):Prop where
 z:wr.heap[w.heap.size]? = some (.cells zero5 36 (0,0))
 t:wr.heap[w.heap.size + 1]? = some (.cells #[.int .i64 7,.int .i64 0,.float .f64 0,.string ⟨#[]⟩,.slice q n c] 36 (0,0))
 a:Aside (fun j => j = R) w wr
def lsq (ys:List V) (y:Tx.R (List V × Tx.Bs)):Tx.R (V × Tx.Bs):=match y with
 | .error e => .error e
 | .ok (xs,r) => match Tx.must [93] r with
  | .error e => .error e
  | .ok r => .ok (⟨7,0,0,⟨#[]⟩,ys ++ xs⟩,r)
theorem pits_at (p:Tx.Bs → Tx.R (V × Tx.Bs)) (m:Nat) (l:Tx.Bs):Tx.pits p (m + 1) l = andP (p l) fun x r => if r.head? = some 93 then .ok ([x],r) else andM (Tx.must [44,32] r) fun r => andP (Tx.pits p m r) fun xs r => .ok (x :: xs,r):=by
 rw [Tx.pits]
 cases p l with
 | error e => rfl
 | ok y =>
  obtain ⟨x,r⟩:=y
  show _ = if r.head? = some 93 then _ else _
  by_cases h:r.head? = some 93
  ·simp only [h,if_true]
  ·simp only [h,if_false]
   generalize Tx.must [44,32] r = G
   cases G with
   | error e => rfl
   | ok r =>
    show (match Tx.pits p m r with
     | .error e => .error e
     | .ok (xs,r) => .ok (x :: xs,r)) = andP (Tx.pits p m r) _
    generalize Tx.pits p m r = H
    cases H with
    | error e => rfl
    | ok y => rfl
theorem lsq_cons (ys:List V) (x:V) (y:Tx.R (List V × Tx.Bs)):lsq (ys ++ [x]) y = lsq ys (andP y fun xs r => .ok (x :: xs,r)):=by
 match y with
 | .error e => rfl
 | .ok (xs,r) =>
  show lsq (ys ++ [x]) (.ok (xs,r)) = lsq ys (.ok (x :: xs,r))
  unfold lsq
  simp
def msr21 (w:World) (R:Nat) (S:ByteArray):Nat:=match w.cell? ⟨R,2,none⟩ with
 | some (.int _ e) => if e = 0 then S.size - atOf21 w R + 1 else 0
 | _ => 0
theorem Rd21.msr {w:World} {R:Nat} {S:ByteArray} {l:Tx.Bs} (h:Rd21 w R S l):msr21 w R S = l.length + 1:=by
 have c2:w.cell? ⟨R,2,none⟩ = some (.int .i64 0):=h.cell 2
 have hle:=h.le
 unfold msr21
 rw [c2,h.atOf21]
 simp
 omega
theorem Bad21.msr {w:World} {R:Nat} {S:ByteArray} {e n:Nat} (h:Bad21 w R S e n):msr21 w R S = 0:=by
 have:=h.bad
 unfold msr21
 rw [h.cell2]
 simp
 omega
theorem one5c (k i:Int) (b:Nat) (t:ByteArray) (p:Option Addr) (n c:Nat):∀ a ∈ (#[.int .i64 k,.int .i64 i,.float .f64 b,.string t,.slice p n c]:Array Value).toList,a.oneCell' = true:=by
 intro a ha
 simp at ha
 rcases ha with rfl | rfl | rfl | rfl | rfl <;> rfl
theorem more21 {w wr w3:World} {R:Nat} {q:Option Addr} {c:Nat} {ys:List V} {us:Nat → Array Value} {Fs:Nat → Nat → Prop} {u:Array Value} (hR:R < w.heap.size) (h:Lst21 w wr R q ys.length c) (hbt:Built wr (w.heap.size + 2) (.slice q ys.length c) ys.length us Fs ys) (ha:Aside (fun j => j = R) wr w3) :
  ((w3.alloc (.cells u 36)).alloc (.cells u 36)).ownsRow (w.heap.size + 2) 36 5 (.slice q ys.length c) ys.length (flat us ys.length) ∧
  ∀ g cap w6,w6.ownsRow (w.heap.size + 2) 36 5 (.slice (some ⟨g,0,none⟩) (ys.length + 1) cap) (ys.length + 1) (flat us ys.length ++ u.toList) → ((w3.alloc (.cells u 36)).alloc (.cells u 36)).grownBy w6 (Value.ownBlock (.slice q ys.length c)) → (Value.ownBlock (.slice q ys.length c) = some g ∨ g = w3.heap.size + 2) →
   w6.heap[w.heap.size + 1]? = some (.cells #[.int .i64 7,.int .i64 0,.float .f64 0,.string ⟨#[]⟩,.slice q ys.length c] 36 (0,0)) ∧ (∀ (S:ByteArray) (x:Tx.R (V × Tx.Bs)),RdY21 w3 R S x → RdY21 w6 R S x ∧ RdY21 (w6.setCell ⟨w.heap.size + 1,4,none⟩ (.slice (some ⟨g,0,none⟩) (ys.length + 1) cap)) R S x) ∧
   Lst21 w (w6.setCell ⟨w.heap.size + 1,4,none⟩ (.slice (some ⟨g,0,none⟩) (ys.length + 1) cap)) R (some ⟨g,0,none⟩) (ys.length + 1) cap ∧
   ∀ x,VOwn w3 (fun k => wr.heap.size ≤ k ∧ k < w3.heap.size) u x → ∃ us' Fs',Built (w6.setCell ⟨w.heap.size + 1,4,none⟩ (.slice (some ⟨g,0,none⟩) (ys.length + 1) cap)) (w.heap.size + 2) (.slice (some ⟨g,0,none⟩) (ys.length + 1) cap) (ys.length + 1) us' Fs' (ys ++ [x]):=by
 have hT:=blk_lt h.t
 have hs3:=ha.size
 have hb4:Below w3.heap.size w3 (w3.alloc (.cells u 36)):=(Below.refl _ _).alloc (Nat.le_refl _) _
 have hb5:Below w3.heap.size w3 ((w3.alloc (.cells u 36)).alloc (.cells u 36)):=hb4.alloc (by simp) _
 obtain ⟨wx,hx1,hx2,hx3⟩:=ha.split (by omega)
 have hlt:=hbt.lt
 have hbx:Built wx (w.heap.size + 2) (.slice q ys.length c) ys.length us Fs ys:=hbt.aside hx1 (fun g hg he => by have:=(hlt g hg).1;omega) (fun j hj k hk he => by have:=(hbt.range j hj k hk).1;omega)
 refine ⟨((hbx.on hx3).on hb5).row,fun g cap w6 hr hg hn => ?_⟩
 have hag:Aside (fun k => Value.ownBlock (.slice q ys.length c) = some k) w3 w6:=(aside_new hb5 _).trans (aside_grew hg) (fun _ _ h => h)
 have hs6:=hag.size
 have a7:Aside (fun k => k = w.heap.size + 1) w6 (w6.setCell ⟨w.heap.size + 1,4,none⟩ (.slice (some ⟨g,0,none⟩) (ys.length + 1) cap)):=(Aside.refl (fun k => k = w.heap.size + 1) w6).setCell (p:=⟨w.heap.size + 1,4,none⟩) (.inl rfl) _
 have keep:∀ k,k < w.heap.size + 2 → k ≠ R → w6.heap[k]? = wr.heap[k]?:=fun k hk hne => by
  rw [hag.block k (by omega) (fun hc => by have:=(hlt k hc).1;omega),ha.block k (by omega) hne]
 have ht6:w6.heap[w.heap.size + 1]? = some (.cells #[.int .i64 7,.int .i64 0,.float .f64 0,.string ⟨#[]⟩,.slice q ys.length c] 36 (0,0)):=(keep _ (by omega) (by omega)).trans h.t
 have hz6:=(keep w.heap.size (by omega) (by omega)).trans h.z
 refine ⟨ht6,fun S x hx => ?_,⟨(a7.block _ (by omega) (by omega)).trans hz6,by rw [blk_set ht6 4];rfl,((h.a.trans ha (fun _ _ h => h)).trans hag (fun i hi hc => by have:=(hlt i hc).1;omega)).trans a7 (fun i hi hc => by omega)⟩,fun x hx => ?_⟩
 ·have h6:=hx.aside hag (fun hc => by have:=(hlt R hc).1;omega)
  exact ⟨h6,h6.aside a7 (by omega)⟩
 ·have hst:=hbx.step hx3 hx (fun k hk => ⟨by rw [hx2];exact hk.1,hk.2⟩) hb5 (by rw [hx2];omega) hr hg (by
   rcases hn with hn | hn
   ·exact .inl hn
   ·exact .inr (by rw [hn];simp))
  exact ⟨_,_,hst.set ⟨w.heap.size + 1,4,none⟩ _ (by show w.heap.size + 1 < _;omega)⟩
theorem lst_end {w wx w9:World} {R:Nat} {S:ByteArray} {q:Option Addr} {n c:Nat} {X:Tx.R (V × Tx.Bs)} (hR:R < w.heap.size) (h:Lst21 w wx R q n c) (hy:RdY21 w9 R S X) (ha:Aside (fun j => j = R) wx w9) (ho:∀ v l,X = .ok (v,l) → VOwn wx (fun k => w.heap.size < k ∧ k < wx.heap.size) (cells5 7 0 0 ⟨#[]⟩ q n c) v) :
  w9.heap[w.heap.size]? = some (.cells zero5 36 (0,0)) ∧ w9.heap[w.heap.size + 1]? = some (.cells #[.int .i64 7,.int .i64 0,.float .f64 0,.string ⟨#[]⟩,.slice q n c] 36 (0,0)) ∧
  (set5 w9 w.heap.size 7 0 0 ⟨#[]⟩ q n c).heap[w.heap.size]? = some (.cells #[.int .i64 7,.int .i64 0,.float .f64 0,.string ⟨#[]⟩,.slice q n c] 36 (0,0)) ∧ Val21 w R S X (.returned (.agg #[.int .i64 7,.int .i64 0,.float .f64 0,.string ⟨#[]⟩,.slice q n c])) (set5 w9 w.heap.size 7 0 0 ⟨#[]⟩ q n c):=by
 have hz:=(ha.block _ (blk_lt h.z) (by omega)).trans h.z
 have ht:=(ha.block _ (blk_lt h.t) (by omega)).trans h.t
 have hs:=ha.size
 refine ⟨hz,ht,val_fin hR hz rfl hy (h.a.trans ha (fun _ _ h => h)) (fun v l hx => ⟨fun k => w.heap.size < k ∧ k < wx.heap.size,(ho v l hx).aside ha (fun k hk hc => by omega),fun j hj => by omega⟩)⟩
theorem lst_own {w wx:World} {q:Option Addr} {c:Nat} {ys:List V} {us:Nat → Array Value} {Fs:Nat → Nat → Prop} (h:Built wx (w.heap.size + 2) (.slice q ys.length c) ys.length us Fs ys) (hl:ys.length * 64 ≤ 140737488351232):VOwn wx (fun k => w.heap.size < k ∧ k < wx.heap.size) (cells5 7 0 0 ⟨#[]⟩ q ys.length c) ⟨7,0,0,⟨#[]⟩,ys⟩:=by
 obtain ⟨p2,c2,hv,ho⟩:=h.done hl 7 0 0 ⟨#[]⟩
 injection hv with h1 h2 h3
 subst h1 h3
 exact ho.mono (fun k hk => by omega)
theorem refList21 {rf:Tx.Bs → Option Nat} {w:World} {R:Nat} {S:ByteArray} {c0:UInt8} {t:Tx.Bs} (h:Rd21 w R S (c0 :: t)) (f d:Nat) (hd:d ≤ 4) (hS:S.size ≤ 1099511627776) (hp:∀ l x r,Tx.pval rf f l = .ok (x,r) → r.length ≤ l.length) (hval:∀ w' l',Rd21 w' R S l' → Calls Tryz.prog 28 #[.pointer (some ⟨R,0,none⟩),.int .i64 ((d:Int) + 1)] w' (Val21 w' R S (Tx.pval rf f l'))) :
  Calls Tryz.prog 60 #[.pointer (some ⟨R,0,none⟩),.int .i64 (d:Nat)] w (Val21 w R S (if t.head? = some 93 then .ok (⟨7,0,0,⟨#[]⟩,[]⟩,t.tail) else lsq [] (Tx.pits (Tx.pval rf f) (t.length + 1) t))):=by
 have hdi:(d:Int) ≤ 4:=by omega
 obtain ⟨X,hX⟩:∃ X,X = (if t.head? = some 93 then .ok (⟨7,0,0,⟨#[]⟩,[]⟩,t.tail) else lsq [] (Tx.pits (Tx.pval rf f) (t.length + 1) t):Tx.R (V × Tx.Bs)):=⟨_,rfl⟩
 rw [← hX]
 have HX:=Lib.hid hX
 obtain ⟨W0,hW0⟩:∃ W0,W0 = w.alloc (.cells #[.int .i64 0,.int .i64 0,.float .f64 0,.string ⟨#[]⟩,.slice none 0 0] 36):=⟨_,rfl⟩
 obtain ⟨W1,hW1⟩:∃ W1,W1 = W0.alloc (.cells #[.int .i64 7,.int .i64 0,.float .f64 0,.string ⟨#[]⟩,.slice none 0 0] 36):=⟨_,rfl⟩
 have hs0:W0.heap.size = w.heap.size + 1:=by rw [hW0];simp
 have hs1:W1.heap.size = w.heap.size + 2:=by rw [hW1];simp [hs0]
 have hb0:Below w.heap.size w W0:=by rw [hW0];exact (Below.refl _ _).alloc (Nat.le_refl _) _
 have hb1:Below w.heap.size w W1:=by rw [hW1];exact hb0.alloc (by omega) _
 have hz1:W1.heap[w.heap.size]? = some (.cells zero5 36 (0,0)):=by rw [hW1,blk_old W0 _ (by omega),hW0];exact blk_new w _
 have ht1:W1.heap[w.heap.size + 1]? = some (.cells #[.int .i64 7,.int .i64 0,.float .f64 0,.string ⟨#[]⟩,.slice none 0 0] 36 (0,0)):=by rw [hW1,← hs0];exact blk_new W0 _
 have hr1:=h.on hb1
 have hRl:=h.lt
 obtain ⟨a,ha⟩:∃ a,a = S.size - (c0 :: t).length:=⟨_,rfl⟩
 have hle:=h.le
 have c1:W1.cell? ⟨R,1,none⟩ = some (.int .i64 (a:Int)):=by rw [ha];exact hr1.cell 1
 have t1:=hr1.thawed 1
 obtain ⟨hr2,ha2⟩:=hr1.step 1 (by simp) ((a:Int) + 1) (by rw [ha];rfl)
 rw [show (c0 :: t).drop 1 = t from rfl] at hr2
 have f5:(a:Int) + 1 ≤ 140737488351232:=by simp at hle ha;omega
 have f6:(0:Int) ≤ (a:Int) + 1:=by omega
 have hL2:Lst21 w (W1.setCell ⟨R,1,none⟩ (.int .i64 ((a:Int) + 1))) R none 0 0:=⟨(ha2.block _ (by omega) (by omega)).trans hz1,(ha2.block _ (by omega) (by omega)).trans ht1,(aside_new hb1 _).trans ha2 (fun _ _ h => h)⟩
 obtain ⟨W2,hW2⟩:∃ W2,W2 = W1.setCell ⟨R,1,none⟩ (.int .i64 ((a:Int) + 1)):=⟨_,rfl⟩
 rw [← hW2] at hr2 hL2
 have HI:=Lib.hid (refIs21 hr2 93)
 have HR2:=Lib.hid hr2
 have HL2:=Lib.hid hL2
 have HW2:=Lib.hid hW2
 have HWe:Hid (W2 = ((w.setCell ⟨R,1,none⟩ (.int .i64 ((a:Int) + 1))).alloc (.cells #[.int .i64 0,.int .i64 0,.float .f64 0,.string ⟨#[]⟩,.slice none 0 0] 36)).alloc (.cells #[.int .i64 7,.int .i64 0,.float .f64 0,.string ⟨#[]⟩,.slice none 0 0] 36)):=by show _ = _;rw [hW2,hW1,set_alloc (by omega),hW0,set_alloc hRl]
 have HRl:=Lib.hid hRl
 have HS:=Lib.hid hS
 have HP:=Lib.hid hp
 have HVa:=Lib.hid hval
 have hs2:W2.heap.size = w.heap.size + 2:=by rw [hW2];simp [World.setCell,hs1]
 have HS2:=Lib.hid hs2
 rw [hW1,hW0] at c1 t1
 clear h hX hW0 hW1 hs0 hs1 hb0 hb1 hz1 ht1 hr1 hle hr2 ha2 hL2 hW2 hS hp hval ha hs2
 have hRN:¬ w.heap.size = R:=by omega
 have hRN2:¬ R = w.heap.size:=by omega
 have hRT:¬ w.heap.size + 1 = R:=by omega
 have hRT2:¬ R = w.heap.size + 1:=by omega
 have hTN:¬ w.heap.size + 1 = w.heap.size:=by omega
 have hTN2:¬ w.heap.size = w.heap.size + 1:=by omega
 go_enter Tryz.func60,Tryz.ntmps60
 go_wp2_with fail
 rw [← HWe.out]
 refine HI.out.mono ?_
 rintro e w2 ⟨rfl,nd,hw2⟩
 have hR2:Rd21 w2 R S t:=by rw [hw2];exact HR2.out.drewN nd
 have hL2:Lst21 w w2 R none 0 0:=by rw [hw2];exact ⟨HL2.out.z,HL2.out.t,HL2.out.a.drewN nd⟩
 have hs2:w2.heap.size = w.heap.size + 2:=by rw [hw2];exact HS2.out
 clear hw2 HI HR2 HL2 HW2 HWe HS2 c1 t1 f5 f6
 by_cases hh:t.head? = some 93
 ·have g1:decide (t.head? = some 93) = true:=decide_eq_true hh
  rw [g1]
  obtain ⟨t',rfl⟩:∃ t',t = 93 :: t':=by
   cases t with
   | nil => cases hh
   | cons x y => simp at hh;exact ⟨y,by rw [hh]⟩
  have HXe:Hid (X = .ok (⟨7,0,0,⟨#[]⟩,[]⟩,t')):=by show X = _;rw [HX.out,if_pos hh];rfl
  obtain ⟨b,hb⟩:∃ b,b = S.size - (93 :: t').length:=⟨_,rfl⟩
  have hle:=hR2.le
  have c1:w2.cell? ⟨R,1,none⟩ = some (.int .i64 (b:Int)):=by rw [hb];exact hR2.cell 1
  have t1:=hR2.thawed 1
  obtain ⟨hr3,ha3⟩:=hR2.step 1 (by simp) ((b:Int) + 1) (by rw [hb];rfl)
  rw [show (93 :: t').drop 1 = t' from rfl] at hr3
  have f5:(b:Int) + 1 ≤ 140737488351232:=by simp at hle hb;have:=HS.out;omega
  have f6:(0:Int) ≤ (b:Int) + 1:=by omega
  have hz2:=hL2.z
  have ht2:=hL2.t
  have y0:w2.cell? ⟨w.heap.size + 1,0,none⟩ = some (.int .i64 7):=blk_cell ht2 0
  have y1:w2.cell? ⟨w.heap.size + 1,1,none⟩ = some (.int .i64 0):=blk_cell ht2 1
  have y2:w2.cell? ⟨w.heap.size + 1,2,none⟩ = some (.float .f64 0):=blk_cell ht2 2
  have y3:w2.cell? ⟨w.heap.size + 1,3,none⟩ = some (.string ⟨#[]⟩):=blk_cell ht2 3
  have y4:w2.cell? ⟨w.heap.size + 1,4,none⟩ = some (.slice none 0 0):=blk_cell ht2 4
  have z0:w2.cell? ⟨w.heap.size,0,none⟩ = some (.int .i64 0):=blk_cell hz2 0
  have z1:w2.cell? ⟨w.heap.size,1,none⟩ = some (.int .i64 0):=blk_cell hz2 1
  have z2:w2.cell? ⟨w.heap.size,2,none⟩ = some (.float .f64 0):=blk_cell hz2 2
  have z3:w2.cell? ⟨w.heap.size,3,none⟩ = some (.string ⟨#[]⟩):=blk_cell hz2 3
  have z4:w2.cell? ⟨w.heap.size,4,none⟩ = some (.slice none 0 0):=blk_cell hz2 4
  have zf0:=blk_free hz2 0
  have zf1:=blk_free hz2 1
  have zf2:=blk_free hz2 2
  have zf3:=blk_free hz2 3
  have zf4:=blk_free hz2 4
  have HFin:=Lib.hid (lst_end (S:=S) (X:=.ok (⟨7,0,0,⟨#[]⟩,[]⟩,t')) HRl.out hL2 hr3 ha3 (fun v l hc => by cases hc;exact .none))
  clear hR2 hL2 hr3 ha3 hz2 ht2 HX hle hb hh g1
  go_wp2
  refine bodyPost_ret (v:=.agg (cells5 7 0 0 ⟨#[]⟩ none 0 0)) (results_cell_row rfl _ _ w.heap.size _ _ _ _ rfl HFin.out.2.2.1 Tryz.underlying36 rfl (by kernel_rfl)) rfl ?_
  rw [HXe.out]
  exact HFin.out.2.2.2
 have g1:decide (t.head? = some 93) = false:=decide_eq_false hh
 rw [g1]
 have HXe:Hid (X = lsq [] (Tx.pits (Tx.pval rf f) (t.length + 1) t)):=by show X = _;rw [HX.out,if_neg hh]
 have HR2:=Lib.hid hR2
 have HL2:=Lib.hid hL2
 have HS2:=Lib.hid hs2
 clear hh g1 HX hR2 hL2 hs2
 go_wp2_with fail
 go_loopw [] (fun wr => ∃ (q:Option Addr) (n c:Nat),Hid (Lst21 w wr R q n c) ∧ (Hid (∃ (ys:List V) (l:Tx.Bs) (m:Nat),n = ys.length ∧ (∃ us Fs,Built wr (w.heap.size + 2) (.slice q n c) n us Fs ys) ∧ Rd21 wr R S l ∧ l.length < m ∧ ys.length + l.length ≤ S.size ∧ X = lsq ys (Tx.pits (Tx.pval rf f) m l)) ∨ Hid (∃ e k,Bad21 wr R S e k ∧ X = .error (e,k)))) (fun wr => msr21 wr R S)
 case atStart => exact ⟨none,0,0,HL2,.inl ⟨[],t,t.length + 1,rfl,⟨_,_,built_nil w2 _⟩,HR2.out,by omega,by have:=HR2.out.le;simpa using this,HXe.out⟩⟩
 case round =>
  obtain ⟨q,n,c,HL,hgb⟩:=hrel
  rcases hgb with HG | HB
  case inr =>
   obtain ⟨e,k,hb,hx⟩:=HB.out
   have c2:=hb.cell2
   have g0:=hb.bad
   have g2:((e:Int) == 0) = false:=by rw [beq_eq_false_iff_ne];omega
   have g3:(e == 0) = false:=by rw [beq_eq_false_iff_ne];exact g0
   have HM:=Lib.hid (refMustBad21 hb ⟨#[93]⟩ (by decide))
   have hy:RdY21 wr R S X:=by rw [hx];exact hb
   have hend:=lst_end HRl.out HL.out hy (Aside.refl _ _) (fun v l hc => by rw [hx] at hc;cases hc)
   have HEnd:=Lib.hid hend
   clear HB hb hx hy hend g0 HXe HP HVa HL HR2 HL2 HS2
   go_wp2_with fail
   refine HM.out.mono ?_
   rintro e w9 ⟨rfl,hw9⟩
   subst hw9
   clear HM c2
   obtain ⟨hz9,ht9,hfin⟩:=HEnd.out
   have y0:w9.cell? ⟨w.heap.size + 1,0,none⟩ = some (.int .i64 7):=blk_cell ht9 0
   have y1:w9.cell? ⟨w.heap.size + 1,1,none⟩ = some (.int .i64 0):=blk_cell ht9 1
   have y2:w9.cell? ⟨w.heap.size + 1,2,none⟩ = some (.float .f64 0):=blk_cell ht9 2
   have y3:w9.cell? ⟨w.heap.size + 1,3,none⟩ = some (.string ⟨#[]⟩):=blk_cell ht9 3
   have y4:w9.cell? ⟨w.heap.size + 1,4,none⟩ = some (.slice q n c):=blk_cell ht9 4
   have z0:w9.cell? ⟨w.heap.size,0,none⟩ = some (.int .i64 0):=blk_cell hz9 0
   have zf0:=blk_free hz9 0
   have z1:w9.cell? ⟨w.heap.size,1,none⟩ = some (.int .i64 0):=blk_cell hz9 1
   have zf1:=blk_free hz9 1
   have z2:w9.cell? ⟨w.heap.size,2,none⟩ = some (.float .f64 0):=blk_cell hz9 2
   have zf2:=blk_free hz9 2
   have z3:w9.cell? ⟨w.heap.size,3,none⟩ = some (.string ⟨#[]⟩):=blk_cell hz9 3
   have zf3:=blk_free hz9 3
   have z4:w9.cell? ⟨w.heap.size,4,none⟩ = some (.slice none 0 0):=blk_cell hz9 4
   have zf4:=blk_free hz9 4
   have HFin:=Lib.hid hfin
   clear hz9 ht9 hfin
   go_wp2
   refine bodyPost_ret (v:=.agg (cells5 7 0 0 ⟨#[]⟩ q n c)) (results_cell_row rfl _ _ w.heap.size _ _ _ _ rfl HFin.out.1 Tryz.underlying36 rfl (by kernel_rfl)) rfl ?_
   exact HFin.out.2
  obtain ⟨ys,l,m,hn,⟨us,Fs,hbt⟩,hrd,hlm,hyl,hx⟩:=HG.out
  subst hn
  have c2:wr.cell? ⟨R,2,none⟩ = some (.int .i64 0):=hrd.cell 2
  obtain ⟨m,rfl⟩:∃ m',m = m' + 1:=⟨m - 1,by omega⟩
  have HC:=Lib.hid (HVa.out wr l hrd)
  have HMs:Hid (msr21 wr R S = l.length + 1):=hrd.msr
  obtain ⟨Y,hY⟩:∃ Y,Y = Tx.pval rf f l:=⟨_,rfl⟩
  have HX2:Hid (X = lsq ys (andP Y fun x r => if r.head? = some 93 then .ok ([x],r) else andM (Tx.must [44,32] r) fun r => andP (Tx.pits (Tx.pval rf f) m r) fun xs r => .ok (x :: xs,r))):=by show X = _;rw [hx,pits_at,← hY]
  have HLen:Hid (∀ x r,Y = .ok (x,r) → r.length ≤ l.length):=fun x r hc => HP.out l x r (hY.symm.trans hc)
  rw [← hY] at HC
  have HBt:=Lib.hid hbt
  have HLm:=Lib.hid hlm
  have HYl:=Lib.hid hyl
  clear HG hrd hx hY hbt hlm hyl HXe HR2 HL2 HS2
  go_wp2_with fail
  refine HC.out.mono ?_
  rintro e w3 ⟨k,i,b,t3,p,n,c3,rfl,hrd3,ha3,hown3⟩
  have hM:=more21 (u:=#[.int .i64 k,.int .i64 i,.float .f64 b,.string t3,.slice p n c3]) HRl.out HL.out HBt.out ha3
  have hT3:w3.heap[w.heap.size + 1]? = some (.cells #[.int .i64 7,.int .i64 0,.float .f64 0,.string ⟨#[]⟩,.slice q ys.length c] 36 (0,0)):=(ha3.block _ (blk_lt HL.out.t) hRT).trans HL.out.t
  have x4:w3.cell? ⟨w.heap.size + 1,4,none⟩ = some (.slice q ys.length c):=blk_cell hT3 4
  have hl3:w.heap.size + 1 < w3.heap.size:=blk_lt hT3
  have hl3':¬ w.heap.size + 1 = w3.heap.size:=by omega
  have hl3'':¬ w3.heap.size = w.heap.size + 1:=by omega
  have HRow:=Lib.hid hM.1
  have HNx:=Lib.hid hM.2
  have HRd3:=Lib.hid hrd3
  have HOw:=Lib.hid hown3
  have hsz:(ys.length + 1) * 64 ≤ 140737488355328:=by have:=HYl.out;have:=HS.out;omega
  have hbs:w.heap.size + 2 ≤ ((w3.alloc (.cells #[.int .i64 k,.int .i64 i,.float .f64 b,.string t3,.slice p n c3] 36)).alloc (.cells #[.int .i64 k,.int .i64 i,.float .f64 b,.string t3,.slice p n c3] 36)).heap.size:=by simp;omega
  have hnb:((w3.alloc (.cells #[.int .i64 k,.int .i64 i,.float .f64 b,.string t3,.slice p n c3] 36)).alloc (.cells #[.int .i64 k,.int .i64 i,.float .f64 b,.string t3,.slice p n c3] 36)).heap[w3.heap.size + 1]? = some (.cells #[.int .i64 k,.int .i64 i,.float .f64 b,.string t3,.slice p n c3] 36 (0,0)):=by have:=blk_new (w3.alloc (.cells #[.int .i64 k,.int .i64 i,.float .f64 b,.string t3,.slice p n c3] 36)) (.cells #[.int .i64 k,.int .i64 i,.float .f64 b,.string t3,.slice p n c3] 36);simpa using this
  have HSz:=Lib.hid hsz
  have HBs:=Lib.hid hbs
  have HNb:=Lib.hid hnb
  clear hM hrd3 hown3 hT3 HC c2 hsz hbs hnb ha3 HBt HL
  cases Y with
  | error er =>
   obtain ⟨ek,en⟩:=er
   have HXe:Hid (X = .error (ek,en)):=HX2.out
   have g0:ek ≠ 0:=Bad21.bad HRd3.out
   have g2:((ek:Int) != 0) = true:=by rw [bne_iff_ne];omega
   have g3:(ek != 0) = true:=by rw [bne_iff_ne];exact g0
   clear HX2 g0
   go_wp2_with (at_builtin;refine wp_more (B:=w.heap.size + 2) (us:=us) (v:=.slice q ys.length c) (n:=ys.length) HRow.out (u:=#[.int .i64 k,.int .i64 i,.float .f64 b,.string t3,.slice p n c3]) rfl (one5c _ _ _ _ _ _ _) (ad:=w3.heap.size + 1) HNb.out HSz.out HBs.out (H:=w3.heap.size + 2) (by simp) rfl rfl rfl rfl ?_;intro g cap w6 hr6 hg6 hn6;obtain ⟨ht6,hrd6,hL7,hB7⟩:=HNx.out g cap w6 hr6 hg6 (by simpa using hn6);have x6:w6.cell? ⟨w.heap.size + 1,4,none⟩ = some (.slice q ys.length c):=blk_cell ht6 4;have xf6:=blk_free ht6 4;obtain ⟨hd6,hd7⟩:=hrd6 S _ HRd3.out;have c6:w6.cell? ⟨R,2,none⟩ = some (.int .i64 (ek:Int)):=Bad21.cell2 hd6;obtain ⟨W7,hW7⟩:∃ W7,W7 = w6.setCell ⟨w.heap.size + 1,4,none⟩ (.slice (some ⟨g,0,none⟩) (ys.length + 1) cap):=⟨_,rfl⟩;rw [← hW7] at hd7 hL7 hB7;have HW7:=Lib.hid hW7;have HD7:=Lib.hid hd7;have HL7:=Lib.hid hL7;clear hr6 hg6 hn6 ht6 hrd6 hL7 hB7 hd6 hd7 hW7)
   rw [← HW7.out]
   have HM:=Lib.hid (refMustBad21 HD7.out ⟨#[93]⟩ (by decide))
   have HEnd:=Lib.hid (lst_end (X:=X) HRl.out HL7.out (by rw [HXe.out];exact HD7.out) (Aside.refl _ _) (fun v l hc => by rw [HXe.out] at hc;cases hc))
   clear HD7 HL7 HW7 x6 xf6 c6 x4 HRow HNx HRd3 HOw HSz HBs HNb HP HVa
   refine HM.out.mono ?_
   rintro e w9 ⟨rfl,hw9⟩
   subst hw9
   clear HM
   obtain ⟨hz9,ht9,hfin⟩:=HEnd.out
   have y0:w9.cell? ⟨w.heap.size + 1,0,none⟩ = some (.int .i64 7):=blk_cell ht9 0
   have y1:w9.cell? ⟨w.heap.size + 1,1,none⟩ = some (.int .i64 0):=blk_cell ht9 1
   have y2:w9.cell? ⟨w.heap.size + 1,2,none⟩ = some (.float .f64 0):=blk_cell ht9 2
   have y3:w9.cell? ⟨w.heap.size + 1,3,none⟩ = some (.string ⟨#[]⟩):=blk_cell ht9 3
   have y4:w9.cell? ⟨w.heap.size + 1,4,none⟩ = some (.slice (some ⟨g,0,none⟩) (ys.length + 1) cap):=blk_cell ht9 4
   have z0:w9.cell? ⟨w.heap.size,0,none⟩ = some (.int .i64 0):=blk_cell hz9 0
   have zf0:=blk_free hz9 0
   have z1:w9.cell? ⟨w.heap.size,1,none⟩ = some (.int .i64 0):=blk_cell hz9 1
   have zf1:=blk_free hz9 1
   have z2:w9.cell? ⟨w.heap.size,2,none⟩ = some (.float .f64 0):=blk_cell hz9 2
   have zf2:=blk_free hz9 2
   have z3:w9.cell? ⟨w.heap.size,3,none⟩ = some (.string ⟨#[]⟩):=blk_cell hz9 3
   have zf3:=blk_free hz9 3
   have z4:w9.cell? ⟨w.heap.size,4,none⟩ = some (.slice none 0 0):=blk_cell hz9 4
   have zf4:=blk_free hz9 4
   have HFin:=Lib.hid hfin
   clear hz9 ht9 hfin
   go_wp2
   refine bodyPost_ret (v:=.agg (cells5 7 0 0 ⟨#[]⟩ (some ⟨g,0,none⟩) (ys.length + 1) cap)) (results_cell_row rfl _ _ w.heap.size _ _ _ _ rfl HFin.out.1 Tryz.underlying36 rfl (by kernel_rfl)) rfl ?_
   exact HFin.out.2
  | ok xr =>
   obtain ⟨x,r⟩:=xr
   have HX3:Hid (X = lsq ys (if r.head? = some 93 then .ok ([x],r) else andM (Tx.must [44,32] r) fun r => andP (Tx.pits (Tx.pval rf f) m r) fun xs r => .ok (x :: xs,r))):=HX2.out
   have HLr:Hid (r.length ≤ l.length):=HLen.out x r rfl
   clear HX2 HLen
   go_wp2_with (at_builtin;refine wp_more (B:=w.heap.size + 2) (us:=us) (v:=.slice q ys.length c) (n:=ys.length) HRow.out (u:=#[.int .i64 k,.int .i64 i,.float .f64 b,.string t3,.slice p n c3]) rfl (one5c _ _ _ _ _ _ _) (ad:=w3.heap.size + 1) HNb.out HSz.out HBs.out (H:=w3.heap.size + 2) (by simp) rfl rfl rfl rfl ?_;intro g cap w6 hr6 hg6 hn6;obtain ⟨ht6,hrd6,hL7,hB7⟩:=HNx.out g cap w6 hr6 hg6 (by simpa using hn6);have x6:w6.cell? ⟨w.heap.size + 1,4,none⟩ = some (.slice q ys.length c):=blk_cell ht6 4;have xf6:=blk_free ht6 4;obtain ⟨hd6,hd7⟩:=hrd6 S _ HRd3.out;have c6:w6.cell? ⟨R,2,none⟩ = some (.int .i64 0):=Rd21.cell hd6 2;obtain ⟨W7,hW7⟩:∃ W7,W7 = w6.setCell ⟨w.heap.size + 1,4,none⟩ (.slice (some ⟨g,0,none⟩) (ys.length + 1) cap):=⟨_,rfl⟩;rw [← hW7] at hd7 hL7 hB7;have HW7:=Lib.hid hW7;have HD7:=Lib.hid hd7;have HL7:=Lib.hid hL7;have HB7:=Lib.hid (hB7 x (HOw.out x r rfl));clear hr6 hg6 hn6 ht6 hrd6 hL7 hB7 hd6 hd7 hW7)
   rw [← HW7.out]
   have HIs:=Lib.hid (refIs21 HD7.out 93)
   clear HW7 x6 xf6 c6 x4 HRow HNx HRd3 HOw HBs HNb
   refine HIs.out.mono ?_
   rintro e w8 ⟨rfl,nd,hw8⟩
   have HD8:Hid (Rd21 w8 R S r):=by rw [hw8];exact Rd21.drewN HD7.out nd
   have HL8:Hid (Lst21 w w8 R (some ⟨g,0,none⟩) (ys.length + 1) cap):=by rw [hw8];exact ⟨HL7.out.z,HL7.out.t,HL7.out.a.drewN nd⟩
   have HB8:Hid (∃ us' Fs',Built w8 (w.heap.size + 2) (.slice (some ⟨g,0,none⟩) (ys.length + 1) cap) (ys.length + 1) us' Fs' (ys ++ [x])):=by
    obtain ⟨us',Fs',hb⟩:=HB7.out
    rw [hw8]
    exact ⟨us',Fs',hb.aside (aside_drewN21 (fun _ => False) W7 nd) (fun _ _ h => h) (fun _ _ _ _ h => h)⟩
   clear hw8 HIs HD7 HL7 HB7
   by_cases hh:r.head? = some 93
   ·have g1:decide (r.head? = some 93) = true:=decide_eq_true hh
    rw [g1]
    have HX4:Hid (X = lsq ys (.ok ([x],r))):=by show X = _;rw [HX3.out,if_pos hh]
    have HM:=Lib.hid (refMust21 HD8.out ⟨#[93]⟩ (by decide))
    rw [show (ByteArray.mk #[93]).data.toList = [93] from rfl] at HM
    have HOwn:Hid (VOwn w8 (fun k => w.heap.size < k ∧ k < w8.heap.size) (cells5 7 0 0 ⟨#[]⟩ (some ⟨g,0,none⟩) (ys.length + 1) cap) ⟨7,0,0,⟨#[]⟩,ys ++ [x]⟩):=by
     obtain ⟨us',Fs',hb⟩:=HB8.out
     have el:(ys ++ [x]).length = ys.length + 1:=by simp
     have:=lst_own (w:=w) (wx:=w8) (q:=some ⟨g,0,none⟩) (c:=cap) (ys:=ys ++ [x]) (by rw [el];exact hb) (by rw [el];have:=HYl.out;have:=HS.out;omega)
     rw [el] at this
     exact this
    clear hh g1 HX3 HD8 HB8
    go_wp2_with fail
    refine HM.out.mono ?_
    rintro e w9 ⟨rfl,hq,ha9⟩
    have hy:RdY21 w9 R S X ∧ ∀ v l,X = .ok (v,l) → v = ⟨7,0,0,⟨#[]⟩,ys ++ [x]⟩:=by
     have hx4:X = match Tx.must [93] r with
       | .error e => .error e
       | .ok r => .ok (⟨7,0,0,⟨#[]⟩,ys ++ [x]⟩,r):=HX4.out
     rw [hx4]
     cases hm:Tx.must [93] r with
     | error y => obtain ⟨e,m⟩:=y;rw [hm] at hq;exact ⟨hq,fun v l hc => by cases hc⟩
     | ok r3 => rw [hm] at hq;exact ⟨hq,fun v l hc => by cases hc;rfl⟩
    have HEnd:=Lib.hid (lst_end (X:=X) HRl.out HL8.out hy.1 ha9 (fun v l hc => by rw [hy.2 v l hc];exact HOwn.out))
    clear hq ha9 hy HM HX4 HOwn HL8 HP HVa
    obtain ⟨hz9,ht9,hfin⟩:=HEnd.out
    have y0:w9.cell? ⟨w.heap.size + 1,0,none⟩ = some (.int .i64 7):=blk_cell ht9 0
    have y1:w9.cell? ⟨w.heap.size + 1,1,none⟩ = some (.int .i64 0):=blk_cell ht9 1
    have y2:w9.cell? ⟨w.heap.size + 1,2,none⟩ = some (.float .f64 0):=blk_cell ht9 2
    have y3:w9.cell? ⟨w.heap.size + 1,3,none⟩ = some (.string ⟨#[]⟩):=blk_cell ht9 3
    have y4:w9.cell? ⟨w.heap.size + 1,4,none⟩ = some (.slice (some ⟨g,0,none⟩) (ys.length + 1) cap):=blk_cell ht9 4
    have z0:w9.cell? ⟨w.heap.size,0,none⟩ = some (.int .i64 0):=blk_cell hz9 0
    have zf0:=blk_free hz9 0
    have z1:w9.cell? ⟨w.heap.size,1,none⟩ = some (.int .i64 0):=blk_cell hz9 1
    have zf1:=blk_free hz9 1
    have z2:w9.cell? ⟨w.heap.size,2,none⟩ = some (.float .f64 0):=blk_cell hz9 2
    have zf2:=blk_free hz9 2
    have z3:w9.cell? ⟨w.heap.size,3,none⟩ = some (.string ⟨#[]⟩):=blk_cell hz9 3
    have zf3:=blk_free hz9 3
    have z4:w9.cell? ⟨w.heap.size,4,none⟩ = some (.slice none 0 0):=blk_cell hz9 4
    have zf4:=blk_free hz9 4
    have HFin:=Lib.hid hfin
    clear hz9 ht9 hfin
    go_wp2
    refine bodyPost_ret (v:=.agg (cells5 7 0 0 ⟨#[]⟩ (some ⟨g,0,none⟩) (ys.length + 1) cap)) (results_cell_row rfl _ _ w.heap.size _ _ _ _ rfl HFin.out.1 Tryz.underlying36 rfl (by kernel_rfl)) rfl ?_
    exact HFin.out.2
   ·have g1:decide (r.head? = some 93) = false:=decide_eq_false hh
    rw [g1]
    have HX4:Hid (X = lsq ys (andM (Tx.must [44,32] r) fun r => andP (Tx.pits (Tx.pval rf f) m r) fun xs r => .ok (x :: xs,r))):=by show X = _;rw [HX3.out,if_neg hh]
    have HM:=Lib.hid (refMust21 HD8.out ⟨#[44,32]⟩ (by decide))
    rw [show (ByteArray.mk #[44,32]).data.toList = [44,32] from rfl] at HM
    clear hh g1 HX3
    go_wp2_with fail
    refine HM.out.mono ?_
    rintro e w9 ⟨rfl,hq,ha9⟩
    have hL9:Lst21 w w9 R (some ⟨g,0,none⟩) (ys.length + 1) cap:=⟨(ha9.block _ (blk_lt HL8.out.z) hRN).trans HL8.out.z,(ha9.block _ (blk_lt HL8.out.t) hRT).trans HL8.out.t,HL8.out.a.trans ha9 (fun _ _ h => h)⟩
    have HRel:Hid ((∃ (q:Option Addr) (n c:Nat),Hid (Lst21 w w9 R q n c) ∧ (Hid (∃ (ys:List V) (l:Tx.Bs) (m:Nat),n = ys.length ∧ (∃ us Fs,Built w9 (w.heap.size + 2) (.slice q n c) n us Fs ys) ∧ Rd21 w9 R S l ∧ l.length < m ∧ ys.length + l.length ≤ S.size ∧ X = lsq ys (Tx.pits (Tx.pval rf f) m l)) ∨ Hid (∃ e k,Bad21 w9 R S e k ∧ X = .error (e,k)))) ∧ msr21 w9 R S < msr21 wr R S):=by
     show _ ∧ _
     rw [HMs.out]
     cases hm:Tx.must [44,32] r with
     | error y =>
      obtain ⟨e,m'⟩:=y
      rw [hm] at hq
      have hq:Bad21 w9 R S e m':=hq
      refine ⟨⟨_,_,_,hL9,.inr ⟨e,m',hq,?_⟩⟩,by rw [hq.msr];omega⟩
      rw [HX4.out,hm];rfl
     | ok r3 =>
      rw [hm] at hq
      have hq:Rd21 w9 R S r3:=hq
      obtain ⟨us',Fs',hb⟩:=HB8.out
      have hr3:=Tx.must_ok _ _ _ hm
      have hl3:=congrArg List.length hr3
      rw [List.length_append] at hl3
      have hl4:r.length = 2 + r3.length:=hl3
      have h1:=HLr.out
      have h2:=HLm.out
      have h3:=HYl.out
      have hRl:=HRl.out
      refine ⟨⟨_,_,_,hL9,.inl ⟨ys ++ [x],r3,m,by simp,⟨us',Fs',hb.aside ha9 (fun g hg he => by have:=(hb.lt g hg).1;omega) (fun j hj k hk he => by have:=(hb.range j hj k hk).1;omega)⟩,hq,by omega,by rw [List.length_append,List.length_singleton];omega,?_⟩⟩,by rw [hq.msr];omega⟩
      rw [HX4.out,hm,lsq_cons]
      rfl
    clear hq ha9 hL9 HM HX4 HD8 HL8 HB8 HLr HLm HYl HMs
    go_wp2
    go_roundw
    case rel => exact HRel.out.1
    case measure => exact HRel.out.2
end Go.Proofs.YtllbniljgcgbeaaGreatDoor
