import Derived.Test.YtllbniljgcgbeaaGreatDoorA8
import Derived.Test.YtllbniljgcgbeaaGreatDoorA5
import Derived.Test.YtllbniljgcgbeaaGreatDoorWT21S
import Derived.Test.YtllbniljgcgbeaaGreatDoorA7
import Derived.Test.YtllbniljgcgbeaaGreatDoorTx11
import Derived.Test.YtllbniljgcgbeaaGreatDoorWT21N0
set_option maxRecDepth 100000
set_option maxHeartbeats 8000000
namespace Go.Proofs.YtllbniljgcgbeaaGreatDoor
open Go.RowKit
attribute [local go_sem] run_store_float
theorem Val21.wide {w W w':World} {X:Tx.R (V × Tx.Bs)} {k i:Int} {b:Nat} {t:ByteArray} {p:Option Addr} {n c:Nat} (hw:w.heap.size + 1 < W.heap.size) (hown:∀ v l,X = .ok (v,l) → VOwn w' (fun j => W.heap.size ≤ j ∧ j < w'.heap.size) (cells5 k i b t p n c) v):∀ v l,X = .ok (v,l) → ∃ F:Nat → Prop,VOwn w' F (cells5 k i b t p n c) v ∧ ∀ j,F j → w.heap.size < j ∧ j < w'.heap.size :=
 fun v l hx => ⟨_,hown v l hx,fun j hj => by omega⟩
theorem refValue21 {rf:Tx.Bs → Option Nat} (hRf:RfOk rf):∀ (f d:Nat) (l:Tx.Bs) (R:Nat) (S:ByteArray) (w:World),d + f = 5 → S.size ≤ 1099511627776 → Rd21 w R S l → Calls Tryz.prog 28 #[.pointer (some ⟨R,0,none⟩),.int .i64 (d:Nat)] w (Val21 w R S (Tx.pval rf f l)):=by
 intro f
 induction f with
 | zero =>
  intro d l R S w hd hS h
  obtain ⟨W1,hW1⟩:∃ W1,W1 = (w.alloc (.cells #[.int .i64 0,.int .i64 0,.float .f64 0,.string ⟨#[]⟩,.slice none 0 0] 36)).alloc (.cells #[.int .i64 0,.int .i64 0,.float .f64 0,.string ⟨#[]⟩,.slice none 0 0] 36):=⟨_,rfl⟩
  have hb1:Below w.heap.size w W1:=by rw [hW1];exact ((Below.refl _ _).alloc (Nat.le_refl _) _).alloc (by simp) _
  have hz1:W1.heap[w.heap.size]? = some (.cells zero5 36 (0,0)):=by rw [hW1,blk_old _ _ (by simp)];exact blk_new w _
  have hn1:W1.heap[w.heap.size + 1]? = some (.cells zero5 36 (0,0)):=by rw [hW1];have:=blk_new (w.alloc (.cells #[.int .i64 0,.int .i64 0,.float .f64 0,.string ⟨#[]⟩,.slice none 0 0] 36)) (.cells #[.int .i64 0,.int .i64 0,.float .f64 0,.string ⟨#[]⟩,.slice none 0 0] 36);rw [show (w.alloc (.cells #[.int .i64 0,.int .i64 0,.float .f64 0,.string ⟨#[]⟩,.slice none 0 0] 36)).heap.size = w.heap.size + 1 by simp] at this;exact this
  have hr1:=h.on hb1
  have HRl:=Lib.hid h.lt
  have hRl:=h.lt
  have hRN:¬ w.heap.size = R:=by omega
  have hRN2:¬ R = w.heap.size:=by omega
  have hRT:¬ w.heap.size + 1 = R:=by omega
  have hRT2:¬ R = w.heap.size + 1:=by omega
  have c1:W1.cell? ⟨R,1,none⟩ = some (.int .i64 ((S.size - l.length:Nat):Int)):=hr1.cell 1
  have HF:=Lib.hid (refFail21 hr1 62 l.length (by decide))
  have HW:Hid (W1.heap[w.heap.size]? = some (.cells zero5 36 (0,0)) ∧ W1.heap[w.heap.size + 1]? = some (.cells zero5 36 (0,0)) ∧ Aside (fun j => j = R) w W1):=⟨hz1,hn1,aside_new hb1 _⟩
  have HW1:=Lib.hid hW1
  have HXe:Hid (Tx.pval rf 0 l = .error (62,l.length)):=by show _ = _;rw [Tx.pval]
  obtain ⟨X,hX⟩:∃ X,X = Tx.pval rf 0 l:=⟨_,rfl⟩
  rw [← hX] at HXe ⊢
  obtain ⟨a,ha⟩:∃ a,a = S.size - l.length:=⟨_,rfl⟩
  rw [← ha] at c1 HF
  obtain rfl:d = 5:=by omega
  rw [hW1] at c1
  clear h hW1 hb1 hz1 hn1 hr1 hX ha hS hRl
  go_enter Tryz.func28,Tryz.ntmps28
  go_wp2_with fail
  rw [← HW1.out]
  skip
  refine HF.out.mono ?_
  rintro e w9 ⟨rfl,hb9,ha9⟩
  have hz9:=(ha9.block _ (blk_lt HW.out.1) hRN).trans HW.out.1
  have hn9:=(ha9.block _ (blk_lt HW.out.2.1) hRT).trans HW.out.2.1
  have HFin:=Lib.hid (val_fin (k:=0) (i:=0) (b:=0) (t:=⟨#[]⟩) (p:=none) (n:=0) (c:=0) (X:=.error (62,l.length)) HRl.out hz9 rfl hb9 (HW.out.2.2.trans ha9 (fun _ _ h => h)) (fun v l hc => by cases hc))
  have y0:w9.cell? ⟨w.heap.size + 1,0,none⟩ = some (.int .i64 0):=blk_cell hn9 0
  have y1:w9.cell? ⟨w.heap.size + 1,1,none⟩ = some (.int .i64 0):=blk_cell hn9 1
  have y2:w9.cell? ⟨w.heap.size + 1,2,none⟩ = some (.float .f64 0):=blk_cell hn9 2
  have y3:w9.cell? ⟨w.heap.size + 1,3,none⟩ = some (.string ⟨#[]⟩):=blk_cell hn9 3
  have y4:w9.cell? ⟨w.heap.size + 1,4,none⟩ = some (.slice none 0 0):=blk_cell hn9 4
  have z0:w9.cell? ⟨w.heap.size,0,none⟩ = some (.int .i64 0):=blk_cell hz9 0
  have zf0:=blk_free hz9 0
  have z1:w9.cell? ⟨w.heap.size,1,none⟩ = some (.int .i64 0):=blk_cell hz9 1
  have zf1:=blk_free hz9 1
  have z2:w9.cell? ⟨w.heap.size,2,none⟩ = some (.float .f64 0):=blk_cell hz9 2
  have zf2:=blk_free hz9 2
  have z3:w9.cell? ⟨w.heap.size,3,none⟩ = some (.string ⟨#[]⟩):=blk_cell hz9 3
  have zf3:=blk_free hz9 3
  have z4:w9.cell? ⟨w.heap.size,4,none⟩ = some (.slice none 0 0):=blk_cell hz9 4
  have zf4:=blk_free hz9 4
  clear hb9 ha9 hz9 hn9 HW HW1 HF c1
  go_wp2
  refine bodyPost_ret (v:=.agg (cells5 0 0 0 ⟨#[]⟩ none 0 0)) (results_cell_row rfl _ _ w.heap.size _ _ _ _ rfl HFin.out.1 Tryz.underlying36 rfl (by kernel_rfl)) rfl ?_
  rw [HXe.out]
  exact HFin.out.2
 | succ f ih =>
  intro d l R S w hd hS h
  have hd4:d ≤ 4:=by omega
  have hdi:¬ (4:Int) < (d:Int):=by omega
  have hdj:decide ((4:Int) < (d:Int)) = false:=decide_eq_false hdi
  have hdk:decide (4 < d) = false:=decide_eq_false (by omega)
  have HVal:Hid (∀ w' l',Rd21 w' R S l' → Calls Tryz.prog 28 #[.pointer (some ⟨R,0,none⟩),.int .i64 ((d:Int) + 1)] w' (Val21 w' R S (Tx.pval rf f l'))):=fun w' l' h' => by
   have:=ih (d + 1) l' R S w' (by omega) hS h'
   rw [show ((d + 1:Nat):Int) = (d:Int) + 1 by omega] at this
   exact this
  have HRf:=Lib.hid hRf
  have HS:=Lib.hid hS
  have HD4:=Lib.hid hd4
  obtain ⟨W1,hW1⟩:∃ W1,W1 = (w.alloc (.cells #[.int .i64 0,.int .i64 0,.float .f64 0,.string ⟨#[]⟩,.slice none 0 0] 36)).alloc (.cells #[.int .i64 0,.int .i64 0,.float .f64 0,.string ⟨#[]⟩,.slice none 0 0] 36):=⟨_,rfl⟩
  have hb1:Below w.heap.size w W1:=by rw [hW1];exact ((Below.refl _ _).alloc (Nat.le_refl _) _).alloc (by simp) _
  have hz1:W1.heap[w.heap.size]? = some (.cells zero5 36 (0,0)):=by rw [hW1,blk_old _ _ (by simp)];exact blk_new w _
  have hn1:W1.heap[w.heap.size + 1]? = some (.cells zero5 36 (0,0)):=by rw [hW1];have:=blk_new (w.alloc (.cells #[.int .i64 0,.int .i64 0,.float .f64 0,.string ⟨#[]⟩,.slice none 0 0] 36)) (.cells #[.int .i64 0,.int .i64 0,.float .f64 0,.string ⟨#[]⟩,.slice none 0 0] 36);rw [show (w.alloc (.cells #[.int .i64 0,.int .i64 0,.float .f64 0,.string ⟨#[]⟩,.slice none 0 0] 36)).heap.size = w.heap.size + 1 by simp] at this;exact this
  have hr1:=h.on hb1
  have HRl:=Lib.hid h.lt
  have hRl:=h.lt
  have hRN:¬ w.heap.size = R:=by omega
  have hRN2:¬ R = w.heap.size:=by omega
  have hRT:¬ w.heap.size + 1 = R:=by omega
  have hRT2:¬ R = w.heap.size + 1:=by omega
  have hTN:¬ w.heap.size + 1 = w.heap.size:=by omega
  have hTN2:¬ w.heap.size = w.heap.size + 1:=by omega
  obtain ⟨a,ha⟩:∃ a,a = S.size - l.length:=⟨_,rfl⟩
  have c0:W1.cell? ⟨R,0,none⟩ = some (.string S):=hr1.cell 0
  have c1:W1.cell? ⟨R,1,none⟩ = some (.int .i64 (a:Int)):=by rw [ha];exact hr1.cell 1
  have hle:=h.le
  have HWn:Hid (∀ n,Rd21 (W1.drewN n) R S l ∧ (W1.drewN n).heap[w.heap.size]? = some (.cells zero5 36 (0,0)) ∧ (W1.drewN n).heap[w.heap.size + 1]? = some (.cells zero5 36 (0,0)) ∧ Aside (fun j => j = R) w (W1.drewN n)):=fun n => ⟨hr1.drewN n,hz1,hn1,(aside_new hb1 _).trans (aside_drewN21 (fun j => j = R) W1 n) (fun _ _ h => h)⟩
  have HW1:=Lib.hid hW1
  obtain ⟨X,hX⟩:∃ X,X = Tx.pval rf (f + 1) l:=⟨_,rfl⟩
  have HX:=Lib.hid hX
  have HAe:=Lib.hid ha
  rw [← hX]
  have hsm:=h.small
  clear hX ih hRf hS hd hd4 h hW1 hb1 hz1 hn1 hr1 hRl
  go_enter Tryz.func28,Tryz.ntmps28
  go_wp2_with fail
  rw [← HW1.out]
  cases l with
  | nil =>
   have haS:a = S.size:=by rw [ha];simp
   have g1:((a:Int) == (S.size:Int)) = true:=by rw [haS];exact beq_self_eq_true _
   have HXe:Hid (X = .error (5,([]:Tx.Bs).length)):=by show X = _;rw [HX.out,Tx.pval];rfl
   clear ha haS HX hle
   go_quiet (fail)
   obtain ⟨hr2,hz2,hn2,ha2⟩:=HWn.out nq
   have HW:Hid ((W1.drewN nq).heap[w.heap.size]? = some (.cells zero5 36 (0,0)) ∧ (W1.drewN nq).heap[w.heap.size + 1]? = some (.cells zero5 36 (0,0)) ∧ Aside (fun j => j = R) w (W1.drewN nq)):=⟨hz2,hn2,ha2⟩
   have HF:=Lib.hid (refFail21 hr2 5 ([]:Tx.Bs).length (by decide))
   rw [← HAe.out] at HF
   have c2:(W1.drewN nq).cell? ⟨R,1,none⟩ = some (.int .i64 (a:Int)):=by rw [HAe.out];exact hr2.cell 1
   clear hr2 hz2 hn2 ha2 c0 c1 HWn HW1
   generalize W1.drewN nq = w3 at *
   go_wp2_with fail
   refine HF.out.mono ?_
   rintro e w9 ⟨rfl,hb9,ha9⟩
   have hz9:=(ha9.block _ (blk_lt HW.out.1) hRN).trans HW.out.1
   have hn9:=(ha9.block _ (blk_lt HW.out.2.1) hRT).trans HW.out.2.1
   have HFin:=Lib.hid (val_fin (k:=0) (i:=0) (b:=0) (t:=⟨#[]⟩) (p:=none) (n:=0) (c:=0) (X:=.error (5,([]:Tx.Bs).length)) HRl.out hz9 rfl hb9 (HW.out.2.2.trans ha9 (fun _ _ h => h)) (fun v l hc => by cases hc))
   have y0:w9.cell? ⟨w.heap.size + 1,0,none⟩ = some (.int .i64 0):=blk_cell hn9 0
   have y1:w9.cell? ⟨w.heap.size + 1,1,none⟩ = some (.int .i64 0):=blk_cell hn9 1
   have y2:w9.cell? ⟨w.heap.size + 1,2,none⟩ = some (.float .f64 0):=blk_cell hn9 2
   have y3:w9.cell? ⟨w.heap.size + 1,3,none⟩ = some (.string ⟨#[]⟩):=blk_cell hn9 3
   have y4:w9.cell? ⟨w.heap.size + 1,4,none⟩ = some (.slice none 0 0):=blk_cell hn9 4
   have z0:w9.cell? ⟨w.heap.size,0,none⟩ = some (.int .i64 0):=blk_cell hz9 0
   have zf0:=blk_free hz9 0
   have z1:w9.cell? ⟨w.heap.size,1,none⟩ = some (.int .i64 0):=blk_cell hz9 1
   have zf1:=blk_free hz9 1
   have z2:w9.cell? ⟨w.heap.size,2,none⟩ = some (.float .f64 0):=blk_cell hz9 2
   have zf2:=blk_free hz9 2
   have z3:w9.cell? ⟨w.heap.size,3,none⟩ = some (.string ⟨#[]⟩):=blk_cell hz9 3
   have zf3:=blk_free hz9 3
   have z4:w9.cell? ⟨w.heap.size,4,none⟩ = some (.slice none 0 0):=blk_cell hz9 4
   have zf4:=blk_free hz9 4
   clear hb9 ha9 hz9 hn9 HW HF c2
   go_wp2
   refine bodyPost_ret (v:=.agg (cells5 0 0 0 ⟨#[]⟩ none 0 0)) (results_cell_row rfl _ _ w.heap.size _ _ _ _ rfl HFin.out.1 Tryz.underlying36 rfl (by kernel_rfl)) rfl ?_
   rw [HXe.out]
   exact HFin.out.2
  | cons c t =>
   have haS:a < S.size:=by simp only [List.length_cons] at ha hle;omega
   have g1:((a:Int) == (S.size:Int)) = false:=by rw [beq_eq_false_iff_ne];omega
   obtain ⟨hlt,hd'⟩:∃ hlt:a < S.size,S[a]'hlt = c:=(HWn.out 0).1.gets ha 0 (by simp)
   have f1:(a:Int) < (S.size:Int):=by omega
   have HC8:=Lib.hid (UInt8.toNat_lt c)
   have hsz:a + t.length + 1 = S.size:=by simp only [List.length_cons] at ha hle;omega
   have HSz:=Lib.hid hsz
   clear ha hle hsz
   go_quiet (fail)
   go_wp2_with fail
   go_quiet (fail)
   go_wp2_with fail
   refine (refSmall21 c _).mono ?_
   rintro e w2 ⟨rfl,hw2⟩
   obtain ⟨hr2,hz2,hn2,ha2⟩:Rd21 w2 R S (c :: t) ∧ w2.heap[w.heap.size]? = some (.cells zero5 36 (0,0)) ∧ w2.heap[w.heap.size + 1]? = some (.cells zero5 36 (0,0)) ∧ Aside (fun j => j = R) w w2:=by rw [hw2];exact HWn.out _
   have c2:w2.cell? ⟨R,1,none⟩ = some (.int .i64 (a:Int)):=by rw [HAe.out];exact hr2.cell 1
   have t2:=hr2.thawed 1
   have HR2:=Lib.hid hr2
   have HW:Hid (w2.heap[w.heap.size]? = some (.cells zero5 36 (0,0)) ∧ w2.heap[w.heap.size + 1]? = some (.cells zero5 36 (0,0)) ∧ Aside (fun j => j = R) w w2):=⟨hz2,hn2,ha2⟩
   have HF:=Lib.hid (refFail21 hr2 5 (c :: t).length (by decide))
   rw [← HAe.out] at HF
   have z0:w2.cell? ⟨w.heap.size,0,none⟩ = some (.int .i64 0):=blk_cell hz2 0
   have zf0:=blk_free hz2 0
   have z1:w2.cell? ⟨w.heap.size,1,none⟩ = some (.int .i64 0):=blk_cell hz2 1
   have zf1:=blk_free hz2 1
   have z2:w2.cell? ⟨w.heap.size,2,none⟩ = some (.float .f64 0):=blk_cell hz2 2
   have zf2:=blk_free hz2 2
   have z3:w2.cell? ⟨w.heap.size,3,none⟩ = some (.string ⟨#[]⟩):=blk_cell hz2 3
   have zf3:=blk_free hz2 3
   have z4:w2.cell? ⟨w.heap.size,4,none⟩ = some (.slice none 0 0):=blk_cell hz2 4
   have zf4:=blk_free hz2 4
   clear hw2 hr2 hz2 hn2 ha2 c0 c1 HWn HW1 hlt hd' f1 g1 hsm haS
   by_cases q1:Sch.low c = true
   ·have HXe:Hid (X = pwrd rf f (c :: t)):=by show X = _;rw [HX.out,pval_at,if_pos q1]
    have HCa:=Lib.hid (refWord21 HR2.out f d HD4.out HVal.out)
    obtain ⟨Y,hY⟩:∃ Y,Y = pwrd rf f (c :: t):=⟨_,rfl⟩
    rw [← hY] at HXe HCa
    clear hY HX HVal HF HR2 HRf HS HSz HC8 c2 t2 z0 z1 z2 z3 z4 zf0 zf1 zf2 zf3 zf4
    rw [q1]
    go_wp2_with fail
    refine HCa.out.mono ?_
    rintro e w9 ⟨k,i,b,t9,p,n,c9,rfl,hrd9,ha9,hown9⟩
    have hz9:=(ha9.block _ (blk_lt HW.out.1) hRN).trans HW.out.1
    have HFin:=Lib.hid (val_fin (k:=k) (i:=i) (b:=b) (t:=t9) (p:=p) (n:=n) (c:=c9) (X:=Y) HRl.out hz9 rfl hrd9 (HW.out.2.2.trans ha9 (fun _ _ h => h)) (Val21.wide (blk_lt HW.out.2.1) hown9))
    have z0:w9.cell? ⟨w.heap.size,0,none⟩ = some (.int .i64 0):=blk_cell hz9 0
    have zf0:=blk_free hz9 0
    have z1:w9.cell? ⟨w.heap.size,1,none⟩ = some (.int .i64 0):=blk_cell hz9 1
    have zf1:=blk_free hz9 1
    have z2:w9.cell? ⟨w.heap.size,2,none⟩ = some (.float .f64 0):=blk_cell hz9 2
    have zf2:=blk_free hz9 2
    have z3:w9.cell? ⟨w.heap.size,3,none⟩ = some (.string ⟨#[]⟩):=blk_cell hz9 3
    have zf3:=blk_free hz9 3
    have z4:w9.cell? ⟨w.heap.size,4,none⟩ = some (.slice none 0 0):=blk_cell hz9 4
    have zf4:=blk_free hz9 4
    clear hrd9 ha9 hown9 hz9 HCa HW
    go_wp2
    refine bodyPost_ret (v:=.agg (cells5 k i b t9 p n c9)) (results_cell_row rfl _ _ w.heap.size _ _ _ _ rfl HFin.out.1 Tryz.underlying36 rfl (by kernel_rfl)) rfl ?_
    rw [HXe.out]
    exact HFin.out.2
   have q1':Sch.low c = false:=by simpa using q1
   rw [q1']
   have N1:=Lib.hid q1
   clear q1
   by_cases q2:Tx.iset c = true
   ·have hk:Tx.dig c = true ∨ (Tx.dig c = false ∧ ((c.toNat:Int) == 45) = true):=by
     unfold Tx.iset at q2
     rw [Bool.or_eq_true] at q2
     cases hd:Tx.dig c with
     | true => exact .inl rfl
     | false =>
      rcases q2 with h | h
      ·rw [hd] at h;cases h
      ·exact .inr ⟨rfl,by rw [of_decide_eq_true h];rfl⟩
    obtain ⟨wd,hwd⟩:∃ wd,wd = (c :: t).takeWhile Tx.iset:=⟨_,rfl⟩
    obtain ⟨r0,hr0⟩:∃ r,r = (c :: t).dropWhile Tx.iset:=⟨_,rfl⟩
    have hsp:c :: t = wd ++ r0:=by rw [hwd,hr0];exact (List.takeWhile_append_dropWhile).symm
    have HXe:Hid (X = match Tx.num wd with
      | none => .error (5,(c :: t).length)
      | some n => .ok (⟨2,n,0,⟨#[]⟩,[]⟩,r0)):=by show X = _;rw [HX.out,pval_at,if_neg N1.out,if_pos q2,hwd,hr0];rfl
    have hwl:wd.length ≤ (c :: t).length:=by rw [hsp,List.length_append];omega
    have HSp:=Lib.hid hsp
    have HRw:=Lib.hid (refRow21 HR2.out 1 (by omega))
    rw [show inSet 1 = Tx.iset from rfl,← hwd] at HRw
    have HNm:Hid (∀ w',Calls Tryz.prog 57 #[.string ⟨wd.toArray⟩] w' (NumR w' wd)):=fun w' => refNumber21 ⟨wd.toArray⟩ (by show wd.toArray.size ≤ _;have:=HSz.out;have:=HS.out;simp at hwl ⊢;omega) w'
    have HWl:=Lib.hid hwl
    have e9:(ByteArray.mk wd.toArray).size = wd.length:=by show wd.toArray.size = _;simp
    clear hwd hr0 hsp hwl HX HVal HRf q2 HF
    rcases hk with k1 | ⟨k1,k2⟩
    all_goals
     go_wp2_with fail
     refine (refDig21 c _).mono ?_
     rintro e w3 ⟨rfl,hw3⟩
     subst hw3
     rw [k1]
     go_wp2_with fail
     refine HRw.out.mono ?_
     rintro e w4 ⟨rfl,hb4⟩
     go_wp2_with fail
     refine (HNm.out _).mono ?_
     rintro e w5 ⟨kn,bn,rfl,hm,hb5⟩
     have hr5:=(HR2.out.on hb4).on hb5
     have hb45:=hb4.trans (hb5.mono hb4.size)
     have hz5:=blk_on HW.out.1 hb45 (blk_lt HW.out.1)
     have hn5:=blk_on HW.out.2.1 hb45 (blk_lt HW.out.2.1)
     have ha5:=HW.out.2.2.trans (aside_new hb45 (fun i => i = R)) (fun _ _ h => h)
     have c5:w5.cell? ⟨R,1,none⟩ = some (.int .i64 (a:Int)):=by rw [HAe.out];exact hr5.cell 1
     have t5:=hr5.thawed 1
     have hl5:w.heap.size + 1 < w5.heap.size:=blk_lt hn5
     have HR5:=Lib.hid hr5
     have HW5:Hid (w5.heap[w.heap.size]? = some (.cells zero5 36 (0,0)) ∧ w5.heap[w.heap.size + 1]? = some (.cells zero5 36 (0,0)) ∧ Aside (fun j => j = R) w w5):=⟨hz5,hn5,ha5⟩
     clear hb4 hb5 hb45 hz5 hn5 ha5 hr5 HRw HNm HW HR2 c2 t2 z0 z1 z2 z3 z4 zf0 zf1 zf2 zf3 zf4
     cases hnum:Tx.num wd with
     | none =>
      rw [hnum] at hm HXe
      have hm:bn = false:=hm
      have HXe:Hid (X = .error (5,(c :: t).length)):=HXe
      subst hm
      have HF:=Lib.hid (refFail21 HR5.out 5 (c :: t).length (by decide))
      rw [← HAe.out] at HF
      clear hnum
      go_wp2_with fail
      refine HF.out.mono ?_
      rintro e w9 ⟨rfl,hb9,ha9⟩
      have hz9:=(ha9.block _ (blk_lt HW5.out.1) hRN).trans HW5.out.1
      have hn9:=(ha9.block _ (blk_lt HW5.out.2.1) hRT).trans HW5.out.2.1
      have HFin:=Lib.hid (val_fin (k:=0) (i:=0) (b:=0) (t:=⟨#[]⟩) (p:=none) (n:=0) (c:=0) (X:=.error (5,(c :: t).length)) HRl.out hz9 rfl hb9 (HW5.out.2.2.trans ha9 (fun _ _ h => h)) (fun v l hc => by cases hc))
      have y0:w9.cell? ⟨w.heap.size + 1,0,none⟩ = some (.int .i64 0):=blk_cell hn9 0
      have y1:w9.cell? ⟨w.heap.size + 1,1,none⟩ = some (.int .i64 0):=blk_cell hn9 1
      have y2:w9.cell? ⟨w.heap.size + 1,2,none⟩ = some (.float .f64 0):=blk_cell hn9 2
      have y3:w9.cell? ⟨w.heap.size + 1,3,none⟩ = some (.string ⟨#[]⟩):=blk_cell hn9 3
      have y4:w9.cell? ⟨w.heap.size + 1,4,none⟩ = some (.slice none 0 0):=blk_cell hn9 4
      have z0:w9.cell? ⟨w.heap.size,0,none⟩ = some (.int .i64 0):=blk_cell hz9 0
      have zf0:=blk_free hz9 0
      have z1:w9.cell? ⟨w.heap.size,1,none⟩ = some (.int .i64 0):=blk_cell hz9 1
      have zf1:=blk_free hz9 1
      have z2:w9.cell? ⟨w.heap.size,2,none⟩ = some (.float .f64 0):=blk_cell hz9 2
      have zf2:=blk_free hz9 2
      have z3:w9.cell? ⟨w.heap.size,3,none⟩ = some (.string ⟨#[]⟩):=blk_cell hz9 3
      have zf3:=blk_free hz9 3
      have z4:w9.cell? ⟨w.heap.size,4,none⟩ = some (.slice none 0 0):=blk_cell hz9 4
      have zf4:=blk_free hz9 4
      clear hb9 ha9 hz9 hn9 HF c5 t5 HW5 HR5 HSp HWl HS HSz
      go_wp2
      refine bodyPost_ret (v:=.agg (cells5 0 0 0 ⟨#[]⟩ none 0 0)) (results_cell_row rfl _ _ w.heap.size _ _ _ _ rfl HFin.out.1 Tryz.underlying36 rfl (by kernel_rfl)) rfl ?_
      rw [HXe.out]
      exact HFin.out.2
     | some m =>
      rw [hnum] at hm HXe
      obtain ⟨hm1,hm2⟩:kn = m ∧ bn = true:=hm
      have HXe:Hid (X = .ok (⟨2,m,0,⟨#[]⟩,[]⟩,r0)):=HXe
      subst hm1
      subst hm2
      have hst:=HR5.out.step wd.length HWl.out ((a:Int) + (wd.length:Int)) (by rw [HAe.out])
      rw [show (c :: t).drop wd.length = r0 by rw [HSp.out,List.drop_left]] at hst
      obtain ⟨hr6,ha6⟩:=hst
      have f5:(a:Int) + (wd.length:Int) ≤ 140737488351232:=by have:=HSz.out;have:=HS.out;have:=HWl.out;simp at this;omega
      have f6:(0:Int) ≤ (a:Int) + (wd.length:Int):=by omega
      have HFin:=Lib.hid (val_fin (k:=2) (i:=kn) (b:=0) (t:=⟨#[]⟩) (p:=none) (n:=0) (c:=0) (X:=.ok (⟨2,kn,0,⟨#[]⟩,[]⟩,r0)) HRl.out ((ha6.block _ (by omega) hRN).trans HW5.out.1) rfl hr6 (HW5.out.2.2.trans ha6 (fun _ _ h => h)) (fun v l hc => by cases hc;exact ⟨fun _ => False,.none,fun _ h => h.elim⟩))
      have hz5:=HW5.out.1
      have z0:w5.cell? ⟨w.heap.size,0,none⟩ = some (.int .i64 0):=blk_cell hz5 0
      have zf0:=blk_free hz5 0
      have z1:w5.cell? ⟨w.heap.size,1,none⟩ = some (.int .i64 0):=blk_cell hz5 1
      have zf1:=blk_free hz5 1
      have z2:w5.cell? ⟨w.heap.size,2,none⟩ = some (.float .f64 0):=blk_cell hz5 2
      have zf2:=blk_free hz5 2
      have z3:w5.cell? ⟨w.heap.size,3,none⟩ = some (.string ⟨#[]⟩):=blk_cell hz5 3
      have zf3:=blk_free hz5 3
      have z4:w5.cell? ⟨w.heap.size,4,none⟩ = some (.slice none 0 0):=blk_cell hz5 4
      have zf4:=blk_free hz5 4
      clear hnum hr6 ha6 hz5 HSp HWl HW5 HR5
      go_wp2
      refine bodyPost_ret (v:=.agg (cells5 2 kn 0 ⟨#[]⟩ none 0 0)) (results_cell_row rfl _ _ w.heap.size _ _ _ _ rfl HFin.out.1 Tryz.underlying36 rfl (by kernel_rfl)) rfl ?_
      rw [HXe.out]
      exact HFin.out.2
   have hkd:Tx.dig c = false ∧ c ≠ 45:=by
    unfold Tx.iset at q2
    rw [Bool.or_eq_true] at q2
    refine ⟨?_,fun h => q2 (.inr (decide_eq_true h))⟩
    cases hd:Tx.dig c with
    | true => exact absurd (.inl hd) q2
    | false => rfl
   have N2:=Lib.hid q2
   have HE9:Hid (∀ y:UInt8,c ≠ y → ((c.toNat:Int) == (y.toNat:Int)) = false):=fun y h => by rw [beq_eq_false_iff_ne];intro hc;exact h (UInt8.toNat_inj.1 (by omega))
   have g45:((c.toNat:Int) == 45) = false:=HE9.out 45 hkd.2
   have k1:=hkd.1
   clear hkd q2
   go_wp2_with fail
   refine (refDig21 c _).mono ?_
   rintro e w3 ⟨rfl,hw3⟩
   subst hw3
   rw [k1]
   by_cases q3:c = 126
   ·have g126:((c.toNat:Int) == 126) = true:=by rw [q3];rfl
    obtain ⟨wd,hwd⟩:∃ wd,wd = t.takeWhile Tx.fset:=⟨_,rfl⟩
    obtain ⟨r0,hr0⟩:∃ r,r = t.dropWhile Tx.fset:=⟨_,rfl⟩
    have hsp:t = wd ++ r0:=by rw [hwd,hr0];exact (List.takeWhile_append_dropWhile).symm
    have HXe:Hid (X = match rf wd with
      | none => .error (5,t.length)
      | some b => .ok (⟨3,0,b,⟨#[]⟩,[]⟩,r0)):=by show X = _;rw [HX.out,pval_at,if_neg N1.out,if_neg N2.out,if_pos q3,hwd,hr0,q3];rfl
    have hwl:wd.length ≤ t.length:=by rw [hsp,List.length_append];omega
    obtain ⟨hr3,ha3⟩:=HR2.out.step 1 (by simp) ((a:Int) + 1) (by rw [HAe.out];rfl)
    rw [show (c :: t).drop 1 = t from rfl] at hr3
    have HRw:=Lib.hid (refRow21 hr3 2 (by omega))
    rw [show inSet 2 = Tx.fset from rfl,← hwd] at HRw
    have HFl:Hid (∀ w',Calls Tryz.prog 58 #[.string ⟨wd.toArray⟩] w' (Flo21 w' (rf wd))):=fun w' => refFlo21 HRf.out ⟨wd.toArray⟩ (by show wd.toArray.size ≤ _;have:=HSz.out;have:=HS.out;simp at hwl ⊢;omega) w'
    have HW3:Hid ((w3.setCell ⟨R,1,none⟩ (.int .i64 ((a:Int) + 1))).heap[w.heap.size]? = some (.cells zero5 36 (0,0)) ∧ (w3.setCell ⟨R,1,none⟩ (.int .i64 ((a:Int) + 1))).heap[w.heap.size + 1]? = some (.cells zero5 36 (0,0)) ∧ Aside (fun j => j = R) w (w3.setCell ⟨R,1,none⟩ (.int .i64 ((a:Int) + 1)))):=⟨(ha3.block _ (blk_lt HW.out.1) hRN).trans HW.out.1,(ha3.block _ (blk_lt HW.out.2.1) hRT).trans HW.out.2.1,HW.out.2.2.trans ha3 (fun _ _ h => h)⟩
    have HR3:=Lib.hid hr3
    have HSp:=Lib.hid hsp
    have HWl:=Lib.hid hwl
    have f5:(a:Int) + 1 ≤ 140737488351232:=by have:=HSz.out;have:=HS.out;omega
    have f6:(0:Int) ≤ (a:Int) + 1:=by omega
    have e9:(ByteArray.mk wd.toArray).size = wd.length:=by show wd.toArray.size = _;simp
    clear hwd hr0 hsp hwl HX HVal HRf HF hr3 ha3 HW HR2 z0 z1 z2 z3 z4 zf0 zf1 zf2 zf3 zf4 q3
    go_wp2_with fail
    refine HRw.out.mono ?_
    rintro e w4 ⟨rfl,hb4⟩
    go_wp2_with fail
    refine (HFl.out _).mono ?_
    rintro e w5 ⟨hm,hb5⟩
    have hr5:=(HR3.out.on hb4).on hb5
    have hb45:=hb4.trans (hb5.mono hb4.size)
    have hz5:=blk_on HW3.out.1 hb45 (blk_lt HW3.out.1)
    have hn5:=blk_on HW3.out.2.1 hb45 (blk_lt HW3.out.2.1)
    have ha5:=HW3.out.2.2.trans (aside_new hb45 (fun i => i = R)) (fun _ _ h => h)
    have ea:((S.size - t.length:Nat):Int) = (a:Int) + 1:=by have:=HSz.out;omega
    have c5:w5.cell? ⟨R,1,none⟩ = some (.int .i64 ((a:Int) + 1)):=by rw [← ea];exact hr5.cell 1
    have t5:=hr5.thawed 1
    have hl5:w.heap.size + 1 < w5.heap.size:=blk_lt hn5
    have HR5:=Lib.hid hr5
    have HW5:Hid (w5.heap[w.heap.size]? = some (.cells zero5 36 (0,0)) ∧ w5.heap[w.heap.size + 1]? = some (.cells zero5 36 (0,0)) ∧ Aside (fun j => j = R) w w5):=⟨hz5,hn5,ha5⟩
    have HEa:=Lib.hid ea
    clear hb4 hb5 hb45 hz5 hn5 ha5 hr5 HRw HFl HW3 HR3 c2 t2 ea
    cases hrf:rf wd with
    | none =>
     rw [hrf] at hm HXe
     have hm:e = .returned (.tuple #[.float .f64 0,.int .i64 11]):=hm
     have HXe:Hid (X = .error (5,t.length)):=HXe
     subst hm
     have HF:=Lib.hid (refFail21 HR5.out 5 t.length (by decide))
     rw [HEa.out] at HF
     clear hrf
     go_wp2_with fail
     refine HF.out.mono ?_
     rintro e w9 ⟨rfl,hb9,ha9⟩
     have hz9:=(ha9.block _ (blk_lt HW5.out.1) hRN).trans HW5.out.1
     have hn9:=(ha9.block _ (blk_lt HW5.out.2.1) hRT).trans HW5.out.2.1
     have HFin:=Lib.hid (val_fin (k:=0) (i:=0) (b:=0) (t:=⟨#[]⟩) (p:=none) (n:=0) (c:=0) (X:=.error (5,t.length)) HRl.out hz9 rfl hb9 (HW5.out.2.2.trans ha9 (fun _ _ h => h)) (fun v l hc => by cases hc))
     have y0:w9.cell? ⟨w.heap.size + 1,0,none⟩ = some (.int .i64 0):=blk_cell hn9 0
     have y1:w9.cell? ⟨w.heap.size + 1,1,none⟩ = some (.int .i64 0):=blk_cell hn9 1
     have y2:w9.cell? ⟨w.heap.size + 1,2,none⟩ = some (.float .f64 0):=blk_cell hn9 2
     have y3:w9.cell? ⟨w.heap.size + 1,3,none⟩ = some (.string ⟨#[]⟩):=blk_cell hn9 3
     have y4:w9.cell? ⟨w.heap.size + 1,4,none⟩ = some (.slice none 0 0):=blk_cell hn9 4
     have z0:w9.cell? ⟨w.heap.size,0,none⟩ = some (.int .i64 0):=blk_cell hz9 0
     have zf0:=blk_free hz9 0
     have z1:w9.cell? ⟨w.heap.size,1,none⟩ = some (.int .i64 0):=blk_cell hz9 1
     have zf1:=blk_free hz9 1
     have z2:w9.cell? ⟨w.heap.size,2,none⟩ = some (.float .f64 0):=blk_cell hz9 2
     have zf2:=blk_free hz9 2
     have z3:w9.cell? ⟨w.heap.size,3,none⟩ = some (.string ⟨#[]⟩):=blk_cell hz9 3
     have zf3:=blk_free hz9 3
     have z4:w9.cell? ⟨w.heap.size,4,none⟩ = some (.slice none 0 0):=blk_cell hz9 4
     have zf4:=blk_free hz9 4
     clear hb9 ha9 hz9 hn9 HF c5 t5 HW5 HR5 HSp HWl HS HSz
     go_wp2
     refine bodyPost_ret (v:=.agg (cells5 0 0 0 ⟨#[]⟩ none 0 0)) (results_cell_row rfl _ _ w.heap.size _ _ _ _ rfl HFin.out.1 Tryz.underlying36 rfl (by kernel_rfl)) rfl ?_
     rw [HXe.out]
     exact HFin.out.2
    | some b =>
     rw [hrf] at hm HXe
     have hm:e = .returned (.tuple #[.float .f64 b,.int .i64 0]):=hm
     have HXe:Hid (X = .ok (⟨3,0,b,⟨#[]⟩,[]⟩,r0)):=HXe
     subst hm
     have hst:=HR5.out.step wd.length HWl.out ((a:Int) + 1 + (wd.length:Int)) (by rw [HEa.out])
     rw [show t.drop wd.length = r0 by rw [HSp.out,List.drop_left]] at hst
     obtain ⟨hr6,ha6⟩:=hst
     have f5':(a:Int) + 1 + (wd.length:Int) ≤ 140737488351232:=by have:=HSz.out;have:=HS.out;have:=HWl.out;omega
     have f6':(0:Int) ≤ (a:Int) + 1 + (wd.length:Int):=by omega
     have HFin:=Lib.hid (val_fin (k:=3) (i:=0) (b:=b) (t:=⟨#[]⟩) (p:=none) (n:=0) (c:=0) (X:=.ok (⟨3,0,b,⟨#[]⟩,[]⟩,r0)) HRl.out ((ha6.block _ (by omega) hRN).trans HW5.out.1) rfl hr6 (HW5.out.2.2.trans ha6 (fun _ _ h => h)) (fun v l hc => by cases hc;exact ⟨fun _ => False,.none,fun _ h => h.elim⟩))
     have hz5:=HW5.out.1
     have z0:w5.cell? ⟨w.heap.size,0,none⟩ = some (.int .i64 0):=blk_cell hz5 0
     have zf0:=blk_free hz5 0
     have z1:w5.cell? ⟨w.heap.size,1,none⟩ = some (.int .i64 0):=blk_cell hz5 1
     have zf1:=blk_free hz5 1
     have z2:w5.cell? ⟨w.heap.size,2,none⟩ = some (.float .f64 0):=blk_cell hz5 2
     have zf2:=blk_free hz5 2
     have z3:w5.cell? ⟨w.heap.size,3,none⟩ = some (.string ⟨#[]⟩):=blk_cell hz5 3
     have zf3:=blk_free hz5 3
     have z4:w5.cell? ⟨w.heap.size,4,none⟩ = some (.slice none 0 0):=blk_cell hz5 4
     have zf4:=blk_free hz5 4
     clear hrf hr6 ha6 hz5 HSp HWl HW5 HR5
     go_wp2
     refine bodyPost_ret (v:=.agg (cells5 3 0 b ⟨#[]⟩ none 0 0)) (results_cell_row rfl _ _ w.heap.size _ _ _ _ rfl HFin.out.1 Tryz.underlying36 rfl (by kernel_rfl)) rfl ?_
     rw [HXe.out]
     exact HFin.out.2
   have g126:((c.toNat:Int) == 126) = false:=HE9.out 126 q3
   have N3:=Lib.hid q3
   clear q3
   by_cases q4:c = 34
   ·have g34:((c.toNat:Int) == 34) = true:=by rw [q4];rfl
    have HXe:Hid (X = andP (Tx.pq c t) fun x r => .ok (⟨4,0,0,⟨x.toArray⟩,[]⟩,r)):=by
     show X = _
     rw [HX.out,pval_at,if_neg N1.out,if_neg N2.out,if_neg N3.out,if_pos q4,q4]
     rfl
    have HQ:=Lib.hid (refQuo21 c c t w3 R S HR2.out)
    generalize Tx.pq c t = Y at HXe HQ
    clear HX HVal HRf HF HR2 q4 z0 z1 z2 z3 z4 zf0 zf1 zf2 zf3 zf4 c2 t2
    go_wp2_with fail
    refine HQ.out.mono ?_
    rintro e w9 ⟨T9,rfl,hy9,hT9,ha9⟩
    have hz9:=(ha9.block _ (blk_lt HW.out.1) hRN).trans HW.out.1
    have hyX:RdY21 w9 R S X ∧ ∀ v l,X = .ok (v,l) → v = ⟨4,0,0,T9,[]⟩:=by
     rw [HXe.out]
     match Y,hy9,hT9 with
     | .error (e,m),h1,_ => exact ⟨h1,fun v l hc => by cases hc⟩
     | .ok (x,r),h1,h2 => exact ⟨h1,fun v l hc => by cases hc;rw [h2 x r rfl]⟩
    have HFin:=Lib.hid (val_fin (k:=4) (i:=0) (b:=0) (t:=T9) (p:=none) (n:=0) (c:=0) (X:=X) HRl.out hz9 rfl hyX.1 (HW.out.2.2.trans ha9 (fun _ _ h => h)) (fun v l hc => by rw [hyX.2 v l hc];exact ⟨fun _ => False,.none,fun _ h => h.elim⟩))
    have z0:w9.cell? ⟨w.heap.size,0,none⟩ = some (.int .i64 0):=blk_cell hz9 0
    have zf0:=blk_free hz9 0
    have z1:w9.cell? ⟨w.heap.size,1,none⟩ = some (.int .i64 0):=blk_cell hz9 1
    have zf1:=blk_free hz9 1
    have z2:w9.cell? ⟨w.heap.size,2,none⟩ = some (.float .f64 0):=blk_cell hz9 2
    have zf2:=blk_free hz9 2
    have z3:w9.cell? ⟨w.heap.size,3,none⟩ = some (.string ⟨#[]⟩):=blk_cell hz9 3
    have zf3:=blk_free hz9 3
    have z4:w9.cell? ⟨w.heap.size,4,none⟩ = some (.slice none 0 0):=blk_cell hz9 4
    have zf4:=blk_free hz9 4
    clear hyX hy9 hT9 ha9 hz9 HQ HW HXe
    go_wp2
    refine bodyPost_ret (v:=.agg (cells5 4 0 0 T9 none 0 0)) (results_cell_row rfl _ _ w.heap.size _ _ _ _ rfl HFin.out.1 Tryz.underlying36 rfl (by kernel_rfl)) rfl ?_
    exact HFin.out.2
   have g34:((c.toNat:Int) == 34) = false:=HE9.out 34 q4
   have N4:=Lib.hid q4
   clear q4
   by_cases q5:c = 39
   ·have g39:((c.toNat:Int) == 39) = true:=by rw [q5];rfl
    have HXe:Hid (X = andP (Tx.pq c t) fun x r => .ok (⟨5,0,0,⟨x.toArray⟩,[]⟩,r)):=by
     show X = _
     rw [HX.out,pval_at,if_neg N1.out,if_neg N2.out,if_neg N3.out,if_neg N4.out,if_pos q5,q5]
     rfl
    have HQ:=Lib.hid (refQuo21 c c t w3 R S HR2.out)
    generalize Tx.pq c t = Y at HXe HQ
    clear HX HVal HRf HF HR2 q5 z0 z1 z2 z3 z4 zf0 zf1 zf2 zf3 zf4 c2 t2
    go_wp2_with fail
    refine HQ.out.mono ?_
    rintro e w9 ⟨T9,rfl,hy9,hT9,ha9⟩
    have hz9:=(ha9.block _ (blk_lt HW.out.1) hRN).trans HW.out.1
    have hyX:RdY21 w9 R S X ∧ ∀ v l,X = .ok (v,l) → v = ⟨5,0,0,T9,[]⟩:=by
     rw [HXe.out]
     match Y,hy9,hT9 with
     | .error (e,m),h1,_ => exact ⟨h1,fun v l hc => by cases hc⟩
     | .ok (x,r),h1,h2 => exact ⟨h1,fun v l hc => by cases hc;rw [h2 x r rfl]⟩
    have HFin:=Lib.hid (val_fin (k:=5) (i:=0) (b:=0) (t:=T9) (p:=none) (n:=0) (c:=0) (X:=X) HRl.out hz9 rfl hyX.1 (HW.out.2.2.trans ha9 (fun _ _ h => h)) (fun v l hc => by rw [hyX.2 v l hc];exact ⟨fun _ => False,.none,fun _ h => h.elim⟩))
    have z0:w9.cell? ⟨w.heap.size,0,none⟩ = some (.int .i64 0):=blk_cell hz9 0
    have zf0:=blk_free hz9 0
    have z1:w9.cell? ⟨w.heap.size,1,none⟩ = some (.int .i64 0):=blk_cell hz9 1
    have zf1:=blk_free hz9 1
    have z2:w9.cell? ⟨w.heap.size,2,none⟩ = some (.float .f64 0):=blk_cell hz9 2
    have zf2:=blk_free hz9 2
    have z3:w9.cell? ⟨w.heap.size,3,none⟩ = some (.string ⟨#[]⟩):=blk_cell hz9 3
    have zf3:=blk_free hz9 3
    have z4:w9.cell? ⟨w.heap.size,4,none⟩ = some (.slice none 0 0):=blk_cell hz9 4
    have zf4:=blk_free hz9 4
    clear hyX hy9 hT9 ha9 hz9 HQ HW HXe
    go_wp2
    refine bodyPost_ret (v:=.agg (cells5 5 0 0 T9 none 0 0)) (results_cell_row rfl _ _ w.heap.size _ _ _ _ rfl HFin.out.1 Tryz.underlying36 rfl (by kernel_rfl)) rfl ?_
    exact HFin.out.2
   have g39:((c.toNat:Int) == 39) = false:=HE9.out 39 q5
   have N5:=Lib.hid q5
   clear q5
   by_cases q6:c = 91
   ·have g91:((c.toNat:Int) == 91) = true:=by rw [q6];rfl
    have HXe:Hid (X = if t.head? = some 93 then .ok (⟨7,0,0,⟨#[]⟩,[]⟩,t.tail) else lsq [] (Tx.pits (Tx.pval rf f) (t.length + 1) t)):=by
     show X = _
     rw [HX.out,Tx.pval,if_neg N1.out,if_neg N2.out,if_neg N3.out,if_neg N4.out,if_neg N5.out,if_pos q6]
     rfl
    have HCa:=Lib.hid (refList21 HR2.out f d HD4.out HS.out (fun l x r h => pval_short HRf.out f l x r h) HVal.out)
    obtain ⟨Y,hY⟩:∃ Y,Y = (if t.head? = some 93 then .ok (⟨7,0,0,⟨#[]⟩,[]⟩,t.tail) else lsq [] (Tx.pits (Tx.pval rf f) (t.length + 1) t):Tx.R (V × Tx.Bs)):=⟨_,rfl⟩
    rw [← hY] at HXe HCa
    clear hY HX HVal HRf HF HR2 q6 z0 z1 z2 z3 z4 zf0 zf1 zf2 zf3 zf4 c2 t2
    go_wp2_with fail
    refine HCa.out.mono ?_
    rintro e w9 ⟨k,i,b,t9,p,n,c9,rfl,hrd9,ha9,hown9⟩
    have hz9:=(ha9.block _ (blk_lt HW.out.1) hRN).trans HW.out.1
    have HFin:=Lib.hid (val_fin (k:=k) (i:=i) (b:=b) (t:=t9) (p:=p) (n:=n) (c:=c9) (X:=Y) HRl.out hz9 rfl hrd9 (HW.out.2.2.trans ha9 (fun _ _ h => h)) (Val21.wide (blk_lt HW.out.2.1) hown9))
    have z0:w9.cell? ⟨w.heap.size,0,none⟩ = some (.int .i64 0):=blk_cell hz9 0
    have zf0:=blk_free hz9 0
    have z1:w9.cell? ⟨w.heap.size,1,none⟩ = some (.int .i64 0):=blk_cell hz9 1
    have zf1:=blk_free hz9 1
    have z2:w9.cell? ⟨w.heap.size,2,none⟩ = some (.float .f64 0):=blk_cell hz9 2
    have zf2:=blk_free hz9 2
    have z3:w9.cell? ⟨w.heap.size,3,none⟩ = some (.string ⟨#[]⟩):=blk_cell hz9 3
    have zf3:=blk_free hz9 3
    have z4:w9.cell? ⟨w.heap.size,4,none⟩ = some (.slice none 0 0):=blk_cell hz9 4
    have zf4:=blk_free hz9 4
    clear hrd9 ha9 hown9 hz9 HCa HW
    go_wp2
    refine bodyPost_ret (v:=.agg (cells5 k i b t9 p n c9)) (results_cell_row rfl _ _ w.heap.size _ _ _ _ rfl HFin.out.1 Tryz.underlying36 rfl (by kernel_rfl)) rfl ?_
    rw [HXe.out]
    exact HFin.out.2
   have g91:((c.toNat:Int) == 91) = false:=HE9.out 91 q6
   have HXe:Hid (X = .error (5,(c :: t).length)):=by
    show X = _
    rw [HX.out,Tx.pval,if_neg N1.out,if_neg N2.out,if_neg N3.out,if_neg N4.out,if_neg N5.out,if_neg q6]
    rfl
   clear HX HVal HRf HR2 q6 z0 z1 z2 z3 z4 zf0 zf1 zf2 zf3 zf4
   go_wp2_with fail
   refine HF.out.mono ?_
   rintro e w9 ⟨rfl,hb9,ha9⟩
   have hz9:=(ha9.block _ (blk_lt HW.out.1) hRN).trans HW.out.1
   have hn9:=(ha9.block _ (blk_lt HW.out.2.1) hRT).trans HW.out.2.1
   have HFin:=Lib.hid (val_fin (k:=0) (i:=0) (b:=0) (t:=⟨#[]⟩) (p:=none) (n:=0) (c:=0) (X:=.error (5,(c :: t).length)) HRl.out hz9 rfl hb9 (HW.out.2.2.trans ha9 (fun _ _ h => h)) (fun v l hc => by cases hc))
   have y0:w9.cell? ⟨w.heap.size + 1,0,none⟩ = some (.int .i64 0):=blk_cell hn9 0
   have y1:w9.cell? ⟨w.heap.size + 1,1,none⟩ = some (.int .i64 0):=blk_cell hn9 1
   have y2:w9.cell? ⟨w.heap.size + 1,2,none⟩ = some (.float .f64 0):=blk_cell hn9 2
   have y3:w9.cell? ⟨w.heap.size + 1,3,none⟩ = some (.string ⟨#[]⟩):=blk_cell hn9 3
   have y4:w9.cell? ⟨w.heap.size + 1,4,none⟩ = some (.slice none 0 0):=blk_cell hn9 4
   have z0:w9.cell? ⟨w.heap.size,0,none⟩ = some (.int .i64 0):=blk_cell hz9 0
   have zf0:=blk_free hz9 0
   have z1:w9.cell? ⟨w.heap.size,1,none⟩ = some (.int .i64 0):=blk_cell hz9 1
   have zf1:=blk_free hz9 1
   have z2:w9.cell? ⟨w.heap.size,2,none⟩ = some (.float .f64 0):=blk_cell hz9 2
   have zf2:=blk_free hz9 2
   have z3:w9.cell? ⟨w.heap.size,3,none⟩ = some (.string ⟨#[]⟩):=blk_cell hz9 3
   have zf3:=blk_free hz9 3
   have z4:w9.cell? ⟨w.heap.size,4,none⟩ = some (.slice none 0 0):=blk_cell hz9 4
   have zf4:=blk_free hz9 4
   clear hb9 ha9 hz9 hn9 HF c2 t2 HW HS HSz
   go_wp2
   refine bodyPost_ret (v:=.agg (cells5 0 0 0 ⟨#[]⟩ none 0 0)) (results_cell_row rfl _ _ w.heap.size _ _ _ _ rfl HFin.out.1 Tryz.underlying36 rfl (by kernel_rfl)) rfl ?_
   rw [HXe.out]
   exact HFin.out.2
end Go.Proofs.YtllbniljgcgbeaaGreatDoor
namespace Go.Proofs.YtllbniljgcgbeaaGreatDoor
open Go.RowKit
attribute [local go_sem] run_store_float
end Go.Proofs.YtllbniljgcgbeaaGreatDoor
namespace Go.Proofs.YtllbniljgcgbeaaGreatDoor
open Go.RowKit
attribute [local go_sem] run_store_float
theorem pseq_at {α:Type} (p:Tx.Bs → Tx.R (α × Tx.Bs)) (m:Nat) (l:Tx.Bs):Tx.pseq p (m + 1) l = andP (p l) fun x r => if r.head? = some 44 then andM (Tx.must [44,32] r) fun r => andP (Tx.pseq p m r) fun xs r => .ok (x :: xs,r) else .ok ([x],r):=by
 rw [Tx.pseq]
 cases p l with
 | error e => rfl
 | ok y =>
  obtain ⟨x,r⟩:=y
  show _ = if r.head? = some 44 then _ else _
  by_cases h:r.head? = some 44
  ·simp only [h,if_true]
   generalize Tx.must [44,32] r = G
   cases G with
   | error e => rfl
   | ok r =>
    show (match Tx.pseq p m r with
     | .error e => .error e
     | .ok (xs,r) => .ok (x :: xs,r)) = andP (Tx.pseq p m r) _
    generalize Tx.pseq p m r = H
    cases H with
    | error e => rfl
    | ok y => rfl
  ·simp only [h,if_false]
def lcat {α:Type} (ys:List α) (y:Tx.R (List α × Tx.Bs)):Tx.R (List α × Tx.Bs):=andP y fun xs r => .ok (ys ++ xs,r)
theorem lcat_cons {α:Type} (ys:List α) (x:α) (y:Tx.R (List α × Tx.Bs)):lcat (ys ++ [x]) y = lcat ys (andP y fun xs r => .ok (x :: xs,r)):=by
 match y with
 | .error e => rfl
 | .ok (xs,r) =>
  show Except.ok (ys ++ [x] ++ xs,r) = Except.ok (ys ++ x :: xs,r)
  simp
theorem lcat_nil {α:Type} (y:Tx.R (List α × Tx.Bs)):lcat [] y = y:=by
 match y with
 | .error e => rfl
 | .ok (xs,r) => rfl
theorem built_items {w:World} {B:Nat} {q:Option Addr} {n c:Nat} {us:Nat → Array Value} {Fs:Nat → Nat → Prop} {xs:List V} (h:Built w B (.slice q n c) n us Fs xs) (hl:n * 64 ≤ 140737488351232):Items w q xs:=by
 obtain ⟨p2,c2,hv2,hown⟩:=h.done hl 7 0 0 ⟨#[]⟩
 injection hv2 with h1 h2 h3
 obtain ⟨p3,c3,hu3,-,-,hi⟩:=hown.lies.open
 unfold cells5 at hu3
 simp at hu3
 rw [← hu3.1,← h1] at hi
 exact hi
def RowA21 (T:Except (Nat × Nat) (List V)) (w:World) (e:Ending) (w':World):Prop:=∃ q c,e = .returned (.tuple #[.agg #[.slice q (thOf [] T).length c],.int .i64 (errOf T:Nat),.int .i64 (plOf T:Nat)]) ∧ Items w' q (thOf [] T) ∧ (thOf [] T).length * 64 ≤ 140737488351232 ∧ Below w.heap.size w w'
theorem RowA21.of {T:Except (Nat × Nat) (List V)} {w w':World} {q:Option Addr} {n c:Nat} (hn:(thOf [] T).length = n) (hi:Items w' q (thOf [] T)) (hl:n * 64 ≤ 140737488351232) (hb:Below w.heap.size w w'):RowA21 T w (.returned (.tuple #[.agg #[.slice q n c],.int .i64 (errOf T:Nat),.int .i64 (plOf T:Nat)])) w':=by
 subst hn
 exact ⟨q,c,rfl,hi,hl,hb⟩
structure LstR (w wr:World) (q:Option Addr) (n c:Nat):Prop where
 z:wr.heap[w.heap.size]? = some (.cells #[.slice none 0 0] 44 (0,0))
 t:wr.heap[w.heap.size + 2]? = some (.cells #[.slice q n c] 44 (0,0))
 b:Below w.heap.size w wr
theorem LstR.step {w wr wx:World} {q:Option Addr} {n c:Nat} (h:LstR w wr q n c) (ha:Aside (fun j => j = w.heap.size + 1) wr wx):LstR w wx q n c :=
 ⟨(ha.block _ (blk_lt h.z) (by omega)).trans h.z,(ha.block _ (blk_lt h.t) (by omega)).trans h.t,h.b.trans (ha.below h.b.size (fun k hk he => by omega))⟩
theorem LstR.on {w wr wx:World} {q:Option Addr} {n c:Nat} (h:LstR w wr q n c) (hb:Below wr.heap.size wr wx):LstR w wx q n c:=h.step (aside_new hb _)
theorem moreR {w wr w3:World} {q:Option Addr} {c:Nat} {ys:List V} {us:Nat → Array Value} {Fs:Nat → Nat → Prop} {u:Array Value} (h:LstR w wr q ys.length c) (hbt:Built wr (w.heap.size + 3) (.slice q ys.length c) ys.length us Fs ys) (ha:Aside (fun j => j = w.heap.size + 1) wr w3) :
  ((w3.alloc (.cells u 36)).alloc (.cells u 36)).ownsRow (w.heap.size + 3) 36 5 (.slice q ys.length c) ys.length (flat us ys.length) ∧
  ∀ g cap w6,w6.ownsRow (w.heap.size + 3) 36 5 (.slice (some ⟨g,0,none⟩) (ys.length + 1) cap) (ys.length + 1) (flat us ys.length ++ u.toList) → ((w3.alloc (.cells u 36)).alloc (.cells u 36)).grownBy w6 (Value.ownBlock (.slice q ys.length c)) → (Value.ownBlock (.slice q ys.length c) = some g ∨ g = w3.heap.size + 2) →
   w6.heap[w.heap.size + 2]? = some (.cells #[.slice q ys.length c] 44 (0,0)) ∧ (∀ (S:ByteArray) (x:Tx.R (V × Tx.Bs)),RdY21 w3 (w.heap.size + 1) S x → RdY21 w6 (w.heap.size + 1) S x ∧ RdY21 (w6.setCell ⟨w.heap.size + 2,0,none⟩ (.slice (some ⟨g,0,none⟩) (ys.length + 1) cap)) (w.heap.size + 1) S x) ∧
   LstR w (w6.setCell ⟨w.heap.size + 2,0,none⟩ (.slice (some ⟨g,0,none⟩) (ys.length + 1) cap)) (some ⟨g,0,none⟩) (ys.length + 1) cap ∧
   ∀ x,VOwn w3 (fun k => wr.heap.size ≤ k ∧ k < w3.heap.size) u x → ∃ us' Fs',Built (w6.setCell ⟨w.heap.size + 2,0,none⟩ (.slice (some ⟨g,0,none⟩) (ys.length + 1) cap)) (w.heap.size + 3) (.slice (some ⟨g,0,none⟩) (ys.length + 1) cap) (ys.length + 1) us' Fs' (ys ++ [x]):=by
 have hT:=blk_lt h.t
 have hs3:=ha.size
 have hb4:Below w3.heap.size w3 (w3.alloc (.cells u 36)):=(Below.refl _ _).alloc (Nat.le_refl _) _
 have hb5:Below w3.heap.size w3 ((w3.alloc (.cells u 36)).alloc (.cells u 36)):=hb4.alloc (by simp) _
 obtain ⟨wx,hx1,hx2,hx3⟩:=ha.split (by omega)
 have hlt:=hbt.lt
 have hbx:Built wx (w.heap.size + 3) (.slice q ys.length c) ys.length us Fs ys:=hbt.aside hx1 (fun g hg he => by have:=(hlt g hg).1;omega) (fun j hj k hk he => by have:=(hbt.range j hj k hk).1;omega)
 refine ⟨((hbx.on hx3).on hb5).row,fun g cap w6 hr hg hn => ?_⟩
 have hag:Aside (fun k => Value.ownBlock (.slice q ys.length c) = some k) w3 w6:=(aside_new hb5 _).trans (aside_grew hg) (fun _ _ h => h)
 have hs6:=hag.size
 have a7:Aside (fun k => k = w.heap.size + 2) w6 (w6.setCell ⟨w.heap.size + 2,0,none⟩ (.slice (some ⟨g,0,none⟩) (ys.length + 1) cap)):=(Aside.refl (fun k => k = w.heap.size + 2) w6).setCell (p:=⟨w.heap.size + 2,0,none⟩) (.inl rfl) _
 have keep:∀ k,k < w.heap.size + 3 → k ≠ w.heap.size + 1 → w6.heap[k]? = wr.heap[k]?:=fun k hk hne => by
  rw [hag.block k (by omega) (fun hc => by have:=(hlt k hc).1;omega),ha.block k (by omega) hne]
 have ht6:w6.heap[w.heap.size + 2]? = some (.cells #[.slice q ys.length c] 44 (0,0)):=(keep _ (by omega) (by omega)).trans h.t
 have hz6:=(keep w.heap.size (by omega) (by omega)).trans h.z
 have hw6:Below w.heap.size w w6:=(h.b.trans (ha.below h.b.size (fun k hk he => by omega))).trans (hag.below (by have:=h.b.size;omega) (fun k hk hc => by have:=(hlt k hc).1;omega))
 refine ⟨ht6,fun S x hx => ?_,⟨(a7.block _ (by omega) (by omega)).trans hz6,by rw [blk_set ht6 0];rfl,hw6.trans (a7.below (by omega) (fun k hk he => by omega))⟩,fun x hx => ?_⟩
 ·have h6:=hx.aside hag (fun hc => by have:=(hlt _ hc).1;omega)
  exact ⟨h6,h6.aside a7 (by omega)⟩
 ·have hst:=hbx.step hx3 hx (fun k hk => ⟨by rw [hx2];exact hk.1,hk.2⟩) hb5 (by rw [hx2];omega) hr hg (by
   rcases hn with hn | hn
   ·exact .inl hn
   ·exact .inr (by rw [hn];simp))
  exact ⟨_,_,hst.set ⟨w.heap.size + 2,0,none⟩ _ (by show w.heap.size + 2 < _;omega)⟩
theorem refParseRow21 {rf:Tx.Bs → Option Nat} (hRf:RfOk rf) (S:ByteArray) (hS:S.size ≤ 1099511627776) (w:World):Calls Tryz.prog 14 #[.string S] w (RowA21 (tellR S (prow rf S.data.toList) rowErr) w):=by
 obtain ⟨W0,hW0⟩:∃ W,W = w.alloc (.cells #[.slice none 0 0] 44):=⟨_,rfl⟩
 obtain ⟨W1,hW1⟩:∃ W,W = W0.alloc (.cells #[.string S,.int .i64 0,.int .i64 0,.int .i64 0] 61):=⟨_,rfl⟩
 obtain ⟨W2,hW2⟩:∃ W,W = W1.alloc (.cells #[.slice none 0 0] 44):=⟨_,rfl⟩
 have hs0:W0.heap.size = w.heap.size + 1:=by rw [hW0];simp
 have hs1:W1.heap.size = w.heap.size + 2:=by rw [hW1];simp [hs0]
 have hR1:Rd21 W1 (w.heap.size + 1) S S.data.toList:=by rw [hW1,← hs0];exact Rd21.made (by omega)
 have hb0:Below w.heap.size w W0:=by rw [hW0];exact (Below.refl _ _).alloc (Nat.le_refl _) _
 have hb2:Below w.heap.size w W2:=by rw [hW2,hW1];exact (hb0.alloc (by omega) _).alloc (by simp;omega) _
 have hb12:Below W1.heap.size W1 W2:=by rw [hW2];exact (Below.refl _ _).alloc (Nat.le_refl _) _
 have hR2:=hR1.on hb12
 have hz2:W2.heap[w.heap.size]? = some (.cells #[.slice none 0 0] 44 (0,0)):=by rw [hW2,blk_old W1 _ (by omega),hW1,blk_old W0 _ (by omega),hW0];exact blk_new w _
 have ht2:W2.heap[w.heap.size + 2]? = some (.cells #[.slice none 0 0] 44 (0,0)):=by rw [hW2,← hs1];exact blk_new W1 _
 have HR2:=Lib.hid hR2
 have HL2:Hid (LstR w W2 none 0 0):=⟨hz2,ht2,hb2⟩
 have HW:Hid (W2 = ((w.alloc (.cells #[.slice none 0 0] 44)).alloc (.cells #[.string S,.int .i64 0,.int .i64 0,.int .i64 0] 61)).alloc (.cells #[.slice none 0 0] 44)):=by show _ = _;rw [hW2,hW1,hW0]
 obtain ⟨Y,hY⟩:∃ Y,Y = prow rf S.data.toList:=⟨_,rfl⟩
 obtain ⟨T,hT⟩:∃ T,T = tellR S Y rowErr:=⟨_,rfl⟩
 rw [← hY,← hT]
 rw [tell_fin] at hT
 have HT:=Lib.hid hT
 have HY:=Lib.hid hY
 have HS:=Lib.hid hS
 have HP:Hid (∀ l x r,Tx.pval rf 4 l = .ok (x,r) → r.length ≤ l.length):=fun l x r h => pval_short hRf 4 l x r h
 have HVa:Hid (∀ w' l',Rd21 w' (w.heap.size + 1) S l' → Calls Tryz.prog 28 #[.pointer (some ⟨w.heap.size + 1,0,none⟩),.int .i64 1] w' (Val21 w' (w.heap.size + 1) S (Tx.pval rf 4 l'))):=fun w' l' h' => refValue21 hRf 4 1 l' (w.heap.size + 1) S w' (by omega) hS h'
 clear hT hY hS hRf hW0 hW1 hW2 hs0 hs1 hR1 hb0 hb2 hb12 hR2 hz2 ht2
 have hRT:¬ w.heap.size + 2 = w.heap.size + 1:=by omega
 have hRT2:¬ w.heap.size + 1 = w.heap.size + 2:=by omega
 have hTN:¬ w.heap.size + 2 = w.heap.size:=by omega
 have hTN2:¬ w.heap.size = w.heap.size + 2:=by omega
 have hRN:¬ w.heap.size + 1 = w.heap.size:=by omega
 have hRN2:¬ w.heap.size = w.heap.size + 1:=by omega
 go_enter Tryz.func14,Tryz.ntmps14
 go_wp2_with fail
 rw [← HW.out]
 go_loopw [] (fun wr => ∃ (q:Option Addr) (n c:Nat),Hid (LstR w wr q n c) ∧ (Hid (∃ (ys:List V) (l:Tx.Bs) (m:Nat),n = ys.length ∧ (∃ us Fs,Built wr (w.heap.size + 3) (.slice q n c) n us Fs ys) ∧ Rd21 wr (w.heap.size + 1) S l ∧ l.length < m ∧ ys.length + l.length ≤ S.size ∧ (S.data.toList ≠ [] → Y = lcat ys (Tx.pseq (Tx.pval rf 4) m l))) ∨ Hid (∃ e k,S.data.toList ≠ [] ∧ Bad21 wr (w.heap.size + 1) S e k ∧ Y = .error (e,k)))) (fun wr => msr21 wr (w.heap.size + 1) S)
 case atStart =>
  refine ⟨none,0,0,HL2,.inl ⟨[],S.data.toList,S.data.toList.length + 1,rfl,⟨_,_,built_nil W2 _⟩,HR2.out,by omega,by simp,fun hne => ?_⟩⟩
  rw [HY.out,prow,if_neg hne,lcat_nil]
 case round =>
  obtain ⟨q,n,c,HL,hgb⟩:=hrel
  rcases hgb with HG | HB
  case inr =>
   obtain ⟨ek,en,hne,hb,hx⟩:=HB.out
   have hs1:(S.toList != []) = true:=by rw [Lib.toList_data,bne_iff_ne];exact hne
   have hs2:(S.toList == []) = false:=by rw [Lib.toList_data,beq_eq_false_iff_ne];exact hne
   have c2:=hb.cell2
   have g0:=hb.bad
   have g2:((ek:Int) == 0) = false:=by rw [beq_eq_false_iff_ne];omega
   have g3:(ek == 0) = false:=by rw [beq_eq_false_iff_ne];exact g0
   have HBd:=Lib.hid hb
   have HYe:=Lib.hid hx
   have hy:RdY21 wr (w.heap.size + 1) S Y:=by rw [HYe.out];exact HBd.out
   have HEnd:=Lib.hid (refEnd21 Y hy)
   have HT2:Hid (T = .error (ek,S.size - en)):=by show _ = _;rw [HT.out,HYe.out];rfl
   rw [HYe.out] at HEnd
   have HL0:=HL
   clear hy
   clear HB hb hx hne g0 HP HVa HL2 HR2 HY HW
   go_wp2_with fail
   refine HEnd.out.mono ?_
   rintro e w4 ⟨rfl,hf,ha4⟩
   have hf:Bad21 w4 (w.heap.size + 1) S ek en:=hf
   have hL4:=HL0.out.step ha4
   obtain ⟨aa,-,hl⟩:=hf.lies
   have c2:w4.cell? ⟨w.heap.size + 1,2,none⟩ = some (.int .i64 (ek:Int)):=blk_cell hl 2
   have c3:w4.cell? ⟨w.heap.size + 1,3,none⟩ = some (.int .i64 ((S.size - en:Nat):Int)):=blk_cell hl 3
   have g1:((ek:Int) != 0) = true:=by have:=hf.bad;rw [bne_iff_ne];omega
   have g2:((ek:Int) == 0) = false:=by have:=hf.bad;rw [beq_eq_false_iff_ne];omega
   have m0:w4.cell? ⟨w.heap.size,0,none⟩ = some (.slice none 0 0):=blk_cell hL4.z 0
   have mf0:=blk_free hL4.z 0
   obtain ⟨sp,hsp⟩:∃ sp:Nat,sp = S.size - en:=⟨_,rfl⟩
   rw [← hsp] at c3
   have HT3:Hid (T = .error (ek,sp)):=by show _ = _;rw [HT2.out,hsp]
   obtain ⟨X,hX⟩:∃ X,X = w4.setCell ⟨w.heap.size,0,none⟩ (.slice none 0 0):=⟨_,rfl⟩
   have HX:Hid (X.drew.heap[w.heap.size]? = some (.cells #[.slice none 0 0] 44 (0,0)) ∧ Below w.heap.size w X.drew):=by
    refine ⟨?_,?_⟩
    ·show X.heap[w.heap.size]? = _
     rw [hX,blk_set hL4.z 0];rfl
    ·rw [hX];exact (hL4.b.setCell (Nat.le_refl _) _).drew
   have HXe2:=Lib.hid hX
   clear hf hl hsp hL4 ha4 hX HT HT2 HEnd
   go_wp2_with fail
   go_region_held3 (fun w' => w'.cell? ⟨w.heap.size + 1,2,none⟩ = some (.int .i64 (ek:Int)) ∧ w'.cell? ⟨w.heap.size + 1,3,none⟩ = some (.int .i64 (sp:Int))) (go_keep) (fail)
   go_wp2
   rw [← HXe2.out]
   refine bodyPost_ret (results_row3 rfl _ _ w.heap.size _ _ _ _ rfl HX.out.1 Tryz.underlying44 rfl (by kernel_rfl)) rfl ?_
   rw [HT3.out]
   exact RowA21.of rfl (fun j hj => by simp [thOf] at hj) (by omega) HX.out.2
  obtain ⟨ys,l,m,hn,⟨us,Fs,hbt⟩,hrd,hlm,hyl,hx⟩:=HG.out
  subst hn
  clear HG HL2 HR2 HW
  by_cases hne:S.data.toList = []
  ·have hs1:(S.toList != []) = false:=by rw [Lib.toList_data,hne];rfl
   have hs2:(S.toList == []) = true:=by rw [Lib.toList_data,hne];rfl
   have hz:S.size = 0:=by have:=congrArg List.length hne;rw [Array.length_toList] at this;exact this
   obtain rfl:ys = []:=List.eq_nil_of_length_eq_zero (by omega)
   obtain rfl:l = []:=List.eq_nil_of_length_eq_zero (by omega)
   have HYe:Hid (Y = .ok ([],[])):=by show Y = _;rw [HY.out,prow,if_pos hne]
   have HRd:=Lib.hid hrd
   have HBt:=Lib.hid hbt
   have HBo:Hid (0 * 64 ≤ 140737488351232):=by show _ ≤ _;omega
   clear hne hz hx hyl hlm hrd hbt HY HP HVa
   obtain ⟨xs,hxs⟩:∃ xs:List V,xs = []:=⟨_,rfl⟩
   have HEnd:=Lib.hid (refEnd21 (.ok (xs,[]):Tx.R (List V × Tx.Bs)) HRd.out)
   rw [show fin21 (.ok (xs,[]):Tx.R (List V × Tx.Bs)) = .ok xs from rfl] at HEnd
   have HT2:Hid (T = if rowErr xs = 0 then .ok xs else .error (rowErr xs,0)):=by show T = _;rw [HT.out,HYe.out,hxs];rfl
   have HL5:Hid (LstR w wr q 0 c):=HL.out
   have HB5:Hid (∃ us Fs,Built wr (w.heap.size + 3) (.slice q 0 c) 0 us Fs xs):=by rw [hxs];exact ⟨us,Fs,HBt.out⟩
   have HN:Hid (xs.length = 0):=by show _ = _;rw [hxs];rfl
   clear hxs HRd HBt HL HT HYe
   go_wp2_with fail
   refine HEnd.out.mono ?_
   rintro e w4 ⟨rfl,hf,ha4⟩
   have hf:Rd21 w4 (w.heap.size + 1) S []:=hf
   have hL4:=HL5.out.step ha4
   have c2:w4.cell? ⟨w.heap.size + 1,2,none⟩ = some (.int .i64 0):=hf.cell 2
   obtain ⟨us4,Fs4,hb0⟩:=HB5.out
   have hbt4:=hb0.aside ha4 (fun g hg he => by have:=(hb0.lt g hg).1;omega) (fun j hj k hk he => by have:=(hb0.range j hj k hk).1;omega)
   have HIt:=Lib.hid (built_items hbt4 HBo.out)
   have y0:w4.cell? ⟨w.heap.size + 2,0,none⟩ = some (.slice q 0 c):=blk_cell hL4.t 0
   have HL4:=Lib.hid hL4
   have HBt4:=Lib.hid hbt4
   clear hf ha4 hL4 hb0 hbt4 HEnd HL5 HB5
   go_wp2_with fail
   go_loopw [62] (fun v wr => ∃ j:Nat,j ≤ 0 ∧ v = .int .i64 (j:Nat) ∧ Hid ((∀ i (h:i < xs.length),i < j → chk 1 xs[i] = 0) ∧ Below w4.heap.size w4 wr)) (fun v _ => 0 - (intOf v).toNat)
   case atStart => exact ⟨0,Nat.zero_le _,rfl,fun i hi hj => by omega,Below.refl _ _⟩
   case round =>
    obtain ⟨j,hj,rfl,HI⟩:=hrel
    by_cases hjn:j < 0
    ·exact absurd hjn (by omega)
    ·have f1:¬ (j:Int) < 0:=by omega
     have HT3:Hid (T = .ok xs):=by
      have e1:rowErr xs = 0:=by
       rw [rowErr_take xs j HI.out.1,List.drop_eq_nil_of_le (by rw [HN.out];omega)]
       rfl
      show T = _
      rw [HT2.out,if_pos e1]
     have hz1:=blk_on HL4.out.z HI.out.2 (blk_lt HL4.out.z)
     have ht1:=blk_on HL4.out.t HI.out.2 (blk_lt HL4.out.t)
     have y1:wr.cell? ⟨w.heap.size + 2,0,none⟩ = some (.slice q 0 c):=blk_cell ht1 0
     have m0:wr.cell? ⟨w.heap.size,0,none⟩ = some (.slice none 0 0):=blk_cell hz1 0
     have mf0:=blk_free hz1 0
     obtain ⟨X,hX⟩:∃ X,X = wr.setCell ⟨w.heap.size,0,none⟩ (.slice q 0 c):=⟨_,rfl⟩
     have HX:Hid (X.heap[w.heap.size]? = some (.cells #[.slice q 0 c] 44 (0,0)) ∧ Below w.heap.size w X ∧ Items X q xs):=by
      refine ⟨by rw [hX,blk_set hz1 0];rfl,?_,?_⟩
      ·rw [hX];exact (HL4.out.b.trans (HI.out.2.mono HL4.out.b.size)).setCell (Nat.le_refl _) _
      ·rw [hX];exact built_items ((HBt4.out.on HI.out.2).set ⟨w.heap.size,0,none⟩ _ (by show w.heap.size < _;omega)) HBo.out
     have HXe2:=Lib.hid hX
     clear hz1 ht1 hX HI y0
     go_wp2
     rw [← HXe2.out]
     refine bodyPost_ret (results_row3 rfl _ _ w.heap.size _ _ _ _ rfl HX.out.1 Tryz.underlying44 rfl (by kernel_rfl)) rfl ?_
     rw [HT3.out]
     exact RowA21.of HN.out HX.out.2.2 HBo.out HX.out.2.1
  have hs1:(S.toList != []) = true:=by rw [Lib.toList_data,bne_iff_ne];exact hne
  have hs2:(S.toList == []) = false:=by rw [Lib.toList_data,beq_eq_false_iff_ne];exact hne
  have c2:wr.cell? ⟨w.heap.size + 1,2,none⟩ = some (.int .i64 0):=hrd.cell 2
  obtain ⟨m,rfl⟩:∃ m',m = m' + 1:=⟨m - 1,by omega⟩
  have HC:=Lib.hid (HVa.out wr l hrd)
  have HMs:Hid (msr21 wr (w.heap.size + 1) S = l.length + 1):=hrd.msr
  obtain ⟨Z,hZ⟩:∃ Z,Z = Tx.pval rf 4 l:=⟨_,rfl⟩
  have HX2:Hid (Y = lcat ys (andP Z fun x r => if r.head? = some 44 then andM (Tx.must [44,32] r) fun r => andP (Tx.pseq (Tx.pval rf 4) m r) fun xs r => .ok (x :: xs,r) else .ok ([x],r))):=by show Y = _;rw [hx hne,pseq_at,← hZ]
  have HLen:Hid (∀ x r,Z = .ok (x,r) → r.length ≤ l.length):=fun x r hc => HP.out l x r (hZ.symm.trans hc)
  rw [← hZ] at HC
  have HBt:=Lib.hid hbt
  have HLm:=Lib.hid hlm
  have HYl:=Lib.hid hyl
  have HNe:=Lib.hid hne
  clear hrd hx hZ hbt hlm hyl hne
  go_wp2_with fail
  refine HC.out.mono ?_
  rintro e w3 ⟨k,i,b,t3,p,n,c3,rfl,hrd3,ha3,hown3⟩
  have hM:=moreR (u:=#[.int .i64 k,.int .i64 i,.float .f64 b,.string t3,.slice p n c3]) HL.out HBt.out ha3
  have hT3:w3.heap[w.heap.size + 2]? = some (.cells #[.slice q ys.length c] 44 (0,0)):=(ha3.block _ (blk_lt HL.out.t) hRT).trans HL.out.t
  have x0:w3.cell? ⟨w.heap.size + 2,0,none⟩ = some (.slice q ys.length c):=blk_cell hT3 0
  have hl3:w.heap.size + 2 < w3.heap.size:=blk_lt hT3
  have hl3':¬ w.heap.size + 2 = w3.heap.size:=by omega
  have hl3'':¬ w3.heap.size = w.heap.size + 2:=by omega
  have HRow:=Lib.hid hM.1
  have HNx:=Lib.hid hM.2
  have HRd3:=Lib.hid hrd3
  have HOw:=Lib.hid hown3
  have hsz:(ys.length + 1) * 64 ≤ 140737488355328:=by have:=HYl.out;have:=HS.out;omega
  have hbs:w.heap.size + 3 ≤ ((w3.alloc (.cells #[.int .i64 k,.int .i64 i,.float .f64 b,.string t3,.slice p n c3] 36)).alloc (.cells #[.int .i64 k,.int .i64 i,.float .f64 b,.string t3,.slice p n c3] 36)).heap.size:=by simp;omega
  have hnb:((w3.alloc (.cells #[.int .i64 k,.int .i64 i,.float .f64 b,.string t3,.slice p n c3] 36)).alloc (.cells #[.int .i64 k,.int .i64 i,.float .f64 b,.string t3,.slice p n c3] 36)).heap[w3.heap.size + 1]? = some (.cells #[.int .i64 k,.int .i64 i,.float .f64 b,.string t3,.slice p n c3] 36 (0,0)):=by have:=blk_new (w3.alloc (.cells #[.int .i64 k,.int .i64 i,.float .f64 b,.string t3,.slice p n c3] 36)) (.cells #[.int .i64 k,.int .i64 i,.float .f64 b,.string t3,.slice p n c3] 36);simpa using this
  have HSz:=Lib.hid hsz
  have HBs:=Lib.hid hbs
  have HNb:=Lib.hid hnb
  clear hM hrd3 hown3 hT3 HC c2 hsz hbs hnb ha3 HBt HL
  cases Z with
  | error er =>
   obtain ⟨ek,en⟩:=er
   have HYe:Hid (Y = .error (ek,en)):=HX2.out
   have g0:ek ≠ 0:=Bad21.bad HRd3.out
   have g2:((ek:Int) != 0) = true:=by rw [bne_iff_ne];omega
   have g3:(ek != 0) = true:=by rw [bne_iff_ne];exact g0
   clear HX2 g0 HLen
   go_wp2_with (at_builtin;refine wp_more (B:=w.heap.size + 3) (us:=us) (v:=.slice q ys.length c) (n:=ys.length) HRow.out (u:=#[.int .i64 k,.int .i64 i,.float .f64 b,.string t3,.slice p n c3]) rfl (one5c _ _ _ _ _ _ _) (ad:=w3.heap.size + 1) HNb.out HSz.out HBs.out (H:=w3.heap.size + 2) (by simp) rfl rfl rfl rfl ?_;intro g cap w6 hr6 hg6 hn6;obtain ⟨ht6,hrd6,hL7,hB7⟩:=HNx.out g cap w6 hr6 hg6 (by simpa using hn6);have x6:w6.cell? ⟨w.heap.size + 2,0,none⟩ = some (.slice q ys.length c):=blk_cell ht6 0;have xf6:=blk_free ht6 0;obtain ⟨hd6,hd7⟩:=hrd6 S _ HRd3.out;have c6:w6.cell? ⟨w.heap.size + 1,2,none⟩ = some (.int .i64 (ek:Int)):=Bad21.cell2 hd6;obtain ⟨W7,hW7⟩:∃ W7,W7 = w6.setCell ⟨w.heap.size + 2,0,none⟩ (.slice (some ⟨g,0,none⟩) (ys.length + 1) cap):=⟨_,rfl⟩;rw [← hW7] at hd7 hL7 hB7;have HW7:=Lib.hid hW7;have HD7:Hid (Bad21 W7 (w.heap.size + 1) S ek en):=hd7;have HL7:=Lib.hid hL7;clear hr6 hg6 hn6 ht6 hrd6 hL7 hB7 hd6 hd7 hW7)
   rw [← HW7.out]
   have hy:RdY21 W7 (w.heap.size + 1) S Y:=by rw [HYe.out];exact HD7.out
   have HEnd:=Lib.hid (refEnd21 Y hy)
   have HT2:Hid (T = .error (ek,S.size - en)):=by show _ = _;rw [HT.out,HYe.out];rfl
   rw [HYe.out] at HEnd
   have HL0:=HL7
   clear hy
   clear HD7 HL7 HW7 x0 xf6 x6 c6 HRow HNx HRd3 HOw HSz HBs HNb HP HVa HY HMs HYl HLm
   refine HEnd.out.mono ?_
   rintro e w4 ⟨rfl,hf,ha4⟩
   have hf:Bad21 w4 (w.heap.size + 1) S ek en:=hf
   have hL4:=HL0.out.step ha4
   obtain ⟨aa,-,hl⟩:=hf.lies
   have c2:w4.cell? ⟨w.heap.size + 1,2,none⟩ = some (.int .i64 (ek:Int)):=blk_cell hl 2
   have c3:w4.cell? ⟨w.heap.size + 1,3,none⟩ = some (.int .i64 ((S.size - en:Nat):Int)):=blk_cell hl 3
   have g1:((ek:Int) != 0) = true:=by have:=hf.bad;rw [bne_iff_ne];omega
   have g2:((ek:Int) == 0) = false:=by have:=hf.bad;rw [beq_eq_false_iff_ne];omega
   have m0:w4.cell? ⟨w.heap.size,0,none⟩ = some (.slice none 0 0):=blk_cell hL4.z 0
   have mf0:=blk_free hL4.z 0
   obtain ⟨sp,hsp⟩:∃ sp:Nat,sp = S.size - en:=⟨_,rfl⟩
   rw [← hsp] at c3
   have HT3:Hid (T = .error (ek,sp)):=by show _ = _;rw [HT2.out,hsp]
   obtain ⟨X,hX⟩:∃ X,X = w4.setCell ⟨w.heap.size,0,none⟩ (.slice none 0 0):=⟨_,rfl⟩
   have HX:Hid (X.drew.heap[w.heap.size]? = some (.cells #[.slice none 0 0] 44 (0,0)) ∧ Below w.heap.size w X.drew):=by
    refine ⟨?_,?_⟩
    ·show X.heap[w.heap.size]? = _
     rw [hX,blk_set hL4.z 0];rfl
    ·rw [hX];exact (hL4.b.setCell (Nat.le_refl _) _).drew
   have HXe2:=Lib.hid hX
   clear hf hl hsp hL4 ha4 hX HT HT2 HEnd
   go_wp2_with fail
   go_region_held3 (fun w' => w'.cell? ⟨w.heap.size + 1,2,none⟩ = some (.int .i64 (ek:Int)) ∧ w'.cell? ⟨w.heap.size + 1,3,none⟩ = some (.int .i64 (sp:Int))) (go_keep) (fail)
   go_wp2
   rw [← HXe2.out]
   refine bodyPost_ret (results_row3 rfl _ _ w.heap.size _ _ _ _ rfl HX.out.1 Tryz.underlying44 rfl (by kernel_rfl)) rfl ?_
   rw [HT3.out]
   exact RowA21.of rfl (fun j hj => by simp [thOf] at hj) (by omega) HX.out.2
  | ok xr =>
   obtain ⟨x,r⟩:=xr
   have HX3:Hid (Y = lcat ys (if r.head? = some 44 then andM (Tx.must [44,32] r) fun r => andP (Tx.pseq (Tx.pval rf 4) m r) fun xs r => .ok (x :: xs,r) else .ok ([x],r))):=HX2.out
   have HLr:Hid (r.length ≤ l.length):=HLen.out x r rfl
   clear HX2 HLen
   go_wp2_with (at_builtin;refine wp_more (B:=w.heap.size + 3) (us:=us) (v:=.slice q ys.length c) (n:=ys.length) HRow.out (u:=#[.int .i64 k,.int .i64 i,.float .f64 b,.string t3,.slice p n c3]) rfl (one5c _ _ _ _ _ _ _) (ad:=w3.heap.size + 1) HNb.out HSz.out HBs.out (H:=w3.heap.size + 2) (by simp) rfl rfl rfl rfl ?_;intro g cap w6 hr6 hg6 hn6;obtain ⟨ht6,hrd6,hL7,hB7⟩:=HNx.out g cap w6 hr6 hg6 (by simpa using hn6);have x6:w6.cell? ⟨w.heap.size + 2,0,none⟩ = some (.slice q ys.length c):=blk_cell ht6 0;have xf6:=blk_free ht6 0;obtain ⟨hd6,hd7⟩:=hrd6 S _ HRd3.out;have c6:w6.cell? ⟨w.heap.size + 1,2,none⟩ = some (.int .i64 0):=Rd21.cell hd6 2;obtain ⟨W7,hW7⟩:∃ W7,W7 = w6.setCell ⟨w.heap.size + 2,0,none⟩ (.slice (some ⟨g,0,none⟩) (ys.length + 1) cap):=⟨_,rfl⟩;rw [← hW7] at hd7 hL7 hB7;have HW7:=Lib.hid hW7;have HD7:Hid (Rd21 W7 (w.heap.size + 1) S r):=hd7;have HL7:=Lib.hid hL7;have HB7:=Lib.hid (hB7 x (HOw.out x r rfl));clear hr6 hg6 hn6 ht6 hrd6 hL7 hB7 hd6 hd7 hW7)
   rw [← HW7.out]
   have HIs:=Lib.hid (refIs21 HD7.out 44)
   clear HW7 x6 xf6 c6 x0 HRow HNx HRd3 HOw HBs HNb
   refine HIs.out.mono ?_
   rintro e w8 ⟨rfl,nd,hw8⟩
   have HD8:Hid (Rd21 w8 (w.heap.size + 1) S r):=by rw [hw8];exact Rd21.drewN HD7.out nd
   have HL8:Hid (LstR w w8 (some ⟨g,0,none⟩) (ys.length + 1) cap):=by rw [hw8];exact HL7.out.step (aside_drewN21 _ W7 nd)
   have HB8:Hid (∃ us' Fs',Built w8 (w.heap.size + 3) (.slice (some ⟨g,0,none⟩) (ys.length + 1) cap) (ys.length + 1) us' Fs' (ys ++ [x])):=by
    obtain ⟨us',Fs',hb⟩:=HB7.out
    rw [hw8]
    exact ⟨us',Fs',hb.aside (aside_drewN21 (fun _ => False) W7 nd) (fun _ _ h => h) (fun _ _ _ _ h => h)⟩
   clear hw8 HIs HD7 HL7 HB7
   by_cases hh:r.head? = some 44
   ·have g1:decide (r.head? = some 44) = true:=decide_eq_true hh
    rw [g1]
    have HX4:Hid (Y = lcat ys (andM (Tx.must [44,32] r) fun r => andP (Tx.pseq (Tx.pval rf 4) m r) fun xs r => .ok (x :: xs,r))):=by show Y = _;rw [HX3.out,if_pos hh]
    have HM:=Lib.hid (refMust21 HD8.out ⟨#[44,32]⟩ (by decide))
    rw [show (ByteArray.mk #[44,32]).data.toList = [44,32] from rfl] at HM
    clear hh g1 HX3
    go_wp2_with fail
    refine HM.out.mono ?_
    rintro e w9 ⟨rfl,hq,ha9⟩
    have hL9:=HL8.out.step ha9
    have HRel:Hid ((∃ (q:Option Addr) (n c:Nat),Hid (LstR w w9 q n c) ∧ (Hid (∃ (ys:List V) (l:Tx.Bs) (m:Nat),n = ys.length ∧ (∃ us Fs,Built w9 (w.heap.size + 3) (.slice q n c) n us Fs ys) ∧ Rd21 w9 (w.heap.size + 1) S l ∧ l.length < m ∧ ys.length + l.length ≤ S.size ∧ (S.data.toList ≠ [] → Y = lcat ys (Tx.pseq (Tx.pval rf 4) m l))) ∨ Hid (∃ e k,S.data.toList ≠ [] ∧ Bad21 w9 (w.heap.size + 1) S e k ∧ Y = .error (e,k)))) ∧ msr21 w9 (w.heap.size + 1) S < msr21 wr (w.heap.size + 1) S):=by
     show _ ∧ _
     rw [HMs.out]
     cases hm:Tx.must [44,32] r with
     | error y =>
      obtain ⟨e,m'⟩:=y
      rw [hm] at hq
      have hq:Bad21 w9 (w.heap.size + 1) S e m':=hq
      refine ⟨⟨_,_,_,hL9,.inr ⟨e,m',HNe.out,hq,?_⟩⟩,by rw [hq.msr];omega⟩
      rw [HX4.out,hm];rfl
     | ok r3 =>
      rw [hm] at hq
      have hq:Rd21 w9 (w.heap.size + 1) S r3:=hq
      obtain ⟨us',Fs',hb⟩:=HB8.out
      have hr3:=Tx.must_ok _ _ _ hm
      have hl3:=congrArg List.length hr3
      rw [List.length_append] at hl3
      have hl4:r.length = 2 + r3.length:=hl3
      have h1:=HLr.out
      have h2:=HLm.out
      have h3:=HYl.out
      refine ⟨⟨_,_,_,hL9,.inl ⟨ys ++ [x],r3,m,by simp,⟨us',Fs',hb.aside ha9 (fun g hg he => by have:=(hb.lt g hg).1;omega) (fun j hj k hk he => by have:=(hb.range j hj k hk).1;omega)⟩,hq,by omega,by rw [List.length_append,List.length_singleton];omega,fun _ => ?_⟩⟩,by rw [hq.msr];omega⟩
      rw [HX4.out,hm,lcat_cons]
      rfl
    clear hq ha9 hL9 HM HX4 HD8 HL8 HB8 HLr HLm HYl HMs
    go_wp2
    go_roundw
    case rel => exact HRel.out.1
    case measure => exact HRel.out.2
   ·have g1:decide (r.head? = some 44) = false:=decide_eq_false hh
    rw [g1]
    have HYe:Hid (Y = .ok (ys ++ [x],r)):=by show Y = _;rw [HX3.out,if_neg hh];rfl
    clear hh g1 HX3 HP HVa HY HMs HLm HNe
    obtain ⟨xs,hxs⟩:∃ xs,xs = ys ++ [x]:=⟨_,rfl⟩
    rw [← hxs] at HYe
    have HL5:=HL8
    have HB5:Hid (∃ us Fs,Built w8 (w.heap.size + 3) (.slice (some ⟨g,0,none⟩) (ys.length + 1) cap) (ys.length + 1) us Fs xs):=by rw [hxs];exact HB8.out
    have HN:Hid (xs.length = ys.length + 1):=by show _ = _;rw [hxs];simp
    have HBo:Hid ((ys.length + 1) * 64 ≤ 140737488351232):=by show _ ≤ _;have:=HYl.out;have:=HS.out;omega
    clear hxs HL8 HB8 HYl HLr HSz
    by_cases hr0:r = []
    ·have HEnd:=Lib.hid (refEnd21 (.ok (xs,[]):Tx.R (List V × Tx.Bs)) (by rw [← hr0];exact HD8.out))
     rw [show fin21 (.ok (xs,[]):Tx.R (List V × Tx.Bs)) = .ok xs from rfl] at HEnd
     have HT2:Hid (T = if rowErr xs = 0 then .ok xs else .error (rowErr xs,0)):=by show T = _;rw [HT.out,HYe.out,hr0];rfl
     clear HYe HT HD8 hr0
     go_wp2_with fail
     refine HEnd.out.mono ?_
     rintro e w4 ⟨rfl,hf,ha4⟩
     have hf:Rd21 w4 (w.heap.size + 1) S []:=hf
     have hL4:=HL5.out.step ha4
     have c2:w4.cell? ⟨w.heap.size + 1,2,none⟩ = some (.int .i64 0):=hf.cell 2
     obtain ⟨us4,Fs4,hb0⟩:=HB5.out
     have hbt4:=hb0.aside ha4 (fun g hg he => by have:=(hb0.lt g hg).1;omega) (fun j hj k hk he => by have:=(hb0.range j hj k hk).1;omega)
     have HIt:=Lib.hid (built_items hbt4 HBo.out)
     have y0:w4.cell? ⟨w.heap.size + 2,0,none⟩ = some (.slice (some ⟨g,0,none⟩) (ys.length + 1) cap):=blk_cell hL4.t 0
     have HL4:=Lib.hid hL4
     have HBt4:=Lib.hid hbt4
     clear hf ha4 hL4 hb0 hbt4 HEnd HL5 HB5
     go_wp2_with fail
     go_loopw [62] (fun v wr => ∃ j:Nat,j ≤ (ys.length + 1) ∧ v = .int .i64 (j:Nat) ∧ Hid ((∀ i (h:i < xs.length),i < j → chk 1 xs[i] = 0) ∧ Below w4.heap.size w4 wr)) (fun v _ => (ys.length + 1) - (intOf v).toNat)
     case atStart => exact ⟨0,Nat.zero_le _,rfl,fun i hi hj => by omega,Below.refl _ _⟩
     case round =>
      obtain ⟨j,hj,rfl,HI⟩:=hrel
      by_cases hjn:j < (ys.length + 1)
      ·have f1:(j:Int) < (((ys.length + 1):Nat):Int):=by omega
       have hlt:j < xs.length:=by rw [HN.out];exact hjn
       obtain ⟨u',hu,hit⟩:=HIt.out j hlt
       obtain ⟨bx,ox,kx,ex,fx,gx,qx,nx,cx,hqe,hbx,rfl,a0,a1,a2,a3,a4⟩:=(hit.on HI.out.2).lies
       unfold cells5 at hu
       have HBx:=Lib.hid (HI.out.2.alloc HI.out.2.size (.cells #[.int .i64 kx,.int .i64 ex,.float .f64 fx,.string gx,.slice qx nx cx] 36))
       have HC:=Lib.hid (refCheck6 xs[j] (wr.alloc (.cells #[.int .i64 kx,.int .i64 ex,.float .f64 fx,.string gx,.slice qx nx cx] 36)) _ (hu.on HBx.out))
       obtain ⟨er,her⟩:∃ er,er = chk 1 (xs[j]'hlt):=⟨_,rfl⟩
       rw [← her] at HC
       by_cases h0:er = 0
       ·subst h0
        have HI2:Hid (∀ i (h:i < xs.length),i < j + 1 → chk 1 xs[i] = 0):=fun i hi hj2 => by
         by_cases he:i = j
         ·subst he;exact her.symm
         ·exact HI.out.1 i hi (by omega)
        clear hu hit her hbx y0
        cases hqe;simp only [Nat.zero_add] at a0 a1 a2 a3 a4
        go_wp2_with fail
        refine HC.out.mono ?_
        rintro e w1 ⟨rfl,hb1⟩
        have HB1:=Lib.hid (HBx.out.trans (hb1.mono HBx.out.size))
        have f2:(j:Int) + 1 ≤ 140737488351232:=by have:=HBo.out;omega
        clear hb1 HC
        go_wp2
        go_roundw
        case rel => exact ⟨j + 1,by omega,by go_num,HI2.out,HB1.out⟩
        case measure => simp [intOf];omega
       ·have HT3:Hid (T = .error (er,0)):=by
         have e1:rowErr xs = er:=by rw [rowErr_take xs j HI.out.1,List.drop_eq_getElem_cons hlt,rowErr,← her,if_neg h0]
         show T = _
         rw [HT2.out,e1,if_neg h0]
        have g0:((er:Int) != 0) = true:=by rw [bne_iff_ne];omega
        clear hu hit her hbx h0 y0
        cases hqe;simp only [Nat.zero_add] at a0 a1 a2 a3 a4
        go_wp2_with fail
        refine HC.out.mono ?_
        rintro e w1 ⟨rfl,hb1⟩
        have hB1:=HBx.out.trans (hb1.mono HBx.out.size)
        have hz1:=blk_on HL4.out.z hB1 (blk_lt HL4.out.z)
        have m0:w1.cell? ⟨w.heap.size,0,none⟩ = some (.slice none 0 0):=blk_cell hz1 0
        have mf0:=blk_free hz1 0
        obtain ⟨X,hX⟩:∃ X,X = w1.setCell ⟨w.heap.size,0,none⟩ (.slice none 0 0):=⟨_,rfl⟩
        have HX:Hid (X.heap[w.heap.size]? = some (.cells #[.slice none 0 0] 44 (0,0)) ∧ Below w.heap.size w X):=by
         refine ⟨by rw [hX,blk_set hz1 0];rfl,?_⟩
         rw [hX];exact (HL4.out.b.trans (hB1.mono HL4.out.b.size)).setCell (Nat.le_refl _) _
        have HXe2:=Lib.hid hX
        clear hb1 HC hz1 hB1 hX a0 a1 a2 a3 a4
        go_wp2
        rw [← HXe2.out]
        refine bodyPost_ret (results_row3 rfl _ _ w.heap.size _ _ _ _ rfl HX.out.1 Tryz.underlying44 rfl (by kernel_rfl)) rfl ?_
        rw [HT3.out]
        exact RowA21.of rfl (fun j hj => by simp [thOf] at hj) (by omega) HX.out.2
      ·have f1:¬ (j:Int) < (((ys.length + 1):Nat):Int):=by omega
       have HT3:Hid (T = .ok xs):=by
        have e1:rowErr xs = 0:=by
         rw [rowErr_take xs j HI.out.1,List.drop_eq_nil_of_le (by rw [HN.out];omega)]
         rfl
        show T = _
        rw [HT2.out,if_pos e1]
       have hz1:=blk_on HL4.out.z HI.out.2 (blk_lt HL4.out.z)
       have ht1:=blk_on HL4.out.t HI.out.2 (blk_lt HL4.out.t)
       have y1:wr.cell? ⟨w.heap.size + 2,0,none⟩ = some (.slice (some ⟨g,0,none⟩) (ys.length + 1) cap):=blk_cell ht1 0
       have m0:wr.cell? ⟨w.heap.size,0,none⟩ = some (.slice none 0 0):=blk_cell hz1 0
       have mf0:=blk_free hz1 0
       obtain ⟨X,hX⟩:∃ X,X = wr.setCell ⟨w.heap.size,0,none⟩ (.slice (some ⟨g,0,none⟩) (ys.length + 1) cap):=⟨_,rfl⟩
       have HX:Hid (X.heap[w.heap.size]? = some (.cells #[.slice (some ⟨g,0,none⟩) (ys.length + 1) cap] 44 (0,0)) ∧ Below w.heap.size w X ∧ Items X (some ⟨g,0,none⟩) xs):=by
        refine ⟨by rw [hX,blk_set hz1 0];rfl,?_,?_⟩
        ·rw [hX];exact (HL4.out.b.trans (HI.out.2.mono HL4.out.b.size)).setCell (Nat.le_refl _) _
        ·rw [hX];exact built_items ((HBt4.out.on HI.out.2).set ⟨w.heap.size,0,none⟩ _ (by show w.heap.size < _;omega)) HBo.out
       have HXe2:=Lib.hid hX
       clear hz1 ht1 hX HI y0
       go_wp2
       rw [← HXe2.out]
       refine bodyPost_ret (results_row3 rfl _ _ w.heap.size _ _ _ _ rfl HX.out.1 Tryz.underlying44 rfl (by kernel_rfl)) rfl ?_
       rw [HT3.out]
       exact RowA21.of HN.out HX.out.2.2 HBo.out HX.out.2.1
    ·have e5:fin21 (.ok (xs,r):Tx.R (List V × Tx.Bs)) = .error (5,r.length):=if_neg hr0
     have HEnd:=Lib.hid (refEnd21 (.ok (xs,r):Tx.R (List V × Tx.Bs)) HD8.out)
     rw [e5] at HEnd
     obtain ⟨ek,hek⟩:∃ ek:Nat,ek = 5:=⟨_,rfl⟩
     obtain ⟨en,hen⟩:∃ en,en = r.length:=⟨_,rfl⟩
     have HT2:Hid (T = .error (ek,S.size - en)):=by show T = _;rw [HT.out,HYe.out,e5,hek,hen]
     rw [← hek,← hen] at HEnd
     have HL0:=HL5
     clear HYe HT HD8 hr0 e5 hek hen HL5 HB5 HN HBo
     go_wp2_with fail
     refine HEnd.out.mono ?_
     rintro e w4 ⟨rfl,hf,ha4⟩
     have hf:Bad21 w4 (w.heap.size + 1) S ek en:=hf
     have hL4:=HL0.out.step ha4
     obtain ⟨aa,-,hl⟩:=hf.lies
     have c2:w4.cell? ⟨w.heap.size + 1,2,none⟩ = some (.int .i64 (ek:Int)):=blk_cell hl 2
     have c3:w4.cell? ⟨w.heap.size + 1,3,none⟩ = some (.int .i64 ((S.size - en:Nat):Int)):=blk_cell hl 3
     have g1:((ek:Int) != 0) = true:=by have:=hf.bad;rw [bne_iff_ne];omega
     have g2:((ek:Int) == 0) = false:=by have:=hf.bad;rw [beq_eq_false_iff_ne];omega
     have m0:w4.cell? ⟨w.heap.size,0,none⟩ = some (.slice none 0 0):=blk_cell hL4.z 0
     have mf0:=blk_free hL4.z 0
     obtain ⟨sp,hsp⟩:∃ sp:Nat,sp = S.size - en:=⟨_,rfl⟩
     rw [← hsp] at c3
     have HT3:Hid (T = .error (ek,sp)):=by show _ = _;rw [HT2.out,hsp]
     obtain ⟨X,hX⟩:∃ X,X = w4.setCell ⟨w.heap.size,0,none⟩ (.slice none 0 0):=⟨_,rfl⟩
     have HX:Hid (X.drew.heap[w.heap.size]? = some (.cells #[.slice none 0 0] 44 (0,0)) ∧ Below w.heap.size w X.drew):=by
      refine ⟨?_,?_⟩
      ·show X.heap[w.heap.size]? = _
       rw [hX,blk_set hL4.z 0];rfl
      ·rw [hX];exact (hL4.b.setCell (Nat.le_refl _) _).drew
     have HXe2:=Lib.hid hX
     clear hf hl hsp hL4 ha4 hX HT2 HEnd
     go_wp2_with fail
     go_region_held3 (fun w' => w'.cell? ⟨w.heap.size + 1,2,none⟩ = some (.int .i64 (ek:Int)) ∧ w'.cell? ⟨w.heap.size + 1,3,none⟩ = some (.int .i64 (sp:Int))) (go_keep) (fail)
     go_wp2
     rw [← HXe2.out]
     refine bodyPost_ret (results_row3 rfl _ _ w.heap.size _ _ _ _ rfl HX.out.1 Tryz.underlying44 rfl (by kernel_rfl)) rfl ?_
     rw [HT3.out]
     exact RowA21.of rfl (fun j hj => by simp [thOf] at hj) (by omega) HX.out.2
end Go.Proofs.YtllbniljgcgbeaaGreatDoor
