import Derived.Test.YtllbniljgcgbeaaGreatDoorA8
import Derived.Test.YtllbniljgcgbeaaGreatDoorA5
import Derived.Test.YtllbniljgcgbeaaGreatDoorWT21S
import Derived.Test.YtllbniljgcgbeaaGreatDoorA7
import Derived.Test.YtllbniljgcgbeaaGreatDoorTx11
import Derived.Test.YtllbniljgcgbeaaGreatDoorWT21N0
set_option maxRecDepth 100000
set_option maxHeartbeats 8000000
namespace Go.Proofs.YtllbniljgcgbeaaGreatDoor
open Go.RowKit
attribute [local go_sem] run_store_float
theorem Val21.wide {w W w':World} {X:Tx.R (V × Tx.Bs)} {k i:Int} {b:Nat} {t:ByteArray} {p:Option Addr} {n c:Nat} (hw:w.heap.size + 1 < W.heap.size) (hown:∀ v l,X = .ok (v,l) → VOwn w' (fun j => W.heap.size ≤ j ∧ j < w'.heap.size) (cells5 k i b t p n c) v):∀ v l,X = .ok (v,l) → ∃ F:Nat → Prop,VOwn w' F (cells5 k i b t p n c) v ∧ ∀ j,F j → w.heap.size < j ∧ j < w'.heap.size :=
 fun v l hx => ⟨_,hown v l hx,fun j hj => by omega⟩
theorem refValue21 {rf:Tx.Bs → Option Nat} (hRf:RfOk rf):∀ (f d:Nat) (l:Tx.Bs) (R:Nat) (S:ByteArray) (w:World),d + f = 5 → S.size ≤ 1099511627776 → Rd21 w R S l → Calls Tryz.prog 28 #[.pointer (some ⟨R,0,none⟩),.int .i64 (d:Nat)] w (Val21 w R S (Tx.pval rf f l)):=by
 intro f
 induction f with
 | zero =>
  intro d l R S w hd hS h
  obtain ⟨W1,hW1⟩:∃ W1,W1 = (w.alloc (.cells #[.int .i64 0,.int .i64 0,.float .f64 0,.string ⟨#[]⟩,.slice none 0 0] 36)).alloc (.cells #[.int .i64 0,.int .i64 0,.float .f64 0,.string ⟨#[]⟩,.slice none 0 0] 36):=⟨_,rfl⟩
  have hb1:Below w.heap.size w W1:=by rw [hW1];exact ((Below.refl _ _).alloc (Nat.le_refl _) _).alloc (by simp) _
  have hz1:W1.heap[w.heap.size]? = some (.cells zero5 36 (0,0)):=by rw [hW1,blk_old _ _ (by simp)];exact blk_new w _
  have hn1:W1.heap[w.heap.size + 1]? = some (.cells zero5 36 (0,0)):=by rw [hW1];have:=blk_new (w.alloc (.cells #[.int .i64 0,.int .i64 0,.float .f64 0,.string ⟨#[]⟩,.slice none 0 0] 36)) (.cells #[.int .i64 0,.int .i64 0,.float .f64 0,.string ⟨#[]⟩,.slice none 0 0] 36);rw [show (w.alloc (.cells #[.int .i64 0,.int .i64 0,.float .f64 0,.string ⟨#[]⟩,.slice none 0 0] 36)).heap.size = w.heap.size + 1 by simp] at this;exact this
  have hr1:=h.on hb1
  have HRl:=Lib.hid h.lt
  have hRl:=h.lt
  have hRN:¬ w.heap.size = R:=by omega
  have hRN2:¬ R = w.heap.size:=by omega
  have hRT:¬ w.heap.size + 1 = R:=by omega
  have hRT2:¬ R = w.heap.size + 1:=by omega
  have c1:W1.cell? ⟨R,1,none⟩ = some (.int .i64 ((S.size - l.length:Nat):Int)):=hr1.cell 1
  have HF:=Lib.hid (refFail21 hr1 62 l.length (by decide))
  have HW:Hid (W1.heap[w.heap.size]? = some (.cells zero5 36 (0,0)) ∧ W1.heap[w.heap.size + 1]? = some (.cells zero5 36 (0,0)) ∧ Aside (fun j => j = R) w W1):=⟨hz1,hn1,aside_new hb1 _⟩
  have HW1:=Lib.hid hW1
  have HXe:Hid (Tx.pval rf 0 l = .error (62,l.length)):=by show _ = _;rw [Tx.pval]
  obtain ⟨X,hX⟩:∃ X,X = Tx.pval rf 0 l:=⟨_,rfl⟩
  rw [← hX] at HXe ⊢
  obtain ⟨a,ha⟩:∃ a,a = S.size - l.length:=⟨_,rfl⟩
  rw [← ha] at c1 HF
  obtain rfl:d = 5:=by omega
  rw [hW1] at c1
  clear h hW1 hb1 hz1 hn1 hr1 hX ha hS hRl
  go_enter Tryz.func28,Tryz.ntmps28
  go_wp2_with fail
  rw [← HW1.out]
  skip
  refine HF.out.mono ?_
  rintro e w9 ⟨rfl,hb9,ha9⟩
  have hz9:=(ha9.block _ (blk_lt HW.out.1) hRN).trans HW.out.1
  have hn9:=(ha9.block _ (blk_lt HW.out.2.1) hRT).trans HW.out.2.1
  have HFin:=Lib.hid (val_fin (k:=0) (i:=0) (b:=0) (t:=⟨#[]⟩) (p:=none) (n:=0) (c:=0) (X:=.error (62,l.length)) HRl.out hz9 rfl hb9 (HW.out.2.2.trans ha9 (fun _ _ h => h)) (fun v l hc => by cases hc))
  have y0:w9.cell? ⟨w.heap.size + 1,0,none⟩ = some (.int .i64 0):=blk_cell hn9 0
  have y1:w9.cell? ⟨w.heap.size + 1,1,none⟩ = some (.int .i64 0):=blk_cell hn9 1
  have y2:w9.cell? ⟨w.heap.size + 1,2,none⟩ = some (.float .f64 0):=blk_cell hn9 2
  have y3:w9.cell? ⟨w.heap.size + 1,3,none⟩ = some (.string ⟨#[]⟩):=blk_cell hn9 3
  have y4:w9.cell? ⟨w.heap.size + 1,4,none⟩ = some (.slice none 0 0):=blk_cell hn9 4
  have z0:w9.cell? ⟨w.heap.size,0,none⟩ = some (.int .i64 0):=blk_cell hz9 0
  have zf0:=blk_free hz9 0
  have z1:w9.cell? ⟨w.heap.size,1,none⟩ = some (.int .i64 0):=blk_cell hz9 1
  have zf1:=blk_free hz9 1
  have z2:w9.cell? ⟨w.heap.size,2,none⟩ = some (.float .f64 0):=blk_cell hz9 2
  have zf2:=blk_free hz9 2
  have z3:w9.cell? ⟨w.heap.size,3,none⟩ = some (.string ⟨#[]⟩):=blk_cell hz9 3
  have zf3:=blk_free hz9 3
  have z4:w9.cell? ⟨w.heap.size,4,none⟩ = some (.slice none 0 0):=blk_cell hz9 4
  have zf4:=blk_free hz9 4
  clear hb9 ha9 hz9 hn9 HW HW1 HF c1
  go_wp2
  refine bodyPost_ret (v:=.agg (cells5 0 0 0 ⟨#[]⟩ none 0 0)) (results_cell_row rfl _ _ w.heap.size _ _ _ _ rfl HFin.out.1 Tryz.underlying36 rfl (by kernel_rfl)) rfl ?_
  rw [HXe.out]
  exact HFin.out.2
 | succ f ih =>
  intro d l R S w hd hS h
  have hd4:d ≤ 4:=by omega
  have hdi:¬ (4:Int) < (d:Int):=by omega
  have hdj:decide ((4:Int) < (d:Int)) = false:=decide_eq_false hdi
  have hdk:decide (4 < d) = false:=decide_eq_false (by omega)
  have HVal:Hid (∀ w' l',Rd21 w' R S l' → Calls Tryz.prog 28 #[.pointer (some ⟨R,0,none⟩),.int .i64 ((d:Int) + 1)] w' (Val21 w' R S (Tx.pval rf f l'))):=fun w' l' h' => by
   have:=ih (d + 1) l' R S w' (by omega) hS h'
   rw [show ((d + 1:Nat):Int) = (d:Int) + 1 by omega] at this
   exact this
  have HRf:=Lib.hid hRf
  have HS:=Lib.hid hS
  have HD4:=Lib.hid hd4
  obtain ⟨W1,hW1⟩:∃ W1,W1 = (w.alloc (.cells #[.int .i64 0,.int .i64 0,.float .f64 0,.string ⟨#[]⟩,.slice none 0 0] 36)).alloc (.cells #[.int .i64 0,.int .i64 0,.float .f64 0,.string ⟨#[]⟩,.slice none 0 0] 36):=⟨_,rfl⟩
  have hb1:Below w.heap.size w W1:=by rw [hW1];exact ((Below.refl _ _).alloc (Nat.le_refl _) _).alloc (by simp) _
  have hz1:W1.heap[w.heap.size]? = some (.cells zero5 36 (0,0)):=by rw [hW1,blk_old _ _ (by simp)];exact blk_new w _
  have hn1:W1.heap[w.heap.size + 1]? = some (.cells zero5 36 (0,0)):=by rw [hW1];have:=blk_new (w.alloc (.cells #[.int .i64 0,.int .i64 0,.float .f64 0,.string ⟨#[]⟩,.slice none 0 0] 36)) (.cells #[.int .i64 0,.int .i64 0,.float .f64 0,.string ⟨#[]⟩,.slice none 0 0] 36);rw [show (w.alloc (.cells #[.int .i64 0,.int .i64 0,.float .f64 0,.string ⟨#[]⟩,.slice none 0 0] 36)).heap.size = w.heap.size + 1 by simp] at this;exact this
  have hr1:=h.on hb1
  have HRl:=Lib.hid h.lt
  have hRl:=h.lt
  have hRN:¬ w.heap.size = R:=by omega
  have hRN2:¬ R = w.heap.size:=by omega
  have hRT:¬ w.heap.size + 1 = R:=by omega
  have hRT2:¬ R = w.heap.size + 1:=by omega
  have hTN:¬ w.heap.size + 1 = w.heap.size:=by omega
  have hTN2:¬ w.heap.size = w.heap.size + 1:=by omega
  obtain ⟨a,ha⟩:∃ a,a = S.size - l.length:=⟨_,rfl⟩
  have c0:W1.cell? ⟨R,0,none⟩ = some (.string S):=hr1.cell 0
  have c1:W1.cell? ⟨R,1,none⟩ = some (.int .i64 (a:Int)):=by rw [ha];exact hr1.cell 1
  have hle:=h.le
  have HWn:Hid (∀ n,Rd21 (W1.drewN n) R S l ∧ (W1.drewN n).heap[w.heap.size]? = some (.cells zero5 36 (0,0)) ∧ (W1.drewN n).heap[w.heap.size + 1]? = some (.cells zero5 36 (0,0)) ∧ Aside (fun j => j = R) w (W1.drewN n)):=fun n => ⟨hr1.drewN n,hz1,hn1,(aside_new hb1 _).trans (aside_drewN21 (fun j => j = R) W1 n) (fun _ _ h => h)⟩
  have HW1:=Lib.hid hW1
  obtain ⟨X,hX⟩:∃ X,X = Tx.pval rf (f + 1) l:=⟨_,rfl⟩
  have HX:=Lib.hid hX
  have HAe:=Lib.hid ha
  rw [← hX]
  have hsm:=h.small
  clear hX ih hRf hS hd hd4 h hW1 hb1 hz1 hn1 hr1 hRl
  go_enter Tryz.func28,Tryz.ntmps28
  go_wp2_with fail
  rw [← HW1.out]
  cases l with
  | nil =>
   have haS:a = S.size:=by rw [ha];simp
   have g1:((a:Int) == (S.size:Int)) = true:=by rw [haS];exact beq_self_eq_true _
   have HXe:Hid (X = .error (5,([]:Tx.Bs).length)):=by show X = _;rw [HX.out,Tx.pval];rfl
   clear ha haS HX hle
   go_quiet (fail)
   obtain ⟨hr2,hz2,hn2,ha2⟩:=HWn.out nq
   have HW:Hid ((W1.drewN nq).heap[w.heap.size]? = some (.cells zero5 36 (0,0)) ∧ (W1.drewN nq).heap[w.heap.size + 1]? = some (.cells zero5 36 (0,0)) ∧ Aside (fun j => j = R) w (W1.drewN nq)):=⟨hz2,hn2,ha2⟩
   have HF:=Lib.hid (refFail21 hr2 5 ([]:Tx.Bs).length (by decide))
   rw [← HAe.out] at HF
   have c2:(W1.drewN nq).cell? ⟨R,1,none⟩ = some (.int .i64 (a:Int)):=by rw [HAe.out];exact hr2.cell 1
   clear hr2 hz2 hn2 ha2 c0 c1 HWn HW1
   generalize W1.drewN nq = w3 at *
   go_wp2_with fail
   refine HF.out.mono ?_
   rintro e w9 ⟨rfl,hb9,ha9⟩
   have hz9:=(ha9.block _ (blk_lt HW.out.1) hRN).trans HW.out.1
   have hn9:=(ha9.block _ (blk_lt HW.out.2.1) hRT).trans HW.out.2.1
   have HFin:=Lib.hid (val_fin (k:=0) (i:=0) (b:=0) (t:=⟨#[]⟩) (p:=none) (n:=0) (c:=0) (X:=.error (5,([]:Tx.Bs).length)) HRl.out hz9 rfl hb9 (HW.out.2.2.trans ha9 (fun _ _ h => h)) (fun v l hc => by cases hc))
   have y0:w9.cell? ⟨w.heap.size + 1,0,none⟩ = some (.int .i64 0):=blk_cell hn9 0
   have y1:w9.cell? ⟨w.heap.size + 1,1,none⟩ = some (.int .i64 0):=blk_cell hn9 1
   have y2:w9.cell? ⟨w.heap.size + 1,2,none⟩ = some (.float .f64 0):=blk_cell hn9 2
   have y3:w9.cell? ⟨w.heap.size + 1,3,none⟩ = some (.string ⟨#[]⟩):=blk_cell hn9 3
   have y4:w9.cell? ⟨w.heap.size + 1,4,none⟩ = some (.slice none 0 0):=blk_cell hn9 4
   have z0:w9.cell? ⟨w.heap.size,0,none⟩ = some (.int .i64 0):=blk_cell hz9 0
   have zf0:=blk_free hz9 0
   have z1:w9.cell? ⟨w.heap.size,1,none⟩ = some (.int .i64 0):=blk_cell hz9 1
   have zf1:=blk_free hz9 1
   have z2:w9.cell? ⟨w.heap.size,2,none⟩ = some (.float .f64 0):=blk_cell hz9 2
   have zf2:=blk_free hz9 2
   have z3:w9.cell? ⟨w.heap.size,3,none⟩ = some (.string ⟨#[]⟩):=blk_cell hz9 3
   have zf3:=blk_free hz9 3
   have z4:w9.cell? ⟨w.heap.size,4,none⟩ = some (.slice none 0 0):=blk_cell hz9 4
   have zf4:=blk_free hz9 4
   clear hb9 ha9 hz9 hn9 HW HF c2
   go_wp2
   refine bodyPost_ret (v:=.agg (cells5 0 0 0 ⟨#[]⟩ none 0 0)) (results_cell_row rfl _ _ w.heap.size _ _ _ _ rfl HFin.out.1 Tryz.underlying36 rfl (by kernel_rfl)) rfl ?_
   rw [HXe.out]
   exact HFin.out.2
  | cons c t =>
   have haS:a < S.size:=by simp only [List.length_cons] at ha hle;omega
   have g1:((a:Int) == (S.size:Int)) = false:=by rw [beq_eq_false_iff_ne];omega
   obtain ⟨hlt,hd'⟩:∃ hlt:a < S.size,S[a]'hlt = c:=(HWn.out 0).1.gets ha 0 (by simp)
   have f1:(a:Int) < (S.size:Int):=by omega
   have HC8:=Lib.hid (UInt8.toNat_lt c)
   have hsz:a + t.length + 1 = S.size:=by simp only [List.length_cons] at ha hle;omega
   have HSz:=Lib.hid hsz
   clear ha hle hsz
   go_quiet (fail)
   go_wp2_with fail
   go_quiet (fail)
   go_wp2_with fail
   refine (refSmall21 c _).mono ?_
   rintro e w2 ⟨rfl,hw2⟩
   obtain ⟨hr2,hz2,hn2,ha2⟩:Rd21 w2 R S (c :: t) ∧ w2.heap[w.heap.size]? = some (.cells zero5 36 (0,0)) ∧ w2.heap[w.heap.size + 1]? = some (.cells zero5 36 (0,0)) ∧ Aside (fun j => j = R) w w2:=by rw [hw2];exact HWn.out _
   have c2:w2.cell? ⟨R,1,none⟩ = some (.int .i64 (a:Int)):=by rw [HAe.out];exact hr2.cell 1
   have t2:=hr2.thawed 1
   have HR2:=Lib.hid hr2
   have HW:Hid (w2.heap[w.heap.size]? = some (.cells zero5 36 (0,0)) ∧ w2.heap[w.heap.size + 1]? = some (.cells zero5 36 (0,0)) ∧ Aside (fun j => j = R) w w2):=⟨hz2,hn2,ha2⟩
   have HF:=Lib.hid (refFail21 hr2 5 (c :: t).length (by decide))
   rw [← HAe.out] at HF
   have z0:w2.cell? ⟨w.heap.size,0,none⟩ = some (.int .i64 0):=blk_cell hz2 0
   have zf0:=blk_free hz2 0
   have z1:w2.cell? ⟨w.heap.size,1,none⟩ = some (.int .i64 0):=blk_cell hz2 1
   have zf1:=blk_free hz2 1
   have z2:w2.cell? ⟨w.heap.size,2,none⟩ = some (.float .f64 0):=blk_cell hz2 2
   have zf2:=blk_free hz2 2
   have z3:w2.cell? ⟨w.heap.size,3,none⟩ = some (.string ⟨#[]⟩):=blk_cell hz2 3
   have zf3:=blk_free hz2 3
   have z4:w2.cell? ⟨w.heap.size,4,none⟩ = some (.slice none 0 0):=blk_cell hz2 4
   have zf4:=blk_free hz2 4
   clear hw2 hr2 hz2 hn2 ha2 c0 c1 HWn HW1 hlt hd' f1 g1 hsm haS
   by_cases q1:Sch.low c = true
   ·have HXe:Hid (X = pwrd rf f (c :: t)):=by show X = _;rw [HX.out,pval_at,if_pos q1]
    have HCa:=Lib.hid (refWord21 HR2.out f d HD4.out HVal.out)
    obtain ⟨Y,hY⟩:∃ Y,Y = pwrd rf f (c :: t):=⟨_,rfl⟩
    rw [← hY] at HXe HCa
    clear hY HX HVal HF HR2 HRf HS HSz HC8 c2 t2 z0 z1 z2 z3 z4 zf0 zf1 zf2 zf3 zf4
    rw [q1]
    go_wp2_with fail
    refine HCa.out.mono ?_
    rintro e w9 ⟨k,i,b,t9,p,n,c9,rfl,hrd9,ha9,hown9⟩
    have hz9:=(ha9.block _ (blk_lt HW.out.1) hRN).trans HW.out.1
    have HFin:=Lib.hid (val_fin (k:=k) (i:=i) (b:=b) (t:=t9) (p:=p) (n:=n) (c:=c9) (X:=Y) HRl.out hz9 rfl hrd9 (HW.out.2.2.trans ha9 (fun _ _ h => h)) (Val21.wide (blk_lt HW.out.2.1) hown9))
    have z0:w9.cell? ⟨w.heap.size,0,none⟩ = some (.int .i64 0):=blk_cell hz9 0
    have zf0:=blk_free hz9 0
    have z1:w9.cell? ⟨w.heap.size,1,none⟩ = some (.int .i64 0):=blk_cell hz9 1
    have zf1:=blk_free hz9 1
    have z2:w9.cell? ⟨w.heap.size,2,none⟩ = some (.float .f64 0):=blk_cell hz9 2
    have zf2:=blk_free hz9 2
    have z3:w9.cell? ⟨w.heap.size,3,none⟩ = some (.string ⟨#[]⟩):=blk_cell hz9 3
    have zf3:=blk_free hz9 3
    have z4:w9.cell? ⟨w.heap.size,4,none⟩ = some (.slice none 0 0):=blk_cell hz9 4
    have zf4:=blk_free hz9 4
    clear hrd9 ha9 hown9 hz9 HCa HW
    go_wp2
    refine bodyPost_ret (v:=.agg (cells5 k i b t9 p n c9)) (results_cell_row rfl _ _ w.heap.size _ _ _ _ rfl HFin.out.1 Tryz.underlying36 rfl (by kernel_rfl)) rfl ?_
    rw [HXe.out]
    exact HFin.out.2
   have q1':Sch.low c = false:=by simpa using q1
   rw [q1']
   have N1:=Lib.hid q1
   clear q1
   by_cases q2:Tx.iset c = true
   ·have hk:Tx.dig c = true ∨ (Tx.dig c = false ∧ ((c.toNat:Int) == 45) = true):=by
     unfold Tx.iset at q2
     rw [Bool.or_eq_true] at q2
     cases hd:Tx.dig c with
     | true => exact .inl rfl
     | false =>
      rcases q2 with h | h
      ·rw [hd] at h;cases h
      ·exact .inr ⟨rfl,by rw [of_decide_eq_true h];rfl⟩
    obtain ⟨wd,hwd⟩:∃ wd,wd = (c :: t).takeWhile Tx.iset:=⟨_,rfl⟩
    obtain ⟨r0,hr0⟩:∃ r,r = (c :: t).dropWhile Tx.iset:=⟨_,rfl⟩
    have hsp:c :: t = wd ++ r0:=by rw [hwd,hr0];exact (List.takeWhile_append_dropWhile).symm
    have HXe:Hid (X = match Tx.num wd with
      | none => .error (5,(c :: t).length)
      | some n => .ok (⟨2,n,0,⟨#[]⟩,[]⟩,r0)):=by show X = _;rw [HX.out,pval_at,if_neg N1.out,if_pos q2,hwd,hr0];rfl
    have hwl:wd.length ≤ (c :: t).length:=by rw [hsp,List.length_append];omega
    have HSp:=Lib.hid hsp
    have HRw:=Lib.hid (refRow21 HR2.out 1 (by omega))
    rw [show inSet 1 = Tx.iset from rfl,← hwd] at HRw
    have HNm:Hid (∀ w',Calls Tryz.prog 57 #[.string ⟨wd.toArray⟩] w' (NumR w' wd)):=fun w' => refNumber21 ⟨wd.toArray⟩ (by show wd.toArray.size ≤ _;have:=HSz.out;have:=HS.out;simp at hwl ⊢;omega) w'
    have HWl:=Lib.hid hwl
    have e9:(ByteArray.mk wd.toArray).size = wd.length:=by show wd.toArray.size = _;simp
    clear hwd hr0 hsp hwl HX HVal HRf q2 HF
    rcases hk with k1 | ⟨k1,k2⟩
    all_goals
     go_wp2_with fail
     refine (refDig21 c _).mono ?_
     rintro e w3 ⟨rfl,hw3⟩
     subst hw3
     rw [k1]
     go_wp2_with fail
     refine HRw.out.mono ?_
     rintro e w4 ⟨rfl,hb4⟩
     go_wp2_with fail
     refine (HNm.out _).mono ?_
     rintro e w5 ⟨kn,bn,rfl,hm,hb5⟩
     have hr5:=(HR2.out.on hb4).on hb5
     have hb45:=hb4.trans (hb5.mono hb4.size)
     have hz5:=blk_on HW.out.1 hb45 (blk_lt HW.out.1)
     have hn5:=blk_on HW.out.2.1 hb45 (blk_lt HW.out.2.1)
     have ha5:=HW.out.2.2.trans (aside_new hb45 (fun i => i = R)) (fun _ _ h => h)
     have c5:w5.cell? ⟨R,1,none⟩ = some (.int .i64 (a:Int)):=by rw [HAe.out];exact hr5.cell 1
     have t5:=hr5.thawed 1
     have hl5:w.heap.size + 1 < w5.heap.size:=blk_lt hn5
     have HR5:=Lib.hid hr5
     have HW5:Hid (w5.heap[w.heap.size]? = some (.cells zero5 36 (0,0)) ∧ w5.heap[w.heap.size + 1]? = some (.cells zero5 36 (0,0)) ∧ Aside (fun j => j = R) w w5):=⟨hz5,hn5,ha5⟩
     clear hb4 hb5 hb45 hz5 hn5 ha5 hr5 HRw HNm HW HR2 c2 t2 z0 z1 z2 z3 z4 zf0 zf1 zf2 zf3 zf4
     cases hnum:Tx.num wd with
     | none =>
      rw [hnum] at hm HXe
      have hm:bn = false:=hm
      have HXe:Hid (X = .error (5,(c :: t).length)):=HXe
      subst hm
      have HF:=Lib.hid (refFail21 HR5.out 5 (c :: t).length (by decide))
      rw [← HAe.out] at HF
      clear hnum
      go_wp2_with fail
      refine HF.out.mono ?_
      rintro e w9 ⟨rfl,hb9,ha9⟩
      have hz9:=(ha9.block _ (blk_lt HW5.out.1) hRN).trans HW5.out.1
      have hn9:=(ha9.block _ (blk_lt HW5.out.2.1) hRT).trans HW5.out.2.1
      have HFin:=Lib.hid (val_fin (k:=0) (i:=0) (b:=0) (t:=⟨#[]⟩) (p:=none) (n:=0) (c:=0) (X:=.error (5,(c :: t).length)) HRl.out hz9 rfl hb9 (HW5.out.2.2.trans ha9 (fun _ _ h => h)) (fun v l hc => by cases hc))
      have y0:w9.cell? ⟨w.heap.size + 1,0,none⟩ = some (.int .i64 0):=blk_cell hn9 0
      have y1:w9.cell? ⟨w.heap.size + 1,1,none⟩ = some (.int .i64 0):=blk_cell hn9 1
      have y2:w9.cell? ⟨w.heap.size + 1,2,none⟩ = some (.float .f64 0):=blk_cell hn9 2
      have y3:w9.cell? ⟨w.heap.size + 1,3,none⟩ = some (.string ⟨#[]⟩):=blk_cell hn9 3
      have y4:w9.cell? ⟨w.heap.size + 1,4,none⟩ = some (.slice none 0 0):=blk_cell hn9 4
      have z0:w9.cell? ⟨w.heap.size,0,none⟩ = some (.int .i64 0):=blk_cell hz9 0
      have zf0:=blk_free hz9 0
      have z1:w9.cell? ⟨w.heap.size,1,none⟩ = some (.int .i64 0):=blk_cell hz9 1
      have zf1:=blk_free hz9 1
      have z2:w9.cell? ⟨w.heap.size,2,none⟩ = some (.float .f64 0):=blk_cell hz9 2
      have zf2:=blk_free hz9 2
      have z3:w9.cell? ⟨w.heap.size,3,none⟩ = some (.string ⟨#[]⟩):=blk_cell hz9 3
      have zf3:=blk_free hz9 3
      have z4:w9.cell? ⟨w.heap.size,4,none⟩ = some (.slice none 0 0):=blk_cell hz9 4
      have zf4:=blk_free hz9 4
      clear hb9 ha9 hz9 hn9 HF c5 t5 HW5 HR5 HSp HWl HS HSz
      go_wp2
      refine bodyPost_ret (v:=.agg (cells5 0 0 0 ⟨#[]⟩ none 0 0)) (results_cell_row rfl _ _ w.heap.size _ _ _ _ rfl HFin.out.1 Tryz.underlying36 rfl (by kernel_rfl)) rfl ?_
      rw [HXe.out]
      exact HFin.out.2
     | some m =>
      rw [hnum] at hm HXe
      obtain ⟨hm1,hm2⟩:kn = m ∧ bn = true:=hm
      have HXe:Hid (X = .ok (⟨2,m,0,⟨#[]⟩,[]⟩,r0)):=HXe
      subst hm1
      subst hm2
      have hst:=HR5.out.step wd.length HWl.out ((a:Int) + (wd.length:Int)) (by rw [HAe.out])
      rw [show (c :: t).drop wd.length = r0 by rw [HSp.out,List.drop_left]] at hst
      obtain ⟨hr6,ha6⟩:=hst
      have f5:(a:Int) + (wd.length:Int) ≤ 140737488351232:=by have:=HSz.out;have:=HS.out;have:=HWl.out;simp at this;omega
      have f6:(0:Int) ≤ (a:Int) + (wd.length:Int):=by omega
      have HFin:=Lib.hid (val_fin (k:=2) (i:=kn) (b:=0) (t:=⟨#[]⟩) (p:=none) (n:=0) (c:=0) (X:=.ok (⟨2,kn,0,⟨#[]⟩,[]⟩,r0)) HRl.out ((ha6.block _ (by omega) hRN).trans HW5.out.1) rfl hr6 (HW5.out.2.2.trans ha6 (fun _ _ h => h)) (fun v l hc => by cases hc;exact ⟨fun _ => False,.none,fun _ h => h.elim⟩))
      have hz5:=HW5.out.1
      have z0:w5.cell? ⟨w.heap.size,0,none⟩ = some (.int .i64 0):=blk_cell hz5 0
      have zf0:=blk_free hz5 0
      have z1:w5.cell? ⟨w.heap.size,1,none⟩ = some (.int .i64 0):=blk_cell hz5 1
      have zf1:=blk_free hz5 1
      have z2:w5.cell? ⟨w.heap.size,2,none⟩ = some (.float .f64 0):=blk_cell hz5 2
      have zf2:=blk_free hz5 2
      have z3:w5.cell? ⟨w.heap.size,3,none⟩ = some (.string ⟨#[]⟩):=blk_cell hz5 3
      have zf3:=blk_free hz5 3
      have z4:w5.cell? ⟨w.heap.size,4,none⟩ = some (.slice none 0 0):=blk_cell hz5 4
      have zf4:=blk_free hz5 4
      clear hnum hr6 ha6 hz5 HSp HWl HW5 HR5
      go_wp2
      refine bodyPost_ret (v:=.agg (cells5 2 kn 0 ⟨#[]⟩ none 0 0)) (results_cell_row rfl _ _ w.heap.size _ _ _ _ rfl HFin.out.1 Tryz.underlying36 rfl (by kernel_rfl)) rfl ?_
      rw [HXe.out]
      exact HFin.out.2
   have hkd:Tx.dig c = false ∧ c ≠ 45:=by
    unfold Tx.iset at q2
    rw [Bool.or_eq_true] at q2
    refine ⟨?_,fun h => q2 (.inr (decide_eq_true h))⟩
    cases hd:Tx.dig c with
    | true => exact absurd (.inl hd) q2
    | false => rfl
   have N2:=Lib.hid q2
   have HE9:Hid (∀ y:UInt8,c ≠ y → ((c.toNat:Int) == (y.toNat:Int)) = false):=fun y h => by rw [beq_eq_false_iff_ne];intro hc;exact h (UInt8.toNat_inj.1 (by omega))
   have g45:((c.toNat:Int) == 45) = false:=HE9.out 45 hkd.2
   have k1:=hkd.1
   clear hkd q2
   go_wp2_with fail
   refine (refDig21 c _).mono ?_
   rintro e w3 ⟨rfl,hw3⟩
   subst hw3
   rw [k1]
   by_cases q3:c = 126
   ·have g126:((c.toNat:Int) == 126) = true:=by rw [q3];rfl
    obtain ⟨wd,hwd⟩:∃ wd,wd = t.takeWhile Tx.fset:=⟨_,rfl⟩
    obtain ⟨r0,hr0⟩:∃ r,r = t.dropWhile Tx.fset:=⟨_,rfl⟩
    have hsp:t = wd ++ r0:=by rw [hwd,hr0];exact (List.takeWhile_append_dropWhile).symm
    have HXe:Hid (X = match rf wd with
      | none => .error (5,t.length)
      | some b => .ok (⟨3,0,b,⟨#[]⟩,[]⟩,r0)):=by show X = _;rw [HX.out,pval_at,if_neg N1.out,if_neg N2.out,if_pos q3,hwd,hr0,q3];rfl
    have hwl:wd.length ≤ t.length:=by rw [hsp,List.length_append];omega
    obtain ⟨hr3,ha3⟩:=HR2.out.step 1 (by simp) ((a:Int) + 1) (by rw [HAe.out];rfl)
    rw [show (c :: t).drop 1 = t from rfl] at hr3
    have HRw:=Lib.hid (refRow21 hr3 2 (by omega))
    rw [show inSet 2 = Tx.fset from rfl,← hwd] at HRw
    have HFl:Hid (∀ w',Calls Tryz.prog 58 #[.string ⟨wd.toArray⟩] w' (Flo21 w' (rf wd))):=fun w' => refFlo21 HRf.out ⟨wd.toArray⟩ (by show wd.toArray.size ≤ _;have:=HSz.out;have:=HS.out;simp at hwl ⊢;omega) w'
    have HW3:Hid ((w3.setCell ⟨R,1,none⟩ (.int .i64 ((a:Int) + 1))).heap[w.heap.size]? = some (.cells zero5 36 (0,0)) ∧ (w3.setCell ⟨R,1,none⟩ (.int .i64 ((a:Int) + 1))).heap[w.heap.size + 1]? = some (.cells zero5 36 (0,0)) ∧ Aside (fun j => j = R) w (w3.setCell ⟨R,1,none⟩ (.int .i64 ((a:Int) + 1)))):=⟨(ha3.block _ (blk_lt HW.out.1) hRN).trans HW.out.1,(ha3.block _ (blk_lt HW.out.2.1) hRT).trans HW.out.2.1,HW.out.2.2.trans ha3 (fun _ _ h => h)⟩
    have HR3:=Lib.hid hr3
    have HSp:=Lib.hid hsp
    have HWl:=Lib.hid hwl
    have f5:(a:Int) + 1 ≤ 140737488351232:=by have:=HSz.out;have:=HS.out;omega
    have f6:(0:Int) ≤ (a:Int) + 1:=by omega
    have e9:(ByteArray.mk wd.toArray).size = wd.length:=by show wd.toArray.size = _;simp
    clear hwd hr0 hsp hwl HX HVal HRf HF hr3 ha3 HW HR2 z0 z1 z2 z3 z4 zf0 zf1 zf2 zf3 zf4 q3
    go_wp2_with fail
    refine HRw.out.mono ?_
    rintro e w4 ⟨rfl,hb4⟩
    go_wp2_with fail
    refine (HFl.out _).mono ?_
    rintro e w5 ⟨hm,hb5⟩
    have hr5:=(HR3.out.on hb4).on hb5
    have hb45:=hb4.trans (hb5.mono hb4.size)
    have hz5:=blk_on HW3.out.1 hb45 (blk_lt HW3.out.1)
    have hn5:=blk_on HW3.out.2.1 hb45 (blk_lt HW3.out.2.1)
    have ha5:=HW3.out.2.2.trans (aside_new hb45 (fun i => i = R)) (fun _ _ h => h)
    have ea:((S.size - t.length:Nat):Int) = (a:Int) + 1:=by have:=HSz.out;omega
    have c5:w5.cell? ⟨R,1,none⟩ = some (.int .i64 ((a:Int) + 1)):=by rw [← ea];exact hr5.cell 1
    have t5:=hr5.thawed 1
    have hl5:w.heap.size + 1 < w5.heap.size:=blk_lt hn5
    have HR5:=Lib.hid hr5
    have HW5:Hid (w5.heap[w.heap.size]? = some (.cells zero5 36 (0,0)) ∧ w5.heap[w.heap.size + 1]? = some (.cells zero5 36 (0,0)) ∧ Aside (fun j => j = R) w w5):=⟨hz5,hn5,ha5⟩
    have HEa:=Lib.hid ea
    clear hb4 hb5 hb45 hz5 hn5 ha5 hr5 HRw HFl HW3 HR3 c2 t2 ea
    cases hrf:rf wd with
    | none =>
     rw [hrf] at hm HXe
     have hm:e = .returned (.tuple #[.float .f64 0,.int .i64 11]):=hm
     have HXe:Hid (X = .error (5,t.length)):=HXe
     subst hm
     have HF:=Lib.hid (refFail21 HR5.out 5 t.length (by decide))
     rw [HEa.out] at HF
     clear hrf
     go_wp2_with fail
     refine HF.out.mono ?_
     rintro e w9 ⟨rfl,hb9,ha9⟩
     have hz9:=(ha9.block _ (blk_lt HW5.out.1) hRN).trans HW5.out.1
     have hn9:=(ha9.block _ (blk_lt HW5.out.2.1) hRT).trans HW5.out.2.1
     have HFin:=Lib.hid (val_fin (k:=0) (i:=0) (b:=0) (t:=⟨#[]⟩) (p:=none) (n:=0) (c:=0) (X:=.error (5,t.length)) HRl.out hz9 rfl hb9 (HW5.out.2.2.trans ha9 (fun _ _ h => h)) (fun v l hc => by cases hc))
     have y0:w9.cell? ⟨w.heap.size + 1,0,none⟩ = some (.int .i64 0):=blk_cell hn9 0
     have y1:w9.cell? ⟨w.heap.size + 1,1,none⟩ = some (.int .i64 0):=blk_cell hn9 1
     have y2:w9.cell? ⟨w.heap.size + 1,2,none⟩ = some (.float .f64 0):=blk_cell hn9 2
     have y3:w9.cell? ⟨w.heap.size + 1,3,none⟩ = some (.string ⟨#[]⟩):=blk_cell hn9 3
     have y4:w9.cell? ⟨w.heap.size + 1,4,none⟩ = some (.slice none 0 0):=blk_cell hn9 4
     have z0:w9.cell? ⟨w.heap.size,0,none⟩ = some (.int .i64 0):=blk_cell hz9 0
     have zf0:=blk_free hz9 0
     have z1:w9.cell? ⟨w.heap.size,1,none⟩ = some (.int .i64 0):=blk_cell hz9 1
     have zf1:=blk_free hz9 1
     have z2:w9.cell? ⟨w.heap.size,2,none⟩ = some (.float .f64 0):=blk_cell hz9 2
     have zf2:=blk_free hz9 2
     have z3:w9.cell? ⟨w.heap.size,3,none⟩ = some (.string ⟨#[]⟩):=blk_cell hz9 3
     have zf3:=blk_free hz9 3
     have z4:w9.cell? ⟨w.heap.size,4,none⟩ = some (.slice none 0 0):=blk_cell hz9 4
     have zf4:=blk_free hz9 4
     clear hb9 ha9 hz9 hn9 HF c5 t5 HW5 HR5 HSp HWl HS HSz
     go_wp2
     refine bodyPost_ret (v:=.agg (cells5 0 0 0 ⟨#[]⟩ none 0 0)) (results_cell_row rfl _ _ w.heap.size _ _ _ _ rfl HFin.out.1 Tryz.underlying36 rfl (by kernel_rfl)) rfl ?_
     rw [HXe.out]
     exact HFin.out.2
    | some b =>
     rw [hrf] at hm HXe
     have hm:e = .returned (.tuple #[.float .f64 b,.int .i64 0]):=hm
     have HXe:Hid (X = .ok (⟨3,0,b,⟨#[]⟩,[]⟩,r0)):=HXe
     subst hm
     have hst:=HR5.out.step wd.length HWl.out ((a:Int) + 1 + (wd.length:Int)) (by rw [HEa.out])
     rw [show t.drop wd.length = r0 by rw [HSp.out,List.drop_left]] at hst
     obtain ⟨hr6,ha6⟩:=hst
     have f5':(a:Int) + 1 + (wd.length:Int) ≤ 140737488351232:=by have:=HSz.out;have:=HS.out;have:=HWl.out;omega
     have f6':(0:Int) ≤ (a:Int) + 1 + (wd.length:Int):=by omega
     have HFin:=Lib.hid (val_fin (k:=3) (i:=0) (b:=b) (t:=⟨#[]⟩) (p:=none) (n:=0) (c:=0) (X:=.ok (⟨3,0,b,⟨#[]⟩,[]⟩,r0)) HRl.out ((ha6.block _ (by omega) hRN).trans HW5.out.1) rfl hr6 (HW5.out.2.2.trans ha6 (fun _ _ h => h)) (fun v l hc => by cases hc;exact ⟨fun _ => False,.none,fun _ h => h.elim⟩))
     have hz5:=HW5.out.1
     have z0:w5.cell? ⟨w.heap.size,0,none⟩ = some (.int .i64 0):=blk_cell hz5 0
     have zf0:=blk_free hz5 0
     have z1:w5.cell? ⟨w.heap.size,1,none⟩ = some (.int .i64 0):=blk_cell hz5 1
     have zf1:=blk_free hz5 1
     have z2:w5.cell? ⟨w.heap.size,2,none⟩ = some (.float .f64 0):=blk_cell hz5 2
     have zf2:=blk_free hz5 2
     have z3:w5.cell? ⟨w.heap.size,3,none⟩ = some (.string ⟨#[]⟩):=blk_cell hz5 3
     have zf3:=blk_free hz5 3
     have z4:w5.cell? ⟨w.heap.size,4,none⟩ = some (.slice none 0 0):=blk_cell hz5 4
     have zf4:=blk_free hz5 4
     clear hrf hr6 ha6 hz5 HSp HWl HW5 HR5
     go_wp2
     refine bodyPost_ret (v:=.agg (cells5 3 0 b ⟨#[]⟩ none 0 0)) (results_cell_row rfl _ _ w.heap.size _ _ _ _ rfl HFin.out.1 Tryz.underlying36 rfl (by kernel_rfl)) rfl ?_
     rw [HXe.out]
     exact HFin.out.2
   have g126:((c.toNat:Int) == 126) = false:=HE9.out 126 q3
   have N3:=Lib.hid q3
   clear q3
   by_cases q4:c = 34
   ·have g34:((c.toNat:Int) == 34) = true:=by rw [q4];rfl
    have HXe:Hid (X = andP (Tx.pq c t) fun x r => .ok (⟨4,0,0,⟨x.toArray⟩,[]⟩,r)):=by
     show X = _
     rw [HX.out,pval_at,if_neg N1.out,if_neg N2.out,if_neg N3.out,if_pos q4,q4]
     rfl
    have HQ:=Lib.hid (refQuo21 c c t w3 R S HR2.out)
    generalize Tx.pq c t = Y at HXe HQ
    clear HX HVal HRf HF HR2 q4 z0 z1 z2 z3 z4 zf0 zf1 zf2 zf3 zf4 c2 t2
    go_wp2_with fail
    refine HQ.out.mono ?_
    rintro e w9 ⟨T9,rfl,hy9,hT9,ha9⟩
    have hz9:=(ha9.block _ (blk_lt HW.out.1) hRN).trans HW.out.1
    have hyX:RdY21 w9 R S X ∧ ∀ v l,X = .ok (v,l) → v = ⟨4,0,0,T9,[]⟩:=by
     rw [HXe.out]
     match Y,hy9,hT9 with
     | .error (e,m),h1,_ => exact ⟨h1,fun v l hc => by cases hc⟩
     | .ok (x,r),h1,h2 => exact ⟨h1,fun v l hc => by cases hc;rw [h2 x r rfl]⟩
    have HFin:=Lib.hid (val_fin (k:=4) (i:=0) (b:=0) (t:=T9) (p:=none) (n:=0) (c:=0) (X:=X) HRl.out hz9 rfl hyX.1 (HW.out.2.2.trans ha9 (fun _ _ h => h)) (fun v l hc => by rw [hyX.2 v l hc];exact ⟨fun _ => False,.none,fun _ h => h.elim⟩))
    have z0:w9.cell? ⟨w.heap.size,0,none⟩ = some (.int .i64 0):=blk_cell hz9 0
    have zf0:=blk_free hz9 0
    have z1:w9.cell? ⟨w.heap.size,1,none⟩ = some (.int .i64 0):=blk_cell hz9 1
    have zf1:=blk_free hz9 1
    have z2:w9.cell? ⟨w.heap.size,2,none⟩ = some (.float .f64 0):=blk_cell hz9 2
    have zf2:=blk_free hz9 2
    have z3:w9.cell? ⟨w.heap.size,3,none⟩ = some (.string ⟨#[]⟩):=blk_cell hz9 3
    have zf3:=blk_free hz9 3
    have z4:w9.cell? ⟨w.heap.size,4,none⟩ = some (.slice none 0 0):=blk_cell hz9 4
    have zf4:=blk_free hz9 4
    clear hyX hy9 hT9 ha9 hz9 HQ HW HXe
    go_wp2
    refine bodyPost_ret (v:=.agg (cells5 4 0 0 T9 none 0 0)) (results_cell_row rfl _ _ w.heap.size _ _ _ _ rfl HFin.out.1 Tryz.underlying36 rfl (by kernel_rfl)) rfl ?_
    exact HFin.out.2
   have g34:((c.toNat:Int) == 34) = false:=HE9.out 34 q4
   have N4:=Lib.hid q4
   clear q4
   by_cases q5:c = 39
   ·have g39:((c.toNat:Int) == 39) = true:=by rw [q5];rfl
    have HXe:Hid (X = andP (Tx.pq c t) fun x r => .ok (⟨5,0,0,⟨x.toArray⟩,[]⟩,r)):=by
     show X = _
     rw [HX.out,pval_at,if_neg N1.out,if_neg N2.out,if_neg N3.out,if_neg N4.out,if_pos q5,q5]
     rfl
    have HQ:=Lib.hid (refQuo21 c c t w3 R S HR2.out)
    generalize Tx.pq c t = Y at HXe HQ
    clear HX HVal HRf HF HR2 q5 z0 z1 z2 z3 z4 zf0 zf1 zf2 zf3 zf4 c2 t2
    go_wp2_with fail
    refine HQ.out.mono ?_
    rintro e w9 ⟨T9,rfl,hy9,hT9,ha9⟩
    have hz9:=(ha9.block _ (blk_lt HW.out.1) hRN).trans HW.out.1
    have hyX:RdY21 w9 R S X ∧ ∀ v l,X = .ok (v,l) → v = ⟨5,0,0,T9,[]⟩:=by
     rw [HXe.out]
     match Y,hy9,hT9 with
     | .error (e,m),h1,_ => exact ⟨h1,fun v l hc => by cases hc⟩
     | .ok (x,r),h1,h2 => exact ⟨h1,fun v l hc => by cases hc;rw [h2 x r rfl]⟩
    have HFin:=Lib.hid (val_fin (k:=5) (i:=0) (b:=0) (t:=T9) (p:=none) (n:=0) (c:=0) (X:=X) HRl.out hz9 rfl hyX.1 (HW.out.2.2.trans ha9 (fun _ _ h => h)) (fun v l hc => by rw [hyX.2 v l hc];exact ⟨fun _ => False,.none,fun _ h => h.elim⟩))
    have z0:w9.cell? ⟨w.heap.size,0,none⟩ = some (.int .i64 0):=blk_cell hz9 0
    have zf0:=blk_free hz9 0
    have z1:w9.cell? ⟨w.heap.size,1,none⟩ = some (.int .i64 0):=blk_cell hz9 1
    have zf1:=blk_free hz9 1
    have z2:w9.cell? ⟨w.heap.size,2,none⟩ = some (.float .f64 0):=blk_cell hz9 2
    have zf2:=blk_free hz9 2
    have z3:w9.cell? ⟨w.heap.size,3,none⟩ = some (.string ⟨#[]⟩):=blk_cell hz9 3
    have zf3:=blk_free hz9 3
    have z4:w9.cell? ⟨w.heap.size,4,none⟩ = some (.slice none 0 0):=blk_cell hz9 4
    have zf4:=blk_free hz9 4
    clear hyX hy9 hT9 ha9 hz9 HQ HW HXe
    go_wp2
    refine bodyPost_ret (v:=.agg (cells5 5 0 0 T9 none 0 0)) (results_cell_row rfl _ _ w.heap.size _ _ _ _ rfl HFin.out.1 Tryz.underlying36 rfl (by kernel_rfl)) rfl ?_
    exact HFin.out.2
   have g39:((c.toNat:Int) == 39) = false:=HE9.out 39 q5
   have N5:=Lib.hid q5
   clear q5
   by_cases q6:c = 91
   ·have g91:((c.toNat:Int) == 91) = true:=by rw [q6];rfl
    have HXe:Hid (X = if t.head? = some 93 then .ok (⟨7,0,0,⟨#[]⟩,[]⟩,t.tail) else lsq [] (Tx.pits (Tx.pval rf f) (t.length + 1) t)):=by
     show X = _
     rw [HX.out,Tx.pval,if_neg N1.out,if_neg N2.out,if_neg N3.out,if_neg N4.out,if_neg N5.out,if_pos q6]
     rfl
    have HCa:=Lib.hid (refList21 HR2.out f d HD4.out HS.out (fun l x r h => pval_short HRf.out f l x r h) HVal.out)
    obtain ⟨Y,hY⟩:∃ Y,Y = (if t.head? = some 93 then .ok (⟨7,0,0,⟨#[]⟩,[]⟩,t.tail) else lsq [] (Tx.pits (Tx.pval rf f) (t.length + 1) t):Tx.R (V × Tx.Bs)):=⟨_,rfl⟩
    rw [← hY] at HXe HCa
    clear hY HX HVal HRf HF HR2 q6 z0 z1 z2 z3 z4 zf0 zf1 zf2 zf3 zf4 c2 t2
    go_wp2_with fail
    refine HCa.out.mono ?_
    rintro e w9 ⟨k,i,b,t9,p,n,c9,rfl,hrd9,ha9,hown9⟩
    have hz9:=(ha9.block _ (blk_lt HW.out.1) hRN).trans HW.out.1
    have HFin:=Lib.hid (val_fin (k:=k) (i:=i) (b:=b) (t:=t9) (p:=p) (n:=n) (c:=c9) (X:=Y) HRl.out hz9 rfl hrd9 (HW.out.2.2.trans ha9 (fun _ _ h => h)) (Val21.wide (blk_lt HW.out.2.1) hown9))
    have z0:w9.cell? ⟨w.heap.size,0,none⟩ = some (.int .i64 0):=blk_cell hz9 0
    have zf0:=blk_free hz9 0
    have z1:w9.cell? ⟨w.heap.size,1,none⟩ = some (.int .i64 0):=blk_cell hz9 1
    have zf1:=blk_free hz9 1
    have z2:w9.cell? ⟨w.heap.size,2,none⟩ = some (.float .f64 0):=blk_cell hz9 2
    have zf2:=blk_free hz9 2
    have z3:w9.cell? ⟨w.heap.size,3,none⟩ = some (.string ⟨#[]⟩):=blk_cell hz9 3
    have zf3:=blk_free hz9 3
    have z4:w9.cell? ⟨w.heap.size,4,none⟩ = some (.slice none 0 0):=blk_cell hz9 4
    have zf4:=blk_free hz9 4
    clear hrd9 ha9 hown9 hz9 HCa HW
    go_wp2
    refine bodyPost_ret (v:=.agg (cells5 k i b t9 p n c9)) (results_cell_row rfl _ _ w.heap.size _ _ _ _ rfl HFin.out.1 Tryz.underlying36 rfl (by kernel_rfl)) rfl ?_
    rw [HXe.out]
    exact HFin.out.2
   have g91:((c.toNat:Int) == 91) = false:=HE9.out 91 q6
   have HXe:Hid (X = .error (5,(c :: t).length)):=by
    show X = _
    rw [HX.out,Tx.pval,if_neg N1.out,if_neg N2.out,if_neg N3.out,if_neg N4.out,if_neg N5.out,if_neg q6]
    rfl
   clear HX HVal HRf HR2 q6 z0 z1 z2 z3 z4 zf0 zf1 zf2 zf3 zf4
   go_wp2_with fail
   refine HF.out.mono ?_
   rintro e w9 ⟨rfl,hb9,ha9⟩
   have hz9:=(ha9.block _ (blk_lt HW.out.1) hRN).trans HW.out.1
   have hn9:=(ha9.block _ (blk_lt HW.out.2.1) hRT).trans HW.out.2.1
   have HFin:=Lib.hid (val_fin (k:=0) (i:=0) (b:=0) (t:=⟨#[]⟩) (p:=none) (n:=0) (c:=0) (X:=.error (5,(c :: t).length)) HRl.out hz9 rfl hb9 (HW.out.2.2.trans ha9 (fun _ _ h => h)) (fun v l hc => by cases hc))
   have y0:w9.cell? ⟨w.heap.size + 1,0,none⟩ = some (.int .i64 0):=blk_cell hn9 0
   have y1:w9.cell? ⟨w.heap.size + 1,1,none⟩ = some (.int .i64 0):=blk_cell hn9 1
   have y2:w9.cell? ⟨w.heap.size + 1,2,none⟩ = some (.float .f64 0):=blk_cell hn9 2
   have y3:w9.cell? ⟨w.heap.size + 1,3,none⟩ = some (.string ⟨#[]⟩):=blk_cell hn9 3
   have y4:w9.cell? ⟨w.heap.size + 1,4,none⟩ = some (.slice none 0 0):=blk_cell hn9 4
   have z0:w9.cell? ⟨w.heap.size,0,none⟩ = some (.int .i64 0):=blk_cell hz9 0
   have zf0:=blk_free hz9 0
   have z1:w9.cell? ⟨w.heap.size,1,none⟩ = some (.int .i64 0):=blk_cell hz9 1
   have zf1:=blk_free hz9 1
   have z2:w9.cell? ⟨w.heap.size,2,none⟩ = some (.float .f64 0):=blk_cell hz9 2
   have zf2:=blk_free hz9 2
   have z3:w9.cell? ⟨w.heap.size,3,none⟩ = some (.string ⟨#[]⟩):=blk_cell hz9 3
   have zf3:=blk_free hz9 3
   have z4:w9.cell? ⟨w.heap.size,4,none⟩ = some (.slice none 0 0):=blk_cell hz9 4
   have zf4:=blk_free hz9 4
   clear hb9 ha9 hz9 hn9 HF c2 t2 HW HS HSz
   go_wp2
   refine bodyPost_ret (v:=.agg (cells5 0 0 0 ⟨#[]⟩ none 0 0)) (results_cell_row rfl _ _ w.heap.size _ _ _ _ rfl HFin.out.1 Tryz.underlying36 rfl (by kernel_rfl)) rfl ?_
   rw [HXe.out]
   exact HFin.out.2
end Go.Proofs.YtllbniljgcgbeaaGreatDoor
namespace Go.Proofs.YtllbniljgcgbeaaGreatDoor
open Go.RowKit
attribute [local go_sem] run_store_float
theorem refParseValue21 {rf:Tx.Bs → Option Nat} (hRf:RfOk rf) (S:ByteArray) (hS:S.size ≤ 1099511627776) (w:World):Calls Tryz.prog 11 #[.string S] w fun e w' => ∃ k i b t p n c,e = .returned (.tuple #[.agg #[.int .i64 k,.int .i64 i,.float .f64 b,.string t,.slice p n c],.int .i64 (errOf (tellR S (Tx.pval rf 4 S.data.toList) (chk 1)):Nat),.int .i64 (plOf (tellR S (Tx.pval rf 4 S.data.toList) (chk 1)):Nat)]) ∧ VLies w' #[.int .i64 k,.int .i64 i,.float .f64 b,.string t,.slice p n c] (thOf (.mk 0 0 0 ⟨#[]⟩ []) (tellR S (Tx.pval rf 4 S.data.toList) (chk 1))) ∧ Below w.heap.size w w':=by
 obtain ⟨W0,hW0⟩:∃ W,W = w.alloc (.cells #[.int .i64 0,.int .i64 0,.float .f64 0,.string ⟨#[]⟩,.slice none 0 0] 36):=⟨_,rfl⟩
 obtain ⟨W1,hW1⟩:∃ W,W = W0.alloc (.cells #[.string S,.int .i64 0,.int .i64 0,.int .i64 0] 61):=⟨_,rfl⟩
 have hs0:W0.heap.size = w.heap.size + 1:=by rw [hW0];simp
 have hb0:Below w.heap.size w W0:=by rw [hW0];exact (Below.refl _ _).alloc (Nat.le_refl _) _
 have hb1:Below w.heap.size w W1:=by rw [hW1];exact hb0.alloc (by omega) _
 have hb01:Below W0.heap.size W0 W1:=by rw [hW1];exact (Below.refl _ _).alloc (Nat.le_refl _) _
 have hk0:W0.heap[w.heap.size]? = some (.cells #[.int .i64 0,.int .i64 0,.float .f64 0,.string ⟨#[]⟩,.slice none 0 0] 36 (0,0)):=by rw [hW0];exact blk_new w _
 have hk1:=blk_on hk0 hb01 (blk_lt hk0)
 have hR1:Rd21 W1 (w.heap.size + 1) S S.data.toList:=by rw [hW1,← hs0];exact Rd21.made (by omega)
 have hz1:w.heap.size + 1 < W1.heap.size:=hR1.lt
 have HO:=Lib.hid (refValue21 hRf 4 1 S.data.toList (w.heap.size + 1) S W1 (by omega) hS hR1)
 obtain ⟨y,hy⟩:∃ y,y = Tx.pval rf 4 S.data.toList:=⟨_,rfl⟩
 rw [← hy] at HO ⊢
 have HB1:=Lib.hid hb1
 have HK1:=Lib.hid hk1
 have HZ1:=Lib.hid hz1
 have HW:Hid (W1 = (w.alloc (.cells #[.int .i64 0,.int .i64 0,.float .f64 0,.string ⟨#[]⟩,.slice none 0 0] 36)).alloc (.cells #[.string S,.int .i64 0,.int .i64 0,.int .i64 0] 61)):=by show _ = _;rw [hW1,hW0]
 obtain ⟨T,hT⟩:∃ T,T = tellR S y (chk 1):=⟨_,rfl⟩
 rw [← hT]
 rw [tell_fin] at hT
 have HT:=Lib.hid hT
 clear hT hW0 hW1 hs0 hb0 hb1 hb01 hk0 hk1 hR1 hz1 hy hS hRf
 go_enter Tryz.func11,Tryz.ntmps11
 go_wp2_with fail
 rw [← HW.out]
 refine HO.out.mono ?_
 intro e w2 hone
 obtain ⟨k,i,b,t,p,n,c,rfl,hrd,ha2,hty⟩:=hone
 obtain ⟨W3,hW3⟩:∃ W,W = w2.alloc (.cells #[.int .i64 k,.int .i64 i,.float .f64 b,.string t,.slice p n c] 36):=⟨_,rfl⟩
 have hb3:Below w2.heap.size w2 W3:=by rw [hW3];exact (Below.refl _ _).alloc (Nat.le_refl _) _
 have hk3:W3.heap[w2.heap.size]? = some (.cells #[.int .i64 k,.int .i64 i,.float .f64 b,.string t,.slice p n c] 36 (0,0)):=by rw [hW3];exact blk_new w2 _
 have hlt2:=ha2.size
 have hz:=HZ1.out
 have hk0:W3.heap[w.heap.size]? = some (.cells #[.int .i64 0,.int .i64 0,.float .f64 0,.string ⟨#[]⟩,.slice none 0 0] 36 (0,0)):=blk_on ((ha2.block w.heap.size (blk_lt HK1.out) (by omega)).trans HK1.out) hb3 (by omega)
 have hrd3:RdY21 W3 (w.heap.size + 1) S y:=by
  match y,hrd with
  | .ok (_,r),h => exact Rd21.on h hb3
  | .error (e,m),h => exact Bad21.aside h (aside_new hb3 (fun _ => False)) (fun h => h)
 have hA3:Below w.heap.size w W3:=(HB1.out.trans (ha2.below (by omega) (fun i hi he => by omega))).trans (hb3.mono (by omega))
 have HE:=Lib.hid (refEnd21 y hrd3)
 have HTy:Hid (∀ x l,y = .ok (x,l) → ∃ F:Nat → Prop,VOwn W3 F #[.int .i64 k,.int .i64 i,.float .f64 b,.string t,.slice p n c] x ∧ ∀ i,F i → w.heap.size + 1 < i ∧ i < w2.heap.size):=fun x l hxl => by
  exact ⟨_,(hty x l hxl).under hb3 (fun i hi => hi.2),fun i hi => by omega⟩
 have HW3:=Lib.hid hW3
 have HK3:=Lib.hid hk3
 have HK0:=Lib.hid hk0
 have HA3:=Lib.hid hA3
 have HS2:Hid (w.heap.size + 1 < w2.heap.size):=by show _ < _;omega
 clear hrd ha2 hty hb3 hk3 hlt2 hz hk0 hrd3 hA3 hW3 HO HZ1 HK1 HB1
 go_wp2_with fail
 rw [← HW3.out]
 refine HE.out.mono ?_
 rintro e w4 ⟨rfl,hf,ha4⟩
 have hs2:=HS2.out
 have hs3:=blk_lt HK3.out
 have hs4:=ha4.size
 have hk0:=(ha4.block w.heap.size (blk_lt HK0.out) (by omega)).trans HK0.out
 have hk3:=(ha4.block w2.heap.size (blk_lt HK3.out) (by omega)).trans HK3.out
 have hb4:Below w.heap.size w w4:=HA3.out.trans (ha4.below (by omega) (fun i hi he => by omega))
 have HTy4:Hid (∀ x l,y = .ok (x,l) → ∃ F:Nat → Prop,VOwn w4 F #[.int .i64 k,.int .i64 i,.float .f64 b,.string t,.slice p n c] x ∧ ∀ i,F i → w.heap.size + 1 < i ∧ i < w2.heap.size):=fun x l hxl => by
  obtain ⟨F,h1,h2⟩:=HTy.out x l hxl
  exact ⟨F,h1.aside ha4 (fun i hi he => by have:=h2 i hi;omega),h2⟩
 have HK0:=Lib.hid hk0
 have HK3:=Lib.hid hk3
 have HB4:=Lib.hid hb4
 clear HE HTy HW3 HA3 hs2 hs3 hs4 hk0 hk3 hb4 ha4
 cases hfy:fin21 y with
 | error fe =>
  obtain ⟨er,m⟩:=fe
  rw [hfy] at hf
  have hf:Bad21 w4 (w.heap.size + 1) S er m:=hf
  obtain ⟨a,-,hl⟩:=hf.lies
  have c2:w4.cell? ⟨w.heap.size + 1,2,none⟩ = some (.int .i64 (er:Int)):=blk_cell hl 2
  have c3:w4.cell? ⟨w.heap.size + 1,3,none⟩ = some (.int .i64 ((S.size - m:Nat):Int)):=blk_cell hl 3
  have g1:((er:Int) != 0) = true:=by have:=hf.bad;rw [bne_iff_ne];omega
  have g2:((er:Int) == 0) = false:=by have:=hf.bad;rw [beq_eq_false_iff_ne];omega
  have m0:w4.cell? ⟨w.heap.size,0,none⟩ = some (.int .i64 0):=blk_cell HK0.out 0
  have m1:w4.cell? ⟨w.heap.size,1,none⟩ = some (.int .i64 0):=blk_cell HK0.out 1
  have m2:w4.cell? ⟨w.heap.size,2,none⟩ = some (.float .f64 0):=blk_cell HK0.out 2
  have m3:w4.cell? ⟨w.heap.size,3,none⟩ = some (.string ⟨#[]⟩):=blk_cell HK0.out 3
  have m4:w4.cell? ⟨w.heap.size,4,none⟩ = some (.slice none 0 0):=blk_cell HK0.out 4
  have mf0:=blk_free HK0.out 0
  have mf1:=blk_free HK0.out 1
  have mf2:=blk_free HK0.out 2
  have mf3:=blk_free HK0.out 3
  have mf4:=blk_free HK0.out 4
  obtain ⟨sp,hsp⟩:∃ sp:Nat,sp = S.size - m:=⟨_,rfl⟩
  rw [← hsp] at c3
  have HT2:Hid (T = .error (er,sp)):=by show _ = _;rw [HT.out,hfy,hsp]
  obtain ⟨X,hX⟩:∃ X,X = (((((w4.setCell ⟨w.heap.size,0,none⟩ (.int .i64 0)).setCell ⟨w.heap.size,1,none⟩ (.int .i64 0)).setCell ⟨w.heap.size,2,none⟩ (.float .f64 0)).setCell ⟨w.heap.size,3,none⟩ (.string ⟨#[]⟩)).setCell ⟨w.heap.size,4,none⟩ (.slice none 0 0)):=⟨_,rfl⟩
  have HX:Hid (X.drew.heap[w.heap.size]? = some (.cells #[.int .i64 0,.int .i64 0,.float .f64 0,.string ⟨#[]⟩,.slice none 0 0] 36 (0,0)) ∧ Below w.heap.size w X.drew):=by
   have haX:Aside (fun i => i = w.heap.size) w4 X:=by rw [hX];exact set5_aside w4 w.heap.size 0 0 0 ⟨#[]⟩ none 0 0
   refine ⟨?_,(HB4.out.trans (haX.below HB4.out.size (fun k hk he => by omega))).drew⟩
   show X.heap[w.heap.size]? = _
   rw [hX];exact set5_block HK0.out rfl 0 0 0 ⟨#[]⟩ none 0 0
  have HXe:=Lib.hid hX
  clear hf hl hsp HTy4 HK3 HT hfy hX
  go_wp2_with fail
  go_region_held3 (fun w' => w'.cell? ⟨w.heap.size + 1,2,none⟩ = some (.int .i64 (er:Int)) ∧ w'.cell? ⟨w.heap.size + 1,3,none⟩ = some (.int .i64 (sp:Int))) (go_keep) (fail)
  go_wp2
  rw [← HXe.out]
  refine bodyPost_ret (results_row3 rfl _ _ w.heap.size _ _ _ _ rfl HX.out.1 Tryz.underlying36 rfl (by kernel_rfl)) rfl ?_
  rw [HT2.out]
  exact ⟨_,_,_,_,_,_,_,rfl,vl_zero21 _,HX.out.2⟩
 | ok x =>
  rw [hfy] at hf
  have hf:Rd21 w4 (w.heap.size + 1) S []:=hf
  have c2:w4.cell? ⟨w.heap.size + 1,2,none⟩ = some (.int .i64 0):=hf.cell 2
  obtain ⟨F,hown,hF⟩:=HTy4.out x [] (fin_ok hfy)
  have m0:w4.cell? ⟨w2.heap.size,0,none⟩ = some (.int .i64 k):=blk_cell HK3.out 0
  have m1:w4.cell? ⟨w2.heap.size,1,none⟩ = some (.int .i64 i):=blk_cell HK3.out 1
  have m2:w4.cell? ⟨w2.heap.size,2,none⟩ = some (.float .f64 b):=blk_cell HK3.out 2
  have m3:w4.cell? ⟨w2.heap.size,3,none⟩ = some (.string t):=blk_cell HK3.out 3
  have m4:w4.cell? ⟨w2.heap.size,4,none⟩ = some (.slice p n c):=blk_cell HK3.out 4
  have HC:=Lib.hid (refCheck6 x w4 _ hown.lies)
  have HOwn:=Lib.hid hown
  have HF:=Lib.hid hF
  obtain ⟨er,her⟩:∃ er,er = chk 1 x:=⟨_,rfl⟩
  have HT2:Hid (T = if er = 0 then .ok x else .error (er,0)):=by show _ = _;rw [HT.out,hfy,her]
  rw [← her] at HC
  clear hf hfy hown hF HTy4 HT her
  go_wp2_with fail
  refine HC.out.mono ?_
  rintro e w5 ⟨rfl,hb5⟩
  have HB5:=Lib.hid hb5
  have HK0':=Lib.hid (blk_on HK0.out hb5 (blk_lt HK0.out))
  have HK3':=Lib.hid (blk_on HK3.out hb5 (blk_lt HK3.out))
  have m0:w5.cell? ⟨w2.heap.size,0,none⟩ = some (.int .i64 k):=blk_cell HK3'.out 0
  have m1:w5.cell? ⟨w2.heap.size,1,none⟩ = some (.int .i64 i):=blk_cell HK3'.out 1
  have m2:w5.cell? ⟨w2.heap.size,2,none⟩ = some (.float .f64 b):=blk_cell HK3'.out 2
  have m3:w5.cell? ⟨w2.heap.size,3,none⟩ = some (.string t):=blk_cell HK3'.out 3
  have m4:w5.cell? ⟨w2.heap.size,4,none⟩ = some (.slice p n c):=blk_cell HK3'.out 4
  have n0:w5.cell? ⟨w.heap.size,0,none⟩ = some (.int .i64 0):=blk_cell HK0'.out 0
  have n1:w5.cell? ⟨w.heap.size,1,none⟩ = some (.int .i64 0):=blk_cell HK0'.out 1
  have n2:w5.cell? ⟨w.heap.size,2,none⟩ = some (.float .f64 0):=blk_cell HK0'.out 2
  have n3:w5.cell? ⟨w.heap.size,3,none⟩ = some (.string ⟨#[]⟩):=blk_cell HK0'.out 3
  have n4:w5.cell? ⟨w.heap.size,4,none⟩ = some (.slice none 0 0):=blk_cell HK0'.out 4
  have mf0:=blk_free HK0'.out 0
  have mf1:=blk_free HK0'.out 1
  have mf2:=blk_free HK0'.out 2
  have mf3:=blk_free HK0'.out 3
  have mf4:=blk_free HK0'.out 4
  clear hb5 HC
  by_cases h0:er = 0
  ·have HT3:Hid (T = .ok x):=by show _ = _;rw [HT2.out,if_pos h0]
   clear HT2
   subst h0
   obtain ⟨X,hX⟩:∃ X,X = (((((w5.setCell ⟨w.heap.size,0,none⟩ (.int .i64 k)).setCell ⟨w.heap.size,1,none⟩ (.int .i64 i)).setCell ⟨w.heap.size,2,none⟩ (.float .f64 b)).setCell ⟨w.heap.size,3,none⟩ (.string t)).setCell ⟨w.heap.size,4,none⟩ (.slice p n c)):=⟨_,rfl⟩
   have HX:Hid (X.heap[w.heap.size]? = some (.cells #[.int .i64 k,.int .i64 i,.float .f64 b,.string t,.slice p n c] 36 (0,0)) ∧ VLies X #[.int .i64 k,.int .i64 i,.float .f64 b,.string t,.slice p n c] x ∧ Below w.heap.size w X):=by
    have haX:Aside (fun i => i = w.heap.size) w5 X:=by rw [hX];exact set5_aside w5 w.heap.size _ _ _ _ _ _ _
    have hs4:=HB4.out.size
    have hl3:=blk_lt HK3.out
    have hb:Below w.heap.size w w5:=HB4.out.trans (HB5.out.mono hs4)
    refine ⟨by rw [hX];exact set5_block HK0'.out rfl _ _ _ _ _ _ _,?_,hb.trans (haX.below hb.size (fun k hk he => by omega))⟩
    exact ((HOwn.out.under HB5.out (fun i hi => by have:=HF.out i hi;omega)).aside haX (fun i hi he => by have:=HF.out i hi;omega)).lies
   have HXe:=Lib.hid hX
   clear hX
   go_wp2
   rw [← HXe.out]
   refine bodyPost_ret (results_row3 rfl _ _ w.heap.size _ _ _ _ rfl HX.out.1 Tryz.underlying36 rfl (by kernel_rfl)) rfl ?_
   rw [HT3.out]
   exact ⟨_,_,_,_,_,_,_,rfl,HX.out.2.1,HX.out.2.2⟩
  ·have g1:((er:Int) != 0) = true:=by rw [bne_iff_ne];omega
   have g2:((er:Int) == 0) = false:=by rw [beq_eq_false_iff_ne];omega
   obtain ⟨X,hX⟩:∃ X,X = (((((w5.setCell ⟨w.heap.size,0,none⟩ (.int .i64 0)).setCell ⟨w.heap.size,1,none⟩ (.int .i64 0)).setCell ⟨w.heap.size,2,none⟩ (.float .f64 0)).setCell ⟨w.heap.size,3,none⟩ (.string ⟨#[]⟩)).setCell ⟨w.heap.size,4,none⟩ (.slice none 0 0)):=⟨_,rfl⟩
   have HX:Hid (X.heap[w.heap.size]? = some (.cells #[.int .i64 0,.int .i64 0,.float .f64 0,.string ⟨#[]⟩,.slice none 0 0] 36 (0,0)) ∧ Below w.heap.size w X):=by
    have haX:Aside (fun i => i = w.heap.size) w5 X:=by rw [hX];exact set5_aside w5 w.heap.size _ _ _ _ _ _ _
    have hb:Below w.heap.size w w5:=HB4.out.trans (HB5.out.mono HB4.out.size)
    exact ⟨by rw [hX];exact set5_block HK0'.out rfl _ _ _ _ _ _ _,hb.trans (haX.below hb.size (fun k hk he => by omega))⟩
   have HXe:=Lib.hid hX
   have HN:=Lib.hid h0
   clear hX h0
   go_wp2
   rw [← HXe.out]
   refine bodyPost_ret (results_row3 rfl _ _ w.heap.size _ _ _ _ rfl HX.out.1 Tryz.underlying36 rfl (by kernel_rfl)) rfl ?_
   rw [HT2.out,if_neg HN.out]
   exact ⟨_,_,_,_,_,_,_,rfl,vl_zero21 _,HX.out.2⟩
end Go.Proofs.YtllbniljgcgbeaaGreatDoor
