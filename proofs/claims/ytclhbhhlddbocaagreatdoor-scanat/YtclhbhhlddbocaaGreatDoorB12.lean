import Derived.Test.YtclhbhhlddbocaaGreatDoorB11
import Derived.Test.YtclhbhhlddbocaaGreatDoorB06
import Derived.Test.YtclhbhhlddbocaaGreatDoorB10
set_option maxRecDepth 100000
set_option maxHeartbeats 4000000
namespace Go.Proofs.YtclhbhhlddbocaaGreatDoor
open Go.RowKit
def ReadT (w:World) (a:Nat) (r:Except Nat (Ty × Nat)) (e:Ending) (w':World):Prop:=match r with
 | .error er => e = .returned (.tuple #[.agg (cells2 0 none 0 0),.int .i64 0,.int .i64 (er:Nat)]) ∧ Below w.heap.size w w'
 | .ok (t,k) => ∃ u,e = .returned (.tuple #[.agg u,.int .i64 ((a + k:Nat):Int),.int .i64 0]) ∧ TOwn w' (fun k => w.heap.size ≤ k ∧ k < w'.heap.size) u t ∧ Below w.heap.size w w'
theorem rdT_err:∀ (f:Nat) (l:List UInt8) (e:Nat),Sch.rdT f l = .error e → e ≠ 0
 | 0,l,e,h => by rw [Sch.rdT] at h;injection h with h;omega
 | f + 1,[],e,h => by rw [Sch.rdT] at h;injection h with h;omega
 | f + 1,c :: r,e,h => by
  rw [Sch.rdT] at h
  split at h
  ·injection h with h;omega
  split at h
  ·cases h
  split at h
  ·next e' he => injection h with h;rw [← h];exact rdT_err f r e' he
  ·cases h
def put2 (w:World) (g:Nat) (k:Int) (v:Value):World:=(w.setCell ⟨g,0,none⟩ (.int .i64 k)).setCell ⟨g,1,none⟩ v
theorem put2_fin {w w1:World} {k:Int} {q:Option Addr} {n c:Nat} {x:Ty} {F:Nat → Prop} (h1:w1.heap[w.heap.size]? = some (.cells (cells2 0 none 0 0) 127 (0,0))) (hb:Below w.heap.size w w1) (hs:w.heap.size + 1 ≤ w1.heap.size) (hv:TOwn w1 F (cells2 k q n c) x) (hF:∀ j,F j → w.heap.size + 1 ≤ j ∧ j < w1.heap.size) :
  (put2 w1 w.heap.size k (.slice q n c)).heap[w.heap.size]? = some (.cells (cells2 k q n c) 127 (0,0)) ∧ TOwn (put2 w1 w.heap.size k (.slice q n c)) (fun j => w.heap.size ≤ j ∧ j < (put2 w1 w.heap.size k (.slice q n c)).heap.size) (cells2 k q n c) x ∧ Below w.heap.size w (put2 w1 w.heap.size k (.slice q n c)):=by
 have hA:Aside (fun k => k = w.heap.size) w1 (put2 w1 w.heap.size k (.slice q n c)):=by
  unfold put2
  exact ((Aside.refl (fun k => k = w.heap.size) w1).setCell (p:=⟨w.heap.size,0,none⟩) (.inl rfl) _).setCell (p:=⟨w.heap.size,1,none⟩) (.inl rfl) _
 refine ⟨?_,?_,?_⟩
 ·unfold put2
  rw [blk_set (blk_set h1 0 _) 1 _]
  rfl
 ·exact (hv.aside hA (fun k hk hc => by have:=hF k hk;omega)).mono (fun j hj => ⟨by have:=hF j hj;omega,by have:=hF j hj;have:=hA.size;omega⟩)
 ·exact hb.trans (hA.below (by omega) (fun k hk hc => by omega))
theorem refReadType7 (p:Option Addr) (l:List UInt8) (c:Nat) (hl:l.length ≤ 140737488351232):∀ (f:Nat) (a:Nat) (w:World),f ≤ 4 → a ≤ l.length → At w p l → Calls Tryz.prog 168 #[.slice p l.length c,.int .i64 a,.int .i64 ((5 - f:Nat):Int)] w (ReadT w a (Sch.rdT f (l.drop a))):=by
 intro f
 induction f with
 | zero =>
  intro a w _ ha hat
  have HB:Hid (∀ o,Below w.heap.size w (w.alloc o)):=fun o => (Below.refl _ _).alloc (Nat.le_refl _) _
  rw [Sch.rdT]
  clear hat
  go_enter Tryz.func168,Tryz.ntmps168
  go_wp2
  refine bodyPost_ret (results_row3 rfl _ _ w.heap.size _ _ _ _ rfl (blk_new w _) Tryz.underlying127 rfl (by kernel_rfl)) rfl ?_
  exact ⟨rfl,HB.out _⟩
 | succ f ih =>
  intro a w hf ha hat
  have HB:Hid (∀ o,Below w.heap.size w (w.alloc o)):=fun o => (Below.refl _ _).alloc (Nat.le_refl _) _
  have hd:¬ (4:Int) < ((5 - (f + 1):Nat):Int):=by omega
  obtain ⟨dp,hdp⟩:∃ dp,dp = 5 - (f + 1):=⟨_,rfl⟩
  rw [← hdp] at hd ⊢
  by_cases hlt:a < l.length
  ·obtain ⟨b,o,rfl,hb,hc⟩:=at_some hat (by omega)
   have c0:∀ o,(w.alloc o).cell? _ = _:=fun o => cell_on (HB.out o) (hc a hlt)
   have h1:¬ (l.length:Int) ≤ (a:Int):=by omega
   have h1b:(a:Int) < (l.length:Int):=by omega
   have HD:Hid (Sch.rdT (f + 1) (l.drop a) = if l[a].toNat < 1 ∨ 7 < l[a].toNat then .error 60 else if l[a].toNat ≠ 6 ∧ l[a].toNat ≠ 7 then .ok (⟨(l[a].toNat:Int),[]⟩,1) else match Sch.rdT f (l.drop (a + 1)) with
     | .error e => .error e
     | .ok (t,j) => .ok (⟨(l[a].toNat:Int),[t]⟩,j + 1)):=by
    show _ = _
    rw [List.drop_eq_getElem_cons hlt,Sch.rdT]
    rfl
   have hih:=fun w' (hb:Below w.heap.size w w') => ih (a + 1) w' (by omega) (by omega) (hat.on hb)
   have edp:((5 - f:Nat):Int) = (dp:Int) + 1:=by omega
   rw [edp,show ((a + 1:Nat):Int) = (a:Int) + 1 by omega] at hih
   have HC:=Lib.hid hih
   have h256:=l[a].toNat_lt
   generalize l[a].toNat = z at *
   clear hc hih edp hdp ih hat hf
   by_cases h2:z < 1 ∨ 7 < z
   ·have HE:Hid (Sch.rdT (f + 1) (l.drop a) = .error 60):=by show _ = _;rw [HD.out,if_pos h2]
    rw [HE.out]
    clear HD HE HC
    rcases h2 with h2 | h2
    ·have g2:(z:Int) < 1:=by omega
     clear h2
     go_enter Tryz.func168,Tryz.ntmps168
     go_wp2
     refine bodyPost_ret (results_row3 rfl _ _ w.heap.size _ _ _ _ rfl (blk_new w _) Tryz.underlying127 rfl (by kernel_rfl)) rfl ?_
     exact ⟨rfl,HB.out _⟩
    ·have g2:¬ (z:Int) < 1:=by omega
     have g3:(7:Int) < (z:Int):=by omega
     clear h2
     go_enter Tryz.func168,Tryz.ntmps168
     go_wp2
     refine bodyPost_ret (results_row3 rfl _ _ w.heap.size _ _ _ _ rfl (blk_new w _) Tryz.underlying127 rfl (by kernel_rfl)) rfl ?_
     exact ⟨rfl,HB.out _⟩
   have g2:¬ (z:Int) < 1:=by omega
   have g3:¬ (7:Int) < (z:Int):=by omega
   by_cases h6:z ≠ 6 ∧ z ≠ 7
   ·have HE:Hid (Sch.rdT (f + 1) (l.drop a) = .ok (⟨(z:Int),[]⟩,1)):=by show _ = _;rw [HD.out,if_neg h2,if_pos h6]
    have e6:((z:Int) != 6) = true:=bne_t (by omega)
    have e7:((z:Int) != 7) = true:=bne_t (by omega)
    rw [HE.out]
    clear HD HE HC h2 h6
    go_enter Tryz.func168,Tryz.ntmps168
    go_wp2
    refine bodyPost_ret (results_row3 rfl _ _ w.heap.size _ _ _ _ rfl (blk_new w _) Tryz.underlying127 rfl (by kernel_rfl)) rfl ?_
    exact ⟨_,by rw [show ((a + 1:Nat):Int) = (a:Int) + 1 by omega];rfl,TOwn.none,HB.out _⟩
   obtain ⟨W1,hW1⟩:∃ W1,W1 = w.alloc (.cells #[.int .i64 0,.slice none 0 0] 127):=⟨_,rfl⟩
   have HBW:Hid (Below w.heap.size w W1):=by rw [hW1];exact HB.out _
   have HR0:Hid (W1.heap[w.heap.size]? = some (.cells (cells2 0 none 0 0) 127 (0,0))):=by show _ = _;rw [hW1];exact blk_new w _
   have hs1:W1.heap.size = w.heap.size + 1:=by rw [hW1];simp
   have HW1:=Lib.hid hW1
   obtain ⟨R,hR⟩:∃ R,R = Sch.rdT f (l.drop (a + 1)):=⟨_,rfl⟩
   have hterr:=rdT_err f (l.drop (a + 1))
   have HD2:Hid (Sch.rdT (f + 1) (l.drop a) = match Sch.rdT f (l.drop (a + 1)) with
     | .error e => .error e
     | .ok (t,j) => .ok (⟨(z:Int),[t]⟩,j + 1)):=by show _ = _;rw [HD.out,if_neg h2,if_neg h6]
   have HC1:=Lib.hid (HC.out W1 HBW.out)
   have hz67:z = 6 ∨ z = 7:=by omega
   clear HD HC h2 h6 hW1 g2 g3 hR
   cases hR:Sch.rdT f (l.drop (a + 1)) with
   | error er =>
    rw [hR] at HC1 HD2
    have her:=hterr er hR
    have g0:((er:Int) != 0) = true:=by rw [bne_iff_ne];omega
    have HE:Hid (Sch.rdT (f + 1) (l.drop a) = .error er):=HD2.out
    rw [HE.out]
    clear HD2 HE hR hterr her
    rcases hz67 with rfl | rfl
    all_goals
     go_enter Tryz.func168,Tryz.ntmps168
     go_wp2_with fail
     rw [← HW1.out]
     refine HC1.out.mono ?_
     rintro e w2 ⟨rfl,hb2⟩
     obtain ⟨w3,hw3⟩:∃ w3,w3 = w2.alloc (.cells #[.int .i64 0,.slice none 0 0] 127):=⟨_,rfl⟩
     have hb3:Below W1.heap.size W1 w3:=by rw [hw3];exact hb2.alloc hb2.size _
     have hb1':w3.heap[w.heap.size]? = some (.cells (cells2 0 none 0 0) 127 (0,0)):=(hb3.block _ (by omega)).trans HR0.out
     have hs3:=hb3.size
     have HF:=Lib.hid (put2_fin (w:=w) (q:=none) (n:=0) (c:=0) (F:=fun _ => False) (x:=.mk 0 []) hb1' (HBW.out.trans (hb3.mono (by omega))) (by omega) TOwn.none (fun _ h => h.elim))
     have r0:w3.cell? ⟨w.heap.size,0,none⟩ = some (.int .i64 0):=blk_cell hb1' 0
     have r1:w3.cell? ⟨w.heap.size,1,none⟩ = some (.slice none 0 0):=blk_cell hb1' 1
     have s0:=blk_free hb1' 0
     have s1:=blk_free hb1' 1
     have HW3:=Lib.hid hw3
     rw [hw3] at r0 r1 s0 s1
     clear hb1' hb3 hb2 hw3 hs3 HC1
     unfold cells2
     go_wp2
     rw [← HW3.out]
     refine bodyPost_ret (results_row3 rfl _ _ w.heap.size _ _ _ _ rfl HF.out.1 Tryz.underlying127 rfl (by kernel_rfl)) rfl ?_
     exact ⟨rfl,HF.out.2.2⟩
   | ok tk =>
    obtain ⟨t,j⟩:=tk
    rw [hR] at HC1 HD2
    have HE:Hid (Sch.rdT (f + 1) (l.drop a) = .ok (⟨(z:Int),[t]⟩,j + 1)):=HD2.out
    rw [HE.out]
    clear HD2 HE hR hterr
    have ez:(z:Int) = 6 ∨ (z:Int) = 7:=by omega
    obtain ⟨zi,hzi⟩:∃ zi:Int,zi = z:=⟨_,rfl⟩
    rw [← hzi] at c0 ez ⊢
    clear hzi hz67 h256
    rcases ez with rfl | rfl
    all_goals
     go_enter Tryz.func168,Tryz.ntmps168
     go_wp2_with fail
     rw [← HW1.out]
     refine HC1.out.mono ?_
     rintro e w2 ⟨u',rfl,hv,hb2⟩
     obtain ⟨k',p',n',c',rfl⟩:=hv.shape
     obtain ⟨w3,hw3⟩:∃ w3,w3 = (w2.alloc (.cells #[.int .i64 k',.slice p' n' c'] 127)).alloc (.cells #[.int .i64 k',.slice p' n' c'] 127):=⟨_,rfl⟩
     have hb23:Below w2.heap.size w2 w3:=by rw [hw3];exact ((Below.refl _ _).alloc (Nat.le_refl _) _).alloc (by simp) _
     have hb3:Below W1.heap.size W1 w3:=hb2.trans (hb23.mono hb2.size)
     have hb1':w3.heap[w.heap.size]? = some (.cells (cells2 0 none 0 0) 127 (0,0)):=(hb3.block _ (by omega)).trans HR0.out
     have hs2:=hb2.size
     have hs3:w3.heap.size = w2.heap.size + 2:=by rw [hw3];simp
     have hblk:w3.heap[w2.heap.size + 1]? = some (.cells (cells2 k' p' n' c') 127 (0,0)):=by rw [hw3];exact blk_second w2 _ _
     have hv3:TOwn w3 (fun k => W1.heap.size ≤ k ∧ k < w2.heap.size) (cells2 k' p' n' c') t:=hv.under hb23 (fun k hk => hk.2)
     have HF:=Lib.hid (fun zz:Int => put2_fin (k:=zz) (w:=w) (F:=fun j => W1.heap.size ≤ j ∧ j < w3.heap.size) hb1' (HBW.out.trans (hb3.mono (by omega))) (by omega) (TOwn.one (k:=zz) (G:=fun j => W1.heap.size ≤ j ∧ j < w3.heap.size) hblk hv3 (fun k hk => ⟨hk.1,by omega⟩) (fun hc => by omega) (by omega)) (fun j hj => ⟨by omega,hj.2⟩))
     have r0:w3.cell? ⟨w.heap.size,0,none⟩ = some (.int .i64 0):=blk_cell hb1' 0
     have r1:w3.cell? ⟨w.heap.size,1,none⟩ = some (.slice none 0 0):=blk_cell hb1' 1
     have s0:=blk_free hb1' 0
     have s1:=blk_free hb1' 1
     have HW3:=Lib.hid hw3
     rw [hw3] at r0 r1 s0 s1
     clear hb1' hb3 hb2 hw3 hs3 HC1 hb23 hs2 hblk hv3 hv
     unfold cells2
     go_wp2
     rw [← HW3.out]
     refine bodyPost_ret (results_row3 rfl _ _ w.heap.size _ _ _ _ rfl (HF.out _).1 Tryz.underlying127 rfl (by kernel_rfl)) rfl ?_
     exact ⟨_,by rw [show ((a + (j + 1):Nat):Int) = (a:Int) + 1 + (j:Int) by omega];rfl,(HF.out _).2.1,(HF.out _).2.2⟩
  ·have h1:(l.length:Int) ≤ (a:Int):=by omega
   have HE:Hid (Sch.rdT (f + 1) (l.drop a) = .error 30):=by show _ = _;rw [List.drop_eq_nil_of_le (by omega),Sch.rdT]
   rw [HE.out]
   clear hat ih HE hdp
   go_enter Tryz.func168,Tryz.ntmps168
   go_wp2
   refine bodyPost_ret (results_row3 rfl _ _ w.heap.size _ _ _ _ rfl (blk_new w _) Tryz.underlying127 rfl (by kernel_rfl)) rfl ?_
   exact ⟨rfl,HB.out _⟩
end Go.Proofs.YtclhbhhlddbocaaGreatDoor
namespace Go.Proofs.YtclhbhhlddbocaaGreatDoor
open Go.RowKit
attribute [local go_sem] run_store_float
def ReadC (w:World) (a:Nat) (r:Except Nat (Col × Nat)) (e:Ending) (w':World):Prop:=match r with
 | .error er => e = .returned (.tuple #[.agg (cells9 ⟨#[]⟩ 0 none 0 0 false 0 0 0 ⟨#[]⟩ none 0 0),.int .i64 0,.int .i64 (er:Nat)]) ∧ Below w.heap.size w w'
 | .ok (c,k) => ∃ u,e = .returned (.tuple #[.agg u,.int .i64 ((a + k:Nat):Int),.int .i64 0]) ∧ COwn w' (fun k => w.heap.size ≤ k ∧ k < w'.heap.size) u c ∧ Below w.heap.size w w'
theorem zero_own (w:World):COwn w (fun _ => False) (cells9 ⟨#[]⟩ 0 none 0 0 false 0 0 0 ⟨#[]⟩ none 0 0) ⟨⟨#[]⟩,.mk 0 [],false,V0⟩ :=
 ⟨fun _ => False,fun _ => False,0,none,0,0,0,0,0,⟨#[]⟩,none,0,0,rfl,TOwn.none,VOwn.none,fun _ h => h,fun _ h => h,fun _ h => h.elim⟩
def put9 (w:World) (g:Nat) (n:ByteArray) (k:Int) (s:Value) (h:Bool) (vk vi:Int) (vb:Nat) (vt:ByteArray) (vs:Value):World :=
 ((((((((w.setCell ⟨g,0,none⟩ (.string n)).setCell ⟨g,1,none⟩ (.int .i64 k)).setCell ⟨g,2,none⟩ s).setCell ⟨g,3,none⟩ (.bool h)).setCell ⟨g,4,none⟩ (.int .i64 vk)).setCell ⟨g,5,none⟩ (.int .i64 vi)).setCell ⟨g,6,none⟩ (.float .f64 vb)).setCell ⟨g,7,none⟩ (.string vt)).setCell ⟨g,8,none⟩ vs
theorem put9_fin {w w1:World} {n:ByteArray} {k:Int} {tp:Option Addr} {tn tc:Nat} {h:Bool} {vk vi:Int} {vb:Nat} {vt:ByteArray} {vp:Option Addr} {vn vc:Nat} {c:Col} {F:Nat → Prop} (h1:w1.heap[w.heap.size]? = some (.cells (cells9 ⟨#[]⟩ 0 none 0 0 false 0 0 0 ⟨#[]⟩ none 0 0) 133 (0,0))) (hb:Below w.heap.size w w1) (hs:w.heap.size + 1 ≤ w1.heap.size) (hv:COwn w1 F (cells9 n k tp tn tc h vk vi vb vt vp vn vc) c) (hF:∀ j,F j → w.heap.size + 1 ≤ j ∧ j < w1.heap.size) :
  (put9 w1 w.heap.size n k (.slice tp tn tc) h vk vi vb vt (.slice vp vn vc)).heap[w.heap.size]? = some (.cells (cells9 n k tp tn tc h vk vi vb vt vp vn vc) 133 (0,0)) ∧ COwn (put9 w1 w.heap.size n k (.slice tp tn tc) h vk vi vb vt (.slice vp vn vc)) (fun j => w.heap.size ≤ j ∧ j < (put9 w1 w.heap.size n k (.slice tp tn tc) h vk vi vb vt (.slice vp vn vc)).heap.size) (cells9 n k tp tn tc h vk vi vb vt vp vn vc) c ∧ Below w.heap.size w (put9 w1 w.heap.size n k (.slice tp tn tc) h vk vi vb vt (.slice vp vn vc)):=by
 have a0:=Aside.refl (fun k => k = w.heap.size) w1
 have a1:=a0.setCell (p:=⟨w.heap.size,0,none⟩) (.inl rfl) (.string n)
 have a2:=a1.setCell (p:=⟨w.heap.size,1,none⟩) (.inl rfl) (.int .i64 k)
 have a3:=a2.setCell (p:=⟨w.heap.size,2,none⟩) (.inl rfl) (.slice tp tn tc)
 have a4:=a3.setCell (p:=⟨w.heap.size,3,none⟩) (.inl rfl) (.bool h)
 have a5:=a4.setCell (p:=⟨w.heap.size,4,none⟩) (.inl rfl) (.int .i64 vk)
 have a6:=a5.setCell (p:=⟨w.heap.size,5,none⟩) (.inl rfl) (.int .i64 vi)
 have a7:=a6.setCell (p:=⟨w.heap.size,6,none⟩) (.inl rfl) (.float .f64 vb)
 have a8:=a7.setCell (p:=⟨w.heap.size,7,none⟩) (.inl rfl) (.string vt)
 have a9:=a8.setCell (p:=⟨w.heap.size,8,none⟩) (.inl rfl) (.slice vp vn vc)
 have hA:Aside (fun k => k = w.heap.size) w1 (put9 w1 w.heap.size n k (.slice tp tn tc) h vk vi vb vt (.slice vp vn vc)):=a9
 clear a0 a1 a2 a3 a4 a5 a6 a7 a8 a9
 have b0:w1.heap[w.heap.size]? = some (.cells (cells9 ⟨#[]⟩ 0 none 0 0 false 0 0 0 ⟨#[]⟩ none 0 0) 133 (0,0)):=h1
 have b1:(w1.setCell ⟨w.heap.size,0,none⟩ (.string n)).heap[w.heap.size]? = some (.cells (cells9 n 0 none 0 0 false 0 0 0 ⟨#[]⟩ none 0 0) 133 (0,0)):=blk_set b0 0 (.string n)
 have b2:((w1.setCell ⟨w.heap.size,0,none⟩ (.string n)).setCell ⟨w.heap.size,1,none⟩ (.int .i64 k)).heap[w.heap.size]? = some (.cells (cells9 n k none 0 0 false 0 0 0 ⟨#[]⟩ none 0 0) 133 (0,0)):=blk_set b1 1 (.int .i64 k)
 have b3:(((w1.setCell ⟨w.heap.size,0,none⟩ (.string n)).setCell ⟨w.heap.size,1,none⟩ (.int .i64 k)).setCell ⟨w.heap.size,2,none⟩ (.slice tp tn tc)).heap[w.heap.size]? = some (.cells (cells9 n k tp tn tc false 0 0 0 ⟨#[]⟩ none 0 0) 133 (0,0)):=blk_set b2 2 (.slice tp tn tc)
 have b4:((((w1.setCell ⟨w.heap.size,0,none⟩ (.string n)).setCell ⟨w.heap.size,1,none⟩ (.int .i64 k)).setCell ⟨w.heap.size,2,none⟩ (.slice tp tn tc)).setCell ⟨w.heap.size,3,none⟩ (.bool h)).heap[w.heap.size]? = some (.cells (cells9 n k tp tn tc h 0 0 0 ⟨#[]⟩ none 0 0) 133 (0,0)):=blk_set b3 3 (.bool h)
 have b5:(((((w1.setCell ⟨w.heap.size,0,none⟩ (.string n)).setCell ⟨w.heap.size,1,none⟩ (.int .i64 k)).setCell ⟨w.heap.size,2,none⟩ (.slice tp tn tc)).setCell ⟨w.heap.size,3,none⟩ (.bool h)).setCell ⟨w.heap.size,4,none⟩ (.int .i64 vk)).heap[w.heap.size]? = some (.cells (cells9 n k tp tn tc h vk 0 0 ⟨#[]⟩ none 0 0) 133 (0,0)):=blk_set b4 4 (.int .i64 vk)
 have b6:((((((w1.setCell ⟨w.heap.size,0,none⟩ (.string n)).setCell ⟨w.heap.size,1,none⟩ (.int .i64 k)).setCell ⟨w.heap.size,2,none⟩ (.slice tp tn tc)).setCell ⟨w.heap.size,3,none⟩ (.bool h)).setCell ⟨w.heap.size,4,none⟩ (.int .i64 vk)).setCell ⟨w.heap.size,5,none⟩ (.int .i64 vi)).heap[w.heap.size]? = some (.cells (cells9 n k tp tn tc h vk vi 0 ⟨#[]⟩ none 0 0) 133 (0,0)):=blk_set b5 5 (.int .i64 vi)
 have b7:(((((((w1.setCell ⟨w.heap.size,0,none⟩ (.string n)).setCell ⟨w.heap.size,1,none⟩ (.int .i64 k)).setCell ⟨w.heap.size,2,none⟩ (.slice tp tn tc)).setCell ⟨w.heap.size,3,none⟩ (.bool h)).setCell ⟨w.heap.size,4,none⟩ (.int .i64 vk)).setCell ⟨w.heap.size,5,none⟩ (.int .i64 vi)).setCell ⟨w.heap.size,6,none⟩ (.float .f64 vb)).heap[w.heap.size]? = some (.cells (cells9 n k tp tn tc h vk vi vb ⟨#[]⟩ none 0 0) 133 (0,0)):=blk_set b6 6 (.float .f64 vb)
 have b8:((((((((w1.setCell ⟨w.heap.size,0,none⟩ (.string n)).setCell ⟨w.heap.size,1,none⟩ (.int .i64 k)).setCell ⟨w.heap.size,2,none⟩ (.slice tp tn tc)).setCell ⟨w.heap.size,3,none⟩ (.bool h)).setCell ⟨w.heap.size,4,none⟩ (.int .i64 vk)).setCell ⟨w.heap.size,5,none⟩ (.int .i64 vi)).setCell ⟨w.heap.size,6,none⟩ (.float .f64 vb)).setCell ⟨w.heap.size,7,none⟩ (.string vt)).heap[w.heap.size]? = some (.cells (cells9 n k tp tn tc h vk vi vb vt none 0 0) 133 (0,0)):=blk_set b7 7 (.string vt)
 have b9:(((((((((w1.setCell ⟨w.heap.size,0,none⟩ (.string n)).setCell ⟨w.heap.size,1,none⟩ (.int .i64 k)).setCell ⟨w.heap.size,2,none⟩ (.slice tp tn tc)).setCell ⟨w.heap.size,3,none⟩ (.bool h)).setCell ⟨w.heap.size,4,none⟩ (.int .i64 vk)).setCell ⟨w.heap.size,5,none⟩ (.int .i64 vi)).setCell ⟨w.heap.size,6,none⟩ (.float .f64 vb)).setCell ⟨w.heap.size,7,none⟩ (.string vt)).setCell ⟨w.heap.size,8,none⟩ (.slice vp vn vc)).heap[w.heap.size]? = some (.cells (cells9 n k tp tn tc h vk vi vb vt vp vn vc) 133 (0,0)):=blk_set b8 8 (.slice vp vn vc)
 refine ⟨b9,?_,?_⟩
 ·exact (hv.aside hA (fun k hk hc => by have:=hF k hk;omega)).mono (fun j hj => ⟨by have:=hF j hj;omega,by have:=hF j hj;have:=hA.size;omega⟩)
 ·exact hb.trans (hA.below (by omega) (fun k hk hc => by omega))
theorem find_any (n:ByteArray):∀ (s:List Col) (k:Nat),(Sch.find n s k).isSome = s.any (fun x => decide (x.name = n))
 | [],_ => rfl
 | c :: r,k => by
  rw [Sch.find,List.any_cons]
  by_cases h:c.name = n
  ·rw [if_pos h,decide_eq_true h];rfl
  ·rw [if_neg h,decide_eq_false h,find_any n r (k + 1)];rfl
theorem refReadColumn7 (s:List Col) (ps:Option Addr) (cs:Nat) (p:Option Addr) (l:List UInt8) (c:Nat) (hl:l.length ≤ 140737488351232) (hlc:l.length ≤ c) (a:Nat) (w:World) (hs:s.length * 120 ≤ 140737488351232) (ha:a ≤ l.length) (hx:Cols w ps s) (hat:At w p l) :
  Calls Tryz.prog 146 #[.slice ps s.length cs,.slice p l.length c,.int .i64 a] w (ReadC w a (Sch.rdC s (l.drop a))):=by
 obtain ⟨R,hR⟩:∃ R,R = Sch.rdC s (l.drop a):=⟨_,rfl⟩
 have HRd:Hid (R = Sch.rdC s (l.drop a)):=hR
 rw [← hR]
 clear hR
 obtain ⟨W1,hW1⟩:∃ W1,W1 = (w.alloc (.cells #[.string ⟨#[]⟩,.int .i64 0,.slice none 0 0,.bool false,.int .i64 0,.int .i64 0,.float .f64 0,.string ⟨#[]⟩,.slice none 0 0] 133)).alloc (.cells #[.string ⟨#[]⟩,.int .i64 0,.slice none 0 0,.bool false,.int .i64 0,.int .i64 0,.float .f64 0,.string ⟨#[]⟩,.slice none 0 0] 133):=⟨_,rfl⟩
 have HBW:Hid (Below w.heap.size w W1):=by rw [hW1];exact ((Below.refl _ _).alloc (Nat.le_refl _) _).alloc (by simp) _
 have hs1:W1.heap.size = w.heap.size + 2:=by rw [hW1];simp
 have HR0:Hid (W1.heap[w.heap.size]? = some (.cells (cells9 ⟨#[]⟩ 0 none 0 0 false 0 0 0 ⟨#[]⟩ none 0 0) 133 (0,0))):=by show _ = _;rw [hW1];exact blk_first w _ _
 have HN0:Hid (W1.heap[w.heap.size + 1]? = some (.cells (cells9 ⟨#[]⟩ 0 none 0 0 false 0 0 0 ⟨#[]⟩ none 0 0) 133 (0,0))):=by show _ = _;rw [hW1];exact blk_second w _ _
 have HW1:=Lib.hid hW1
 have HX:=Lib.hid (hx.on HBW.out)
 have HA:=Lib.hid (hat.on HBW.out)
 have HG:=Lib.hid (refNum7 p c l a hl W1 HA.out)
 clear hW1 hx hat
 go_enter Tryz.func146,Tryz.ntmps146
 go_wp2_with fail
 rw [← HW1.out]
 refine HG.out.mono ?_
 rintro e w1 ⟨rfl,hw⟩
 rw [hw]
 clear hw w1 HG HW1
 cases hn:Sch.num (l.drop a) with
 | error er =>
  have her:=num_err hn
  have g0:((er:Int) != 0) = true:=by rw [bne_iff_ne];omega
  have HE:Hid (R = .error er):=by show _ = _;rw [HRd.out,Sch.rdC,hn]
  simp only [numV]
  clear hn HRd her
  have hz0:W1.heap[w.heap.size]? = some (.cells (cells9 ⟨#[]⟩ 0 none 0 0 false 0 0 0 ⟨#[]⟩ none 0 0) 133 (0,0)):=((Below.refl W1.heap.size W1).block _ (by omega)).trans HR0.out
  have hz1:W1.heap[w.heap.size + 1]? = some (.cells (cells9 ⟨#[]⟩ 0 none 0 0 false 0 0 0 ⟨#[]⟩ none 0 0) 133 (0,0)):=((Below.refl W1.heap.size W1).block _ (by omega)).trans HN0.out
  have r0:W1.cell? ⟨w.heap.size,0,none⟩ = some (.string ⟨#[]⟩):=blk_cell hz0 0
  have r1:W1.cell? ⟨w.heap.size,1,none⟩ = some (.int .i64 0):=blk_cell hz0 1
  have r2:W1.cell? ⟨w.heap.size,2,none⟩ = some (.slice none 0 0):=blk_cell hz0 2
  have r3:W1.cell? ⟨w.heap.size,3,none⟩ = some (.bool false):=blk_cell hz0 3
  have r4:W1.cell? ⟨w.heap.size,4,none⟩ = some (.int .i64 0):=blk_cell hz0 4
  have r5:W1.cell? ⟨w.heap.size,5,none⟩ = some (.int .i64 0):=blk_cell hz0 5
  have r6:W1.cell? ⟨w.heap.size,6,none⟩ = some (.float .f64 0):=blk_cell hz0 6
  have r7:W1.cell? ⟨w.heap.size,7,none⟩ = some (.string ⟨#[]⟩):=blk_cell hz0 7
  have r8:W1.cell? ⟨w.heap.size,8,none⟩ = some (.slice none 0 0):=blk_cell hz0 8
  have rf0:=blk_free hz0 0
  have rf1:=blk_free hz0 1
  have rf2:=blk_free hz0 2
  have rf3:=blk_free hz0 3
  have rf4:=blk_free hz0 4
  have rf5:=blk_free hz0 5
  have rf6:=blk_free hz0 6
  have rf7:=blk_free hz0 7
  have rf8:=blk_free hz0 8
  have n0:W1.cell? ⟨w.heap.size + 1,0,none⟩ = some (.string ⟨#[]⟩):=blk_cell hz1 0
  have n1:W1.cell? ⟨w.heap.size + 1,1,none⟩ = some (.int .i64 0):=blk_cell hz1 1
  have n2:W1.cell? ⟨w.heap.size + 1,2,none⟩ = some (.slice none 0 0):=blk_cell hz1 2
  have n3:W1.cell? ⟨w.heap.size + 1,3,none⟩ = some (.bool false):=blk_cell hz1 3
  have n4:W1.cell? ⟨w.heap.size + 1,4,none⟩ = some (.int .i64 0):=blk_cell hz1 4
  have n5:W1.cell? ⟨w.heap.size + 1,5,none⟩ = some (.int .i64 0):=blk_cell hz1 5
  have n6:W1.cell? ⟨w.heap.size + 1,6,none⟩ = some (.float .f64 0):=blk_cell hz1 6
  have n7:W1.cell? ⟨w.heap.size + 1,7,none⟩ = some (.string ⟨#[]⟩):=blk_cell hz1 7
  have n8:W1.cell? ⟨w.heap.size + 1,8,none⟩ = some (.slice none 0 0):=blk_cell hz1 8
  have HF:=Lib.hid (put9_fin (w:=w) (F:=fun _ => False) (c:=⟨⟨#[]⟩,.mk 0 [],false,V0⟩) hz0 (HBW.out.trans ((Below.refl W1.heap.size W1).mono (by omega))) (by have:=(Below.refl W1.heap.size W1).size;omega) (zero_own _) (fun _ h => h.elim))
  clear hz0 hz1
  go_wp2
  refine bodyPost_ret (results_row3 rfl _ _ w.heap.size _ _ _ _ rfl HF.out.1 Tryz.underlying133 rfl (by kernel_rfl)) rfl ?_
  rw [HE.out]
  exact ⟨rfl,HF.out.2.2⟩
 | ok nk =>
  obtain ⟨n,k0⟩:=nk
  simp only [numV]
  rw [show ((a + k0:Nat):Int) = (a:Int) + (k0:Int) by omega]
  by_cases hn0:n = 0
  ·have g0:((n:Int) == 0) = true:=beq_t (by omega)
   have HE:Hid (R = .error 70):=by show _ = _;rw [HRd.out,Sch.rdC,hn];dsimp only;rw [if_pos hn0]
   clear hn HRd hn0
   have hz0:W1.heap[w.heap.size]? = some (.cells (cells9 ⟨#[]⟩ 0 none 0 0 false 0 0 0 ⟨#[]⟩ none 0 0) 133 (0,0)):=((Below.refl W1.heap.size W1).block _ (by omega)).trans HR0.out
   have hz1:W1.heap[w.heap.size + 1]? = some (.cells (cells9 ⟨#[]⟩ 0 none 0 0 false 0 0 0 ⟨#[]⟩ none 0 0) 133 (0,0)):=((Below.refl W1.heap.size W1).block _ (by omega)).trans HN0.out
   have r0:W1.cell? ⟨w.heap.size,0,none⟩ = some (.string ⟨#[]⟩):=blk_cell hz0 0
   have r1:W1.cell? ⟨w.heap.size,1,none⟩ = some (.int .i64 0):=blk_cell hz0 1
   have r2:W1.cell? ⟨w.heap.size,2,none⟩ = some (.slice none 0 0):=blk_cell hz0 2
   have r3:W1.cell? ⟨w.heap.size,3,none⟩ = some (.bool false):=blk_cell hz0 3
   have r4:W1.cell? ⟨w.heap.size,4,none⟩ = some (.int .i64 0):=blk_cell hz0 4
   have r5:W1.cell? ⟨w.heap.size,5,none⟩ = some (.int .i64 0):=blk_cell hz0 5
   have r6:W1.cell? ⟨w.heap.size,6,none⟩ = some (.float .f64 0):=blk_cell hz0 6
   have r7:W1.cell? ⟨w.heap.size,7,none⟩ = some (.string ⟨#[]⟩):=blk_cell hz0 7
   have r8:W1.cell? ⟨w.heap.size,8,none⟩ = some (.slice none 0 0):=blk_cell hz0 8
   have rf0:=blk_free hz0 0
   have rf1:=blk_free hz0 1
   have rf2:=blk_free hz0 2
   have rf3:=blk_free hz0 3
   have rf4:=blk_free hz0 4
   have rf5:=blk_free hz0 5
   have rf6:=blk_free hz0 6
   have rf7:=blk_free hz0 7
   have rf8:=blk_free hz0 8
   have n0:W1.cell? ⟨w.heap.size + 1,0,none⟩ = some (.string ⟨#[]⟩):=blk_cell hz1 0
   have n1:W1.cell? ⟨w.heap.size + 1,1,none⟩ = some (.int .i64 0):=blk_cell hz1 1
   have n2:W1.cell? ⟨w.heap.size + 1,2,none⟩ = some (.slice none 0 0):=blk_cell hz1 2
   have n3:W1.cell? ⟨w.heap.size + 1,3,none⟩ = some (.bool false):=blk_cell hz1 3
   have n4:W1.cell? ⟨w.heap.size + 1,4,none⟩ = some (.int .i64 0):=blk_cell hz1 4
   have n5:W1.cell? ⟨w.heap.size + 1,5,none⟩ = some (.int .i64 0):=blk_cell hz1 5
   have n6:W1.cell? ⟨w.heap.size + 1,6,none⟩ = some (.float .f64 0):=blk_cell hz1 6
   have n7:W1.cell? ⟨w.heap.size + 1,7,none⟩ = some (.string ⟨#[]⟩):=blk_cell hz1 7
   have n8:W1.cell? ⟨w.heap.size + 1,8,none⟩ = some (.slice none 0 0):=blk_cell hz1 8
   have HF:=Lib.hid (put9_fin (w:=w) (F:=fun _ => False) (c:=⟨⟨#[]⟩,.mk 0 [],false,V0⟩) hz0 (HBW.out.trans ((Below.refl W1.heap.size W1).mono (by omega))) (by have:=(Below.refl W1.heap.size W1).size;omega) (zero_own _) (fun _ h => h.elim))
   clear hz0 hz1
   go_wp2
   refine bodyPost_ret (results_row3 rfl _ _ w.heap.size _ _ _ _ rfl HF.out.1 Tryz.underlying133 rfl (by kernel_rfl)) rfl ?_
   rw [HE.out]
   exact ⟨rfl,HF.out.2.2⟩
  have g0:((n:Int) == 0) = false:=beq_f (by omega)
  have HRd1:Hid (R = match Sch.text 16 70 (l.drop a) with
    | .error e => .error e
    | .ok (s_1,j) => if Sch.name s_1 = false then .error 70 else if s.any (fun x => decide (x.name = s_1)) then .error 71 else match Sch.rdT 4 ((l.drop a).drop j) with
     | .error e => .error e
     | .ok (t,j2) => match Sch.bit ((l.drop a).drop (j + j2)) with
      | .error e => .error e
      | .ok (h,j3) => if h = 0 then .ok (⟨s_1,t,false,V0⟩,j + j2 + j3) else match Sch.rdV t ((l.drop a).drop (j + j2 + j3)) with
       | .error e => .error e
       | .ok (v,j4) => .ok (⟨s_1,t,true,v⟩,j + j2 + j3 + j4)):=by
   show _ = _
   rw [HRd.out,Sch.rdC,hn]
   exact if_neg hn0
  have HT:=Lib.hid (refText7 p l c a 16 70 hl hlc ha (by omega) W1 HA.out)
  clear hn HRd hn0
  go_wp2_with fail
  refine HT.out.mono ?_
  rintro e w1 ⟨rfl,hw⟩
  rw [hw]
  clear hw w1 HT
  cases hnm:Sch.text 16 70 (l.drop a) with
  | error er =>
   have her:=text_err (by decide) hnm
   have g1:((er:Int) != 0) = true:=by rw [bne_iff_ne];omega
   have HE:Hid (R = .error er):=by show _ = _;rw [HRd1.out,hnm]
   simp only [textV]
   clear hnm HRd1 her
   have hz0:W1.heap[w.heap.size]? = some (.cells (cells9 ⟨#[]⟩ 0 none 0 0 false 0 0 0 ⟨#[]⟩ none 0 0) 133 (0,0)):=((Below.refl W1.heap.size W1).block _ (by omega)).trans HR0.out
   have hz1:W1.heap[w.heap.size + 1]? = some (.cells (cells9 ⟨#[]⟩ 0 none 0 0 false 0 0 0 ⟨#[]⟩ none 0 0) 133 (0,0)):=((Below.refl W1.heap.size W1).block _ (by omega)).trans HN0.out
   have r0:W1.cell? ⟨w.heap.size,0,none⟩ = some (.string ⟨#[]⟩):=blk_cell hz0 0
   have r1:W1.cell? ⟨w.heap.size,1,none⟩ = some (.int .i64 0):=blk_cell hz0 1
   have r2:W1.cell? ⟨w.heap.size,2,none⟩ = some (.slice none 0 0):=blk_cell hz0 2
   have r3:W1.cell? ⟨w.heap.size,3,none⟩ = some (.bool false):=blk_cell hz0 3
   have r4:W1.cell? ⟨w.heap.size,4,none⟩ = some (.int .i64 0):=blk_cell hz0 4
   have r5:W1.cell? ⟨w.heap.size,5,none⟩ = some (.int .i64 0):=blk_cell hz0 5
   have r6:W1.cell? ⟨w.heap.size,6,none⟩ = some (.float .f64 0):=blk_cell hz0 6
   have r7:W1.cell? ⟨w.heap.size,7,none⟩ = some (.string ⟨#[]⟩):=blk_cell hz0 7
   have r8:W1.cell? ⟨w.heap.size,8,none⟩ = some (.slice none 0 0):=blk_cell hz0 8
   have rf0:=blk_free hz0 0
   have rf1:=blk_free hz0 1
   have rf2:=blk_free hz0 2
   have rf3:=blk_free hz0 3
   have rf4:=blk_free hz0 4
   have rf5:=blk_free hz0 5
   have rf6:=blk_free hz0 6
   have rf7:=blk_free hz0 7
   have rf8:=blk_free hz0 8
   have n0:W1.cell? ⟨w.heap.size + 1,0,none⟩ = some (.string ⟨#[]⟩):=blk_cell hz1 0
   have n1:W1.cell? ⟨w.heap.size + 1,1,none⟩ = some (.int .i64 0):=blk_cell hz1 1
   have n2:W1.cell? ⟨w.heap.size + 1,2,none⟩ = some (.slice none 0 0):=blk_cell hz1 2
   have n3:W1.cell? ⟨w.heap.size + 1,3,none⟩ = some (.bool false):=blk_cell hz1 3
   have n4:W1.cell? ⟨w.heap.size + 1,4,none⟩ = some (.int .i64 0):=blk_cell hz1 4
   have n5:W1.cell? ⟨w.heap.size + 1,5,none⟩ = some (.int .i64 0):=blk_cell hz1 5
   have n6:W1.cell? ⟨w.heap.size + 1,6,none⟩ = some (.float .f64 0):=blk_cell hz1 6
   have n7:W1.cell? ⟨w.heap.size + 1,7,none⟩ = some (.string ⟨#[]⟩):=blk_cell hz1 7
   have n8:W1.cell? ⟨w.heap.size + 1,8,none⟩ = some (.slice none 0 0):=blk_cell hz1 8
   have HF:=Lib.hid (put9_fin (w:=w) (F:=fun _ => False) (c:=⟨⟨#[]⟩,.mk 0 [],false,V0⟩) hz0 (HBW.out.trans ((Below.refl W1.heap.size W1).mono (by omega))) (by have:=(Below.refl W1.heap.size W1).size;omega) (zero_own _) (fun _ h => h.elim))
   clear hz0 hz1
   go_wp2
   refine bodyPost_ret (results_row3 rfl _ _ w.heap.size _ _ _ _ rfl HF.out.1 Tryz.underlying133 rfl (by kernel_rfl)) rfl ?_
   rw [HE.out]
   exact ⟨rfl,HF.out.2.2⟩
  | ok nj =>
   obtain ⟨nm,j⟩:=nj
   simp only [textV]
   have hjl:a + j ≤ l.length:=by
    obtain ⟨-,-,h3,r,h4⟩:=Sch.text_ok hnm
    have hq:=congrArg List.length h4
    have hss:nm.data.toList.length = nm.size:=by rw [Array.length_toList];rfl
    rw [List.length_drop,List.length_append,List.length_append] at hq
    omega
   have HRd2:Hid (R = if Sch.name nm = false then .error 70 else if s.any (fun x => decide (x.name = nm)) then .error 71 else match Sch.rdT 4 (l.drop (a + j)) with
     | .error e => .error e
     | .ok (t,j2) => match Sch.bit (l.drop (a + j + j2)) with
      | .error e => .error e
      | .ok (h,j3) => if h = 0 then .ok (⟨nm,t,false,V0⟩,j + j2 + j3) else match Sch.rdV t (l.drop (a + j + j2 + j3)) with
       | .error e => .error e
       | .ok (v,j4) => .ok (⟨nm,t,true,v⟩,j + j2 + j3 + j4)):=by
    show _ = _
    rw [HRd1.out,hnm]
    simp only [List.drop_drop,Nat.add_assoc]
   rw [show ((a + j:Nat):Int) = (a:Int) + (j:Int) by omega]
   clear hnm HRd1
   obtain ⟨rn,hrn⟩:∃ rn,rn = Sch.name nm:=⟨_,rfl⟩
   have HNm:=Lib.hid (refName7 nm W1)
   rw [← hrn] at HNm HRd2
   clear hrn
   go_wp2_with fail
   refine HNm.out.mono ?_
   rintro e w1 ⟨rfl,hw⟩
   rw [hw]
   clear hw w1 HNm
   cases rn with
   | false =>
    have HE:Hid (R = .error 70):=HRd2.out
    clear HRd2
    have hz0:W1.heap[w.heap.size]? = some (.cells (cells9 ⟨#[]⟩ 0 none 0 0 false 0 0 0 ⟨#[]⟩ none 0 0) 133 (0,0)):=((Below.refl W1.heap.size W1).block _ (by omega)).trans HR0.out
    have hz1:W1.heap[w.heap.size + 1]? = some (.cells (cells9 ⟨#[]⟩ 0 none 0 0 false 0 0 0 ⟨#[]⟩ none 0 0) 133 (0,0)):=((Below.refl W1.heap.size W1).block _ (by omega)).trans HN0.out
    have r0:W1.cell? ⟨w.heap.size,0,none⟩ = some (.string ⟨#[]⟩):=blk_cell hz0 0
    have r1:W1.cell? ⟨w.heap.size,1,none⟩ = some (.int .i64 0):=blk_cell hz0 1
    have r2:W1.cell? ⟨w.heap.size,2,none⟩ = some (.slice none 0 0):=blk_cell hz0 2
    have r3:W1.cell? ⟨w.heap.size,3,none⟩ = some (.bool false):=blk_cell hz0 3
    have r4:W1.cell? ⟨w.heap.size,4,none⟩ = some (.int .i64 0):=blk_cell hz0 4
    have r5:W1.cell? ⟨w.heap.size,5,none⟩ = some (.int .i64 0):=blk_cell hz0 5
    have r6:W1.cell? ⟨w.heap.size,6,none⟩ = some (.float .f64 0):=blk_cell hz0 6
    have r7:W1.cell? ⟨w.heap.size,7,none⟩ = some (.string ⟨#[]⟩):=blk_cell hz0 7
    have r8:W1.cell? ⟨w.heap.size,8,none⟩ = some (.slice none 0 0):=blk_cell hz0 8
    have rf0:=blk_free hz0 0
    have rf1:=blk_free hz0 1
    have rf2:=blk_free hz0 2
    have rf3:=blk_free hz0 3
    have rf4:=blk_free hz0 4
    have rf5:=blk_free hz0 5
    have rf6:=blk_free hz0 6
    have rf7:=blk_free hz0 7
    have rf8:=blk_free hz0 8
    have n0:W1.cell? ⟨w.heap.size + 1,0,none⟩ = some (.string ⟨#[]⟩):=blk_cell hz1 0
    have n1:W1.cell? ⟨w.heap.size + 1,1,none⟩ = some (.int .i64 0):=blk_cell hz1 1
    have n2:W1.cell? ⟨w.heap.size + 1,2,none⟩ = some (.slice none 0 0):=blk_cell hz1 2
    have n3:W1.cell? ⟨w.heap.size + 1,3,none⟩ = some (.bool false):=blk_cell hz1 3
    have n4:W1.cell? ⟨w.heap.size + 1,4,none⟩ = some (.int .i64 0):=blk_cell hz1 4
    have n5:W1.cell? ⟨w.heap.size + 1,5,none⟩ = some (.int .i64 0):=blk_cell hz1 5
    have n6:W1.cell? ⟨w.heap.size + 1,6,none⟩ = some (.float .f64 0):=blk_cell hz1 6
    have n7:W1.cell? ⟨w.heap.size + 1,7,none⟩ = some (.string ⟨#[]⟩):=blk_cell hz1 7
    have n8:W1.cell? ⟨w.heap.size + 1,8,none⟩ = some (.slice none 0 0):=blk_cell hz1 8
    have HF:=Lib.hid (put9_fin (w:=w) (F:=fun _ => False) (c:=⟨⟨#[]⟩,.mk 0 [],false,V0⟩) hz0 (HBW.out.trans ((Below.refl W1.heap.size W1).mono (by omega))) (by have:=(Below.refl W1.heap.size W1).size;omega) (zero_own _) (fun _ h => h.elim))
    clear hz0 hz1
    go_wp2
    refine bodyPost_ret (results_row3 rfl _ _ w.heap.size _ _ _ _ rfl HF.out.1 Tryz.underlying133 rfl (by kernel_rfl)) rfl ?_
    rw [HE.out]
    exact ⟨rfl,HF.out.2.2⟩
   | true =>
    have HRd3:=Lib.hid (HRd2.out.trans (if_neg (by decide)))
    have HFd:=Lib.hid (refFind7 s nm ps cs W1 hs HX.out)
    have hfa:=find_any nm s 0
    clear HRd2
    go_wp2_with fail
    refine HFd.out.mono ?_
    rintro e w2 ⟨rfl,hb2⟩
    have HB2:=Lib.hid hb2
    have hs2:=hb2.size
    clear HFd hb2
    cases hfd:Sch.find nm s 0 with
    | some kf =>
     rw [hfd] at hfa
     have HE:Hid (R = .error 71):=by show _ = _;rw [HRd3.out,if_pos (by rw [← hfa];rfl)]
     simp only [foundV]
     clear HRd3 hfd hfa
     have hz0:w2.heap[w.heap.size]? = some (.cells (cells9 ⟨#[]⟩ 0 none 0 0 false 0 0 0 ⟨#[]⟩ none 0 0) 133 (0,0)):=(HB2.out.block _ (by omega)).trans HR0.out
     have hz1:w2.heap[w.heap.size + 1]? = some (.cells (cells9 ⟨#[]⟩ 0 none 0 0 false 0 0 0 ⟨#[]⟩ none 0 0) 133 (0,0)):=(HB2.out.block _ (by omega)).trans HN0.out
     have r0:w2.cell? ⟨w.heap.size,0,none⟩ = some (.string ⟨#[]⟩):=blk_cell hz0 0
     have r1:w2.cell? ⟨w.heap.size,1,none⟩ = some (.int .i64 0):=blk_cell hz0 1
     have r2:w2.cell? ⟨w.heap.size,2,none⟩ = some (.slice none 0 0):=blk_cell hz0 2
     have r3:w2.cell? ⟨w.heap.size,3,none⟩ = some (.bool false):=blk_cell hz0 3
     have r4:w2.cell? ⟨w.heap.size,4,none⟩ = some (.int .i64 0):=blk_cell hz0 4
     have r5:w2.cell? ⟨w.heap.size,5,none⟩ = some (.int .i64 0):=blk_cell hz0 5
     have r6:w2.cell? ⟨w.heap.size,6,none⟩ = some (.float .f64 0):=blk_cell hz0 6
     have r7:w2.cell? ⟨w.heap.size,7,none⟩ = some (.string ⟨#[]⟩):=blk_cell hz0 7
     have r8:w2.cell? ⟨w.heap.size,8,none⟩ = some (.slice none 0 0):=blk_cell hz0 8
     have rf0:=blk_free hz0 0
     have rf1:=blk_free hz0 1
     have rf2:=blk_free hz0 2
     have rf3:=blk_free hz0 3
     have rf4:=blk_free hz0 4
     have rf5:=blk_free hz0 5
     have rf6:=blk_free hz0 6
     have rf7:=blk_free hz0 7
     have rf8:=blk_free hz0 8
     have n0:w2.cell? ⟨w.heap.size + 1,0,none⟩ = some (.string ⟨#[]⟩):=blk_cell hz1 0
     have n1:w2.cell? ⟨w.heap.size + 1,1,none⟩ = some (.int .i64 0):=blk_cell hz1 1
     have n2:w2.cell? ⟨w.heap.size + 1,2,none⟩ = some (.slice none 0 0):=blk_cell hz1 2
     have n3:w2.cell? ⟨w.heap.size + 1,3,none⟩ = some (.bool false):=blk_cell hz1 3
     have n4:w2.cell? ⟨w.heap.size + 1,4,none⟩ = some (.int .i64 0):=blk_cell hz1 4
     have n5:w2.cell? ⟨w.heap.size + 1,5,none⟩ = some (.int .i64 0):=blk_cell hz1 5
     have n6:w2.cell? ⟨w.heap.size + 1,6,none⟩ = some (.float .f64 0):=blk_cell hz1 6
     have n7:w2.cell? ⟨w.heap.size + 1,7,none⟩ = some (.string ⟨#[]⟩):=blk_cell hz1 7
     have n8:w2.cell? ⟨w.heap.size + 1,8,none⟩ = some (.slice none 0 0):=blk_cell hz1 8
     have HF:=Lib.hid (put9_fin (w:=w) (F:=fun _ => False) (c:=⟨⟨#[]⟩,.mk 0 [],false,V0⟩) hz0 (HBW.out.trans (HB2.out.mono (by omega))) (by have:=HB2.out.size;omega) (zero_own _) (fun _ h => h.elim))
     clear hz0 hz1
     go_wp2
     refine bodyPost_ret (results_row3 rfl _ _ w.heap.size _ _ _ _ rfl HF.out.1 Tryz.underlying133 rfl (by kernel_rfl)) rfl ?_
     rw [HE.out]
     exact ⟨rfl,HF.out.2.2⟩
    | none =>
     rw [hfd] at hfa
     have HRd4:=Lib.hid (HRd3.out.trans (if_neg (by rw [← hfa];decide)))
     simp only [foundV]
     clear HRd3 hfd hfa
     have HTy:=refReadType7 p l c hl 4 (a + j) w2 (by omega) hjl (HA.out.on HB2.out)
     rw [show ((a + j:Nat):Int) = (a:Int) + (j:Int) by omega] at HTy
     replace HTy:=Lib.hid HTy
     go_wp2_with fail
     refine HTy.out.mono ?_
     intro e w3 hr3
     cases hty:Sch.rdT 4 (l.drop (a + j)) with
     | error er =>
      rw [hty] at hr3
      obtain ⟨rfl,hb3⟩:=hr3
      have her:=rdT_err 4 _ er hty
      have g1:((er:Int) != 0) = true:=by rw [bne_iff_ne];omega
      have HE:Hid (R = .error er):=by show _ = _;rw [HRd4.out,hty]
      have HB3:=Lib.hid (HB2.out.trans (hb3.mono (by omega)))
      have hs3:=hb3.size
      unfold cells2
      clear hty her HRd4 HTy hb3
      obtain ⟨wz,hwz⟩:∃ wz,wz = w3.alloc (.cells #[.int .i64 0,.slice none 0 0] 127):=⟨_,rfl⟩
      have hbz:Below W1.heap.size W1 wz:=by rw [hwz];exact HB3.out.alloc HB3.out.size _
      have HWZ:=Lib.hid hwz
      have hz0:wz.heap[w.heap.size]? = some (.cells (cells9 ⟨#[]⟩ 0 none 0 0 false 0 0 0 ⟨#[]⟩ none 0 0) 133 (0,0)):=(hbz.block _ (by omega)).trans HR0.out
      have hz1:wz.heap[w.heap.size + 1]? = some (.cells (cells9 ⟨#[]⟩ 0 none 0 0 false 0 0 0 ⟨#[]⟩ none 0 0) 133 (0,0)):=(hbz.block _ (by omega)).trans HN0.out
      have r0:wz.cell? ⟨w.heap.size,0,none⟩ = some (.string ⟨#[]⟩):=blk_cell hz0 0
      have r1:wz.cell? ⟨w.heap.size,1,none⟩ = some (.int .i64 0):=blk_cell hz0 1
      have r2:wz.cell? ⟨w.heap.size,2,none⟩ = some (.slice none 0 0):=blk_cell hz0 2
      have r3:wz.cell? ⟨w.heap.size,3,none⟩ = some (.bool false):=blk_cell hz0 3
      have r4:wz.cell? ⟨w.heap.size,4,none⟩ = some (.int .i64 0):=blk_cell hz0 4
      have r5:wz.cell? ⟨w.heap.size,5,none⟩ = some (.int .i64 0):=blk_cell hz0 5
      have r6:wz.cell? ⟨w.heap.size,6,none⟩ = some (.float .f64 0):=blk_cell hz0 6
      have r7:wz.cell? ⟨w.heap.size,7,none⟩ = some (.string ⟨#[]⟩):=blk_cell hz0 7
      have r8:wz.cell? ⟨w.heap.size,8,none⟩ = some (.slice none 0 0):=blk_cell hz0 8
      have rf0:=blk_free hz0 0
      have rf1:=blk_free hz0 1
      have rf2:=blk_free hz0 2
      have rf3:=blk_free hz0 3
      have rf4:=blk_free hz0 4
      have rf5:=blk_free hz0 5
      have rf6:=blk_free hz0 6
      have rf7:=blk_free hz0 7
      have rf8:=blk_free hz0 8
      have n0:wz.cell? ⟨w.heap.size + 1,0,none⟩ = some (.string ⟨#[]⟩):=blk_cell hz1 0
      have n1:wz.cell? ⟨w.heap.size + 1,1,none⟩ = some (.int .i64 0):=blk_cell hz1 1
      have n2:wz.cell? ⟨w.heap.size + 1,2,none⟩ = some (.slice none 0 0):=blk_cell hz1 2
      have n3:wz.cell? ⟨w.heap.size + 1,3,none⟩ = some (.bool false):=blk_cell hz1 3
      have n4:wz.cell? ⟨w.heap.size + 1,4,none⟩ = some (.int .i64 0):=blk_cell hz1 4
      have n5:wz.cell? ⟨w.heap.size + 1,5,none⟩ = some (.int .i64 0):=blk_cell hz1 5
      have n6:wz.cell? ⟨w.heap.size + 1,6,none⟩ = some (.float .f64 0):=blk_cell hz1 6
      have n7:wz.cell? ⟨w.heap.size + 1,7,none⟩ = some (.string ⟨#[]⟩):=blk_cell hz1 7
      have n8:wz.cell? ⟨w.heap.size + 1,8,none⟩ = some (.slice none 0 0):=blk_cell hz1 8
      have HF:=Lib.hid (put9_fin (w:=w) (F:=fun _ => False) (c:=⟨⟨#[]⟩,.mk 0 [],false,V0⟩) hz0 (HBW.out.trans (hbz.mono (by omega))) (by have:=hbz.size;omega) (zero_own _) (fun _ h => h.elim))
      clear hz0 hz1
      rw [hwz] at r0 r1 r2 r3 r4 r5 r6 r7 r8 rf0 rf1 rf2 rf3 rf4 rf5 rf6 rf7 rf8 n0 n1 n2 n3 n4 n5 n6 n7 n8
      clear hwz hbz
      go_wp2
      rw [← HWZ.out]
      refine bodyPost_ret (results_row3 rfl _ _ w.heap.size _ _ _ _ rfl HF.out.1 Tryz.underlying133 rfl (by kernel_rfl)) rfl ?_
      rw [HE.out]
      exact ⟨rfl,HF.out.2.2⟩
     | ok tj =>
      obtain ⟨ty,j2⟩:=tj
      rw [hty] at hr3
      obtain ⟨ut,rfl,hot,hb3⟩:=hr3
      obtain ⟨kt,tp,tn,tc,rfl⟩:=hot.shape
      obtain ⟨ht1,⟨rt,ht2⟩,htc,-⟩:=Sch.rdT_ok 4 _ _ _ (by omega) hty
      have hjl2:a + j + j2 ≤ l.length:=by
       have hq:=congrArg List.length ht2
       rw [List.length_drop,List.length_append] at hq
       omega
      have HRd5:Hid (R = match Sch.bit (l.drop (a + j + j2)) with
       | .error e => .error e
       | .ok (h,j3) => if h = 0 then .ok (⟨nm,ty,false,V0⟩,j + j2 + j3) else match Sch.rdV ty (l.drop (a + j + j2 + j3)) with
        | .error e => .error e
        | .ok (v,j4) => .ok (⟨nm,ty,true,v⟩,j + j2 + j3 + j4)):=by show _ = _;rw [HRd4.out,hty]
      have HB3:=Lib.hid (HB2.out.trans (hb3.mono (by omega)))
      have hs3:=hb3.size
      have HOt:=Lib.hid hot
      -- the type's own block
      obtain ⟨w4,hw4⟩:∃ w4,w4 = w3.alloc (.cells #[.int .i64 kt,.slice tp tn tc] 127):=⟨_,rfl⟩
      have HB34:Hid (Below w3.heap.size w3 w4):=by rw [hw4];exact (Below.refl _ _).alloc (Nat.le_refl _) _
      have hs4:w4.heap.size = w3.heap.size + 1:=by rw [hw4];simp
      have HB4:=Lib.hid (HB3.out.trans (HB34.out.mono HB3.out.size))
      have HT4:Hid (w4.cell? ⟨w3.heap.size,0,none⟩ = some (.int .i64 kt) ∧ w4.cell? ⟨w3.heap.size,1,none⟩ = some (.slice tp tn tc)):=by rw [hw4];exact ⟨by simp,by simp⟩
      have HW4:=Lib.hid hw4
      have hbit:=refBit7 p l c (a + j + j2) hl hjl2 w4 (HA.out.on HB4.out)
      have eint:((a + j + j2:Nat):Int) = (a:Int) + (j:Int) + (j2:Int):=by omega
      rw [eint] at hbit
      have HBit:=Lib.hid hbit
      have eint2:((a + j:Nat):Int) + (j2:Int) = (a:Int) + (j:Int) + (j2:Int):=by omega
      rw [show ((a + j + j2:Nat):Int) = (a:Int) + (j:Int) + (j2:Int) by omega]
      unfold cells2
      clear hty hot hb3 ht1 ht2 HRd4 HTy hw4 hbit eint eint2
      go_wp2_with fail
      rw [← HW4.out]
      refine HBit.out.mono ?_
      rintro e w5 ⟨rfl,hw⟩
      rw [hw]
      clear hw w5 HBit HW4
      cases hbt:Sch.bit (l.drop (a + j + j2)) with
      | error er =>
       have her:=bit_err hbt
       have g1:((er:Int) != 0) = true:=by rw [bne_iff_ne];omega
       have HE:Hid (R = .error er):=by show _ = _;rw [HRd5.out,hbt]
       simp only [bitV]
       clear hbt her HRd5
       have hz0:w4.heap[w.heap.size]? = some (.cells (cells9 ⟨#[]⟩ 0 none 0 0 false 0 0 0 ⟨#[]⟩ none 0 0) 133 (0,0)):=(HB4.out.block _ (by omega)).trans HR0.out
       have hz1:w4.heap[w.heap.size + 1]? = some (.cells (cells9 ⟨#[]⟩ 0 none 0 0 false 0 0 0 ⟨#[]⟩ none 0 0) 133 (0,0)):=(HB4.out.block _ (by omega)).trans HN0.out
       have r0:w4.cell? ⟨w.heap.size,0,none⟩ = some (.string ⟨#[]⟩):=blk_cell hz0 0
       have r1:w4.cell? ⟨w.heap.size,1,none⟩ = some (.int .i64 0):=blk_cell hz0 1
       have r2:w4.cell? ⟨w.heap.size,2,none⟩ = some (.slice none 0 0):=blk_cell hz0 2
       have r3:w4.cell? ⟨w.heap.size,3,none⟩ = some (.bool false):=blk_cell hz0 3
       have r4:w4.cell? ⟨w.heap.size,4,none⟩ = some (.int .i64 0):=blk_cell hz0 4
       have r5:w4.cell? ⟨w.heap.size,5,none⟩ = some (.int .i64 0):=blk_cell hz0 5
       have r6:w4.cell? ⟨w.heap.size,6,none⟩ = some (.float .f64 0):=blk_cell hz0 6
       have r7:w4.cell? ⟨w.heap.size,7,none⟩ = some (.string ⟨#[]⟩):=blk_cell hz0 7
       have r8:w4.cell? ⟨w.heap.size,8,none⟩ = some (.slice none 0 0):=blk_cell hz0 8
       have rf0:=blk_free hz0 0
       have rf1:=blk_free hz0 1
       have rf2:=blk_free hz0 2
       have rf3:=blk_free hz0 3
       have rf4:=blk_free hz0 4
       have rf5:=blk_free hz0 5
       have rf6:=blk_free hz0 6
       have rf7:=blk_free hz0 7
       have rf8:=blk_free hz0 8
       have n0:w4.cell? ⟨w.heap.size + 1,0,none⟩ = some (.string ⟨#[]⟩):=blk_cell hz1 0
       have n1:w4.cell? ⟨w.heap.size + 1,1,none⟩ = some (.int .i64 0):=blk_cell hz1 1
       have n2:w4.cell? ⟨w.heap.size + 1,2,none⟩ = some (.slice none 0 0):=blk_cell hz1 2
       have n3:w4.cell? ⟨w.heap.size + 1,3,none⟩ = some (.bool false):=blk_cell hz1 3
       have n4:w4.cell? ⟨w.heap.size + 1,4,none⟩ = some (.int .i64 0):=blk_cell hz1 4
       have n5:w4.cell? ⟨w.heap.size + 1,5,none⟩ = some (.int .i64 0):=blk_cell hz1 5
       have n6:w4.cell? ⟨w.heap.size + 1,6,none⟩ = some (.float .f64 0):=blk_cell hz1 6
       have n7:w4.cell? ⟨w.heap.size + 1,7,none⟩ = some (.string ⟨#[]⟩):=blk_cell hz1 7
       have n8:w4.cell? ⟨w.heap.size + 1,8,none⟩ = some (.slice none 0 0):=blk_cell hz1 8
       have HF:=Lib.hid (put9_fin (w:=w) (F:=fun _ => False) (c:=⟨⟨#[]⟩,.mk 0 [],false,V0⟩) hz0 (HBW.out.trans (HB4.out.mono (by omega))) (by have:=HB4.out.size;omega) (zero_own _) (fun _ h => h.elim))
       clear hz0 hz1
       go_wp2
       refine bodyPost_ret (results_row3 rfl _ _ w.heap.size _ _ _ _ rfl HF.out.1 Tryz.underlying133 rfl (by kernel_rfl)) rfl ?_
       rw [HE.out]
       exact ⟨rfl,HF.out.2.2⟩
      | ok hj =>
       obtain ⟨hh,j3⟩:=hj
       have hbo:=Sch.bit_ok hbt
       have hh1:=hbo.1
       have hjl3:a + j + j2 + j3 ≤ l.length:=by
        obtain ⟨-,h1,r,hr⟩:=hbo
        have hq:=congrArg List.length hr
        rw [List.length_drop,List.length_cons] at hq
        omega
       have HRd6:Hid (R = if hh = 0 then .ok (⟨nm,ty,false,V0⟩,j + j2 + j3) else match Sch.rdV ty (l.drop (a + j + j2 + j3)) with
        | .error e => .error e
        | .ok (v,j4) => .ok (⟨nm,ty,true,v⟩,j + j2 + j3 + j4)):=by show _ = _;rw [HRd5.out,hbt]
       simp only [bitV]
       rw [show ((a + j + j2 + j3:Nat):Int) = (a:Int) + (j:Int) + (j2:Int) + (j3:Int) by omega]
       clear hbt hbo HRd5
       obtain ⟨t0,t1⟩:=HT4.out
       have hz0:w4.heap[w.heap.size]? = some (.cells (cells9 ⟨#[]⟩ 0 none 0 0 false 0 0 0 ⟨#[]⟩ none 0 0) 133 (0,0)):=(HB4.out.block _ (by omega)).trans HR0.out
       by_cases hh0:hh = 0
       ·have g1:((hh:Int) == 0) = true:=beq_t (by omega)
        have HE:Hid (R = .ok (⟨nm,ty,false,V0⟩,j + j2 + j3)):=by show _ = _;rw [HRd6.out,if_pos hh0]
        have hown:COwn w4 (fun k => w2.heap.size ≤ k ∧ k < w3.heap.size) (cells9 nm kt tp tn tc false 0 0 0 ⟨#[]⟩ none 0 0) ⟨nm,ty,false,V0⟩ :=
         ⟨fun k => w2.heap.size ≤ k ∧ k < w3.heap.size,fun _ => False,kt,tp,tn,tc,0,0,0,⟨#[]⟩,none,0,0,rfl,HOt.out.under HB34.out (fun k hk => hk.2),VOwn.none,fun _ h => h,fun _ h => h.elim,fun _ _ h => h⟩
        have r0:w4.cell? ⟨w.heap.size,0,none⟩ = some (.string ⟨#[]⟩):=blk_cell hz0 0
        have r1:w4.cell? ⟨w.heap.size,1,none⟩ = some (.int .i64 0):=blk_cell hz0 1
        have r2:w4.cell? ⟨w.heap.size,2,none⟩ = some (.slice none 0 0):=blk_cell hz0 2
        have r3:w4.cell? ⟨w.heap.size,3,none⟩ = some (.bool false):=blk_cell hz0 3
        have r4:w4.cell? ⟨w.heap.size,4,none⟩ = some (.int .i64 0):=blk_cell hz0 4
        have r5:w4.cell? ⟨w.heap.size,5,none⟩ = some (.int .i64 0):=blk_cell hz0 5
        have r6:w4.cell? ⟨w.heap.size,6,none⟩ = some (.float .f64 0):=blk_cell hz0 6
        have r7:w4.cell? ⟨w.heap.size,7,none⟩ = some (.string ⟨#[]⟩):=blk_cell hz0 7
        have r8:w4.cell? ⟨w.heap.size,8,none⟩ = some (.slice none 0 0):=blk_cell hz0 8
        have rf0:=blk_free hz0 0
        have rf1:=blk_free hz0 1
        have rf2:=blk_free hz0 2
        have rf3:=blk_free hz0 3
        have rf4:=blk_free hz0 4
        have rf5:=blk_free hz0 5
        have rf6:=blk_free hz0 6
        have rf7:=blk_free hz0 7
        have rf8:=blk_free hz0 8
        have HF:=Lib.hid (put9_fin (w:=w) hz0 (HBW.out.trans (HB4.out.mono (by omega))) (by omega) hown (fun k hk => ⟨by omega,by omega⟩))
        clear hz0 hown HRd6 hh0
        go_wp2
        refine bodyPost_ret (results_row3 rfl _ _ w.heap.size _ _ _ _ rfl HF.out.1 Tryz.underlying133 rfl (by kernel_rfl)) rfl ?_
        rw [HE.out]
        exact ⟨_,by rw [show ((a + (j + j2 + j3):Nat):Int) = (a:Int) + (j:Int) + (j2:Int) + (j3:Int) by omega];rfl,HF.out.2.1,HF.out.2.2⟩
       ·have g1:((hh:Int) == 0) = false:=beq_f (by omega)
        have hva:=refValueAt7 p l c hl hlc ty 1 (a + j + j2 + j3) w4 (cells2 kt tp tn tc) htc ((HOt.out.lies).on HB34.out) hjl3 (HA.out.on HB4.out)
        rw [show ((a + j + j2 + j3:Nat):Int) = (a:Int) + (j:Int) + (j2:Int) + (j3:Int) by omega] at hva
        unfold cells2 at hva
        have HVa:=Lib.hid hva
        clear hva hh0
        have HRd7:Hid (R = match Sch.rdV ty (l.drop (a + j + j2 + j3)) with
         | .error e => .error e
         | .ok (v,j4) => .ok (⟨nm,ty,true,v⟩,j + j2 + j3 + j4)):=by
         show _ = _
         rw [HRd6.out]
         exact if_neg (by intro hc;rw [hc] at g1;simp at g1)
        clear HRd6 hz0
        go_wp2_with fail
        refine HVa.out.mono ?_
        intro e w5 hr5
        cases hvr:Sch.rdV ty (l.drop (a + j + j2 + j3)) with
        | error er =>
         rw [hvr] at hr5
         obtain ⟨rfl,hb5⟩:=hr5
         have her:=rdV_err ty 1 _ er htc hvr
         have g2:((er:Int) != 0) = true:=by rw [bne_iff_ne];omega
         have HE:Hid (R = .error er):=by show _ = _;rw [HRd7.out,hvr]
         have HB5:=Lib.hid (HB4.out.trans (hb5.mono HB4.out.size))
         have hs5:=hb5.size
         unfold cells5
         clear hvr her HRd7 HVa hb5 t0 t1
         obtain ⟨wz,hwz⟩:∃ wz,wz = w5.alloc (.cells #[.int .i64 0,.int .i64 0,.float .f64 0,.string ⟨#[]⟩,.slice none 0 0] 131):=⟨_,rfl⟩
         have hbz:Below W1.heap.size W1 wz:=by rw [hwz];exact HB5.out.alloc HB5.out.size _
         have HWZ:=Lib.hid hwz
         have hz0:wz.heap[w.heap.size]? = some (.cells (cells9 ⟨#[]⟩ 0 none 0 0 false 0 0 0 ⟨#[]⟩ none 0 0) 133 (0,0)):=(hbz.block _ (by omega)).trans HR0.out
         have hz1:wz.heap[w.heap.size + 1]? = some (.cells (cells9 ⟨#[]⟩ 0 none 0 0 false 0 0 0 ⟨#[]⟩ none 0 0) 133 (0,0)):=(hbz.block _ (by omega)).trans HN0.out
         have r0:wz.cell? ⟨w.heap.size,0,none⟩ = some (.string ⟨#[]⟩):=blk_cell hz0 0
         have r1:wz.cell? ⟨w.heap.size,1,none⟩ = some (.int .i64 0):=blk_cell hz0 1
         have r2:wz.cell? ⟨w.heap.size,2,none⟩ = some (.slice none 0 0):=blk_cell hz0 2
         have r3:wz.cell? ⟨w.heap.size,3,none⟩ = some (.bool false):=blk_cell hz0 3
         have r4:wz.cell? ⟨w.heap.size,4,none⟩ = some (.int .i64 0):=blk_cell hz0 4
         have r5:wz.cell? ⟨w.heap.size,5,none⟩ = some (.int .i64 0):=blk_cell hz0 5
         have r6:wz.cell? ⟨w.heap.size,6,none⟩ = some (.float .f64 0):=blk_cell hz0 6
         have r7:wz.cell? ⟨w.heap.size,7,none⟩ = some (.string ⟨#[]⟩):=blk_cell hz0 7
         have r8:wz.cell? ⟨w.heap.size,8,none⟩ = some (.slice none 0 0):=blk_cell hz0 8
         have rf0:=blk_free hz0 0
         have rf1:=blk_free hz0 1
         have rf2:=blk_free hz0 2
         have rf3:=blk_free hz0 3
         have rf4:=blk_free hz0 4
         have rf5:=blk_free hz0 5
         have rf6:=blk_free hz0 6
         have rf7:=blk_free hz0 7
         have rf8:=blk_free hz0 8
         have n0:wz.cell? ⟨w.heap.size + 1,0,none⟩ = some (.string ⟨#[]⟩):=blk_cell hz1 0
         have n1:wz.cell? ⟨w.heap.size + 1,1,none⟩ = some (.int .i64 0):=blk_cell hz1 1
         have n2:wz.cell? ⟨w.heap.size + 1,2,none⟩ = some (.slice none 0 0):=blk_cell hz1 2
         have n3:wz.cell? ⟨w.heap.size + 1,3,none⟩ = some (.bool false):=blk_cell hz1 3
         have n4:wz.cell? ⟨w.heap.size + 1,4,none⟩ = some (.int .i64 0):=blk_cell hz1 4
         have n5:wz.cell? ⟨w.heap.size + 1,5,none⟩ = some (.int .i64 0):=blk_cell hz1 5
         have n6:wz.cell? ⟨w.heap.size + 1,6,none⟩ = some (.float .f64 0):=blk_cell hz1 6
         have n7:wz.cell? ⟨w.heap.size + 1,7,none⟩ = some (.string ⟨#[]⟩):=blk_cell hz1 7
         have n8:wz.cell? ⟨w.heap.size + 1,8,none⟩ = some (.slice none 0 0):=blk_cell hz1 8
         have HF:=Lib.hid (put9_fin (w:=w) (F:=fun _ => False) (c:=⟨⟨#[]⟩,.mk 0 [],false,V0⟩) hz0 (HBW.out.trans (hbz.mono (by omega))) (by have:=hbz.size;omega) (zero_own _) (fun _ h => h.elim))
         clear hz0 hz1
         rw [hwz] at r0 r1 r2 r3 r4 r5 r6 r7 r8 rf0 rf1 rf2 rf3 rf4 rf5 rf6 rf7 rf8 n0 n1 n2 n3 n4 n5 n6 n7 n8
         clear hwz hbz
         go_wp2
         rw [← HWZ.out]
         refine bodyPost_ret (results_row3 rfl _ _ w.heap.size _ _ _ _ rfl HF.out.1 Tryz.underlying133 rfl (by kernel_rfl)) rfl ?_
         rw [HE.out]
         exact ⟨rfl,HF.out.2.2⟩
        | ok vj =>
         obtain ⟨vv,j4⟩:=vj
         rw [hvr] at hr5
         obtain ⟨uv,rfl,hov,hb5⟩:=hr5
         obtain ⟨vk,vi,vb,vt,vp,vn,vc,rfl⟩:=hov.shape
         have HE:Hid (R = .ok (⟨nm,ty,true,vv⟩,j + j2 + j3 + j4)):=by show _ = _;rw [HRd7.out,hvr]
         rw [show ((a + j + j2 + j3 + j4:Nat):Int) = (a:Int) + (j:Int) + (j2:Int) + (j3:Int) + (j4:Int) by omega]
         have hs5:=hb5.size
         obtain ⟨w6,hw6⟩:∃ w6,w6 = w5.alloc (.cells #[.int .i64 vk,.int .i64 vi,.float .f64 vb,.string vt,.slice vp vn vc] 131):=⟨_,rfl⟩
         have hb56:Below w5.heap.size w5 w6:=by rw [hw6];exact (Below.refl _ _).alloc (Nat.le_refl _) _
         have hb46:Below w4.heap.size w4 w6:=hb5.trans (hb56.mono hs5)
         have hs6:w6.heap.size = w5.heap.size + 1:=by rw [hw6];simp
         have HB6:=Lib.hid (HB4.out.trans (hb46.mono HB4.out.size))
         have hz0:w6.heap[w.heap.size]? = some (.cells (cells9 ⟨#[]⟩ 0 none 0 0 false 0 0 0 ⟨#[]⟩ none 0 0) 133 (0,0)):=(HB6.out.block _ (by omega)).trans HR0.out
         have hown:COwn w6 (fun k => w2.heap.size ≤ k ∧ k < w5.heap.size) (cells9 nm kt tp tn tc true vk vi vb vt vp vn vc) ⟨nm,ty,true,vv⟩ :=
          ⟨fun k => w2.heap.size ≤ k ∧ k < w3.heap.size,fun k => w4.heap.size ≤ k ∧ k < w5.heap.size,kt,tp,tn,tc,vk,vi,vb,vt,vp,vn,vc,rfl,(HOt.out.under HB34.out (fun k hk => hk.2)).under hb46 (fun k hk => by omega),hov.under hb56 (fun k hk => hk.2),fun k hk => ⟨hk.1,by omega⟩,fun k hk => ⟨by omega,hk.2⟩,fun k hk hc => by omega⟩
         have u0:=cell_on hb46 t0
         have u1:=cell_on hb46 t1
         have r0:w6.cell? ⟨w.heap.size,0,none⟩ = some (.string ⟨#[]⟩):=blk_cell hz0 0
         have r1:w6.cell? ⟨w.heap.size,1,none⟩ = some (.int .i64 0):=blk_cell hz0 1
         have r2:w6.cell? ⟨w.heap.size,2,none⟩ = some (.slice none 0 0):=blk_cell hz0 2
         have r3:w6.cell? ⟨w.heap.size,3,none⟩ = some (.bool false):=blk_cell hz0 3
         have r4:w6.cell? ⟨w.heap.size,4,none⟩ = some (.int .i64 0):=blk_cell hz0 4
         have r5:w6.cell? ⟨w.heap.size,5,none⟩ = some (.int .i64 0):=blk_cell hz0 5
         have r6:w6.cell? ⟨w.heap.size,6,none⟩ = some (.float .f64 0):=blk_cell hz0 6
         have r7:w6.cell? ⟨w.heap.size,7,none⟩ = some (.string ⟨#[]⟩):=blk_cell hz0 7
         have r8:w6.cell? ⟨w.heap.size,8,none⟩ = some (.slice none 0 0):=blk_cell hz0 8
         have rf0:=blk_free hz0 0
         have rf1:=blk_free hz0 1
         have rf2:=blk_free hz0 2
         have rf3:=blk_free hz0 3
         have rf4:=blk_free hz0 4
         have rf5:=blk_free hz0 5
         have rf6:=blk_free hz0 6
         have rf7:=blk_free hz0 7
         have rf8:=blk_free hz0 8
         have HF:=Lib.hid (put9_fin (w:=w) hz0 (HBW.out.trans (HB6.out.mono (by omega))) (by omega) hown (fun k hk => ⟨by omega,by omega⟩))
         have HW6:=Lib.hid hw6
         rw [hw6] at u0 u1 r0 r1 r2 r3 r4 r5 r6 r7 r8 rf0 rf1 rf2 rf3 rf4 rf5 rf6 rf7 rf8
         unfold cells5
         clear hz0 hown HRd7 hvr hov hb5 hb56 hb46 hw6 HVa t0 t1
         go_wp2
         rw [← HW6.out]
         refine bodyPost_ret (results_row3 rfl _ _ w.heap.size _ _ _ _ rfl HF.out.1 Tryz.underlying133 rfl (by kernel_rfl)) rfl ?_
         rw [HE.out]
         exact ⟨_,by rw [show ((a + (j + j2 + j3 + j4):Nat):Int) = (a:Int) + (j:Int) + (j2:Int) + (j3:Int) + (j4:Int) by omega];rfl,HF.out.2.1,HF.out.2.2⟩
end Go.Proofs.YtclhbhhlddbocaaGreatDoor
namespace Go.Proofs.YtclhbhhlddbocaaGreatDoor
open Go.RowKit
attribute [local go_sem] run_store_float
def DecV (w:World) (r:Except Nat (List Col)) (e:Ending) (w':World):Prop:=match r with
 | .error er => e = .returned (.tuple #[.agg #[.slice none 0 0],.int .i64 (er:Nat)]) ∧ Below w.heap.size w w'
 | .ok s => ∃ u,e = .returned (.tuple #[.agg u,.int .i64 0]) ∧ SOwn w' w.heap.size u s ∧ Below w.heap.size w w'
def shift (n:Nat):Except Nat (List Col × Nat) → Except Nat (List Col × Nat)
 | .error e => .error e
 | .ok (s,k) => .ok (s,n + k)
def stepC (m:Nat) (s:List Col) (b:List UInt8):Except Nat (Col × Nat) → Except Nat (List Col × Nat)
 | .error e => .error e
 | .ok (c,j) => shift j (Sch.rdCs m (s ++ [c]) (b.drop j))
theorem rdCs_succ (m:Nat) (s:List Col) (b:List UInt8):Sch.rdCs (m + 1) s b = stepC m s b (Sch.rdC s b):=by
 rw [Sch.rdCs]
 cases Sch.rdC s b with
 | error e => rfl
 | ok p =>
  obtain ⟨c,j⟩:=p
  rw [stepC]
  dsimp only
  cases Sch.rdCs m (s ++ [c]) (b.drop j) with
  | error e => rfl
  | ok q => rfl
theorem shift_shift (n j:Nat) (r:Except Nat (List Col × Nat)):shift n (shift j r) = shift (n + j) r:=by
 cases r with
 | error e => rfl
 | ok p => simp [shift,Nat.add_assoc]
theorem rdC_err {s:List Col} {b:List UInt8} {e:Nat} (h:Sch.rdC s b = .error e):e ≠ 0:=by
 rw [Sch.rdC] at h
 split at h
 ·next e' he => injection h with h;rw [← h];exact num_err he
 ·split at h
  ·injection h with h;omega
  ·split at h
   ·next e' he => injection h with h;rw [← h];exact text_err (by decide) he
   ·split at h
    ·injection h with h;omega
    ·split at h
     ·injection h with h;omega
     ·split at h
      ·next e' he => injection h with h;rw [← h];exact rdT_err 4 _ _ he
      ·next t j2 ht =>
       split at h
       ·next e' he => injection h with h;rw [← h];exact bit_err he
       ·split at h
        ·cases h
        ·split at h
         ·next e' he =>
          injection h with h
          rw [← h]
          exact rdV_err t 1 _ _ (Sch.rdT_ok 4 _ _ _ (by omega) ht).2.2.1 he
         ·cases h
structure MakingS (w:World) (s:List Col) (v:Value) (wr:World):Prop where
 built:∃ us Fs,CBuilt wr (w.heap.size + 1) v s.length us Fs s
 b0:wr.heap[w.heap.size]? = some (.cells #[.slice none 0 0] 24 (0,0))
 below:Below w.heap.size w wr
 size:w.heap.size + 1 ≤ wr.heap.size
theorem makingS_start (w:World):MakingS w [] (.slice none 0 0) (w.alloc (.cells #[.slice none 0 0] 24)) :=
 ⟨⟨_,_,cbuilt_nil _ _⟩,blk_new w _,(Below.refl _ w).alloc (Nat.le_refl _) _,by simp⟩
theorem MakingS.next {w wr w2 w3 w4:World} {s:List Col} {v:Value} {u:Array Value} {F:Nat → Prop} {g cap:Nat} {us:Nat → Array Value} {Fs:Nat → Nat → Prop} {y:Col} (h:MakingS w s v wr) (hbt:CBuilt wr (w.heap.size + 1) v s.length us Fs s) (hb:Below wr.heap.size wr w2) (hx:COwn w2 F u y)
  (hF:∀ k,F k → wr.heap.size ≤ k ∧ k < w2.heap.size) (hb3:Below w2.heap.size w2 w3)
  (hr:w4.ownsRow (w.heap.size + 1) 133 9 (.slice (some ⟨g,0,none⟩) (s.length + 1) cap) (s.length + 1) (flat us s.length ++ u.toList)) (hg:w3.grownBy w4 v.ownBlock) (hn:v.ownBlock = some g ∨ g = w3.heap.size) :
  MakingS w (s ++ [y]) (.slice (some ⟨g,0,none⟩) (s.length + 1) cap) w4:=by
 have hs:=h.size
 have hs2:=hb.size
 have hs3:=hb3.size
 have hst:=hbt.step hb hx hF hb3 hs hr hg hn
 have hb4:Below w.heap.size w w4:=((h.below.trans (hb.mono (by omega))).trans (hb3.mono (by omega))).grown hg (by omega) (fun k hk => by have:=(hbt.lt k hk).1;omega)
 refine ⟨⟨(fun n => if n = s.length then u else us n),(fun n => if n = s.length then F else Fs n),?_⟩,?_,hb4,?_⟩
 ·rw [List.length_append,List.length_singleton]
  exact hst
 ·rw [hg.block _ (by omega) (fun hc => by have:=(hbt.lt _ hc.symm).1;omega),hb3.block _ (by omega),hb.block _ (by omega)]
  exact h.b0
 ·have:=hg.size
  omega
theorem refDecode7 (p:Option Addr) (l:List UInt8) (c:Nat) (hl:l.length ≤ 140737488351232) (hlc:l.length ≤ c) (w:World) (hat:At w p l) :
    Calls Tryz.prog 116 #[.slice p l.length c] w (DecV w (Sch.read l)):=by
  obtain ⟨R,hR⟩:∃ R,R = Sch.read l:=⟨_,rfl⟩
  have HRd:Hid (R = Sch.read l):=hR
  rw [← hR]
  clear hR
  have HB:Hid (∀ o,Below w.heap.size w (w.alloc o)):=fun o => (Below.refl _ _).alloc (Nat.le_refl _) _
  have HA:=Lib.hid hat
  clear hat
  by_cases h1:1024 < l.length
  · have g1:(1024:Int) < (l.length:Int):=by omega
    have HE:Hid (R = .error 2):=by show _ = _;rw [HRd.out,Sch.read,if_pos h1]
    clear HRd h1
    go_enter Tryz.func116,Tryz.ntmps116
    go_wp2
    refine bodyPost_ret (results_row2 rfl _ _ w.heap.size _ _ _ _ rfl (blk_new w _) Tryz.underlying24 rfl (by kernel_rfl)) rfl ?_
    rw [HE.out]
    exact ⟨rfl,HB.out _⟩
  have g1:¬ (1024:Int) < (l.length:Int):=by omega
  have HG:=Lib.hid (refNum7 p c l 0 hl (w.alloc (.cells #[.slice none 0 0] 24)) (HA.out.on (HB.out _)))
  rw [List.drop_zero] at HG
  cases hn:Sch.num l with
  | error er =>
    have her:=num_err hn
    have g0:((er:Int) != 0) = true:=by rw [bne_iff_ne];omega
    have HE:Hid (R = .error er):=by show _ = _;rw [HRd.out,Sch.read,if_neg h1,hn]
    rw [hn] at HG
    simp only [numV] at HG
    clear hn HRd her h1
    go_enter Tryz.func116,Tryz.ntmps116
    go_wp2_with fail
    refine HG.out.mono ?_
    rintro e w1 ⟨rfl,hw⟩
    rw [hw]
    clear hw w1 HG
    go_wp2
    refine bodyPost_ret (results_row2 rfl _ _ w.heap.size _ _ _ _ rfl (blk_new w _) Tryz.underlying24 rfl (by kernel_rfl)) rfl ?_
    rw [HE.out]
    exact ⟨rfl,HB.out _⟩
  | ok nk =>
    obtain ⟨m,kk⟩:=nk
    have hno:=Sch.num_ok hn
    have hkl:kk ≤ l.length:=by
      obtain ⟨-,r,hr,hk2⟩:=hno
      have:=congrArg List.length hr
      rw [List.length_append] at this
      omega
    have hm64:=hno.1
    have HRd1:Hid (R = if m = 0 then .error 4 else if 16 < m then .error 3 else match Sch.rdCs m [] (l.drop kk) with
      | .error e => .error e
      | .ok (l_1,j) => if kk + j = l.length then .ok l_1 else .error 5):=by show _ = _;rw [HRd.out,Sch.read,if_neg h1,hn];rfl
    rw [hn] at HG
    simp only [numV,Nat.zero_add] at HG
    clear hn HRd hno h1
    go_enter Tryz.func116,Tryz.ntmps116
    go_wp2_with fail
    refine HG.out.mono ?_
    rintro e w1 ⟨rfl,hw⟩
    rw [hw]
    clear hw w1 HG
    by_cases h0:m = 0
    · have g0:((m:Int) == 0) = true:=beq_t (by omega)
      have HE:Hid (R = .error 4):=by show _ = _;rw [HRd1.out,if_pos h0]
      clear HRd1 h0
      go_wp2
      refine bodyPost_ret (results_row2 rfl _ _ w.heap.size _ _ _ _ rfl (blk_new w _) Tryz.underlying24 rfl (by kernel_rfl)) rfl ?_
      rw [HE.out]
      exact ⟨rfl,HB.out _⟩
    have g0:((m:Int) == 0) = false:=beq_f (by omega)
    by_cases h16:16 < m
    · have g16:(16:Int) < (m:Int):=by omega
      have HE:Hid (R = .error 3):=by show _ = _;rw [HRd1.out,if_neg h0,if_pos h16]
      clear HRd1 h0 h16
      go_wp2
      refine bodyPost_ret (results_row2 rfl _ _ w.heap.size _ _ _ _ rfl (blk_new w _) Tryz.underlying24 rfl (by kernel_rfl)) rfl ?_
      rw [HE.out]
      exact ⟨rfl,HB.out _⟩
    have g16:¬ (16:Int) < (m:Int):=by omega
    have hm16:m ≤ 16:=by omega
    have HRd2:Hid (R = match Sch.rdCs m [] (l.drop kk) with
      | .error e => .error e
      | .ok (l_1,j) => if kk + j = l.length then .ok l_1 else .error 5):=by show _ = _;rw [HRd1.out,if_neg h0,if_neg h16]
    clear HRd1 h0 h16
    go_wp2_with fail
    go_loopw [5,7,8] (fun v5 v7 v8 wr => ∃ (s:List Col) (n:Nat) (q:Option Addr) (d:Nat),s.length ≤ m ∧ v5 = .int .i64 ((kk:Int) + (n:Int)) ∧ v7 = .slice q s.length d ∧ v8 = .int .i64 s.length ∧ kk + n ≤ l.length ∧ Hid (MakingS w s (.slice q s.length d) wr ∧ Sch.rdCs m [] (l.drop kk) = shift n (Sch.rdCs (m - s.length) s (l.drop (kk + n))))) (fun _ _ v8 _ => m - (intOf v8).toNat)
    case atStart =>
      refine ⟨[],0,none,0,by simp,by go_num,rfl,rfl,hkl,makingS_start w,?_⟩
      rw [List.length_nil,Nat.sub_zero,Nat.add_zero]
      cases Sch.rdCs m [] (l.drop kk) with
      | error e => rfl
      | ok q => simp [shift]
    case round =>
      obtain ⟨s,n,q,d,hsm,rfl,rfl,rfl,hnl,HK⟩:=hrel
      have HM:=Lib.hid HK.out.1
      have HG2:=Lib.hid HK.out.2
      by_cases hlt:s.length < m
      · have hlt':(s.length:Int) < (m:Int):=by omega
        obtain ⟨us,Fs,hbt⟩:=HM.out.built
        obtain ⟨pv,cv,hev,hcv,hcols⟩:=hbt.cols (by omega)
        injection hev with e1 e2 e3
        subst e1 e3
        have hrc:=refReadColumn7 s q d p l c hl hlc (kk + n) wr (by omega) hnl hcols (HA.out.on HM.out.below)
        rw [show ((kk + n:Nat):Int) = (kk:Int) + (n:Int) by omega] at hrc
        obtain ⟨C,hC⟩:∃ C,C = Sch.rdC s (l.drop (kk + n)):=⟨_,rfl⟩
        have HCr:=Lib.hid hC
        rw [← hC] at hrc
        have HRc:=Lib.hid hrc
        have HSt:Hid (Sch.rdCs m [] (l.drop kk) = shift n (stepC (m - (s.length + 1)) s (l.drop (kk + n)) C)):=by
          show _ = _
          rw [HG2.out,show m - s.length = (m - (s.length + 1)) + 1 by omega,rdCs_succ,← hC]
        have HBt:=Lib.hid hbt
        clear hC HK hrc hbt hcols hcv
        go_wp2_with fail
        refine HRc.out.mono ?_
        intro e w2 hr
        cases C with
        | error er =>
          obtain ⟨rfl,hb2⟩:=hr
          have her:=rdC_err HCr.out.symm
          have g2:((er:Int) != 0) = true:=by rw [bne_iff_ne];omega
          have HE:Hid (R = .error er):=by show _ = _;rw [HRd2.out,HSt.out];rfl
          have hsz:=HM.out.size
          have hs2:=hb2.size
          obtain ⟨w3,hw3⟩:∃ w3,w3 = w2.alloc (.cells #[.string ⟨#[]⟩,.int .i64 0,.slice none 0 0,.bool false,.int .i64 0,.int .i64 0,.float .f64 0,.string ⟨#[]⟩,.slice none 0 0] 133):=⟨_,rfl⟩
          have hb3:Below wr.heap.size wr w3:=by rw [hw3];exact hb2.alloc hb2.size _
          have hz0:w3.heap[w.heap.size]? = some (.cells #[.slice none 0 0] 24 (0,0)):=(hb3.block _ (by omega)).trans HM.out.b0
          have r0:w3.cell? ⟨w.heap.size,0,none⟩ = some (.slice none 0 0):=blk_cell hz0 0
          have rf0:=blk_free hz0 0
          have HBf:Hid (Below w.heap.size w (w3.setCell ⟨w.heap.size,0,none⟩ (.slice none 0 0))):=(HM.out.below.trans (hb3.mono (by omega))).setCell (Nat.le_refl _) _
          have HZf:Hid ((w3.setCell ⟨w.heap.size,0,none⟩ (.slice none 0 0)).heap[w.heap.size]? = some (.cells #[.slice none 0 0] 24 (0,0))):=blk_set hz0 0 _
          have HW3:=Lib.hid hw3
          rw [hw3] at r0 rf0
          unfold cells9
          clear hz0 hb3 hb2 hw3 HRc HSt HG2 HM HRd2 her hs2
          go_wp2
          rw [← HW3.out]
          refine bodyPost_ret (results_row2 rfl _ _ w.heap.size _ _ _ _ rfl HZf.out Tryz.underlying24 rfl (by kernel_rfl)) rfl ?_
          rw [HE.out]
          exact ⟨rfl,HBf.out⟩
        | ok ck =>
          obtain ⟨y,kj⟩:=ck
          obtain ⟨u',rfl,hv,hb2⟩:=hr
          obtain ⟨F1,F2,k',tp,tn,tc,vk,vi,vb,vt,vp,vn,vc,hu,-⟩:=hv.out
          have hkj:kj ≤ l.length - (kk + n):=by
            obtain ⟨h1,⟨r,h2⟩,-⟩:=Sch.rdC_ok HCr.out.symm
            have hq:=congrArg List.length h2
            rw [List.length_drop,List.length_append] at hq
            omega
          have HV:=Lib.hid hv
          have HB2w:=Lib.hid hb2
          have hsz:w.heap.size + 1 ≤ w2.heap.size:=Nat.le_trans HM.out.size hb2.size
          have HSt2:Hid (Sch.rdCs m [] (l.drop kk) = shift (n + kj) (Sch.rdCs (m - (s ++ [y]).length) (s ++ [y]) (l.drop (kk + (n + kj))))):=by
            show _ = _
            rw [HSt.out,stepC,shift_shift,List.length_append,List.length_singleton,List.drop_drop,Nat.add_assoc kk]
          obtain ⟨nm,hs7⟩:∃ nm,nm = y.name:=⟨_,rfl⟩
          obtain ⟨hh,hs8⟩:∃ hh,hh = y.has:=⟨_,rfl⟩
          rw [← hs7,← hs8] at hu
          rw [hu] at HV
          subst hu
          rw [show ((kk + n + kj:Nat):Int) = (kk:Int) + (n:Int) + (kj:Int) by omega]
          clear hv hb2 HRc HSt HG2 hs7 hs8 HCr
          unfold cells9 at HV ⊢
          have HB3:Hid (Below w2.heap.size w2 ((w2.alloc (.cells #[.string nm,.int .i64 k',.slice tp tn tc,.bool hh,.int .i64 vk,.int .i64 vi,.float .f64 vb,.string vt,.slice vp vn vc] 133)).alloc (.cells #[.string nm,.int .i64 k',.slice tp tn tc,.bool hh,.int .i64 vk,.int .i64 vi,.float .f64 vb,.string vt,.slice vp vn vc] 133))):=((Below.refl _ _).alloc (Nat.le_refl _) _).alloc (by simp) _
          go_wp2_with (at_builtin;refine wp_moreC (B:=w.heap.size + 1) (us:=us) ((HBt.out.on HB2w.out).on HB3.out).row (u:=#[.string nm,.int .i64 k',.slice tp tn tc,.bool hh,.int .i64 vk,.int .i64 vi,.float .f64 vb,.string vt,.slice vp vn vc]) rfl HV.out.one9 (ad:=w2.heap.size + 1) (blk_second w2 _ _) (by omega) (by simp;omega) rfl rfl rfl rfl rfl ?_
                       intro g2 cap2 w4 hr4 hg4 hn4
                       have HMK:=Lib.hid (HM.out.next HBt.out HB2w.out HV.out (fun _ h => h) HB3.out hr4 hg4 hn4)
                       clear hr4 hg4 hn4)
          go_roundw
          case rel => exact ⟨s ++ [y],n + kj,some ⟨g2,0,none⟩,cap2,by simp;omega,by go_num,by simp,by simp,by omega,⟨by simpa using HMK.out,HSt2.out⟩⟩
          case measure => simp [intOf];omega
      · have hjn:¬ (s.length:Int) < (m:Int):=by omega
        have hsm2:s.length = m:=by omega
        have HRd3:Hid (R = if kk + n = l.length then .ok s else .error 5):=by
          show _ = _
          rw [HRd2.out,HG2.out,hsm2,Nat.sub_self]
          simp [Sch.rdCs,shift]
        clear hsm2
        have hz0:=HM.out.b0
        have r0:wr.cell? ⟨w.heap.size,0,none⟩ = some (.slice none 0 0):=blk_cell hz0 0
        have rf0:=blk_free hz0 0
        by_cases hfin:kk + n = l.length
        · have gf:((kk:Int) + (n:Int) != (l.length:Int)) = false:=bne_f (by omega)
          have HE:Hid (R = .ok s):=by show _ = _;rw [HRd3.out,if_pos hfin]
          have HZf:Hid ((wr.setCell ⟨w.heap.size,0,none⟩ (.slice q s.length d)).heap[w.heap.size]? = some (.cells #[.slice q s.length d] 24 (0,0))):=blk_set hz0 0 _
          have HBf:Hid (Below w.heap.size w (wr.setCell ⟨w.heap.size,0,none⟩ (.slice q s.length d))):=HM.out.below.setCell (Nat.le_refl _) _
          have HOf:Hid (SOwn (wr.setCell ⟨w.heap.size,0,none⟩ (.slice q s.length d)) w.heap.size #[.slice q s.length d] s):=by
            obtain ⟨us,Fs,hbt⟩:=HM.out.built
            exact ⟨_,us,Fs,rfl,(hbt.set ⟨w.heap.size,0,none⟩ _ (by show w.heap.size < _;omega)).low (by omega),by omega⟩
          clear hz0 HK HG2 HRd2 HRd3 hfin
          go_wp2
          refine bodyPost_ret (results_row2 rfl _ _ w.heap.size _ _ _ _ rfl HZf.out Tryz.underlying24 rfl (by kernel_rfl)) rfl ?_
          rw [HE.out]
          exact ⟨_,rfl,HOf.out,HBf.out⟩
        · have gf:((kk:Int) + (n:Int) != (l.length:Int)) = true:=bne_t (by omega)
          have HE:Hid (R = .error 5):=by show _ = _;rw [HRd3.out,if_neg hfin]
          have HZf:Hid ((wr.setCell ⟨w.heap.size,0,none⟩ (.slice none 0 0)).heap[w.heap.size]? = some (.cells #[.slice none 0 0] 24 (0,0))):=blk_set hz0 0 _
          have HBf:Hid (Below w.heap.size w (wr.setCell ⟨w.heap.size,0,none⟩ (.slice none 0 0))):=HM.out.below.setCell (Nat.le_refl _) _
          clear hz0 HK HG2 HRd2 HRd3 hfin
          go_wp2
          refine bodyPost_ret (results_row2 rfl _ _ w.heap.size _ _ _ _ rfl HZf.out Tryz.underlying24 rfl (by kernel_rfl)) rfl ?_
          rw [HE.out]
          exact ⟨rfl,HBf.out⟩
end Go.Proofs.YtclhbhhlddbocaaGreatDoor
namespace Go.Proofs.YtclhbhhlddbocaaGreatDoor
open Go.RowKit
theorem flat2_len (us:Nat → Array Value):∀ n,(∀ j,j < n → (us j).size = 2) → (flat us n).length = n * 2
 | 0,_ => by simp [flat]
 | n + 1,h => by
  rw [flat,List.length_append,flat2_len us n fun j hj => h j (by omega),Array.length_toList,h n (by omega)];omega
theorem flat2_get (us:Nat → Array Value):∀ n,(∀ j,j < n → (us j).size = 2) → ∀ j,j < n → ∀ m,m < 2 → (flat us n)[j * 2 + m]? = (us j)[m]?
 | 0,_,j,hj,_,_ => by omega
 | n + 1,h,j,hj,m,hm => by
  have hl:=flat2_len us n fun j hj => h j (by omega)
  rw [flat]
  rcases Nat.lt_or_ge j n with h1 | h1
  ·rw [List.getElem?_append_left (by omega),flat2_get us n (fun j hj => h j (by omega)) j h1 m hm]
  ·have hjn:j = n:=by omega
   subst hjn
   rw [List.getElem?_append_right (by omega),hl,Nat.add_sub_cancel_left]
   simp
def zeroT:Value:=.agg (cells2 0 none 0 0)
theorem info42:(Tryz.prog.info? 127).map (fun i => (i.zero,i.size,i.bytes)) = some (some zeroT,2,32):=by kernel_rfl
theorem one2 {w:World} {F:Nat → Prop} {u:Array Value} {x:Ty} (h:TOwn w F u x):∀ a ∈ u.toList,a.oneCell' = true:=by
 obtain ⟨k,p,n,c,rfl⟩:=h.shape
 intro a ha
 simp [cells2] at ha
 rcases ha with rfl | rfl <;> rfl
section
variable {B:Nat} {v:Value} {n:Nat} {us:Nat → Array Value} {w:World} {u:Array Value} {ad H:Nat}
theorem step_moreT (hown:w.ownsRow B 127 2 v n (flat us n)) (h5:u.size = 2) (h1:∀ a ∈ u.toList,a.oneCell' = true) (hblk:w.heap[ad]? = some (.cells u 127 (0,0))) (hn:(n + 1) * 32 ≤ 140737488355328) (hB:B ≤ w.heap.size) (hH:w.heap.size = H)
  {ops:Array Oper} {o:Oper} {a:Act} {K:Act → World → Prop} {Q:Exit → Act → World → Prop} {E:Prop} (y x:Operand)
  (hg:o.guard = none) (hop:o.op = Op.call { callee:=Callee.builtin Builtin.append,args:=#[y,x],argTypes:=#[125,125] })
  (hs:a.eval y = v) (hx:a.eval x = .slice (some ⟨ad,0,none⟩) 1 1)
  (hK:∀ g cap w',w'.ownsRow B 127 2 (.slice (some ⟨g,0,none⟩) (n + 1) cap) (n + 1) (flat us n ++ u.toList) → w.grownBy w' v.ownBlock → (v.ownBlock = some g ∨ g = H) → K (a.put o.dst (.slice (some ⟨g,0,none⟩) (n + 1) cap)) w') :
  if Region.wanted o (yielded ops a.tmps) = true then Oper.wp Tryz.prog o a w K Q else E:=by
 obtain ⟨i,hi,hz,hsz,hby⟩:=info_parts info42
 exact step_append_lies w hg y x 125 hop B 127 i zeroT 2 32 Tryz.underlying125 hi hz hsz hby rfl (by decide) v n (flat us n) hs hown ⟨ad,0,none⟩ 1 1 u.toList hx (by simp [h5])
  (World.news_of_block hblk) h1 (by decide) (by unfold maxLen;omega) hn hB H hH fun g cap w' h2 h3 h4 _ => hK g cap w' h2 h3 h4
end
structure TBuilt (w:World) (B:Nat) (v:Value) (n:Nat) (us:Nat → Array Value) (Fs:Nat → Nat → Prop) (ys:List Ty):Prop where
 len:ys.length = n
 five:∀ j,j < n → (us j).size = 2
 row:w.ownsRow B 127 2 v n (flat us n)
 own:∀ j (h:j < ys.length),TOwn w (Fs j) (us j) ys[j]
 apart:∀ j m,j < n → m < n → j ≠ m → ∀ k,Fs j k → ¬ Fs m k
 beside:∀ g,v.ownBlock = some g → ∀ j,j < n → ¬ Fs j g
 range:∀ j,j < n → ∀ k,Fs j k → B ≤ k ∧ k < w.heap.size
theorem tbuilt_nil (w:World) (B:Nat):TBuilt w B (.slice none 0 0) 0 (fun _ => #[]) (fun _ _ => False) [] :=
 ⟨rfl,fun j hj => by omega,World.ownsRow_nil _ _ _ _,fun j hj => by simp at hj,fun j m hj => by omega,fun g hg => by simp [Value.ownBlock] at hg,fun j hj => by omega⟩
section
variable {w w':World} {B:Nat} {v:Value} {n:Nat} {us:Nat → Array Value} {Fs:Nat → Nat → Prop} {ys:List Ty}
theorem TBuilt.aside {G:Nat → Prop} (h:TBuilt w B v n us Fs ys) (ha:Aside G w w') (h1:∀ g,v.ownBlock = some g → ¬ G g) (h2:∀ j,j < n → ∀ k,Fs j k → ¬ G k):TBuilt w' B v n us Fs ys:=by
 refine ⟨h.len,h.five,?_,fun j hj => (h.own j hj).aside ha (h2 j (by rw [← h.len];exact hj)),h.apart,h.beside,fun j hj k hk => ⟨(h.range j hj k hk).1,Nat.lt_of_lt_of_le (h.range j hj k hk).2 ha.size⟩⟩
 refine ⟨h.row.1,?_⟩
 rcases h.row.2 with h3 | ⟨g,cap,cur,rfl,h4,h5,h6⟩
 ·exact .inl h3
 ·exact .inr ⟨g,cap,cur,rfl,h4,by rw [ha.block g (Array.getElem?_eq_some_iff.1 h5).1 (h1 g rfl)];exact h5,h6⟩
theorem TBuilt.lt (h:TBuilt w B v n us Fs ys):∀ g,v.ownBlock = some g → B ≤ g ∧ g < w.heap.size:=World.ownsRow.lt h.row
theorem TBuilt.on (h:TBuilt w B v n us Fs ys) (hb:Below w.heap.size w w'):TBuilt w' B v n us Fs ys :=
 h.aside (aside_new hb (fun _ => False)) (fun _ _ hc => hc) (fun _ _ _ _ hc => hc)
theorem TBuilt.set (h:TBuilt w B v n us Fs ys) (p:Addr) (u:Value) (hp:p.block < B):TBuilt (w.setCell p u) B v n us Fs ys :=
 h.aside (G:=fun k => k = p.block) ((Aside.refl (fun k => k = p.block) w).setCell (p:=p) (.inl rfl) u) (fun g hg hc => by have:=(h.lt g hg).1;omega) (fun j hj k hk hc => by have:=(h.range j hj k hk).1;omega)
theorem TBuilt.step {w2 w3 w4:World} {u:Array Value} {F:Nat → Prop} {x:Ty} {g cap:Nat} (h:TBuilt w B v n us Fs ys) (hb:Below w.heap.size w w2) (hx:TOwn w2 F u x) (hF:∀ k,F k → w.heap.size ≤ k ∧ k < w2.heap.size) (hb3:Below w2.heap.size w2 w3) (hB:B ≤ w.heap.size)
  (hr:w4.ownsRow B 127 2 (.slice (some ⟨g,0,none⟩) (n + 1) cap) (n + 1) (flat us n ++ u.toList)) (hg:w3.grownBy w4 v.ownBlock) (hn:v.ownBlock = some g ∨ g = w3.heap.size) :
  TBuilt w4 B (.slice (some ⟨g,0,none⟩) (n + 1) cap) (n + 1) (fun j => if j = n then u else us j) (fun j => if j = n then F else Fs j) (ys ++ [x]):=by
 have hs:=hb.size
 have hs3:=hb3.size
 have ha:Aside (fun k => v.ownBlock = some k) w2 w4:=by
  refine (aside_new hb3 _).trans (G:=fun k => v.ownBlock = some k) ⟨hg.os,hg.tape,hg.output,hg.size,fun k hk hf => hg.block k hk (fun hc => hf hc.symm)⟩ (fun _ _ h => h)
 have hgF:∀ k,F k → ¬ v.ownBlock = some k:=fun k hk hc => by have:=(h.lt k hc).2;have:=(hF k hk).1;omega
 have hn1:∀ j,j < n + 1 → j ≠ n → j < n:=fun j h1 h2 => by omega
 refine ⟨by rw [List.length_append,h.len];rfl,fun j hj => ?_,?_,fun j hj => ?_,fun j m hj hm hjm k hk => ?_,fun g' hg' j hj => ?_,fun j hj k hk => ?_⟩
 ·split
  ·exact hx.five
  ·exact h.five j (by omega)
 ·rw [flat,flat_congr _ us n (fun j hj => by simp [show ¬ j = n by omega])]
  simpa using hr
 ·rw [List.length_append,h.len,List.length_singleton] at hj
  by_cases hjn:j = n
  ·subst hjn
   rw [if_pos rfl,if_pos rfl,List.getElem_append_right (by rw [h.len];exact Nat.le_refl _)]
   simp only [h.len,Nat.sub_self,List.getElem_singleton]
   exact hx.aside ha hgF
  ·rw [if_neg hjn,if_neg hjn,List.getElem_append_left (by rw [h.len];omega)]
   exact ((h.own j (by rw [h.len];omega)).under hb (fun k hk => (h.range j (by omega) k hk).2)).aside ha (fun k hk hc => h.beside k hc j (by omega) hk)
 ·by_cases hjn:j = n
  ·rw [if_pos hjn] at hk
   rw [if_neg (by omega)]
   exact fun hc => by have:=(h.range m (by omega) k hc).2;have:=(hF k hk).1;omega
  ·rw [if_neg hjn] at hk
   by_cases hmn:m = n
   ·rw [if_pos hmn]
    exact fun hc => by have:=(h.range j (by omega) k hk).2;have:=(hF k hc).1;omega
   ·rw [if_neg hmn]
    exact h.apart j m (by omega) (by omega) hjm k hk
 ·simp only [Value.ownBlock,Option.some.injEq] at hg'
  subst hg'
  by_cases hjn:j = n
  ·rw [if_pos hjn]
   intro hc
   have:=hF _ hc
   rcases hn with hn | hn
   ·exact hgF _ hc hn
   ·omega
  ·rw [if_neg hjn]
   intro hc
   rcases hn with hn | hn
   ·exact h.beside _ hn j (by omega) hc
   ·have:=(h.range j (by omega) _ hc).2;omega
 ·have h4:=ha.size
  by_cases hjn:j = n
  ·rw [if_pos hjn] at hk
   have:=hF k hk;omega
  ·rw [if_neg hjn] at hk
   have:=h.range j (by omega) k hk;omega
theorem TBuilt.done (h:TBuilt w B v n us Fs ys) (hl:n * 32 ≤ 140737488351232) (k:Int):∃ p c,v = .slice p n c ∧ TOwn w (fun k => B ≤ k ∧ k < w.heap.size) (cells2 k p n c) (.mk k ys):=by
 rcases h.row.2 with ⟨rfl,h0⟩ | ⟨g,cap,cur,rfl,h1,h2,h3,h4,h5,h6⟩
 ·have hy:ys = []:=List.eq_nil_of_length_eq_zero (by rw [h.len];exact h0)
  subst hy
  subst h0
  exact ⟨none,0,rfl,.none⟩
 ·refine ⟨_,cap,rfl,?_⟩
  have hg:=(Array.getElem?_eq_some_iff.1 h2).1
  have hlen:=h.len
  have hcell:∀ q,q < n * 2 → w.cell? ⟨g,q,none⟩ = (flat us n)[q]?:=fun q hq => by
   rw [← h6,List.getElem?_take_of_lt hq]
   simp [World.cell?,h2]
  subst hlen
  refine .some us Fs hl h3 h.five ⟨hg,fun j hj m hm => ?_⟩ (fun j hj m hm => by simp [World.frozen?,h2]) ⟨h1,hg⟩ (fun j hj => h.beside g rfl j hj) h.apart (fun j hj k hk => h.range j hj k hk) h.own
  rw [Nat.zero_add,hcell _ (by omega),flat2_get us _ h.five j hj m hm]
end
structure MakingT (w:World) (C0:Array Value) (k:Int) (zs:List Ty) (j:Nat) (v:Value) (wr:World):Prop where
 built:∃ us Fs,TBuilt wr (w.heap.size + 3) v j us Fs (zs.take j)
 b0:wr.heap[w.heap.size]? = some (.cells C0 127 (0,0))
 b1:wr.heap[w.heap.size + 1]? = some (.cells (cells2 0 none 0 0) 127 (0,0))
 b2:wr.heap[w.heap.size + 2]? = some (.cells #[.int .i64 k,v] 127 (0,0))
 below:Below w.heap.size w wr
 size:w.heap.size + 3 ≤ wr.heap.size
section
variable {w wr:World} {C0:Array Value} {k:Int} {zs:List Ty} {j:Nat} {v:Value}
theorem MakingT.slice (h:MakingT w C0 k zs j v wr):∃ p c,v = .slice p j c:=by
 obtain ⟨us,Fs,hb⟩:=h.built
 rcases hb.row.2 with ⟨h1,h2⟩ | ⟨g,cap,cur,h1,_⟩
 ·exact ⟨none,0,by rw [h1,h2]⟩
 ·exact ⟨_,cap,h1⟩
theorem MakingT.next {w2 w3 w4:World} {u:Array Value} {F:Nat → Prop} {g cap:Nat} {us:Nat → Array Value} {Fs:Nat → Nat → Prop} (h:MakingT w C0 k zs j v wr) (hbt:TBuilt wr (w.heap.size + 3) v j us Fs (zs.take j)) (hj:j < zs.length) (hb:Below wr.heap.size wr w2) (hx:TOwn w2 F u zs[j])
  (hF:∀ k,F k → wr.heap.size ≤ k ∧ k < w2.heap.size) (hb3:Below w2.heap.size w2 w3)
  (hr:w4.ownsRow (w.heap.size + 3) 127 2 (.slice (some ⟨g,0,none⟩) (j + 1) cap) (j + 1) (flat us j ++ u.toList)) (hg:w3.grownBy w4 v.ownBlock) (hn:v.ownBlock = some g ∨ g = w3.heap.size) :
  Below w.heap.size w w4 ∧ (∀ n,n < 3 → w4.heap[w.heap.size + n]? = wr.heap[w.heap.size + n]?) ∧ MakingT w C0 k zs (j + 1) (.slice (some ⟨g,0,none⟩) (j + 1) cap) (w4.setCell ⟨w.heap.size + 2,1,none⟩ (.slice (some ⟨g,0,none⟩) (j + 1) cap)):=by
 have hs:=h.size
 have hs2:=hb.size
 have hs3:=hb3.size
 have hst:=hbt.step hb hx hF hb3 hs hr hg hn
 have hold:∀ n,n < 3 → w4.heap[w.heap.size + n]? = wr.heap[w.heap.size + n]?:=fun n hn => by
  rw [hg.block _ (by omega) (fun hc => by have:=(hbt.lt _ hc.symm).1;omega),hb3.block _ (by omega),hb.block _ (by omega)]
 have hb4:Below w.heap.size w w4:=((h.below.trans (hb.mono (by omega))).trans (hb3.mono (by omega))).grown hg (by omega) (fun k hk => by have:=(hbt.lt k hk).1;omega)
 refine ⟨hb4,hold,⟨⟨(fun n => if n = j then u else us n),(fun n => if n = j then F else Fs n),?_⟩,?_,?_,?_,?_,?_⟩⟩
 ·rw [List.take_succ_eq_append_getElem hj]
  exact hst.set ⟨w.heap.size + 2,1,none⟩ _ (by show w.heap.size + 2 < _;omega)
 ·have:=hold 0 (by omega)
  rw [Nat.add_zero] at this
  exact blk_set_far (this.trans h.b0) _ _ (by show w.heap.size ≠ w.heap.size + 2;omega)
 ·exact blk_set_far ((hold 1 (by omega)).trans h.b1) _ _ (by show w.heap.size + 1 ≠ w.heap.size + 2;omega)
 ·rw [blk_set ((hold 2 (by omega)).trans h.b2)]
  rfl
 ·exact hb4.setCell (by show w.heap.size ≤ w.heap.size + 2;omega) _
 ·have:=hg.size
  simp [World.setCell]
  omega
end
end Go.Proofs.YtclhbhhlddbocaaGreatDoor
