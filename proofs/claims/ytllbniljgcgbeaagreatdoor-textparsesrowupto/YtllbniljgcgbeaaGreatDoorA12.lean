import Derived.Test.YtllbniljgcgbeaaGreatDoorA11
import Derived.Test.YtllbniljgcgbeaaGreatDoorB04
import Derived.Test.YtllbniljgcgbeaaGreatDoorA18
import Derived.Test.YtllbniljgcgbeaaGreatDoorB02
set_option maxRecDepth 100000
set_option maxHeartbeats 4000000
namespace Go.Proofs.YtllbniljgcgbeaaGreatDoor
open Go.RowKit
theorem enters_body {P : Program} {f : FuncId} {fn : Func} {c : Code} (hf : P.funcs[f]? = some fn) (hname : (fn.name == "runtime.NumGoroutine") = false) (hb : fn.body = some c) (args : Array Value) (w : World) :
  (callFunc f args).run P w = .ok (.enter f args) w:=by
 have h1 : fn.name ≠ "runtime.NumGoroutine" := by simpa using hname
 simp [callFunc,hf,h1,hb]
section
variable {w w':World} {P:Nat} {S:ByteArray} {l:Tx.Bs}
theorem longest_low (h:Prs w P S l):Calls Tryz.prog 81 #[.pointer (some ⟨P,0,none⟩),.func (.func 98) #[] #[]] w fun e w' => e = .returned (.string ⟨(l.takeWhile Sch.low).toArray⟩) ∧ Below w.heap.size w w' :=
 longestK h runes_low 98 #[] (enters_body Tryz.func98 (by kernel_rfl) rfl) fun r w' _ => (isLetterX r w').mono fun _ _ ⟨h1,h2⟩ => ⟨h1,0,h2⟩
theorem longest_nam (h:Prs w P S l):Calls Tryz.prog 81 #[.pointer (some ⟨P,0,none⟩),.func (.func 82) #[] #[]] w fun e w' => e = .returned (.string ⟨(l.takeWhile Sch.ch).toArray⟩) ∧ Below w.heap.size w w' :=
 longestK h runes_nam 82 #[] (enters_body Tryz.func82 (by kernel_rfl) rfl) fun r w' _ => (inNameX r w').mono fun _ _ ⟨h1,h2⟩ => ⟨h1,0,h2⟩
theorem longest_int (h:Prs w P S l):Calls Tryz.prog 81 #[.pointer (some ⟨P,0,none⟩),.func (.func 100) #[] #[]] w fun e w' => e = .returned (.string ⟨(l.takeWhile Tx.iset).toArray⟩) ∧ Below w.heap.size w w' :=
 longestK h runes_int 100 #[] (enters_body Tryz.func100 (by kernel_rfl) rfl) fun r w' _ => (inIntX r w').mono fun _ _ ⟨h1,h2⟩ => ⟨h1,0,h2⟩
theorem longest_flt (h:Prs w P S l):Calls Tryz.prog 81 #[.pointer (some ⟨P,0,none⟩),.func (.func 140) #[] #[]] w fun e w' => e = .returned (.string ⟨(l.takeWhile Tx.fset).toArray⟩) ∧ Below w.heap.size w w' :=
 longestK h runes_flt 140 #[] (enters_body Tryz.func140 (by kernel_rfl) rfl) fun r w' _ => (inFloatX r w').mono fun _ _ ⟨h1,h2⟩ => ⟨h1,0,h2⟩
end
def isTy (w:World) (t:Ty) (v:Value) (w':World):Prop:=∃ u,v = .agg u ∧ TOwn w' (fun k => w.heap.size ≤ k ∧ k < w'.heap.size) u t
theorem isTy.open {w w':World} {t:Ty} {v:Value} (h:isTy w t v w'):∃ u,v = .agg u ∧ TOwn w' (fun k => w.heap.size ≤ k ∧ k < w'.heap.size) u t:=h
theorem finT {w wr:World} {P:Nat} {S:ByteArray} {b:Int} {q:Option Addr} {n c:Nat} {x:Ty} {l:Tx.Bs} {F:Nat → Prop} (hP:P < w.heap.size) (bN:wr.heap[w.heap.size]? = some (.cells #[.int .i64 0,.slice none 0 0] 32 (0,0)))
  (hown:TOwn wr F (cells2 b q n c) x) (hF:∀ k,F k → w.heap.size < k ∧ k < wr.heap.size) (hrd:Prs wr P S l) (ha:Aside (fun i => i = P) w wr) {w5:World} (hw5:w5 = (wr.setCell ⟨w.heap.size,0,none⟩ (.int .i64 b)).setCell ⟨w.heap.size,1,none⟩ (.slice q n c)) :
  w5.heap[w.heap.size]? = some (.cells (cells2 b q n c) 32 (0,0)) ∧ isTy w x (.agg (cells2 b q n c)) w5 ∧ Prs w5 P S l ∧ Aside (fun i => i = P) w w5:=by
 have h2:Aside (fun i => i = w.heap.size) wr w5:=by rw [hw5];exact ((Aside.refl (fun k => k = w.heap.size) wr).setCell (p:=⟨w.heap.size,0,none⟩) (.inl rfl) _).setCell (p:=⟨w.heap.size,1,none⟩) (.inl rfl) _
 have hs:w5.heap.size = wr.heap.size:=by rw [hw5];simp [World.setCell]
 refine ⟨?_,⟨_,rfl,?_⟩,hrd.aside h2 (fun k hk => by rw [hk];exact hP),ha.trans h2 (fun i hi he => by rw [he] at hi;omega)⟩
 ·rw [hw5,blk_set (blk_set bN 0 _) 1];rfl
 ·exact (hown.aside h2 (fun k hk he => by have:=hF k hk;omega)).mono (fun k hk => by have:=hF k hk;omega)
theorem set_alloc {w:World} {b i:Nat} {v:Value} (h:b < w.heap.size) (o:Obj):(w.alloc o).setCell ⟨b,i,none⟩ v = (w.setCell ⟨b,i,none⟩ v).alloc o:=by
 exact World.setCell_alloc_past o b i v h
def andM {β:Type} (x:Tx.R Tx.Bs) (g:Tx.Bs → Tx.R β):Tx.R β:=match x with
 | .error e => .error e
 | .ok r => g r
def andP {α β:Type} (x:Tx.R (α × Tx.Bs)) (g:α → Tx.Bs → Tx.R β):Tx.R β:=match x with
 | .error e => .error e
 | .ok (a,r) => g a r
theorem pty_at (f:Nat) (l wd r:Tx.Bs) (hwd:wd = l.takeWhile Sch.low) (hr:r = l.dropWhile Sch.low):Tx.pty (f + 1) l = if Tx.kindOf wd = 0 then .error (5,l.length) else if Tx.kindOf wd < 6 then .ok (⟨Tx.kindOf wd,[]⟩,r) else
  andM (Tx.must [40] r) fun r => andP (Tx.pty f r) fun t r => andM (Tx.must [41] r) fun r => .ok (⟨Tx.kindOf wd,[t]⟩,r):=by
 rw [hwd,hr,Tx.pty]
 by_cases h0:Tx.kindOf (l.takeWhile Sch.low) = 0
 ·rw [if_pos h0,if_pos h0]
 rw [if_neg h0,if_neg h0]
 by_cases h6:Tx.kindOf (l.takeWhile Sch.low) < 6
 ·rw [if_pos h6,if_pos h6]
 rw [if_neg h6,if_neg h6]
 cases Tx.must [40] (l.dropWhile Sch.low) with
 | error e => rfl
 | ok r =>
  dsimp only [andM]
  cases Tx.pty f r with
  | error e => rfl
  | ok p => rfl
theorem PsU.bad {w w':World} {P:Nat} {S:ByteArray} {k n:Nat} {e:Ending} (h:PsU w P S (.error (k,n)) e w'):e = .panicked (fltV k (S.size - n)) ∧ Aside (fun i => i = P) w w':=h
theorem PsU.good {w w':World} {P:Nat} {S:ByteArray} {l:Tx.Bs} {e:Ending} (h:PsU w P S (.ok l) e w'):e = .returned (.tuple #[]) ∧ Prs w' P S l ∧ Aside (fun i => i = P) w w':=h
theorem beq_nf {a b:Int} (h:a ≠ b):(a == b) = false:=by rw [beq_eq_false_iff_ne];exact h
theorem bne_nt {a b:Int} (h:a ≠ b):(a != b) = true:=by rw [bne_iff_ne];exact h
theorem typeAtX:∀ (f d:Nat) (l:Tx.Bs) (P:Nat) (S:ByteArray) (w:World),d + f = 5 → Prs w P S l → Calls Tryz.prog 77 #[.pointer (some ⟨P,0,none⟩),.int .i64 d] w (PsA w P S (Tx.pty f l) (isTy w)):=by
 intro f
 induction f with
 | zero =>
  intro d l P S w hd h
  have g0:decide ((d:Int) ≤ 4) = false:=decide_eq_false (by omega)
  have hb0:Below w.heap.size w (w.alloc (.cells #[.int .i64 0,.slice none 0 0] 32)):=(Below.refl _ _).alloc (Nat.le_refl _) _
  have HN:=Lib.hid (pneed_f (h.on hb0) 62 l.length rfl)
  have HA:=Lib.hid (aside_new hb0 (fun i => i = P))
  have e1:Tx.pty 0 l = .error (62,l.length):=rfl
  rw [e1]
  clear h e1 hb0
  go_enter Tryz.func77,Tryz.ntmps77
  go_wp2_with fail
  try rw [g0]
  refine HN.out.mono ?_
  rintro e w2 ⟨rfl,hw2⟩
  rw [hw2]
  clear hw2 w2 HN
  go_wp2
  exact ⟨rfl,rfl,HA.out⟩
 | succ f ih =>
  intro d l P S w hd h
  have g0:decide ((d:Int) ≤ 4) = true:=decide_eq_true (by omega)
  have hdi:(d:Int) ≤ 4:=by omega
  obtain ⟨W0,hW0⟩:∃ W0,W0 = w.alloc (.cells #[.int .i64 0,.slice none 0 0] 32):=⟨_,rfl⟩
  have HB0:Hid (Below w.heap.size w W0):=by rw [hW0];exact (Below.refl _ _).alloc (Nat.le_refl _) _
  have HN0:Hid (W0.heap[w.heap.size]? = some (.cells #[.int .i64 0,.slice none 0 0] 32 (0,0))):=by rw [hW0];exact blk_new w _
  have HW0:=Lib.hid hW0
  have HL:=Lib.hid (longest_low (h.on HB0.out))
  obtain ⟨wd,hwd⟩:∃ wd,wd = l.takeWhile Sch.low:=⟨_,rfl⟩
  obtain ⟨r0,hr0⟩:∃ r,r = l.dropWhile Sch.low:=⟨_,rfl⟩
  have hsp:l = wd ++ r0:=by rw [hwd,hr0];exact (List.takeWhile_append_dropWhile).symm
  obtain ⟨R,hR⟩:∃ R,R = Tx.pty (f + 1) l:=⟨_,rfl⟩
  have HR:=Lib.hid (hR.trans (pty_at f l wd r0 hwd hr0))
  rw [← hR]
  rw [← hwd] at HL
  have HPlt:=Lib.hid h.lt
  have HH:=Lib.hid (h.on HB0.out)
  have HIH:=Lib.hid ih
  have HSp:=Lib.hid hsp
  clear h hW0 ih hwd hr0 hR hsp
  go_enter Tryz.func77,Tryz.ntmps77
  go_wp2_with fail
  rw [← HW0.out]
  try rw [g0]
  refine (pneed_t _ 62 _).mono ?_
  rintro e w2 ⟨rfl,hw2⟩
  rw [hw2]
  clear hw2 w2 HW0
  go_wp2_with fail
  refine HL.out.mono ?_
  rintro e w1 ⟨rfl,hb1⟩
  have HB1:=Lib.hid hb1
  have HH1:=Lib.hid (HH.out.on hb1)
  have HA1:=Lib.hid ((aside_new HB0.out (fun i => i = P)).trans (aside_new hb1 (fun i => i = P)) (fun _ _ h => h))
  have HN1:Hid (w1.heap[w.heap.size]? = some (.cells #[.int .i64 0,.slice none 0 0] 32 (0,0))):=blk_on HN0.out hb1 (blk_lt HN0.out)
  have HK:=Lib.hid (kindOfK wd w1 HH1.out.hv)
  obtain ⟨K,hK⟩:∃ K,K = Tx.kindOf wd:=⟨_,rfl⟩
  rw [← hK] at HK HR
  have HKe:=Lib.hid hK
  clear hb1 hK HL HB0 HN0 HH
  go_wp2_with fail
  refine HK.out.mono ?_
  rintro e w2 ⟨rfl,hw2⟩
  rw [hw2]
  clear hw2 w2 HK
  obtain ⟨W,hW⟩:∃ W,W = w1.alloc (.cells #[.int .i64 K,.slice none 0 0] 32):=⟨_,rfl⟩
  have HBW:Hid (Below w1.heap.size w1 W):=by rw [hW];exact (Below.refl _ _).alloc (Nat.le_refl _) _
  have HTb:Hid (W.heap[w1.heap.size]? = some (.cells #[.int .i64 K,.slice none 0 0] 32 (0,0))):=by rw [hW];exact blk_new w1 _
  have HW:=Lib.hid hW
  have HHW:=Lib.hid (HH1.out.on HBW.out)
  have HAW:=Lib.hid (HA1.out.trans (aside_new HBW.out (fun i => i = P)) (fun _ _ h => h))
  have HNW:Hid (W.heap[w.heap.size]? = some (.cells #[.int .i64 0,.slice none 0 0] 32 (0,0))):=blk_on HN1.out HBW.out (blk_lt HN1.out)
  have hlt1:w.heap.size < w1.heap.size:=blk_lt HN1.out
  have hltW:w1.heap.size < W.heap.size:=blk_lt HTb.out
  have c0:W.cell? ⟨w1.heap.size,0,none⟩ = some (.int .i64 K):=blk_cell HTb.out 0
  have c01:W.cell? ⟨w1.heap.size,1,none⟩ = some (.slice none 0 0):=blk_cell HTb.out 1
  clear hW HN1 HA1
  by_cases hK0:K = 0
  ·have g1:(K != 0) = false:=by rw [hK0];rfl
   have HRe:Hid (R = .error (5,l.length)):=HR.out.trans (if_pos hK0)
   have HNd:=Lib.hid (pneed_f HHW.out 5 l.length rfl)
   clear hK0 HR
   go_wp2_with fail
   rw [← HW.out]
   go_wp2_with fail
   try rw [g1]
   refine HNd.out.mono ?_
   rintro e w2 ⟨rfl,hw2⟩
   rw [hw2]
   clear hw2 w2 HNd
   go_wp2
   rw [HRe.out]
   exact ⟨rfl,rfl,HAW.out⟩
  have g1:(K != 0) = true:=bne_nt hK0
  have HR1:=Lib.hid (HR.out.trans (if_neg hK0))
  have hK1:1 ≤ K ∧ K ≤ 7:=by have:=Tx.word_kind (l:=wd) (by rw [← HKe.out];exact hK0);rw [← HKe.out] at this;exact this.2
  have HHs:Hid (Prs W P S (wd ++ r0)):=by show Prs W P S (wd ++ r0);rw [← HSp.out];exact HHW.out
  have hsm:=HHW.out.small
  have hle:=HHW.out.le
  have hll:l.length = wd.length + r0.length:=by rw [HSp.out,List.length_append]
  have c1:W.cell? ⟨P,1,none⟩ = some (.int .i64 ((S.size - l.length:Nat):Int)):=HHW.out.cell 1
  have t1:=HHW.out.thawed 1
  obtain ⟨a,ha⟩:∃ a,S.size - l.length = a:=⟨_,rfl⟩
  rw [ha] at c1
  have g5:(a:Int) + (wd.length:Int) ≤ 140737488351232:=by omega
  obtain ⟨W1,hW1⟩:∃ W1,W1 = W.setCell ⟨P,1,none⟩ (.int .i64 ((a:Int) + (wd.length:Int))):=⟨_,rfl⟩
  have HP1:Hid (Prs W1 P S r0):=by rw [hW1];exact HHs.out.skip (by omega)
  have hA1:Aside (fun i => i = P) W W1:=by rw [hW1];exact aside_at _ _ _
  have hPT:¬ w1.heap.size = P:=by have:=HPlt.out;omega
  have hPN:¬ w.heap.size = P:=by have:=HPlt.out;omega
  have HA1:=Lib.hid (HAW.out.trans hA1 (fun _ _ h => h))
  have HT1:Hid (W1.heap[w1.heap.size]? = some (.cells #[.int .i64 K,.slice none 0 0] 32 (0,0))):=(hA1.block _ (blk_lt HTb.out) hPT).trans HTb.out
  have HN1:Hid (W1.heap[w.heap.size]? = some (.cells #[.int .i64 0,.slice none 0 0] 32 (0,0))):=(hA1.block _ (blk_lt HNW.out) hPN).trans HNW.out
  have hs1:W1.heap.size = W.heap.size:=by rw [hW1];simp [World.setCell]
  have hlt2:w1.heap.size < W1.heap.size:=by omega
  have d0:W1.cell? ⟨w1.heap.size,0,none⟩ = some (.int .i64 K):=blk_cell HT1.out 0
  have d1:W1.cell? ⟨w1.heap.size,1,none⟩ = some (.slice none 0 0):=blk_cell HT1.out 1
  have HW1:=Lib.hid hW1
  clear hW1 hA1 HHs HHW HTb HAW HB1 HH1 ha hll hle HSp HKe HR hs1
  go_wp2_with fail
  rw [← HW.out]
  go_wp2_with fail
  try rw [g1]
  refine (pneed_t _ 5 _).mono ?_
  rintro e w2 ⟨rfl,hw2⟩
  rw [hw2]
  clear hw2 w2 HW HBW
  by_cases h6:K < 6
  ·have HRk:Hid (R = .ok (⟨K,[]⟩,r0)):=HR1.out.trans (if_pos h6)
   have e6:(K == 6) = false:=beq_nf (by omega)
   have e7:(K == 7) = false:=beq_nf (by omega)
   have z0:W.cell? ⟨w.heap.size,0,none⟩ = some (.int .i64 0):=blk_cell HNW.out 0
   have z1:W.cell? ⟨w.heap.size,1,none⟩ = some (.slice none 0 0):=blk_cell HNW.out 1
   have zf0:=blk_free HNW.out 0
   have zf1:=blk_free HNW.out 1
   have HFin:=Lib.hid (fun w5 hw5 => finT (w5:=w5) (b:=K) (q:=none) (n:=0) (c:=0) (x:=⟨K,[]⟩) (F:=fun _ => False) HPlt.out HN1.out .none (fun _ h => h.elim) HP1.out HA1.out hw5)
   clear HR1 h6 hK1 hK0 HIH
   go_wp2
   rw [← HW1.out]
   obtain ⟨f1,f2,f3,f4⟩:=HFin.out _ rfl
   refine bodyPost_ret (v:=.agg (cells2 K none 0 0)) (results_cell_row rfl _ _ w.heap.size _ _ _ _ rfl f1 Tryz.underlying32 rfl (by kernel_rfl)) rfl ?_
   rw [HRk.out]
   exact ⟨_,rfl,f2,f3,f4⟩
  have HR2:=Lib.hid (HR1.out.trans (if_neg h6))
  have HPa:=Lib.hid (passK HP1.out ⟨#[40]⟩ (by decide))
  have em:(ByteArray.mk #[40]).data.toList = [40]:=rfl
  rw [em] at HPa
  have e67:K = 6 ∨ K = 7:=by omega
  have HC:Hid (∀ w3 r1,Prs w3 P S r1 → Calls Tryz.prog 77 #[.pointer (some ⟨P,0,none⟩),.int .i64 ((d:Int) + 1)] w3 (PsA w3 P S (Tx.pty f r1) (isTy w3))):=fun w3 r1 h3 => by
   have:=HIH.out (d + 1) r1 P S w3 (by omega) h3
   rw [show ((d + 1:Nat):Int) = (d:Int) + 1 by omega] at this
   exact this
  obtain ⟨G,hG⟩:∃ G,G = Tx.must [40] r0:=⟨_,rfl⟩
  rw [← hG] at HR2 HPa
  have HK67:=Lib.hid e67
  clear HR1 em h6 hK1 hK0 hG HIH
  have et:((K == 6) = true) ∨ ((K == 6) = false ∧ (K == 7) = true):=by
   rcases e67 with h | h
   ·exact .inl (by rw [h];rfl)
   ·exact .inr ⟨by rw [h];rfl,by rw [h];rfl⟩
  clear e67
  rcases et with e6 | ⟨e6,e7⟩
  all_goals
   cases G with
   | error er =>
    obtain ⟨ek,en⟩:=er
    have HRe:Hid (R = .error (ek,en)):=HR2.out
    clear HR2
    go_wp2_with fail
    rw [← HW1.out]
    refine HPa.out.mono ?_
    intro e w3 hh
    obtain ⟨he,ha3⟩:=hh.bad
    subst he
    have HA3:=Lib.hid (HA1.out.trans ha3 (fun _ _ h => h))
    clear hh ha3 HPa
    go_wp2
    rw [HRe.out]
    exact ⟨rfl,rfl,HA3.out⟩
   | ok r1 =>
    go_wp2_with fail
    rw [← HW1.out]
    refine HPa.out.mono ?_
    intro e w3 hh
    obtain ⟨he,hp3,ha3⟩:=hh.good
    subst he
    have HP3:=Lib.hid hp3
    have HA3:=Lib.hid (HA1.out.trans ha3 (fun _ _ h => h))
    have HT3:Hid (w3.heap[w1.heap.size]? = some (.cells #[.int .i64 K,.slice none 0 0] 32 (0,0))):=(ha3.block _ (blk_lt HT1.out) hPT).trans HT1.out
    have HN3:Hid (w3.heap[w.heap.size]? = some (.cells #[.int .i64 0,.slice none 0 0] 32 (0,0))):=(ha3.block _ (blk_lt HN1.out) hPN).trans HN1.out
    clear hh ha3 hp3 HPa
    have HCa:=Lib.hid (HC.out w3 r1 HP3.out)
    obtain ⟨Y,hY⟩:∃ Y,Y = Tx.pty f r1:=⟨_,rfl⟩
    have HR3:Hid (R = andP Y fun t r => andM (Tx.must [41] r) fun r => .ok (⟨K,[t]⟩,r)):=by rw [hY];exact HR2.out
    rw [← hY] at HCa
    clear hY HR2 HC
    cases Y with
    | error er =>
     obtain ⟨ek,en⟩:=er
     have HRe:Hid (R = .error (ek,en)):=HR3.out
     clear HR3
     go_wp2_with fail
     refine HCa.out.mono ?_
     intro e w4 hh
     obtain ⟨he,ha4⟩:=hh.bad
     subst he
     have HA4:=Lib.hid (HA3.out.trans ha4 (fun _ _ h => h))
     clear hh ha4 HCa
     go_wp2
     rw [HRe.out]
     exact ⟨rfl,rfl,HA4.out⟩
    | ok tr =>
     obtain ⟨t,r2⟩:=tr
     go_wp2_with fail
     refine HCa.out.mono ?_
     intro e w4 hh
     obtain ⟨v4,he,hv4,hp4,ha4⟩:=hh.good
     obtain ⟨u4,hu4,hown4⟩:=hv4.open
     obtain ⟨k4,p4,n4,c4,hsh⟩:=hown4.shape
     subst hsh
     unfold cells2 at hu4 hown4
     subst hu4
     subst he
     have HT4:Hid (w4.heap[w1.heap.size]? = some (.cells #[.int .i64 K,.slice none 0 0] 32 (0,0))):=(ha4.block _ (blk_lt HT3.out) hPT).trans HT3.out
     have HN4:Hid (w4.heap[w.heap.size]? = some (.cells #[.int .i64 0,.slice none 0 0] 32 (0,0))):=(ha4.block _ (blk_lt HN3.out) hPN).trans HN3.out
     have hT4:w1.heap.size < w4.heap.size:=blk_lt HT4.out
     have hTe:¬ w1.heap.size = w4.heap.size:=by omega
     have hTe2:¬ w4.heap.size = w1.heap.size:=by omega
     obtain ⟨W5,hW6⟩:∃ W5,W5 = (w4.setCell ⟨w1.heap.size,1,none⟩ (.slice (some ⟨w4.heap.size,0,none⟩) 1 1)).alloc (.cells #[.int .i64 k4,.slice p4 n4 c4] 32):=⟨_,rfl⟩
     have hW5:W5 = (w4.alloc (.cells #[.int .i64 k4,.slice p4 n4 c4] 32)).setCell ⟨w1.heap.size,1,none⟩ (.slice (some ⟨w4.heap.size,0,none⟩) 1 1):=by rw [hW6];exact (set_alloc hT4 _).symm
     have hbA:Below w4.heap.size w4 (w4.alloc (.cells #[.int .i64 k4,.slice p4 n4 c4] 32)):=(Below.refl _ _).alloc (Nat.le_refl _) _
     have hsA:(w4.alloc (.cells #[.int .i64 k4,.slice p4 n4 c4] 32)).heap.size = w4.heap.size + 1:=by simp
     have hTA:=blk_on HT4.out hbA hT4
     have ha5:Aside (fun i => i = w1.heap.size) (w4.alloc (.cells #[.int .i64 k4,.slice p4 n4 c4] 32)) W5:=by rw [hW5];exact (Aside.refl (fun k => k = w1.heap.size) _).setCell (p:=⟨w1.heap.size,1,none⟩) (.inl rfl) _
     have hs5:W5.heap.size = w4.heap.size + 1:=by rw [hW5];simp [World.setCell]
     have HT5:Hid (W5.heap[w1.heap.size]? = some (.cells #[.int .i64 K,.slice (some ⟨w4.heap.size,0,none⟩) 1 1] 32 (0,0))):=by rw [hW5,blk_set hTA 1];rfl
     have HN5:Hid (W5.heap[w.heap.size]? = some (.cells #[.int .i64 0,.slice none 0 0] 32 (0,0))):=(ha5.block _ (by omega) (by show ¬ w.heap.size = w1.heap.size;omega)).trans (blk_on HN4.out hbA (blk_lt HN4.out))
     have hG5:W5.heap[w4.heap.size]? = some (.cells #[.int .i64 k4,.slice p4 n4 c4] 32 (0,0)):=(ha5.block _ (by omega) (by show ¬ w4.heap.size = w1.heap.size;omega)).trans (blk_new w4 _)
     have hPlt:=HPlt.out
     have HP5:=Lib.hid ((hp4.on hbA).aside ha5 (fun k hk => by omega))
     have hs4:=ha4.size
     have ha45:Aside (fun i => i = w1.heap.size) w4 W5:=(aside_new hbA _).trans ha5 (fun _ _ h => h)
     have hs3:w1.heap.size < w3.heap.size:=blk_lt HT3.out
     have hO5:TOwn W5 (fun k => w.heap.size < k ∧ k < W5.heap.size) (cells2 K (some ⟨w4.heap.size,0,none⟩) 1 1) ⟨K,[t]⟩:=by
      refine TOwn.one hG5 (hown4.aside ha45 (fun k hk he => by omega)) (fun k hk => ?_) (fun hc => ?_) ?_
      ·omega
      ·omega
      ·omega
     have HO5:=Lib.hid hO5
     have HA5:=Lib.hid ((HA3.out.trans ha4 (fun _ _ h => h)).trans ha45 (fun i hi he => by omega))
     have tc1:w4.cell? ⟨w1.heap.size,1,none⟩ = some (.slice none 0 0):=blk_cell HT4.out 1
     have tf1:=blk_free HT4.out 1
     have HPb:=Lib.hid (passK HP5.out ⟨#[41]⟩ (by decide))
     rw [show (ByteArray.mk #[41]).data.toList = [41] from rfl] at HPb
     obtain ⟨Z,hZ⟩:∃ Z,Z = Tx.must [41] r2:=⟨_,rfl⟩
     have HR4:Hid (R = andM (Tx.must [41] r2) fun r => .ok (⟨K,[t]⟩,r)):=HR3.out
     rw [← hZ] at HR4 HPb
     have HW5:=Lib.hid hW6
     have HS5:Hid (w4.heap.size < W5.heap.size):=by show _ < _;omega
     clear hh hv4 hp4 ha4 hown4 hW5 hW6 hbA hsA hTA ha5 hs5 hG5 hPlt hs4 ha45 hs3 hO5 hZ HR3 HCa HT4 HN4 hsm
     go_wp2_with fail
     rw [← HW5.out]
     cases Z with
     | error er =>
      obtain ⟨ek,en⟩:=er
      have HRe:Hid (R = .error (ek,en)):=HR4.out
      clear HR4
      refine HPb.out.mono ?_
      intro e w6 hh
      obtain ⟨he,ha6⟩:=hh.bad
      subst he
      have HA6:=Lib.hid (HA5.out.trans ha6 (fun _ _ h => h))
      clear hh ha6 HPb
      go_wp2
      rw [HRe.out]
      exact ⟨rfl,rfl,HA6.out⟩
     | ok r3 =>
      have HRk:Hid (R = .ok (⟨K,[t]⟩,r3)):=HR4.out
      clear HR4
      refine HPb.out.mono ?_
      intro e w6 hh
      obtain ⟨he,hp6,ha6⟩:=hh.good
      subst he
      have HA6:=Lib.hid (HA5.out.trans ha6 (fun _ _ h => h))
      have hT6:w6.heap[w1.heap.size]? = some (.cells #[.int .i64 K,.slice (some ⟨w4.heap.size,0,none⟩) 1 1] 32 (0,0)):=(ha6.block _ (blk_lt HT5.out) hPT).trans HT5.out
      have HN6:Hid (w6.heap[w.heap.size]? = some (.cells #[.int .i64 0,.slice none 0 0] 32 (0,0))):=(ha6.block _ (blk_lt HN5.out) hPN).trans HN5.out
      have y0:w6.cell? ⟨w1.heap.size,0,none⟩ = some (.int .i64 K):=blk_cell hT6 0
      have y1:w6.cell? ⟨w1.heap.size,1,none⟩ = some (.slice (some ⟨w4.heap.size,0,none⟩) 1 1):=blk_cell hT6 1
      have z0:w6.cell? ⟨w.heap.size,0,none⟩ = some (.int .i64 0):=blk_cell HN6.out 0
      have z1:w6.cell? ⟨w.heap.size,1,none⟩ = some (.slice none 0 0):=blk_cell HN6.out 1
      have zf0:=blk_free HN6.out 0
      have zf1:=blk_free HN6.out 1
      have hPl:=HPlt.out
      have hO6:TOwn w6 (fun k => w.heap.size < k ∧ k < W5.heap.size) (cells2 K (some ⟨w4.heap.size,0,none⟩) 1 1) ⟨K,[t]⟩:=HO5.out.aside ha6 (fun k hk he => by omega)
      have hs6:=ha6.size
      have HFin:=Lib.hid (fun w7 hw7 => finT (w5:=w7) HPlt.out HN6.out hO6 (fun k hk => ⟨hk.1,by omega⟩) hp6 HA6.out hw7)
      clear hh ha6 hp6 HPb hT6 hO6 hs6 hPl tc1 tf1
      go_wp2
      obtain ⟨f1,f2,f3,f4⟩:=HFin.out _ rfl
      refine bodyPost_ret (v:=.agg (cells2 K (some ⟨w4.heap.size,0,none⟩) 1 1)) (results_cell_row rfl _ _ w.heap.size _ _ _ _ rfl f1 Tryz.underlying32 rfl (by kernel_rfl)) rfl ?_
      rw [HRk.out]
      exact ⟨_,rfl,f2,f3,f4⟩
end Go.Proofs.YtllbniljgcgbeaaGreatDoor
namespace Go.Proofs.YtllbniljgcgbeaaGreatDoor
open Go.RowKit
attribute [local go_sem] run_store_float
def isVa (w:World) (x:V) (v:Value) (w':World):Prop:=∃ u,v = .agg u ∧ VOwn w' (fun k => w.heap.size ≤ k ∧ k < w'.heap.size) u x
theorem isVa.open {w w':World} {x:V} {v:Value} (h:isVa w x v w'):∃ u,v = .agg u ∧ VOwn w' (fun k => w.heap.size ≤ k ∧ k < w'.heap.size) u x:=h
def zero5:Array Value:=#[.int .i64 0,.int .i64 0,.float .f64 0,.string ⟨#[]⟩,.slice none 0 0]
def set5 (w:World) (N:Nat) (k i:Int) (b:Nat) (t:ByteArray) (q:Option Addr) (n c:Nat):World:=((((w.setCell ⟨N,0,none⟩ (.int .i64 k)).setCell ⟨N,1,none⟩ (.int .i64 i)).setCell ⟨N,2,none⟩ (.float .f64 b)).setCell ⟨N,3,none⟩ (.string t)).setCell ⟨N,4,none⟩ (.slice q n c)
theorem set5_block {w:World} {N:Nat} {C:Array Value} {T:TypeId} (h:w.heap[N]? = some (.cells C T (0,0))) (hC:C.size = 5) (k i:Int) (b:Nat) (t:ByteArray) (q:Option Addr) (n c:Nat):(set5 w N k i b t q n c).heap[N]? = some (.cells (cells5 k i b t q n c) T (0,0)):=by
 unfold set5
 rw [blk_set (blk_set (blk_set (blk_set (blk_set h 0 _) 1 _) 2 _) 3 _) 4 _]
 obtain ⟨l⟩:=C
 match l,hC with
 | [a,b,c,d,e],_ => rfl
theorem set5_aside (w:World) (N:Nat) (k i:Int) (b:Nat) (t:ByteArray) (q:Option Addr) (n c:Nat):Aside (fun j => j = N) w (set5 w N k i b t q n c) :=
 ((((((Aside.refl (fun j => j = N) w).setCell (p:=⟨N,0,none⟩) (.inl rfl) _).setCell (p:=⟨N,1,none⟩) (.inl rfl) _).setCell (p:=⟨N,2,none⟩) (.inl rfl) _).setCell (p:=⟨N,3,none⟩) (.inl rfl) _).setCell (p:=⟨N,4,none⟩) (.inl rfl) _)
theorem set5_size (w:World) (N:Nat) (k i:Int) (b:Nat) (t:ByteArray) (q:Option Addr) (n c:Nat):(set5 w N k i b t q n c).heap.size = w.heap.size:=by simp [set5,World.setCell]
theorem finV {w wr:World} {P:Nat} {S:ByteArray} {k i:Int} {b:Nat} {t:ByteArray} {q:Option Addr} {n c:Nat} {x:V} {l:Tx.Bs} {F:Nat → Prop} (hP:P < w.heap.size) (bN:wr.heap[w.heap.size]? = some (.cells zero5 36 (0,0)))
  (hown:VOwn wr F (cells5 k i b t q n c) x) (hF:∀ k,F k → w.heap.size < k ∧ k < wr.heap.size) (hrd:Prs wr P S l) (ha:Aside (fun i => i = P) w wr) {w5:World} (hw5:w5 = set5 wr w.heap.size k i b t q n c) :
  w5.heap[w.heap.size]? = some (.cells (cells5 k i b t q n c) 36 (0,0)) ∧ isVa w x (.agg (cells5 k i b t q n c)) w5 ∧ Prs w5 P S l ∧ Aside (fun i => i = P) w w5:=by
 have h2:Aside (fun i => i = w.heap.size) wr w5:=by rw [hw5];exact set5_aside _ _ _ _ _ _ _ _ _
 have hs:w5.heap.size = wr.heap.size:=by rw [hw5];exact set5_size _ _ _ _ _ _ _ _ _
 refine ⟨?_,⟨_,rfl,?_⟩,hrd.aside h2 (fun k hk => by rw [hk];exact hP),ha.trans h2 (fun i hi he => by rw [he] at hi;omega)⟩
 ·rw [hw5];exact set5_block bN rfl _ _ _ _ _ _ _
 ·exact (hown.aside h2 (fun k hk he => by have:=hF k hk;omega)).mono (fun k hk => by have:=hF k hk;omega)
def pnum (l:Tx.Bs):Tx.R (V × Tx.Bs):=match Tx.num (l.takeWhile Tx.iset) with
 | none => .error (5,l.length)
 | some n => .ok (⟨2,n,0,⟨#[]⟩,[]⟩,l.dropWhile Tx.iset)
def pflo (rf:Tx.Bs → Option Nat) (l:Tx.Bs):Tx.R (V × Tx.Bs):=andM (Tx.must [126] l) fun t => match rf (t.takeWhile Tx.fset) with
 | none => .error (5,t.length)
 | some b => .ok (⟨3,0,b,⟨#[]⟩,[]⟩,t.dropWhile Tx.fset)
theorem parseInt_full (s:ByteArray) (hlim:s.size ≤ 281474976710656) (w:World) (hs:Sen w) :
  Calls Tryz.prog 139 #[.string s,.int .i64 10,.int .i64 64] w fun e w' =>
   ((∃ n:Int,Lib.parseIntB 64 s.data.toList = .ok n ∧ e = .returned (.tuple #[.int .i64 n,.nilIface])) ∨ ((∀ n,Lib.parseIntB 64 s.data.toList ≠ .ok n) ∧ ∃ (v:Int) (N:Nat),e = .returned (.tuple #[.int .i64 v,.iface 185 (.pointer (some ⟨N,0,none⟩))]))) ∧ Below w.heap.size w w':=by
 obtain ⟨⟨tp,p,h1⟩,⟨tq,q,h2⟩⟩:=hs
 cases h:Lib.parseIntB 64 s.data.toList
 ·rename_i n
  refine (Tryz.strconv_ParseInt_10_at64_ok s (by omega) n h w).mono ?_
  rintro e w' ⟨rfl,hg⟩
  refine ⟨.inl ⟨n,rfl,rfl⟩,?_⟩
  rcases hg with rfl | ⟨t,rfl⟩
  ·exact Below.refl _ _
  ·exact Lib.bytesWorld_below w 5 t
 ·have c:Calls Tryz.prog 139 #[.string s,.int .i64 10,.int .i64 64] w fun e w' => ∃ N,e = .returned (.tuple #[.int .i64 (0),.iface 185 (.pointer (some ⟨N,0,none⟩))]) ∧ w.heap.size ≤ N ∧ w'.heap[N]? = some (.cells #[.string ⟨#[80,97,114,115,101,73,110,116]⟩,.string s,.iface tp p] 203 (0,0)) ∧ Below w.heap.size w w':=Any.strconv_ParseInt_10_at64_syntax_var Tryz.laysC174 s hlim h tp p w h1
  refine c.mono ?_
  rintro e w' ⟨N,rfl,_,_,hb⟩
  exact ⟨.inr ⟨fun n hn => (by cases hn),_,N,rfl⟩,hb⟩
 ·have c:Calls Tryz.prog 139 #[.string s,.int .i64 10,.int .i64 64] w fun e w' => ∃ N,e = .returned (.tuple #[.int .i64 (Lib.intSat 64 s.data.toList),.iface 185 (.pointer (some ⟨N,0,none⟩))]) ∧ w.heap.size ≤ N ∧ w'.heap[N]? = some (.cells #[.string ⟨#[80,97,114,115,101,73,110,116]⟩,.string s,.iface tq q] 203 (0,0)) ∧ Below w.heap.size w w':=Any.strconv_ParseInt_10_at64_range_var Tryz.laysC174 s hlim h tq q w h2
  refine c.mono ?_
  rintro e w' ⟨N,rfl,_,_,hb⟩
  exact ⟨.inr ⟨fun n hn => (by cases hn),_,N,rfl⟩,hb⟩
theorem numberX {w:World} {P:Nat} {S:ByteArray} {l:Tx.Bs} (h:Prs w P S l):Calls Tryz.prog 101 #[.pointer (some ⟨P,0,none⟩)] w (PsA w P S (pnum l) (isVa w)):=by
 obtain ⟨W0,hW0⟩:∃ W0,W0 = w.alloc (.cells #[.int .i64 0,.int .i64 0,.float .f64 0,.string ⟨#[]⟩,.slice none 0 0] 36):=⟨_,rfl⟩
 have HB0:Hid (Below w.heap.size w W0):=by rw [hW0];exact (Below.refl _ _).alloc (Nat.le_refl _) _
 have HN0:Hid (W0.heap[w.heap.size]? = some (.cells zero5 36 (0,0))):=by rw [hW0];exact blk_new w _
 have HW0:=Lib.hid hW0
 have h0:=h.on HB0.out
 have HL:=Lib.hid (longest_int h0)
 obtain ⟨wd,hwd⟩:∃ wd,wd = l.takeWhile Tx.iset:=⟨_,rfl⟩
 obtain ⟨r0,hr0⟩:∃ r,r = l.dropWhile Tx.iset:=⟨_,rfl⟩
 have hsp:l = wd ++ r0:=by rw [hwd,hr0];exact (List.takeWhile_append_dropWhile).symm
 obtain ⟨R,hR⟩:∃ R,R = pnum l:=⟨_,rfl⟩
 have hR1:R = match Tx.num wd with
  | none => .error (5,l.length)
  | some n => .ok (⟨2,n,0,⟨#[]⟩,[]⟩,r0):=by rw [hR,hwd,hr0];rfl
 rw [← hR]
 rw [← hwd] at HL
 have HPlt:=Lib.hid h.lt
 have HH0:=Lib.hid h0
 have hll:l.length = wd.length + r0.length:=by rw [hsp,List.length_append]
 have hsm:=h.small
 have hle:=h.le
 have HSp:=Lib.hid hsp
 have hwl:(ByteArray.mk wd.toArray).size ≤ 281474976710656:=by show wd.toArray.size ≤ _;simp;omega
 have HPI:=Lib.hid (fun w' hs => parseInt_full (ByteArray.mk wd.toArray) hwl w' hs)
 have HRR:=Lib.hid hR1
 clear h h0 hW0 hwd hr0 hR hR1 hwl hsp
 go_enter Tryz.func101,Tryz.ntmps101
 go_wp2_with fail
 rw [← HW0.out]
 refine HL.out.mono ?_
 rintro e w1 ⟨rfl,hb1⟩
 have HB1:=Lib.hid hb1
 have HH1:=Lib.hid (HH0.out.on hb1)
 have HA1:=Lib.hid ((aside_new HB0.out (fun i => i = P)).trans (aside_new hb1 (fun i => i = P)) (fun _ _ h => h))
 have HN1:Hid (w1.heap[w.heap.size]? = some (.cells zero5 36 (0,0))):=blk_on HN0.out hb1 (blk_lt HN0.out)
 have HPi:=Lib.hid (HPI.out w1 HH1.out.hv.sen)
 clear hb1 HL HB0 HN0 HH0 HW0 HPI
 have HSp1:Hid (Prs w1 P S (wd ++ r0)):=by show Prs w1 P S (wd ++ r0);rw [← HSp.out];exact HH1.out
 obtain ⟨a,ha⟩:∃ a,S.size - l.length = a:=⟨_,rfl⟩
 have HAL:Hid (a + wd.length = S.size - r0.length):=by show _ = _;omega
 have HAS:Hid (S.size - l.length = a):=ha
 have g5:(a:Int) + (wd.length:Int) ≤ 140737488351232:=by omega
 clear ha hll hle hsm
 go_wp2_with fail
 refine HPi.out.mono ?_
 rintro e w2 ⟨hcase,hb2⟩
 have HH2:=Lib.hid (HH1.out.on hb2)
 have HS2:=Lib.hid (HSp1.out.on hb2)
 have HA2:=Lib.hid (HA1.out.trans (aside_new hb2 (fun i => i = P)) (fun _ _ h => h))
 have HN2:Hid (w2.heap[w.heap.size]? = some (.cells zero5 36 (0,0))):=blk_on HN1.out hb2 (blk_lt HN1.out)
 have HT2:=Lib.hid HH2.out.hv.tab
 clear hb2 HH1 HA1 HN1 HB1 HPi HSp1
 rcases hcase with ⟨n,hn,rfl⟩ | ⟨hno,v,N,rfl⟩
 ·have hbd:=Lib.parseIntB_bounds hn
  have hbd2:-9223372036854775808 ≤ n ∧ n ≤ 9223372036854775807:=by
   have e:((2 ^ (64 - 1):Nat):Int) = 9223372036854775808:=by decide
   rw [e] at hbd
   omega
  have hnum:=num_of_parse hn
  have HF:Hid (∀ w',Tab w' → Calls Tryz.prog 118 #[.int .i64 n,.int .i64 10] w' fun e w'' => e = .returned (.string ⟨(Lib.itoa n).toArray⟩) ∧ Below w'.heap.size w' w''):=fun w' ht => (Tryz.strconv_FormatInt_10 n hbd2.1 hbd2.2 w' ht).mono fun e w'' ⟨q1,q2⟩ => ⟨q1,below_of_grow q2⟩
  obtain ⟨X,hX⟩:∃ X,X = Lib.itoa n:=⟨_,rfl⟩
  rw [← hX] at HF hnum
  have e8:(ByteArray.mk X.toArray).toList = X:=by rw [ByteArray.toList_eq]
  have e7:(ByteArray.mk wd.toArray).toList = wd:=by rw [ByteArray.toList_eq]
  by_cases hx:X = wd
  ·have e6:(X == wd) = true:=by rw [beq_iff_eq];exact hx
   have HRk:Hid (R = .ok (⟨2,n,0,⟨#[]⟩,[]⟩,r0)):=by show R = _;rw [HRR.out,hnum,if_pos hx]
   clear hx hX hnum hn hbd hbd2 HRR
   go_wp2_with fail
   refine (HF.out _ HT2.out).mono ?_
   rintro e w3 ⟨rfl,hb3⟩
   have HA3:=Lib.hid (HA2.out.trans (aside_new hb3 (fun i => i = P)) (fun _ _ h => h))
   have HN3:Hid (w3.heap[w.heap.size]? = some (.cells zero5 36 (0,0))):=blk_on HN2.out hb3 (blk_lt HN2.out)
   have HS3:=Lib.hid (HS2.out.on hb3)
   have c1:w3.cell? ⟨P,1,none⟩ = some (.int .i64 (a:Int)):=by rw [← HAS.out];exact (HH2.out.on hb3).cell 1
   have t1:=(HH2.out.on hb3).thawed 1
   have hPN:¬ w.heap.size = P:=by have:=HPlt.out;omega
   have hPN2:¬ P = w.heap.size:=by have:=HPlt.out;omega
   have HP4:Hid (Prs (w3.setCell ⟨P,1,none⟩ (.int .i64 ((a:Int) + (wd.length:Int)))) P S r0):=HS3.out.skip (by have:=HAL.out;omega)
   have HA4:=Lib.hid (HA3.out.trans (aside_at w3 P (.int .i64 ((a:Int) + (wd.length:Int)))) (fun _ _ h => h))
   have HN4:Hid ((w3.setCell ⟨P,1,none⟩ (.int .i64 ((a:Int) + (wd.length:Int)))).heap[w.heap.size]? = some (.cells zero5 36 (0,0))):=((aside_at w3 P (.int .i64 ((a:Int) + (wd.length:Int)))).block _ (blk_lt HN3.out) hPN).trans HN3.out
   have HFin:=Lib.hid (fun w5 hw5 => finV (w5:=w5) (k:=2) (i:=n) (b:=0) (t:=⟨#[]⟩) (q:=none) (n:=0) (c:=0) (x:=⟨2,n,0,⟨#[]⟩,[]⟩) (F:=fun _ => False) HPlt.out HN4.out .none (fun _ h => h.elim) HP4.out HA4.out hw5)
   have zf0:=blk_free HN3.out 0
   have zf1:=blk_free HN3.out 1
   have zf2:=blk_free HN3.out 2
   have zf3:=blk_free HN3.out 3
   have zf4:=blk_free HN3.out 4
   have z0:w3.cell? ⟨w.heap.size,0,none⟩ = some (.int .i64 0):=blk_cell HN3.out 0
   have z1:w3.cell? ⟨w.heap.size,1,none⟩ = some (.int .i64 0):=blk_cell HN3.out 1
   have z2:w3.cell? ⟨w.heap.size,2,none⟩ = some (.float .f64 0):=blk_cell HN3.out 2
   have z3:w3.cell? ⟨w.heap.size,3,none⟩ = some (.string ⟨#[]⟩):=blk_cell HN3.out 3
   have z4:w3.cell? ⟨w.heap.size,4,none⟩ = some (.slice none 0 0):=blk_cell HN3.out 4
   clear hb3 HF HT2 HA2 HN2 HS2 HH2
   go_wp2_with fail
   refine (pneed_t _ 5 _).mono ?_
   rintro e w4 ⟨rfl,hw4⟩
   rw [hw4]
   clear hw4 w4
   go_wp2
   obtain ⟨f1,f2,f3,f4⟩:=HFin.out _ rfl
   refine bodyPost_ret (v:=.agg (cells5 2 n 0 ⟨#[]⟩ none 0 0)) (results_cell_row rfl _ _ w.heap.size _ _ _ _ rfl f1 Tryz.underlying36 rfl (by kernel_rfl)) rfl ?_
   rw [HRk.out]
   exact ⟨_,rfl,f2,f3,f4⟩
  ·have e6:(X == wd) = false:=by rw [beq_eq_false_iff_ne];exact hx
   have HRe:Hid (R = .error (5,l.length)):=by show R = _;rw [HRR.out,hnum,if_neg hx]
   clear hx hX hnum hn hbd hbd2 HRR
   go_wp2_with fail
   refine (HF.out _ HT2.out).mono ?_
   rintro e w3 ⟨rfl,hb3⟩
   have HA3:=Lib.hid (HA2.out.trans (aside_new hb3 (fun i => i = P)) (fun _ _ h => h))
   have HNd:=Lib.hid (pneed_f (HH2.out.on hb3) 5 l.length rfl)
   clear hb3 HF HT2 HA2 HN2 HS2 HH2
   go_wp2_with fail
   refine HNd.out.mono ?_
   rintro e w4 ⟨rfl,hw4⟩
   rw [hw4]
   clear hw4 w4 HNd
   go_wp2
   rw [HRe.out]
   exact ⟨rfl,rfl,HA3.out⟩
 ·have hnum:=num_none hno
  have HRe:Hid (R = .error (5,l.length)):=by show R = _;rw [HRR.out,hnum]
  have HNd:=Lib.hid (pneed_f HH2.out 5 l.length rfl)
  clear hnum hno HRR
  go_wp2_with fail
  refine HNd.out.mono ?_
  rintro e w4 ⟨rfl,hw4⟩
  rw [hw4]
  clear hw4 w4 HNd
  go_wp2
  rw [HRe.out]
  exact ⟨rfl,rfl,HA2.out⟩
end Go.Proofs.YtllbniljgcgbeaaGreatDoor
