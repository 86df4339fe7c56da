import Derived.Test.YtfcblnknoljkhaaGreatDoorB16
import Derived.Test.YtfcblnknoljkhaaGreatDoorA1
import Derived.Test.YtfcblnknoljkhaaGreatDoorA2
import Derived.Test.YtfcblnknoljkhaaGreatDoorB19
import Derived.Laws.Rows
import Derived.Test.YtfcblnknoljkhaaGreatDoorB18
set_option maxRecDepth 100000
set_option maxHeartbeats 4000000
namespace Go.Proofs.YtfcblnknoljkhaaGreatDoor
open Go.RowKit
structure RdrF (w:World) (A R:Nat) (l:List UInt8):Prop where
 out:∃ p c,w.heap[R]? = some (.cells #[.slice p l.length c] 73 (0,0)) ∧ At w p l ∧ l.length ≤ c ∧ (l ≠ [] → ∀ a,p = some a → a.block < A)
 small:l.length ≤ 2200
 low:A ≤ R
theorem RdrF.lt {w:World} {A R:Nat} {l:List UInt8} (h:RdrF w A R l):R < w.heap.size:=by
 obtain ⟨p,c,h1,_⟩:=h.out
 exact blk_lt h1
theorem RdrF.keep {w w':World} {A R:Nat} {l:List UInt8} (h:RdrF w A R l) (hk:∀ k,k ≤ R → w'.heap[k]? = w.heap[k]?) (hs:w.heap.size ≤ w'.heap.size):RdrF w' A R l:=by
 obtain ⟨p,c,h1,h2,h3,h4⟩:=h.out
 have hl:=h.low
 exact ⟨⟨p,c,(hk R (Nat.le_refl _)).trans h1,h2.keep h4 (fun k hk' => hk k (by omega)) hs,h3,h4⟩,h.small,h.low⟩
theorem RdrF.on {w w':World} {A R:Nat} {l:List UInt8} (h:RdrF w A R l) (hb:Below w.heap.size w w'):RdrF w' A R l:=h.keep (fun k hk => hb.block k (by have:=h.lt;omega)) hb.size
theorem RdrF.aside {w w':World} {A R:Nat} {l:List UInt8} {F:Nat → Prop} (h:RdrF w A R l) (ha:Aside F w w') (hF:∀ k,F k → R < k):RdrF w' A R l :=
 h.keep (fun k hk => ha.block k (by have:=h.lt;omega) (fun hc => by have:=hF k hc;omega)) ha.size
theorem RdrF.drew {w:World} {A R:Nat} {l:List UInt8} (h:RdrF w A R l):RdrF w.drew A R l:=h.keep (fun _ _ => rfl) (Nat.le_refl _)
theorem RdrF.cut {w:World} {A R:Nat} {l:List UInt8} {p:Option Addr} {c:Nat} (h:RdrF w A R l) (h1:w.heap[R]? = some (.cells #[.slice p l.length c] 73 (0,0))) (h2:At w p l) (h3:l.length ≤ c) (h4:l ≠ [] → ∀ a,p = some a → a.block < A) (n:Nat) (hn:n ≤ l.length) :
  RdrF (w.setCell ⟨R,0,none⟩ (.slice (cutP p n c) (l.length - n) (c - n))) A R (l.drop n):=by
 have hl:=h.low
 have h5:l.drop n ≠ [] → ∀ a,cutP p n c = some a → a.block < A:=fun hne => cutP_block (h4 (fun he => hne (by rw [he];simp)))
 refine ⟨⟨cutP p n c,c - n,?_,?_,by rw [List.length_drop];omega,h5⟩,by rw [List.length_drop];have:=h.small;omega,hl⟩
 ·rw [blk_set h1 0,List.length_drop];rfl
 ·refine (h2.cut n c h3).keep h5 (fun k hk => ?_) (by simp [World.setCell])
  exact Below.heap_setCell _ _ _ _ (by show k ≠ R;omega)
def RdB {α:Type} (w:World) (A R:Nat) (l:List UInt8) (r:Except Nat (α × Nat)) (V:α → Value → World → Prop) (e:Ending) (w':World):Prop:=match r with
 | .error k => e = .panicked (errV k) ∧ Aside (fun i => i = R) w w'
 | .ok (a,j) => ∃ v,e = .returned v ∧ V a v w' ∧ RdrF w' A R (l.drop j) ∧ Aside (fun i => i = R) w w'
theorem RdB.good {α:Type} {w w':World} {A R:Nat} {l:List UInt8} {a:α} {j:Nat} {V:α → Value → World → Prop} {e:Ending} (h:RdB w A R l (.ok (a,j)) V e w'):∃ v,e = .returned v ∧ V a v w' ∧ RdrF w' A R (l.drop j) ∧ Aside (fun i => i = R) w w':=h
theorem RdB.bad {α:Type} {w w':World} {A R:Nat} {l:List UInt8} {k:Nat} {V:α → Value → World → Prop} {e:Ending} (h:RdB w A R l (.error k) V e w'):e = .panicked (errV k) ∧ Aside (fun i => i = R) w w':=h
theorem needF_t (a:Value) (k:Int) (w:World):Calls Tryz.prog 58 #[a,.bool true,.int .i64 k] w fun e w' => e = .returned (.tuple #[]) ∧ w' = w:=by
 go_enter Tryz.func58,Tryz.ntmps58
 go_wp2
 go_end0
 exact ⟨rfl,rfl⟩
theorem needF_f (a:Value) (k:Nat) (w:World):Calls Tryz.prog 58 #[a,.bool false,.int .i64 k] w fun e w' => e = .panicked (errV k) ∧ w' = w:=by
 go_enter Tryz.func58,Tryz.ntmps58
 go_wp2
 exact ⟨rfl,rfl,rfl⟩
theorem numberF (lim:Nat) (hlim:lim ≤ 1099511627776) (l:List UInt8) (A R:Nat) (w:World) (h:RdrF w A R l):Calls Tryz.prog 56 #[.pointer (some ⟨R,0,none⟩),.int .u64 lim] w (RdB w A R l (Fr.nb lim l) isI):=by
 obtain ⟨p,c,h1,h2,h3,h4⟩:=h.out
 have hsm:=h.small
 have c0:w.cell? ⟨R,0,none⟩ = some (.slice p l.length c):=blk_cell h1 0
 have f0:=blk_free h1 0
 have HG:=Lib.hid (get_any p c l 0 (by omega) h3 w h2)
 obtain ⟨r,hr⟩:∃ r,r = Fr.nb lim l:=⟨_,rfl⟩
 have HR:=Lib.hid hr
 rw [← hr]
 clear hr
 cases hm:Sch.num l with
 | error er =>
  have HR2:Hid (r = .error 5):=by show _ = _;rw [HR.out,Fr.nb,hm]
  obtain ⟨he0,m,hgv⟩:=gotV0_err hm
  rw [hgv] at HG
  have g0:((er:Int) == 0) = false:=beq_f (by omega)
  clear hm HR hgv h1 h2 h3 h4 h he0
  go_enter Tryz.func56,Tryz.ntmps56
  go_wp2_with fail
  refine HG.out.mono ?_
  rintro e w1 ⟨rfl,hw1⟩
  rw [hw1]
  clear hw1 w1 HG
  go_wp2_with fail
  refine (needF_f _ 5 _).mono ?_
  rintro e w1 ⟨rfl,hw1⟩
  rw [hw1]
  clear hw1 w1
  go_wp2
  rw [HR2.out]
  exact ⟨rfl,rfl,Aside.refl _ _⟩
 | ok nk =>
  obtain ⟨n,k⟩:=nk
  rw [gotV0_ok hm] at HG
  obtain ⟨hk,hn64⟩:=num_le hm
  have s2:=run_cut_l p l.length c k hk w
  have HCut:=Lib.hid (h.cut h1 h2 h3 h4 k hk)
  by_cases hlt:n < lim
  ·have HR2:Hid (r = .ok (n,k)):=by show _ = _;rw [HR.out,Fr.nb,hm];exact if_pos hlt
   have g1:(n:Int) < (lim:Int):=by omega
   have g2:(n:Int) ≤ 1099511627776:=by omega
   clear hm HR h1 h2 h3 h4 h hk
   go_enter Tryz.func56,Tryz.ntmps56
   go_wp2_with fail
   refine HG.out.mono ?_
   rintro e w1 ⟨rfl,hw1⟩
   rw [hw1]
   clear hw1 w1 HG
   go_wp2_with fail
   refine (needF_t _ 5 _).mono ?_
   rintro e w1 ⟨rfl,hw1⟩
   rw [hw1]
   clear hw1 w1
   go_wp2
   go_ret
   rw [HR2.out]
   exact ⟨_,rfl,rfl,HCut.out,aside_set _ _ _ _⟩
  ·have HR2:Hid (r = .error 5):=by show _ = _;rw [HR.out,Fr.nb,hm];exact if_neg hlt
   have g1:¬ (n:Int) < (lim:Int):=by omega
   clear hm HR h1 h2 h3 h4 h hk s2 HCut
   go_enter Tryz.func56,Tryz.ntmps56
   go_wp2_with fail
   refine HG.out.mono ?_
   rintro e w1 ⟨rfl,hw1⟩
   rw [hw1]
   clear hw1 w1 HG
   go_wp2_with fail
   refine (needF_f _ 5 _).mono ?_
   rintro e w1 ⟨rfl,hw1⟩
   rw [hw1]
   clear hw1 w1
   go_wp2
   rw [HR2.out]
   exact ⟨rfl,rfl,Aside.refl _ _⟩
theorem largeF (l:List UInt8) (A R:Nat) (w:World) (h:RdrF w A R l):Calls Tryz.prog 59 #[.pointer (some ⟨R,0,none⟩)] w (RdB w A R l (Fr.nb 1099511627776 l) isI):=by
 have HN:=Lib.hid (numberF 1099511627776 (by omega) l A R w h)
 clear h
 obtain ⟨r,hr⟩:∃ r,r = Fr.nb 1099511627776 l:=⟨_,rfl⟩
 rw [← hr] at HN ⊢
 clear hr
 cases r with
 | error er =>
  go_enter Tryz.func59,Tryz.ntmps59
  go_wp2_with fail
  refine HN.out.mono ?_
  intro e w1 hh
  obtain ⟨he,ha⟩:=hh.bad
  subst he
  have HA:=Lib.hid ha
  clear hh ha HN
  go_wp2
  exact ⟨rfl,rfl,HA.out⟩
 | ok nk =>
  obtain ⟨n,k⟩:=nk
  go_enter Tryz.func59,Tryz.ntmps59
  go_wp2_with fail
  refine HN.out.mono ?_
  intro e w1 hh
  obtain ⟨v,he,hv,hrd,ha⟩:=hh.good
  replace hv:v = .int .i64 (n:Nat):=hv
  subst hv
  subst he
  have HA:=Lib.hid ha
  have HRd:=Lib.hid hrd
  clear hh ha hrd HN
  go_wp2
  go_ret
  exact ⟨_,rfl,rfl,HRd.out,HA.out⟩
end Go.Proofs.YtfcblnknoljkhaaGreatDoor
namespace Go.Proofs.YtfcblnknoljkhaaGreatDoor
open Go.RowKit
def FldA (w:World) (R:Nat) (r:Except Nat Fr) (V:Fr → Value → World → Prop) (e:Ending) (w':World):Prop:=match r with
 | .error k => e = .panicked (errV k) ∧ Aside (fun i => i = R) w w'
 | .ok f => ∃ v,e = .returned v ∧ V f v w' ∧ Aside (fun i => i = R) w w'
def isSF (B:Nat) (f:Fr) (v:Value) (w:World):Prop:=∃ sp sc,v = .agg #[.int .i64 f.number,.slice sp f.cols.length sc] ∧ SOwn w B #[.slice sp f.cols.length sc] f.cols
def isDF (B:Nat) (f:Fr) (v:Value) (w:World):Prop:=∃ bp bc,v = .agg #[.int .i64 f.number,.int .i64 f.seq,.int .i64 f.first,.int .i64 f.rows,.slice bp f.block.length bc] ∧ Has w B (.slice bp f.block.length bc) f.block
def isXF (B:Nat) (f:Fr) (v:Value) (w:World):Prop:=∃ ep ec,v = .agg #[.int .i64 f.index.at_,.int .i64 f.index.frames,.int .i64 f.index.rows,.slice ep f.index.entries.length ec] ∧ EOwn w B (.slice ep f.index.entries.length ec) f.index.entries
theorem sown_keep {w W:World} {B:Nat} {u:Array Value} {s:List Col} {G:Nat → Prop} (h:SOwn w B u s) (ha:Aside G w W) (hG:∀ k,B ≤ k → k < w.heap.size → ¬ G k):SOwn W B u s:=by
 obtain ⟨v,us,Fs,h1,h2,h3⟩:=h.out
 exact ⟨v,us,Fs,h1,h2.aside ha (fun g hg => hG g (h2.lt g hg).1 (h2.lt g hg).2) (fun j hj k hk => hG k (h2.range j hj k hk).1 (h2.range j hj k hk).2),h3⟩
theorem sown_low {w:World} {B B':Nat} {u:Array Value} {s:List Col} (h:SOwn w B u s) (hB:B' ≤ B):SOwn w B' u s:=by
 obtain ⟨v,us,Fs,h1,h2,h3⟩:=h.out
 exact ⟨v,us,Fs,h1,h2.low hB,h3⟩
theorem schemaFieldsF (l:List UInt8) (A R:Nat) (w:World) (h:RdrF w A R l):Calls Tryz.prog 39 #[.pointer (some ⟨R,0,none⟩)] w (FldA w R (Fr.rdS l) (isSF w.heap.size)):=by
 obtain ⟨w0,hw0⟩:∃ w0,w0 = w.alloc (.cells #[.int .i64 0,.slice none 0 0] 50):=⟨_,rfl⟩
 have hz0:w0.heap.size = w.heap.size + 1:=by rw [hw0];simp
 have HB0:Hid (Below w.heap.size w w0):=by rw [hw0];exact (Below.refl _ _).alloc (Nat.le_refl _) _
 have HK0:Hid (w0.heap[w.heap.size]? = some (.cells #[.int .i64 0,.slice none 0 0] 50 (0,0))):=by show _ = _;rw [hw0];exact blk_new w _
 have HW:Hid (w.alloc (.cells #[.int .i64 0,.slice none 0 0] 50) = w0):=by rw [hw0];exact rfl
 have HRd:=Lib.hid (h.on HB0.out)
 have hRlt:=h.lt
 have HN:=Lib.hid (numberF 2147483648 (by omega) l A R w0 HRd.out)
 obtain ⟨r,hr⟩:∃ r,r = Fr.rdS l:=⟨_,rfl⟩
 have HR:Hid (r = match Fr.nb 2147483648 l with
  | .error e => .error e
  | .ok (n,k) => match Sch.read (l.drop k) with
   | .error e => .error e
   | .ok s => .ok { Fr0 with kind:=1,number:=n,cols:=s }):=hr
 rw [← hr]
 have HA0:Hid (Aside (fun i => i = R) w w0):=aside_new HB0.out _
 clear hr h hw0
 cases hm:Fr.nb 2147483648 l with
 | error er =>
  rw [hm] at HN
  have HR2:Hid (r = .error er):=by show _ = _;rw [HR.out,hm]
  clear hm HR
  go_enter Tryz.func39,Tryz.ntmps39
  go_wp2_with fail
  rw [HW.out]
  refine HN.out.mono ?_
  intro e w1 hh
  obtain ⟨he,ha⟩:=hh.bad
  subst he
  have HA:=Lib.hid (HA0.out.trans ha (fun _ _ h => h))
  clear hh ha HN
  go_wp2
  rw [HR2.out]
  exact ⟨rfl,rfl,HA.out⟩
 | ok nk =>
  obtain ⟨n,k⟩:=nk
  rw [hm] at HN
  have HR2:Hid (r = match Sch.read (l.drop k) with
   | .error e => .error e
   | .ok s => .ok { Fr0 with kind:=1,number:=n,cols:=s }):=by show _ = _;rw [HR.out,hm]
  clear hm HR
  go_enter Tryz.func39,Tryz.ntmps39
  go_wp2_with fail
  rw [HW.out]
  refine HN.out.mono ?_
  intro e w1 hh
  obtain ⟨v,he,hv,hrd,ha⟩:=hh.good
  replace hv:v = .int .i64 (n:Nat):=hv
  subst hv
  subst he
  have HA:=Lib.hid (HA0.out.trans ha (fun _ _ h => h))
  obtain ⟨p1,c1,hb1,hat1,hc1,-⟩:=hrd.out
  have r0:w1.cell? ⟨R,0,none⟩ = some (.slice p1 (l.drop k).length c1):=blk_cell hb1 0
  have hsm:=hrd.small
  have HK1:Hid (w1.heap[w.heap.size]? = some (.cells #[.int .i64 0,.slice none 0 0] 50 (0,0))):=(ha.block _ (by omega) (by omega)).trans HK0.out
  have hs1:w.heap.size + 1 ≤ w1.heap.size:=by have:=ha.size;omega
  have HD:=Lib.hid (decodeK p1 (l.drop k) c1 (by omega) hc1 w1 hat1)
  clear hh ha hrd HN hb1 hat1 hc1
  obtain ⟨L,hL⟩:∃ L,L = (l.drop k).length:=⟨_,rfl⟩
  rw [← hL] at HD r0
  clear hL
  obtain ⟨sr,hsr⟩:∃ sr,sr = Sch.read (l.drop k):=⟨_,rfl⟩
  rw [← hsr] at HD HR2
  have HSr:=Lib.hid hsr
  clear hsr
  cases sr with
  | error er =>
   have HR3:Hid (r = .error er):=HR2.out
   have hne:er ≠ 0:=Sch.read_ne HSr.out.symm
   have g0:((er:Int) == 0) = false:=beq_f (by omega)
   go_wp2_with fail
   refine HD.out.mono ?_
   rintro e w2 ⟨rfl,hb⟩
   have HB2:=Lib.hid hb
   have HA2:Hid (∀ o,Aside (fun i => i = R) w (w2.alloc o)):=fun o => (HA.out.trans (aside_new hb (fun i => i = R)) (fun _ _ h => h)).alloc o
   clear hb HD HR2 hne HSr
   go_wp2_with fail
   refine (needF_f _ er _).mono ?_
   rintro e w3 ⟨rfl,hw3⟩
   rw [hw3]
   clear hw3 w3
   go_wp2
   rw [HR3.out]
   exact ⟨rfl,rfl,HA2.out _⟩
  | ok s =>
   have HR3:Hid (r = .ok { Fr0 with kind:=1,number:=n,cols:=s }):=HR2.out
   go_wp2_with fail
   refine HD.out.mono ?_
   rintro e w2 ⟨u,rfl,hso,hb⟩
   have hK2:w2.heap[w.heap.size]? = some (.cells #[.int .i64 0,.slice none 0 0] 50 (0,0)):=(hb.block _ (by omega)).trans HK1.out
   obtain ⟨sp,sc,rfl,-,-,-⟩:=hso.lies.out
   have HSo:=Lib.hid hso
   have HB2:=Lib.hid hb
   have hs2:=hb.size
   have HA2:=Lib.hid (HA.out.trans (aside_new hb (fun i => i = R)) (fun _ _ h => h))
   obtain ⟨w3,hw3⟩:∃ w3,w3 = w2.alloc (.cells #[.slice sp s.length sc] 24):=⟨_,rfl⟩
   have hK3:w3.heap[w.heap.size]? = some (.cells #[.int .i64 0,.slice none 0 0] 50 (0,0)):=by rw [hw3,blk_old _ _ (by omega)];exact hK2
   have HK3:=Lib.hid hK3
   have x0:w3.cell? ⟨w.heap.size,0,none⟩ = some (.int .i64 0):=blk_cell hK3 0
   have x1:w3.cell? ⟨w.heap.size,1,none⟩ = some (.slice none 0 0):=blk_cell hK3 1
   have xf0:=blk_free hK3 0
   have xf1:=blk_free hK3 1
   have y0:w3.cell? ⟨w2.heap.size,0,none⟩ = some (.slice sp s.length sc):=by rw [hw3];simp
   have HA3:Hid (Aside (fun i => i = R) w w3):=by rw [hw3];exact HA2.out.alloc _
   have HA23:Hid (Aside (fun i => i = w.heap.size) w2 w3):=by rw [hw3];exact (Aside.refl _ _).alloc _
   have HW3:Hid (w2.alloc (.cells #[.slice sp s.length sc] 24) = w3):=by rw [hw3];exact rfl
   clear hb HD HR2 HSr hso hK2 hK3 hw3
   go_wp2_with fail
   rw [HW3.out]
   refine (needF_t _ _ _).mono ?_
   rintro e w4 ⟨rfl,hw4⟩
   rw [hw4]
   clear hw4 w4
   go_wp2
   have HKf:Hid (((w3.setCell ⟨w.heap.size,0,none⟩ (.int .i64 n)).setCell ⟨w.heap.size,1,none⟩ (.slice sp s.length sc)).heap[w.heap.size]? = some (.cells #[.int .i64 n,.slice sp s.length sc] 50 (0,0))):=blk_set (blk_set HK3.out 0 _) 1 _
   have hAf:Aside (fun i => i = w.heap.size) w3 ((w3.setCell ⟨w.heap.size,0,none⟩ (.int .i64 n)).setCell ⟨w.heap.size,1,none⟩ (.slice sp s.length sc)):=(aside_set w3 w.heap.size 0 _).trans (aside_set _ w.heap.size 1 _) (fun _ _ h => h)
   refine bodyPost_ret (v:=.agg #[.int .i64 n,.slice sp s.length sc]) (results_cell_row rfl _ _ w.heap.size _ _ _ _ rfl HKf.out Tryz.underlying50 rfl (by kernel_rfl)) rfl ?_
   rw [HR3.out]
   refine ⟨_,rfl,⟨sp,sc,rfl,?_⟩,?_⟩
   ·exact sown_low (sown_keep HSo.out (HA23.out.trans hAf (fun _ _ h => h)) (fun k h1 h2 h3 => by omega)) (by omega)
   ·exact HA3.out.trans hAf (fun i hi h => by omega)
end Go.Proofs.YtfcblnknoljkhaaGreatDoor
namespace Go.Proofs.YtfcblnknoljkhaaGreatDoor
open Go.RowKit
theorem nbs4 (a b c d:Nat) (l:List UInt8):Fr.nbs [a,b,c,d] l = thenR (Fr.nb a l) fun x k => thenR (Fr.nb b (l.drop k)) fun y k2 => thenR (Fr.nb c ((l.drop k).drop k2)) fun z k3 => thenR (Fr.nb d (((l.drop k).drop k2).drop k3)) fun t k4 => .ok ([x,y,z,t],k + (k2 + (k3 + (k4 + 0)))):=by
 unfold Fr.nbs
 cases Fr.nb a l with
 | error e => rfl
 | ok p =>
  obtain ⟨x,k⟩:=p
  dsimp only [thenR]
  unfold Fr.nbs
  cases Fr.nb b (l.drop k) with
  | error e => rfl
  | ok p =>
   obtain ⟨y,k2⟩:=p
   dsimp only [thenR]
   unfold Fr.nbs
   cases Fr.nb c ((l.drop k).drop k2) with
   | error e => rfl
   | ok p =>
    obtain ⟨z,k3⟩:=p
    dsimp only [thenR]
    unfold Fr.nbs
    cases Fr.nb d (((l.drop k).drop k2).drop k3) with
    | error e => rfl
    | ok p => rfl
theorem drop4 (l:List UInt8) (k k2 k3 k4:Nat):l.drop (k + (k2 + (k3 + (k4 + 0)))) = (((l.drop k).drop k2).drop k3).drop k4:=by
 rw [List.drop_drop,List.drop_drop,List.drop_drop,Nat.add_zero]
def datF (n q f r:Nat) (b:List UInt8):Fr:={ Fr0 with kind:=2,number:=n,seq:=q,first:=f,rows:=r,block:=b }
theorem rdD_eq (l:List UInt8):Fr.rdD l = thenR (Fr.nb 2147483648 l) fun n k => thenR (Fr.nb 1099511627776 (l.drop k)) fun q k2 => thenR (Fr.nb 1099511627776 ((l.drop k).drop k2)) fun f k3 => thenR (Fr.nb 65 (((l.drop k).drop k2).drop k3)) fun r k4 => if r < 1 then .error 5 else .ok (datF n q f r ((((l.drop k).drop k2).drop k3).drop k4)):=by
 unfold Fr.rdD
 rw [nbs4]
 cases Fr.nb 2147483648 l with
 | error e => rfl
 | ok p =>
  obtain ⟨x,k⟩:=p
  dsimp only [thenR]
  cases Fr.nb 1099511627776 (l.drop k) with
  | error e => rfl
  | ok p =>
   obtain ⟨y,k2⟩:=p
   dsimp only [thenR]
   cases Fr.nb 1099511627776 ((l.drop k).drop k2) with
   | error e => rfl
   | ok p =>
    obtain ⟨z,k3⟩:=p
    dsimp only [thenR]
    cases Fr.nb 65 (((l.drop k).drop k2).drop k3) with
    | error e => rfl
    | ok p =>
     obtain ⟨t,k4⟩:=p
     dsimp only [thenR]
     rw [drop4]
     rfl
theorem dataFieldsF (l:List UInt8) (A R:Nat) (w:World) (h:RdrF w A R l):Calls Tryz.prog 40 #[.pointer (some ⟨R,0,none⟩)] w (FldA w R (Fr.rdD l) (isDF w.heap.size)):=by
 obtain ⟨w0,hw0⟩:∃ w0,w0 = w.alloc (.cells #[.int .i64 0,.int .i64 0,.int .i64 0,.int .i64 0,.slice none 0 0] 52):=⟨_,rfl⟩
 have hz0:w0.heap.size = w.heap.size + 1:=by rw [hw0];simp
 have HB0:Hid (Below w.heap.size w w0):=by rw [hw0];exact (Below.refl _ _).alloc (Nat.le_refl _) _
 have HK0:Hid (w0.heap[w.heap.size]? = some (.cells #[.int .i64 0,.int .i64 0,.int .i64 0,.int .i64 0,.slice none 0 0] 52 (0,0))):=by show _ = _;rw [hw0];exact blk_new w _
 have HW:Hid (w.alloc (.cells #[.int .i64 0,.int .i64 0,.int .i64 0,.int .i64 0,.slice none 0 0] 52) = w0):=by rw [hw0];exact rfl
 have HRd:=Lib.hid (h.on HB0.out)
 have hRlt:=h.lt
 obtain ⟨r,hr⟩:∃ r,r = Fr.rdD l:=⟨_,rfl⟩
 have HR0:=Lib.hid (hr.trans (rdD_eq l))
 rw [← hr]
 have HA0:Hid (Aside (fun i => i = R) w w0):=aside_new HB0.out _
 obtain ⟨L0,hL0⟩:∃ L0,L0 = l:=⟨_,rfl⟩
 rw [← hL0] at HRd HR0
 clear hr h hw0 hL0
 go_enter Tryz.func40,Tryz.ntmps40
 have HN:=Lib.hid (numberF 2147483648 (by omega) L0 A R w0 HRd.out)
 obtain ⟨m0,hm0⟩:∃ m,m = Fr.nb 2147483648 L0:=⟨_,rfl⟩
 rw [← hm0] at HN HR0
 clear hm0
 go_wp2_with fail
 rw [HW.out]
 refine HN.out.mono ?_
 intro e w1 hh
 cases m0 with
 | error er =>
  have HRe:Hid (r = .error er):=HR0.out
  obtain ⟨he,ha⟩:=hh.bad
  subst he
  have HA:=Lib.hid (HA0.out.trans ha (fun _ _ h => h))
  clear hh ha HN
  go_wp2
  rw [HRe.out]
  exact ⟨rfl,rfl,HA.out⟩
 | ok nk =>
  obtain ⟨n,k0⟩:=nk
  obtain ⟨v,he,hv,hrd,ha⟩:=hh.good
  replace hv:v = .int .i64 (n:Nat):=hv
  subst hv
  subst he
  have HA1:=Lib.hid (HA0.out.trans ha (fun _ _ h => h))
  have HK1:Hid (w1.heap[w.heap.size]? = some (.cells #[.int .i64 0,.int .i64 0,.int .i64 0,.int .i64 0,.slice none 0 0] 52 (0,0))):=(ha.block _ (by omega) (by omega)).trans HK0.out
  have hz1:w.heap.size + 1 ≤ w1.heap.size:=by have:=ha.size;omega
  have HR1:=Lib.hid (show r = _ from HR0.out)
  dsimp only [thenR] at HR1
  obtain ⟨L1,hL1⟩:∃ L,L = L0.drop k0:=⟨_,rfl⟩
  rw [← hL1] at HR1 hrd
  have HRd1:=Lib.hid hrd
  clear hh ha hrd HN hL1 HR0 HA0 HK0
  have HN:=Lib.hid (largeF L1 A R w1 HRd1.out)
  obtain ⟨m1,hm1⟩:∃ m,m = Fr.nb 1099511627776 L1:=⟨_,rfl⟩
  rw [← hm1] at HN HR1
  clear hm1
  go_wp2_with fail
  refine HN.out.mono ?_
  intro e w2 hh
  cases m1 with
  | error er =>
   have HRe:Hid (r = .error er):=HR1.out
   obtain ⟨he,ha⟩:=hh.bad
   subst he
   have HA:=Lib.hid (HA1.out.trans ha (fun _ _ h => h))
   clear hh ha HN
   go_wp2
   rw [HRe.out]
   exact ⟨rfl,rfl,HA.out⟩
  | ok nk =>
   obtain ⟨q,k1⟩:=nk
   obtain ⟨v,he,hv,hrd,ha⟩:=hh.good
   replace hv:v = .int .i64 (q:Nat):=hv
   subst hv
   subst he
   have HA2:=Lib.hid (HA1.out.trans ha (fun _ _ h => h))
   have HK2:Hid (w2.heap[w.heap.size]? = some (.cells #[.int .i64 0,.int .i64 0,.int .i64 0,.int .i64 0,.slice none 0 0] 52 (0,0))):=(ha.block _ (by omega) (by omega)).trans HK1.out
   have hz2:w.heap.size + 1 ≤ w2.heap.size:=by have:=ha.size;omega
   have HR2:=Lib.hid (show r = _ from HR1.out)
   dsimp only [thenR] at HR2
   obtain ⟨L2,hL2⟩:∃ L,L = L1.drop k1:=⟨_,rfl⟩
   rw [← hL2] at HR2 hrd
   have HRd2:=Lib.hid hrd
   clear hh ha hrd HN hL2 HR1 HA1 HK1
   have HN:=Lib.hid (largeF L2 A R w2 HRd2.out)
   obtain ⟨m2,hm2⟩:∃ m,m = Fr.nb 1099511627776 L2:=⟨_,rfl⟩
   rw [← hm2] at HN HR2
   clear hm2
   go_wp2_with fail
   refine HN.out.mono ?_
   intro e w3 hh
   cases m2 with
   | error er =>
    have HRe:Hid (r = .error er):=HR2.out
    obtain ⟨he,ha⟩:=hh.bad
    subst he
    have HA:=Lib.hid (HA2.out.trans ha (fun _ _ h => h))
    clear hh ha HN
    go_wp2
    rw [HRe.out]
    exact ⟨rfl,rfl,HA.out⟩
   | ok nk =>
    obtain ⟨f,k2⟩:=nk
    obtain ⟨v,he,hv,hrd,ha⟩:=hh.good
    replace hv:v = .int .i64 (f:Nat):=hv
    subst hv
    subst he
    have HA3:=Lib.hid (HA2.out.trans ha (fun _ _ h => h))
    have HK3:Hid (w3.heap[w.heap.size]? = some (.cells #[.int .i64 0,.int .i64 0,.int .i64 0,.int .i64 0,.slice none 0 0] 52 (0,0))):=(ha.block _ (by omega) (by omega)).trans HK2.out
    have hz3:w.heap.size + 1 ≤ w3.heap.size:=by have:=ha.size;omega
    have HR3:=Lib.hid (show r = _ from HR2.out)
    dsimp only [thenR] at HR3
    obtain ⟨L3,hL3⟩:∃ L,L = L2.drop k2:=⟨_,rfl⟩
    rw [← hL3] at HR3 hrd
    have HRd3:=Lib.hid hrd
    clear hh ha hrd HN hL3 HR2 HA2 HK2
    have HN:=Lib.hid (numberF 65 (by omega) L3 A R w3 HRd3.out)
    obtain ⟨m3,hm3⟩:∃ m,m = Fr.nb 65 L3:=⟨_,rfl⟩
    rw [← hm3] at HN HR3
    clear hm3
    go_wp2_with fail
    refine HN.out.mono ?_
    intro e w4 hh
    cases m3 with
    | error er =>
     have HRe:Hid (r = .error er):=HR3.out
     obtain ⟨he,ha⟩:=hh.bad
     subst he
     have HA:=Lib.hid (HA3.out.trans ha (fun _ _ h => h))
     clear hh ha HN
     go_wp2
     rw [HRe.out]
     exact ⟨rfl,rfl,HA.out⟩
    | ok nk =>
     obtain ⟨t,k3⟩:=nk
     obtain ⟨v,he,hv,hrd,ha⟩:=hh.good
     replace hv:v = .int .i64 (t:Nat):=hv
     subst hv
     subst he
     have HA4:=Lib.hid (HA3.out.trans ha (fun _ _ h => h))
     have HK4:Hid (w4.heap[w.heap.size]? = some (.cells #[.int .i64 0,.int .i64 0,.int .i64 0,.int .i64 0,.slice none 0 0] 52 (0,0))):=(ha.block _ (by omega) (by omega)).trans HK3.out
     have hz4:w.heap.size + 1 ≤ w4.heap.size:=by have:=ha.size;omega
     have HR4:=Lib.hid (show r = _ from HR3.out)
     dsimp only [thenR] at HR4
     obtain ⟨L4,hL4⟩:∃ L,L = L3.drop k3:=⟨_,rfl⟩
     rw [← hL4] at HR4 hrd
     have HRd4:=Lib.hid hrd
     clear hh ha hrd HN hL4 HR3 HA3 HK3
     obtain ⟨p1,c1,hb1,hat1,hc1,-⟩:=HRd4.out.out
     have r0:w4.cell? ⟨R,0,none⟩ = some (.slice p1 L4.length c1):=blk_cell hb1 0
     have hsm:=HRd4.out.small
     have HAt:=Lib.hid hat1
     clear hb1 hat1 hc1
     by_cases h1:t < 1
     ·have HRe:Hid (r = .error 5):=HR4.out.trans (if_pos h1)
      have h0:t = 0:=by omega
      subst h0
      clear HR4 h1
      go_wp2_with fail
      refine (needF_f _ 5 _).mono ?_
      rintro e w5 ⟨rfl,hw5⟩
      rw [hw5]
      clear hw5 w5
      go_wp2
      rw [HRe.out]
      exact ⟨rfl,rfl,HA4.out⟩
     ·have HRo:Hid (r = .ok (datF n q f t L4)):=HR4.out.trans (if_neg h1)
      have g1:0 < t:=by omega
      have g2:decide (0 < t) = true:=decide_eq_true g1
      have HC:=Lib.hid (cloneK p1 c1 L4 (by omega) w4 HAt.out)
      clear HR4 h1
      go_wp2_with fail
      refine (needF_t _ 5 _).mono ?_
      rintro e w5 ⟨rfl,hw5⟩
      rw [hw5]
      clear hw5 w5
      go_wp2_with fail
      refine HC.out.mono ?_
      rintro e w5 ⟨q5,cap5,rfl,hh,hb⟩
      have hK5:w5.heap[w.heap.size]? = some (.cells #[.int .i64 0,.int .i64 0,.int .i64 0,.int .i64 0,.slice none 0 0] 52 (0,0)):=(hb.block _ (by omega)).trans HK4.out
      have HK5:=Lib.hid hK5
      have x0:w5.cell? ⟨w.heap.size,0,none⟩ = some (.int .i64 0):=blk_cell hK5 0
      have x1:w5.cell? ⟨w.heap.size,1,none⟩ = some (.int .i64 0):=blk_cell hK5 1
      have x2:w5.cell? ⟨w.heap.size,2,none⟩ = some (.int .i64 0):=blk_cell hK5 2
      have x3:w5.cell? ⟨w.heap.size,3,none⟩ = some (.int .i64 0):=blk_cell hK5 3
      have x4:w5.cell? ⟨w.heap.size,4,none⟩ = some (.slice none 0 0):=blk_cell hK5 4
      have xf0:=blk_free hK5 0
      have xf1:=blk_free hK5 1
      have xf2:=blk_free hK5 2
      have xf3:=blk_free hK5 3
      have xf4:=blk_free hK5 4
      have HH:=Lib.hid hh
      have HA5:=Lib.hid (HA4.out.trans (aside_new hb (fun i => i = R)) (fun _ _ h => h))
      clear hK5 hh hb HC
      go_wp2
      have b0:(w5.setCell ⟨w.heap.size,0,none⟩ (.int .i64 n)).heap[w.heap.size]? = some (.cells #[.int .i64 n,.int .i64 0,.int .i64 0,.int .i64 0,.slice none 0 0] 52 (0,0)):=blk_set HK5.out 0 _
      have b1:((w5.setCell ⟨w.heap.size,0,none⟩ (.int .i64 n)).setCell ⟨w.heap.size,1,none⟩ (.int .i64 q)).heap[w.heap.size]? = some (.cells #[.int .i64 n,.int .i64 q,.int .i64 0,.int .i64 0,.slice none 0 0] 52 (0,0)):=blk_set b0 1 _
      have b2:(((w5.setCell ⟨w.heap.size,0,none⟩ (.int .i64 n)).setCell ⟨w.heap.size,1,none⟩ (.int .i64 q)).setCell ⟨w.heap.size,2,none⟩ (.int .i64 f)).heap[w.heap.size]? = some (.cells #[.int .i64 n,.int .i64 q,.int .i64 f,.int .i64 0,.slice none 0 0] 52 (0,0)):=blk_set b1 2 _
      have b3:((((w5.setCell ⟨w.heap.size,0,none⟩ (.int .i64 n)).setCell ⟨w.heap.size,1,none⟩ (.int .i64 q)).setCell ⟨w.heap.size,2,none⟩ (.int .i64 f)).setCell ⟨w.heap.size,3,none⟩ (.int .i64 t)).heap[w.heap.size]? = some (.cells #[.int .i64 n,.int .i64 q,.int .i64 f,.int .i64 t,.slice none 0 0] 52 (0,0)):=blk_set b2 3 _
      have b4:(((((w5.setCell ⟨w.heap.size,0,none⟩ (.int .i64 n)).setCell ⟨w.heap.size,1,none⟩ (.int .i64 q)).setCell ⟨w.heap.size,2,none⟩ (.int .i64 f)).setCell ⟨w.heap.size,3,none⟩ (.int .i64 t)).setCell ⟨w.heap.size,4,none⟩ (.slice q5 L4.length cap5)).heap[w.heap.size]? = some (.cells #[.int .i64 n,.int .i64 q,.int .i64 f,.int .i64 t,.slice q5 L4.length cap5] 52 (0,0)):=blk_set b3 4 _
      have HKf:=Lib.hid b4
      have hAf:Aside (fun i => i = w.heap.size) w5 (((((w5.setCell ⟨w.heap.size,0,none⟩ (.int .i64 n)).setCell ⟨w.heap.size,1,none⟩ (.int .i64 q)).setCell ⟨w.heap.size,2,none⟩ (.int .i64 f)).setCell ⟨w.heap.size,3,none⟩ (.int .i64 t)).setCell ⟨w.heap.size,4,none⟩ (.slice q5 L4.length cap5)):=((((aside_set w5 w.heap.size 0 _).trans (aside_set _ w.heap.size 1 _) (fun _ _ h => h)).trans (aside_set _ w.heap.size 2 _) (fun _ _ h => h)).trans (aside_set _ w.heap.size 3 _) (fun _ _ h => h)).trans (aside_set _ w.heap.size 4 _) (fun _ _ h => h)
      refine bodyPost_ret (v:=.agg #[.int .i64 n,.int .i64 q,.int .i64 f,.int .i64 t,.slice q5 L4.length cap5]) (results_cell_row rfl _ _ w.heap.size _ _ _ _ rfl HKf.out Tryz.underlying52 rfl (by kernel_rfl)) rfl ?_
      rw [HRo.out]
      refine ⟨_,rfl,⟨q5,cap5,rfl,?_⟩,?_⟩
      ·exact (HH.out.aside hAf (fun k hk hc => by have:=(HH.out.lt k hk).1;omega)).lower (by omega)
      ·exact HA5.out.trans hAf (fun i hi h => by omega)
end Go.Proofs.YtfcblnknoljkhaaGreatDoor
namespace Go.Proofs.YtfcblnknoljkhaaGreatDoor
open Go.RowKit
def idxF (a b c:Nat) (es:List Ent):Fr:={ Fr0 with kind:=3,index:=⟨a,b,c,es⟩ }
theorem rdI_eq (l:List UInt8):Fr.rdI l = thenR (Fr.nb 1099511627776 l) fun a k => thenR (Fr.nb 1099511627776 (l.drop k)) fun b k2 => thenR (Fr.nb 1099511627776 ((l.drop k).drop k2)) fun c k3 => thenR (Fr.nb 65 (((l.drop k).drop k2).drop k3)) fun m k4 => thenR (Fr.rdE m ((((l.drop k).drop k2).drop k3).drop k4)) fun es j => if (((((l.drop k).drop k2).drop k3).drop k4).drop j).length = 0 then .ok (idxF a b c es) else .error 5:=by
 have hle:∀ {lim:Nat} {l:List UInt8} {n k:Nat},Fr.nb lim l = .ok (n,k) → k ≤ l.length:=by
  intro lim l n k h
  obtain ⟨_,r,h1,h2⟩:=Fr.nb_ok h
  rw [h1,h2,List.length_append]
  omega
 unfold Fr.rdI
 rw [nbs4]
 cases h1:Fr.nb 1099511627776 l with
 | error e => rfl
 | ok p =>
  obtain ⟨x,k⟩:=p
  dsimp only [thenR]
  cases h2:Fr.nb 1099511627776 (l.drop k) with
  | error e => rfl
  | ok p =>
   obtain ⟨y,k2⟩:=p
   dsimp only [thenR]
   cases h3:Fr.nb 1099511627776 ((l.drop k).drop k2) with
   | error e => rfl
   | ok p =>
    obtain ⟨z,k3⟩:=p
    dsimp only [thenR]
    cases h4:Fr.nb 65 (((l.drop k).drop k2).drop k3) with
    | error e => rfl
    | ok p =>
     obtain ⟨t,k4⟩:=p
     dsimp only [thenR]
     rw [drop4]
     simp only [List.getD_cons_zero,List.getD_cons_succ]
     cases h5:Fr.rdE t ((((l.drop k).drop k2).drop k3).drop k4) with
     | error e => rfl
     | ok p =>
      obtain ⟨es,j⟩:=p
      dsimp only
      have g1:=hle h1
      have g2:=hle h2
      have g3:=hle h3
      have g4:=hle h4
      obtain ⟨_,_,rr,g5,g6⟩:=Fr.rdE_ok _ _ _ _ h5
      have g7:=congrArg List.length g5
      simp only [List.length_append,List.length_drop] at g1 g2 g3 g4 g7
      have hiff:(k + (k2 + (k3 + (k4 + 0))) + j = l.length) ↔ ((((((l.drop k).drop k2).drop k3).drop k4).drop j).length = 0):=by
       simp only [List.length_drop]
       omega
      by_cases hq:k + (k2 + (k3 + (k4 + 0))) + j = l.length
      ·rw [if_pos hq,if_pos (hiff.1 hq)];rfl
      ·rw [if_neg hq,if_neg (fun hc => hq (hiff.2 hc))]
def shE (es:List Ent) (J:Nat):Except Nat (List Ent × Nat) → Except Nat (List Ent × Nat)
 | .error e => .error e
 | .ok (fs,j) => .ok (es ++ fs,J + j)
theorem shE_shE (a b:List Ent) (i j:Nat) (r:Except Nat (List Ent × Nat)):shE a i (shE b j r) = shE (a ++ b) (i + j) r:=by
 cases r with
 | error e => rfl
 | ok p => simp [shE,Nat.add_assoc]
theorem rdE_succ (m:Nat) (l:List UInt8):Fr.rdE (m + 1) l = thenR (Fr.nb 1099511627776 l) fun a k => thenR (Fr.nb 1099511627776 (l.drop k)) fun b k2 => thenR (Fr.nb 1099511627776 ((l.drop k).drop k2)) fun c k3 => shE [⟨a,b,c⟩] (k + (k2 + k3)) (Fr.rdE m (((l.drop k).drop k2).drop k3)):=by
 rw [Fr.rdE]
 unfold Fr.nbs
 cases Fr.nb 1099511627776 l with
 | error e => rfl
 | ok p =>
  obtain ⟨x,k⟩:=p
  dsimp only [thenR]
  unfold Fr.nbs
  cases Fr.nb 1099511627776 (l.drop k) with
  | error e => rfl
  | ok p =>
   obtain ⟨y,k2⟩:=p
   dsimp only [thenR]
   unfold Fr.nbs
   cases Fr.nb 1099511627776 ((l.drop k).drop k2) with
   | error e => rfl
   | ok p =>
    obtain ⟨z,k3⟩:=p
    dsimp only [thenR]
    unfold Fr.nbs
    dsimp only
    rw [show l.drop (k + (k2 + (k3 + 0))) = ((l.drop k).drop k2).drop k3 by rw [List.drop_drop,List.drop_drop,Nat.add_zero]]
    cases Fr.rdE m (((l.drop k).drop k2).drop k3) with
    | error e => rfl
    | ok q => rfl
theorem RdB.undrew {α:Type} {w w':World} {A R:Nat} {l:List UInt8} {r:Except Nat (α × Nat)} {V:α → Value → World → Prop} {e:Ending} (h:RdB w.drew A R l r V e w'):RdB w A R l r V e w':=by
 cases r with
 | error k =>
  obtain ⟨h1,h2⟩:=h.bad
  exact ⟨h1,⟨h2.os,h2.tape,h2.output,h2.size,h2.block⟩⟩
 | ok aj =>
  obtain ⟨a,j⟩:=aj
  obtain ⟨v,h1,h2,h3,h4⟩:=h.good
  exact ⟨v,h1,h2,h3,⟨h4.os,h4.tape,h4.output,h4.size,h4.block⟩⟩
structure IdxIn (w wr:World) (A R X:Nat) (a b c:Nat) (v:Value) (es:List Ent) (l:List UInt8):Prop where
 bO:wr.heap[w.heap.size]? = some (.cells #[.int .i64 0,.int .i64 0,.int .i64 0,.slice none 0 0] 54 (0,0))
 bX:wr.heap[X]? = some (.cells #[.int .i64 a,.int .i64 b,.int .i64 c,v] 28 (0,0))
 own:EOwn wr (X + 1) v es
 rd:RdrF wr A R l
 aside:Aside (fun i => i = R) w wr
 size:X + 1 ≤ wr.heap.size
 low:w.heap.size < X ∧ R < w.heap.size
theorem IdxIn.step {w wr w2:World} {A R X a b c:Nat} {v:Value} {es:List Ent} {l l2:List UInt8} (h:IdxIn w wr A R X a b c v es l) (ha:Aside (fun i => i = R) wr w2) (hr:RdrF w2 A R l2):IdxIn w w2 A R X a b c v es l2:=by
 have hl:=h.low
 have hs:=h.size
 exact ⟨(ha.block _ (by omega) (by omega)).trans h.bO,(ha.block _ (by omega) (by omega)).trans h.bX,h.own.aside ha (fun k hk he => by have:=(h.own.lt k hk).1;omega),hr,h.aside.trans ha (fun _ _ h => h),Nat.le_trans hs ha.size,hl⟩
theorem IdxIn.more {w w3 w4:World} {A R X a b c g cap:Nat} {v:Value} {es:List Ent} {l:List UInt8} {x:Ent} {o:Obj} (h:IdxIn w w3 A R X a b c v es l) (hn:EOwn w4 (X + 1) (.slice (some ⟨g,0,none⟩) (es.length + 1) cap) (es ++ [x])) (hg:(w3.alloc o).grownBy w4 v.ownBlock) :
  w4.heap[X]? = some (.cells #[.int .i64 a,.int .i64 b,.int .i64 c,v] 28 (0,0)) ∧ IdxIn w (w4.setCell ⟨X,3,none⟩ (.slice (some ⟨g,0,none⟩) (es.length + 1) cap)) A R X a b c (.slice (some ⟨g,0,none⟩) (es.length + 1) cap) (es ++ [x]) l:=by
 have hl:=h.low
 have hs:=h.size
 have hs1:(w3.alloc o).heap.size = w3.heap.size + 1:=by simp
 have hgs:=hg.size
 have hlow:∀ k,k ≤ X → w4.heap[k]? = w3.heap[k]?:=fun k hk => by
  rw [hg.block k (by omega) (fun hc => by have:=(h.own.lt k hc.symm).1;omega)]
  exact blk_old _ _ (by omega)
 have hX4:=(hlow X (Nat.le_refl _)).trans h.bX
 have ha4:Aside (fun i => i = X) w4 (w4.setCell ⟨X,3,none⟩ (.slice (some ⟨g,0,none⟩) (es.length + 1) cap)):=aside_set _ _ _ _
 refine ⟨hX4,?_,?_,?_,?_,?_,?_,hl⟩
 ·rw [ha4.block _ (by omega) (by omega),hlow _ (by omega)];exact h.bO
 ·have:=blk_set hX4 3 (.slice (some ⟨g,0,none⟩) (es.length + 1) cap)
  exact this
 ·exact hn.aside ha4 (fun k hk he => by have:=(hn.lt k hk).1;omega)
 ·exact (h.rd.keep (w':=w4) (fun k hk => hlow k (by omega)) (by omega)).aside ha4 (fun k hk => by omega)
 ·refine ⟨?_,?_,?_,?_,fun k hk hf => ?_⟩
  ·exact hg.os.trans h.aside.os
  ·exact hg.tape.trans h.aside.tape
  ·exact hg.output.trans h.aside.output
  ·have:=h.aside.size;have:=ha4.size;omega
  ·have:=h.aside.size
   rw [ha4.block _ (by omega) (by omega),hlow _ (by omega)]
   exact h.aside.block k hk hf
 ·have:=ha4.size;omega
theorem indexFieldsF (l:List UInt8) (A R:Nat) (w:World) (h:RdrF w A R l):Calls Tryz.prog 41 #[.pointer (some ⟨R,0,none⟩)] w (FldA w R (Fr.rdI l) (isXF w.heap.size)):=by
  obtain ⟨w0,hw0⟩:∃ w0,w0 = w.alloc (.cells #[.int .i64 0,.int .i64 0,.int .i64 0,.slice none 0 0] 54):=⟨_,rfl⟩
  have hz0:w0.heap.size = w.heap.size + 1:=by rw [hw0];simp
  have HB0:Hid (Below w.heap.size w w0):=by rw [hw0];exact (Below.refl _ _).alloc (Nat.le_refl _) _
  have HK0:Hid (w0.heap[w.heap.size]? = some (.cells #[.int .i64 0,.int .i64 0,.int .i64 0,.slice none 0 0] 54 (0,0))):=by show _ = _;rw [hw0];exact blk_new w _
  have HW:Hid (w.alloc (.cells #[.int .i64 0,.int .i64 0,.int .i64 0,.slice none 0 0] 54) = w0):=by rw [hw0];exact rfl
  have HRd:=Lib.hid (h.on HB0.out)
  have hRlt:=h.lt
  obtain ⟨r,hr⟩:∃ r,r = Fr.rdI l:=⟨_,rfl⟩
  have HR0:=Lib.hid (hr.trans (rdI_eq l))
  rw [← hr]
  have HA0:Hid (Aside (fun i => i = R) w w0):=aside_new HB0.out _
  obtain ⟨L0,hL0⟩:∃ L0,L0 = l:=⟨_,rfl⟩
  rw [← hL0] at HRd HR0
  clear hr h hw0 hL0
  go_enter Tryz.func41,Tryz.ntmps41
  have HN:=Lib.hid (largeF L0 A R w0 HRd.out)
  obtain ⟨m0,hm0⟩:∃ m,m = Fr.nb 1099511627776 L0:=⟨_,rfl⟩
  rw [← hm0] at HN HR0
  clear hm0
  go_wp2_with fail
  rw [HW.out]
  refine HN.out.mono ?_
  intro e w1 hh
  cases m0 with
  | error er =>
    have HRe:Hid (r = .error er):=HR0.out
    obtain ⟨he,ha⟩:=hh.bad
    subst he
    have HA:=Lib.hid (HA0.out.trans ha (fun _ _ h => h))
    clear hh ha HN
    go_wp2
    rw [HRe.out]
    exact ⟨rfl,rfl,HA.out⟩
  | ok nk =>
    obtain ⟨a,k0⟩:=nk
    obtain ⟨v,he,hv,hrd,ha⟩:=hh.good
    replace hv:v = .int .i64 (a:Nat):=hv
    subst hv
    subst he
    have HA1:=Lib.hid (HA0.out.trans ha (fun _ _ h => h))
    have HK1:Hid (w1.heap[w.heap.size]? = some (.cells #[.int .i64 0,.int .i64 0,.int .i64 0,.slice none 0 0] 54 (0,0))):=(ha.block _ (by omega) (by omega)).trans HK0.out
    have hz1:w.heap.size + 1 ≤ w1.heap.size:=by have:=ha.size;omega
    have HR1:=Lib.hid (show r = _ from HR0.out)
    dsimp only [thenR] at HR1
    obtain ⟨L1,hL1⟩:∃ L,L = L0.drop k0:=⟨_,rfl⟩
    rw [← hL1] at HR1 hrd
    have HRd1:=Lib.hid hrd
    clear hh ha hrd HN hL1 HR0 HA0 HK0
    have HN:=Lib.hid (largeF L1 A R w1 HRd1.out)
    obtain ⟨m1,hm1⟩:∃ m,m = Fr.nb 1099511627776 L1:=⟨_,rfl⟩
    rw [← hm1] at HN HR1
    clear hm1
    go_wp2_with fail
    refine HN.out.mono ?_
    intro e w2 hh
    cases m1 with
    | error er =>
      have HRe:Hid (r = .error er):=HR1.out
      obtain ⟨he,ha⟩:=hh.bad
      subst he
      have HA:=Lib.hid (HA1.out.trans ha (fun _ _ h => h))
      clear hh ha HN
      go_wp2
      rw [HRe.out]
      exact ⟨rfl,rfl,HA.out⟩
    | ok nk =>
      obtain ⟨b,k1⟩:=nk
      obtain ⟨v,he,hv,hrd,ha⟩:=hh.good
      replace hv:v = .int .i64 (b:Nat):=hv
      subst hv
      subst he
      have HA2:=Lib.hid (HA1.out.trans ha (fun _ _ h => h))
      have HK2:Hid (w2.heap[w.heap.size]? = some (.cells #[.int .i64 0,.int .i64 0,.int .i64 0,.slice none 0 0] 54 (0,0))):=(ha.block _ (by omega) (by omega)).trans HK1.out
      have hz2:w.heap.size + 1 ≤ w2.heap.size:=by have:=ha.size;omega
      have HR2:=Lib.hid (show r = _ from HR1.out)
      dsimp only [thenR] at HR2
      obtain ⟨L2,hL2⟩:∃ L,L = L1.drop k1:=⟨_,rfl⟩
      rw [← hL2] at HR2 hrd
      have HRd2:=Lib.hid hrd
      clear hh ha hrd HN hL2 HR1 HA1 HK1
      have HN:=Lib.hid (largeF L2 A R w2 HRd2.out)
      obtain ⟨m2,hm2⟩:∃ m,m = Fr.nb 1099511627776 L2:=⟨_,rfl⟩
      rw [← hm2] at HN HR2
      clear hm2
      go_wp2_with fail
      refine HN.out.mono ?_
      intro e w3 hh
      cases m2 with
      | error er =>
        have HRe:Hid (r = .error er):=HR2.out
        obtain ⟨he,ha⟩:=hh.bad
        subst he
        have HA:=Lib.hid (HA2.out.trans ha (fun _ _ h => h))
        clear hh ha HN
        go_wp2
        rw [HRe.out]
        exact ⟨rfl,rfl,HA.out⟩
      | ok nk =>
        obtain ⟨c,k2⟩:=nk
        obtain ⟨v,he,hv,hrd,ha⟩:=hh.good
        replace hv:v = .int .i64 (c:Nat):=hv
        subst hv
        subst he
        have HA3:=Lib.hid (HA2.out.trans ha (fun _ _ h => h))
        have HK3:Hid (w3.heap[w.heap.size]? = some (.cells #[.int .i64 0,.int .i64 0,.int .i64 0,.slice none 0 0] 54 (0,0))):=(ha.block _ (by omega) (by omega)).trans HK2.out
        have hz3:w.heap.size + 1 ≤ w3.heap.size:=by have:=ha.size;omega
        have HR3:=Lib.hid (show r = _ from HR2.out)
        dsimp only [thenR] at HR3
        obtain ⟨L3,hL3⟩:∃ L,L = L2.drop k2:=⟨_,rfl⟩
        rw [← hL3] at HR3 hrd
        have HRd3:=Lib.hid hrd
        clear hh ha hrd HN hL3 HR2 HA2 HK2
        obtain ⟨wx,hwx⟩:∃ wx,wx = w3.alloc (.cells #[.int .i64 a,.int .i64 b,.int .i64 c,.slice none 0 0] 28):=⟨_,rfl⟩
        have HWx:Hid (w3.alloc (.cells #[.int .i64 a,.int .i64 b,.int .i64 c,.slice none 0 0] 28) = wx):=by rw [hwx];exact rfl
        have HIx:Hid (IdxIn w wx A R w3.heap.size a b c (.slice none 0 0) [] L3):=by
          have hb:Below w3.heap.size w3 wx:=by rw [hwx];exact (Below.refl _ _).alloc (Nat.le_refl _) _
          refine ⟨(hb.block _ (by omega)).trans HK3.out,by rw [hwx];exact blk_new w3 _,eown_nil _ _,HRd3.out.on hb,HA3.out.trans (aside_new hb (fun i => i = R)) (fun _ _ h => h),by rw [hwx];simp,by omega,hRlt⟩
        obtain ⟨X,hX⟩:∃ X,X = w3.heap.size:=⟨_,rfl⟩
        rw [← hX] at HIx
        clear hwx
        have HN:=Lib.hid (numberF 65 (by omega) L3 A R wx HIx.out.rd)
        obtain ⟨m3,hm3⟩:∃ m,m = Fr.nb 65 L3:=⟨_,rfl⟩
        rw [← hm3] at HN HR3
        have HM:=Lib.hid hm3
        clear hm3
        go_wp2_with fail
        rw [HWx.out]
        refine HN.out.mono ?_
        intro e w4 hh
        cases m3 with
        | error er =>
          have HRe:Hid (r = .error er):=HR3.out
          obtain ⟨he,ha⟩:=hh.bad
          subst he
          have HA:=Lib.hid (HIx.out.aside.trans ha (fun _ _ h => h))
          clear hh ha HN
          go_wp2
          rw [HRe.out]
          exact ⟨rfl,rfl,HA.out⟩
        | ok nk =>
          obtain ⟨m,k3⟩:=nk
          obtain ⟨v,he,hv,hrd,ha⟩:=hh.good
          replace hv:v = .int .i64 (m:Nat):=hv
          subst hv
          subst he
          have hm65:m < 65:=(Fr.nb_ok HM.out.symm).1
          obtain ⟨L4,hL4⟩:∃ L,L = L3.drop k3:=⟨_,rfl⟩
          rw [← hL4] at hrd
          have HI4:=Lib.hid (HIx.out.step ha hrd)
          have HR4:Hid (r = thenR (Fr.rdE m L4) fun es j => if (L4.drop j).length = 0 then .ok (idxF a b c es) else .error 5):=by
            show _ = _
            rw [hL4]
            exact HR3.out
          clear hh ha hrd HN hL4 HR3 HA3 HK3 HIx HWx HM HRd3
          go_wp2_with fail
          rw [← hX]
          clear hX
          go_loopw [13] (fun v13 wr => ∃ (es:List Ent) (J:Nat) (q:Option Addr) (d:Nat),es.length ≤ m ∧ v13 = .int .i64 es.length ∧ Hid (IdxIn w wr A R X a b c (.slice q es.length d) es (L4.drop J) ∧ Fr.rdE m L4 = shE es J (Fr.rdE (m - es.length) (L4.drop J)))) (fun v13 _ => m - (intOf v13).toNat)
          case atStart =>
            refine ⟨[],0,none,0,by simp,rfl,HI4.out,?_⟩
            rw [List.length_nil,Nat.sub_zero,List.drop_zero]
            cases Fr.rdE m L4 with
            | error e => rfl
            | ok q => simp [shE]
          case round =>
            obtain ⟨es,J,q,d,hem,rfl,HK⟩:=hrel
            have HI:=Lib.hid HK.out.1
            have HG:=Lib.hid HK.out.2
            have hX3:=blk_cell HI.out.bX 3
            replace hX3:wr.cell? ⟨X,3,none⟩ = some (.slice q es.length d):=hX3
            have hXf:=blk_free HI.out.bX 3
            have hlow:=HI.out.low
            have hsX:=HI.out.size
            have hXa:∀ o,(wr.alloc o).cell? ⟨X,3,none⟩ = some (.slice q es.length d):=fun o => cell_on ((Below.refl _ _).alloc (Nat.le_refl _) o) hX3
            have hXfa:∀ o,(wr.alloc o).frozen? ⟨X,3,none⟩ = false:=fun o => (((Below.refl wr.heap.size wr).alloc (Nat.le_refl _) o).frozen (p:=⟨X,3,none⟩) (by show X < _;omega)).trans hXf
            by_cases hlt:es.length < m
            · have hlt':(es.length:Int) < (m:Int):=by omega
              obtain ⟨Q0,hQ0⟩:∃ Q0,Q0 = L4.drop J:=⟨_,rfl⟩
              have HRe0:Hid (r = thenR (shE es J (thenR (Fr.nb 1099511627776 Q0) fun a k => thenR (Fr.nb 1099511627776 (Q0.drop k)) fun b k2 => thenR (Fr.nb 1099511627776 ((Q0.drop k).drop k2)) fun c k3 => shE [⟨a,b,c⟩] (k + (k2 + k3)) (Fr.rdE (m - (es.length + 1)) (((Q0.drop k).drop k2).drop k3)))) fun es j => if (L4.drop j).length = 0 then .ok (idxF a b c es) else .error 5):=by
                show _ = _
                rw [HR4.out,HG.out,show m - es.length = (m - (es.length + 1)) + 1 by omega,rdE_succ,hQ0]
              have HGe:Hid (Fr.rdE m L4 = shE es J (thenR (Fr.nb 1099511627776 Q0) fun a k => thenR (Fr.nb 1099511627776 (Q0.drop k)) fun b k2 => thenR (Fr.nb 1099511627776 ((Q0.drop k).drop k2)) fun c k3 => shE [⟨a,b,c⟩] (k + (k2 + k3)) (Fr.rdE (m - (es.length + 1)) (((Q0.drop k).drop k2).drop k3)))):=by
                show _ = _
                rw [HG.out,show m - es.length = (m - (es.length + 1)) + 1 by omega,rdE_succ,hQ0]
              have HQ:=Lib.hid hQ0
              rw [← hQ0] at HI
              have HC1:Hid (Calls Tryz.prog 59 #[.pointer (some ⟨R,0,none⟩)] wr.drew (RdB wr A R Q0 (Fr.nb 1099511627776 Q0) isI)):=(largeF Q0 A R wr.drew HI.out.rd.drew).mono fun _ _ h => h.undrew
              clear hQ0 HK HG
              cases h1:Fr.nb 1099511627776 Q0 with
              | error er =>
                rw [h1] at HC1
                have HErr:Hid (∀ w2,Aside (fun i => i = R) wr w2 → FldA w R r (isXF w.heap.size) (.panicked (errV er)) w2):=fun w2 ha => by
                  have e:r = .error er:=by rw [HRe0.out,h1];rfl
                  rw [e]
                  exact ⟨rfl,HI.out.aside.trans ha (fun _ _ h => h)⟩
                clear h1 HRe0 HGe
                go_wp2_with fail
                go_region_law (first
                  | (refine step_call1b (.tmp 17) 88 (by rfl) (by rfl) (by rfl) Tryz.func59 (by kernel_rfl) (by rfl) HC1.out (fun e w2 hh => ⟨_,hh.bad.1,rfl,HErr.out w2 hh.bad.2⟩) (.int .i64 0) ?_
                     intro HF)
                  | (refine step_never HF (.int .i64 0) ?_)
                  | fail)
                all_goals exact HF.out.elim
              | ok ak =>
                obtain ⟨xa,ka⟩:=ak
                rw [h1] at HC1
                obtain ⟨Q1,hQ1⟩:∃ Q1,Q1 = Q0.drop ka:=⟨_,rfl⟩
                have HC2:Hid (∀ w1,RdrF w1 A R Q1 → Calls Tryz.prog 59 #[.pointer (some ⟨R,0,none⟩)] w1 (RdB w1 A R Q1 (Fr.nb 1099511627776 Q1) isI)):=fun w1 h => largeF Q1 A R w1 h
                have HRe1:Hid (r = thenR (shE es J (thenR (Fr.nb 1099511627776 Q1) fun b k2 => thenR (Fr.nb 1099511627776 (Q1.drop k2)) fun c k3 => shE [⟨xa,b,c⟩] (ka + (k2 + k3)) (Fr.rdE (m - (es.length + 1)) ((Q1.drop k2).drop k3)))) fun es j => if (L4.drop j).length = 0 then .ok (idxF a b c es) else .error 5):=by
                  show _ = _
                  rw [HRe0.out,h1,hQ1]
                  rfl
                have HGe1:Hid (Fr.rdE m L4 = shE es J (thenR (Fr.nb 1099511627776 Q1) fun b k2 => thenR (Fr.nb 1099511627776 (Q1.drop k2)) fun c k3 => shE [⟨xa,b,c⟩] (ka + (k2 + k3)) (Fr.rdE (m - (es.length + 1)) ((Q1.drop k2).drop k3)))):=by
                  show _ = _
                  rw [HGe.out,h1,hQ1]
                  rfl
                have HQ1:=Lib.hid hQ1
                clear h1 HRe0 HGe hQ1
                cases h2:Fr.nb 1099511627776 Q1 with
                | error er =>
                  rw [h2] at HC2
                  have HErr:Hid (∀ w1 w2,Aside (fun i => i = R) wr w1 → Aside (fun i => i = R) w1 w2 → FldA w R r (isXF w.heap.size) (.panicked (errV er)) w2):=fun w1 w2 ha ha2 => by
                    have e:r = .error er:=by rw [HRe1.out,h2];rfl
                    rw [e]
                    exact ⟨rfl,(HI.out.aside.trans ha (fun _ _ h => h)).trans ha2 (fun _ _ h => h)⟩
                  clear h2 HRe1 HGe1
                  go_wp2_with fail
                  go_region_law (first
                    | (refine step_call1g (.tmp 17) 88 (by rfl) (by rfl) (by rfl) Tryz.func59 (by kernel_rfl) (by rfl) HC1.out ?_
                       intro e w1 hh
                       obtain ⟨v,he,hv,hrd,ha⟩:=hh.good
                       clear hh
                       replace hv:v = .int .i64 (xa:Nat):=hv
                       subst hv
                       refine ⟨_,he,?_⟩
                       clear he
                       rw [← HQ1.out] at hrd
                       have HI1:=Lib.hid (HI.out.step ha hrd)
                       have HA1:=Lib.hid ha
                       have y3:w1.cell? ⟨X,3,none⟩ = some (.slice q es.length d):=blk_cell HI1.out.bX 3
                       have yf3:=blk_free HI1.out.bX 3
                       have y3a:∀ o,(w1.alloc o).cell? ⟨X,3,none⟩ = some (.slice q es.length d):=fun o => cell_on ((Below.refl _ _).alloc (Nat.le_refl _) o) y3
                       have yf3a:∀ o,(w1.alloc o).frozen? ⟨X,3,none⟩ = false:=fun o => (((Below.refl w1.heap.size w1).alloc (Nat.le_refl _) o).frozen (p:=⟨X,3,none⟩) (by show X < _;have:=HI1.out.size;omega)).trans yf3
                       clear ha hrd)
                    | (refine step_call1b (.tmp 19) 88 (by rfl) (by rfl) (by rfl) Tryz.func59 (by kernel_rfl) (by rfl) (HC2.out w1 HI1.out.rd) (fun e w2 hh => ⟨_,hh.bad.1,rfl,HErr.out w1 w2 HA1.out hh.bad.2⟩) (.int .i64 0) ?_
                       intro HF)
                    | (refine step_never HF (.int .i64 0) ?_)
                    | fail)
                  all_goals exact HF.out.elim
                | ok bk =>
                  obtain ⟨xb,kb⟩:=bk
                  rw [h2] at HC2
                  obtain ⟨Q2,hQ2⟩:∃ Q2,Q2 = Q1.drop kb:=⟨_,rfl⟩
                  have HC3:Hid (∀ w2,RdrF w2 A R Q2 → Calls Tryz.prog 59 #[.pointer (some ⟨R,0,none⟩)] w2 (RdB w2 A R Q2 (Fr.nb 1099511627776 Q2) isI)):=fun w2 h => largeF Q2 A R w2 h
                  have HRe2:Hid (r = thenR (shE es J (thenR (Fr.nb 1099511627776 Q2) fun c k3 => shE [⟨xa,xb,c⟩] (ka + (kb + k3)) (Fr.rdE (m - (es.length + 1)) (Q2.drop k3)))) fun es j => if (L4.drop j).length = 0 then .ok (idxF a b c es) else .error 5):=by
                    show _ = _
                    rw [HRe1.out,h2,hQ2]
                    rfl
                  have HGe2:Hid (Fr.rdE m L4 = shE es J (thenR (Fr.nb 1099511627776 Q2) fun c k3 => shE [⟨xa,xb,c⟩] (ka + (kb + k3)) (Fr.rdE (m - (es.length + 1)) (Q2.drop k3)))):=by
                    show _ = _
                    rw [HGe1.out,h2,hQ2]
                    rfl
                  have HQ2:=Lib.hid hQ2
                  clear h2 HRe1 HGe1 hQ2
                  cases h3:Fr.nb 1099511627776 Q2 with
                  | error er =>
                    rw [h3] at HC3
                    have HErr:Hid (∀ w1 w2,Aside (fun i => i = R) wr w1 → Aside (fun i => i = R) w1 w2 → FldA w R r (isXF w.heap.size) (.panicked (errV er)) w2):=fun w1 w2 ha ha2 => by
                      have e:r = .error er:=by rw [HRe2.out,h3];rfl
                      rw [e]
                      exact ⟨rfl,(HI.out.aside.trans ha (fun _ _ h => h)).trans ha2 (fun _ _ h => h)⟩
                    clear h3 HRe2 HGe2
                    go_wp2_with fail
                    go_region_law (first
                      | (refine step_call1g (.tmp 17) 88 (by rfl) (by rfl) (by rfl) Tryz.func59 (by kernel_rfl) (by rfl) HC1.out ?_
                         intro e w1 hh
                         obtain ⟨v,he,hv,hrd,ha⟩:=hh.good
                         clear hh
                         replace hv:v = .int .i64 (xa:Nat):=hv
                         subst hv
                         refine ⟨_,he,?_⟩
                         clear he
                         rw [← HQ1.out] at hrd
                         have HI1:=Lib.hid (HI.out.step ha hrd)
                         have HA1:=Lib.hid ha
                         have y3:w1.cell? ⟨X,3,none⟩ = some (.slice q es.length d):=blk_cell HI1.out.bX 3
                         have yf3:=blk_free HI1.out.bX 3
                         have y3a:∀ o,(w1.alloc o).cell? ⟨X,3,none⟩ = some (.slice q es.length d):=fun o => cell_on ((Below.refl _ _).alloc (Nat.le_refl _) o) y3
                         have yf3a:∀ o,(w1.alloc o).frozen? ⟨X,3,none⟩ = false:=fun o => (((Below.refl w1.heap.size w1).alloc (Nat.le_refl _) o).frozen (p:=⟨X,3,none⟩) (by show X < _;have:=HI1.out.size;omega)).trans yf3
                         clear ha hrd)
                      | (refine step_call1g (.tmp 19) 88 (by rfl) (by rfl) (by rfl) Tryz.func59 (by kernel_rfl) (by rfl) (HC2.out w1 HI1.out.rd) ?_
                         intro e w2 hh
                         obtain ⟨v,he,hv,hrd,ha⟩:=hh.good
                         clear hh
                         replace hv:v = .int .i64 (xb:Nat):=hv
                         subst hv
                         refine ⟨_,he,?_⟩
                         clear he
                         rw [← HQ2.out] at hrd
                         have HI2:=Lib.hid (HI1.out.step ha hrd)
                         have HA2:=Lib.hid (HA1.out.trans ha (fun _ _ h => h))
                         have z3:w2.cell? ⟨X,3,none⟩ = some (.slice q es.length d):=blk_cell HI2.out.bX 3
                         have zf3:=blk_free HI2.out.bX 3
                         have z3a:∀ o,(w2.alloc o).cell? ⟨X,3,none⟩ = some (.slice q es.length d):=fun o => cell_on ((Below.refl _ _).alloc (Nat.le_refl _) o) z3
                         have zf3a:∀ o,(w2.alloc o).frozen? ⟨X,3,none⟩ = false:=fun o => (((Below.refl w2.heap.size w2).alloc (Nat.le_refl _) o).frozen (p:=⟨X,3,none⟩) (by show X < _;have:=HI2.out.size;omega)).trans zf3
                         clear ha hrd)
                      | (refine step_call1b (.tmp 21) 88 (by rfl) (by rfl) (by rfl) Tryz.func59 (by kernel_rfl) (by rfl) (HC3.out w2 HI2.out.rd) (fun e w3 hh => ⟨_,hh.bad.1,rfl,HErr.out w2 w3 HA2.out hh.bad.2⟩) (.int .i64 0) ?_
                         intro HF)
                      | (refine step_never HF (.int .i64 0) ?_)
                      | fail)
                    all_goals exact HF.out.elim
                  | ok ck =>
                    obtain ⟨xc,kc⟩:=ck
                    rw [h3] at HC3
                    have HGe3:Hid (Fr.rdE m L4 = shE (es ++ [⟨xa,xb,xc⟩]) (J + (ka + (kb + kc))) (Fr.rdE (m - (es ++ [(⟨xa,xb,xc⟩:Ent)]).length) (L4.drop (J + (ka + (kb + kc)))))):=by
                      show _ = _
                      have e:Fr.rdE m L4 = shE es J (shE [⟨xa,xb,xc⟩] (ka + (kb + kc)) (Fr.rdE (m - (es.length + 1)) (Q2.drop kc))):=by
                        rw [HGe2.out,h3]
                        rfl
                      rw [e,shE_shE,List.length_append,List.length_singleton,HQ2.out,HQ1.out,HQ.out,List.drop_drop,List.drop_drop,List.drop_drop]
                    have HQ3:Hid (Q2.drop kc = L4.drop (J + (ka + (kb + kc)))):=by
                      show _ = _
                      rw [HQ2.out,HQ1.out,HQ.out,List.drop_drop,List.drop_drop,List.drop_drop]
                    clear h3 HRe2 HGe2
                    go_wp2_with fail
                    go_region_law (first
                      | (refine step_call1g (.tmp 17) 88 (by rfl) (by rfl) (by rfl) Tryz.func59 (by kernel_rfl) (by rfl) HC1.out ?_
                         intro e w1 hh
                         obtain ⟨v,he,hv,hrd,ha⟩:=hh.good
                         clear hh
                         replace hv:v = .int .i64 (xa:Nat):=hv
                         subst hv
                         refine ⟨_,he,?_⟩
                         clear he
                         rw [← HQ1.out] at hrd
                         have HI1:=Lib.hid (HI.out.step ha hrd)
                         have y3:w1.cell? ⟨X,3,none⟩ = some (.slice q es.length d):=blk_cell HI1.out.bX 3
                         clear ha hrd)
                      | (refine step_call1g (.tmp 19) 88 (by rfl) (by rfl) (by rfl) Tryz.func59 (by kernel_rfl) (by rfl) (HC2.out w1 HI1.out.rd) ?_
                         intro e w2 hh
                         obtain ⟨v,he,hv,hrd,ha⟩:=hh.good
                         clear hh
                         replace hv:v = .int .i64 (xb:Nat):=hv
                         subst hv
                         refine ⟨_,he,?_⟩
                         clear he
                         rw [← HQ2.out] at hrd
                         have HI2:=Lib.hid (HI1.out.step ha hrd)
                         have z3:w2.cell? ⟨X,3,none⟩ = some (.slice q es.length d):=blk_cell HI2.out.bX 3
                         clear ha hrd)
                      | (refine step_call1g (.tmp 21) 88 (by rfl) (by rfl) (by rfl) Tryz.func59 (by kernel_rfl) (by rfl) (HC3.out w2 HI2.out.rd) ?_
                         intro e w3 hh
                         obtain ⟨v,he,hv,hrd,ha⟩:=hh.good
                         clear hh
                         replace hv:v = .int .i64 (xc:Nat):=hv
                         subst hv
                         refine ⟨_,he,?_⟩
                         clear he
                         have HI3:=Lib.hid (HI2.out.step ha hrd)
                         have t3:w3.cell? ⟨X,3,none⟩ = some (.slice q es.length d):=blk_cell HI3.out.bX 3
                         have t4:∀ o,(w3.alloc o).cell? ⟨X,3,none⟩ = some (.slice q es.length d):=fun o => cell_on ((Below.refl _ _).alloc (Nat.le_refl _) o) t3
                         have hs3:=HI3.out.size
                         clear ha hrd)
                      | (refine step_moreE (B:=X + 1) (es:=es) (v:=.slice q es.length d) (by exact HI3.out.own.on ((Below.refl _ _).alloc (Nat.le_refl _) _)) ⟨xa,xb,xc⟩ (ad:=w3.heap.size) (by exact blk_new w3 _) (by omega) (by simp;omega) (H:=w3.heap.size + 1) (by simp) (.tmp 16) (.tmp 24) (by rfl) (by rfl) (by rfl) (by rfl) ?_
                         intro g4 cap4 w4 hn4 hg4 _
                         have hm4:=HI3.out.more hn4 hg4
                         have s3:w4.cell? ⟨X,3,none⟩ = some (.slice q es.length d):=blk_cell hm4.1 3
                         have sf3:=blk_free hm4.1 3
                         have HM4:=Lib.hid hm4.2
                         clear hm4 hn4 hg4)
                      | fail)
                    all_goals
                      go_wp2
                      go_roundw
                      case rel =>
                        refine ⟨es ++ [⟨xa,xb,xc⟩],J + (ka + (kb + kc)),some ⟨g4,0,none⟩,cap4,by simp;omega,by rw [List.length_append,List.length_singleton];go_num,?_,HGe3.out⟩
                        have:=HM4.out
                        rw [HQ3.out] at this
                        simpa using this
                      case measure => simp [intOf];omega
            · have hjn:¬ (es.length:Int) < (m:Int):=by omega
              have hsm:es.length = m:=by omega
              have HR5:Hid (r = if (L4.drop J).length = 0 then .ok (idxF a b c es) else .error 5):=by
                show _ = _
                rw [HR4.out,HG.out,hsm,Nat.sub_self]
                simp [Fr.rdE,shE,thenR]
              obtain ⟨p1,c1,hb1,-,-,-⟩:=HI.out.rd.out
              obtain ⟨N1,hN1⟩:∃ N1,N1 = (L4.drop J).length:=⟨_,rfl⟩
              rw [← hN1] at hb1 HR5
              have r0:wr.cell? ⟨R,0,none⟩ = some (.slice p1 N1 c1):=blk_cell hb1 0
              have hXb:=HI.out.bX
              have u0:wr.cell? ⟨X,0,none⟩ = some (.int .i64 a):=blk_cell hXb 0
              have u1:wr.cell? ⟨X,1,none⟩ = some (.int .i64 b):=blk_cell hXb 1
              have u2:wr.cell? ⟨X,2,none⟩ = some (.int .i64 c):=blk_cell hXb 2
              have hO:=HI.out.bO
              have x0:wr.cell? ⟨w.heap.size,0,none⟩ = some (.int .i64 0):=blk_cell hO 0
              have x1:wr.cell? ⟨w.heap.size,1,none⟩ = some (.int .i64 0):=blk_cell hO 1
              have x2:wr.cell? ⟨w.heap.size,2,none⟩ = some (.int .i64 0):=blk_cell hO 2
              have x3:wr.cell? ⟨w.heap.size,3,none⟩ = some (.slice none 0 0):=blk_cell hO 3
              have xf0:=blk_free hO 0
              have xf1:=blk_free hO 1
              have xf2:=blk_free hO 2
              have xf3:=blk_free hO 3
              have HO:=Lib.hid hO
              clear hN1 hb1 hXb hO HK HG hsm
              by_cases hN:N1 = 0
              · have HRo:Hid (r = .ok (idxF a b c es)):=HR5.out.trans (if_pos hN)
                subst hN
                clear HR5
                go_wp2_with fail
                refine (needF_t _ 5 _).mono ?_
                rintro e w5 ⟨rfl,hw5⟩
                rw [hw5]
                clear hw5 w5
                go_wp2
                have b0:(wr.setCell ⟨w.heap.size,0,none⟩ (.int .i64 a)).heap[w.heap.size]? = some (.cells #[.int .i64 a,.int .i64 0,.int .i64 0,.slice none 0 0] 54 (0,0)):=blk_set HO.out 0 _
                have b1:((wr.setCell ⟨w.heap.size,0,none⟩ (.int .i64 a)).setCell ⟨w.heap.size,1,none⟩ (.int .i64 b)).heap[w.heap.size]? = some (.cells #[.int .i64 a,.int .i64 b,.int .i64 0,.slice none 0 0] 54 (0,0)):=blk_set b0 1 _
                have b2:(((wr.setCell ⟨w.heap.size,0,none⟩ (.int .i64 a)).setCell ⟨w.heap.size,1,none⟩ (.int .i64 b)).setCell ⟨w.heap.size,2,none⟩ (.int .i64 c)).heap[w.heap.size]? = some (.cells #[.int .i64 a,.int .i64 b,.int .i64 c,.slice none 0 0] 54 (0,0)):=blk_set b1 2 _
                have b3:((((wr.setCell ⟨w.heap.size,0,none⟩ (.int .i64 a)).setCell ⟨w.heap.size,1,none⟩ (.int .i64 b)).setCell ⟨w.heap.size,2,none⟩ (.int .i64 c)).setCell ⟨w.heap.size,3,none⟩ (.slice q es.length d)).heap[w.heap.size]? = some (.cells #[.int .i64 a,.int .i64 b,.int .i64 c,.slice q es.length d] 54 (0,0)):=blk_set b2 3 _
                have hAf:Aside (fun i => i = w.heap.size) wr ((((wr.setCell ⟨w.heap.size,0,none⟩ (.int .i64 a)).setCell ⟨w.heap.size,1,none⟩ (.int .i64 b)).setCell ⟨w.heap.size,2,none⟩ (.int .i64 c)).setCell ⟨w.heap.size,3,none⟩ (.slice q es.length d)):=(((aside_set wr w.heap.size 0 _).trans (aside_set _ w.heap.size 1 _) (fun _ _ h => h)).trans (aside_set _ w.heap.size 2 _) (fun _ _ h => h)).trans (aside_set _ w.heap.size 3 _) (fun _ _ h => h)
                refine bodyPost_ret (v:=.agg #[.int .i64 a,.int .i64 b,.int .i64 c,.slice q es.length d]) (results_cell_row rfl _ _ w.heap.size _ _ _ _ rfl b3 Tryz.underlying54 rfl (by kernel_rfl)) rfl ?_
                rw [HRo.out]
                refine ⟨_,rfl,⟨q,d,rfl,?_⟩,?_⟩
                · exact (HI.out.own.aside hAf (fun k hk hc => by have:=(HI.out.own.lt k hk).1;omega)).low (by omega)
                · exact HI.out.aside.trans hAf (fun i hi h => by omega)
              · have HRe:Hid (r = .error 5):=HR5.out.trans (if_neg hN)
                have gN:((N1:Int) == 0) = false:=beq_f (by omega)
                clear HR5 hN
                go_wp2_with fail
                refine (needF_f _ 5 _).mono ?_
                rintro e w5 ⟨rfl,hw5⟩
                rw [hw5]
                clear hw5 w5
                go_wp2
                rw [HRe.out]
                exact ⟨rfl,rfl,HI.out.aside⟩
end Go.Proofs.YtfcblnknoljkhaaGreatDoor
