import Derived.Test.YtclhbhhlddbocaaGreatDoorA17
import Derived.Test.YtclhbhhlddbocaaGreatDoorA5
import Derived.Test.YtclhbhhlddbocaaGreatDoorD1
import Derived.Test.YtclhbhhlddbocaaGreatDoorD4
import Derived.Test.YtclhbhhlddbocaaGreatDoorB13
import Derived.Laws.StructEq
set_option maxRecDepth 100000
set_option maxHeartbeats 2000000
namespace Go.Proofs.YtclhbhhlddbocaaGreatDoor
open Go.RowKit
def oneCells:Array Value:=#[.string ⟨#[97]⟩,.int .i64 2,.slice none 0 0,.bool false,.int .i64 0,.int .i64 0,.float .f64 0,.string ⟨#[]⟩,.slice none 0 0]
theorem one_cols {W:World} {b:Nat} (h1:W.heap[b]? = some (.cells oneCells 133 (0,0))):Cols W (some ⟨b,0,none⟩) smallF.cols:=by
 have h3:=blk_cell h1
 intro j hj
 have hj2:j < 1:=hj
 obtain rfl:j = 0:=by omega
 refine ⟨cells9 ⟨#[97]⟩ 2 none 0 0 false 0 0 0 ⟨#[]⟩ none 0 0,⟨2,none,0,0,0,0,0,⟨#[]⟩,none,0,0,rfl,tl_leafF W 2 none 0,vl_leafF W 0 0 0 ⟨#[]⟩ none 0⟩,⟨b,0,⟨#[97]⟩,2,none,0,0,false,0,0,0,⟨#[]⟩,none,0,0,rfl,blk_lt h1,rfl,?_⟩⟩
 exact ⟨h3 0,h3 1,h3 2,h3 3,h3 4,h3 5,h3 6,h3 7,h3 8⟩
theorem one14 (w:World):Calls Tryz.prog 58 #[] w fun e w' => e = .returned (.agg #[.slice (some ⟨w.heap.size + 1,0,none⟩) 1 1]) ∧ w'.heap[w.heap.size + 1]? = some (.cells oneCells 133 (0,0)) ∧ Below w.heap.size w w' ∧ w'.heap.size = w.heap.size + 2:=by
 obtain ⟨W,hW⟩:∃ W,W = (w.alloc (.cells #[.slice (some ⟨w.heap.size + 1,0,none⟩) 1 1] 24)).alloc (.cells oneCells 133):=⟨_,rfl⟩
 have h0:W.heap[w.heap.size]? = some (.cells #[.slice (some ⟨w.heap.size + 1,0,none⟩) 1 1] 24 (0,0)):=by rw [hW,blk_old _ _ (by simp)];exact blk_new w _
 have h1:W.heap[w.heap.size + 1]? = some (.cells oneCells 133 (0,0)):=by
  rw [hW]
  have:=blk_new (w.alloc (.cells #[.slice (some ⟨w.heap.size + 1,0,none⟩) 1 1] 24)) (.cells oneCells 133)
  simpa using this
 have HB:Hid (Below w.heap.size w W):=by rw [hW];exact ((Below.refl _ _).alloc (Nat.le_refl _) _).alloc (by simp) _
 have HZ:Hid (W.heap.size = w.heap.size + 2):=by show _ = _;rw [hW];simp
 have H1:=Lib.hid h1
 have H0:=Lib.hid h0
 have HW:Hid ((w.alloc (.cells #[.slice (some ⟨w.heap.size + 1,0,none⟩) 1 1] 24)).alloc (.cells #[.string ⟨#[97]⟩,.int .i64 2,.slice none 0 0,.bool false,.int .i64 0,.int .i64 0,.float .f64 0,.string ⟨#[]⟩,.slice none 0 0] 133) = W):=hW.symm
 clear h0 h1 hW
 go_enter Tryz.func58,Tryz.ntmps58
 go_wp2
 rw [HW.out]
 refine bodyPost_ret (results_cell_row rfl _ _ w.heap.size _ _ _ _ rfl H0.out Tryz.underlying24 rfl (by kernel_rfl)) rfl ?_
 exact ⟨rfl,H1.out,HB.out,HZ.out⟩
structure Two14 (w w':World) (l:List UInt8) (g r:Nat) (v u:Value) (x k:Nat):Prop where
 dev:KDev w' w.heap.size g v { Dv.new 1048576 with b:=l,safe:=l.length } x k
 ref:RDev w' w.heap.size r u { Dv.new 1048576 with b:=l,safe:=l.length }
 below:Below w.heap.size w w'
 apart:g ≠ r ∧ v.ownBlock ≠ some r ∧ u.ownBlock ≠ some g ∧ ∀ i,v.ownBlock = some i → u.ownBlock ≠ some i
theorem laid14 (p:Option Addr) (c:Nat) (l:List UInt8) (hl:l.length ≤ 2097152) (w:World) (hA:At w p l) :
  Calls Tryz.prog 23 #[.slice p l.length c] w fun e w' => ∃ g r v u x k,e = .returned (.tuple #[.pointer (some ⟨g,0,none⟩),.pointer (some ⟨r,0,none⟩)]) ∧ Two14 w w' l g r v u x k:=by
 have HN:=Lib.hid (kNew_ok 1048576 (by omega) w)
 have HA:=Lib.hid hA
 have hlow:l ≠ [] → ∀ b o,p = some ⟨b,o,none⟩ → b < w.heap.size:=fun h0 b o hp => by
  rcases hA with h1 | ⟨b',o',h1,h2,-⟩
  ·exact absurd h1 h0
  ·rw [hp] at h1
   simp only [Option.some.injEq,Addr.mk.injEq,and_true] at h1
   omega
 have HLo:=Lib.hid hlow
 clear hA hlow
 go_enter Tryz.func23,Tryz.ntmps23
 go_wp2_with fail
 refine HN.out.mono ?_
 rintro e w1 ⟨rfl,hk1,hb1⟩
 have HR:=Lib.hid (refNew_ok 1048576 (by omega) w1)
 have HK1:=Lib.hid hk1
 have HB1:=Lib.hid hb1
 clear hk1 hb1 HN
 go_wp2_with fail
 refine HR.out.mono ?_
 rintro e w2 ⟨rfl,hr2,hb2⟩
 have hk2:=HK1.out.below hb2
 have hB2:=HB1.out.trans (hb2.mono HB1.out.size)
 have hs1:=HB1.out.size
 have hs2:=hb2.size
 have hg1:=HK1.out.lt
 have hT:=kTail hk2 p c l (HA.out.on hB2) (fun h0 b o hp hc => by have:=HLo.out h0 b o hp;omega) (by simp [Dv.new]) (by omega)
 have e1:Dv.tail (Dv.new 1048576) l = (0,{ Dv.new 1048576 with b:=l,safe:=l.length }):=by
  unfold Dv.tail
  rw [if_neg (by simp [Dv.new];omega)]
  simp [Dv.new]
 rw [e1] at hT
 have HT:=Lib.hid hT
 have HR2:=Lib.hid hr2
 have HB2:=Lib.hid hB2
 have hz1:w1.heap.size < w2.heap.size:=hr2.lt
 clear hT hr2 hB2 hk2 hb2 HK1 HR
 go_wp2_with fail
 refine HT.out.mono ?_
 rintro e w3 ⟨rfl,v3,x3,k3,hk3,ha3,hv3⟩
 have hr3:=HR2.out.aside ha3 (fun hc => by rcases hc with hc | hc;exact absurd hc (by omega);simp [Value.ownBlock] at hc) (fun i hi => by simp [Value.ownBlock] at hi)
 have hB3:Below w.heap.size w w3:=HB2.out.trans (ha3.below (by omega) (fun i hi hc => by
  rcases hc with hc | hc
  ·omega
  ·simp [Value.ownBlock] at hc))
 have hs3:=ha3.size
 have hT2:=refTail hr3 p c l (by omega) (HA.out.on hB3) (fun h0 b o hp => ⟨by have:=HLo.out h0 b o hp;omega,by simp [Value.ownBlock]⟩) (by simp [Dv.new]) (by omega)
 rw [e1] at hT2
 have HT2:=Lib.hid hT2
 have HK3:=Lib.hid hk3
 have HB3:=Lib.hid hB3
 have HV3:=Lib.hid hv3
 clear hT2 hk3 ha3 hv3 hr3 hB3 HT HR2 HB2
 go_wp2_with fail
 refine HT2.out.mono ?_
 rintro e w4 ⟨rfl,u4,hr4,ha4,hu4'⟩
 have hu4:∀ i,u4.ownBlock = some i → w3.heap.size ≤ i:=fun i hi => by
  rcases hu4' with hc | hc
  ·rw [hc] at hi;simp [Value.ownBlock] at hi
  ·have:=hc i hi
   simpa [Value.ownBlock] using this
 clear hu4'
 have hk4:KDev w4 w.heap.size w.heap.size v3 { Dv.new 1048576 with b:=l,safe:=l.length } x3 k3:=HK3.out.aside ha4 (fun hc => by
  rcases hc with hc | hc
  ·omega
  ·simp [Value.ownBlock] at hc) (fun i hi hc => by
  rcases hc with hc | hc
  ·have:=HV3.out i hi
   simp [Value.ownBlock] at this
   omega
  ·simp [Value.ownBlock] at hc)
 have hB4:Below w.heap.size w w4:=HB3.out.trans (ha4.below (by omega) (fun i hi hc => by
  rcases hc with hc | hc
  ·omega
  ·simp [Value.ownBlock] at hc))
 have HFin:Hid (Two14 w w4 l w.heap.size w1.heap.size v3 u4 x3 k3):=by
  refine ⟨hk4,⟨hr4.lies,hr4.has.low (by omega),by omega,hr4.apart⟩,hB4,by omega,fun hc => ?_,fun hc => ?_,fun i hi hc => ?_⟩
  ·have:=HV3.out _ hc
   simp [Value.ownBlock] at this
   omega
  ·have:=hu4 _ hc
   omega
  ·have h5:=hu4 _ hc
   have:=(HK3.out.has.lt i hi).2
   omega
 clear hr4 ha4 hu4 hk4 hB4 HT2 HK3 HB3 HV3 e1
 go_wp2
 go_ret2
 exact ⟨_,_,v3,u4,x3,k3,rfl,HFin.out⟩
end Go.Proofs.YtclhbhhlddbocaaGreatDoor
namespace Go.Proofs.YtclhbhhlddbocaaGreatDoor
open Go.RowKit
def dataF:Fr:={ Fr0 with kind:=2,rows:=2,block:=[0,2,4] }
theorem data_wf:dataF.wf:=by
 refine ⟨by simp [dataF,Fr.i64],by simp [dataF,Fr0,Fr.i64],by simp [dataF,Fr0],by simp [dataF,Fr0,Fr.i64],by simp [dataF,Fr0,Fr.i64],by simp [dataF,Fr.i64],by simp [dataF,Fr0,Idx0,Fr.i64],by simp [dataF,Fr0,Idx0]⟩
theorem data_err0:Fr.err0 dataF = 0:=by
 unfold Fr.err0
 rw [if_neg (by decide),if_pos (show dataF.kind = 2 from rfl),if_neg (by decide)]
theorem data_err:Fr.err dataF = 0:=by
 unfold Fr.err
 rw [if_neg (by rw [data_err0];decide)]
 have:(Fr.run dataF).length ≤ 2200:=by decide +kernel
 rw [if_neg (by omega)]
def wk1:Wk:=Sc.take Sc.new smallF 0
def wk2:Wk:=Sc.take wk1 dataF 20
theorem may_d0:Sc.may Sc.new dataF 0 = false:=by
 unfold Sc.may
 rw [show Sc.follows Sc.new dataF 0 = false by unfold Sc.follows;rw [if_neg (by decide),if_pos (show dataF.kind = 2 from rfl)];decide]
 simp
theorem may_s0:Sc.may Sc.new smallF 0 = true:=by
 unfold Sc.may
 rw [small_err,show Sc.follows Sc.new smallF 0 = true by unfold Sc.follows;rw [if_pos (show smallF.kind = 1 from rfl),if_neg (by decide)];decide]
 decide
theorem may_d1:Sc.may wk1 dataF 20 = true:=by
 unfold Sc.may
 rw [data_err,show Sc.follows wk1 dataF 20 = true by unfold Sc.follows;rw [if_neg (by decide),if_pos (show dataF.kind = 2 from rfl)];exact decide_eq_true ⟨rfl,rfl,rfl⟩]
 decide
theorem may_d2:Sc.may wk2 dataF 40 = false:=by
 unfold Sc.may
 rw [show Sc.follows wk2 dataF 40 = false by unfold Sc.follows;rw [if_neg (by decide),if_pos (show dataF.kind = 2 from rfl)];exact decide_eq_false (fun hc => by have h2:(0:Int) = 0 + 1:=hc.2.1;omega)]
 simp
theorem next_d0:Sc.next Sc.new dataF 0 = Sc.new:=by unfold Sc.next;rw [may_d0];rfl
theorem next_s0:Sc.next Sc.new smallF 0 = wk1:=by unfold Sc.next;rw [may_s0];rfl
theorem next_d1:Sc.next wk1 dataF 20 = wk2:=by unfold Sc.next;rw [may_d1];rfl
theorem next_d2:Sc.next wk2 dataF 40 = wk2:=by unfold Sc.next;rw [may_d2];rfl
theorem wk2_ents:wk2.ents = [⟨20,0,0⟩]:=rfl
theorem wk2_sch:wk2.sch 0 = some ⟨smallF.cols.map Col.fix,0⟩:=rfl
theorem wk2_same:Sch.same (smallF.cols.map Col.fix) smallF.cols = true:=(Sch.same_fix _ _).2 (by rw [List.map_map];exact List.map_congr_left fun c _ => Fr.col_fix_idem c)
theorem live_at:Sc.at_ (0 :: (Fr.run smallF ++ [0])) 0 = .ok (Fr.norm smallF,14):=by
 have hl:=small_len
 have hx:((0 :: (Fr.run smallF ++ [0])).drop ((0:Int).toNat)).take 2202 = 0 :: (Fr.run smallF ++ 0 :: []):=by
  show (0 :: (Fr.run smallF ++ [0])).take 2202 = _
  rw [List.take_of_length_le (by simp;omega)]
 unfold Sc.at_
 rw [if_neg (by simp;omega),if_neg (by simp;omega),hx,Sc.runOf_mk (fun hc => by rw [hc] at hl;simp at hl) (Fr.run_nz smallF)]
 simp only [small_dec]
 rw [hl]
 rfl
theorem live_end:Sc.at_ (0 :: (Fr.run smallF ++ [0])) 14 = .error 140:=by
 have hl:=small_len
 unfold Sc.at_
 rw [if_neg (by simp;omega),if_pos (by simp;omega)]
end Go.Proofs.YtclhbhhlddbocaaGreatDoor
namespace Go.Proofs.YtclhbhhlddbocaaGreatDoor
open Go.RowKit
structure Lv (W:World) (S C D Y:Nat):Prop where
 s:W.heap[S]? = some (.cells #[.int .i64 1,.int .i64 0,.slice (some ⟨C,0,none⟩) 1 1,.int .i64 0,.int .i64 0,.int .i64 0,.slice none 0 0,.int .i64 0,.int .i64 0,.int .i64 0,.slice none 0 0] 30 (0,0))
 c:W.heap[C]? = some (.cells oneCells 133 (0,0))
 d:W.heap[D]? = some (.cells #[.int .i64 2,.int .i64 0,.slice none 0 0,.int .i64 0,.int .i64 0,.int .i64 2,.slice (some ⟨Y,0,none⟩) 3 3,.int .i64 0,.int .i64 0,.int .i64 0,.slice none 0 0] 30 (0,0))
 y:W.heap[Y]? = some (.cells #[.int .u8 0,.int .u8 2,.int .u8 4] 5 (0,0))
theorem Lv.flS {W:World} {S C D Y:Nat} (h:Lv W S C D Y):FLies W #[.int .i64 1,.int .i64 0,.slice (some ⟨C,0,none⟩) 1 1,.int .i64 0,.int .i64 0,.int .i64 0,.slice none 0 0,.int .i64 0,.int .i64 0,.int .i64 0,.slice none 0 0] smallF :=
 ⟨some ⟨C,0,none⟩,1,none,0,none,0,rfl,by decide,by decide,one_cols h.c,by decide,by decide,.inl rfl,by decide,by decide,ents_nil _ _⟩
theorem Lv.flD {W:World} {S C D Y:Nat} (h:Lv W S C D Y):FLies W #[.int .i64 2,.int .i64 0,.slice none 0 0,.int .i64 0,.int .i64 0,.int .i64 2,.slice (some ⟨Y,0,none⟩) 3 3,.int .i64 0,.int .i64 0,.int .i64 0,.slice none 0 0] dataF:=by
 refine ⟨none,0,some ⟨Y,0,none⟩,3,none,0,rfl,by decide,by decide,fun j hj => by simp [dataF,Fr0] at hj,by decide,by decide,.inr ⟨Y,0,rfl,blk_lt h.y,fun j hj => ?_⟩,by decide,by decide,ents_nil _ _⟩
 have hj3:j < 3:=hj
 have h3:=blk_cell h.y
 rw [Nat.zero_add,h3 j]
 have:j = 0 ∨ j = 1 ∨ j = 2:=by omega
 rcases this with rfl | rfl | rfl <;> rfl
theorem Lv.aside {W W':World} {S C D Y a M n B:Nat} {v:Value} {g:Int → Option Value} {s:Wk} {G:Nat → Prop} (h:Lv W S C D Y) (hk:KWalk W B a M n v g s G) (ha:Aside (wOwn a M v) W W'):Lv W' S C D Y:=by
 have key:∀ {i:Nat} {K:Array Value} {T:TypeId},W.heap[i]? = some (.cells K T (0,0)) → T ≠ 102 → T ≠ 113 → W'.heap[i]? = some (.cells K T (0,0)):=fun {i K T} hi h1 h2 => by
  rw [ha.block i (blk_lt hi) (fun hc => ?_)]
  ·exact hi
  ·rcases hc with hc | hc | hc
   ·rw [hc,hk.lies] at hi
    injection hi with hi
    injection hi with _ hi
    exact h2 hi.symm
   ·obtain ⟨es,clock,hm⟩:=hk.map.obj
    rw [hc,hm] at hi
    cases hi
   ·exact eown_apart hk.ents hi h1 hc
 exact ⟨key h.s (by decide) (by decide),key h.c (by decide) (by decide),key h.d (by decide) (by decide),key h.y (by decide) (by decide)⟩
theorem Lv.on {W W':World} {S C D Y:Nat} (h:Lv W S C D Y) (hb:Below W.heap.size W W'):Lv W' S C D Y :=
 ⟨(hb.block _ (blk_lt h.s)).trans h.s,(hb.block _ (blk_lt h.c)).trans h.c,(hb.block _ (blk_lt h.d)).trans h.d,(hb.block _ (blk_lt h.y)).trans h.y⟩
structure LvI (w W:World) (n:Nat) (st:Wk) (S C D Y:Nat):Prop where
 walk:∃ v g,KWalk W w.heap.size (w.heap.size + 1) w.heap.size n v g st (fun _ => False)
 lv:Lv W S C D Y
 below:Below w.heap.size w W
theorem LvI.on {w W W':World} {n:Nat} {st:Wk} {S C D Y:Nat} (h:LvI w W n st S C D Y) (hb:Below W.heap.size W W'):LvI w W' n st S C D Y:=by
 obtain ⟨v,g,hk⟩:=h.walk
 exact ⟨⟨v,g,hk.on hb⟩,h.lv.on hb,h.below.trans (hb.mono h.below.size)⟩
theorem LvI.next {w W W':World} {n:Nat} {st st':Wk} {S C D Y:Nat} (h:LvI w W n st S C D Y) {v:Value} {g:Int → Option Value} (hk:KWalk W w.heap.size (w.heap.size + 1) w.heap.size n v g st (fun _ => False)) (hp:WPost W W' w.heap.size (w.heap.size + 1) w.heap.size (n + 1) v st' (fun _ => False)):LvI w W' (n + 1) st' S C D Y:=by
 obtain ⟨v',g',h1,h2,-⟩:=hp.out
 exact ⟨⟨v',g',h1⟩,h.lv.aside hk h2,h.below.trans (h2.below h.below.size (fun i hi hc => by have:=hk.far hc;omega))⟩
theorem LvI.calls {w W:World} {n:Nat} {st:Wk} {S C D Y:Nat} (h:LvI w W n st S C D Y) (hv:Hv w) (hn:n < 1000) (f:Fr) (hwf:f.wf) (u:Array Value) (hf:FLies W u f) (pl:Int):Calls Tryz.prog 30 #[.pointer (some ⟨w.heap.size + 1,0,none⟩),.agg u,.int .i64 pl] W fun e w' => e = .returned (.int .i64 (if Sc.may st f pl = true then 0 else 143)) ∧ LvI w w' (n + 1) (Sc.next st f pl) S C D Y:=by
 obtain ⟨v,g,hk⟩:=h.walk
 exact (kNext hk f hwf u hf pl (hv.next h.below) (by omega) h.below.size).mono fun e w' ⟨h1,h2⟩ => ⟨h1,h.next hk h2⟩
end Go.Proofs.YtclhbhhlddbocaaGreatDoor
