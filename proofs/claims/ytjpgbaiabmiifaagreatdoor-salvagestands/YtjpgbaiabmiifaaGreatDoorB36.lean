import Derived.RangeFuncNested
import Derived.RangeFuncBound
import Derived.Shelf.RegionOpen
import Derived.OwnWalkIn
import Derived.LoopNIn
import Derived.LoopIn
import Derived.Test.YtjpgbaiabmiifaaGreatDoorB27
set_option maxRecDepth 100000
set_option maxHeartbeats 2000000
namespace Go.Proofs.YtjpgbaiabmiifaaGreatDoor
section
open Go.RowKit Go.Shelf
abbrev il (fn:FuncId) (tmps:Array Value) (ps:Array Tmp) (assign body:Code) (D:Nat) (st:LoopState) (pe:Option Code):Loop:={ state:=st,pending:=pe,fn:=fn,tmps:=tmps,params:=ps,assign:=assign,body:=body,defers:=D }
def tS (l:Nat) (L:LoopState → Option Code → Loop) (R:Bool → World → Prop):Exit → Act → World → Prop
 | .normal,_,W => W.heap[l]? = some (.loop (L .busy none)) ∧ R true (W.putObj l (.loop (L .ready none)))
 | .ret,_,W => W.heap[l]? = some (.loop (L .busy none)) ∧ R false (W.putObj l (.loop (L .done (some .ret))))
 | _,_,_ => False
theorem fk {m:Nat} {P:Program} {l D:Nat} {fn:FuncId} {tmps:Array Value} {ps:Array Tmp} {assign body:Code} {args:Array Value} {W:World} {R:Bool → World → Prop}
  (hl:W.heap[l]? = some (.loop (il fn tmps ps assign body D .ready none))) (hs:args.size = ps.size)
  (h:assign.wpIn (Fence.wide.inRound l) m P (Exit.then (fun a1 W1 => W1.heap[l]? = some (.loop (il fn tmps ps assign body D .ready none)) ∧
    body.wpIn (Fence.wide.inRound l) m P (tS l (il fn tmps ps assign body D) R) a1 (W1.putObj l (.loop (il fn tmps ps assign body D .busy none)))) (fun _ _ _ => False))
   { tmps:=(ps.zip args).foldl (fun t (p,v) => t.setIfInBounds p v) tmps,defers:=[] } W) :
  YieldAt Fence.wide m P l args W fun e W' => ∃ b,e = .returned (.bool b) ∧ R b W':=by
 refine ⟨_,_,_,_,run_yield hl hs,roundIn_of_wpIn trivial (wpIn_mono h ?_)⟩
 intro e a1 W1 h1
 cases e with
 | normal =>
  obtain ⟨hl1,hb⟩:=h1
  refine ⟨_,run_beginRound hl1 rfl,wpIn_mono hb ?_⟩
  intro e2 a2 W2 h2
  cases e2 with
  | normal => exact ⟨_,_,run_endRound none h2.1,true,rfl,h2.2⟩
  | ret => exact ⟨_,_,run_endRound (some .ret) h2.1,false,rfl,h2.2⟩
  | exit i => exact h2.elim
  | goto t => exact h2.elim
  | panic c => exact h2.elim
  | outgrown => exact h2.elim
 | exit i => exact h1.elim
 | goto t => exact h1.elim
 | ret => exact h1.elim
 | panic c => exact h1.elim
 | outgrown => exact h1.elim
theorem jS {n:Nat} {P:Program} {g:Operand} {ps:Array Tmp} {assign body:Code} {Q:Exit → Act → World → Prop} {a:Act} {w:World} {gf:FuncId} {lb:Array Value}
    (hg:a.eval g = .func (.func gf) #[] lb) (eg:∀ args w,(callFunc gf args).run P w = .ok (.enter gf args) w)
    (h:∀ fn,Calls P gf (#[.func (.yield (w.heap.size + 1)) #[] #[]] ++ lb) ((w.alloc (.deferred (some []))).alloc (.loop (il fn a.tmps ps assign body w.heap.size .ready none))) fun e W => (∃ v,e = .returned v) ∧
      ((W.heap[w.heap.size + 1]? = some (.loop (il fn a.tmps ps assign body w.heap.size .ready none)) ∧ Q .normal { a with defers:={ target:=.collected w.heap.size,args:=#[] } :: a.defers } (W.putObj (w.heap.size + 1) (.loop (il fn a.tmps ps assign body w.heap.size .exhausted none)))) ∨
       (W.heap[w.heap.size + 1]? = some (.loop (il fn a.tmps ps assign body w.heap.size .done (some .ret))) ∧ Code.ret.wpIn Fence.wide n P Q { a with defers:={ target:=.collected w.heap.size,args:=#[] } :: a.defers } (W.putObj (w.heap.size + 1) (.loop (il fn a.tmps ps assign body w.heap.size .exhausted (some .ret))))))) :
    (Code.rangeFunc g ps assign body).wpIn Fence.wide n P Q a w:=by
  refine wpIn_rangeFunc ?_
  intro fn _
  obtain ⟨W1,hW1⟩:∃ W1,W1 = (w.alloc (.deferred (some []))).alloc (.loop (il fn a.tmps ps assign body w.heap.size .ready none)):=⟨_,rfl⟩
  have h':=h fn
  rw [← hW1] at h'
  refine ⟨w.heap.size + 1,[{ target:=.collected w.heap.size,args:=#[] }],W1,{ target:=.fn (.func gf) lb,args:=#[.func (.yield (w.heap.size + 1)) #[] #[]] },W1,gf,#[.func (.yield (w.heap.size + 1)) #[] #[]] ++ lb,W1,by rw [hW1];exact run_enterLoop_outer _ _ _ _ _,?_,fun _ _ => trivial,?_,fun hc => by simp [Fence.wide] at hc,?_⟩
  · simp only [resolve,hg]
    simp [go_sem]
  · simp [invoke,go_sem,eg]
  · refine (callsIn_wide.2 h').mono ?_
    rintro e W ⟨⟨v,rfl⟩,⟨hl,hq⟩ | ⟨hl,hq⟩⟩
    · exact ⟨none,_,run_endLoop hl (by simp),hq⟩
    · exact ⟨some .ret,_,run_endLoop hl (by simp),hq⟩
theorem dq {F:Fence} {n:Nat} {P:Program} {w:World} {ops:Array Oper} {rest:List Oper} {o:Oper} {a:Act} {Q:Exit → Act → World → Prop} {s x:Operand} {t tx:TypeId} {vs vx v':Value} {w':World}
  (h:cL P t tx o.type vs vx w v' w') (hg:o.guard = none) (hop:o.op = Op.call { callee:=Callee.builtin Builtin.append,args:=#[s,x],argTypes:=#[t,tx] })
  (hs:a.eval s = vs) (hx:a.eval x = vx) (hK:wpListIn F n P ops Q rest (a.put o.dst v') w'):wpListIn F n P ops Q (o :: rest) a w:=by
 refine wpListIn_plain hg fun K hK' => ?_
 have hrun:=h.run
 unfold Oper.wpIn
 refine ⟨?_,?_⟩
 ·simp [Oper.about,hop,resolve,Target.leads,Sem.run_pure]
 ·rw [Oper.semAt_plain F _ _ (by rw [hop];intro c hc';cases hc')]
  simp [execOp,hop,resolve,invoke,builtin,hs,hx,hrun,Result.andThen]
  exact hK' _ _ hK
theorem mO {F:Fence} {n:Nat} {B:Nat} {v:Value} {xs l:List UInt8} {p:Option Addr} {c:Nat} {w:World} (hown:Has w B v xs) (h:At w p l) (hlen:xs.length + l.length ≤ 140737488355328) (hB:B ≤ w.heap.size)
  {ops:Array Oper} {rest:List Oper} {o:Oper} {a:Act} {Q:Exit → Act → World → Prop} {y x:Operand}
  (ht:o.type = 22) (hg:o.guard = none) (hop:o.op = Op.call { callee:=Callee.builtin Builtin.append,args:=#[y,x],argTypes:=#[22,22] })
  (hs:a.eval y = v) (hx:a.eval x = .slice p l.length c)
  (hK:∀ ys q cap W,Hid (ys = xs ++ l) → Has W B (.slice q ys.length cap) ys → Aside (fun k => v.ownBlock = some k) w W → (∀ k,(Value.slice q ys.length cap).ownBlock = some k → v.ownBlock = some k ∨ w.heap.size ≤ k) → wpListIn F n Tryz.prog ops Q rest (a.put o.dst (.slice q ys.length cap)) W) :
  wpListIn F n Tryz.prog ops Q (o :: rest) a w:=by
 obtain ⟨q,cap,W,hr,hm,ha,-,hb⟩:=dO B v xs l p c w hown h hlen hB
 have hr':cL Tryz.prog 22 22 o.type v (.slice p l.length c) w (.slice q (xs ++ l).length cap) W:=by rw [ht];exact hr
 exact dq hr' hg hop hs hx (hK _ q cap W (Lib.hid rfl) hm ha hb)
theorem dv {W:World} {l:Nat} (o:Obj):Aside (fun k => k = l) W (W.putObj l o):=⟨rfl,rfl,rfl,by simp,fun k _ hne => World.putObj_heap_other hne⟩
theorem bv {n:Nat} {W:World} {l:Nat} (o:Obj) (h:n ≤ l) (hn:n ≤ W.heap.size):Below n W (W.putObj l o):=(dv o).below hn (fun k hk hc => by subst hc;omega)
theorem At.turn {W:World} {L:Nat} {r:Loop} {p:Option Addr} {l:List UInt8} (h:At W p l) (hl:W.heap[L]? = some (.loop r)) (o:Obj):At (W.putObj L o) p l:=by
 rcases h with rfl | ⟨b,oo,rfl,h1,h2⟩
 ·exact .inl rfl
 ·by_cases he:l = []
  ·exact .inl he
  ·have hne:b ≠ L:=fun hc => by
    subst hc
    have h0:0 < l.length:=List.length_pos_iff.2 he
    have:=h2 0 h0
    simp [World.cell?,hl] at this
   refine .inr ⟨b,oo,rfl,by simpa using h1,fun j hj => ?_⟩
   rw [World.cell?_of_block (w:=W) (World.putObj_heap_other hne)]
   exact h2 j hj
end
section
open Go.RowKit Go.Shelf
attribute [local go_sem] af Oper.semAt_some
theorem am {w:World} {b:Nat} {v:Value} {T:TypeId} (h:w.heap[b]? = some (.cells #[v] T (0,0))):w.cell? ⟨b,0,none⟩ = some v:=by simp [World.cell?,h]
theorem aF {w:World} {b:Nat} {v:Value} {T:TypeId} (h:w.heap[b]? = some (.cells #[v] T (0,0))):w.frozen? ⟨b,0,none⟩ = false:=by simp [World.frozen?,h]
structure eF (w:World) (p:Option Addr) (c:Nat) (l:List (List V)):Prop where
 len:l.length * 24 ≤ 140737488351232
 cap:l.length ≤ c
 rows:∀ j (hj:j < l.length),∃ b o q d,p = some ⟨b,o,none⟩ ∧ b < w.heap.size ∧ w.cell? ⟨b,o + j,none⟩ = some (.slice q l[j].length d) ∧ eW w q d l[j]
theorem eF.on {w w':World} {p:Option Addr} {c:Nat} {l:List (List V)} (h:eF w p c l) (hb:Below w.heap.size w w'):eF w' p c l :=
 ⟨h.len,h.cap,fun j hj => by
  obtain ⟨b,o,q,d,h1,h2,h3,h4⟩:=h.rows j hj
  exact ⟨b,o,q,d,h1,by have:=hb.size;omega,ae hb h3,h4.on hb⟩⟩
theorem qb (HE:∀ (s:List Col) (p:Option Addr) (c:Nat) (vs:List V) (q:Option Addr) (d:Nat) (w:World),bF w p c s → eW w q d vs → Calls Tryz.prog 63 #[.agg #[.slice p s.length c],.agg #[.slice q vs.length d]] w (Told w (Rw.err s vs) (Rw.out s vs)))
  (s:List Col) (p:Option Addr) (c:Nat) (l:List (List V)) (q:Option Addr) (d:Nat) (sb lb:Nat)
  (L:Nat) (J:Nat → World → Prop) (X:Nat → World → Prop) (W:World) (hJb:∀ i W,J i W → bF W p c s ∧ eF W q d l ∧ W.heap[sb]? = some (.cells #[.slice p s.length c] 31 (0,0)) ∧ W.heap[lb]? = some (.cells #[.slice q l.length d] 26 (0,0))) (hJn:∀ i W W',J i W → Below W.heap.size W W' → J i W') (h0:J 0 W)
  (good:∀ m i (h:i < l.length) W qq cap,J i W → (∀ j (h:j < l.length),j < i → Rw.err s l[j] = 0) → Rw.err s l[i] = 0 → At W qq (Rw.bytes l[i]) → YieldAt Fence.wide m Tryz.prog L #[.slice qq (Rw.bytes l[i]).length cap,.int .i64 0] W fun e W' => ∃ b,e = .returned (.bool b) ∧ b = true ∧ J (i + 1) W')
  (bad:∀ m i (h:i < l.length) W qq cap,J i W → Rw.err s l[i] ≠ 0 → YieldAt Fence.wide m Tryz.prog L #[.slice qq 0 cap,.int .i64 (Rw.err s l[i]:Nat)] W fun e W' => ∃ b,e = .returned (.bool b) ∧ b = false ∧ X (Rw.err s l[i]) W') :
  Calls Tryz.prog 62 #[.func (.yield L) #[] #[],.pointer (some ⟨lb,0,none⟩),.pointer (some ⟨sb,0,none⟩)] W fun e W' => (∃ v,e = .returned v) ∧ ((Bt.rowsErr s l = 0 ∧ J l.length W') ∨ (Bt.rowsErr s l ≠ 0 ∧ X (Bt.rowsErr s l) W')):=by
 have hlen:=(hJb 0 W h0).2.1.len
 have HJb:=Lib.hid hJb
 have HJn:=Lib.hid hJn
 have H0:=Lib.hid h0
 have HG:=Lib.hid good
 have HBd:=Lib.hid bad
 have HEn:=Lib.hid HE
 have n0:=am (hJb 0 W h0).2.2.2
 clear hJb hJn h0 good bad HE
 refine (callsIn_wide (n:=3)).1 ?_
 refine callsIn_of_wp Tryz.func62 rfl trivial ?_ rfl
 simp only [Tryz.ntmps62,List.size_toArray,List.length_cons,List.length_nil,Nat.reduceAdd,Nat.reduceSub,Array.replicate_succ,Array.replicate_zero,List.push_toArray,List.append_toArray,List.nil_append,List.cons_append]
 gi_wp2
 gi_loopw [10] (fun v10 wr => ∃ i:Nat,i ≤ l.length ∧ v10 = .int .i64 i ∧ Hid ((∀ j (h:j < l.length),j < i → Rw.err s l[j] = 0) ∧ J i wr)) (fun v10 _ => l.length - (intOf v10).toNat)
 case atStart => exact ⟨0,by omega,rfl,fun j _ h => by omega,H0.out⟩
 case round =>
  clear n0
  obtain ⟨i,hi,rfl,HK⟩:=hrel
  obtain ⟨hS0,hL0,hsb0,hlb0⟩:=HJb.out i wr HK.out.2
  by_cases hlt:i < l.length
  ·have hlt':(i:Int) < (l.length:Int):=by omega
   obtain ⟨b,o,qr,dr,rfl,hbl,c0,hR⟩:=hL0.rows i hlt
   have HR:=Lib.hid hR
   have HS:=Lib.hid hS0
   obtain ⟨wa,hwa⟩:∃ wa,wa = wr.alloc (.cells #[.slice qr l[i].length dr] 46):=⟨_,rfl⟩
   have hba:Below wr.heap.size wr wa:=by rw [hwa];exact (Below.refl _ _).alloc (Nat.le_refl _) _
   have n1:=fun o => ae ((Below.refl wr.heap.size wr).alloc (Nat.le_refl _) o) (am hsb0)
   have HBa:=Lib.hid hba
   have HWA:=Lib.hid hwa
   clear hwa hba hR hS0 hL0 hsb0 hlb0
   gi_wp2
   refine ⟨trivial,?_⟩
   refine (callsIn_wide.2 (HEn.out s p c l[i] qr dr _ (HS.out.on ?_) (HR.out.on ?_))).mono ?_
   ·rw [← HWA.out];exact HBa.out
   ·rw [← HWA.out];exact HBa.out
   rintro e w1 ⟨q1,c1,rfl,hA1,hc1,hb1⟩
   rw [← HWA.out] at hb1
   have HJ1:=Lib.hid (HJn.out i wr w1 HK.out.2 (HBa.out.trans (hb1.mono HBa.out.size)))
   obtain ⟨er,her⟩:∃ er,er = Rw.err s l[i]:=⟨_,rfl⟩
   by_cases he:Rw.err s l[i] = 0
   ·have hout:Rw.out s l[i] = Rw.bytes l[i]:=by unfold Rw.out;rw [if_pos he]
    rw [hout] at hA1 hc1 ⊢
    rw [he]
    obtain ⟨fn,tmps,assign,body,hy,hR1⟩:=HG.out 2 i hlt w1 q1 c1 HJ1.out HK.out.1 he hA1
    have HE0:=Lib.hid he
    clear hout hA1 he her
    gi_wp2
    refine hR1.mono ?_
    rintro e w2 ⟨bb,rfl,rfl,hJ2⟩
    have HJ2:=Lib.hid hJ2
    clear hJ2
    gi_wp2
    go_roundw
    case rel =>
     refine ⟨i + 1,by omega,by go_num,fun j hj hji => ?_,HJ2.out⟩
     by_cases hje:j = i
     ·subst hje;exact HE0.out
     ·exact HK.out.1 j hj (by omega)
    case measure => simp [intOf];omega
   ·have hout:Rw.out s l[i] = []:=by unfold Rw.out;rw [if_neg he]
    rw [hout] at hA1 hc1 ⊢
    have hy0:=HBd.out 2 i hlt w1 q1 c1 HJ1.out he
    have HE0:=Lib.hid (Bt.rowsErr_at i hlt HK.out.1 he)
    have HNe:=Lib.hid he
    rw [← her] at hy0 he HE0 HNe ⊢
    obtain ⟨fn,tmps,assign,body,hy,hR1⟩:=hy0
    clear hout hA1 her
    gi_wp2
    refine hR1.mono ?_
    rintro e w2 ⟨bb,rfl,rfl,hX2⟩
    have HX2:=Lib.hid hX2
    clear hX2
    gi_wp2
    refine bodyPost_ret (results_none rfl _ _ _) rfl ?_
    exact ⟨⟨_,rfl⟩,.inr ⟨by rw [HE0.out];exact HNe.out,by rw [HE0.out];exact HX2.out⟩⟩
  ·have hie:i = l.length:=by omega
   subst hie
   gi_wp2
   go_end0
   exact ⟨⟨_,rfl⟩,.inl ⟨Bt.rowsErr_all (fun j hj => HK.out.1 j hj hj),HK.out.2⟩⟩
end
section
open Go.RowKit
attribute [local go_sem] af
structure RowsIn:Prop where
 encode:∀ (s:List Col) (p:Option Addr) (c:Nat) (vs:List V) (q:Option Addr) (d:Nat) (w:World),bF w p c s → eW w q d vs → Calls Tryz.prog 63 #[.agg #[.slice p s.length c],.agg #[.slice q vs.length d]] w (Told w (Rw.err s vs) (Rw.out s vs))
 decode:∀ (s:List Col) (p:Option Addr) (c:Nat) (l:List UInt8) (q:Option Addr) (d:Nat) (a:Int) (w:World),bF w p c s → l.length ≤ 140737488351232 → l.length ≤ d → At w q l → -9223372036854775808 ≤ a → a ≤ 9223372036854775807 → Calls Tryz.prog 88 #[.agg #[.slice p s.length c],.slice q l.length d,.int .i64 a] w (tY w (Rw.read s l a))
theorem k5 (HR:RowsIn) (s:List Col) (p:Option Addr) (c:Nat) (w:World) (hS:bF w p c s) :
  Calls Tryz.prog 61 #[.agg #[.slice p s.length c]] w fun e w' => e = .returned (.int .i64 (Sch.err s:Nat)) ∧ Below w.heap.size w w':=by
 obtain ⟨W0,hW0⟩:∃ W0,W0 = w.alloc (.cells #[.slice p s.length c] 31):=⟨_,rfl⟩
 have hb0:Below w.heap.size w W0:=by rw [hW0];exact (Below.refl _ _).alloc (Nat.le_refl _) _
 have hD:=HR.decode s p c [] none 0 (-1) W0 (hS.on hb0) (by simp) (by simp) (.inl rfl) (by omega) (by omega)
 rw [Bt.read_none] at hD
 obtain ⟨er,her⟩:∃ er,er = Sch.err s:=⟨_,rfl⟩
 have hne:=Bt.schErr_ne s
 rw [← her] at hD hne ⊢
 have HD:=Lib.hid hD
 have HB:=Lib.hid hb0
 have HW:=Lib.hid hW0
 clear hD hb0 hW0 her
 go_enter Tryz.func61,Tryz.ntmps61
 go_wp2_with fail
 rw [← HW.out]
 refine HD.out.mono ?_
 rintro e w1 ⟨rfl,hb1⟩
 have HB1:=Lib.hid (HB.out.trans (hb1.mono HB.out.size))
 clear hb1
 by_cases h0:er = 0
 ·rw [if_pos h0]
  have HE:=Lib.hid h0
  clear h0
  go_wp2
  go_ret
  exact ⟨by rw [HE.out];rfl,HB1.out.alloc HB1.out.size _⟩
 ·rw [if_neg h0]
  have g0:((er:Int) != 30) = true:=aS (by omega)
  go_wp2
  go_ret
  exact ⟨rfl,HB1.out.alloc HB1.out.size _⟩
theorem oQ (HR:RowsIn) (s:List Col) (p:Option Addr) (c:Nat) (n:Int) (w:World) (hS:bF w p c s) :
  Calls Tryz.prog 40 #[.agg #[.slice p s.length c],.int .i64 n] w fun e w' => e = .returned (.int .i64 (Bt.numErr s n:Nat)) ∧ Below w.heap.size w w':=by
 obtain ⟨W0,hW0⟩:∃ W0,W0 = w.alloc (.cells #[.slice p s.length c] 31):=⟨_,rfl⟩
 have hb0:Below w.heap.size w W0:=by rw [hW0];exact (Below.refl _ _).alloc (Nat.le_refl _) _
 have HD:=Lib.hid (k5 HR s p c W0 (hS.on hb0))
 obtain ⟨R,hR⟩:∃ R,R = Bt.numErr s n:=⟨_,rfl⟩
 rw [← hR]
 unfold Bt.numErr at hR
 obtain ⟨er,her⟩:∃ er,er = Sch.err s:=⟨_,rfl⟩
 rw [← her] at HD hR
 have HB:=Lib.hid hb0
 have HW:=Lib.hid hW0
 have HRR:=Lib.hid hR
 clear hb0 hW0 her hR
 go_enter Tryz.func40,Tryz.ntmps40
 go_wp2_with fail
 rw [← HW.out]
 refine HD.out.mono ?_
 rintro e w1 ⟨rfl,hb1⟩
 have HB1:=Lib.hid (HB.out.trans (hb1.mono HB.out.size))
 clear hb1
 by_cases h0:er ≠ 0
 ·have g0:((er:Int) != 0) = true:=aS (by omega)
  have HE:Hid (R = er):=HRR.out.trans (if_pos h0)
  clear HRR h0
  go_wp2
  go_ret
  rw [HE.out]
  exact ⟨rfl,HB1.out⟩
 have g0:((er:Int) != 0) = false:=aY (by omega)
 have HR1:=Lib.hid (HRR.out.trans (if_neg h0))
 clear HRR h0
 by_cases h1:n < 1
 ·have HE:Hid (R = 4):=HR1.out.trans (if_pos h1)
  clear HR1
  go_wp2
  go_ret
  exact ⟨by rw [HE.out];rfl,HB1.out⟩
 have HR2:=Lib.hid (HR1.out.trans (if_neg h1))
 clear HR1
 by_cases h2:64 < n
 ·have HE:Hid (R = 3):=HR2.out.trans (if_pos h2)
  clear HR2
  go_wp2
  go_ret
  exact ⟨by rw [HE.out];rfl,HB1.out⟩
 ·have HE:Hid (R = 0):=HR2.out.trans (if_neg h2)
  clear HR2
  go_wp2
  go_ret
  exact ⟨by rw [HE.out];rfl,HB1.out⟩
end
end Go.Proofs.YtjpgbaiabmiifaaGreatDoor
