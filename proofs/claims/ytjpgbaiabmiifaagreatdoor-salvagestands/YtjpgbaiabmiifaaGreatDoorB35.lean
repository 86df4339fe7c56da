import Derived.Test.YtjpgbaiabmiifaaGreatDoorB34
set_option maxRecDepth 100000
set_option maxHeartbeats 4000000
namespace Go.Proofs.YtjpgbaiabmiifaaGreatDoor
section
open Go.RowKit
theorem cR {w:World} {b:Nat} {C:Array Value} {T:TypeId} {fr:Nat × Nat} (h:w.heap[b]? = some (.cells C T fr)) (m:Nat):w.cell? ⟨b,m,none⟩ = C[m]?:=by
 simp [World.cell?,h]
theorem eD {w:World} {b:Nat} {C:Array Value} {T:TypeId} (h:w.heap[b]? = some (.cells C T (0,0))) (m:Nat):w.frozen? ⟨b,m,none⟩ = false:=by
 simp [World.frozen?,h]
theorem mD {w:World} {b:Nat} {o:Obj} (h:w.heap[b]? = some o):b < w.heap.size:=(Array.getElem?_eq_some_iff.1 h).1
theorem gK (w:World) (o:Obj):(w.alloc o).heap[w.heap.size]? = some o:=by
 show (w.heap.push o)[w.heap.size]? = _
 simp
theorem ql (w:World) (o:Obj) {k:Nat} (h:k < w.heap.size):(w.alloc o).heap[k]? = w.heap[k]?:=by
 show (w.heap.push o)[k]? = _
 rw [Array.getElem?_push,if_neg (by omega)]
theorem kj {w:World} {b:Nat} {C:Array Value} {T:TypeId} (h:w.heap[b]? = some (.cells C T (0,0))) (m:Nat) (u:Value):(w.setCell ⟨b,m,none⟩ u).heap[b]? = some (.cells (C.set! m u) T (0,0)):=by
 simp [World.setCell,Array.getElem?_modify,h]
theorem fE {w:World} {b:Nat} {o:Obj} (h:w.heap[b]? = some o) (p:Addr) (u:Value) (hp:b ≠ p.block):(w.setCell p u).heap[b]? = some o:=(Below.heap_setCell _ _ _ _ hp).trans h
theorem wZ (w:World) (o0 o1:Obj):((w.alloc o0).alloc o1).heap[w.heap.size]? = some o0 ∧ ((w.alloc o0).alloc o1).heap[w.heap.size + 1]? = some o1 ∧ Below w.heap.size w ((w.alloc o0).alloc o1) ∧ ((w.alloc o0).alloc o1).heap.size = w.heap.size + 2:=by
 refine ⟨?_,?_,((Below.refl _ _).alloc (Nat.le_refl _) _).alloc (by simp) _,by simp⟩
 ·rw [ql _ _ (by simp)];exact gK w _
 ·have:=gK (w.alloc o0) o1
  simpa using this
theorem ry {w:World} {g:Nat} {x y:Value} {T:TypeId} (h:w.heap[g]? = some (.cells #[x,y] T (0,0))) (u v:Value):((w.setCell ⟨g,0,none⟩ u).setCell ⟨g,1,none⟩ v).heap[g]? = some (.cells #[u,v] T (0,0)):=by
 rw [kj (kj h 0 u) 1 v]
 rfl
theorem mH.keep {w w':World} {G A B:Nat} {b:List UInt8} (h:mH w G A b) (hb:Below B w w') (hG:G < B) (hA:A < B):mH w' G A b:=⟨h.row.of_block (hb.block A hA),h.var.of_block (hb.block G hG)⟩
theorem mV (b:List UInt8) (G A i:Nat) (w:World) (hb:b.length ≤ 2048) (hi:i < b.length) (h:mH w G A b) :
  Calls Tryz.prog 93 #[.int .i64 i,.pointer (some ⟨G,0,none⟩)] w fun e w' => e = .returned (.int .i64 ((Blk.ahead b i:Nat) - 1)) ∧ w' = w:=by
 have c0:=h.var.cell (i:=0) (by omega)
 have c1:=h.row.cell hi
 have hle:=Blk.ahead_le b i
 obtain ⟨L,hL⟩:∃ L,L = Blk.ahead b i:=⟨_,rfl⟩
 rw [← hL] at c1 hle ⊢
 clear hL h
 go_enter Tryz.func93,Tryz.ntmps93
 go_wp2
 go_ret
 exact ⟨rfl,rfl⟩
theorem fU (p:Option Addr) (len c a e:Nat) (h:a ≤ e) (h2:e ≤ c) (w:World):(Instr.slice 22 (.slice p len c) (some (.int .i64 a)) (some (.int .i64 e)) none).run Tryz.prog w = .ok (.slice (aR p a c) (e - a) (c - a)) w:=by
 have hs:(sizeOf (Tryz.prog.elem 22)).run Tryz.prog w = .ok 1 w:=by kernel_rfl
 rw [run_slice_lh w 22 p len c (by kernel_rfl) .i64 .i64 (a:Int) (e:Int) (by omega) (by omega) (by omega),hs]
 simp [sliced,aR,Result.andThen]
theorem jm {b:List UInt8} {a most k:Nat} {m:Blk.Mt} (h:1024 < a - k ∨ most ≤ m.size):Blk.chain b a most (k + 1) (k + 1) m = m:=by
 rw [Blk.chain,if_pos h]
theorem nR {b:List UInt8} {a most k:Nat} {m:Blk.Mt} (h:¬ (1024 < a - k ∨ most ≤ m.size)):Blk.chain b a most (k + 1) (k + 1) m = Blk.chain b a most (Blk.ahead b k) (Blk.ahead b k) (if m.size < Blk.alike (b.drop k) ((b.drop a).take most) then ⟨Blk.alike (b.drop k) ((b.drop a).take most),a - k⟩ else m):=by
 rw [Blk.chain,if_neg h]
 exact Blk.chain_more (Blk.ahead_le b k) (Nat.le_refl _)
structure oc (w wr:World) (q:Option Addr) (b:List UInt8) (G A:Nat) (m:Blk.Mt):Prop where
 low:Below w.heap.size w wr
 res:wr.heap[w.heap.size]? = some (.cells #[.int .i64 0,.int .i64 0] 141 (0,0))
 best:wr.heap[w.heap.size + 1]? = some (.cells #[.int .i64 (m.size:Nat),.int .i64 (m.back:Nat)] 141 (0,0))
 look:mH wr G A b
 at_:At wr q b
theorem oc.put {w wr:World} {q:Option Addr} {b:List UInt8} {G A:Nat} {m:Blk.Mt} (h:oc w wr q b G A m) (hq:AtB w w.heap.size q b) (hG:G < w.heap.size) (hA:A < w.heap.size) (m':Blk.Mt) (n:Nat):oc w (((wr.drewN n).setCell ⟨w.heap.size + 1,0,none⟩ (.int .i64 (m'.size:Nat))).setCell ⟨w.heap.size + 1,1,none⟩ (.int .i64 (m'.back:Nat))) q b G A m':=by
 have hd:Below w.heap.size w (wr.drewN n):=below_drewN h.low n
 have hl:Below w.heap.size w (((wr.drewN n).setCell ⟨w.heap.size + 1,0,none⟩ (.int .i64 (m'.size:Nat))).setCell ⟨w.heap.size + 1,1,none⟩ (.int .i64 (m'.back:Nat))) :=
  (hd.setCell (p:=⟨w.heap.size + 1,0,none⟩) (Nat.le_succ _) _).setCell (p:=⟨w.heap.size + 1,1,none⟩) (Nat.le_succ _) _
 refine ⟨hl,?_,ry (w:=wr.drewN n) h.best _ _,?_,(hq.keep hl).at_⟩
 ·exact fE (fE (w:=wr.drewN n) h.res _ _ (by show w.heap.size ≠ w.heap.size + 1;omega)) _ _ (by show w.heap.size ≠ w.heap.size + 1;omega)
 ·have hl2:Below w.heap.size wr (((wr.drewN n).setCell ⟨w.heap.size + 1,0,none⟩ (.int .i64 (m'.size:Nat))).setCell ⟨w.heap.size + 1,1,none⟩ (.int .i64 (m'.back:Nat))) :=
   ((below_drewN (Below.refl _ wr) n).setCell (p:=⟨w.heap.size + 1,0,none⟩) (Nat.le_succ _) _).setCell (p:=⟨w.heap.size + 1,1,none⟩) (Nat.le_succ _) _
  exact h.look.keep hl2 hG hA
theorem rR (b:List UInt8) (q:Option Addr) (c G A a:Nat) (w:World) (hb:b.length ≤ 2048) (hbc:b.length ≤ c) (ha:a < b.length) (hq:At w q b) (h:mH w G A b) :
  Calls Tryz.prog 65 #[.slice q b.length c,.int .i64 a,.func (.func 93) #[] #[.pointer (some ⟨G,0,none⟩)]] w fun e w' => e = .returned (.agg #[.int .i64 ((Blk.longest b a).size:Nat),.int .i64 ((Blk.longest b a).back:Nat)]) ∧ Below w.heap.size w w':=by
 have hG:=h.var.lt
 have hA:=h.row.lt
 have HQ:=Lib.hid (hq.atB (Nat.le_refl w.heap.size))
 obtain ⟨most,hmost⟩:∃ most,most = min (b.length - a) 255:=⟨_,rfl⟩
 have hmin:min ((b.length:Int) - (a:Int)) 255 = (most:Int):=by omega
 have hm1:a + most ≤ b.length:=by omega
 have hm2:most ≤ 255:=by omega
 have HL:Hid (Blk.longest b a = Blk.chain b a most (Blk.ahead b a) (Blk.ahead b a) ⟨0,0⟩):=by
  show _ = _
  rw [hmost]
  exact Blk.chain_more (Blk.ahead_le b a) (Nat.le_refl _)
 obtain ⟨W0,hW0⟩:∃ W0,W0 = (w.alloc (.cells #[.int .i64 0,.int .i64 0] 141)).alloc (.cells #[.int .i64 0,.int .i64 0] 141):=⟨_,rfl⟩
 have HS:Hid (oc w W0 q b G A ⟨0,0⟩):=by
  obtain ⟨h0,h1,h2,h3⟩:=wZ w (.cells #[.int .i64 0,.int .i64 0] 141) (.cells #[.int .i64 0,.int .i64 0] 141)
  rw [← hW0] at h0 h1 h2 h3
  exact ⟨h2,h0,h1,h.keep h2 hG hA,hq.on h2⟩
 have HC:=Lib.hid (mV b G A a W0 hb ha HS.out.look)
 have HW0:=Lib.hid hW0
 clear hW0 h hq
 go_enter Tryz.func65,Tryz.ntmps65
 have hle:=Blk.ahead_le b a
 obtain ⟨R,hR⟩:∃ R,R = Blk.longest b a:=⟨_,rfl⟩
 rw [← hR] at HL ⊢
 clear hR hmost
 go_wp2_with fail
 rw [← HW0.out]
 refine HC.out.mono ?_
 rintro e w' ⟨rfl,hw⟩
 rw [hw]
 clear hw w' HC HW0
 go_wp2_with fail
 go_loopw [9] (fun v9 wr => ∃ (g:Nat) (m:Blk.Mt),v9 = .int .i64 ((g:Int) - 1) ∧ g ≤ a ∧ m.size ≤ 255 ∧ m.back ≤ 1024 ∧ Hid (oc w wr q b G A m ∧ R = Blk.chain b a most g g m)) (fun v9 _ => (intOf v9 + 1).toNat)
 case atStart => exact ⟨Blk.ahead b a,⟨0,0⟩,rfl,hle,by decide,by decide,HS.out,HL.out⟩
 case round =>
  obtain ⟨g,m,rfl,hga,hms,hmb,HK⟩:=hrel
  obtain ⟨ms,mb⟩:=m
  dsimp only at hms hmb
  have b0:wr.heap[w.heap.size + 1]? = some (.cells #[.int .i64 (ms:Nat),.int .i64 (mb:Nat)] 141 (0,0)):=HK.out.1.best
  have b1:=HK.out.1.res
  have c0:wr.cell? ⟨w.heap.size + 1,0,none⟩ = some (.int .i64 (ms:Nat)):=cR b0 0
  have c1:wr.cell? ⟨w.heap.size + 1,1,none⟩ = some (.int .i64 (mb:Nat)):=cR b0 1
  have f0:=eD b0 0
  have f1:=eD b0 1
  have c2:wr.cell? ⟨w.heap.size,0,none⟩ = some (.int .i64 0):=cR b1 0
  have c3:wr.cell? ⟨w.heap.size,1,none⟩ = some (.int .i64 0):=cR b1 1
  have f2:=eD b1 0
  have f3:=eD b1 1
  have HEnd:Hid (Below w.heap.size w ((wr.setCell ⟨w.heap.size,0,none⟩ (.int .i64 (ms:Nat))).setCell ⟨w.heap.size,1,none⟩ (.int .i64 (mb:Nat))) ∧ ((wr.setCell ⟨w.heap.size,0,none⟩ (.int .i64 (ms:Nat))).setCell ⟨w.heap.size,1,none⟩ (.int .i64 (mb:Nat))).heap[w.heap.size]? = some (.cells #[.int .i64 (ms:Nat),.int .i64 (mb:Nat)] 141 (0,0))) :=
   ⟨(HK.out.1.low.setCell (p:=⟨w.heap.size,0,none⟩) (Nat.le_refl _) _).setCell (p:=⟨w.heap.size,1,none⟩) (Nat.le_refl _) _,ry b1 _ _⟩
  have HLt:=Lib.hid (mD b0)
  clear b0 b1
  cases g with
  | zero =>
   have HE:Hid (R = ⟨ms,mb⟩):=HK.out.2
   clear HK
   go_wp2_with fail
   refine bodyPost_ret (results_cell_row rfl _ _ w.heap.size _ _ _ _ rfl HEnd.out.2 Tryz.underlying141 rfl (by kernel_rfl)) rfl ?_
   rw [HE.out]
   exact ⟨rfl,HEnd.out.1⟩
  | succ k =>
   have hv9:(((k + 1:Nat):Int) - 1) = (k:Int):=by omega
   rw [hv9]
   have hk:k < a:=by omega
   have hak:((a:Int) - (k:Int)) = ((a - k:Nat):Int):=by omega
   by_cases hc1:1024 < a - k
   ·have HE:Hid (R = ⟨ms,mb⟩):=HK.out.2.trans (jm (.inl hc1))
    clear HK hv9
    go_wp2_with fail
    refine bodyPost_ret (results_cell_row rfl _ _ w.heap.size _ _ _ _ rfl HEnd.out.2 Tryz.underlying141 rfl (by kernel_rfl)) rfl ?_
    rw [HE.out]
    exact ⟨rfl,HEnd.out.1⟩
   by_cases hc2:most ≤ ms
   ·have HE:Hid (R = ⟨ms,mb⟩):=HK.out.2.trans (jm (.inr hc2))
    clear HK hv9
    go_wp2_with fail
    refine bodyPost_ret (results_cell_row rfl _ _ w.heap.size _ _ _ _ rfl HEnd.out.2 Tryz.underlying141 rfl (by kernel_rfl)) rfl ?_
    rw [HE.out]
    exact ⟨rfl,HEnd.out.1⟩
   have HN:Hid (R = Blk.chain b a most (Blk.ahead b k) (Blk.ahead b k) (if ms < Blk.alike (b.drop k) ((b.drop a).take most) then ⟨Blk.alike (b.drop k) ((b.drop a).take most),a - k⟩ else ⟨ms,mb⟩)):=HK.out.2.trans (nR (by show ¬ (_ ∨ most ≤ ms);omega))
   have s1:=fun w => bM .i64 q b.length c k (by omega) w
   have s2:=fun w => fU q b.length c a (a + most) (by omega) (by omega) w
   have hla:(b.drop k).length = b.length - k:=List.length_drop
   have hlb:((b.drop a).take most).length = most:=by rw [List.length_take,List.length_drop];omega
   have HAl:Hid (∀ n,Calls Tryz.prog 94 #[.slice (aR q k c) (b.drop k).length (c - k),.slice (aR q a c) ((b.drop a).take most).length (c - a)] (wr.drewN n) fun e w' => e = .returned (.int .i64 (Blk.alike (b.drop k) ((b.drop a).take most):Nat)) ∧ w' = wr.drewN n):=fun n =>
    vF (b.drop k) ((b.drop a).take most) (aR q k c) (aR q a c) (c - k) (c - a) (wr.drewN n) (by omega) (by omega) (by omega) ((HK.out.1.at_.cut10 k c hbc).drewN n) (by
     have h1:=(HK.out.1.at_.cut10 a c hbc).drewN n
     rcases h1 with h1 | ⟨bb,oo,h1,h2,h3⟩
     ·exact .inl (by rw [h1];simp)
     ·exact .inr ⟨bb,oo,h1,h2,bZ h3 most⟩)
   rw [hla,hlb] at HAl
   rw [show a + most - a = most by omega] at s2
   have hal:=(Blk.alike_le (b.drop k) ((b.drop a).take most)).2
   rw [hlb] at hal
   obtain ⟨n,hn⟩:∃ n,n = Blk.alike (b.drop k) ((b.drop a).take most):=⟨_,rfl⟩
   rw [← hn] at HN HAl hal
   obtain ⟨q1,hq1⟩:∃ q1,q1 = aR q k c:=⟨_,rfl⟩
   obtain ⟨q2,hq2⟩:∃ q2,q2 = aR q a c:=⟨_,rfl⟩
   obtain ⟨l1,hl1⟩:∃ l1,l1 = b.length - k:=⟨_,rfl⟩
   obtain ⟨k1,hk1⟩:∃ k1,k1 = c - k:=⟨_,rfl⟩
   obtain ⟨k2,hk2⟩:∃ k2,k2 = c - a:=⟨_,rfl⟩
   rw [← hq1,← hk1,← hl1] at s1
   rw [← hq2,← hk2] at s2
   rw [← hq1,← hq2,← hk1,← hk2,← hl1] at HAl
   have e2:((a + most:Nat):Int) = (a:Int) + (most:Int):=by omega
   rw [e2] at s2
   have HAk:=Lib.hid hak
   clear e2 hak
   have HBst:=Lib.hid HK.out.1
   have hk2':=Blk.ahead_le b k
   clear hla hlb hn hq1 hq2 hl1 hk1 hk2 HK HEnd hv9
   by_cases hgt:ms < n
   ·have HN2:Hid (R = Blk.chain b a most (Blk.ahead b k) (Blk.ahead b k) ⟨n,a - k⟩):=by
     show _ = _
     rw [HN.out,if_pos hgt]
    clear HN
    go_wp2_with fail
    go_quiet (first | (go_at_call 94;exact Calls.quiet_of_same (HAl.out _)))
    go_wp2_with fail
    rw [HAk.out]
    have HB2:Hid (oc w (((wr.drewN nq).setCell ⟨w.heap.size + 1,0,none⟩ (.int .i64 (n:Nat))).setCell ⟨w.heap.size + 1,1,none⟩ (.int .i64 ((a - k:Nat):Int))) q b G A ⟨n,a - k⟩):=HBst.out.put HQ.out hG hA ⟨n,a - k⟩ nq
    generalize ((wr.drewN nq).setCell ⟨w.heap.size + 1,0,none⟩ (.int .i64 (n:Nat))).setCell ⟨w.heap.size + 1,1,none⟩ (.int .i64 ((a - k:Nat):Int)) = W2 at HB2 ⊢
    refine (mV b G A k W2 hb (by omega) HB2.out.look).mono ?_
    rintro e w' ⟨rfl,hw⟩
    rw [hw]
    clear hw w'
    go_wp2_with fail
    go_roundw
    case rel => exact ⟨Blk.ahead b k,⟨n,a - k⟩,rfl,by omega,by show n ≤ 255;omega,by show a - k ≤ 1024;omega,HB2.out,HN2.out⟩
    case measure => simp [intOf];omega
   ·have HN2:Hid (R = Blk.chain b a most (Blk.ahead b k) (Blk.ahead b k) ⟨ms,mb⟩):=by
     show _ = _
     rw [HN.out,if_neg hgt]
    clear HN
    go_wp2_with fail
    go_quiet (first | (go_at_call 94;exact Calls.quiet_of_same (HAl.out _)))
    go_wp2_with fail
    have HB2:Hid (oc w (wr.drewN nq) q b G A ⟨ms,mb⟩):=⟨below_drewN HBst.out.low nq,HBst.out.res,HBst.out.best,⟨HBst.out.look.row,HBst.out.look.var⟩,HBst.out.at_.drewN nq⟩
    generalize wr.drewN nq = W2 at HB2 ⊢
    refine (mV b G A k W2 hb (by omega) HB2.out.look).mono ?_
    rintro e w' ⟨rfl,hw⟩
    rw [hw]
    clear hw w'
    go_wp2_with fail
    go_roundw
    case rel => exact ⟨Blk.ahead b k,⟨ms,mb⟩,rfl,by omega,hms,hmb,HB2.out,HN2.out⟩
    case measure => simp [intOf];omega
end
section
open Go.RowKit
theorem fS {w:World} {ops:Array Oper} {o:Oper} {a:Act} {K:Act → World → Prop} {Q:Exit → Act → World → Prop} {E:Prop} {f:FuncId} {fn:Func} {code:Code} {u v:Value} {R:Ending → World → Prop} (x y:Operand) (t t':TypeId)
  (hg:o.guard = none) (hop:o.op = Op.call { callee:=.value (.func f),args:=#[x,y],argTypes:=#[t,t'] }) (hx:a.eval x = u) (hy:a.eval y = v)
  (hf : Tryz.prog.funcs[f]? = some fn) (hname : (fn.name == "runtime.NumGoroutine") = false) (hb : fn.body = some code)
  (hc:Calls Tryz.prog f #[u,v] w R) (hR:∀ e w',R e w' → ∃ z,e = .returned z ∧ K (a.put o.dst z) w') :
  if Region.wanted o (yielded ops a.tmps) = true then Oper.wp Tryz.prog o a w K Q else E:=by
 have hw:Region.wanted o (yielded ops a.tmps) = true:=by simp [Region.wanted,hg]
 rw [if_pos hw]
 have h1 : fn.name ≠ "runtime.NumGoroutine" := by simpa using hname
 unfold Oper.wp
 have he:(execOp a.eval o).run Tryz.prog w = .ok (.enter f #[u,v]) w:=by
  have hev:a.eval (.func f) = .func (.func f) #[] #[]:=rfl
  simp [execOp,hop,resolve,invoke,hx,hy,hev,Deferred.ofValue,callFunc,hf,h1,hb]
 rw [he,Oper.upon_enter]
 refine hc.mono ?_
 intro e w' hr
 obtain ⟨z,rfl,hk⟩:=hR e w' hr
 exact hk
theorem nY {F:Nat → Prop} {w w':World} (h:Aside F w.drew w'):Aside F w w':=⟨h.os,h.tape,h.output,h.size,h.block⟩
structure qp (w w1 wr:World) (q:Option Addr) (b:List UInt8) (G A:Nat) (v:Value) (p:List UInt8):Prop where
 low:Below w.heap.size w w1
 more:Below w1.heap.size w1 wr
 look:mH wr G A b
 at_:AtB wr w1.heap.size q b
 has:Has wr w1.heap.size v p
theorem qp.next {w w1 wr w':World} {q:Option Addr} {b:List UInt8} {G A:Nat} {v v':Value} {p p':List UInt8} (h:qp w w1 wr q b G A v p) (hG:G < w1.heap.size) (hA:A < w1.heap.size) (hb:Below w1.heap.size wr w') (hp:Has w' w1.heap.size v' p'):qp w w1 w' q b G A v' p' :=
 ⟨h.low,h.more.trans hb,h.look.keep hb hG hA,h.at_.keep hb,hp⟩
theorem rl (p l:List UInt8):(Blk.putL p l).length ≤ p.length + 10 + l.length:=by
 unfold Blk.putL
 split
 ·omega
 ·have:=Leb.put_length_le (2 * l.length)
  simp only [List.length_append];omega
theorem rk (p:List UInt8) (m:Blk.Mt):(Blk.putM p m).length ≤ p.length + 20:=by
 unfold Blk.putM
 have:=Leb.put_length_le (2 * m.size + 1)
 have:=Leb.put_length_le m.back
 simp only [List.length_append];omega
theorem lV (b:List UInt8) (q:Option Addr) (c:Nat) (w:World) (hb:b.length ≤ 2048) (hbc:b.length ≤ c) (hq:At w q b) :
    Calls Tryz.prog 42 #[.slice q b.length c] w fun e w' => ∃ q' cap,e = .returned (.slice q' (Blk.packT b).length cap) ∧ Has w' w.heap.size (.slice q' (Blk.packT b).length cap) (Blk.packT b) ∧ Below w.heap.size w w':=by
  have HLU:=Lib.hid (tz b q c w hb hq)
  have HQ0:=Lib.hid hq
  obtain ⟨R,hR⟩:∃ R,R = Blk.packT b:=⟨_,rfl⟩
  have HR:Hid (R = Blk.pk b (b.length - 0) 0 0 [1]):=hR
  rw [← hR]
  clear hR hq
  go_enter Tryz.func42,Tryz.ntmps42
  go_wp2_with fail
  refine HLU.out.mono ?_
  rintro e w1 ⟨rfl,hlk,hlow⟩
  obtain ⟨G,hG⟩:∃ G,G = w.heap.size + 1 + 1:=⟨_,rfl⟩
  obtain ⟨A,hA⟩:∃ A,A = w.heap.size + 1:=⟨_,rfl⟩
  rw [← hG] at hlk ⊢
  rw [← hA] at hlk
  have hGl:=hlk.var.lt
  have hAl:=hlk.row.lt
  have HS:Hid (qp w w1 (w1.alloc (.cells #[.int .u8 1] 5)) q b G A (.slice (some ⟨w1.heap.size,0,none⟩) 1 1) [1]):=by
    have ha:Below w1.heap.size w1 (w1.alloc (.cells #[.int .u8 1] 5)):=(Below.refl _ _).alloc (Nat.le_refl _) _
    exact ⟨hlow,ha,hlk.keep ha hGl hAl,((HQ0.out.on hlow).atB (Nat.le_refl _)).keep ha,cU (B:=w1.heap.size) [1] rfl (Nat.le_refl _) (by decide)⟩
  clear hG hA hlk hlow HLU HQ0
  go_wp2_with fail
  generalize w1.alloc (.cells #[.int .u8 1] 5) = W0 at HS ⊢
  go_loopw [4,5,6] (fun v4 v5 v6 wr => ∃ (fr a:Nat) (p:List UInt8),fr ≤ a ∧ a ≤ b.length ∧ v5 = .int .i64 fr ∧ v6 = .int .i64 a ∧ p.length ≤ 60 * fr + 100 ∧ Hid (qp w w1 wr q b G A v4 p ∧ R = Blk.pk b (b.length - a) fr a p)) (fun _ _ v6 _ => b.length - (intOf v6).toNat)
  case atStart => exact ⟨0,0,[1],Nat.le_refl _,Nat.zero_le _,rfl,rfl,by decide,HS.out,HR.out⟩
  case round =>
    obtain ⟨fr,a,p,hfa,hab,rfl,rfl,hpl,HK⟩:=hrel
    obtain ⟨pp,cap,rfl,-,hcap⟩:=HK.out.1.has.at
    have HT:=Lib.hid HK.out.1
    have hsz:=HT.out.more.size
    by_cases hlt:a < b.length
    · have HLo:=Lib.hid (rR b q c G A a wr hb hbc hlt HT.out.at_.at_ HT.out.look)
      have hgood:=Blk.longest_good b a
      have HSk:=Lib.hid (fun h0 => HK.out.2.trans (Blk.pk_skip (fr:=fr) (p:=p) hlt h0))
      have HTk:=Lib.hid (fun h0 => HK.out.2.trans (Blk.pk_take (fr:=fr) (p:=p) hlt h0))
      obtain ⟨m,hm⟩:∃ m,m = Blk.longest b a:=⟨_,rfl⟩
      rw [← hm] at HLo hgood HSk HTk
      clear hm HK
      go_wp2_with fail
      refine HLo.out.mono ?_
      rintro e w2 ⟨rfl,hb2⟩
      obtain ⟨W3,hW3⟩:∃ W3,W3 = w2.alloc (.cells #[.int .i64 (m.size:Nat),.int .i64 (m.back:Nat)] 141):=⟨_,rfl⟩
      have hb3:Below wr.heap.size wr W3:=by rw [hW3];exact hb2.alloc hb2.size _
      have hF:W3.heap[w2.heap.size]? = some (.cells #[.int .i64 (m.size:Nat),.int .i64 (m.back:Nat)] 141 (0,0)):=by rw [hW3];exact gK w2 _
      have c0:W3.cell? ⟨w2.heap.size,0,none⟩ = some (.int .i64 (m.size:Nat)):=cR hF 0
      have c1:W3.cell? ⟨w2.heap.size,1,none⟩ = some (.int .i64 (m.back:Nat)):=cR hF 1
      have HT3:Hid (qp w w1 W3 q b G A (.slice pp p.length cap) p):=HT.out.next hGl hAl (hb3.mono hsz) (HT.out.has.on hb3)
      have hs3:wr.heap.size ≤ w2.heap.size:=hb2.size
      have HW3:=Lib.hid hW3
      have HF:=Lib.hid hF
      have hs3':=mD hF
      have HOw:Hid (∀ k,(Value.slice pp p.length cap).ownBlock = some k → k < wr.heap.size):=fun k hk => (HT.out.has.lt k hk).2
      clear hb2 hb3 hW3 hF HLo
      by_cases h0:m.size = 0
      · have HN:=Lib.hid (HSk.out h0)
        have HW4:Hid (W3 = w2.alloc (.cells #[.int .i64 0,.int .i64 (m.back:Nat)] 141)):=by
          have h:=HW3.out
          rw [h0] at h
          exact h
        clear HSk HTk hgood c0 HW3
        go_wp2_with fail
        rw [← HW4.out]
        go_roundw
        case rel => exact ⟨fr,a + 1,p,by omega,by omega,rfl,by go_num,by omega,HT3.out,HN.out⟩
        case measure => simp [intOf];omega
      · have hg:=hgood.resolve_left h0
        have HN:=Lib.hid (HTk.out h0)
        have g0:((m.size:Int) == 0) = false:=by rw [beq_eq_false_iff_ne];omega
        have m1:=hg.most
        have m2:=hg.near
        have m3:=hg.fits
        have m4:=hg.four
        have s2:=fun w => fU q b.length c fr a (by omega) (by omega) w
        have hlb:((b.drop fr).take (a - fr)).length = a - fr:=by rw [List.length_take,List.length_drop];omega
        have HAt:Hid (AtB W3 w1.heap.size (aR q fr c) ((b.drop fr).take (a - fr))):=by
          have h1:=HT3.out.at_.cut fr c hbc
          refine ⟨?_,fun hne => h1.low (fun he => hne (by rw [he];simp))⟩
          rcases h1.at_ with h2 | ⟨bb,oo,h2,h3,h4⟩
          · exact .inl (by rw [h2];simp)
          · exact .inr ⟨bb,oo,h2,h3,bZ h4 _⟩
        have HPL:=Lib.hid (ow p ((b.drop fr).take (a - fr)) w1.heap.size (.slice pp p.length cap) (aR q fr c) (c - fr) W3.drew (by show w1.heap.size ≤ W3.heap.size;omega) (by omega) (by rw [hlb];omega) HT3.out.has ⟨HAt.out.at_,HAt.out.low⟩)
        have hpl2:=rl p ((b.drop fr).take (a - fr))
        rw [hlb] at HPL hpl2
        obtain ⟨p1,hp1⟩:∃ p1,p1 = Blk.putL p ((b.drop fr).take (a - fr)):=⟨_,rfl⟩
        rw [← hp1] at HPL HN hpl2
        have hpl3:=rk p1 m
        obtain ⟨q2,hq2⟩:∃ q2,q2 = aR q fr c:=⟨_,rfl⟩
        obtain ⟨k2,hk2⟩:∃ k2,k2 = c - fr:=⟨_,rfl⟩
        obtain ⟨l2,hl2⟩:∃ l2,l2 = a - fr:=⟨_,rfl⟩
        rw [← hq2,← hk2,← hl2] at s2 HPL
        clear hp1 hq2 hk2 hl2 HSk HTk hgood hlb HAt
        go_wp2_with fail
        rw [← HW3.out]
        go_region_law (first
          | (refine fS (u:=.slice pp p.length cap) (v:=.slice q2 l2 k2) (.tmp 24) (.tmp 28) 22 22 (by rfl) (by rfl) (by simp [Act.eval,Act.put]) (by simp [Act.eval,Act.put]) Tryz.func67 (by kernel_rfl) (by rfl) HPL.out ?_
             rintro e w4 ⟨q4,cap4,rfl,hh4,ha4,hk4⟩
             refine ⟨_,rfl,?_⟩
             have ha5:Aside (fun k => (Value.slice pp p.length cap).ownBlock = some k) W3 w4:=nY ha4
             have e0:w4.cell? ⟨w2.heap.size,0,none⟩ = some (.int .i64 (m.size:Nat)):=by rw [ha5.cell (p:=⟨w2.heap.size,0,none⟩) hs3' (fun hc => by have:=HOw.out _ hc;exact absurd this (by show ¬ w2.heap.size < wr.heap.size;omega))];exact c0
             have e1:w4.cell? ⟨w2.heap.size,1,none⟩ = some (.int .i64 (m.back:Nat)):=by rw [ha5.cell (p:=⟨w2.heap.size,1,none⟩) hs3' (fun hc => by have:=HOw.out _ hc;exact absurd this (by show ¬ w2.heap.size < wr.heap.size;omega))];exact c1
             have HH4:=Lib.hid hh4
             have HA4:=Lib.hid ha5
             have hs4:=ha5.size
             have HK4:=Lib.hid hk4
             clear hh4 ha4 ha5 hk4)
          | (refine fS (u:=.slice q4 p1.length cap4) (v:=.agg #[.int .i64 (m.size:Nat),.int .i64 (m.back:Nat)]) (.tmp 29) (.tmp 30) 22 141 (by rfl) (by rfl) (by simp [Act.eval]) (by simp [Act.eval]) Tryz.func66 (by kernel_rfl) (by rfl) (tr p1 m w1.heap.size (.slice q4 p1.length cap4) _ (by show w1.heap.size ≤ w4.heap.size;omega) (by omega) m1 m2 HH4.out) ?_
             rintro e w5 ⟨q5,cap5,rfl,hh5,ha5,hk5⟩
             refine ⟨_,rfl,?_⟩
             have HH5:=Lib.hid hh5
             have HA5:Hid (Aside (fun k => (Value.slice q4 p1.length cap4).ownBlock = some k) w4 w5):=⟨ha5.os,ha5.tape,ha5.output,ha5.size,ha5.block⟩
             have x0:w5.cell? ⟨w2.heap.size,0,none⟩ = some (.int .i64 (m.size:Nat)):=by
               rw [HA5.out.cell (p:=⟨w2.heap.size,0,none⟩) (by show w2.heap.size < w4.heap.size;omega) (fun hc => by
                 rcases HK4.out _ hc with h | h
                 · have:=HOw.out _ h
                   exact absurd this (by show ¬ w2.heap.size < wr.heap.size;omega)
                 · exact absurd h (by show ¬ W3.heap.size ≤ w2.heap.size;omega))]
               exact e0
             clear hh5 ha5 hk5)
          | fail)
        all_goals
          go_wp2_with fail
          go_roundw
          case rel =>
            have b1:Below w1.heap.size W3 w4:=aw HA4.out HT3.out.has (by omega)
            have b2:Below w1.heap.size w4 w5:=aw HA5.out HH4.out (by omega)
            refine ⟨a + m.size,a + m.size,Blk.putM p1 m,Nat.le_refl _,m3,by go_num,by go_num,by omega,HT3.out.next hGl hAl (b1.trans b2) HH5.out,HN.out⟩
          case measure => simp [intOf];omega
    · have hend:a = b.length:=by omega
      have HN:=Lib.hid (HK.out.2.trans (Blk.pk_end (by omega)))
      have s2:=fun w => bM .i64 q b.length c fr (by omega) w
      have hlb:(b.drop fr).length = b.length - fr:=List.length_drop
      have HPL:=Lib.hid (ow p (b.drop fr) w1.heap.size (.slice pp p.length cap) (aR q fr c) (c - fr) wr hsz (by omega) (by rw [hlb];omega) HT.out.has (HT.out.at_.cut fr c hbc))
      rw [hlb,← HN.out] at HPL
      obtain ⟨q2,hq2⟩:∃ q2,q2 = aR q fr c:=⟨_,rfl⟩
      obtain ⟨k2,hk2⟩:∃ k2,k2 = c - fr:=⟨_,rfl⟩
      obtain ⟨l2,hl2⟩:∃ l2,l2 = b.length - fr:=⟨_,rfl⟩
      rw [← hq2,← hk2,← hl2] at s2 HPL
      clear hq2 hk2 hl2 hlb HK
      subst hend
      go_wp2_with fail
      refine HPL.out.mono ?_
      rintro e w4 ⟨q4,cap4,rfl,hh4,ha4,-⟩
      have HH4:=Lib.hid hh4
      have HB4:=Lib.hid (aw ha4 HT.out.has hsz)
      clear hh4 ha4
      go_wp2
      go_ret
      refine ⟨q4,cap4,rfl,HH4.out.lower HT.out.low.size,HT.out.low.trans ((HT.out.more.mono HT.out.low.size).trans (HB4.out.mono HT.out.low.size))⟩
theorem vX (b:List UInt8) (q:Option Addr) (c:Nat) (w:World) (hb:b.length ≤ 140737488351232) (hbc:b.length ≤ c) (hq:At w q b) :
    Calls Tryz.prog 20 #[.slice q b.length c] w (qt w (Blk.pack b)):=by
  obtain ⟨R,hR⟩:∃ R,R = Blk.pack b:=⟨_,rfl⟩
  rw [← hR]
  unfold Blk.pack at hR
  by_cases h0:2048 < b.length
  · rw [if_pos h0] at hR
    have HR:=Lib.hid hR
    clear hR
    go_enter Tryz.func20,Tryz.ntmps20
    go_wp2
    go_ret2
    rw [HR.out]
    exact ⟨none,0,0,rfl,rfl,aT _ _,Below.refl _ _⟩
  · rw [if_neg h0] at hR
    have HP:=Lib.hid (lV b q c w (by omega) hbc hq)
    have HQ:=Lib.hid hq
    obtain ⟨p,hp⟩:∃ p,p = Blk.packT b:=⟨_,rfl⟩
    rw [← hp] at HP hR
    have HR0:=Lib.hid hR
    clear hp hq hR
    go_enter Tryz.func20,Tryz.ntmps20
    go_wp2_with fail
    refine HP.out.mono ?_
    rintro e w1 ⟨q1,cap1,rfl,hh,hb1⟩
    have HH:=Lib.hid hh
    have HB:=Lib.hid hb1
    have hs1:=hb1.size
    clear hh hb1
    by_cases h1:p.length ≤ b.length
    · have HR:Hid (R = ⟨0,p⟩):=by show _ = _;rw [HR0.out,if_pos h1]
      clear HR0
      go_wp2
      go_ret2
      rw [HR.out]
      exact ⟨q1,_,cap1,rfl,rfl,HH.out,HB.out⟩
    · have HR:Hid (R = ⟨0,0 :: b⟩):=by show _ = _;rw [HR0.out,if_neg h1]
      clear HR0
      have HL:Hid (Has (w1.alloc (.cells #[.int .u8 0] 5)) w1.heap.size (.slice (some ⟨w1.heap.size,0,none⟩) 1 1) [0]):=cU (B:=w1.heap.size) [0] rfl (Nat.le_refl _) (by decide)
      have HA:Hid (At (w1.alloc (.cells #[.int .u8 0] 5)) q b):=(HQ.out.on HB.out).on ((Below.refl _ _).alloc (Nat.le_refl _) _)
      have HB2:Hid (Below w.heap.size w (w1.alloc (.cells #[.int .u8 0] 5))):=HB.out.alloc hs1 _
      go_wp2_with (first
        | (at_builtin
           refine aA (xs:=[0]) HL.out HA.out (by simp;omega) (by simp) rfl rfl rfl rfl rfl ?_
           intro ys q3 cap3 W HY hh ha hk
           have HH3:=Lib.hid hh
           have HA3:=Lib.hid (aw ha HL.out (by simp))
           clear hh ha hk)
        | fail)
      go_ret2
      rw [HR.out]
      have e:ys = 0 :: b:=HY.out
      rw [e] at HH3
      rw [e]
      exact ⟨q3,_,cap3,rfl,rfl,HH3.out.lower hs1,HB2.out.trans (HA3.out.mono hs1)⟩
end
end Go.Proofs.YtjpgbaiabmiifaaGreatDoor
