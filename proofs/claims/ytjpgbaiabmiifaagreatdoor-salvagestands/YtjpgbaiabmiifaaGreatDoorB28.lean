import Derived.Test.YtjpgbaiabmiifaaGreatDoorB16
import Derived.Test.YtjpgbaiabmiifaaGreatDoorB15
set_option maxRecDepth 100000
set_option maxHeartbeats 1000000
namespace Go.Proofs.YtjpgbaiabmiifaaGreatDoor
section
open Go.RowKit
theorem mX {B:Nat} {v:Value} {xs l:List UInt8} {p:Option Addr} {c:Nat} {w:World} (hown:Has w B v xs) (h:At w p l) (hlen:xs.length + l.length ≤ 140737488355328) (hB:B ≤ w.heap.size)
  {ops:Array Oper} {o:Oper} {a:Act} {K:Act → World → Prop} {Q:Exit → Act → World → Prop} {E:Prop} (s x:Operand)
  (ht:o.type = 22) (hg:o.guard = none) (hop:o.op = Op.call { callee:=Callee.builtin Builtin.append,args:=#[s,x],argTypes:=#[22,22] })
  (hs:a.eval s = v) (hx:a.eval x = .slice p l.length c)
  (hK:∀ q cap W ys,Hid (ys = xs ++ l) → bh w B v W (.slice q ys.length cap) ys → K (a.put o.dst (.slice q ys.length cap)) W) :
  if Region.wanted o (yielded ops a.tmps) = true then Oper.wp Tryz.prog o a w K Q else E:=by
 have hw:Region.wanted o (yielded ops a.tmps) = true:=by simp [Region.wanted,hg]
 rw [if_pos hw]
 obtain ⟨q,cap,W,⟨hr⟩,hm,ha,-,hb3⟩:=dO B v xs l p c w hown h hlen hB
 unfold Oper.wp
 have he:(execOp a.eval o).run Tryz.prog w = .ok (.value (.slice q (xs ++ l).length cap)) W:=by
  simp only [execOp,hop,resolve,invoke,builtin]
  simp [hs,hx,ht,hr,Result.andThen]
 rw [he]
 exact hK q cap W (xs ++ l) (Lib.hid rfl) ⟨hm,ha,hb3⟩
theorem gT {w:World} {ops:Array Oper} {o:Oper} {a:Act} {K:Act → World → Prop} {Q:Exit → Act → World → Prop} {E:Prop} {f:FuncId} {u v:Value} {R:Ending → World → Prop} (y x x':Operand) (t t':TypeId)
  (hg:o.guard = none) (hop:o.op = Op.call { callee:=.value y,args:=#[x,x'],argTypes:=#[t,t'] }) (hy:a.eval y = .func (.func f) #[] #[]) (hx:a.eval x = u) (hx':a.eval x' = v)
  (hE:∀ (args:Array Value) (w:World),(callFunc f args).run Tryz.prog w = .ok (.enter f args) w)
  (hc:Calls Tryz.prog f #[u,v] w R) (hR:∀ e w',R e w' → ∃ v,e = .returned v ∧ K (a.put o.dst v) w') :
  if Region.wanted o (yielded ops a.tmps) = true then Oper.wp Tryz.prog o a w K Q else E:=by
 have hw:Region.wanted o (yielded ops a.tmps) = true:=by simp [Region.wanted,hg]
 rw [if_pos hw]
 unfold Oper.wp
 have he:(execOp a.eval o).run Tryz.prog w = .ok (.enter f #[u,v]) w:=by
  simp [execOp,hop,resolve,invoke,hx,hx',hy,Deferred.ofValue,hE]
 rw [he,Oper.upon_enter]
 refine hc.mono ?_
 intro e w' hr
 obtain ⟨v,rfl,hk⟩:=hR e w' hr
 exact hk
theorem kz {w:World} {ops:Array Oper} {o:Oper} {a:Act} {K:Act → World → Prop} {Q:Exit → Act → World → Prop} {E:Prop} {f:FuncId} {u v:Value} {R:Ending → World → Prop} (y x x':Operand) (t t':TypeId)
  (hg:o.guard = none) (hop:o.op = Op.call { callee:=.value y,args:=#[x,x'],argTypes:=#[t,t'] }) (hy:a.eval y = .func (.func f) #[] #[]) (hx:a.eval x = u) (hx':a.eval x' = v)
  (hE:∀ (args:Array Value) (w:World),(callFunc f args).run Tryz.prog w = .ok (.enter f args) w)
  (hc:Calls Tryz.prog f #[u,v] w R) (hR:∀ e w',R e w' → ∃ ch,e = .panicked ch ∧ Q (.panic ch) a w') (v':Value) (_:Hid False → K (a.put o.dst v') w) :
  if Region.wanted o (yielded ops a.tmps) = true then Oper.wp Tryz.prog o a w K Q else E:=by
 have hw:Region.wanted o (yielded ops a.tmps) = true:=by simp [Region.wanted,hg]
 rw [if_pos hw]
 unfold Oper.wp
 have he:(execOp a.eval o).run Tryz.prog w = .ok (.enter f #[u,v]) w:=by
  simp [execOp,hop,resolve,invoke,hx,hx',hy,Deferred.ofValue,hE]
 rw [he,Oper.upon_enter]
 refine hc.mono ?_
 intro e w' hr
 obtain ⟨v,rfl,hk⟩:=hR e w' hr
 exact hk
theorem enters {f : FuncId} {fn : Func} {code : Code} (hf : Tryz.prog.funcs[f]? = some fn) (hname : (fn.name == "runtime.NumGoroutine") = false) (hb : fn.body = some code) (args : Array Value) (w : World) : (callFunc f args).run Tryz.prog w = .ok (.enter f args) w := by
 have h1 : fn.name ≠ "runtime.NumGoroutine" := by simpa using hname
 simp [callFunc,hf,h1,hb]
def iF:Array Value:=#[.nilFunc,.func (.func 128) #[] #[],.func (.func 129) #[] #[],.func (.func 130) #[] #[],.func (.func 131) #[] #[],.func (.func 131) #[] #[],.func (.func 132) #[] #[],.func (.func 132) #[] #[]]
structure Wtr (w:World) (B R:Nat) (most:Int) (l:List UInt8):Prop where
 out:∃ T q cap,w.heap[R]? = some (.cells #[.slice (some ⟨T,0,none⟩) 8 8,.slice q l.length cap,.int .i64 most] 167 (0,0)) ∧ w.heap[T]? = some (.cells iF 204 (0,0)) ∧ Has w B (.slice q l.length cap) l ∧ T ≠ R ∧ T < B
 low:R < B
 base:B ≤ w.heap.size
theorem Wtr.on {w w':World} {B R:Nat} {most:Int} {l:List UInt8} (h:Wtr w B R most l) (hb:Below w.heap.size w w'):Wtr w' B R most l:=by
 obtain ⟨T,q,cap,h1,h2,h3,h4,h5⟩:=h.out
 exact ⟨⟨T,q,cap,by rw [hb.block R (ar h1)];exact h1,by rw [hb.block T (ar h2)];exact h2,h3.on hb,h4,h5⟩,h.low,Nat.le_trans h.base hb.size⟩
theorem Wtr.lt {w:World} {B R:Nat} {most:Int} {l:List UInt8} (h:Wtr w B R most l):R < w.heap.size:=Nat.lt_of_lt_of_le h.low h.base
def lW (w:World) (R k:Nat):Prop:=∃ t v m,w.heap[R]? = some (.cells #[t,v,m] 167 (0,0)) ∧ v.ownBlock = some k
theorem jU {w w':World} {R:Nat} (h:w'.heap[R]? = w.heap[R]?) (k:Nat):lW w' R k ↔ lW w R k:=by unfold lW;rw [h]
theorem oA {w:World} {R k:Nat} {t v m:Value} (h:w.heap[R]? = some (.cells #[t,v,m] 167 (0,0))) (ho:lW w R k):v.ownBlock = some k:=by
 obtain ⟨t',v',m',h1,h2⟩:=ho
 rw [h] at h1
 injection h1 with h1
 injection h1 with h1
 simp only [Array.mk.injEq,List.cons.injEq,and_true] at h1
 rw [h1.2.1]
 exact h2
theorem Wtr.owns {w:World} {B R:Nat} {most:Int} {l:List UInt8} (h:Wtr w B R most l) {k:Nat} (ho:lW w R k):B ≤ k ∧ k < w.heap.size:=by
 obtain ⟨T,q,cap,h1,h2,h3,h4,h5⟩:=h.out
 exact h3.lt k (oA h1 ho)
structure AsW (R:Nat) (w w':World):Prop where
 aside:Aside (fun k => k = R ∨ lW w R k) w w'
 fresh:∀ k,lW w' R k → lW w R k ∨ w.heap.size ≤ k
theorem AsW.trans {R:Nat} {w w1 w2:World} (h:AsW R w w1) (k:AsW R w1 w2):AsW R w w2:=by
 have hs:=h.aside.size
 refine ⟨h.aside.trans k.aside (fun i hi hc => ?_),fun i hi => ?_⟩
 ·rcases hc with h1 | h1
  ·exact .inl h1
  ·rcases h.fresh i h1 with h2 | h2
   ·exact .inr h2
   ·omega
 ·rcases k.fresh i hi with h1 | h1
  ·exact h.fresh i h1
  ·exact .inr (by omega)
theorem AsW.new {R:Nat} {w w1:World} (hR:R < w.heap.size) (h:Below w.heap.size w w1):AsW R w w1:=⟨al h _,fun k hk => .inl ((jU (h.block R hR) k).1 hk)⟩
theorem AsW.below {A B R:Nat} {most:Int} {l:List UInt8} {w w1:World} (h:AsW R w w1) (hw:Wtr w B R most l) (hA:A ≤ R):Below A w w1:=by
 have h1:=hw.low
 have h2:=hw.base
 exact h.aside.below (by omega) (fun k hk hc => by
  rcases hc with h3 | h3
  ·omega
  ·have:=(hw.owns h3).1;omega)
theorem AsW.far {B R:Nat} {most:Int} {l:List UInt8} {w W0 w1:World} (h:AsW R W0 w1) (hw:Wtr w B R most l) (hb:Below w.heap.size w W0) {k:Nat} (h1:w.heap.size ≤ k) (h2:k < W0.heap.size):w1.heap[k]? = W0.heap[k]?:=by
 have hR:=hw.lt
 refine h.aside.block k h2 (fun hc => ?_)
 rcases hc with h3 | h3
 ·omega
 ·have:=(hw.owns ((jU (hb.block R hR) k).1 h3)).2;omega
theorem Wtr.more {w w1:World} {B R T:Nat} {most:Int} {q q1:Option Addr} {cap cap1:Nat} {l ys:List UInt8} (h:Wtr w B R most l) (h1:w.heap[R]? = some (.cells #[.slice (some ⟨T,0,none⟩) 8 8,.slice q l.length cap,.int .i64 most] 167 (0,0))) (h2:w.heap[T]? = some (.cells iF 204 (0,0))) (h4:T ≠ R) (h5:T < B) (h3:Has w B (.slice q l.length cap) l) (hg:bh w B (.slice q l.length cap) w1 (.slice q1 ys.length cap1) ys) :
  w1.heap[R]? = some (.cells #[.slice (some ⟨T,0,none⟩) 8 8,.slice q l.length cap,.int .i64 most] 167 (0,0)) ∧ Wtr (w1.setCell ⟨R,1,none⟩ (.slice q1 ys.length cap1)) B R most ys ∧ AsW R w (w1.setCell ⟨R,1,none⟩ (.slice q1 ys.length cap1)):=by
 have hl:=h.low
 have hB:=h.base
 have hlt:=h3.lt
 have k1:∀ k,k < B → w1.heap[k]? = w.heap[k]?:=fun k hk => hg.aside.block k (by omega) (fun hc => by have:=(hlt k hc).1;omega)
 have r1:w1.heap[R]? = some (.cells #[.slice (some ⟨T,0,none⟩) 8 8,.slice q l.length cap,.int .i64 most] 167 (0,0)):=(k1 R hl).trans h1
 have ha:Aside (fun i => i = R) w1 (w1.setCell ⟨R,1,none⟩ (.slice q1 ys.length cap1)):=ag _ _ _ _
 have hs:=hg.aside.size
 have hs2:=ha.size
 refine ⟨r1,⟨⟨T,q1,cap1,by rw [ai r1 1];rfl,?_,?_,h4,h5⟩,hl,by omega⟩,?_⟩
 ·rw [ha.block T (by omega) h4,k1 T h5];exact h2
 ·exact hg.has.aside ha (fun k hk he => by have:=(hg.has.lt k hk).1;omega)
 ·refine ⟨Aside.trans (Aside.mono hg.aside (fun k hk hc => .inr ⟨_,_,_,h1,hc⟩)) ha (fun k hk he => .inl he),fun k hk => ?_⟩
  have e1:(w1.setCell ⟨R,1,none⟩ (.slice q1 ys.length cap1)).heap[R]? = some (.cells #[.slice (some ⟨T,0,none⟩) 8 8,.slice q1 ys.length cap1,.int .i64 most] 167 (0,0)):=by rw [ai r1 1];rfl
  rcases hg.fresh k (oA e1 hk) with h6 | h6
  ·exact .inl ⟨_,_,_,h1,h6⟩
  ·exact .inr h6
structure gO (most:Int) (xs full ys:List UInt8):Prop where
 eq:ys = xs ++ full ∨ (most < ys.length ∧ most < (xs ++ full).length)
 len:ys.length ≤ xs.length + full.length
theorem gO.all {most:Int} {xs full:List UInt8}:gO most xs full (xs ++ full):=⟨.inl rfl,by rw [List.length_append];omega⟩
def WrA (w:World) (B R:Nat) (most:Int) (xs full:List UInt8) (e:Ending) (w':World):Prop:=∃ ys,gO most xs full ys ∧ e = .returned (.tuple #[]) ∧ Wtr w' B R most ys ∧ AsW R w w'
theorem kt (w:World):Calls Tryz.prog 90 #[] w fun e w' => e = .returned (.slice (some ⟨w.heap.size,0,none⟩) 8 8) ∧ w' = w.alloc (.cells iF 204):=by
 go_enter Tryz.func90,Tryz.ntmps90
 go_wp2_with fail
 go_ret
 exact ⟨rfl,rfl⟩
theorem Wtr.drew {w:World} {B R:Nat} {most:Int} {l:List UInt8} (h:Wtr w B R most l):Wtr w.drew B R most l:=h.on ((Below.refl _ _).drew)
theorem oX (w:World) (most:Int):Wtr ((w.alloc (.cells iF 204)).alloc (.cells #[.slice (some ⟨w.heap.size,0,none⟩) 8 8,.slice none 0 0,.int .i64 most] 167)) (w.heap.size + 2) (w.heap.size + 1) most []:=by
 refine ⟨⟨w.heap.size,none,0,?_,?_,aT _ _,by omega,by omega⟩,by omega,by simp⟩
 ·have:=ap (w.alloc (.cells iF 204)) (.cells #[.slice (some ⟨w.heap.size,0,none⟩) 8 8,.slice none 0 0,.int .i64 most] 167)
  simpa using this
 ·rw [aG _ _ (by simp)]
  exact ap w _
end
section
open Go.RowKit
attribute [local go_sem] af
theorem kK (n:Nat) (hn:n < 18446744073709551616) (xs:List UInt8) (hx:xs.length ≤ 100000000000000) (B R:Nat) (most:Int) (w:World) (h:Wtr w B R most xs):Calls Tryz.prog 156 #[.pointer (some ⟨R,0,none⟩),.int .u64 n] w fun e w' => e = .returned (.tuple #[]) ∧ Wtr w' B R most (xs ++ Leb.put n) ∧ AsW R w w':=by
  have HP:=Lib.hid (du n hn)
  have hpl:=Leb.put_length_le n
  obtain ⟨l0,hl0⟩:∃ l0,l0 = Leb.put n:=⟨_,rfl⟩
  rw [← hl0] at HP hpl ⊢
  obtain ⟨T,q,cap,h1,h2,h3,h4,h5⟩:=h.out
  have c1:w.cell? ⟨R,1,none⟩ = some (.slice q xs.length cap):=aa h1 1
  have HH:=Lib.hid h
  have H1:=Lib.hid h1
  have H2:=Lib.hid h2
  have H3:=Lib.hid h3
  have hB:=h.base
  clear hl0 h h1 h2 h3
  go_enter Tryz.func156,Tryz.ntmps156
  go_wp2_with fail
  go_region_law (first
    | (refine m9 (.tmp 9) 130 (by rfl) (by rfl) (by rfl) Tryz.func79 (by kernel_rfl) (by rfl) (HP.out _) ?_
       rintro e w1 ⟨g,cap0,rfl,hm,hb⟩
       refine ⟨_,rfl,?_⟩
       have hb':Below w.heap.size w w1:=⟨hb.os,hb.tape,hb.output,hb.size,hb.block⟩
       have d1:w1.cell? ⟨R,1,none⟩ = some (.slice q xs.length cap):=ae hb' c1
       have HM:=Lib.hid hm
       have HB1:=Lib.hid hb'
       clear hm hb hb')
    | (refine mX (B:=B) (xs:=xs) (l:=l0) (H3.out.on HB1.out) HM.out.at (by omega) (Nat.le_trans hB HB1.out.size) (.tmp 8) (.tmp 10) (by rfl) (by rfl) (by rfl) (by rfl) (by rfl) ?_
       intro q3 cap3 W ys HY hg3
       have hM:=HH.out.more H1.out H2.out h4 h5 H3.out (hg3.from HB1.out H3.out)
       have e1:W.cell? ⟨R,1,none⟩ = some (.slice q xs.length cap):=aa hM.1 1
       have f1:W.frozen? ⟨R,1,none⟩ = false:=ac hM.1 1
       have HM2:=Lib.hid hM.2
       clear hM hg3)
    | fail)
  all_goals
    go_end0
    rw [← HY.out]
    exact ⟨rfl,HM2.out⟩
section
variable {w:World} {B R:Nat} {most:Int} {xs:List UInt8} (h:Wtr w B R most xs) (hx:xs.length ≤ 90000000000000)
include h hx
theorem mN (k i:Int) (hi:i = 0 ∨ i = 1) (b:Nat) (t:ByteArray) (p:Option Addr) (n c:Nat):Calls Tryz.prog 128 #[.pointer (some ⟨R,0,none⟩),.agg #[.int .i64 k,.int .i64 i,.float .f64 b,.string t,.slice p n c]] w fun e w' => e = .returned (.tuple #[]) ∧ Wtr w' B R most (xs ++ [UInt8.ofNat i.toNat]) ∧ AsW R w w':=by
  obtain ⟨c0,hc0⟩:∃ c0,c0 = UInt8.ofNat i.toNat:=⟨_,rfl⟩
  have hkz:i = (c0.toNat:Int):=by rw [hc0,UInt8.toNat_ofNat'];omega
  have HKz:Hid (IntKind.u8.wrap i = (c0.toNat:Int)):=by
    show _ = _
    rw [← hkz]
    rcases hi with rfl | rfl <;> rfl
  rw [← hc0]
  obtain ⟨W0,hW0⟩:∃ W0,W0 = w.alloc (.cells #[.int .i64 k,.int .i64 i,.float .f64 b,.string t,.slice p n c] 44):=⟨_,rfl⟩
  have HB0:Hid (Below w.heap.size w W0):=by rw [hW0];exact (Below.refl _ _).alloc (Nat.le_refl _) _
  have hs0:W0.heap.size = w.heap.size + 1:=by rw [hW0];simp
  have d1:W0.cell? ⟨w.heap.size,1,none⟩ = some (.int .i64 i):=by rw [hW0];simp
  have HW0:=Lib.hid hW0
  have HH:=Lib.hid (h.on HB0.out)
  obtain ⟨T,q,cap,h1,h2,h3,h4,h5⟩:=HH.out.out
  have c1:W0.cell? ⟨R,1,none⟩ = some (.slice q xs.length cap):=aa h1 1
  have c1a:∀ o,(W0.alloc o).cell? ⟨R,1,none⟩ = some (.slice q xs.length cap):=fun o => ae ((Below.refl _ _).alloc (Nat.le_refl _) _) c1
  have H1:=Lib.hid h1
  have H2:=Lib.hid h2
  have H3:=Lib.hid h3
  have hB:=HH.out.base
  have hR:=h.lt
  clear h h1 h2 h3 hkz hc0 hi hW0
  go_enter Tryz.func128,Tryz.ntmps128
  go_wp2_with fail
  rw [← HW0.out]
  clear HW0
  go_region_law (first
    | (refine iJ (B:=B) (xs:=xs) (v:=.slice q xs.length cap) (w:=W0.drew) (H:=w.heap.size + 1) (by exact hs0) H3.out.drew c0 (by omega) hB (.tmp 8) (.tmp 12) HKz.out (by rfl) (by rfl) (by rfl) (by rfl) (by rfl) ?_
       intro q3 cap3 W ys HY hg3
       have hg3':bh W0 B (.slice q xs.length cap) W (.slice q3 ys.length cap3) ys:=⟨hg3.has,⟨hg3.aside.os,hg3.aside.tape,hg3.aside.output,hg3.aside.size,hg3.aside.block⟩,hg3.fresh⟩
       have hM:=HH.out.more H1.out H2.out h4 h5 H3.out hg3'
       have e1:W.cell? ⟨R,1,none⟩ = some (.slice q xs.length cap):=aa hM.1 1
       have f1:W.frozen? ⟨R,1,none⟩ = false:=ac hM.1 1
       have HM2:=Lib.hid hM.2
       clear hM hg3 hg3')
    | fail)
  all_goals
    go_end0
    rw [← HY.out]
    exact ⟨rfl,HM2.out.1,(AsW.new hR HB0.out).trans HM2.out.2⟩
end
end
section
open Go.RowKit
attribute [local go_sem] af
theorem mW {B:Nat} {v:Value} {xs:List UInt8} {t:ByteArray} {w:World} (hown:Has w B v xs) (hlen:xs.length + t.size ≤ 140737488355328) (hB:B ≤ w.heap.size)
  {ops:Array Oper} {o:Oper} {a:Act} {K:Act → World → Prop} {Q:Exit → Act → World → Prop} {E:Prop} (s x:Operand)
  (ht:o.type = 22) (hg:o.guard = none) (hop:o.op = Op.call { callee:=Callee.builtin Builtin.append,args:=#[s,x],argTypes:=#[22,9] })
  (hs:a.eval s = v) (hx:a.eval x = .string t)
  (hK:∀ q cap W ys,Hid (ys = xs ++ t.data.toList) → bh w B v W (.slice q ys.length cap) ys → K (a.put o.dst (.slice q ys.length cap)) W) :
  if Region.wanted o (yielded ops a.tmps) = true then Oper.wp Tryz.prog o a w K Q else E:=by
 have hw:Region.wanted o (yielded ops a.tmps) = true:=by simp [Region.wanted,hg]
 rw [if_pos hw]
 obtain ⟨q,cap,W,⟨hr⟩,hm,ha,hb3⟩:=lY B v xs t w hown hlen hB
 unfold Oper.wp
 have he:(execOp a.eval o).run Tryz.prog w = .ok (.value (.slice q (xs ++ t.data.toList).length cap)) W:=by
  simp only [execOp,hop,resolve,invoke,builtin]
  simp [hs,hx,ht,hr,Result.andThen]
 rw [he]
 exact hK q cap W (xs ++ t.data.toList) (Lib.hid rfl) ⟨hm,ha,hb3⟩
section
variable {w:World} {B R:Nat} {most:Int} {xs:List UInt8} (h:Wtr w B R most xs) (hx:xs.length ≤ 90000000000000)
include h hx
theorem oY (k i:Int) (hi:-9223372036854775808 ≤ i ∧ i ≤ 9223372036854775807) (b:Nat) (t:ByteArray) (p:Option Addr) (n c:Nat):Calls Tryz.prog 129 #[.pointer (some ⟨R,0,none⟩),.agg #[.int .i64 k,.int .i64 i,.float .f64 b,.string t,.slice p n c]] w fun e w' => e = .returned (.tuple #[]) ∧ Wtr w' B R most (xs ++ Leb.put (Leb.zig i)) ∧ AsW R w w':=by
 have hz:Leb.zig i < 18446744073709551616:=by unfold Leb.zig;split <;> omega
 have HZ:=Lib.hid (od i hi.1 hi.2)
 obtain ⟨W0,hW0⟩:∃ W0,W0 = w.alloc (.cells #[.int .i64 k,.int .i64 i,.float .f64 b,.string t,.slice p n c] 44):=⟨_,rfl⟩
 have HB0:Hid (Below w.heap.size w W0):=by rw [hW0];exact (Below.refl _ _).alloc (Nat.le_refl _) _
 have HN:=Lib.hid (kK (Leb.zig i) hz xs (by omega) B R most W0 (h.on HB0.out))
 obtain ⟨z,hzz⟩:∃ z,z = Leb.zig i:=⟨_,rfl⟩
 rw [← hzz] at HZ HN ⊢
 have HW0:=Lib.hid hW0
 have hR:=h.lt
 clear hi hz h hzz hW0
 go_enter Tryz.func129,Tryz.ntmps129
 go_wp2_with fail
 refine (HZ.out _).mono ?_
 rintro e w1 ⟨rfl,hw1⟩
 rw [hw1]
 clear hw1 w1
 go_wp2_with fail
 rw [← HW0.out]
 refine HN.out.mono ?_
 rintro e w2 ⟨rfl,h2,h3⟩
 have H2:=Lib.hid h2
 have H3:=Lib.hid h3
 clear h2 h3 HN
 go_wp2
 go_end0
 exact ⟨rfl,H2.out,(AsW.new hR HB0.out).trans H3.out⟩
theorem mM (k i:Int) (b:Nat) (t:ByteArray) (ht:t.size ≤ 1024) (p:Option Addr) (n c:Nat):Calls Tryz.prog 131 #[.pointer (some ⟨R,0,none⟩),.agg #[.int .i64 k,.int .i64 i,.float .f64 b,.string t,.slice p n c]] w fun e w' => e = .returned (.tuple #[]) ∧ Wtr w' B R most (xs ++ (Leb.put t.size ++ t.data.toList)) ∧ AsW R w w':=by
  obtain ⟨W0,hW0⟩:∃ W0,W0 = w.alloc (.cells #[.int .i64 k,.int .i64 i,.float .f64 b,.string t,.slice p n c] 44):=⟨_,rfl⟩
  have HB0:Hid (Below w.heap.size w W0):=by rw [hW0];exact (Below.refl _ _).alloc (Nat.le_refl _) _
  have hR:=h.lt
  have HHw:=Lib.hid h
  have d3:W0.cell? ⟨w.heap.size,3,none⟩ = some (.string t):=by rw [hW0];simp
  have hs0:W0.heap.size = w.heap.size + 1:=by rw [hW0];simp
  have HN:=Lib.hid (kK t.size (by omega) xs (by omega) B R most W0 (h.on HB0.out))
  have hpl:=Leb.put_length_le t.size
  obtain ⟨l0,hl0⟩:∃ z,z = Leb.put t.size:=⟨_,rfl⟩
  rw [← hl0] at HN hpl ⊢
  have hts:(t.size:Int) ≤ 1024:=by omega
  have HW0:=Lib.hid hW0
  clear h hl0 hW0
  go_enter Tryz.func131,Tryz.ntmps131
  go_wp2_with fail
  rw [← HW0.out]
  refine HN.out.mono ?_
  rintro e w2 ⟨rfl,hw2,ha2⟩
  have HH:=Lib.hid hw2
  have HA2:=Lib.hid ha2
  obtain ⟨T,q,cap,h1,h2,h3,h4,h5⟩:=hw2.out
  have c1:w2.cell? ⟨R,1,none⟩ = some (.slice q (xs ++ l0).length cap):=aa h1 1
  have e3:w2.cell? ⟨w.heap.size,3,none⟩ = some (.string t):=by
    rw [World.cell?_of_block (w:=W0) (ha2.far HHw.out HB0.out (Nat.le_refl _) (by show w.heap.size < _;omega))]
    exact d3
  have H1:=Lib.hid h1
  have H2:=Lib.hid h2
  have H3:=Lib.hid h3
  have hB:=hw2.base
  obtain ⟨ys0,hys0⟩:∃ ys0,ys0 = xs ++ l0:=⟨_,rfl⟩
  have hyl:ys0.length ≤ xs.length + 10:=by rw [hys0,List.length_append];omega
  have HY0:Hid (xs ++ (l0 ++ t.data.toList) = ys0 ++ t.data.toList):=by show _ = _;rw [hys0,List.append_assoc]
  rw [← hys0] at c1 H1 H3 HH
  clear hw2 ha2 h1 h2 h3 HN d3 HHw hys0
  go_wp2_with fail
  go_region_law (first
    | (refine mW (B:=B) (xs:=ys0) (t:=t) (v:=.slice q ys0.length cap) (w:=w2.drew) H3.out.drew (by omega) hB (.tmp 14) (.tmp 16) (by rfl) (by rfl) (by rfl) (by rfl) (by rfl) ?_
       intro q3 cap3 W ys HY hg3
       have hg3':bh w2 B (.slice q ys0.length cap) W (.slice q3 ys.length cap3) ys:=⟨hg3.has,⟨hg3.aside.os,hg3.aside.tape,hg3.aside.output,hg3.aside.size,hg3.aside.block⟩,hg3.fresh⟩
       have hM:=HH.out.more H1.out H2.out h4 h5 H3.out hg3'
       have e1:W.cell? ⟨R,1,none⟩ = some (.slice q ys0.length cap):=aa hM.1 1
       have f1:W.frozen? ⟨R,1,none⟩ = false:=ac hM.1 1
       have HM2:=Lib.hid hM.2
       clear hM hg3 hg3')
    | fail)
  all_goals
    go_end0
    rw [HY0.out,← HY.out]
    exact ⟨rfl,HM2.out.1,((AsW.new hR HB0.out).trans HA2.out).trans HM2.out.2⟩
theorem lv (k i:Int) (b:Nat) (hb64:b < 18446744073709551616) (t:ByteArray) (p:Option Addr) (n c:Nat):Calls Tryz.prog 130 #[.pointer (some ⟨R,0,none⟩),.agg #[.int .i64 k,.int .i64 i,.float .f64 b,.string t,.slice p n c]] w fun e w' => e = .returned (.tuple #[]) ∧ Wtr w' B R most (xs ++ Sch.le 8 (av b)) ∧ AsW R w w':=by
  obtain ⟨W0,hW0⟩:∃ W0,W0 = w.alloc (.cells #[.int .i64 k,.int .i64 i,.float .f64 b,.string t,.slice p n c] 44):=⟨_,rfl⟩
  have HB0:Hid (Below w.heap.size w W0):=by rw [hW0];exact (Below.refl _ _).alloc (Nat.le_refl _) _
  have hf:=Sch.fixB_lt hb64
  have HBits:=Lib.hid (cG b)
  generalize av b = m at *
  have HS:Hid (kp m [] m):=⟨by simp,hf,rfl⟩
  have HH0:=Lib.hid (h.on HB0.out)
  have hR:=h.lt
  have HW0:=Lib.hid hW0
  clear hf hb64 h hW0
  go_enter Tryz.func130,Tryz.ntmps130
  go_wp2_with fail
  refine (HBits.out _).mono ?_
  rintro e w1 ⟨rfl,hw1⟩
  rw [hw1]
  clear hw1 w1
  go_wp2_with fail
  rw [← HW0.out]
  clear HW0
  go_loopw [4,8] (fun v4 v8 wr => ∃ (n:Nat) (es:List UInt8),v4 = .int .u64 n ∧ v8 = .int .i64 es.length ∧ es.length ≤ 8 ∧ n < 18446744073709551616 ∧ Hid (kp m es n ∧ Wtr wr B R most (xs ++ es) ∧ AsW R W0 wr)) (fun _ v8 _ => 8 - (intOf v8).toNat)
  case atStart => exact ⟨m,[],rfl,rfl,by simp,HS.out.2.1,HS.out,by rw [List.append_nil];exact HH0.out,AsW.new HH0.out.lt (Below.refl _ _)⟩
  case round =>
    obtain ⟨z,es,rfl,rfl,h8,hz,HK⟩:=hrel
    obtain ⟨ys0,hys0⟩:∃ ys0,ys0 = xs ++ es:=⟨_,rfl⟩
    have hyl:ys0.length = xs.length + es.length:=by rw [hys0,List.length_append]
    have HY0:=Lib.hid hys0
    have HH:=Lib.hid HK.out.2.1
    have HA:=Lib.hid HK.out.2.2
    rw [← hys0] at HH
    clear hys0
    by_cases hlt:es.length < 8
    · have hlt':(es.length:Int) < 8:=by omega
      have HN:=Lib.hid (jg HK.out.1 hlt)
      have hcn:(UInt8.ofNat (z % 256)).toNat = z % 256:=by rw [UInt8.toNat_ofNat'];omega
      generalize UInt8.ofNat (z % 256) = c1 at hcn HN
      obtain ⟨T,q,cap,h1,h2,h3,h4,h5⟩:=HH.out.out
      have r1:wr.cell? ⟨R,1,none⟩ = some (.slice q ys0.length cap):=aa h1 1
      have H1:=Lib.hid h1
      have H2:=Lib.hid h2
      have H3:=Lib.hid h3
      have hB:=HH.out.base
      have HZ:Hid ((z:Int) % 256 = (c1.toNat:Int)):=by
        show _ = _
        omega
      have HYl:=Lib.hid hyl
      clear HK h1 h2 h3 hcn hyl
      go_wp2_with (first
        | (at_builtin;refine fO (B:=B) (xs:=ys0) (v:=.slice q ys0.length cap) (w:=wr) rfl H3.out c1 (by have:=HYl.out;omega) hB HZ.out rfl rfl rfl rfl rfl ?_
           intro q3 cap3 W ys HY hg3
           have hM:=HH.out.more H1.out H2.out h4 h5 H3.out hg3
           have e1:W.cell? ⟨R,1,none⟩ = some (.slice q ys0.length cap):=aa hM.1 1
           have f1:W.frozen? ⟨R,1,none⟩ = false:=ac hM.1 1
           have HM2:=Lib.hid hM.2
           clear hM hg3))
      go_roundw
      case rel => exact ⟨z / 256,es ++ [c1],by go_num,by simp,by simp;omega,by omega,HN.out,by rw [← List.append_assoc,← HY0.out,← HY.out];exact HM2.out.1,HA.out.trans HM2.out.2⟩
      case measure => simp [intOf];omega
    · have hjn:¬ (es.length:Int) < 8:=by omega
      have he:Sch.le 8 m = es:=by
        rw [HK.out.1.2.2,show 8 - es.length = 0 by omega]
        simp [Sch.le]
      have HE:Hid (xs ++ Sch.le 8 m = ys0):=by show _ = _;rw [he,HY0.out]
      clear HK he
      go_wp2
      go_end0
      rw [HE.out]
      exact ⟨rfl,HH.out,(AsW.new hR HB0.out).trans HA.out⟩
end
end
section
open Go.RowKit
attribute [local go_sem] af
def vG (x:V):Prop:=∀ (w0 w:World) (u:Array Value) (B R:Nat) (most:Int) (xs:List UInt8),aB w0 u x → Below w0.heap.size w0 w → w0.heap.size ≤ R → Wtr w B R most xs → xs.length + (Sch.vB x).length ≤ 80000000000000 → Calls Tryz.prog 92 #[.pointer (some ⟨R,0,none⟩),.agg u] w (WrA w B R most xs (Sch.vB x))
section
variable {w:World} {B R:Nat} {most:Int} {xs:List UInt8} (h:Wtr w B R most xs)
include h
theorem lu (k i:Int) (b:Nat) (t:ByteArray) (items:List V) (hn:items.length ≤ 256) (ih:∀ x ∈ items,vG x) (p:Option Addr) (c:Nat) (w0:World) (hx:cM w0 p items) (hb0:Below w0.heap.size w0 w) (hr0:w0.heap.size ≤ R) (hlen:xs.length + (Leb.put items.length ++ (items.map Sch.vB).flatten).length ≤ 80000000000000) :
  Calls Tryz.prog 132 #[.pointer (some ⟨R,0,none⟩),.agg #[.int .i64 k,.int .i64 i,.float .f64 b,.string t,.slice p items.length c]] w (WrA w B R most xs (Leb.put items.length ++ (items.map Sch.vB).flatten)):=by
 obtain ⟨W0,hW0⟩:∃ W0,W0 = w.alloc (.cells #[.int .i64 k,.int .i64 i,.float .f64 b,.string t,.slice p items.length c] 44):=⟨_,rfl⟩
 have HB0:Hid (Below w.heap.size w W0):=by rw [hW0];exact (Below.refl _ _).alloc (Nat.le_refl _) _
 have hR:=h.lt
 have HHw:=Lib.hid h
 have HBw:=Lib.hid hb0
 have hlen':xs.length + ((Leb.put items.length).length + (items.map Sch.vB).flatten.length) ≤ 80000000000000:=by rw [← List.length_append];exact hlen
 have d4:W0.cell? ⟨w.heap.size,4,none⟩ = some (.slice p items.length c):=by rw [hW0];simp
 have hs0:W0.heap.size = w.heap.size + 1:=by rw [hW0];simp
 have HN:=Lib.hid (kK items.length (by omega) xs (by omega) B R most W0 (h.on HB0.out))
 have hpl:=Leb.put_length_le items.length
 obtain ⟨l0,hl0⟩:∃ z,z = Leb.put items.length:=⟨_,rfl⟩
 rw [← hl0] at HN hpl hlen' ⊢
 have hts:(items.length:Int) ≤ 256:=by omega
 have HW0:=Lib.hid hW0
 have HX:=Lib.hid hx
 have HIH:=Lib.hid ih
 clear h hl0 hW0 hlen hb0 hx ih
 go_enter Tryz.func132,Tryz.ntmps132
 go_wp2_with fail
 rw [← HW0.out]
 refine HN.out.mono ?_
 rintro e w2 ⟨rfl,hw2,ha2⟩
 have HH:=Lib.hid hw2
 have HA2:=Lib.hid ha2
 have e4:w2.cell? ⟨w.heap.size,4,none⟩ = some (.slice p items.length c):=by
  rw [World.cell?_of_block (w:=W0) (ha2.far HHw.out HB0.out (Nat.le_refl _) (by show w.heap.size < _;omega))]
  exact d4
 have HA0:Hid (AsW R w w2):=(AsW.new hR HB0.out).trans ha2
 have HZ0:Hid (gO most xs (l0 ++ ((items.take 0).map Sch.vB).flatten) (xs ++ l0)):=by
  show gO _ _ _ _
  rw [List.take_zero,List.map_nil,List.flatten_nil,List.append_nil]
  exact gO.all
 clear hw2 ha2 HN d4
 go_wp2_with fail
 clear e4
 go_loopw [15] (fun v15 wr => ∃ (j:Nat) (zs:List UInt8),j ≤ items.length ∧ v15 = .int .i64 j ∧ zs.length ≤ 80000000000000 ∧ Hid (gO most xs (l0 ++ ((items.take j).map Sch.vB).flatten) zs ∧ Wtr wr B R most zs ∧ AsW R w wr)) (fun v15 _ => items.length - (intOf v15).toNat)
 case atStart => exact ⟨0,xs ++ l0,by omega,rfl,by rw [List.length_append];omega,HZ0.out,HH.out,HA0.out⟩
 case round =>
  obtain ⟨j,zs,hj,rfl,hzl,HL⟩:=hrel
  have hbr:Below w0.heap.size w0 wr:=HBw.out.trans (HL.out.2.2.below HHw.out hr0)
  by_cases hlt:j < items.length
  ·obtain ⟨ux,hvx,hix⟩:=HX.out j hlt
   obtain ⟨bx,ox,kx,ix,fx,tx,qx,nx,cx,rfl,_,rfl,a0,a1,a2,a3,a4⟩:=(hix.on hbr).lies
   have hj1:(j:Int) < (items.length:Int):=by omega
   obtain ⟨wa,hwa⟩:∃ wa,wa = wr.alloc (.cells #[.int .i64 kx,.int .i64 ix,.float .f64 fx,.string tx,.slice qx nx cx] 44):=⟨_,rfl⟩
   have HBa:Hid (Below wr.heap.size wr wa):=by rw [hwa];exact (Below.refl _ _).alloc (Nat.le_refl _) _
   have HAs:Hid (wa.cell? ⟨wr.heap.size,0,none⟩ = some (.int .i64 kx) ∧ wa.cell? ⟨wr.heap.size,1,none⟩ = some (.int .i64 ix) ∧ wa.cell? ⟨wr.heap.size,2,none⟩ = some (.float .f64 fx) ∧ wa.cell? ⟨wr.heap.size,3,none⟩ = some (.string tx) ∧ wa.cell? ⟨wr.heap.size,4,none⟩ = some (.slice qx nx cx)):=by rw [hwa];exact ⟨by simp,by simp,by simp,by simp,by simp⟩
   have HWr:=Lib.hid (HL.out.2.1.on HBa.out)
   have HAa:Hid (AsW R w wa):=HL.out.2.2.trans (AsW.new HL.out.2.1.lt HBa.out)
   obtain ⟨T,q,cap,h1,-,-,-,-⟩:=HWr.out.out
   have r1:wa.cell? ⟨R,1,none⟩ = some (.slice q zs.length cap):=aa h1 1
   have r2:wa.cell? ⟨R,2,none⟩ = some (.int .i64 most):=aa h1 2
   have HWa:=Lib.hid hwa
   have HTk:=Lib.hid (Sch.flatten_take Sch.vB items j hlt)
   have HTl:=Lib.hid (Sch.flatten_take_le Sch.vB items j)
   have HTl1:=Lib.hid (Sch.flatten_take_le Sch.vB items (j + 1))
   by_cases hbig:most < zs.length
   ·have gb:most < (zs.length:Int):=hbig
    have HPv:Hid (gO most xs (l0 ++ (items.map Sch.vB).flatten) zs):=by
     have h0:=HTl.out
     have hp:=HL.out.1
     have hpl:=hp.len
     rw [List.length_append] at hpl
     refine ⟨.inr ⟨hbig,?_⟩,by rw [List.length_append];omega⟩
     have:zs.length ≤ (xs ++ (l0 ++ (items.map Sch.vB).flatten)).length:=by rw [List.length_append,List.length_append];omega
     omega
    clear hvx hix hbr HL hwa HAs hbig h1 HTk HTl HTl1
    go_wp2_with fail
    rw [← HWa.out]
    go_region_law (fail)
    all_goals
     go_wp2
     go_end0
     exact ⟨zs,HPv.out,rfl,HWr.out.drew,HAa.out.trans (AsW.new HWr.out.lt (Below.refl _ _).drew)⟩
   ·have gb:¬ most < (zs.length:Int):=hbig
    have HZ:Hid (zs = xs ++ (l0 ++ ((items.take j).map Sch.vB).flatten)):=by
     rcases HL.out.1.eq with h2 | h2
     ·exact h2
     ·exact absurd h2.1 hbig
    have hzb:zs.length + (Sch.vB items[j]).length ≤ 80000000000000:=by
     have h1:=HTl1.out
     rw [HTk.out,List.length_append] at h1
     rw [HZ.out,List.length_append,List.length_append]
     omega
    have HC:=Lib.hid (HIH.out _ (List.getElem_mem hlt) w0 wa.drew _ B R most zs hvx (hbr.trans (HBa.out.drew.mono hbr.size)) hr0 HWr.out.drew hzb)
    unfold cells5 at HC
    obtain ⟨full,hfull⟩:∃ l,l = Sch.vB items[j]:=⟨_,rfl⟩
    rw [← hfull] at HC HTk hzb
    obtain ⟨s0,s1,s2,s3,s4⟩:=HAs.out
    clear hvx hix hbr HL hwa hbig hfull h1 HTl HAs
    go_wp2_with fail
    rw [← HWa.out]
    clear HWa a0 a1 a2 a3 a4
    go_region_law (fail)
    all_goals
     go_wp2_with fail
     refine HC.out.mono ?_
     rintro e w3 ⟨ys2,hpv,rfl,hw3,ha3⟩
     have HN2:Hid (gO most xs (l0 ++ ((items.take (j + 1)).map Sch.vB).flatten) ys2 ∧ Wtr w3 B R most ys2 ∧ AsW R w w3):=by
      refine ⟨?_,hw3,(HAa.out.trans (AsW.new HWr.out.lt (Below.refl _ _).drew)).trans ha3⟩
      have e1:xs ++ (l0 ++ ((items.take (j + 1)).map Sch.vB).flatten) = zs ++ full:=by rw [HTk.out,HZ.out];simp
      refine ⟨by rw [e1];exact hpv.eq,?_⟩
      have h5:=congrArg List.length e1
      have h6:(zs ++ full).length = zs.length + full.length:=List.length_append
      have h7:(xs ++ (l0 ++ ((items.take (j + 1)).map Sch.vB).flatten)).length = xs.length + (l0 ++ ((items.take (j + 1)).map Sch.vB).flatten).length:=List.length_append
      have h8:=hpv.len
      omega
     have hys:ys2.length ≤ 80000000000000:=by have:=hpv.len;omega
     clear hpv hw3 ha3 HC HTk HZ s0 s1 s2 s3 s4
     go_wp2
     go_roundw
     case rel => exact ⟨j + 1,ys2,by omega,by go_num,hys,HN2.out⟩
     case measure => simp [intOf];omega
  ·have hjn:¬ (j:Int) < (items.length:Int):=by omega
   have HPv:Hid (gO most xs (l0 ++ (items.map Sch.vB).flatten) zs):=by
    have h1:=HL.out.1
    rw [List.take_of_length_le (by omega)] at h1
    exact h1
   have HW:=Lib.hid HL.out.2.1
   have HA:=Lib.hid HL.out.2.2
   clear HL hbr
   go_wp2
   go_end0
   exact ⟨zs,HPv.out,rfl,HW.out,HA.out⟩
end
end
section
open Go.RowKit
attribute [local go_sem] af
theorem cN (k:Nat) (f:FuncId) (hk:k < 8) (hf:iF[k]? = some (.func (.func f) #[] #[])) (i:Int) (b:Nat) (t:ByteArray) (p:Option Addr) (n c:Nat) {w:World} {B R:Nat} {most:Int} {xs full:List UInt8} (h:Wtr w B R most xs)
    (hE:∀ (args:Array Value) (w:World),(callFunc f args).run Tryz.prog w = .ok (.enter f args) w)
    (hc:∀ w',Below w.heap.size w w' → Wtr w' B R most xs → Calls Tryz.prog f #[.pointer (some ⟨R,0,none⟩),.agg #[.int .i64 k,.int .i64 i,.float .f64 b,.string t,.slice p n c]] w' (WrA w' B R most xs full)) :
    Calls Tryz.prog 92 #[.pointer (some ⟨R,0,none⟩),.agg #[.int .i64 k,.int .i64 i,.float .f64 b,.string t,.slice p n c]] w (WrA w B R most xs full):=by
  obtain ⟨W0,hW0⟩:∃ W0,W0 = w.alloc (.cells #[.int .i64 k,.int .i64 i,.float .f64 b,.string t,.slice p n c] 44):=⟨_,rfl⟩
  have HB0:Hid (Below w.heap.size w W0):=by rw [hW0];exact (Below.refl _ _).alloc (Nat.le_refl _) _
  have hR:=h.lt
  have d0:W0.cell? ⟨w.heap.size,0,none⟩ = some (.int .i64 k):=by rw [hW0];simp
  have d1:W0.cell? ⟨w.heap.size,1,none⟩ = some (.int .i64 i):=by rw [hW0];simp
  have d2:W0.cell? ⟨w.heap.size,2,none⟩ = some (.float .f64 b):=by rw [hW0];simp
  have d3:W0.cell? ⟨w.heap.size,3,none⟩ = some (.string t):=by rw [hW0];simp
  have d4:W0.cell? ⟨w.heap.size,4,none⟩ = some (.slice p n c):=by rw [hW0];simp
  have HH0:=Lib.hid (h.on HB0.out)
  obtain ⟨T,q,cap,h1,h2,-,-,-⟩:=HH0.out.out
  have c0:W0.cell? ⟨R,0,none⟩ = some (.slice (some ⟨T,0,none⟩) 8 8):=aa h1 0
  have ck:W0.cell? ⟨T,k,none⟩ = some (.func (.func f) #[] #[]):=(aa h2 k).trans hf
  have hki:(k:Int) < 8:=by omega
  have HW0:=Lib.hid hW0
  have HC:=Lib.hid hc
  have HE:=Lib.hid hE
  clear h hW0 hc hE h1 h2 hf
  go_enter Tryz.func92,Tryz.ntmps92
  go_wp2_with fail
  rw [← HW0.out]
  clear HW0
  go_region_law (first
    | (refine gT (.tmp 11) (.tmp 12) (.tmp 13) 207 44 (by rfl) (by rfl) (by rfl) (by rfl) (by rfl) HE.out (HC.out _ HB0.out.drew HH0.out.drew) ?_
       rintro e w1 ⟨ys,hpv,rfl,hw1,ha1⟩
       refine ⟨_,rfl,?_⟩
       have HP:=Lib.hid hpv
       have HW1:=Lib.hid hw1
       have HA1:=Lib.hid ha1
       clear hpv hw1 ha1)
    | fail)
  all_goals
    go_end0
    exact ⟨ys,HP.out,rfl,HW1.out,(AsW.new hR HB0.out.drew).trans HA1.out⟩
theorem uM:∀ (x:V) (d:Nat),chk d x = 0 → x.wf → vG x:=by
 intro x
 refine V.ind (P:=fun x => ∀ (d:Nat),chk d x = 0 → x.wf → vG x) ?_ x
 rintro k i b t items ih d hc hwf w0 w u B R most xs hx hb0 hr0 hW hlen
 obtain ⟨p,c,rfl,hxl,hxc,hxi⟩:=hx.open
 obtain ⟨wk,wi,wb,wt,wx⟩:=V.wf_mk.1 hwf
 obtain ⟨hd4,ho,ht,hn,-,hcx⟩:=Sch.chk_open hc
 obtain ⟨hk,-,-,-,o5,o6,o7⟩:=Sch.own_open ho
 unfold cells5
 have all:∀ {w:World} {full:List UInt8} {e:Ending} {w':World},(e = .returned (.tuple #[]) ∧ Wtr w' B R most (xs ++ full) ∧ AsW R w w') → WrA w B R most xs full e w':=fun h => ⟨_,gO.all,h.1,h.2.1,h.2.2⟩
 have hcase:k = 1 ∨ k = 2 ∨ k = 3 ∨ k = 4 ∨ k = 5 ∨ k = 6 ∨ k = 7:=by omega
 have h45:∀ f:FuncId,f = 131 → k = 4 ∨ k = 5 → ∀ w,Wtr w B R most xs → Calls Tryz.prog f #[.pointer (some ⟨R,0,none⟩),.agg #[.int .i64 k,.int .i64 i,.float .f64 b,.string t,.slice p items.length c]] w (WrA w B R most xs (Sch.vB (.mk k i b t items))):=by
  rintro f rfl h w hw
  have e:Sch.vB (.mk k i b t items) = Leb.put t.size ++ t.data.toList:=by rw [Sch.vB_mk,Sch.vH,if_neg (by omega),if_neg (by omega),if_neg (by omega),if_pos h,if_pos (by omega),List.append_nil]
  rw [e]
  exact (mM hw (by omega) k i b t ht p items.length c).mono fun _ _ h => all h
 have h67:∀ f:FuncId,f = 132 → k = 6 ∨ k = 7 → ∀ w,Below w0.heap.size w0 w → Wtr w B R most xs → Calls Tryz.prog f #[.pointer (some ⟨R,0,none⟩),.agg #[.int .i64 k,.int .i64 i,.float .f64 b,.string t,.slice p items.length c]] w (WrA w B R most xs (Sch.vB (.mk k i b t items))):=by
  rintro f rfl h w hb hw
  have e:Sch.vB (.mk k i b t items) = Leb.put items.length ++ (items.map Sch.vB).flatten:=by
   rw [Sch.vB_mk,Sch.vH,if_neg (by omega),if_neg (by omega),if_neg (by omega),if_neg (by omega),if_neg (c:=k = 1 ∨ k = 2 ∨ k = 3 ∨ k = 4 ∨ k = 5) (by omega)]
   congr 1
   rcases h with h | h
   ·rw [if_pos h]
    have h2:=o7 h
    have h3:items.length = 0 ∨ items.length = 1:=by omega
    rcases h3 with h3 | h3
    ·rw [h3,ul];rfl
    ·rw [h3,uj];rfl
   ·rw [if_neg (by omega),if_pos h]
  rw [e] at hlen ⊢
  exact lu hw k i b t items hn (fun y hy => ih y hy (d + 1) (hcx y hy) (wx y hy)) p c w0 hxi hb hr0 hlen
 rcases hcase with h | h | h | h | h | h | h
 ·have e:Sch.vB (.mk k i b t items) = [UInt8.ofNat i.toNat]:=by rw [Sch.vB_mk,Sch.vH,if_pos h,if_pos (.inl h),List.append_nil]
  rw [e]
  subst h
  exact cN 1 128 (by omega) rfl i b t p items.length c hW (enters Tryz.func128 (by kernel_rfl) rfl) (fun w' _ hw => (mN hw (by omega) 1 i (o6 rfl) b t p items.length c).mono fun _ _ h => all h)
 ·have e:Sch.vB (.mk k i b t items) = Leb.put (Leb.zig i):=by rw [Sch.vB_mk,Sch.vH,if_neg (by omega),if_pos h,if_pos (.inr (.inl h)),List.append_nil]
  rw [e]
  subst h
  exact cN 2 129 (by omega) rfl i b t p items.length c hW (enters Tryz.func129 (by kernel_rfl) rfl) (fun w' _ hw => (oY hw (by omega) 2 i wi b t p items.length c).mono fun _ _ h => all h)
 ·have e:Sch.vB (.mk k i b t items) = Sch.le 8 (av b):=by rw [Sch.vB_mk,Sch.vH,if_neg (by omega),if_neg (by omega),if_pos h,if_pos (.inr (.inr (.inl h))),List.append_nil]
  rw [e]
  subst h
  exact cN 3 130 (by omega) rfl i b t p items.length c hW (enters Tryz.func130 (by kernel_rfl) rfl) (fun w' _ hw => (lv hw (by omega) 3 i b wb t p items.length c).mono fun _ _ h => all h)
 ·have h':=h45 _ rfl (.inl h)
  subst h
  exact cN 4 131 (by omega) rfl i b t p items.length c hW (enters Tryz.func131 (by kernel_rfl) rfl) (fun w' _ hw => h' w' hw)
 ·have h':=h45 _ rfl (.inr h)
  subst h
  exact cN 5 131 (by omega) rfl i b t p items.length c hW (enters Tryz.func131 (by kernel_rfl) rfl) (fun w' _ hw => h' w' hw)
 ·have h':=h67 _ rfl (.inl h)
  subst h
  exact cN 6 132 (by omega) rfl i b t p items.length c hW (enters Tryz.func132 (by kernel_rfl) rfl) (fun w' hb hw => h' w' (hb0.trans (hb.mono hb0.size)) hw)
 ·have h':=h67 _ rfl (.inr h)
  subst h
  exact cN 7 132 (by omega) rfl i b t p items.length c hW (enters Tryz.func132 (by kernel_rfl) rfl) (fun w' hb hw => h' w' (hb0.trans (hb.mono hb0.size)) hw)
end
end Go.Proofs.YtjpgbaiabmiifaaGreatDoor
