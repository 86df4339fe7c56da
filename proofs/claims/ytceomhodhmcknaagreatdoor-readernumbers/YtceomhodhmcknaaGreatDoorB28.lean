import Derived.Test.YtceomhodhmcknaaGreatDoorB16
import Derived.Test.YtceomhodhmcknaaGreatDoorB15
set_option maxRecDepth 100000
set_option maxHeartbeats 1000000
namespace Go.Proofs.YtceomhodhmcknaaGreatDoor
variable{B R:Nat}{w w' w1:World}{l xs:L8}{u v:Value}{most:Int}{a:Act}{ops:Array Oper}{o:Oper}{f:FuncId}
section
open Go.RowKit
theorem mD{p:OA}{c:Nat}(hown:Has w B v xs)(h:At w p l)(hlen:xs.length+l.length<=140737488355328)(hB:B<=w.1.size){ops:Array Oper}{o:Oper}{a:Act}{K:Act->World->Prop}{Q:Exit->Act->World->Prop}{E:Prop}(s x:Operand)(ht:o.type=22)(hg:o.guard=none)(hop:o.op=Op.call { callee:=Callee.builtin Builtin.append,args:=#[s,x],argTypes:=#[22,22] })(hs:a.eval s=v)(hx:a.eval x=.slice p l.length c)(hK:∀q cap W ys,Hid (ys=xs++l)->bJ w B v W (.slice q ys.length cap) ys->K (a.put o.dst (.slice q ys.length cap)) W):
  if Region.wanted o (yielded ops a.tmps)=true then Oper.wp Tryz.prog o a w K Q else E:=by
 have hw:Region.wanted o (yielded ops a.tmps)=true:=by simp[Region.wanted,hg]
 rw[if_pos hw]
 obtain⟨q,cap,W,⟨hr⟩,hm,ha,-,hb3⟩:=dG B v xs l p c w hown h hlen hB
 unfold Oper.wp
 have he:(execOp a.eval o).run Tryz.prog w=.ok (.value (.slice q (xs++l).length cap)) W:=by
  simp only[execOp,hop,resolve,invoke,builtin]
  simp[hs,hx,ht,hr,Result.andThen]
 rw[he]
 exact hK q cap W (xs++l) (xQ rfl) ⟨hm,ha,hb3⟩
theorem gy{K:Act->World->Prop}{Q:Exit->Act->World->Prop}{E:Prop}{R:Ending->World->Prop}(y x x':Operand)(t t':TypeId)(hg:o.guard=none)(hop:o.op=Op.call { callee:=.value y,args:=#[x,x'],argTypes:=#[t,t'] })(hy:a.eval y=.func (.func f) #[] #[])(hx:a.eval x=u)(hx':a.eval x'=v)(hE:∀(args:AV) (w:World),(callFunc f args).run Tryz.prog w=.ok (.enter f args) w)(hc:Calls Tryz.prog f #[u,v] w R)(hR:∀e w',R e w'->∃v,e=.returned v∧K (a.put o.dst v) w'):
  if Region.wanted o (yielded ops a.tmps)=true then Oper.wp Tryz.prog o a w K Q else E:=by
 have hw:Region.wanted o (yielded ops a.tmps)=true:=by simp[Region.wanted,hg]
 rw[if_pos hw]
 unfold Oper.wp
 have he:(execOp a.eval o).run Tryz.prog w=.ok (.enter f #[u,v]) w:=by
  simp[execOp,hop,resolve,invoke,hx,hx',hy,Deferred.ofValue,hE]
 rw[he,Oper.upon_enter]
 refine hc.mono ?_
 intro e w' hr
 obtain⟨v,rfl,hk⟩:=hR e w' hr
 exact hk
theorem jP{K:Act->World->Prop}{Q:Exit->Act->World->Prop}{E:Prop}{R:Ending->World->Prop}(y x x':Operand)(t t':TypeId)(hg:o.guard=none)(hop:o.op=Op.call { callee:=.value y,args:=#[x,x'],argTypes:=#[t,t'] })(hy:a.eval y=.func (.func f) #[] #[])(hx:a.eval x=u)(hx':a.eval x'=v)(hE:∀(args:AV) (w:World),(callFunc f args).run Tryz.prog w=.ok (.enter f args) w)(hc:Calls Tryz.prog f #[u,v] w R)(hR:∀e w',R e w'->∃ch,e=.panicked ch∧Q (.panic ch) a w')(v':Value)(_:Hid False->K (a.put o.dst v') w):
  if Region.wanted o (yielded ops a.tmps)=true then Oper.wp Tryz.prog o a w K Q else E:=by
 have hw:Region.wanted o (yielded ops a.tmps)=true:=by simp[Region.wanted,hg]
 rw[if_pos hw]
 unfold Oper.wp
 have he:(execOp a.eval o).run Tryz.prog w=.ok (.enter f #[u,v]) w:=by
  simp[execOp,hop,resolve,invoke,hx,hx',hy,Deferred.ofValue,hE]
 rw[he,Oper.upon_enter]
 refine hc.mono ?_
 intro e w' hr
 obtain⟨v,rfl,hk⟩:=hR e w' hr
 exact hk
theorem enters{fn:Func}{code:Code}(hf : Tryz.prog.funcs[f]?=some fn)(hname : (fn.name== "runtime.NumGoroutine")=false)(hb : fn.body=some code)(args : AV)(w : World): (callFunc f args).run Tryz.prog w=.ok (.enter f args) w := by
 have h1 : fn.name≠ "runtime.NumGoroutine" := by simpa using hname
 simp[callFunc,hf,h1,hb]
def ie:AV:=#[.nilFunc,.func (.func 123) #[] #[],.func (.func 124) #[] #[],.func (.func 125) #[] #[],.func (.func 126) #[] #[],.func (.func 126) #[] #[],.func (.func 127) #[] #[],.func (.func 127) #[] #[]]
structure Wtr(w:World)(B R:Nat)(most:Int)(l:L8):Prop where
 out:∃T q cap,w.1[R]?=some (.cells #[.slice (some ⟨T,0,none⟩) 8 8,.slice q l.length cap,.int .i64 most] 187 (0,0))∧w.1[T]?=some (.cells ie 214 (0,0))∧Has w B (.slice q l.length cap) l∧T≠R∧T<B
 low:R<B
 base:B<=w.1.size
theorem Wtr.on(h:Wtr w B R most l)(hb:Below w.1.size w w'):Wtr w' B R most l:=by
 obtain⟨T,q,cap,h1,h2,h3,h4,h5⟩:=h.out
 exact⟨⟨T,q,cap,by rw[hb.block R (ao h1)];exact h1,by rw[hb.block T (ao h2)];exact h2,h3.on hb,h4,h5⟩,h.low,Nat.le_trans h.base hb.size⟩
theorem Wtr.lt(h:Wtr w B R most l):R<w.1.size:=Nat.lt_of_lt_of_le h.low h.base
def lH(w:World)(R k:Nat):Prop:=∃t v m,w.1[R]?=some (.cells #[t,v,m] 187 (0,0))∧v.ownBlock=some k
theorem js(h:w'.1[R]?=w.1[R]?)(k:Nat):lH w' R k↔lH w R k:=by unfold lH;rw[h]
theorem ov{k:Nat}{t m:Value}(h:w.1[R]?=some (.cells #[t,v,m] 187 (0,0)))(ho:lH w R k):v.ownBlock=some k:=by
 obtain⟨t',v',m',h1,h2⟩:=ho
 rw[h] at h1
 injection h1 with h1
 injection h1 with h1
 simp only[Array.mk.injEq,List.cons.injEq,and_true] at h1
 rw[h1.2.1]
 exact h2
theorem Wtr.owns(h:Wtr w B R most l){k:Nat}(ho:lH w R k):B<=k∧k<w.1.size:=by
 obtain⟨T,q,cap,h1,h2,h3,h4,h5⟩:=h.out
 exact h3.lt k (ov h1 ho)
structure AsW(R:Nat)(w w':World):Prop where
 aside:Aside (fun k=>k=R∨lH w R k) w w'
 fresh:∀k,lH w' R k->lH w R k∨w.1.size<=k
theorem AsW.trans{w2:World}(h:AsW R w w1)(k:AsW R w1 w2):AsW R w w2:=by
 have hs:=h.aside.size
 refine⟨h.aside.trans k.aside (fun i hi hc=>?_),fun i hi=>?_⟩
 ·rcases hc with h1 | h1
  ·exact .inl h1
  ·rcases h.fresh i h1 with h2 | h2
   ·exact .inr h2
   ·omega
 ·rcases k.fresh i hi with h1 | h1
  ·exact h.fresh i h1
  ·exact .inr (by omega)
theorem AsW.new(hR:R<w.1.size)(h:Below w.1.size w w1):AsW R w w1:=⟨ag h _,fun k hk=>.inl ((js (h.block R hR) k).1 hk)⟩
theorem AsW.below{A:Nat}(h:AsW R w w1)(hw:Wtr w B R most l)(hA:A<=R):Below A w w1:=by
 have h1:=hw.low
 have h2:=hw.base
 exact h.aside.below (by omega) (fun k hk hc=>by
  rcases hc with h3 | h3
  ·omega
  ·have:=(hw.owns h3).1;omega)
theorem AsW.far{W0:World}(h:AsW R W0 w1)(hw:Wtr w B R most l)(hb:Below w.1.size w W0){k:Nat}(h1:w.1.size<=k)(h2:k<W0.1.size):w1.1[k]?=W0.1[k]?:=by
 have hR:=hw.lt
 refine h.aside.block k h2 (fun hc=>?_)
 rcases hc with h3 | h3
 ·omega
 ·have:=(hw.owns ((js (hb.block R hR) k).1 h3)).2;omega
theorem Wtr.more{T:Nat}{q q1:OA}{cap cap1:Nat}{ys:L8}(h:Wtr w B R most l)(h1:w.1[R]?=some (.cells #[.slice (some ⟨T,0,none⟩) 8 8,.slice q l.length cap,.int .i64 most] 187 (0,0)))(h2:w.1[T]?=some (.cells ie 214 (0,0)))(h4:T≠R)(h5:T<B)(h3:Has w B (.slice q l.length cap) l)(hg:bJ w B (.slice q l.length cap) w1 (.slice q1 ys.length cap1) ys):
  w1.1[R]?=some (.cells #[.slice (some ⟨T,0,none⟩) 8 8,.slice q l.length cap,.int .i64 most] 187 (0,0))∧Wtr (w1.setCell ⟨R,1,none⟩ (.slice q1 ys.length cap1)) B R most ys∧AsW R w (w1.setCell ⟨R,1,none⟩ (.slice q1 ys.length cap1)):=by
 have hl:=h.low
 have hB:=h.base
 have hlt:=h3.lt
 have k1:∀k,k<B->w1.1[k]?=w.1[k]?:=fun k hk=>hg.aside.block k (by omega) (fun hc=>by have:=(hlt k hc).1;omega)
 have r1:w1.1[R]?=some (.cells #[.slice (some ⟨T,0,none⟩) 8 8,.slice q l.length cap,.int .i64 most] 187 (0,0)):=(k1 R hl).trans h1
 have ha:Aside (fun i=>i=R) w1 (w1.setCell ⟨R,1,none⟩ (.slice q1 ys.length cap1)):=ai _ _ _ _
 have hs:=hg.aside.size
 have hs2:=ha.size
 refine⟨r1,⟨⟨T,q1,cap1,by rw[al r1 1];rfl,?_,?_,h4,h5⟩,hl,by omega⟩,?_⟩
 ·rw[ha.block T (by omega) h4,k1 T h5];exact h2
 ·exact hg.has.aside ha (fun k hk he=>by have:=(hg.has.lt k hk).1;omega)
 ·refine⟨Aside.trans (Aside.mono hg.aside (fun k hk hc=>.inr ⟨_,_,_,h1,hc⟩)) ha (fun k hk he=>.inl he),fun k hk=>?_⟩
  have e1:(w1.setCell ⟨R,1,none⟩ (.slice q1 ys.length cap1)).1[R]?=some (.cells #[.slice (some ⟨T,0,none⟩) 8 8,.slice q1 ys.length cap1,.int .i64 most] 187 (0,0)):=by rw[al r1 1];rfl
  rcases hg.fresh k (ov e1 hk) with h6 | h6
  ·exact .inl ⟨_,_,_,h1,h6⟩
  ·exact .inr h6
structure qw(most:Int)(xs full ys:L8):Prop where
 eq:ys=xs++full∨(most<ys.length∧most<(xs++full).length)
 len:ys.length<=xs.length+full.length
theorem qw.all{full:L8}:qw most xs full (xs++full):=⟨.inl rfl,by rw[List.length_append];omega⟩
def WrA(w:World)(B R:Nat)(most:Int)(xs full:L8)(e:Ending)(w':World):Prop:=∃ys,qw most xs full ys∧e=.returned (.tuple #[])∧Wtr w' B R most ys∧AsW R w w'
theorem jL(w:World):Calls Tryz.prog 95 #[] w fun e w'=>e=.returned (.slice (some ⟨w.1.size,0,none⟩) 8 8)∧w'=w.alloc (.cells ie 214):=by
 go_enter Tryz.func95,Tryz.ntmps95
 go_wp2_with fail
 go_ret
 exact⟨rfl,rfl⟩
theorem Wtr.drew(h:Wtr w B R most l):Wtr w.drew B R most l:=h.on (xZ.drew)
theorem oT(w:World)(most:Int):Wtr ((w.alloc (.cells ie 214)).alloc (.cells #[.slice (some ⟨w.1.size,0,none⟩) 8 8,.slice none 0 0,.int .i64 most] 187)) (w.1.size+2) (w.1.size+1) most []:=by
 refine⟨⟨w.1.size,none,0,?_,?_,aX _ _,by omega,by omega⟩,by omega,by simp⟩
 ·have:=ap (w.alloc (.cells ie 214)) (.cells #[.slice (some ⟨w.1.size,0,none⟩) 8 8,.slice none 0 0,.int .i64 most] 187)
  simpa using this
 ·rw[az _ _ (by simp)]
  exact ap w _
end
section
open Go.RowKit
attribute [local go_sem] af
theorem tl(n:Nat)(hn:n<18446744073709551616)(xs:L8)(hx:xs.length<=100000000000000)(B R:Nat)(most:Int)(w:World)(h:Wtr w B R most xs):Calls Tryz.prog 151 #[.pointer (some ⟨R,0,none⟩),.int .u64 n] w fun e w'=>e=.returned (.tuple #[])∧Wtr w' B R most (xs++Leb.put n)∧AsW R w w':=by
  have HP:=xQ (dS n hn)
  have hpl:=Leb.put_length_le n
  obtain⟨l0,hl0⟩:∃l0,l0=Leb.put n:=⟨_,rfl⟩
  rw[<-hl0] at HP hpl ⊢
  obtain⟨T,q,cap,h1,h2,h3,h4,h5⟩:=h.out
  have c1:w.cell? ⟨R,1,none⟩=some (.slice q xs.length cap):=aa h1 1
  have HH:=xQ h
  have H1:=xQ h1
  have H2:=xQ h2
  have H3:=xQ h3
  have hB:=h.base
  clear hl0 h h1 h2 h3
  go_enter Tryz.func151,Tryz.ntmps151
  go_wp2_with fail
  go_region_law (first
    | (refine mI (.tmp 9) 195 (by rfl) (by rfl) (by rfl) Tryz.func100 (by kernel_rfl) (by rfl) (HP.out _) ?_
       rintro e w1 ⟨g,cap0,rfl,hm,hb⟩
       refine⟨_,rfl,?_⟩
       have hb':Below w.1.size w w1:=⟨hb.os,hb.tape,hb.output,hb.size,hb.block⟩
       have d1:w1.cell? ⟨R,1,none⟩=some (.slice q xs.length cap):=ae hb' c1
       have HM:=xQ hm
       have HB1:=xQ hb'
       clear hm hb hb')
    | (refine mD (B:=B) (xs:=xs) (l:=l0) (H3.out.on HB1.out) HM.out.at (by omega) (Nat.le_trans hB HB1.out.size) (.tmp 8) (.tmp 10) (by rfl) (by rfl) (by rfl) (by rfl) (by rfl) ?_
       intro q3 cap3 W ys HY hg3
       have hM:=HH.out.more H1.out H2.out h4 h5 H3.out (hg3.from HB1.out H3.out)
       have e1:W.cell? ⟨R,1,none⟩=some (.slice q xs.length cap):=aa hM.1 1
       have f1:W.frozen? ⟨R,1,none⟩=false:=ac hM.1 1
       have HM2:=xQ hM.2
       clear hM hg3)
    |fail)
  all_goals
    go_end0
    rw[<-HY.out]
    exact⟨rfl,HM2.out⟩
section
variable {w:World} {B R:Nat} {most:Int} {xs:L8} (h:Wtr w B R most xs) (hx:xs.length<=90000000000000)
include h hx
end
end
section
open Go.RowKit
attribute [local go_sem] af
section
variable {w:World} {B R:Nat} {most:Int} {xs:L8} (h:Wtr w B R most xs) (hx:xs.length<=90000000000000)
include h hx
theorem oU(k i:Int)(hi:-9223372036854775808<=i∧i<=9223372036854775807)(b:Nat)(t:ByteArray)(p:OA)(n c:Nat):Calls Tryz.prog 124 #[.pointer (some ⟨R,0,none⟩),.agg #[.int .i64 k,.int .i64 i,.float .f64 b,.string t,.slice p n c]] w fun e w'=>e=.returned (.tuple #[])∧Wtr w' B R most (xs++Leb.put (Leb.zig i))∧AsW R w w':=by
 have hz:Leb.zig i<18446744073709551616:=by unfold Leb.zig;split <;> omega
 have HZ:=xQ (nX i hi.1 hi.2)
 obtain⟨W0,hW0⟩:∃W0,W0=w.alloc (.cells #[.int .i64 k,.int .i64 i,.float .f64 b,.string t,.slice p n c] 47):=⟨_,rfl⟩
 have HB0:Hid (Below w.1.size w W0):=by rw[hW0];exact xY
 have HN:=xQ (tl (Leb.zig i) hz xs (by omega) B R most W0 (h.on HB0.out))
 obtain⟨z,hzz⟩:∃z,z=Leb.zig i:=⟨_,rfl⟩
 rw[<-hzz] at HZ HN ⊢
 have HW0:=xQ hW0
 have hR:=h.lt
 clear hi hz h hzz hW0
 go_enter Tryz.func124,Tryz.ntmps124
 go_wp2_with fail
 refine(HZ.out _).mono ?_
 rintro e w1 ⟨rfl,hw1⟩
 rw[hw1]
 clear hw1 w1
 go_wp2_with fail
 rw[<-HW0.out]
 refine HN.out.mono ?_
 rintro e w2 ⟨rfl,h2,h3⟩
 have H2:=xQ h2
 have H3:=xQ h3
 clear h2 h3 HN
 go_wp2
 go_end0
 exact⟨rfl,H2.out,(AsW.new hR HB0.out).trans H3.out⟩
end
end
section
open Go.RowKit
attribute [local go_sem] af
def xl(x:V):Prop:=∀(w0 w:World) (u:AV) (B R:Nat) (most:Int) (xs:L8),aJ w0 u x->Below w0.1.size w0 w->w0.1.size<=R->Wtr w B R most xs->xs.length+(Sch.vB x).length<=80000000000000->Calls Tryz.prog 97 #[.pointer (some ⟨R,0,none⟩),.agg u] w (WrA w B R most xs (Sch.vB x))
section
variable {w:World} {B R:Nat} {most:Int} {xs:L8} (h:Wtr w B R most xs)
include h
end
end
section
open Go.RowKit
attribute [local go_sem] af
theorem oY(k:Nat)(f:FuncId)(hk:k<8)(hf:ie[k]?=some (.func (.func f) #[] #[]))(i:Int)(b:Nat)(t:ByteArray)(p:OA)(n c:Nat){w:World}{B R:Nat}{most:Int}{xs full:L8}(h:Wtr w B R most xs)(hE:∀(args:AV) (w:World),(callFunc f args).run Tryz.prog w=.ok (.enter f args) w)(hc:∀w',Below w.1.size w w'->Wtr w' B R most xs->Calls Tryz.prog f #[.pointer (some ⟨R,0,none⟩),.agg #[.int .i64 k,.int .i64 i,.float .f64 b,.string t,.slice p n c]] w' (WrA w' B R most xs full)):
    Calls Tryz.prog 97 #[.pointer (some ⟨R,0,none⟩),.agg #[.int .i64 k,.int .i64 i,.float .f64 b,.string t,.slice p n c]] w (WrA w B R most xs full):=by
  obtain⟨W0,hW0⟩:∃W0,W0=w.alloc (.cells #[.int .i64 k,.int .i64 i,.float .f64 b,.string t,.slice p n c] 47):=⟨_,rfl⟩
  have HB0:Hid (Below w.1.size w W0):=by rw[hW0];exact xY
  have hR:=h.lt
  have d0:W0.cell? ⟨w.1.size,0,none⟩=some (.int .i64 k):=by rw[hW0];simp
  have d1:W0.cell? ⟨w.1.size,1,none⟩=some (.int .i64 i):=by rw[hW0];simp
  have d2:W0.cell? ⟨w.1.size,2,none⟩=some (.float .f64 b):=by rw[hW0];simp
  have d3:W0.cell? ⟨w.1.size,3,none⟩=some (.string t):=by rw[hW0];simp
  have d4:W0.cell? ⟨w.1.size,4,none⟩=some (.slice p n c):=by rw[hW0];simp
  have HH0:=xQ (h.on HB0.out)
  obtain⟨T,q,cap,h1,h2,-,-,-⟩:=HH0.out.out
  have c0:W0.cell? ⟨R,0,none⟩=some (.slice (some ⟨T,0,none⟩) 8 8):=aa h1 0
  have ck:W0.cell? ⟨T,k,none⟩=some (.func (.func f) #[] #[]):=(aa h2 k).trans hf
  have hki:(k:Int)<8:=by omega
  have HW0:=xQ hW0
  have HC:=xQ hc
  have HE:=xQ hE
  clear h hW0 hc hE h1 h2 hf
  go_enter Tryz.func97,Tryz.ntmps97
  go_wp2_with fail
  rw[<-HW0.out]
  clear HW0
  go_region_law (first
    | (refine gy (.tmp 11) (.tmp 12) (.tmp 13) 217 47 (by rfl) (by rfl) (by rfl) (by rfl) (by rfl) HE.out (HC.out _ HB0.out.drew HH0.out.drew) ?_
       rintro e w1 ⟨ys,hpv,rfl,hw1,ha1⟩
       refine⟨_,rfl,?_⟩
       have HP:=xQ hpv
       have HW1:=xQ hw1
       have HA1:=xQ ha1
       clear hpv hw1 ha1)
    |fail)
  all_goals
    go_end0
    exact⟨ys,HP.out,rfl,HW1.out,(AsW.new hR HB0.out.drew).trans HA1.out⟩
end
end Go.Proofs.YtceomhodhmcknaaGreatDoor
