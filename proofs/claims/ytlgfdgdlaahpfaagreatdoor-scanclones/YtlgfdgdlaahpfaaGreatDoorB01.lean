import Derived.Test.YtlgfdgdlaahpfaaGreatDoorRows
import Derived.WalkSpells
import Derived.WalkLawsBesides
import Derived.BigQuiet
import Derived.Lib.ItoaMem
import Derived.Deep.DeepAppendWide
import Derived.Deep.Upon
import Derived.Deep.AppendLies
set_option maxRecDepth 100000
namespace Go.Proofs.YtlgfdgdlaahpfaaGreatDoor
abbrev L8:=List UInt8
abbrev OA:=Option Addr
abbrev AV:=Array Value
theorem vQ{p:Prop}(h:p):Go.RowKit.Hid p:=h
theorem vX{n:Nat}:n<=n:=Nat.le_refl n
theorem vZ{B:Nat}{w:World}:Go.RowKit.Below B w w:=Go.RowKit.Below.refl _ _
theorem vY{w:World}{o:Obj}:Go.RowKit.Below w.heap.size w (w.alloc o):=vZ.alloc vX _
section
open Go.RowKit
def cg(w:World)(b o:Nat)(l:L8):Prop:=∀j (h:j<l.length),w.cell? ⟨b,o+j,none⟩=some (.int .u8 (l[j].toNat:Int))
def At(w:World)(p:OA)(l:L8):Prop:=l=[]∨∃b o,p=some ⟨b,o,none⟩∧b<w.1.size∧cg w b o l
theorem At.on{w w':World}{p:OA}{l:L8}(h:At w p l)(hb:Below w.1.size w w'):At w' p l:=by
 rcases h with rfl | ⟨b,o,rfl,h1,h2⟩
 ·exact .inl rfl
 ·refine .inr ⟨b,o,rfl,by have:=hb.size;omega,fun j hj=>?_⟩
  rw[hb.cell (p:=⟨b,o+j,none⟩) h1]
  exact h2 j hj
theorem At.drewN{w:World}{p:OA}{l:L8}(h:At w p l)(n:Nat):At (w.drewN n) p l:=by
 rcases h with rfl | ⟨b,o,rfl,h1,h2⟩
 ·exact .inl rfl
 ·exact .inr ⟨b,o,rfl,h1,h2⟩
theorem below_drewN{B:Nat}{a w:World}(h:Below B a w)(n:Nat):Below B a (w.drewN n):=⟨h.os,h.tape,h.output,h.size,h.block⟩
end
section
open Go.RowKit
def cellsOf(l:L8):List Value:=l.map fun b=>Value.int .u8 (b.toNat:Int)
theorem aY(l:L8)(j:Nat)(h:j<l.length):(cellsOf l)[j]?=some (.int .u8 (l[j].toNat:Int)):=by
 simp[cellsOf,h]
theorem fG{w:World}{p:OA}{l:L8}(c:Nat)(h:At w p l):Src Tryz.prog 1 31 (.slice p l.length c) l.length (cellsOf l) w:=by
 have hone:∀u∈cellsOf l,u.oneCell'=true:=fun u hu=>by
  obtain⟨_,_,rfl⟩:=List.mem_map.1 hu
  rfl
 cases p with
 |none=>
  rcases h with rfl | ⟨b,o,hp,_,_⟩
  ·exact Src.ofNil w Tryz.underlying31 c
  ·cases hp
 |some a=>
  refine Src.ofSlice w Tryz.underlying31 a l.length c (cellsOf l) (by simp[cellsOf]) (fun j u hj=>?_) hone
  rcases h with rfl | ⟨b,o,hp,_,hc⟩
  ·simp[cellsOf] at hj
  ·cases hp
   have hj2:j<l.length:=by
    have:=(List.getElem?_eq_some_iff.1 hj).1
    simpa[cellsOf] using this
   rw[aY l j hj2] at hj
   cases hj
   have:=hc j hj2
   rw[Lib.add_plain]
   exact this
theorem fZ:(Tryz.prog.info? 5).map (fun i=>(i.zero,i.size,i.bytes))=some (some (.int .u8 0),1,1):=by kernel_rfl
theorem oj(w:World)(l:L8)(zs:AV)(T:TypeId):cg (w.alloc (.cells ((cellsOf l).toArray++zs) T)) w.1.size 0 l:=fun j hj=>by
 rw[Nat.zero_add,World.cell?_alloc_new]
 have h1:j<(cellsOf l).toArray.size:=by simpa[cellsOf] using hj
 rw[Array.getElem?_append_left h1]
 have:=aY l j hj
 simpa using this
def Own(w:World)(b:Nat)(l:L8):Prop:=∃zs,w.1[b]?=some (.cells ((cellsOf l).toArray++zs) 5)
theorem Own.lt{w:World}{b:Nat}{l:L8}(h:Own w b l):b<w.1.size:=by
 obtain⟨zs,h⟩:=h
 exact(Array.getElem?_eq_some_iff.1 h).1
theorem Own.cells{w:World}{b:Nat}{l:L8}(h:Own w b l):cg w b 0 l:=fun j hj=>by
 obtain⟨zs,h⟩:=h
 rw[Nat.zero_add]
 have h1:j<(cellsOf l).toArray.size:=by simpa[cellsOf] using hj
 have h2:=aY l j hj
 unfold World.cell?
 rw[h]
 show((cellsOf l).toArray++zs)[j]?=_
 rw[Array.getElem?_append_left h1]
 simpa using h2
theorem Own.at{w:World}{b:Nat}{l:L8}(h:Own w b l):At w (some ⟨b,0,none⟩) l:=.inr ⟨b,0,rfl,h.lt,h.cells⟩
theorem Own.thawed{w:World}{b:Nat}{l:L8}(h:Own w b l)(j:Nat):w.frozen? ⟨b,j,none⟩=false:=by
 obtain⟨zs,h⟩:=h
 simp[World.frozen?,h]
theorem Own.set{w:World}{b:Nat}{l:L8}(h:Own w b l)(i:Nat)(v:UInt8)(hi:i<l.length):Own (w.setCell ⟨b,i,none⟩ (.int .u8 (v.toNat:Int))) b (l.set i v):=by
 obtain⟨zs,h⟩:=h
 refine⟨zs,?_⟩
 have h1:i<(cellsOf l).toArray.size:=by simpa[cellsOf] using hi
 have e:(cellsOf (l.set i v)).toArray=(cellsOf l).toArray.set! i (.int .u8 (v.toNat:Int)):=by
  simp[cellsOf,List.map_set]
 rw[e]
 have hb:=(Array.getElem?_eq_some_iff.1 h).1
 simp only[World.setCell,Array.getElem?_modify,h,if_true,Option.map_some]
 rw[if_neg (by simp),Array.set!_eq_setIfInBounds,Array.setIfInBounds_append_left h1]
theorem bK(w:World)(o:Obj):(w.alloc o).1[w.1.size]?=some o:=by
 show(w.1.push o)[w.1.size]?=_
 simp
theorem wpList_append_run{P:Program}(w:World){ops:Array Oper}{rest:List Oper}{o:Oper}{a:Act}{Q:Exit->Act->World->Prop}(hg:o.guard=none)(s x:Operand)(t tx:TypeId)(hop:o.op=Op.call { callee:=Callee.builtin Builtin.append,args:=#[s,x],argTypes:=#[t,tx] })(vs vx:Value)(hs:a.eval s=vs)(hx:a.eval x=vx)(v':Value)(w':World)(hrun:(Builtin.append_ #[t,tx] o.type #[vs,vx]).run P w=.ok v' w')(hK:wpList P ops Q rest (a.put o.dst v') w'):wpList P ops Q (o::rest) a w:=by
 refine wpList_plain hg fun K hK'=>?_
 unfold Oper.wp
 simp[execOp,hop,resolve,invoke,builtin,hs,hx,hrun,Result.andThen]
 exact hK' _ _ hK
structure bC(P:Program)(t tx ty:TypeId)(vs vx:Value)(w:World)(v':Value)(w':World):Prop where
 run:(Builtin.append_ #[t,tx] ty #[vs,vx]).run P w=.ok v' w'
theorem az{P:Program}{w:World}{ops:Array Oper}{rest:List Oper}{o:Oper}{a:Act}{Q:Exit->Act->World->Prop}{s x:Operand}{t tx:TypeId}{vs vx v':Value}{w':World}(h:bC P t tx o.type vs vx w v' w')(hg:o.guard=none)(hop:o.op=Op.call { callee:=Callee.builtin Builtin.append,args:=#[s,x],argTypes:=#[t,tx] })(hs:a.eval s=vs)(hx:a.eval x=vx)(hK:wpList P ops Q rest (a.put o.dst v') w'):wpList P ops Q (o::rest) a w :=
 wpList_append_run w hg s x t tx hop vs vx hs hx v' w' h.run hK
end
section
open Go.RowKit
def bh(w:World)(B g cap:Nat)(l:L8):Prop:=w.ownsRow B 5 1 (.slice (some ⟨g,0,none⟩) l.length cap) l.length (cellsOf l)
theorem bh.at{w:World}{B g cap:Nat}{l:L8}(h:bh w B g cap l):At w (some ⟨g,0,none⟩) l:=by
 refine .inr ⟨g,0,rfl,(World.ownsRow.lt h g rfl).2,fun j hj=>?_⟩
 have:=World.ownsRow.cells h (g:=g) rfl j _ (aY l j hj)
 rw[Lib.add_plain] at this
 exact this
theorem qp(w:World):bh (w.alloc (.cells #[] 5)) w.1.size w.1.size 0 []:=by
 refine⟨rfl,.inr ⟨w.1.size,0,#[],rfl,vX,bK w _,vX,by simp[maxLen],rfl,rfl⟩⟩
theorem bL(a b:L8):cellsOf (a++b)=cellsOf a++cellsOf b:=by simp[cellsOf]
theorem aK(a:L8):(cellsOf a).length=a.length:=by simp[cellsOf]
end
section
open Go.RowKit
def ev(w:World)(g o:Nat)(l:L8):Prop:=g<w.1.size∧cg w g o l∧∀j,j<l.length->w.frozen? ⟨g,o+j,none⟩=false
theorem ev.at{w:World}{g o:Nat}{l:L8}(h:ev w g o l):At w (some ⟨g,o,none⟩) l:=.inr ⟨g,o,rfl,h.1,h.2.1⟩
theorem ev.set{w:World}{g o:Nat}{l:L8}(h:ev w g o l)(i:Nat)(v:UInt8)(hi:i<l.length):ev (w.setCell ⟨g,o+i,none⟩ (.int .u8 (v.toNat:Int))) g o (l.set i v):=by
 obtain⟨h1,h2,h3⟩:=h
 refine⟨by simpa[World.setCell] using h1,fun j hj=>?_,fun j hj=>?_⟩
 ·rw[List.length_set] at hj
  by_cases e:i=j
  ·subst e
   rw[World.cell?_setCell_same (h:=h2 i hi),List.getElem_set_self]
  ·rw[World.cell?_setCell_other (h:=by intro hc;injection hc;omega),h2 j hj,List.getElem_set_ne e]
 ·rw[List.length_set] at hj
  rw[World.frozen?_setCell]
  exact h3 j hj
theorem ev.on{w w':World}{B g o:Nat}{l:L8}(h:ev w g o l)(hg:g<B)(hb:Below B w w'):ev w' g o l:=by
 obtain⟨h1,h2,h3⟩:=h
 refine⟨by have:=hb.size;omega,fun j hj=>?_,fun j hj=>?_⟩
 ·rw[hb.cell (p:=⟨g,o+j,none⟩) hg];exact h2 j hj
 ·rw[hb.frozen (p:=⟨g,o+j,none⟩) hg];exact h3 j hj
theorem Own.free{w:World}{b:Nat}{l:L8}(h:Own w b l):ev w b 0 l:=⟨h.lt,h.cells,fun j _=>by rw[Nat.zero_add];exact h.thawed j⟩
theorem bh.free{w:World}{B g cap:Nat}{l:L8}(h:bh w B g cap l):ev w g 0 l:=by
 refine⟨(World.ownsRow.lt h g rfl).2,fun j hj=>?_,fun j _=>?_⟩
 ·have:=World.ownsRow.cells h (g:=g) rfl j _ (aY l j hj)
  rw[Lib.add_plain] at this
  exact this
 ·rcases h.2 with ⟨h1,_⟩ | ⟨g',cap',cur,h1,_,h2,_⟩
  ·cases h1
  ·cases h1
   simp[World.frozen?,h2]
theorem bh.base{w:World}{B g cap:Nat}{l:L8}(h:bh w B g cap l):B<=g∧g<w.1.size∧l.length<=cap:=by
 refine⟨(World.ownsRow.lt h g rfl).1,(World.ownsRow.lt h g rfl).2,?_⟩
 rcases h.2 with ⟨h1,_⟩ | ⟨g',cap',cur,h1,_,_,h2,_⟩
 ·cases h1
 ·cases h1;exact h2
theorem dO{w:World}{b o:Nat}{l:L8}(h:cg w b o l)(n:Nat):cg w b (o+n) (l.drop n):=fun j hj=>by
 have hj':n+j<l.length:=by rw[List.length_drop] at hj;omega
 have:=h (n+j) hj'
 rw[<-Nat.add_assoc] at this
 rw[this,List.getElem_drop]
theorem dN{w:World}{b o:Nat}{l:L8}(h:cg w b o l)(n:Nat):cg w b o (l.take n):=fun j hj=>by
 have hj':j<l.length:=by rw[List.length_take] at hj;omega
 rw[h j hj',List.getElem_take]
theorem bz{w:World}{p:OA}{l:L8}(h:At w p l)(hp:0<l.length):∃b o,p=some ⟨b,o,none⟩∧b<w.1.size∧cg w b o l:=by
 rcases h with rfl | h
 ·simp at hp
 ·exact h
end
section
open Go.RowKit
def Has(w:World)(B:Nat)(v:Value)(l:L8):Prop:=w.ownsRow B 5 1 v l.length (cellsOf l)
theorem aR(w:World)(B:Nat):Has w B (.slice none 0 0) []:=⟨rfl,.inl ⟨rfl,rfl⟩⟩
theorem bh.has{w:World}{B g cap:Nat}{l:L8}(h:bh w B g cap l):Has w B (.slice (some ⟨g,0,none⟩) l.length cap) l:=h
theorem Has.form{w:World}{B:Nat}{v:Value}{l:L8}(h:Has w B v l):(v=.slice none 0 0∧l=[])∨∃g cap,v=.slice (some ⟨g,0,none⟩) l.length cap∧bh w B g cap l:=by
 rcases h.2 with ⟨h1,h2⟩ | ⟨g,cap,cur,rfl,h3⟩
 ·exact .inl ⟨h1,List.eq_nil_of_length_eq_zero h2⟩
 ·exact .inr ⟨g,cap,rfl,h.1,.inr ⟨g,cap,cur,rfl,h3⟩⟩
theorem Has.at{w:World}{B:Nat}{v:Value}{l:L8}(h:Has w B v l):∃p cap,v=.slice p l.length cap∧At w p l∧l.length<=cap:=by
 rcases h.form with ⟨rfl,rfl⟩ | ⟨g,cap,rfl,hm⟩
 ·exact⟨none,0,rfl,.inl rfl,vX⟩
 ·exact⟨_,cap,rfl,hm.at,hm.base.2.2⟩
theorem Has.drew{w:World}{B:Nat}{v:Value}{l:L8}(h:Has w B v l):Has w.drew B v l:=h
theorem Has.drewN{w:World}{B:Nat}{v:Value}{l:L8}(h:Has w B v l)(n:Nat):Has (w.drewN n) B v l:=h
theorem Has.alloc{w:World}{B:Nat}{v:Value}{l:L8}(h:Has w B v l)(o:Obj):Has (w.alloc o) B v l:=World.ownsRow.alloc h o
theorem qe(B:Nat)(v:Value)(xs l:L8)(a:Addr)(c:Nat)(w:World)(hown:Has w B v xs)(h:At w (some a) l)(h0:l≠[])(hlen:xs.length+l.length<=200000000000000)(hB:B<=w.1.size):
  ∃(g' cap':Nat) (W:World),bC Tryz.prog 31 31 31 v (.slice (some a) l.length c) w (.slice (some ⟨g',0,none⟩) (xs++l).length cap') W∧bh W B g' cap' (xs++l)∧Below B w W:=by
 obtain⟨i,hi,hz,hsz,hby⟩:=info_parts fZ
 have hcells:∀j u,(cellsOf l)[j]?=some u->w.cell? (a.add j)=some u:=fun j u hj=>by
  have hj2:j<l.length:=by
   have:=(List.getElem?_eq_some_iff.1 hj).1
   simpa[cellsOf] using this
  rcases h with rfl | ⟨b,o,hp,_,hc⟩
  ·simp at hj2
  ·cases hp
   rw[aY l j hj2] at hj
   cases hj
   rw[Lib.add_plain]
   exact hc j hj2
 obtain⟨v',W,hr,hown',hgr,hnil⟩:=run_append_own_wide (P:=Tryz.prog) w B 31 31 5 i (.int .u8 0) 1 1 Tryz.underlying31 hi hz hsz hby rfl (by decide) v xs.length (cellsOf xs) hown a l.length c (cellsOf l) (by rw[aK,Nat.mul_one]) hcells
  (fun u hu=>by obtain⟨_,_,rfl⟩:=List.mem_map.1 hu;rfl) (by unfold maxLen;omega) (by omega) hB
 rw[<-bL,<-List.length_append] at hown'
 have hform:∃g' cap',v'=.slice (some ⟨g',0,none⟩) (xs++l).length cap':=by
  rcases hown'.2 with ⟨h1,_⟩ | ⟨g',cap',_,h1,_⟩
  ·have:=(hnil.1 h1).2
   exact absurd (List.eq_nil_of_length_eq_zero this) h0
  ·exact⟨g',cap',h1⟩
 obtain⟨g',cap',rfl⟩:=hform
 exact⟨g',cap',W,⟨hr⟩,hown',vZ.grown hgr hB (fun k hk=>(World.ownsRow.lt hown k hk).1)⟩
theorem aV{B:Nat}{v:Value}{xs:L8}{w:World}(hown:Has w B v xs)(c:UInt8)(hlen:xs.length+1<=200000000000000)(hB:B<=w.1.size){z:Int}{ops:Array Oper}{rest:List Oper}{o:Oper}{a:Act}{Q:Exit->Act->World->Prop}{s x:Operand}(hz:z=(c.toNat:Int))(ht:o.type=31)(hg:o.guard=none)(hop:o.op=Op.call { callee:=Callee.builtin Builtin.append,args:=#[s,x],argTypes:=#[31,31] })(hs:a.eval s=v)(hx:a.eval x=.slice (some ⟨w.1.size,0,none⟩) 1 1)(hK:∀g cap W,bh W B g cap (xs++[c])->Below B w W->wpList Tryz.prog ops Q rest (a.put o.dst (.slice (some ⟨g,0,none⟩) (xs.length+1) cap)) W):
  wpList Tryz.prog ops Q (o::rest) a (w.alloc (.cells #[.int .u8 z] 5)):=by
 have hat:At (w.alloc (.cells #[.int .u8 z] 5)) (some ⟨w.1.size,0,none⟩) [c]:=by
  refine .inr ⟨_,_,rfl,by simp,fun j hj=>?_⟩
  have hj0:j=0:=by simp at hj;omega
  subst hj0
  rw[World.cell?_alloc_new,hz]
  rfl
 have hb0:Below B w (w.alloc (.cells #[.int .u8 z] 5)):=vZ.alloc hB _
 obtain⟨g,cap,W,hr,hm,hb⟩:=qe B v xs [c] ⟨w.1.size,0,none⟩ 1 _ (hown.alloc _) hat (by simp) (by simpa using hlen) (Nat.le_trans hB hb0.size)
 have e:(xs++[c]).length=xs.length+1:=by simp
 rw[e] at hr
 have hr':bC Tryz.prog 31 31 o.type v (.slice (some ⟨w.1.size,0,none⟩) 1 1) (w.alloc (.cells #[.int .u8 z] 5)) (.slice (some ⟨g,0,none⟩) (xs.length+1) cap) W:=by rw[ht];exact hr
 exact az hr' hg hop hs hx (hK g cap W hm (hb0.trans hb))
end
section
open Go.RowKit
structure Aside(F:Nat->Prop)(w w':World):Prop where
 os:w'.os=w.os
 tape:w'.tape=w.tape
 output:w'.output=w.output
 size:w.1.size<=w'.1.size
 block:∀k,k<w.1.size->¬F k->w'.1[k]?=w.1[k]?
section
variable {F G:Nat->Prop} {w w' w'':World}
theorem Aside.refl(F:Nat->Prop)(w:World):Aside F w w:=⟨rfl,rfl,rfl,vX,fun _ _ _=>rfl⟩
theorem Aside.trans(h:Aside F w w')(k:Aside G w' w'')(hg:∀i,i<w.1.size->G i->F i):Aside F w w'' :=
 ⟨k.os.trans h.os,k.tape.trans h.tape,k.output.trans h.output,Nat.le_trans h.size k.size,fun i hi hf=>(k.block i (Nat.lt_of_lt_of_le hi h.size) (fun hc=>hf (hg i hi hc))).trans (h.block i hi hf)⟩
theorem Aside.mono(h:Aside F w w')(hg:∀i,i<w.1.size->F i->G i):Aside G w w' :=
 ⟨h.os,h.tape,h.output,h.size,fun i hi hf=>h.block i hi (fun hc=>hf (hg i hi hc))⟩
theorem fw{B:Nat}(h:Below B w w')(hF:∀k,k<w.1.size->B<=k->F k):Aside F w w' :=
 ⟨h.os,h.tape,h.output,h.size,fun k hk hf=>h.block k (by
  rcases Nat.lt_or_ge k B with h1 | h1
  ·exact h1
  ·exact absurd (hF k hk h1) hf)⟩
theorem ae(h:Below w.1.size w w')(F:Nat->Prop):Aside F w w':=fw h fun _ h1 h2=>absurd h1 (Nat.not_lt_of_le h2)
theorem Aside.below{B:Nat}(h:Aside F w w')(hB:B<=w.1.size)(hF:∀k,k<B->¬F k):Below B w w' :=
 ⟨h.os,h.tape,h.output,h.size,fun k hk=>h.block k (by omega) (hF k hk)⟩
theorem Aside.alloc(h:Aside F w w')(o:Obj):Aside F w (w'.alloc o) :=
 h.trans (ae ((Below.refl w'.1.size w').alloc vX o) F) fun _ _ h=>h
theorem Aside.drew(h:Aside F w w'):Aside F w w'.drew:=⟨h.os,h.tape,h.output,h.size,h.block⟩
theorem Aside.drewN(h:Aside F w w')(n:Nat):Aside F w (w'.drewN n):=⟨h.os,h.tape,h.output,h.size,h.block⟩
theorem Aside.setCell(h:Aside F w w'){p:Addr}(hp:F p.block∨w.1.size<=p.block)(u:Value):Aside F w (w'.setCell p u):=by
 refine⟨h.os,h.tape,h.output,by simpa[World.setCell] using h.size,fun k hk hf=>?_⟩
 rw[Below.heap_setCell _ _ _ _ (fun hc=>?_)]
 ·exact h.block k hk hf
 ·rcases hp with hp | hp
  ·rw[<-hc] at hp;exact hf hp
  ·omega
theorem Aside.cell(h:Aside F w w'){p:Addr}(hl:p.block<w.1.size)(hp:¬F p.block):w'.cell? p=w.cell? p:=World.cell?_of_block (w:=w) (h.block p.block hl hp)
theorem Aside.frozen(h:Aside F w w'){p:Addr}(hl:p.block<w.1.size)(hp:¬F p.block):w'.frozen? p=w.frozen? p:=World.frozen?_of_block (w:=w) (h.block p.block hl hp)
end
end
section
open Go.RowKit
section
variable {F G:Nat->Prop} {w w' w'':World}
theorem At.aside{p:OA}{l:L8}(h:At w p l)(ha:Aside F w w')(hp:∀b o,p=some ⟨b,o,none⟩->¬F b):At w' p l:=by
 rcases h with rfl | ⟨b,o,rfl,hlt,hc⟩
 ·exact .inl rfl
 ·refine .inr ⟨b,o,rfl,by have:=ha.size;omega,fun j hj=>?_⟩
  rw[ha.cell (p:=⟨b,o+j,none⟩) hlt (hp b o rfl)]
  exact hc j hj
theorem Has.lt{B:Nat}{v:Value}{l:L8}(h:Has w B v l):∀k,v.ownBlock=some k->B<=k∧k<w.1.size:=World.ownsRow.lt h
theorem Has.aside{B:Nat}{v:Value}{l:L8}(h:Has w B v l)(ha:Aside F w w')(hp:∀k,v.ownBlock=some k->¬F k):Has w' B v l:=by
 refine⟨h.1,?_⟩
 rcases h.2 with h1 | ⟨g,cap,cur,rfl,h2,h3,h4⟩
 ·exact .inl h1
 ·refine .inr ⟨g,cap,cur,rfl,h2,?_,h4⟩
  rw[ha.block g (Array.getElem?_eq_some_iff.1 h3).1 (hp g rfl)]
  exact h3
theorem Has.low{B B':Nat}{v:Value}{l:L8}(h:Has w B v l)(hB:B'<=B):Has w B' v l:=by
 refine⟨h.1,?_⟩
 rcases h.2 with h1 | ⟨g,cap,cur,rfl,h2,h3⟩
 ·exact .inl h1
 ·exact .inr ⟨g,cap,cur,rfl,by omega,h3⟩
end
end
section
open Go.RowKit
theorem bY{w w':World}{row:Option Nat}(hg:w.grownBy w' row):Aside (fun k=>row=some k) w w':=⟨hg.os,hg.tape,hg.output,hg.size,fun k hk hf=>hg.block k hk (fun hc=>hf hc.symm)⟩
theorem ov{P:Program}(w:World)(t ty:TypeId)(base:Nat)(e:TypeId)(i:TypeInfo)(z:Value)(size bytes:Nat)(ht:P.underlying t=some (.slice e))(hi:P.info? e=some i)(hz:i.zero=some z)(hsize:i.size=size)(hby:i.bytes=bytes)(hzs:z.cells.size=size)(hsz:0<size)(v:Value)(n:Nat)(xs:List Value)(hown:w.ownsRow base e size v n xs)(ad:Addr)(m c:Nat)(news:List Value)(hl:news.length=m*size)(hnews:∀j u,news[j]?=some u->w.cell? (ad.add j)=some u)(h1:∀u∈news,u.oneCell'=true)(hm:0<m)(h63:n+m<=maxLen)(hbytes:((n+m)+(n+m) / 4+192)*bytes<=281474976710656)(hbase:base<=w.1.size):
  ∃g cap w',(Builtin.append_ #[t,t] ty #[v,.slice (some ad) m c]).run P w=.ok (.slice (some ⟨g,0,none⟩) (n+m) cap) w' ∧
   w'.ownsRow base e size (.slice (some ⟨g,0,none⟩) (n+m) cap) (n+m) (xs++news)∧w.grownBy w' v.ownBlock∧(v.ownBlock=some g∨w.1.size<=g)∧g<w'.1.size:=by
 obtain⟨v',w',hr,h2,h3,_⟩:=run_append_own_wide (P:=P) w base t ty e i z size bytes ht hi hz hsize hby hzs hsz v n xs hown ad m c news hl hnews h1 h63 hbytes hbase
 obtain⟨g,cap,rfl,_,hlt⟩:=h2.form (by omega)
 refine⟨g,cap,w',hr,h2,h3,?_,hlt⟩
 rcases hown.2 with ⟨rfl,rfl⟩ | ⟨g0,cap0,cur,rfl,hbg,hg,hnc,hcm,hcs,htake⟩
 ·have hx:xs=[]:=List.eq_nil_of_length_eq_zero (by simpa using hown.1)
  subst hx
  obtain⟨v2,w2,hr2,h22,_⟩:=run_append_own_wide (P:=P) w w.1.size t ty e i z size bytes ht hi hz hsize hby hzs hsz (.slice none 0 0) 0 [] (World.ownsRow_nil w w.1.size e size) ad m c news hl hnews h1 h63 hbytes vX
  obtain⟨g2,cap2,rfl,hb2,_⟩:=h22.form (by omega)
  rw[hr2] at hr
  injection hr with e1
  injection e1 with e1
  injection e1 with e1
  injection e1 with e1
  exact .inr (by omega)
 ·subst hsize hby
  have hsmall:n+m<=9223372036854775807:=by simp only[maxLen] at h63;omega
  by_cases hroom:n+m<=cap0
  ·have hfit:n*i.size+news.length<=cur.size:=by rw[hl,hcs,<-Nat.add_mul];exact Nat.mul_le_mul_right _ hroom
   have hr2:=run_append_room (P:=P) w t ty e i ht hi g0 n cap0 cur hg ad m c news hl hnews h1 hroom hfit
   rw[hr2] at hr
   injection hr with e1
   injection e1 with e1
   injection e1 with e1
   injection e1 with e1
   exact .inl (by rw[<-e1];rfl)
  ·have holds:∀j u,xs[j]?=some u->w.cell? ((⟨g0,0,none⟩:Addr).add j)=some u:=hown.cells (g:=g0) rfl
   have hr2:=run_append_grow (P:=P) w t ty e i z ht hi hz ⟨g0,0,none⟩ n cap0 xs hown.1 holds ad m c news hl hnews (by omega) (by omega) (growslice_fits_wide (by omega) hbytes)
   rw[hr2] at hr
   injection hr with e1
   injection e1 with e1
   injection e1 with e1
   injection e1 with e1
   exact .inr (by omega)
theorem ie(B:Nat)(v:Value)(xs l:L8)(p:OA)(c:Nat)(w:World)(hown:Has w B v xs)(h:At w p l)(hlen:xs.length+l.length<=200000000000000)(hB:B<=w.1.size):
  ∃(q:OA) (cap:Nat) (W:World),bC Tryz.prog 31 31 31 v (.slice p l.length c) w (.slice q (xs++l).length cap) W∧Has W B (.slice q (xs++l).length cap) (xs++l)∧Aside (fun k=>v.ownBlock=some k) w W∧(xs++l).length<=cap∧∀k,(Value.slice q (xs++l).length cap).ownBlock=some k->v.ownBlock=some k∨w.1.size<=k:=by
 obtain⟨i,hi,hz,hsz,hby⟩:=info_parts fZ
 by_cases h0:l=[]
 ·subst h0
  obtain⟨q,cap,rfl,-,hcap⟩:=hown.at
  rw[List.append_nil]
  exact⟨q,cap,w,⟨run_append_nothing (P:=Tryz.prog) w 31 31 31 5 i Tryz.underlying31 hi q xs.length cap hcap (.slice p 0 c) (by rw[hsz];exact fG c h)⟩,hown,Aside.refl _ _,hcap,fun k hk=>.inl hk⟩
 ·obtain⟨b,o,rfl,hbl,hc⟩:=bz h (List.length_pos_iff.2 h0)
  obtain⟨g,cap,W,hr,hm,hgr,hgb,_⟩:=ov (P:=Tryz.prog) w 31 31 B 5 i (.int .u8 0) 1 1 Tryz.underlying31 hi hz hsz hby rfl (by decide) v xs.length (cellsOf xs) hown ⟨b,o,none⟩ l.length c (cellsOf l) (by rw[aK,Nat.mul_one])
   (fun j u hj=>by
    have hj2:j<l.length:=by
     have:=(List.getElem?_eq_some_iff.1 hj).1
     simpa[cellsOf] using this
    rw[aY l j hj2] at hj
    cases hj
    rw[Lib.add_plain]
    exact hc j hj2)
   (fun u hu=>by obtain⟨_,_,rfl⟩:=List.mem_map.1 hu;rfl) (List.length_pos_iff.2 h0) (by unfold maxLen;omega) (by omega) hB
  rw[<-bL,<-List.length_append] at hm
  rw[<-List.length_append] at hr
  have hH:Has W B (.slice (some ⟨g,0,none⟩) (xs++l).length cap) (xs++l):=hm
  refine⟨some ⟨g,0,none⟩,cap,W,⟨hr⟩,hH,bY hgr,?_,?_⟩
  ·obtain⟨q',cap',he,_,h2⟩:=hH.at
   injection he with _ _ e2
   omega
  ·intro k hk
   simp only[Value.ownBlock,Option.some.injEq] at hk
   subst hk
   rcases hgb with h1 | h1
   ·exact .inl h1
   ·exact .inr (by omega)
theorem au{B:Nat}{v:Value}{xs l:L8}{p:OA}{c:Nat}{w:World}(hown:Has w B v xs)(h:At w p l)(hlen:xs.length+l.length<=200000000000000)(hB:B<=w.1.size){ops:Array Oper}{rest:List Oper}{o:Oper}{a:Act}{Q:Exit->Act->World->Prop}{y x:Operand}(ht:o.type=31)(hg:o.guard=none)(hop:o.op=Op.call { callee:=Callee.builtin Builtin.append,args:=#[y,x],argTypes:=#[31,31] })(hs:a.eval y=v)(hx:a.eval x=.slice p l.length c)(hK:∀ys q cap W,Hid (ys=xs++l)->Has W B (.slice q ys.length cap) ys->Aside (fun k=>v.ownBlock=some k) w W->(∀k,(Value.slice q ys.length cap).ownBlock=some k->v.ownBlock=some k∨w.1.size<=k)->wpList Tryz.prog ops Q rest (a.put o.dst (.slice q ys.length cap)) W):
  wpList Tryz.prog ops Q (o::rest) a w:=by
 obtain⟨q,cap,W,hr,hm,ha,-,hb⟩:=ie B v xs l p c w hown h hlen hB
 have hr':bC Tryz.prog 31 31 o.type v (.slice p l.length c) w (.slice q (xs++l).length cap) W:=by rw[ht];exact hr
 exact az hr' hg hop hs hx (hK _ q cap W (vQ rfl) hm ha hb)
theorem strCells_eq(t:ByteArray):Lib.strCells t=cellsOf t.data.toList:=by
 simp[Lib.strCells,cellsOf]
theorem qd(B:Nat)(v:Value)(xs:L8)(t:ByteArray)(w:World)(hown:Has w B v xs)(hlen:xs.length+t.size<=140737488355328)(hB:B<=w.1.size):
  ∃(q:OA) (cap:Nat) (W:World),bC Tryz.prog 31 9 31 v (.string t) w (.slice q (xs++t.data.toList).length cap) W∧Has W B (.slice q (xs++t.data.toList).length cap) (xs++t.data.toList)∧Aside (fun k=>v.ownBlock=some k) w W∧∀k,(Value.slice q (xs++t.data.toList).length cap).ownBlock=some k->v.ownBlock=some k∨w.1.size<=k:=by
 obtain⟨i,hi,hz,hsz,hby⟩:=info_parts fZ
 obtain⟨v',w',hr,h2,h3,h4⟩:=Lib.run_append_own_string (P:=Tryz.prog) w B 31 9 31 5 i Tryz.underlying31 Tryz.underlying9 hi hz hsz hby v xs.length (cellsOf xs) hown t (by unfold maxLen;omega) hlen hB
 have hs:t.data.toList.length=t.size:=by rw[Array.length_toList];rfl
 have hblk:∀k,v'.ownBlock=some k->v.ownBlock=some k∨w.1.size<=k:=by
  intro k hk
  rcases hown.2 with ⟨rfl,hn0⟩ | ⟨g,cap,cur,rfl,hbg,hg,hnc,hcm,hcs,htake⟩
  ·by_cases hm:t.size=0
   ·rw[h4.2 ⟨rfl,hm⟩] at hk
    simp[Value.ownBlock] at hk
   ·have hr2:=run_append_nil_string (P:=Tryz.prog) w 31 9 31 5 i (.int .u8 0) Tryz.underlying31 Tryz.underlying9 hi hz t (by omega) (by omega) (by rw[hby];omega)
    have e:=hr.symm.trans hr2
    injection e with e1 e2
    rw[e1] at hk
    simp only[Value.ownBlock,Option.some.injEq] at hk
    exact .inr (by omega)
  ·by_cases hroom:xs.length+t.size<=cap
   ·have hcs':cur.size=cap:=by simpa using hcs
    have hr2:=Lib.run_append_room_string (P:=Tryz.prog) w 31 9 31 5 i Tryz.underlying31 Tryz.underlying9 hi hsz g xs.length cap cur hg t hroom (by omega)
    have e:=hr.symm.trans hr2
    injection e with e1 e2
    rw[e1] at hk
    exact .inl hk
   ·have hxl:(cellsOf xs).length=xs.length:=aK xs
    have hr2:=Lib.run_append_grow_string (P:=Tryz.prog) w 31 9 31 5 i (.int .u8 0) Tryz.underlying31 Tryz.underlying9 hi hz ⟨g,0,none⟩ xs.length cap (cellsOf xs) (by rw[hsz,hxl,Nat.mul_one]) (World.ownsRow.cells (g:=g) hown rfl) t (by omega) (by omega) (by rw[hby];exact growslice_fits (by omega) (by omega))
    have e:=hr.symm.trans hr2
    injection e with e1 e2
    rw[e1] at hk
    simp only[Value.ownBlock,Option.some.injEq] at hk
    exact .inr (by omega)
 rw[strCells_eq,<-bL,<-hs,<-List.length_append] at h2
 have hH:Has w' B v' (xs++t.data.toList):=h2
 obtain⟨q,cap,rfl,-,-⟩:=hH.at
 exact⟨q,cap,w',⟨hr⟩,hH,bY h3,hblk⟩
theorem eV{B:Nat}{v:Value}{xs:L8}{t:ByteArray}{w:World}(hown:Has w B v xs)(hlen:xs.length+t.size<=140737488355328)(hB:B<=w.1.size){ops:Array Oper}{rest:List Oper}{o:Oper}{a:Act}{Q:Exit->Act->World->Prop}{y x:Operand}(ht:o.type=31)(hg:o.guard=none)(hop:o.op=Op.call { callee:=Callee.builtin Builtin.append,args:=#[y,x],argTypes:=#[31,9] })(hs:a.eval y=v)(hx:a.eval x=.string t)(hK:∀ys q cap W,Hid (ys=xs++t.data.toList)->Has W B (.slice q ys.length cap) ys->Aside (fun k=>v.ownBlock=some k) w W->(∀k,(Value.slice q ys.length cap).ownBlock=some k->v.ownBlock=some k∨w.1.size<=k)->wpList Tryz.prog ops Q rest (a.put o.dst (.slice q ys.length cap)) W):
  wpList Tryz.prog ops Q (o::rest) a w:=by
 obtain⟨q,cap,W,hr,hm,ha,hb⟩:=qd B v xs t w hown hlen hB
 have hr':bC Tryz.prog 31 9 o.type v (.string t) w (.slice q (xs++t.data.toList).length cap) W:=by rw[ht];exact hr
 exact az hr' hg hop hs hx (hK _ q cap W (vQ rfl) hm ha hb)
theorem ar{B:Nat}{v:Value}{xs:L8}{w W:World}(ha:Aside (fun k=>v.ownBlock=some k) w W)(hown:Has w B v xs)(hB:B<=w.1.size):Below B w W :=
 ha.below hB (fun k hk hc=>by have:=(hown.lt k hc).1;omega)
theorem bF{B:Nat}{w:World}(l:L8){C:AV}(hC:C=(cellsOf l).toArray)(hB:B<=w.1.size)(hl:l.length<=1000000):Has (w.alloc (.cells C 5)) B (.slice (some ⟨w.1.size,0,none⟩) l.length l.length) l:=by
 subst hC
 refine⟨by rw[aK,Nat.mul_one],.inr ⟨w.1.size,l.length,(cellsOf l).toArray,rfl,hB,bK w _,vX,by unfold maxLen;omega,by simp[cellsOf],?_⟩⟩
 rw[List.toList_toArray,Nat.mul_one,List.take_of_length_le (by rw[aK];exact vX)]
theorem Has.on{B:Nat}{w w':World}{v:Value}{l:L8}(h:Has w B v l)(hb:Below w.1.size w w'):Has w' B v l:=h.aside (ae hb (fun _=>False)) (fun _ _ hc=>hc)
theorem Has.lower{B B':Nat}{w:World}{v:Value}{l:L8}(h:Has w B v l)(hB:B'<=B):Has w B' v l:=h.low hB
theorem kd{B:Nat}{v:Value}{xs:L8}{w:World}{H:Nat}(hH:w.1.size=H)(hown:Has w B v xs)(c:UInt8)(hlen:xs.length+1<=200000000000000)(hB:B<=w.1.size){z:Int}{ops:Array Oper}{rest:List Oper}{o:Oper}{a:Act}{Q:Exit->Act->World->Prop}{s x:Operand}(hz:z=(c.toNat:Int))(ht:o.type=31)(hg:o.guard=none)(hop:o.op=Op.call { callee:=Callee.builtin Builtin.append,args:=#[s,x],argTypes:=#[31,31] })(hs:a.eval s=v)(hx:a.eval x=.slice (some ⟨H,0,none⟩) 1 1)(hK:∀g cap W,bh W B g cap (xs++[c])->Below B w W->wpList Tryz.prog ops Q rest (a.put o.dst (.slice (some ⟨g,0,none⟩) (xs.length+1) cap)) W):
  wpList Tryz.prog ops Q (o::rest) a (w.alloc (.cells #[.int .u8 z] 5)):=by
 subst hH
 exact aV hown c hlen hB hz ht hg hop hs hx hK
end
section
open Go.RowKit
def textOf(l:L8):ByteArray:=⟨l.toArray⟩
theorem fS(l:L8):(textOf l).data.toList=l:=by simp[textOf]
theorem fm{w:World}{p:OA}{l:L8}(h:At w p l)(c:Nat):(convert 31 9 (.slice p l.length c)).run Tryz.prog w=.ok (.string (textOf l)) w:=by
 have hu:Tryz.prog.underlying 5=some (.int .u8):=Tryz.underlying5
 rcases h with rfl | ⟨b,o,rfl,hb,hc⟩
 ·rw[run_convert_bytes_string w 31 9 5 _ _ c Tryz.underlying31 hu Tryz.underlying9]
  cases p with
  |none=>
   simp[Conv.bytesToString,textOf,ByteArray.empty,ByteArray.emptyWithCapacity]
   rfl
  |some a=>
   have hl:(loadCells a 0).run Tryz.prog w=.ok ((([]:List Int).map (Value.int .u8)).toArray) w:=by
    have:=run_loadCells_list (P:=Tryz.prog) w a [] (fun j v hj=>by simp at hj)
    simpa using this
   rw[List.length_nil,run_bytesToString w a 0 c [] hl]
   rfl
 ·have h:=run_convert_bytes_arg (P:=Tryz.prog) w 31 5 Tryz.underlying31 hu b o l.length c (l.map fun x=>(x.toNat:Int)) (by simp) (fun i hi=>by
   rw[hc i hi]
   simp[hi]) 9 Tryz.underlying9
  rw[h]
  congr 2
  show(⟨_⟩:ByteArray)=⟨_⟩
  congr 1
  rw[List.map_map]
  congr 1
  have:(l.map ((fun n:Int=>UInt8.ofNat n.toNat) ∘ fun x:UInt8=>(x.toNat:Int)))=l.map id:=List.map_congr_left (fun x _=>by simp)
  rw[this,List.map_id]
theorem cT{P:Program}{fn:Func}{p u v:Tmp}{ty:TypeId}(h:fn.results=#[.cell p ty,.tmp u,.tmp v])(tmps:AV)(w:World)(g:Nat)(t:TypeId)(cs:AV)(fr:Nat×Nat)(d:TypeDesc)(hp:tmps.getD p undef=.pointer (some ⟨g,0,none⟩))(hg:w.1[g]?=some (.cells cs t fr))(hu:P.underlying ty=some d)(hd:(match d with | .struct _ | .array _ _=>true | _=>false)=true)(hi:(P.info? ty).map (·.size)=some cs.size):
  (results fn tmps).run P w=.ok (.tuple #[.agg cs,tmps.getD u undef,tmps.getD v undef]) w:=by
 have hp':tmps[p]?.getD undef=.pointer (some ⟨g,0,none⟩):=by simpa using hp
 simp[results,h,hp',asAddr,run_loadVar_row w g t ty cs fr d hg hu hd hi]
theorem cU{P:Program}{fn:Func}{p u:Tmp}{ty:TypeId}(h:fn.results=#[.cell p ty,.tmp u])(tmps:AV)(w:World)(g:Nat)(t:TypeId)(cs:AV)(fr:Nat×Nat)(d:TypeDesc)(hp:tmps.getD p undef=.pointer (some ⟨g,0,none⟩))(hg:w.1[g]?=some (.cells cs t fr))(hu:P.underlying ty=some d)(hd:(match d with | .struct _ | .array _ _=>true | _=>false)=true)(hi:(P.info? ty).map (·.size)=some cs.size):
  (results fn tmps).run P w=.ok (.tuple #[.agg cs,tmps.getD u undef]) w:=by
 have hp':tmps[p]?.getD undef=.pointer (some ⟨g,0,none⟩):=by simpa using hp
 simp[results,h,hp',asAddr,run_loadVar_row w g t ty cs fr d hg hu hd hi]
end
end Go.Proofs.YtlgfdgdlaahpfaaGreatDoor
