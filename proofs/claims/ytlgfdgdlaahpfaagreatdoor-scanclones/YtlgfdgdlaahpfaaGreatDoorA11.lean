import Derived.Test.YtlgfdgdlaahpfaaGreatDoorA8
namespace Go.Proofs.YtlgfdgdlaahpfaaGreatDoor
section
open Go.RowKit
def eR(w:World)(B:Nat)(v:Value)(l:List Int):Prop:=w.ownsRow B 2 1 v l.length (l.map fun n=>Value.int .i64 n)
section
variable {w w':World} {B:Nat} {v:Value} {l:List Int}
theorem eR.lt(h:eR w B v l):∀k,v.ownBlock=some k->B<=k∧k<w.1.size:=World.ownsRow.lt h
theorem eR.aside{F:Nat->Prop}(h:eR w B v l)(ha:Aside F w w')(hp:∀k,v.ownBlock=some k->¬F k):eR w' B v l:=by
 refine⟨h.1,?_⟩
 rcases h.2 with h1 | ⟨g,cap,cur,rfl,h2,h3,h4⟩
 ·exact .inl h1
 ·refine .inr ⟨g,cap,cur,rfl,h2,?_,h4⟩
  rw[ha.block g (Array.getElem?_eq_some_iff.1 h3).1 (hp g rfl)]
  exact h3
theorem eR.on(h:eR w B v l)(hb:Below w.1.size w w'):eR w' B v l:=h.aside (ae hb (fun _=>False)) (fun _ _ hc=>hc)
theorem eR.ints(h:eR w B v l):∃p c,v=.slice p l.length c∧l.length<=c∧(l=[]∨∃g,p=some ⟨g,0,none⟩∧B<=g∧Ints w g l):=by
 rcases h.2 with ⟨rfl,h0⟩ | ⟨g,cap,cur,rfl,h1,h2,h3,h4,h5,h6⟩
 ·have h0':=List.eq_nil_of_length_eq_zero h0
  subst h0'
  exact⟨none,0,rfl,vX,.inl rfl⟩
 ·refine⟨_,cap,rfl,h3,.inr ⟨g,rfl,h1,(Array.getElem?_eq_some_iff.1 h2).1,fun j hj=>?_⟩⟩
  have h7:(l.map fun n=>Value.int .i64 n)[j]?=some (.int .i64 l[j]):=by simp[hj]
  rw[<-h7,<-h6,List.getElem?_take_of_lt (by omega)]
  simp[World.cell?,h2]
end
theorem uN:(Tryz.prog.info? 2).map (fun i=>(i.zero,i.size,i.bytes))=some (some (.int .i64 0),1,8):=by kernel_rfl
end
section
open Go.RowKit
structure lw(w2 wr:World)(n0 n1 n2:Nat)(v:Value)(es:List Ent):Prop where
 bX:wr.1[w2.1.size]?=some (.cells #[.int .i64 n0,.int .i64 n1,.int .i64 n2,v] 34 (0,0))
 own:bf wr (w2.1.size+1) v es
 keep:Below w2.1.size w2 wr
theorem lw.size{w2 wr:World}{n0 n1 n2:Nat}{v:Value}{es:List Ent}(h:lw w2 wr n0 n1 n2 v es):w2.1.size<wr.1.size:=aw h.bX
theorem lw.on{w2 wr w':World}{n0 n1 n2:Nat}{v:Value}{es:List Ent}(h:lw w2 wr n0 n1 n2 v es)(hb:Below wr.1.size wr w'):lw w2 w' n0 n1 n2 v es :=
 ⟨(hb.block _ h.size).trans h.bX,h.own.on hb,h.keep.trans (hb.mono (Nat.le_of_lt h.size))⟩
theorem lw.more{w2 w3 w4:World}{n0 n1 n2 g cap:Nat}{v:Value}{es:List Ent}{x:Ent}{o:Obj}(h:lw w2 w3 n0 n1 n2 v es)(hn:bf w4 (w2.1.size+1) (.slice (some ⟨g,0,none⟩) (es.length+1) cap) (es++[x]))(hg:(w3.alloc o).grownBy w4 v.ownBlock):
  w4.1[w2.1.size]?=some (.cells #[.int .i64 n0,.int .i64 n1,.int .i64 n2,v] 34 (0,0))∧lw w2 (w4.setCell ⟨w2.1.size,3,none⟩ (.slice (some ⟨g,0,none⟩) (es.length+1) cap)) n0 n1 n2 (.slice (some ⟨g,0,none⟩) (es.length+1) cap) (es++[x]):=by
 have hs:=h.size
 have hs1:(w3.alloc o).1.size=w3.1.size+1:=by simp
 have hgs:=hg.size
 have hlow:∀k,k<=w2.1.size->w4.1[k]?=w3.1[k]?:=fun k hk=>by
  rw[hg.block k (by omega) (fun hc=>by have:=(h.own.lt k hc.symm).1;omega)]
  exact aD _ _ (by omega)
 have hX4:=(hlow _ vX).trans h.bX
 have ha4:Aside (fun i=>i=w2.1.size) w4 (w4.setCell ⟨w2.1.size,3,none⟩ (.slice (some ⟨g,0,none⟩) (es.length+1) cap)):=af _ _ _ _
 refine⟨hX4,?_,?_,?_⟩
 ·exact ap hX4 3 (.slice (some ⟨g,0,none⟩) (es.length+1) cap)
 ·exact hn.aside ha4 (fun k hk he=>by have:=(hn.lt k hk).1;omega)
 ·have h34:Below w2.1.size w3 w4:=by
   refine⟨?_,?_,?_,by omega,fun k hk=>hlow k (by omega)⟩
   ·exact hg.os
   ·exact hg.tape
   ·exact hg.output
  exact(h.keep.trans h34).trans (ha4.below (by omega) (fun k hk=>by omega))
end
section
open Go.RowKit
theorem lJ{w w':World}{B:Nat}{u:AV}{s:List Col}{G:Nat->Prop}(h:cL w B u s)(ha:Aside G w w')(hG:∀k,B<=k->k<w.1.size->¬G k):cL w' B u s:=by
 obtain⟨v,us,Fs,rfl,hb,hl⟩:=h.out
 exact⟨v,us,Fs,rfl,hb.aside ha (fun g hg=>hG g (hb.lt g hg).1 (hb.lt g hg).2) (fun j hj k hk=>hG k (hb.range j hj k hk).1 (hb.range j hj k hk).2),hl⟩
theorem cV.aside{w w':World}{B:Nat}{u:AV}{f:Fr}{G:Nat->Prop}(h:cV w B u f)(ha:Aside G w w')(hG:∀k,B<=k->k<w.1.size->¬G k):cV w' B u f:=by
 obtain⟨sp,sc,bp,bc,ep,ec,h0,h1,h2,h3,h4,h5⟩:=h.out
 exact⟨sp,sc,bp,bc,ep,ec,h0,lJ h1 ha hG,h2.aside ha (fun k hk=>hG k (h2.lt k hk).1 (h2.lt k hk).2),h3,h4.aside ha (fun k hk=>hG k (h4.lt k hk).1 (h4.lt k hk).2),h5⟩
theorem cV.low{w:World}{B B':Nat}{u:AV}{f:Fr}(h:cV w B u f)(hB:B'<=B):cV w B' u f:=by
 obtain⟨sp,sc,bp,bc,ep,ec,h0,h1,h2,h3,h4,h5⟩:=h.out
 exact⟨sp,sc,bp,bc,ep,ec,h0,eW h1 hB,h2.low hB,h3,h4.low hB,h5⟩
end
section
open Go.RowKit
end
end Go.Proofs.YtlgfdgdlaahpfaaGreatDoor
