import Derived.Test.YtlgfdgdlaahpfaaGreatDoorB37
import Derived.Test.YtlgfdgdlaahpfaaGreatDoorB36
set_option maxRecDepth 100000
set_option maxHeartbeats 4000000
namespace Go.Proofs.YtlgfdgdlaahpfaaGreatDoor
section
open Go.RowKit Go.Maps
structure WhI(w wr:World)(B g x k:Nat)(v:Value)(s:Dv.St)(G:Nat->Prop)(j:Nat)(X:Sc.Pos):Prop where
 dev:aE wr B g v { s with told:=s.told+X.read } x k
 walk:∃v' g',ao wr w.1.size (w.1.size+1) w.1.size j v' g' X.wk G
 aside:Aside (fun i=>i=g) w wr
 goes:Sc.goes s.b j=some X
section
variable {w:World} {B g x k:Nat} {v:Value} {s:Dv.St} {G:Nat->Prop}
theorem ao.far{w1:World}{B a M n:Nat}{v:Value}{g:Int->Option Value}{s:Wk}{G:Nat->Prop}(h:ao w1 B a M n v g s G){i:Nat}(hi:aQ a M v i):B<=i:=by
 rcases hi with hi | hi | hi
 ·rw[hi];exact h.base.1
 ·rw[hi];exact h.base.2
 ·exact(h.ents.lt i hi).1
theorem WhI.after{w1 w2:World}{n:Nat}{Y:Dv.St}{sw:Wk}{v1:Value}{g1:Int->Option Value}(hd:aE w1 B g v Y x k)(hw:ao w1 w.1.size (w.1.size+1) w.1.size n v1 g1 sw G)(ha:Aside (fun i=>i=g) w w1)(ha2:Aside (aQ (w.1.size+1) w.1.size v1) w1 w2)(hG:∀i,i=g∨v.ownBlock=some i->G i)(hg:g<w.1.size):
  aE w2 B g v Y x k∧Aside (fun i=>i=g) w w2:=by
 refine⟨hd.aside ha2 (fun hc=>?_) (fun i hi hc=>?_),ha.trans ha2 (fun i hi hc=>?_)⟩
 ·have:=hw.far hc;omega
 ·have h3:=hw.off i (hG i (.inr hi))
  rcases hc with hc | hc | hc
  ·exact h3.1 hc
  ·exact h3.2.1 hc
  ·exact h3.2.2 hc
 ·have:=hw.far hc;omega
end
end
section
open Go.RowKit Go.Maps
def uU(o:Option Kn)(w:World)(e:Ending)(w':World):Prop:=match o with
 |none=>e=.returned (.tuple #[.agg #[.slice none 0 0],.bool false])
 |some k=>∃q cap,e=.returned (.tuple #[.agg #[.slice q k.cols.length cap],.bool true])∧cL w' w.1.size #[.slice q k.cols.length cap] k.cols
theorem sC{s:List Col}(h:∀c∈s,c.fix=c∧c.wf):s.map Col.fix=s:=by
 conv=>rhs;rw[<-List.map_id s]
 exact List.map_congr_left fun c hc=>(h c hc).1
theorem nl{w:World}{B a M n:Nat}{v:Value}{g:Int->Option Value}{s:Wk}{G:Nat->Prop}(h:ao w B a M n v g s G)(m:Int)(hm:Fr.i64 m):Calls Tryz.prog 18 #[.pointer (some ⟨a,0,none⟩),.int .i64 m] w fun e w'=>uU (s.sch m) w e w'∧Below w.1.size w w':=by
 obtain⟨W0,hW0⟩:∃W0,W0=w.alloc (.cells #[.slice none 0 0] 30):=⟨_,rfl⟩
 have hb0:Below w.1.size w W0:=by rw[hW0];exact vY
 have hbk:W0.1[w.1.size]?=some (.cells #[.slice none 0 0] 30):=by rw[hW0];exact ag w _
 have h0:=h.on hb0
 have c0:∀o,(w.alloc o).cell? ⟨a,0,none⟩=some (.map (some M)):=fun o=>ab (vZ.alloc vX o) (h.cell 0)
 have hz0:W0.1.size=w.1.size+1:=by rw[hW0];simp
 have hlk:=h0.map.look_ok hm
 cases hs:s.sch m with
 |none=>
  rw[h.unknown hs] at hlk
  simp only[Option.getD_none,Option.isSome_none,ey] at hlk
  rw[hW0] at hlk
  have HB:Hid (∀o,Below w.1.size w ((w.alloc (.cells #[.slice none 0 0] 30)).alloc o)):=fun o=>vY.alloc (by simp) _
  have HBk:Hid (∀o,((w.alloc (.cells #[.slice none 0 0] 30)).alloc o).1[w.1.size]?=some (.cells #[.slice none 0 0] 30)):=fun o=>by
   have hk:=(aD W0 o (aw hbk)).trans hbk
   rw[hW0] at hk
   exact hk
  have y0:∀o,((w.alloc (.cells #[.slice none 0 0] 30)).alloc o).cell? ⟨w.1.size,0,none⟩=some (.slice none 0 0):=fun o=>by have:=aa ((aD W0 o (aw hbk)).trans hbk) 0;rw[hW0] at this;exact this
  have y1:∀o,((w.alloc (.cells #[.slice none 0 0] 30)).alloc o).frozen? ⟨w.1.size,0,none⟩=false:=fun o=>by have:=ac ((aD W0 o (aw hbk)).trans hbk) 0;rw[hW0] at this;exact this
  clear h h0 hs hW0 hb0 hbk hz0
  go_enter Tryz.func18,Tryz.ntmps18
  go_wp2
  refine bodyPost_ret (cU rfl _ _ w.1.size _ _ _ _ rfl (HBk.out _) Tryz.underlying30 rfl (by kernel_rfl)) rfl ?_
  exact⟨rfl,HB.out _⟩
 |some k=>
  obtain⟨p,c,e1,e2,e3,e4⟩:=h0.known hs
  obtain⟨-,k2,k3,-⟩:=h.good.known m k hs
  rw[e1] at hlk
  simp only[Option.getD_some,Option.isSome_some] at hlk
  rw[hW0] at hlk
  obtain⟨W1,hW1⟩:∃W1,W1=W0.alloc (.cells #[.slice p k.cols.length c,.int .i64 k.place] 95):=⟨_,rfl⟩
  have hb1:Below W0.1.size W0 W1:=by rw[hW1];exact vY
  have HC:=vQ (nD k.cols p c W1 e2 (e4.on hb1) k2 (fun x hx=>(k3 x hx).2))
  rw[sC k3] at HC
  have HW1:Hid ((w.alloc (.cells #[.slice none 0 0] 30)).alloc (.cells #[.slice p k.cols.length c,.int .i64 k.place] 95)=W1):=by rw[hW1,hW0];exact rfl
  have HB1:=vQ (hb0.trans (hb1.mono hb0.size))
  have HBk:=vQ ((hb1.block _ (aw hbk)).trans hbk)
  have hz1:W1.1.size=w.1.size+2:=by rw[hW1];simp[hz0]
  obtain⟨nn,hnn⟩:∃nn,nn=k.cols.length:=⟨_,rfl⟩
  rw[<-hnn] at HC HW1 hlk
  have HNn:=vQ hnn
  clear h h0 hs hW0 hb0 hbk hW1 hb1 e1 e2 e3 e4 k2 k3 hz0 hnn
  go_enter Tryz.func18,Tryz.ntmps18
  go_wp2_with fail
  rw[HW1.out]
  refine HC.out.mono ?_
  rintro e w2 ⟨q,cap,rfl,ho,hb2⟩
  have hbk2:=(hb2.block _ (by omega)).trans HBk.out
  have x0:w2.cell? ⟨w.1.size,0,none⟩=some (.slice none 0 0):=aa hbk2 0
  have x1:=ac hbk2 0
  have ha:Aside (fun i=>i=w.1.size) w2 (w2.setCell ⟨w.1.size,0,none⟩ (.slice q nn cap)):=(Aside.refl (fun i=>i=w.1.size) w2).setCell (p:=⟨w.1.size,0,none⟩) (.inl rfl) _
  have HO:Hid (cL (w2.setCell ⟨w.1.size,0,none⟩ (.slice q nn cap)) w.1.size #[.slice q nn cap] k.cols):=eN (ho.beside ha (fun i hi=>by omega)) (by omega)
  have HB2:Hid (Below w.1.size w (w2.setCell ⟨w.1.size,0,none⟩ (.slice q nn cap))):=(HB1.out.trans (hb2.mono HB1.out.size)).trans (ha.below (by have:=hb2.size;omega) (fun i hi hc=>by omega))
  have HBf:Hid ((w2.setCell ⟨w.1.size,0,none⟩ (.slice q nn cap)).1[w.1.size]?=some (.cells #[.slice q nn cap] 30)):=by
   show _=_
   simp only[World.setCell,Array.getElem?_modify,hbk2,if_true,Option.map_some]
   rfl
  clear ho hb2 hbk2 ha HC
  go_wp2
  refine bodyPost_ret (cU rfl _ _ w.1.size _ _ _ _ rfl HBf.out Tryz.underlying30 rfl (by kernel_rfl)) rfl ?_
  have e0:=HNn.out
  subst e0
  exact⟨⟨q,cap,rfl,HO.out⟩,HB2.out⟩
end
end Go.Proofs.YtlgfdgdlaahpfaaGreatDoor
