import Derived.Test.YtceomhodhmcknaaGreatDoorB42
import Derived.Test.YtceomhodhmcknaaGreatDoorB15
import Derived.Test.YtceomhodhmcknaaGreatDoorB19
set_option maxRecDepth 100000
set_option maxHeartbeats 2000000
namespace Go.Proofs.YtceomhodhmcknaaGreatDoor
variable{B g:Nat}{w w' w1:World}{c0 c1 c10 c2 c3 c4 c5 c6 c7 c8 c9:Value}{C u:AV}{T:TypeId}{s:List Col}
section
open Go.RowKit Go.Maps
theorem eX{B':Nat}(h:dn w B u s)(hB:B'<=B):dn w B' u s:=by
 obtain⟨v,us,Fs,e,hb,hl⟩:=h.out
 exact⟨v,us,Fs,e,hb.low hB,hl⟩
theorem dn.beside{F:Nat->Prop}(h:dn w B u s)(ha:Aside F w w')(hF:∀k,F k->k<B):dn w' B u s:=by
 obtain⟨v,us,Fs,rfl,hb,hl⟩:=h.out
 exact⟨v,us,Fs,rfl,hb.aside ha (fun g hg hf=>by have:=(hb.lt g hg).1;have:=hF g hf;omega) (fun j hj k hk hf=>by have:=(hb.range j hj k hk).1;have:=hF k hf;omega),hl⟩
theorem oJ(s:List Col)(p:OA)(c:Nat)(w:World)(hs:s.length*120<=140737488351232)(hx:bw w p s)(he:Sch.err s=0)(hw:∀x∈s,x.wf):
  Calls Tryz.prog 81 #[.agg #[.slice p s.length c]] w fun e w'=>∃q cap,e=.returned (.agg #[.slice q s.length cap])∧dn w' w.1.size #[.slice q s.length cap] (s.map Col.fix)∧Below w.1.size w w':=by
 obtain⟨W0,hW0⟩:∃W0,W0=(w.alloc (.cells #[.slice p s.length c] 53)).alloc (.cells #[.slice none 0 0] 53):=⟨_,rfl⟩
 have HB0:Hid (Below w.1.size w W0):=by rw[hW0];exact xY.alloc (by simp) _
 have hK0:W0.1[w.1.size+1]?=some (.cells #[.slice none 0 0] 53):=by
  rw[hW0]
  have:=ap (w.alloc (.cells #[.slice p s.length c] 53)) (.cells #[.slice none 0 0] 53)
  simpa using this
 have HK0:=xQ hK0
 have HW0:Hid ((w.alloc (.cells #[.slice p s.length c] 53)).alloc (.cells #[.slice none 0 0] 53)=W0):=hW0.symm
 have HE:=xQ (kp s p c W0 hs (hx.on HB0.out) hw)
 have hb:encB s=Sch.bytes s:=by unfold encB;rw[if_pos he]
 have hle:(Sch.bytes s).length<=1024:=(Sch.err_open he).2.2.2
 have hrd:=Sch.read_put he hw
 rw[hb,he] at HE
 have HR:=xQ hrd
 have hz0:W0.1.size=w.1.size+2:=by rw[hW0];simp
 obtain⟨bs,hbs⟩:∃bs,bs=Sch.bytes s:=⟨_,rfl⟩
 rw[<-hbs] at HE hle HR
 clear hW0 hx he hw hb hrd hbs hK0
 go_enter Tryz.func81,Tryz.ntmps81
 go_wp2_with fail
 rw[HW0.out]
 refine HE.out.mono ?_
 rintro e w1 ⟨q,cap,rfl,hA,hc,hb1⟩
 have HD:=xQ (oI q bs cap (by omega) hc w1 hA)
 rw[HR.out] at HD
 have HB1:=xQ (HB0.out.trans (hb1.mono HB0.out.size))
 have HK1:=xQ ((hb1.block _ (by omega)).trans HK0.out)
 have hz1:=hb1.size
 clear hA hc hb1 HE HK0 HW0
 go_wp2_with fail
 refine HD.out.mono ?_
 rintro e w2 ⟨u,rfl,ho,hb2⟩
 obtain⟨p2,c2,hu,hl2,hc2,-⟩:=ho.lies.out
 rw[List.length_map] at hu hl2 hc2
 subst hu
 obtain⟨W3,hW3⟩:∃W3,W3=(w2.alloc (.cells #[.slice p2 s.length c2] 53)).setCell ⟨w.1.size+1,0,none⟩ (.slice p2 s.length c2):=⟨_,rfl⟩
 have hK2:=(hb2.block _ (ao HK1.out)).trans HK1.out
 have hz2:=hb2.size
 have ha:Aside (fun k=>k=w.1.size+1) w2 W3:=by
  rw[hW3]
  exact((Aside.refl (fun k=>k=w.1.size+1) w2).alloc _).setCell (p:=⟨w.1.size+1,0,none⟩) (.inl rfl) _
 have HK3:Hid (W3.1[w.1.size+1]?=some (.cells #[.slice p2 s.length c2] 53)):=by
  show _=_
  rw[hW3]
  simp only[World.setCell,Array.getElem?_modify,az _ _ (ao hK2),hK2,if_true,Option.map_some]
  rfl
 have HO:Hid (dn W3 w.1.size #[.slice p2 s.length c2] (s.map Col.fix)):=eX (ho.beside ha (fun k hk=>by omega)) (by omega)
 have HB3:Hid (Below w.1.size w W3):=(HB1.out.trans (hb2.mono HB1.out.size)).trans (ha.below (by omega) (fun k hk hc=>by omega))
 have y1:∀o,(w2.alloc o).cell? ⟨w.1.size+1,0,none⟩=some (.slice none 0 0):=fun o=>aa ((az _ _ (ao hK2)).trans hK2) 0
 have y2:∀o,(w2.alloc o).frozen? ⟨w.1.size+1,0,none⟩=false:=fun o=>by simp[World.frozen?,(az w2 o (ao hK2)).trans hK2]
 have HW3:=xQ hW3
 clear ho hb2 hl2 hc2 ha hW3 hK2 HD HR HB1 HK1
 go_wp2
 rw[<-HW3.out]
 refine bodyPost_ret (results_cell_row rfl _ _ (w.1.size+1) _ _ _ _ rfl HK3.out Tryz.underlying53 rfl (by kernel_rfl)) rfl ?_
 exact⟨p2,c2,rfl,HO.out,HB3.out⟩
end
section
open Go.RowKit
theorem dL(h:w.1[g]?=some (.cells #[c0,c1,c2,c3,c4,c5,c6,c7,c8,c9,c10] T (0,0))):w.cell? ⟨g,0,none⟩=some c0∧w.cell? ⟨g,1,none⟩=some c1∧w.cell? ⟨g,2,none⟩=some c2∧w.cell? ⟨g,3,none⟩=some c3∧w.cell? ⟨g,4,none⟩=some c4∧w.cell? ⟨g,5,none⟩=some c5∧w.cell? ⟨g,6,none⟩=some c6∧w.cell? ⟨g,7,none⟩=some c7∧w.cell? ⟨g,8,none⟩=some c8∧w.cell? ⟨g,9,none⟩=some c9∧w.cell? ⟨g,10,none⟩=some c10 :=
 ⟨aa h 0,aa h 1,aa h 2,aa h 3,aa h 4,aa h 5,aa h 6,aa h 7,aa h 8,aa h 9,aa h 10⟩
theorem iO(h:w.1[g]?=some (.cells C T (0,0))):w.frozen? ⟨g,0,none⟩=false∧w.frozen? ⟨g,1,none⟩=false∧w.frozen? ⟨g,2,none⟩=false∧w.frozen? ⟨g,3,none⟩=false∧w.frozen? ⟨g,4,none⟩=false∧w.frozen? ⟨g,5,none⟩=false∧w.frozen? ⟨g,6,none⟩=false∧w.frozen? ⟨g,7,none⟩=false∧w.frozen? ⟨g,8,none⟩=false∧w.frozen? ⟨g,9,none⟩=false∧w.frozen? ⟨g,10,none⟩=false :=
 ⟨ac h 0,ac h 1,ac h 2,ac h 3,ac h 4,ac h 5,ac h 6,ac h 7,ac h 8,ac h 9,ac h 10⟩
theorem gI(h:w.1[g]?=some (.cells #[c0,c1,c2,c3,c4,c5,c6,c7,c8,c9,c10] T (0,0))):(∀o,(w.alloc o).cell? ⟨g,0,none⟩=some c0)∧(∀o,(w.alloc o).cell? ⟨g,1,none⟩=some c1)∧(∀o,(w.alloc o).cell? ⟨g,2,none⟩=some c2)∧(∀o,(w.alloc o).cell? ⟨g,3,none⟩=some c3)∧(∀o,(w.alloc o).cell? ⟨g,4,none⟩=some c4)∧(∀o,(w.alloc o).cell? ⟨g,5,none⟩=some c5)∧(∀o,(w.alloc o).cell? ⟨g,6,none⟩=some c6)∧(∀o,(w.alloc o).cell? ⟨g,7,none⟩=some c7)∧(∀o,(w.alloc o).cell? ⟨g,8,none⟩=some c8)∧(∀o,(w.alloc o).cell? ⟨g,9,none⟩=some c9)∧(∀o,(w.alloc o).cell? ⟨g,10,none⟩=some c10):=by
 have hk:∀o,(w.alloc o).1[g]?=some (.cells #[c0,c1,c2,c3,c4,c5,c6,c7,c8,c9,c10] T (0,0)):=fun o=>(az w o (ao h)).trans h
 exact⟨fun o=>aa (hk o) 0,fun o=>aa (hk o) 1,fun o=>aa (hk o) 2,fun o=>aa (hk o) 3,fun o=>aa (hk o) 4,fun o=>aa (hk o) 5,fun o=>aa (hk o) 6,fun o=>aa (hk o) 7,fun o=>aa (hk o) 8,fun o=>aa (hk o) 9,fun o=>aa (hk o) 10⟩
theorem fF(h:w.1[g]?=some (.cells C T (0,0))):(∀o,(w.alloc o).frozen? ⟨g,0,none⟩=false)∧(∀o,(w.alloc o).frozen? ⟨g,1,none⟩=false)∧(∀o,(w.alloc o).frozen? ⟨g,2,none⟩=false)∧(∀o,(w.alloc o).frozen? ⟨g,3,none⟩=false)∧(∀o,(w.alloc o).frozen? ⟨g,4,none⟩=false)∧(∀o,(w.alloc o).frozen? ⟨g,5,none⟩=false)∧(∀o,(w.alloc o).frozen? ⟨g,6,none⟩=false)∧(∀o,(w.alloc o).frozen? ⟨g,7,none⟩=false)∧(∀o,(w.alloc o).frozen? ⟨g,8,none⟩=false)∧(∀o,(w.alloc o).frozen? ⟨g,9,none⟩=false)∧(∀o,(w.alloc o).frozen? ⟨g,10,none⟩=false):=by
 have hk:∀o,(w.alloc o).1[g]?=some (.cells C T (0,0)):=fun o=>(az w o (ao h)).trans h
 exact⟨fun o=>ac (hk o) 0,fun o=>ac (hk o) 1,fun o=>ac (hk o) 2,fun o=>ac (hk o) 3,fun o=>ac (hk o) 4,fun o=>ac (hk o) 5,fun o=>ac (hk o) 6,fun o=>ac (hk o) 7,fun o=>ac (hk o) 8,fun o=>ac (hk o) 9,fun o=>ac (hk o) 10⟩
end
section
open Go.RowKit Go.Maps
section
variable {w:World} {B a M n:Nat} {v:Value} {g:Int->Option Value} {s:Wk} {G:Nat->Prop}
theorem lZ(pp:OA)(nn cc:Nat)(P:Int)(w:World):(Instr.field 143 (.agg #[.slice pp nn cc,.int .i64 P]) 1).run Tryz.prog w=.ok (.int .i64 P) w:=by kernel_rfl
theorem kj(pp:OA)(nn cc:Nat)(P:Int)(w:World):(Instr.field 143 (.agg #[.slice pp nn cc,.int .i64 P]) 0).run Tryz.prog w=.ok (.agg #[.slice pp nn cc]) w:=by kernel_rfl
theorem Below.aside_cell{F:Nat->Prop}{p:Addr}{u:Value}(ha:Aside F w w')(hl:p.block<w.1.size)(hp:¬F p.block)(h:w.cell? p=some u):w'.cell? p=some u:=(ha.cell hl hp).trans h
theorem ax.learned{w2:World}{Z:Nat}{q:OA}{cap:Nat}{m:Int}{c:List Col}{pl:Int}(h:ax w1 B a M n v g s G)(hk:dY w2 M (n+1) (fun k=>if k=m then some (.agg #[.slice q c.length cap,.int .i64 pl]) else g k))(ha:Aside (fun k=>k=M) w1 w2)(ho:dn w1 Z #[.slice q c.length cap] (c.map Col.fix))(hX:∀i,(i=a∨i=M∨v.ownBlock=some i)∨G i->i<Z)(hg:Sc.Good (Sc.learn s m c pl)):
  ax ((w2.setCell ⟨a,1,none⟩ (.int .i64 m)).setCell ⟨a,2,none⟩ (.int .i64 0)) B a M (n+1) v (fun k=>if k=m then some (.agg #[.slice q c.length cap,.int .i64 pl]) else g k) (Sc.learn s m c pl) G∧Aside (dW a M v) w1 ((w2.setCell ⟨a,1,none⟩ (.int .i64 m)).setCell ⟨a,2,none⟩ (.int .i64 0)):=by
 have haM:=h.aM
 have hl2:w2.1[a]?=some (.cells (bS M s v) 84):=(ha.block a h.lt haM).trans h.lies
 have hl3:(w2.setCell ⟨a,1,none⟩ (.int .i64 m)).1[a]?=some (.cells (bS M { s with number:=m } v) 84):=og hl2 1 _ rfl
 have hl4:((w2.setCell ⟨a,1,none⟩ (.int .i64 m)).setCell ⟨a,2,none⟩ (.int .i64 0)).1[a]?=some (.cells (bS M (Sc.learn s m c pl) v) 84):=og hl3 2 _ rfl
 have hs:Aside (fun k=>k=a) w2 ((w2.setCell ⟨a,1,none⟩ (.int .i64 m)).setCell ⟨a,2,none⟩ (.int .i64 0)):=((Aside.refl (fun k=>k=a) w2).setCell (p:=⟨a,1,none⟩) (.inl rfl) _).setCell (p:=⟨a,2,none⟩) (.inl rfl) _
 have hA:Aside (dW a M v) w1 ((w2.setCell ⟨a,1,none⟩ (.int .i64 m)).setCell ⟨a,2,none⟩ (.int .i64 0)):=(ha.mono fun i _ hi=>.inr (.inl hi)).trans hs (fun i _ hi=>.inl hi)
 refine⟨⟨hl4,hk.keep (hs.block M hk.lt (fun hc=>haM hc.symm)),?_,h.base,hg,fun k hk2=>Nat.lt_of_lt_of_le (h.low k hk2) hA.size,h.off,fun k=>?_⟩,hA⟩
 ·exact(h.ents.aside ha (fun k hk2 hc=>h.vM (by rw[hk2,hc]))).aside hs (fun k hk2 hc=>h.va (by rw[hk2,hc]))
 ·show sN _ _ (if k=m then some ⟨c.map Col.fix,pl⟩ else s.sch k) _
  by_cases hkm:k=m
  ·rw[if_pos hkm]
   simp only[hkm,if_true]
   refine⟨q,cap,by rw[List.length_map],?_,?_,?_⟩
   ·obtain⟨_,_,_,_,_,hl⟩:=ho.out
    exact hl
   ·obtain⟨p',c',e1,_,e2,_⟩:=ho.lies.out
    simp only[Array.mk.injEq,List.cons.injEq,and_true] at e1
    injection e1 with _ _ e3
    rw[e3]
    exact e2
   ·exact(sy (F:=fun i=>(i=a∨i=M∨v.ownBlock=some i)∨G i) ho (fun i hi=>.inl (hX i hi))).step (hA.mono fun i _ hi=>.inl hi) fun i hi=>.inl hi
  ·rw[if_neg hkm]
   simp only[if_neg hkm]
   exact(h.sch k).step (hA.mono fun i _ hi=>.inl hi) fun i hi=>.inl hi
theorem vh(h:ax w B a M n v g s G)(m:Int)(c:List Col)(p:OA)(cc:Nat)(pl:Int)(hm:0<=m∧m<2147483648)(hle:s.number<=m)(hpl:0<=pl∧pl<1099511627776)(he:Sch.err c=0)(hwf:∀x∈c,x.wf)(hs:c.length*120<=140737488351232)(hx:bw w p c)(hn:n<1000000000):
  Calls Tryz.prog 63 #[.pointer (some ⟨a,0,none⟩),.int .i64 m,.agg #[.slice p c.length cc],.int .i64 pl] w fun e w'=>e=.returned (.tuple #[])∧cI w w' B a M (n+1) v (Sc.learn s m c pl) G:=by
 have c0:w.cell? ⟨a,0,none⟩=some (.map (some M)):=h.cell 0
 obtain⟨W0,hW0⟩:∃W0,W0=w.alloc (.cells #[.slice p c.length cc] 53):=⟨_,rfl⟩
 have hb0:Below w.1.size w W0:=by rw[hW0];exact xY
 have hbk:W0.1[w.1.size]?=some (.cells #[.slice p c.length cc] 53):=by rw[hW0];exact ap w _
 have y0:W0.cell? ⟨a,0,none⟩=some (.map (some M)):=ae hb0 c0
 have y1:W0.cell? ⟨w.1.size,0,none⟩=some (.slice p c.length cc):=aa hbk 0
 have hz0:W0.1.size=w.1.size+1:=by rw[hW0];simp
 have HW0:Hid (w.alloc (.cells #[.slice p c.length cc] 53)=W0):=hW0.symm
 have HH:=xQ (h.on hb0)
 have HB0:=xQ hb0
 have HC:Hid (∀w',Below W0.1.size W0 w'->Calls Tryz.prog 81 #[.agg #[.slice p c.length cc]] w' fun e w''=>∃q cap,e=.returned (.agg #[.slice q c.length cap])∧dn w'' W0.1.size #[.slice q c.length cap] (c.map Col.fix)∧Below W0.1.size W0 w''):=fun w' hb=>(oJ c p cc w' hs (hx.on (hb0.trans (hb.mono hb0.size))) he hwf).mono fun e w'' ⟨q,cap,h1,h2,h3⟩=>⟨q,cap,h1,eX h2 hb.size,hb.trans (h3.mono hb.size)⟩
 have HGd:=xQ (Sc.good_learn h.good m c pl hm hle he hwf hpl)
 have hal:=h.lt
 have hMl:=h.map.lt
 have haM:=h.aM
 have him:Fr.i64 m:=⟨by omega,by omega⟩
 have HX:Hid (∀i,(i=a∨i=M∨v.ownBlock=some i)∨G i->i<W0.1.size):=fun i hi=>by
  rcases hi with (hi | hi | hi) | hi
  ·omega
  ·omega
  ·have:=(h.ents.lt i hi).2;omega
  ·have:=h.low i hi;omega
 clear h hx he hwf hW0 hb0 hbk c0
 go_enter Tryz.func63,Tryz.ntmps63
 go_wp2_with fail
 rw[HW0.out]
 go_region_held3 (fun w'=>w'.cell? ⟨a,0,none⟩=some (.map (some M))∧w'.cell? ⟨w.1.size,0,none⟩=some (.slice p c.length cc)) (go_keep) (first
  | (go_at_call 81;refine(HC.out _ (xZ.drew)).mono ?_;rintro e w1 ⟨q,cap,rfl,ho,hb1⟩;have z0:=ae hb1 y0;have z1:=ae hb1 y1;have HO:=xQ ho;have HB1:=xQ hb1;obtain⟨w2,hr2,hk2,ha2,hs2⟩:=(HH.out.on HB1.out).map.put him hn (.agg #[.slice q c.length cap,.int .i64 pl]);have t0:=Below.aside_cell ha2 (by have:=HB1.out.size;show a<w1.1.size;omega) haM z0;have t1:=Below.aside_cell ha2 (by have:=HB1.out.size;show w.1.size<w1.1.size;omega) (by show ¬w.1.size=M;omega) z1;have HK2:=xQ hk2;have HA2:=xQ ha2;clear ho hb1 hk2 ha2)
  |fail)
 have hw1:=HH.out.on HB1.out
 obtain⟨hfin,hasd⟩:=hw1.learned HK2.out HA2.out HO.out HX.out HGd.out
 have HFin:=xQ hfin
 have HAs:=xQ ((ag (HB0.out.trans (HB1.out.mono HB0.out.size)) (dW a M v)).trans hasd (fun _ _ h=>h))
 have hl2:w2.1[a]?=some (.cells (bS M s v) 84):=(HA2.out.block a hw1.lt haM).trans hw1.lies
 have u1:w2.cell? ⟨a,1,none⟩=some (.int .i64 s.number):=aa hl2 1
 have u2:w2.cell? ⟨a,2,none⟩=some (.int .i64 s.since):=aa hl2 2
 have f1:=ac hl2 1
 have f2:=ac hl2 2
 clear hw1 hfin hasd hl2 HO HK2 HA2 HB1 HH
 go_wp2
 go_end0
 exact⟨rfl,v,_,HFin.out,HAs.out,fun _ h=>.inl h⟩
theorem ax.value(h:ax w B a M n v g s G)(m:Int):∃pp nn cc,(g m).getD fg=.agg #[.slice pp nn cc,.int .i64 (Sc.placeAt s m)]:=by
 cases hs:s.sch m with
 |none=>
  rw[h.unknown hs,show Sc.placeAt s m=0 by unfold Sc.placeAt;rw[hs]]
  exact⟨none,0,0,rfl⟩
 |some k=>
  obtain⟨p,c,e1,-,-,-⟩:=h.known hs
  rw[e1,show Sc.placeAt s m=k.place by unfold Sc.placeAt;rw[hs]]
  exact⟨p,_,c,rfl⟩
theorem ax.entered{g4 cap4:Nat}{e:Ent}{s':Wk}(h:ax w B a M n v g s G)(hn:da w1 B (.slice (some ⟨g4,0,none⟩) (s.ents.length+1) cap4) (s.ents++[e]))(hg:w.grownBy w1 v.ownBlock)(h4:v.ownBlock=some g4∨w.1.size<=g4)(hs:s'={ s with ents:=s.ents++[e] })(hgd:Sc.Good s'):
  ax (w1.setCell ⟨a,5,none⟩ (.slice (some ⟨g4,0,none⟩) (s.ents.length+1) cap4)) B a M n (.slice (some ⟨g4,0,none⟩) (s.ents.length+1) cap4) g s' G∧Aside (dW a M v) w (w1.setCell ⟨a,5,none⟩ (.slice (some ⟨g4,0,none⟩) (s.ents.length+1) cap4)):=by
 have ha:=cd hg
 have hl1:w1.1[a]?=some (.cells (bS M s v) 84):=(ha.block a h.lt h.va).trans h.lies
 have hs1:Aside (fun k=>k=a) w1 (w1.setCell ⟨a,5,none⟩ (.slice (some ⟨g4,0,none⟩) (s.ents.length+1) cap4)):=(Aside.refl (fun k=>k=a) w1).setCell (p:=⟨a,5,none⟩) (.inl rfl) _
 have hA:Aside (dW a M v) w (w1.setCell ⟨a,5,none⟩ (.slice (some ⟨g4,0,none⟩) (s.ents.length+1) cap4)):=(ha.mono fun i _ hi=>.inr (.inr hi)).trans hs1 (fun i _ hi=>.inl hi)
 have hal:=h.lt
 have hMl:=h.map.lt
 have hga:g4≠a:=fun hc=>by
  rcases h4 with h4 | h4
  ·exact h.va (by rw[h4,hc])
  ·omega
 have hgM:g4≠M:=fun hc=>by
  rcases h4 with h4 | h4
  ·exact h.vM (by rw[h4,hc])
  ·omega
 subst hs
 refine⟨⟨og hl1 5 _ rfl,?_,?_,h.base,hgd,fun k hk=>Nat.lt_of_lt_of_le (h.low k hk) hA.size,fun k hk=>⟨(h.off k hk).1,(h.off k hk).2.1,fun hc=>?_⟩,fun m=>?_⟩,hA⟩
 ·refine h.map.keep ?_
  rw[hs1.block M (Nat.lt_of_lt_of_le h.map.lt ha.size) (fun hc=>h.aM hc.symm)]
  exact ha.block M h.map.lt h.vM
 ·have:=hn.aside hs1 (fun k hk hc=>by simp only[Value.ownBlock,Option.some.injEq] at hk;exact hga (by rw[hk,hc]))
  exact this
 ·simp only[Value.ownBlock,Option.some.injEq] at hc
  rcases h4 with h4 | h4
  ·exact(h.off k hk).2.2 (by rw[h4,hc])
  ·have:=h.low k hk;omega
 ·refine(h.sch m).step (hA.mono fun i _ hi=>.inl hi) fun i hi=>?_
  rcases hi with (hi | hi | hi) | hi
  ·exact .inl (.inl (.inl hi))
  ·exact .inl (.inl (.inr (.inl hi)))
  ·simp only[Value.ownBlock,Option.some.injEq] at hi
   rcases h4 with h4 | h4
   ·exact .inl (.inl (.inr (.inr (by rw[h4,hi]))))
   ·exact .inr (by omega)
  ·exact .inl (.inr hi)
end
end
end Go.Proofs.YtceomhodhmcknaaGreatDoor
