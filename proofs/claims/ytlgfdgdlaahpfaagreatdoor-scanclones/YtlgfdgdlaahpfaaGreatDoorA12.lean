import Derived.Shelf.SlMaps.Clone
import Derived.Test.YtlgfdgdlaahpfaaGreatDoorA2
set_option maxRecDepth 100000
set_option maxHeartbeats 16000000
namespace Go.Proofs.YtlgfdgdlaahpfaaGreatDoor
section
open Go.RowKit Go.Maps
theorem ms(M:Nat)(es:Array MapEntry)(clock:Nat)(w:World)(hb:w.1[M]?=some (.map es clock)):
  Calls Tryz.prog 49 #[.map (some M)] w fun e w'=>e=.returned (.map (some w.1.size))∧w'=w.alloc (.map es clock):=by
 have hq:=fun w=>run_eql_map_nil_sl (P:=Tryz.prog) w 66 _ _ (some M) Tryz.underlying66
 go_enter Tryz.func49,Tryz.ntmps49
 go_wp2
 rw[run_callFunc_extern Tryz.func71 (by kernel_rfl) (by kernel_rfl) (by kernel_rfl) (e:=Extern.MapsClone.clone) (by kernel_rfl),run_maps_clone_sl w 66 hb]
 simp only[Result.andThen]
 rw[Oper.upon_value]
 go_wp2
 rw[run_typeAssert_map_sl _ 66 20 _ _ _ Tryz.underlying66]
 simp only[Result.andThen]
 rw[Oper.upon_value]
 go_wp2
 go_ret
 exact⟨rfl,rfl⟩
section
variable {w:World} {B a M n:Nat} {v:Value} {g:Int->Option Value} {s:Wk} {G:Nat->Prop}
theorem dn.copy(h:dn w M n g){es:Array MapEntry}{clock:Nat}(hb:w.1[M]?=some (.map es clock)){w':World}{M':Nat}(hb':w'.1[M']?=some (.map es clock)):dn w' M' n g:=by
 obtain⟨D,⟨es0,clock0,h1,h2⟩,h3⟩:=h.out
 rw[hb] at h1
 injection h1 with h1
 injection h1 with h1 h4
 subst h1 h4
 exact⟨D,⟨es,clock,hb',h2⟩,h3⟩
theorem ao.under14(h:ao w B a M n v g s G){k:Nat}(hk:aQ a M v k∨G k):k<w.1.size:=by
 rcases hk with (hk | hk | hk) | hk
 ·rw[hk];exact h.lt
 ·rw[hk];exact h.map.lt
 ·exact(h.ents.lt k hk).2
 ·exact h.low k hk
theorem qK(h:ao w B a M n v g s G):Calls Tryz.prog 14 #[.pointer (some ⟨a,0,none⟩)] w fun e w'=>∃c M' v',e=.returned (.pointer (some ⟨c,0,none⟩))∧ao w' w.1.size c M' n v' g s (fun k=>aQ a M v k∨G k)∧Below w.1.size w w':=by
 have k0:w.cell? ⟨a,0,none⟩=some (.map (some M)):=h.cell 0
 have k1:w.cell? ⟨a,1,none⟩=some (.int .i64 s.number):=h.cell 1
 have k2:w.cell? ⟨a,2,none⟩=some (.int .i64 s.since):=h.cell 2
 have k3:w.cell? ⟨a,3,none⟩=some (.int .i64 s.frames):=h.cell 3
 have k4:w.cell? ⟨a,4,none⟩=some (.int .i64 s.rows):=h.cell 4
 have k5:w.cell? ⟨a,5,none⟩=some v:=h.cell 5
 have k6:w.cell? ⟨a,6,none⟩=some (.bool s.closed):=h.cell 6
 obtain⟨es,clock,hM⟩:=h.map.obj
 obtain⟨p,c,hv,-,he,-⟩:=h.ents.ents
 subst hv
 obtain⟨W0,hW0⟩:∃W0,W0=w.alloc (.cells #[.map (some M),.int .i64 s.number,.int .i64 s.since,.int .i64 s.frames,.int .i64 s.rows,.slice p s.ents.length c,.bool s.closed] 68):=⟨_,rfl⟩
 have hb0:Below w.1.size w W0:=by rw[hW0];exact vY
 have hz0:W0.1.size=w.1.size+1:=by rw[hW0];simp
 have hk0:W0.1[w.1.size]?=some (.cells #[.map (some M),.int .i64 s.number,.int .i64 s.since,.int .i64 s.frames,.int .i64 s.rows,.slice p s.ents.length c,.bool s.closed] 68 (0,0)):=by rw[hW0];exact ag w _
 have e0:∀o,(w.alloc o).cell? ⟨a,0,none⟩=some (.map (some M)):=fun o=>ab (vZ.alloc vX o) k0
 have HMc:=vQ (ms M es clock W0 ((hb0.block M h.map.lt).trans hM))
 have HW0:=vQ hW0.symm
 have HB0:=vQ hb0
 have HK0:=vQ hk0
 have HH:=vQ h
 have HM:=vQ hM
 have HE:=vQ he
 have hel:=h.good.ents
 clear h hM he hW0 hb0 hk0
 go_enter Tryz.func14,Tryz.ntmps14
 go_wp2_with fail
 rw[HW0.out]
 refine HMc.out.mono ?_
 rintro e w1 ⟨rfl,hw1⟩
 rw[hz0]
 have hk1:w1.1[w.1.size]?=some (.cells #[.map (some M),.int .i64 s.number,.int .i64 s.since,.int .i64 s.frames,.int .i64 s.rows,.slice p s.ents.length c,.bool s.closed] 68 (0,0)):=by rw[hw1,aD _ _ (by omega)];exact HK0.out
 have hm1:w1.1[w.1.size+1]?=some (.map es clock):=by
  rw[hw1,<-hz0];exact ag W0 _
 have hB1:Below w.1.size w w1:=by rw[hw1];exact HB0.out.alloc HB0.out.size _
 have hz1:w1.1.size=w.1.size+2:=by rw[hw1];simp[hz0]
 obtain⟨W2,hW2⟩:∃W2,W2=w1.setCell ⟨w.1.size,0,none⟩ (.map (some (w.1.size+1))):=⟨_,rfl⟩
 have hB2:Below w.1.size w W2:=by
  rw[hW2]
  refine⟨hB1.os,hB1.tape,hB1.output,by simpa[World.setCell] using hB1.size,fun k hk=>?_⟩
  rw[Below.heap_setCell _ _ _ _ (by show k≠w.1.size;omega)]
  exact hB1.block k hk
 have hk2:W2.1[w.1.size]?=some (.cells #[.map (some (w.1.size+1)),.int .i64 s.number,.int .i64 s.since,.int .i64 s.frames,.int .i64 s.rows,.slice p s.ents.length c,.bool s.closed] 68 (0,0)):=by
  rw[hW2];simp[World.setCell,Array.getElem?_modify,hk1]
 have hm2:W2.1[w.1.size+1]?=some (.map es clock):=by
  rw[hW2,Below.heap_setCell _ _ _ _ (by show w.1.size+1≠w.1.size;omega)];exact hm1
 have hz2:W2.1.size=w.1.size+2:=by rw[hW2];simpa[World.setCell] using hz1
 have x0:w1.cell? ⟨w.1.size,0,none⟩=some (.map (some M)):=aa hk1 0
 have x1:w1.frozen? ⟨w.1.size,0,none⟩=false:=ac hk1 0
 have HCe:=vQ (nE p c s.ents hel W2 (HE.out.on hB2))
 have e5:W2.cell? ⟨a,5,none⟩=some (.slice p s.ents.length c):=ab hB2 k5
 rw[hW2] at e5
 have HW2:=vQ hW2.symm
 have HB2:=vQ hB2
 have HK2:=vQ hk2
 have HM2:=vQ hm2
 have HZ2:=vQ hz2
 clear hw1 hk1 hm1 hB1 hz1 hW2 hB2 hk2 hm2 hz2 HMc HK0 HB0 HW0 hz0 e0 k0 k1 k2 k3 k4 k5 k6
 go_wp2_with fail
 rw[HW2.out]
 refine HCe.out.mono ?_
 rintro e w3 ⟨q,cap,rfl,ho3,hb3⟩
 have hk3:=(hb3.block _ (by have:=HZ2.out;omega)).trans HK2.out
 have hm3:=(hb3.block (w.1.size+1) (by have:=HZ2.out;omega)).trans HM2.out
 have y0:w3.cell? ⟨w.1.size,5,none⟩=some (.slice p s.ents.length c):=aa hk3 5
 have y1:w3.frozen? ⟨w.1.size,5,none⟩=false:=ac hk3 5
 have HK3:=vQ hk3
 have HM3:=vQ hm3
 have HO3:=vQ ho3
 have HX3:=vQ hb3
 have HEnd:Hid (ao (w3.setCell ⟨w.1.size,5,none⟩ (.slice q s.ents.length cap)) w.1.size w.1.size (w.1.size+1) n (.slice q s.ents.length cap) g s (fun k=>aQ a M (.slice p s.ents.length c) k∨G k)∧Below w.1.size w (w3.setCell ⟨w.1.size,5,none⟩ (.slice q s.ents.length cap))):=by
  have hz2:=HZ2.out
  have hs3:=hb3.size
  have hset:Aside (fun k=>k=w.1.size) w3 (w3.setCell ⟨w.1.size,5,none⟩ (.slice q s.ents.length cap)):=(Aside.refl (fun k=>k=w.1.size) w3).setCell (p:=⟨w.1.size,5,none⟩) (.inl rfl) _
  have hB3:Below w.1.size w w3:=HB2.out.trans (hb3.mono HB2.out.size)
  have hB4:=hB3.trans (hset.below hB3.size fun k hk hc=>by omega)
  have hov:∀k,(Value.slice q s.ents.length cap).ownBlock=some k->w.1.size+2<=k:=fun k hk=>by have:=(ho3.lt k hk).1;omega
  refine⟨⟨?_,HH.out.map.copy HM.out ?_,(ho3.aside hset fun k hk hc=>by have:=hov k hk;omega).low (by omega),⟨vX,by omega⟩,HH.out.good,fun k hk=>?_,fun k hk=>?_,fun m=>(HH.out.sch m).step (F':=fun i=>(i=w.1.size∨i=w.1.size+1∨(Value.slice q s.ents.length cap).ownBlock=some i)∨(aQ a M (.slice p s.ents.length c) i∨G i)) (ae hB4 _) fun k hk=>?_⟩,hB4⟩
  ·simp[World.setCell,Array.getElem?_modify,hk3,bv]
  ·rw[hset.block _ (by omega) (by omega)];exact hm3
  ·have:=HH.out.under14 hk
   have:=hB4.size
   omega
  ·have h9:=HH.out.under14 hk
   exact⟨by omega,by omega,fun hc=>by have:=hov k hc;omega⟩
  ·rcases hk with (hk | hk | hk) | hk | hk
   ·exact .inr (by omega)
   ·exact .inr (by omega)
   ·exact .inr (by have:=hov k hk;omega)
   ·exact .inl (.inl hk)
   ·exact .inl (.inr hk)
 clear hk3 hm3 ho3 hb3 HCe x0 x1 e5
 go_wp2
 go_ret
 exact⟨_,_,_,rfl,HEnd.out⟩
end
end
section
open Go.RowKit
section
variable {w:World} {b:Nat} {x:Rw} {F:Nat->Prop}
theorem ma(h:aG w b x F):Calls Tryz.prog 15 #[.pointer (some ⟨b,0,none⟩)] w fun e w'=>e=.returned (.pointer (some ⟨w.1.size,0,none⟩))∧aG w' w.1.size x (fun k=>k=b∨F k)∧Below w.1.size w w'∧w'.1.size=w.1.size+1:=by
 obtain⟨lp,lc,ep,ec,sp,sc,ZL,ZS,h1,e1,e2,h2,h3,h4⟩:=h.out
 have c0:w.cell? ⟨b,0,none⟩=some (.slice lp x.l.length lc):=aa h1 0
 have c1:w.cell? ⟨b,1,none⟩=some (.int .i64 x.f0):=aa h1 1
 have c2:w.cell? ⟨b,2,none⟩=some (.int .i64 x.r0):=aa h1 2
 have c3:w.cell? ⟨b,3,none⟩=some (.slice ep x.e0.length ec):=aa h1 3
 have c4:w.cell? ⟨b,4,none⟩=some (.slice sp x.s0.length sc):=aa h1 4
 have HB:Hid (Below w.1.size w (w.alloc (.cells #[.slice lp x.l.length lc,.int .i64 x.f0,.int .i64 x.r0,.slice ep x.e0.length ec,.slice sp x.s0.length sc] 71))):=vY
 have HR:Hid (aG (w.alloc (.cells #[.slice lp x.l.length lc,.int .i64 x.f0,.int .i64 x.r0,.slice ep x.e0.length ec,.slice sp x.s0.length sc] 71)) w.1.size x (fun k=>k=b∨F k)):=by
  refine⟨⟨lp,lc,ep,ec,sp,sc,ZL,ZS,ag w _,e1,e2,fun w'' ha=>h2 w'' ?_,h3,h4⟩,h.small⟩
  refine(ae HB.out _).trans ha fun i hi hf=>?_
  rcases hf with hf | hf
  ·omega
  ·exact hf
 clear h h1 h2 h3 h4 e1 e2
 go_enter Tryz.func15,Tryz.ntmps15
 go_wp2
 go_ret
 exact⟨rfl,HR.out,HB.out,by simp⟩
end
end
section
open Go.RowKit
structure W4(w wr:World)(a M b a' M' b' i j:Nat)(s:Wk)(x:Rw)(s':Wk)(x':Rw):Prop where
 out:∃v g v' g',ao wr w.1.size a M i v g s (fun k=>k=b∨(aQ a' M' v' k∨k=b'))∧aG wr b x (fun k=>aQ a M v k∨(aQ a' M' v' k∨k=b'))∧ao wr w.1.size a' M' j v' g' s' (fun k=>k=b'∨(aQ a M v k∨k=b))∧aG wr b' x' (fun k=>aQ a' M' v' k∨(aQ a M v k∨k=b))
 below:Below w.1.size w wr
 base:w.1.size<=b∧w.1.size<=b'∧b≠b'
theorem bi{wr:World}{B a M n:Nat}{v:Value}{g:Int->Option Value}{s:Wk}{G:Nat->Prop}(h:ao wr B a M n v g s G){k:Nat}(hk:G k):¬aQ a M v k:=fun hc=>by
 have:=h.off k hk
 rcases hc with hc | hc | hc
 ·exact this.1 hc
 ·exact this.2.1 hc
 ·exact this.2.2 hc
section
variable {w wr w':World} {a M b a' M' b' i j:Nat} {s s':Wk} {x x':Rw}
theorem W4.swap(h:W4 w wr a M b a' M' b' i j s x s' x'):W4 w wr a' M' b' a M b j i s' x' s x:=by
 obtain⟨v,g,v',g',h1,h2,h3,h4⟩:=h.out
 exact⟨⟨v',g',v,g,h3,h4,h1,h2⟩,h.below,h.base.2.1,h.base.1,fun e=>h.base.2.2 e.symm⟩
theorem W4.on(h:W4 w wr a M b a' M' b' i j s x s' x')(hb:Below wr.1.size wr w'):W4 w w' a M b a' M' b' i j s x s' x':=by
 obtain⟨v,g,v',g',h1,h2,h3,h4⟩:=h.out
 refine⟨⟨v,g,v',g',h1.on hb,h2.on hb ?_,h3.on hb,h4.on hb ?_⟩,h.below.trans (hb.mono h.below.size),h.base⟩
 ·rintro(hc | hc | hc)
  ·exact bi h1 (.inl rfl) hc
  ·exact bi h3 (.inr (.inr rfl)) hc
  ·exact h.base.2.2 hc
 ·rintro(hc | hc | hc)
  ·exact bi h3 (.inl rfl) hc
  ·exact bi h1 (.inr (.inr rfl)) hc
  ·exact h.base.2.2 hc.symm
theorem W4.knext(h:W4 w wr a M b a' M' b' i j s x s' x')(f:Fr)(hwf:f.wf)(u:AV)(hf:aB wr u f)(p:Int)(hv:Hv wr)(hi:i<1000):
  Calls Tryz.prog 9 #[.pointer (some ⟨a,0,none⟩),.agg u,.int .i64 p] wr fun e w'=>e=.returned (.int .i64 (if Sc.may s f p=true then 0 else 143))∧W4 w w' a M b a' M' b' (i+1) j (Sc.next s f p) x s' x'∧∃v g G,ao wr w.1.size a M i v g s G∧Aside (aQ a M v) wr w':=by
 obtain⟨v,g,v',g',h1,h2,h3,h4⟩:=h.out
 refine(qH h1 f hwf u hf p hv (by omega) h.below.size).mono fun e w' ⟨he,hp⟩=>?_
 obtain⟨v2,g2,k1,k2,k3⟩:=hp.out
 have hnew:∀k,aQ a M v2 k->aQ a M v k∨wr.1.size<=k:=fun k hk=>by
  rcases hk with hk | hk | hk
  ·exact .inl (.inl hk)
  ·exact .inl (.inr (.inl hk))
  ·exact(k3 k hk).imp (fun h=>.inr (.inr h)) id
 have hlow:∀k,aQ a M v2 k->k<w'.1.size:=fun k hk=>by
  rcases hk with hk | hk | hk
  ·rw[hk];exact k1.lt
  ·rw[hk];exact k1.map.lt
  ·exact(k1.ents.lt k hk).2
 refine⟨he,⟨⟨v2,g2,v',g',k1,h2.aside (k2.mono fun k _ hk=>.inl hk) ?_ (fun k hk=>?_),h3.aside (k2.mono fun k _ hk=>.inr (.inl hk)) (fun k hk=>?_) (fun k hk=>?_),h4.aside (k2.mono fun k _ hk=>.inr (.inl hk)) ?_ (fun k hk=>?_)⟩,h.below.trans (k2.below h.below.size fun k hk hc=>by have:=h1.far hc;omega),h.base⟩,v,g,_,h1,k2⟩
 ·rintro(hc | hc | hc)
  ·exact bi h1 (.inl rfl) hc
  ·exact bi h3 (.inr (.inr rfl)) hc
  ·exact h.base.2.2 hc
 ·rcases hk with hk | hk
  ·exact(hnew k hk).imp .inl id
  ·exact .inl (.inr hk)
 ·rcases hk with hk | hk | hk
  ·exact .inl (.inl hk)
  ·exact(hnew k hk).imp (fun h=>.inr (.inl h)) id
  ·exact .inl (.inr (.inr hk))
 ·rcases hk with hk | hk | hk
  ·exact Nat.lt_of_lt_of_le (h3.low k (.inl hk)) k2.size
  ·exact hlow k hk
  ·exact Nat.lt_of_lt_of_le (h3.low k (.inr (.inr hk))) k2.size
 ·rintro(hc | hc | hc)
  ·exact bi h3 (.inl rfl) hc
  ·exact bi h1 (.inr (.inr rfl)) hc
  ·exact h.base.2.2 hc.symm
 ·rcases hk with hk | hk | hk
  ·exact .inl (.inl hk)
  ·exact(hnew k hk).imp (fun h=>.inr (.inl h)) id
  ·exact .inl (.inr (.inr hk))
theorem W4.rnext{s0:Wk}{f:Fr}{p:Int}(h:W4 w wr a M b a' M' b' i j s x s' x')(ht:Rw.Twin s0 x)(hg:Sc.Good s0)(hx:x.l.length<1000000)(hwf:f.wf)(hbl:f.block.length<=140737488351232)(u:AV)(hf:∀w',Below w.1.size w w'->aB w' u f):
  Calls Tryz.prog 10 #[.pointer (some ⟨b,0,none⟩),.agg u,.int .i64 p] wr fun e w'=>e=.returned (.int .i64 (if Sc.may s0 f p=true then 0 else 143))∧W4 w w' a M b a' M' b' i j s (if Sc.may s0 f p=true then x.push f p else x) s' x'∧Aside (fun k=>k=b) wr w':=by
 obtain⟨v,g,v',g',h1,h2,h3,h4⟩:=h.out
 have hlo:∀k,aQ a M v k∨(aQ a' M' v' k∨k=b')->w.1.size<=k∧k<wr.1.size:=fun k hk=>by
  rcases hk with hk | hk | hk
  ·exact⟨h1.far hk,h1.under14 (.inl hk)⟩
  ·exact⟨h3.far hk,h3.under14 (.inl hk)⟩
  ·rw[hk];exact⟨h.base.2.1,h4.lt⟩
 refine(i9 h2 ?_ (fun k hk=>(hlo k hk).2) ht hg f hwf hbl u (fun w' ha=>hf w' (h.below.trans (ha.below h.below.size fun k hk hc=>?_))) p hx).mono fun e w' ⟨he,hr,ha⟩=>⟨he,⟨⟨v,g,v',g',h1.aside (ha.mono fun k _ hk=>.inl hk) (fun k hk=>.inl hk) (fun k hk=>Nat.lt_of_lt_of_le (h1.low k hk) ha.size),hr,h3.aside (ha.mono fun k _ hk=>.inr (.inr hk)) (fun k hk=>.inl hk) (fun k hk=>Nat.lt_of_lt_of_le (h3.low k hk) ha.size),h4.aside (ha.mono fun k _ hk=>.inr (.inr hk)) ?_ (fun k hk=>.inl hk)⟩,h.below.trans (ha.below h.below.size fun k hk hc=>by have:=h.base.1;omega),h.base⟩,ha⟩
 ·rintro(hc | hc | hc)
  ·exact bi h1 (.inl rfl) hc
  ·exact bi h3 (.inr (.inr rfl)) hc
  ·exact h.base.2.2 hc
 ·rcases hc with hc | hc
  ·have:=h.base.1;omega
  ·have:=(hlo k hc).1;omega
 ·rintro(hc | hc | hc)
  ·exact bi h3 (.inl rfl) hc
  ·exact bi h1 (.inr (.inr rfl)) hc
  ·exact h.base.2.2 hc.symm
theorem W4.seen(h:W4 w wr a M b a' M' b' i j s x s' x')(ht:Rw.Twin s x):Calls Tryz.prog 11 #[.pointer (some ⟨a,0,none⟩),.pointer (some ⟨b,0,none⟩),.slice none 0 0] wr fun e w'=>e=.returned (.bool true)∧Below wr.1.size wr w':=by
 obtain⟨v,g,v',g',h1,h2,h3,h4⟩:=h.out
 refine tk h1 h2 ?_ ht none 0 [] (by simp) (fun m hm=>by cases hm) (fun i hi=>by cases hi)
 rintro(hc | hc | hc)
 ·exact bi h1 (.inl rfl) hc
 ·exact bi h3 (.inr (.inr rfl)) hc
 ·exact h.base.2.2 hc
theorem ao.lower{B B' n:Nat}{v:Value}{g:Int->Option Value}{G:Nat->Prop}(h:ao wr B a M n v g s G)(hB:B'<=B):ao wr B' a M n v g s G:=⟨h.lies,h.map,h.ents.low hB,⟨Nat.le_trans hB h.base.1,Nat.le_trans hB h.base.2⟩,h.good,h.low,h.off,h.sch⟩
theorem sK{w4:World}{v v':Value}{g:Int->Option Value}{c Mc:Nat}(hk:ao wr w.1.size a M i v g s (fun k=>k=b))(hr:aG wr b x (aQ a M v))(hc:ao w4 wr.1.size c Mc i v' g s (fun k=>aQ a M v k∨k=b))(hb:Below wr.1.size wr w4):aG w4 b x (fun k=>aQ a M v k∨aQ c Mc v' k) :=
 hr.aside (ae hb _) (bi hk rfl) fun _ hk=>hk.imp id fun h=>hc.far h
theorem sJ{w4 w5:World}{v v':Value}{g:Int->Option Value}{c Mc:Nat}(hk:ao wr w.1.size a M i v g s (fun k=>k=b))(hr:aG wr b x (aQ a M v))(hc:ao w4 wr.1.size c Mc i v' g s (fun k=>aQ a M v k∨k=b))(hb:Below wr.1.size wr w4)(hr5:aG w5 w4.1.size x (fun k=>k=b∨(aQ a M v k∨aQ c Mc v' k)))(hb5:Below w4.1.size w4 w5)(hs5:w4.1.size<w5.1.size)(hw:Below w.1.size w wr)(hB:w.1.size<=b):W4 w w5 a M b c Mc w4.1.size i i s x s x:=by
 have hs4:=hb.size
 have hbl:=hr.lt
 have hB5:=hb.trans (hb5.mono hs4)
 have hcu:∀k,aQ c Mc v' k->wr.1.size<=k∧k<w4.1.size:=fun k h=>⟨hc.far h,hc.under14 (.inl h)⟩
 have hau:∀k,aQ a M v k->k<wr.1.size:=fun k h=>hk.under14 (.inl h)
 have hsw:=hw.size
 refine⟨⟨v,g,v',g,hk.aside (ae hB5 _) (fun k h=>?_) (fun k h=>?_),hr.aside (ae hB5 _) (bi hk rfl) (fun k h=>?_),(hc.aside (ae hb5 _) (fun k h=>?_) (fun k h=>?_)).lower hsw,hr5.aside (Aside.refl _ _) ?_ (fun k h=>?_)⟩,hw.trans (hB5.mono hsw),hB,by omega,by omega⟩
 ·rcases h with h | h | h
  ·exact .inl h
  ·exact .inr (hcu k h).1
  ·exact .inr (by omega)
 ·rcases h with h | h | h
  ·omega
  ·have:=(hcu k h).2;omega
  ·omega
 ·rcases h with h | h | h
  ·exact .inl h
  ·exact .inr (hcu k h).1
  ·exact .inr (by omega)
 ·rcases h with h | h | h
  ·exact .inr (by omega)
  ·exact .inl (.inl h)
  ·exact .inl (.inr h)
 ·rcases h with h | h | h
  ·omega
  ·have:=hau k h;omega
  ·omega
 ·rintro(h | h | h)
  ·omega
  ·have:=hau _ h;omega
  ·have:=(hcu _ h).2;omega
 ·rcases h with h | h | h
  ·exact .inl (.inr (.inr h))
  ·exact .inl (.inr (.inl h))
  ·exact .inl (.inl h)
end
end
section
open Go.RowKit
theorem Pls.open14{w:World}{p:OA}{l:List (Fr×Int)}(h:Pls w p l)(i:Nat)(hi:i<l.length):∃bb oo sp sc bp bc ep ec,p=some ⟨bb,oo,none⟩∧∀w',Below w.1.size w w'->aB w' (av l[i].1.kind l[i].1.number sp l[i].1.cols.length sc l[i].1.seq l[i].1.first l[i].1.rows bp l[i].1.block.length bc l[i].1.index.at_ l[i].1.index.frames l[i].1.index.rows ep l[i].1.index.entries.length ec) l[i].1 ∧
  w'.cell? ⟨bb,oo+i*12,none⟩=some (.int .i64 l[i].1.kind)∧w'.cell? ⟨bb,oo+i*12+1,none⟩=some (.int .i64 l[i].1.number)∧w'.cell? ⟨bb,oo+i*12+2,none⟩=some (.slice sp l[i].1.cols.length sc)∧w'.cell? ⟨bb,oo+i*12+3,none⟩=some (.int .i64 l[i].1.seq)∧w'.cell? ⟨bb,oo+i*12+4,none⟩=some (.int .i64 l[i].1.first)∧w'.cell? ⟨bb,oo+i*12+5,none⟩=some (.int .i64 l[i].1.rows)∧w'.cell? ⟨bb,oo+i*12+6,none⟩=some (.slice bp l[i].1.block.length bc)∧w'.cell? ⟨bb,oo+i*12+7,none⟩=some (.int .i64 l[i].1.index.at_)∧w'.cell? ⟨bb,oo+i*12+8,none⟩=some (.int .i64 l[i].1.index.frames)∧w'.cell? ⟨bb,oo+i*12+9,none⟩=some (.int .i64 l[i].1.index.rows)∧w'.cell? ⟨bb,oo+i*12+10,none⟩=some (.slice ep l[i].1.index.entries.length ec)∧w'.cell? ⟨bb,oo+i*12+11,none⟩=some (.int .i64 l[i].2):=by
 obtain⟨bb,oo,rfl,hPA⟩:=h i hi
 obtain⟨sp,sc,bp,bc,ep,ec,hFl,d0,d1,d2,d3,d4,d5,d6,d7,d8,d9,d10,d11⟩:=hPA.out
 exact⟨bb,oo,sp,sc,bp,bc,ep,ec,rfl,fun w' hb=>⟨hFl.on hb,ab hb d0,ab hb d1,ab hb d2,ab hb d3,ab hb d4,ab hb d5,ab hb d6,ab hb d7,ab hb d8,ab hb d9,ab hb d10,ab hb d11⟩⟩
theorem gR(LIVE:ug)(p:OA)(c:Nat)(l:List (Fr×Int))(hwf:∀q∈l,q.1.wf∧q.1.block.length<=140737488351232)(p2:OA)(c2:Nat)(l2:List (Fr×Int))(hwf2:∀q∈l2,q.1.wf∧q.1.block.length<=140737488351232)(p3:OA)(c3:Nat)(l3:List (Fr×Int))(hwf3:∀q∈l3,q.1.wf∧q.1.block.length<=140737488351232)(hl:l.length*144<=140737488351232∧l2.length*144<=140737488351232∧l3.length*144<=140737488351232)(w:World)(hv:Hv w)(hA:Pls w p l)(hA2:Pls w p2 l2)(hA3:Pls w p3 l3):
  Calls Tryz.prog 5 #[.slice p l.length c,.slice p2 l2.length c2,.slice p3 l3.length c3] w fun e w'=>e=.returned (.bool true)∧Below w.1.size w w':=by
 obtain⟨hl1,hl2,hl3⟩:=hl
 have HLv:=vQ (LIVE w hv)
 have HHv:=vQ hv
 have HA:=vQ hA
 have HWf:=vQ hwf
 have HA2:=vQ hA2
 have HWf2:=vQ hwf2
 have HA3:=vQ hA3
 have HWf3:=vQ hwf3
 clear hv hA LIVE hwf hA2 hwf2 hA3 hwf3
 go_enter Tryz.func5,Tryz.ntmps5
 go_wp2_with fail
 refine HLv.out.mono ?_
 rintro e w1 ⟨rfl,hb1⟩
 have HB1:=vQ hb1
 clear hb1 HLv
 have HN:=vQ (qI w1 (fun _=>False) (fun k hk=>absurd hk id))
 go_wp2_with fail
 refine HN.out.mono ?_
 rintro e w2 ⟨rfl,hk2,hb2,-⟩
 have HK2:=vQ hk2
 have HB2:=vQ hb2
 have HX:=vQ (pT (aQ (w1.1.size+1) w1.1.size (.slice none 0 0)) w2)
 clear hk2 hb2 HN
 go_wp2_with fail
 refine HX.out.mono ?_
 rintro e w3 ⟨rfl,hr3,hb3,hs3⟩
 have HI3:Hid (WkI w1 w3 (w1.1.size+1) w1.1.size w2.1.size 0 Sc.new Rw.new):=by
  refine⟨⟨_,_,HK2.out.aside (G':=fun k=>k=w2.1.size) (ae hb3 _) (fun k hk=>.inr (by omega)) (fun k hk=>by omega),hr3⟩,Rw.twin_new,vX,HB2.out.trans (hb3.mono HB2.out.size),HB2.out.size⟩
 have HBf:=vQ (HB1.out.trans (HI3.out.below.mono HB1.out.size))
 clear hr3 hb3 hs3 HX HK2 HB2
 by_cases hbig:100<l.length
 ·have g0:(100:Int)<(l.length:Int):=by omega
  have g1:decide (100<l.length)=true:=decide_eq_true hbig
  clear hbig HI3
  go_wp2
  go_ret
  exact⟨rfl,HBf.out⟩
 have g0:¬(100:Int)<(l.length:Int):=by omega
 have g1:decide (100<l.length)=false:=decide_eq_false hbig
 by_cases hbig2:50<l2.length
 ·have g2:(50:Int)<(l2.length:Int):=by omega
  have g3:decide (50<l2.length)=true:=decide_eq_true hbig2
  clear hbig2 HI3
  go_wp2
  go_ret
  exact⟨rfl,HBf.out⟩
 have g2:¬(50:Int)<(l2.length:Int):=by omega
 have g3:decide (50<l2.length)=false:=decide_eq_false hbig2
 by_cases hbig3:50<l3.length
 ·have g4:(50:Int)<(l3.length:Int):=by omega
  have g5:decide (50<l3.length)=true:=decide_eq_true hbig3
  clear hbig3 HI3
  go_wp2
  go_ret
  exact⟨rfl,HBf.out⟩
 have g4:¬(50:Int)<(l3.length:Int):=by omega
 have g5:decide (50<l3.length)=false:=decide_eq_false hbig3
 clear HBf
 go_wp2_with fail
 go_loopw [45] (fun v45 wr=>∃(i:Nat) (s:Wk) (x:Rw),i<=l.length∧v45=.int .i64 (i:Nat)∧Hid (WkI w1 wr (w1.1.size+1) w1.1.size w2.1.size i s x)) (fun v45 _=>l.length-(intOf v45).toNat)
 case atStart=>exact⟨0,_,_,Nat.zero_le _,rfl,HI3⟩
 case round=>
  obtain⟨i,s,x,hi,rfl,HI⟩:=hrel
  have hiI:(i:Int)<=100:=by omega
  by_cases hlt:i<l.length
  case pos=>
   have f1:(i:Int)<(l.length:Int):=by omega
   have hBr:=HB1.out.trans (HI.out.below.mono HB1.out.size)
   obtain⟨bb,oo,sp,sc,bp,bc,ep,ec,rfl,hOp⟩:=HA.out.open14 i hlt
   obtain⟨hfw,hfb⟩:=HWf.out l[i] (List.getElem_mem hlt)
   obtain⟨-,d0,d1,d2,d3,d4,d5,d6,d7,d8,d9,d10,d11⟩:=hOp wr hBr
   have hFu:=fun w' hb=>(hOp w' hb).1
   clear hOp
   generalize l[i]=q at *
   obtain⟨f,pl⟩:=q
   unfold av at hFu
   dsimp only at hfw hfb d0 d1 d2 d3 d4 d5 d6 d7 d8 d9 d10 d11 hFu
   obtain⟨b0,hq0⟩:∃y,y=f.kind:=⟨_,rfl⟩
   obtain⟨b1,hq1⟩:∃y,y=f.number:=⟨_,rfl⟩
   obtain⟨b2,hq2⟩:∃y,y=f.cols.length:=⟨_,rfl⟩
   obtain⟨b3,hq3⟩:∃y,y=f.seq:=⟨_,rfl⟩
   obtain⟨b4,hq4⟩:∃y,y=f.first:=⟨_,rfl⟩
   obtain⟨b5,hq5⟩:∃y,y=f.rows:=⟨_,rfl⟩
   obtain⟨b6,hq6⟩:∃y,y=f.block.length:=⟨_,rfl⟩
   obtain⟨b7,hq7⟩:∃y,y=f.index.at_:=⟨_,rfl⟩
   obtain⟨b8,hq8⟩:∃y,y=f.index.frames:=⟨_,rfl⟩
   obtain⟨b9,hq9⟩:∃y,y=f.index.rows:=⟨_,rfl⟩
   obtain⟨b10,hq10⟩:∃y,y=f.index.entries.length:=⟨_,rfl⟩
   rw[<-hq0] at d0
   rw[<-hq1] at d1
   rw[<-hq2] at d2
   rw[<-hq3] at d3
   rw[<-hq4] at d4
   rw[<-hq5] at d5
   rw[<-hq6] at d6
   rw[<-hq7] at d7
   rw[<-hq8] at d8
   rw[<-hq9] at d9
   rw[<-hq10] at d10
   rw[<-hq0,<-hq1,<-hq2,<-hq3,<-hq4,<-hq5,<-hq6,<-hq7,<-hq8,<-hq9,<-hq10] at hFu
   obtain⟨W0,hW0⟩:∃W0,W0=wr.alloc (.cells #[.int .i64 b0,.int .i64 b1,.slice sp b2 sc,.int .i64 b3,.int .i64 b4,.int .i64 b5,.slice bp b6 bc,.int .i64 b7,.int .i64 b8,.int .i64 b9,.slice ep b10 ec,.int .i64 pl] 38):=⟨_,rfl⟩
   have hb0:Below wr.1.size wr W0:=by rw[hW0];exact vY
   have hbk:W0.1[wr.1.size]?=some (.cells #[.int .i64 b0,.int .i64 b1,.slice sp b2 sc,.int .i64 b3,.int .i64 b4,.int .i64 b5,.slice bp b6 bc,.int .i64 b7,.int .i64 b8,.int .i64 b9,.slice ep b10 ec,.int .i64 pl] 38 (0,0)):=by rw[hW0];exact ag wr _
   have hz0:W0.1.size=wr.1.size+1:=by rw[hW0];simp
   have HW0:=vQ hW0.symm
   have hI0:=HI.out.on hb0
   have hF1:∀w',Below w1.1.size w1 w'->aB w' #[.int .i64 b0,.int .i64 b1,.slice sp b2 sc,.int .i64 b3,.int .i64 b4,.int .i64 b5,.slice bp b6 bc,.int .i64 b7,.int .i64 b8,.int .i64 b9,.slice ep b10 ec] f:=fun w' hb=>hFu w' (HB1.out.trans (hb.mono HB1.out.size))
   obtain⟨s',hs'⟩:∃s',s'=Sc.next s f pl:=⟨_,rfl⟩
   have HN1:Hid (Calls Tryz.prog 9 #[.pointer (some ⟨w1.1.size+1,0,none⟩),.agg #[.int .i64 b0,.int .i64 b1,.slice sp b2 sc,.int .i64 b3,.int .i64 b4,.int .i64 b5,.slice bp b6 bc,.int .i64 b7,.int .i64 b8,.int .i64 b9,.slice ep b10 ec],.int .i64 pl] W0 fun e w'=>(∃rc,e=.returned (.int .i64 rc))∧WkM w1 w' (w1.1.size+1) w1.1.size w2.1.size (i+1) s' x∧w'.1[wr.1.size]?=some (.cells #[.int .i64 b0,.int .i64 b1,.slice sp b2 sc,.int .i64 b3,.int .i64 b4,.int .i64 b5,.slice bp b6 bc,.int .i64 b7,.int .i64 b8,.int .i64 b9,.slice ep b10 ec,.int .i64 pl] 38 (0,0))):=by
    refine(hI0.next f hfw _ (hF1 _ hI0.below) pl ((HHv.out.next HB1.out).next hI0.below) (by omega)).mono fun e w' ⟨y1,y2,y3⟩=>⟨⟨_,y1⟩,by rw[hs'];exact y2,?_⟩
    rw[y3 wr.1.size (by omega) (fun v g hk hc=>?_)]
    ·exact hbk
    ·obtain⟨v0,g0,k1,-⟩:=HI.out.walk
     have e5:W0.cell? ⟨w1.1.size+1,5,none⟩=some v:=hk.cell 5
     have e6:wr.cell? ⟨w1.1.size+1,5,none⟩=some v0:=k1.cell 5
     have e7:=ab hb0 e6
     rw[e5] at e7
     injection e7 with e7
     subst e7
     have:=k1.within hc
     omega
   have HN2:Hid (∀w5,WkM w1 w5 (w1.1.size+1) w1.1.size w2.1.size (i+1) s' x->Calls Tryz.prog 10 #[.pointer (some ⟨w2.1.size,0,none⟩),.agg #[.int .i64 b0,.int .i64 b1,.slice sp b2 sc,.int .i64 b3,.int .i64 b4,.int .i64 b5,.slice bp b6 bc,.int .i64 b7,.int .i64 b8,.int .i64 b9,.slice ep b10 ec],.int .i64 pl] w5 fun e w'=>(∃rc,e=.returned (.int .i64 rc))∧(∃x',WkI w1 w' (w1.1.size+1) w1.1.size w2.1.size (i+1) s' x')):=fun w5 hm=>by
    obtain⟨v0,g0,k1,k2⟩:=HI.out.walk
    exact(hm.next hs' HI.out.twin k1.good HI.out.base HI.out.few (by omega) hfw hfb _ hF1).mono fun e w' ⟨y1,y2,y3⟩=>⟨⟨_,y1⟩,y2⟩
   obtain⟨x0,x1,x2,x3,x4,x5,x6,x7,x8,x9,x10,x11⟩:=bM hbk
   clear hs' hI0 hF1 hFu hfw hfb hb0 hbk hW0 hBr HI HI3 hq0 hq1 hq2 hq3 hq4 hq5 hq6 hq7 hq8 hq9 hq10
   go_wp2_with fail
   rw[HW0.out]
   refine HN1.out.mono ?_
   rintro e w5 ⟨⟨rc,rfl⟩,hm5,hk5⟩
   obtain⟨y0,y1,y2,y3,y4,y5,y6,y7,y8,y9,y10,y11⟩:=bM hk5
   have HN3:=vQ (HN2.out w5 hm5)
   clear hm5 hk5 HN1 HN2 HW0 x0 x1 x2 x3 x4 x5 x6 x7 x8 x9 x10 x11 d0 d1 d2 d3 d4 d5 d6 d7 d8 d9 d10 d11
   go_wp2_with fail
   refine HN3.out.mono ?_
   rintro e w6 ⟨⟨rc,rfl⟩,x',hi6⟩
   have HI6:=vQ hi6
   clear hi6 HN3 y0 y1 y2 y3 y4 y5 y6 y7 y8 y9 y10 y11
   go_wp2
   go_roundw
   case rel=>exact⟨i+1,_,_,by omega,by go_num,HI6⟩
   case measure=>simp[intOf];omega
  have f1:¬(i:Int)<(l.length:Int):=by omega
  have HT:=vQ HI.out.twin
  have hxl:=HI.out.few
  obtain⟨v,g,hk,hr⟩:=HI.out.walk
  clear hlt HI3 HA HWf
  go_wp2_with fail
  have HCl:=vQ (qK hk)
  have HKs:=vQ hk
  have HRs:=vQ hr
  have HBr:=vQ HI.out.below
  have HBb:=vQ HI.out.base
  clear hk hr HI
  refine HCl.out.mono ?_
  rintro e w4 ⟨cc,Mc,v',rfl,hk4,hb4⟩
  have HR4:=vQ (ma (sK HKs.out HRs.out hk4 hb4))
  have HK4:=vQ hk4
  have HB4:=vQ hb4
  clear hk4 hb4 HCl
  go_wp2_with fail
  refine HR4.out.mono ?_
  rintro e w5 ⟨rfl,hr5,hb5,hs5⟩
  have HI5:Hid (W4 w1 w5 (w1.1.size+1) w1.1.size w2.1.size cc Mc w4.1.size i i s x s x):=sJ HKs.out HRs.out HK4.out HB4.out hr5 hb5 (by omega) HBr.out HBb.out
  have HGd:=vQ HKs.out.good
  clear hr5 hb5 hs5 HR4 HK4 HB4 HKs HRs HBr HBb
  go_wp2_with fail
  go_loopw [70] (fun vv wr=>∃(ja:Nat) (sa:Wk) (xa:Rw),ja<=l2.length∧vv=.int .i64 (ja:Nat)∧xa.l.length<=i+ja∧Hid (W4 w1 wr (w1.1.size+1) w1.1.size w2.1.size cc Mc w4.1.size (i+ja) (i) sa xa s x)∧Hid (Rw.Twin sa xa)) (fun vv _=>l2.length-(intOf vv).toNat)
  case atStart=>exact⟨0,_,_,Nat.zero_le _,rfl,(by omega),HI5,HT⟩
  case round=>
   obtain⟨ja,sa,xa,hj,rfl,hfew,HI,HTa⟩:=hrel
   have hjI:(ja:Int)<=50:=by omega
   by_cases hlt:ja<l2.length
   case pos=>
    have f1:(ja:Int)<(l2.length:Int):=by omega
    have hBr:=HB1.out.trans (HI.out.below.mono HB1.out.size)
    obtain⟨bb,oo,sp,sc,bp,bc,ep,ec,rfl,hOp⟩:=HA2.out.open14 ja hlt
    obtain⟨hfw,hfb⟩:=HWf2.out l2[ja] (List.getElem_mem hlt)
    obtain⟨-,d0,d1,d2,d3,d4,d5,d6,d7,d8,d9,d10,d11⟩:=hOp wr hBr
    have hFu:=fun w' hb=>(hOp w' hb).1
    clear hOp
    generalize l2[ja]=q at *
    obtain⟨f,pl⟩:=q
    unfold av at hFu
    dsimp only at hfw hfb d0 d1 d2 d3 d4 d5 d6 d7 d8 d9 d10 d11 hFu
    obtain⟨b0,hq0⟩:∃y,y=f.kind:=⟨_,rfl⟩
    obtain⟨b1,hq1⟩:∃y,y=f.number:=⟨_,rfl⟩
    obtain⟨b2,hq2⟩:∃y,y=f.cols.length:=⟨_,rfl⟩
    obtain⟨b3,hq3⟩:∃y,y=f.seq:=⟨_,rfl⟩
    obtain⟨b4,hq4⟩:∃y,y=f.first:=⟨_,rfl⟩
    obtain⟨b5,hq5⟩:∃y,y=f.rows:=⟨_,rfl⟩
    obtain⟨b6,hq6⟩:∃y,y=f.block.length:=⟨_,rfl⟩
    obtain⟨b7,hq7⟩:∃y,y=f.index.at_:=⟨_,rfl⟩
    obtain⟨b8,hq8⟩:∃y,y=f.index.frames:=⟨_,rfl⟩
    obtain⟨b9,hq9⟩:∃y,y=f.index.rows:=⟨_,rfl⟩
    obtain⟨b10,hq10⟩:∃y,y=f.index.entries.length:=⟨_,rfl⟩
    rw[<-hq0] at d0
    rw[<-hq1] at d1
    rw[<-hq2] at d2
    rw[<-hq3] at d3
    rw[<-hq4] at d4
    rw[<-hq5] at d5
    rw[<-hq6] at d6
    rw[<-hq7] at d7
    rw[<-hq8] at d8
    rw[<-hq9] at d9
    rw[<-hq10] at d10
    rw[<-hq0,<-hq1,<-hq2,<-hq3,<-hq4,<-hq5,<-hq6,<-hq7,<-hq8,<-hq9,<-hq10] at hFu
    obtain⟨W0,hW0⟩:∃W0,W0=wr.alloc (.cells #[.int .i64 b0,.int .i64 b1,.slice sp b2 sc,.int .i64 b3,.int .i64 b4,.int .i64 b5,.slice bp b6 bc,.int .i64 b7,.int .i64 b8,.int .i64 b9,.slice ep b10 ec,.int .i64 pl] 38):=⟨_,rfl⟩
    have hb0:Below wr.1.size wr W0:=by rw[hW0];exact vY
    have hbk:W0.1[wr.1.size]?=some (.cells #[.int .i64 b0,.int .i64 b1,.slice sp b2 sc,.int .i64 b3,.int .i64 b4,.int .i64 b5,.slice bp b6 bc,.int .i64 b7,.int .i64 b8,.int .i64 b9,.slice ep b10 ec,.int .i64 pl] 38 (0,0)):=by rw[hW0];exact ag wr _
    have hz0:W0.1.size=wr.1.size+1:=by rw[hW0];simp
    have HW0:=vQ hW0.symm
    have hI0:=HI.out.on hb0.drew
    have hF1:∀w',Below w1.1.size w1 w'->aB w' #[.int .i64 b0,.int .i64 b1,.slice sp b2 sc,.int .i64 b3,.int .i64 b4,.int .i64 b5,.slice bp b6 bc,.int .i64 b7,.int .i64 b8,.int .i64 b9,.slice ep b10 ec] f:=fun w' hb=>hFu w' (HB1.out.trans (hb.mono HB1.out.size))
    obtain⟨rc,hrc⟩:∃rc:Int,rc=if Sc.may sa f pl=true then 0 else 143:=⟨_,rfl⟩
    obtain⟨s',hs'⟩:∃s',s'=Sc.next sa f pl:=⟨_,rfl⟩
    have hgd:Sc.Good sa:=by obtain⟨v0,g0,v1,g1,k1,-⟩:=HI.out.out;exact k1.good
    have HN1:Hid (Calls Tryz.prog 9 #[.pointer (some ⟨(w1.1.size+1),0,none⟩),.agg #[.int .i64 b0,.int .i64 b1,.slice sp b2 sc,.int .i64 b3,.int .i64 b4,.int .i64 b5,.slice bp b6 bc,.int .i64 b7,.int .i64 b8,.int .i64 b9,.slice ep b10 ec],.int .i64 pl] W0.drew fun e w'=>e=.returned (.int .i64 rc)∧W4 w1 w' (w1.1.size+1) w1.1.size w2.1.size cc Mc w4.1.size (i+ja+1) (i) s' xa s x∧w'.1[wr.1.size]?=some (.cells #[.int .i64 b0,.int .i64 b1,.slice sp b2 sc,.int .i64 b3,.int .i64 b4,.int .i64 b5,.slice bp b6 bc,.int .i64 b7,.int .i64 b8,.int .i64 b9,.slice ep b10 ec,.int .i64 pl] 38 (0,0))):=by
     refine(hI0.knext f hfw _ (hF1 _ hI0.below) pl ((HHv.out.next HB1.out).next hI0.below) (by omega)).mono fun e w' ⟨y1,y2,v,g,G,hk,ha⟩=>⟨by rw[hrc];exact y1,by rw[hs'];exact y2,?_⟩
     rw[ha.block wr.1.size (by show wr.1.size<W0.1.size;omega) (fun hc=>?_)]
     ·exact hbk
     ·obtain⟨v0,g0,v1,g1,k1,-⟩:=HI.out.out
      have e5:W0.drew.cell? ⟨(w1.1.size+1),5,none⟩=some v:=hk.cell 5
      have e6:wr.cell? ⟨(w1.1.size+1),5,none⟩=some v0:=k1.cell 5
      have e7:=ab hb0.drew e6
      rw[e5] at e7
      injection e7 with e7
      subst e7
      have:=k1.under14 (.inl hc)
      omega
    have HN2:Hid (∀w5,W4 w1 w5 (w1.1.size+1) w1.1.size w2.1.size cc Mc w4.1.size (i+ja+1) (i) s' xa s x->w5.1[wr.1.size]?=some (.cells #[.int .i64 b0,.int .i64 b1,.slice sp b2 sc,.int .i64 b3,.int .i64 b4,.int .i64 b5,.slice bp b6 bc,.int .i64 b7,.int .i64 b8,.int .i64 b9,.slice ep b10 ec,.int .i64 pl] 38 (0,0))->Calls Tryz.prog 10 #[.pointer (some ⟨w2.1.size,0,none⟩),.agg #[.int .i64 b0,.int .i64 b1,.slice sp b2 sc,.int .i64 b3,.int .i64 b4,.int .i64 b5,.slice bp b6 bc,.int .i64 b7,.int .i64 b8,.int .i64 b9,.slice ep b10 ec],.int .i64 pl] w5 fun e w'=>e=.returned (.int .i64 rc)∧(∃x',W4 w1 w' (w1.1.size+1) w1.1.size w2.1.size cc Mc w4.1.size (i+ja+1) (i) s' x' s x∧Rw.Twin s' x'∧x'.l.length<=i+(ja+1))∧w'.1[wr.1.size]?=some (.cells #[.int .i64 b0,.int .i64 b1,.slice sp b2 sc,.int .i64 b3,.int .i64 b4,.int .i64 b5,.slice bp b6 bc,.int .i64 b7,.int .i64 b8,.int .i64 b9,.slice ep b10 ec,.int .i64 pl] 38 (0,0))):=fun w5 hm hk=>by
     have hlw:w2.1.size<wr.1.size:=by obtain⟨v0,g0,v1,g1,-,k2,-⟩:=HI.out.out;exact k2.lt
     refine(hm.rnext HTa.out hgd (by omega) hfw hfb _ hF1).mono fun e w' ⟨y1,y2,y3⟩=>⟨by rw[hrc];exact y1,⟨_,y2,?_,?_⟩,?_⟩
     ·rw[hs']
      unfold Sc.next
      by_cases hm:Sc.may sa f pl=true
      ·rw[if_pos hm,if_pos hm];exact HTa.out.push hgd hm
      ·rw[if_neg hm,if_neg hm];exact HTa.out
     ·split
      ·simp[Rw.push];omega
      ·omega
     ·rw[y3.block wr.1.size (aw hk) (by omega)]
      exact hk
    obtain⟨c0,c1,c2,c3,c4,c5,c6,c7,c8,c9,c10,c11⟩:=bM hbk
    clear hrc hs' hI0 hF1 hFu hfw hfb hb0 hbk hW0 hBr HI hgd hq0 hq1 hq2 hq3 hq4 hq5 hq6 hq7 hq8 hq9 hq10 HI5
    go_wp2_with fail
    rw[HW0.out]
    go_region_held3 (fun w'=>w'.cell? ⟨wr.1.size,0,none⟩=some (.int .i64 b0)∧w'.cell? ⟨wr.1.size,1,none⟩=some (.int .i64 b1)∧w'.cell? ⟨wr.1.size,2,none⟩=some (.slice sp b2 sc)∧w'.cell? ⟨wr.1.size,3,none⟩=some (.int .i64 b3)∧w'.cell? ⟨wr.1.size,4,none⟩=some (.int .i64 b4)∧w'.cell? ⟨wr.1.size,5,none⟩=some (.int .i64 b5)∧w'.cell? ⟨wr.1.size,6,none⟩=some (.slice bp b6 bc)∧w'.cell? ⟨wr.1.size,7,none⟩=some (.int .i64 b7)∧w'.cell? ⟨wr.1.size,8,none⟩=some (.int .i64 b8)∧w'.cell? ⟨wr.1.size,9,none⟩=some (.int .i64 b9)∧w'.cell? ⟨wr.1.size,10,none⟩=some (.slice ep b10 ec)∧w'.cell? ⟨wr.1.size,11,none⟩=some (.int .i64 pl)) (go_keep) (first
     | (go_at_call 9;refine HN1.out.mono ?_;rintro e w5' ⟨rfl,hm5,hk5⟩;obtain⟨y0,y1,y2,y3,y4,y5,y6,y7,y8,y9,y10,y11⟩:=bM hk5;have HM5:=vQ hm5;have HK5:=vQ hk5;clear hm5 hk5)
     | (go_at_call 10;refine(HN2.out _ HM5.out HK5.out).mono ?_;rintro e w6 ⟨rfl,⟨x',hi6,ht6,hf6⟩,hk6⟩;obtain⟨z0,z1,z2,z3,z4,z5,z6,z7,z8,z9,z10,z11⟩:=bM hk6;have HM6:=vQ hi6;have HT6:=vQ ht6;clear hi6 hk6 ht6)
     |fail)
    go_wp2
    go_roundw
    case rel=>exact⟨ja+1,_,_,by omega,by go_num,hf6,HM6,HT6⟩
    case measure=>simp[intOf];omega
   have f1:¬(ja:Int)<(l2.length:Int):=by omega
   clear hlt HI5
   have HSe:=vQ (HI.out.swap.seen HT.out)
   go_wp2_with fail
   refine HSe.out.mono ?_
   rintro e w7 ⟨rfl,hb7⟩
   have HI7:=vQ (HI.out.swap.on hb7)
   clear hb7 HSe HI HA2 HWf2
   go_wp2_with fail
   go_loopw [94] (fun vv wr=>∃(jb:Nat) (sb:Wk) (xb:Rw),jb<=l3.length∧vv=.int .i64 (jb:Nat)∧xb.l.length<=i+jb∧Hid (W4 w1 wr cc Mc w4.1.size (w1.1.size+1) w1.1.size w2.1.size (i+jb) (i+ja) sb xb sa xa)∧Hid (Rw.Twin sb xb)) (fun vv _=>l3.length-(intOf vv).toNat)
   case atStart=>exact⟨0,_,_,Nat.zero_le _,rfl,(by omega),HI7,HT⟩
   case round=>
    obtain⟨jb,sb,xb,hj,rfl,hfew,HI,HTb⟩:=hrel
    have hjI:(jb:Int)<=50:=by omega
    by_cases hlt:jb<l3.length
    case pos=>
     have f1:(jb:Int)<(l3.length:Int):=by omega
     have hBr:=HB1.out.trans (HI.out.below.mono HB1.out.size)
     obtain⟨bb,oo,sp,sc,bp,bc,ep,ec,rfl,hOp⟩:=HA3.out.open14 jb hlt
     obtain⟨hfw,hfb⟩:=HWf3.out l3[jb] (List.getElem_mem hlt)
     obtain⟨-,d0,d1,d2,d3,d4,d5,d6,d7,d8,d9,d10,d11⟩:=hOp wr hBr
     have hFu:=fun w' hb=>(hOp w' hb).1
     clear hOp
     generalize l3[jb]=q at *
     obtain⟨f,pl⟩:=q
     unfold av at hFu
     dsimp only at hfw hfb d0 d1 d2 d3 d4 d5 d6 d7 d8 d9 d10 d11 hFu
     obtain⟨b0,hq0⟩:∃y,y=f.kind:=⟨_,rfl⟩
     obtain⟨b1,hq1⟩:∃y,y=f.number:=⟨_,rfl⟩
     obtain⟨b2,hq2⟩:∃y,y=f.cols.length:=⟨_,rfl⟩
     obtain⟨b3,hq3⟩:∃y,y=f.seq:=⟨_,rfl⟩
     obtain⟨b4,hq4⟩:∃y,y=f.first:=⟨_,rfl⟩
     obtain⟨b5,hq5⟩:∃y,y=f.rows:=⟨_,rfl⟩
     obtain⟨b6,hq6⟩:∃y,y=f.block.length:=⟨_,rfl⟩
     obtain⟨b7,hq7⟩:∃y,y=f.index.at_:=⟨_,rfl⟩
     obtain⟨b8,hq8⟩:∃y,y=f.index.frames:=⟨_,rfl⟩
     obtain⟨b9,hq9⟩:∃y,y=f.index.rows:=⟨_,rfl⟩
     obtain⟨b10,hq10⟩:∃y,y=f.index.entries.length:=⟨_,rfl⟩
     rw[<-hq0] at d0
     rw[<-hq1] at d1
     rw[<-hq2] at d2
     rw[<-hq3] at d3
     rw[<-hq4] at d4
     rw[<-hq5] at d5
     rw[<-hq6] at d6
     rw[<-hq7] at d7
     rw[<-hq8] at d8
     rw[<-hq9] at d9
     rw[<-hq10] at d10
     rw[<-hq0,<-hq1,<-hq2,<-hq3,<-hq4,<-hq5,<-hq6,<-hq7,<-hq8,<-hq9,<-hq10] at hFu
     obtain⟨W0,hW0⟩:∃W0,W0=wr.alloc (.cells #[.int .i64 b0,.int .i64 b1,.slice sp b2 sc,.int .i64 b3,.int .i64 b4,.int .i64 b5,.slice bp b6 bc,.int .i64 b7,.int .i64 b8,.int .i64 b9,.slice ep b10 ec,.int .i64 pl] 38):=⟨_,rfl⟩
     have hb0:Below wr.1.size wr W0:=by rw[hW0];exact vY
     have hbk:W0.1[wr.1.size]?=some (.cells #[.int .i64 b0,.int .i64 b1,.slice sp b2 sc,.int .i64 b3,.int .i64 b4,.int .i64 b5,.slice bp b6 bc,.int .i64 b7,.int .i64 b8,.int .i64 b9,.slice ep b10 ec,.int .i64 pl] 38 (0,0)):=by rw[hW0];exact ag wr _
     have hz0:W0.1.size=wr.1.size+1:=by rw[hW0];simp
     have HW0:=vQ hW0.symm
     have hI0:=HI.out.on hb0.drew
     have hF1:∀w',Below w1.1.size w1 w'->aB w' #[.int .i64 b0,.int .i64 b1,.slice sp b2 sc,.int .i64 b3,.int .i64 b4,.int .i64 b5,.slice bp b6 bc,.int .i64 b7,.int .i64 b8,.int .i64 b9,.slice ep b10 ec] f:=fun w' hb=>hFu w' (HB1.out.trans (hb.mono HB1.out.size))
     obtain⟨rc,hrc⟩:∃rc:Int,rc=if Sc.may sb f pl=true then 0 else 143:=⟨_,rfl⟩
     obtain⟨s',hs'⟩:∃s',s'=Sc.next sb f pl:=⟨_,rfl⟩
     have hgd:Sc.Good sb:=by obtain⟨v0,g0,v1,g1,k1,-⟩:=HI.out.out;exact k1.good
     have HN1:Hid (Calls Tryz.prog 9 #[.pointer (some ⟨cc,0,none⟩),.agg #[.int .i64 b0,.int .i64 b1,.slice sp b2 sc,.int .i64 b3,.int .i64 b4,.int .i64 b5,.slice bp b6 bc,.int .i64 b7,.int .i64 b8,.int .i64 b9,.slice ep b10 ec],.int .i64 pl] W0.drew fun e w'=>e=.returned (.int .i64 rc)∧W4 w1 w' cc Mc w4.1.size (w1.1.size+1) w1.1.size w2.1.size (i+jb+1) (i+ja) s' xb sa xa∧w'.1[wr.1.size]?=some (.cells #[.int .i64 b0,.int .i64 b1,.slice sp b2 sc,.int .i64 b3,.int .i64 b4,.int .i64 b5,.slice bp b6 bc,.int .i64 b7,.int .i64 b8,.int .i64 b9,.slice ep b10 ec,.int .i64 pl] 38 (0,0))):=by
      refine(hI0.knext f hfw _ (hF1 _ hI0.below) pl ((HHv.out.next HB1.out).next hI0.below) (by omega)).mono fun e w' ⟨y1,y2,v,g,G,hk,ha⟩=>⟨by rw[hrc];exact y1,by rw[hs'];exact y2,?_⟩
      rw[ha.block wr.1.size (by show wr.1.size<W0.1.size;omega) (fun hc=>?_)]
      ·exact hbk
      ·obtain⟨v0,g0,v1,g1,k1,-⟩:=HI.out.out
       have e5:W0.drew.cell? ⟨cc,5,none⟩=some v:=hk.cell 5
       have e6:wr.cell? ⟨cc,5,none⟩=some v0:=k1.cell 5
       have e7:=ab hb0.drew e6
       rw[e5] at e7
       injection e7 with e7
       subst e7
       have:=k1.under14 (.inl hc)
       omega
     have HN2:Hid (∀w5,W4 w1 w5 cc Mc w4.1.size (w1.1.size+1) w1.1.size w2.1.size (i+jb+1) (i+ja) s' xb sa xa->w5.1[wr.1.size]?=some (.cells #[.int .i64 b0,.int .i64 b1,.slice sp b2 sc,.int .i64 b3,.int .i64 b4,.int .i64 b5,.slice bp b6 bc,.int .i64 b7,.int .i64 b8,.int .i64 b9,.slice ep b10 ec,.int .i64 pl] 38 (0,0))->Calls Tryz.prog 10 #[.pointer (some ⟨w4.1.size,0,none⟩),.agg #[.int .i64 b0,.int .i64 b1,.slice sp b2 sc,.int .i64 b3,.int .i64 b4,.int .i64 b5,.slice bp b6 bc,.int .i64 b7,.int .i64 b8,.int .i64 b9,.slice ep b10 ec],.int .i64 pl] w5 fun e w'=>e=.returned (.int .i64 rc)∧(∃x',W4 w1 w' cc Mc w4.1.size (w1.1.size+1) w1.1.size w2.1.size (i+jb+1) (i+ja) s' x' sa xa∧Rw.Twin s' x'∧x'.l.length<=i+(jb+1))∧w'.1[wr.1.size]?=some (.cells #[.int .i64 b0,.int .i64 b1,.slice sp b2 sc,.int .i64 b3,.int .i64 b4,.int .i64 b5,.slice bp b6 bc,.int .i64 b7,.int .i64 b8,.int .i64 b9,.slice ep b10 ec,.int .i64 pl] 38 (0,0))):=fun w5 hm hk=>by
      have hlw:w4.1.size<wr.1.size:=by obtain⟨v0,g0,v1,g1,-,k2,-⟩:=HI.out.out;exact k2.lt
      refine(hm.rnext HTb.out hgd (by omega) hfw hfb _ hF1).mono fun e w' ⟨y1,y2,y3⟩=>⟨by rw[hrc];exact y1,⟨_,y2,?_,?_⟩,?_⟩
      ·rw[hs']
       unfold Sc.next
       by_cases hm:Sc.may sb f pl=true
       ·rw[if_pos hm,if_pos hm];exact HTb.out.push hgd hm
       ·rw[if_neg hm,if_neg hm];exact HTb.out
      ·split
       ·simp[Rw.push];omega
       ·omega
      ·rw[y3.block wr.1.size (aw hk) (by omega)]
       exact hk
     obtain⟨c0,c1,c2,c3,c4,c5,c6,c7,c8,c9,c10,c11⟩:=bM hbk
     clear hrc hs' hI0 hF1 hFu hfw hfb hb0 hbk hW0 hBr HI hgd hq0 hq1 hq2 hq3 hq4 hq5 hq6 hq7 hq8 hq9 hq10 HI7
     go_wp2_with fail
     rw[HW0.out]
     go_region_held3 (fun w'=>w'.cell? ⟨wr.1.size,0,none⟩=some (.int .i64 b0)∧w'.cell? ⟨wr.1.size,1,none⟩=some (.int .i64 b1)∧w'.cell? ⟨wr.1.size,2,none⟩=some (.slice sp b2 sc)∧w'.cell? ⟨wr.1.size,3,none⟩=some (.int .i64 b3)∧w'.cell? ⟨wr.1.size,4,none⟩=some (.int .i64 b4)∧w'.cell? ⟨wr.1.size,5,none⟩=some (.int .i64 b5)∧w'.cell? ⟨wr.1.size,6,none⟩=some (.slice bp b6 bc)∧w'.cell? ⟨wr.1.size,7,none⟩=some (.int .i64 b7)∧w'.cell? ⟨wr.1.size,8,none⟩=some (.int .i64 b8)∧w'.cell? ⟨wr.1.size,9,none⟩=some (.int .i64 b9)∧w'.cell? ⟨wr.1.size,10,none⟩=some (.slice ep b10 ec)∧w'.cell? ⟨wr.1.size,11,none⟩=some (.int .i64 pl)) (go_keep) (first
      | (go_at_call 9;refine HN1.out.mono ?_;rintro e w5' ⟨rfl,hm5,hk5⟩;obtain⟨y0,y1,y2,y3,y4,y5,y6,y7,y8,y9,y10,y11⟩:=bM hk5;have HM5:=vQ hm5;have HK5:=vQ hk5;clear hm5 hk5)
      | (go_at_call 10;refine(HN2.out _ HM5.out HK5.out).mono ?_;rintro e w6 ⟨rfl,⟨x',hi6,ht6,hf6⟩,hk6⟩;obtain⟨z0,z1,z2,z3,z4,z5,z6,z7,z8,z9,z10,z11⟩:=bM hk6;have HM6:=vQ hi6;have HT6:=vQ ht6;clear hi6 hk6 ht6)
      |fail)
     go_wp2
     go_roundw
     case rel=>exact⟨jb+1,_,_,by omega,by go_num,hf6,HM6,HT6⟩
     case measure=>simp[intOf];omega
    have f1:¬(jb:Int)<(l3.length:Int):=by omega
    clear hlt HI7
    have HS1:=vQ (HI.out.swap.seen HTa.out)
    go_wp2_with fail
    refine HS1.out.mono ?_
    rintro e w8 ⟨rfl,hb8⟩
    have hI8:=HI.out.on hb8
    have HS2:=vQ (hI8.seen HTb.out)
    have HB8:=vQ hI8.below
    clear hb8 hI8 HS1 HI
    go_wp2_with fail
    refine HS2.out.mono ?_
    rintro e w9 ⟨rfl,hb9⟩
    have HBz:=vQ (HB1.out.trans ((HB8.out.trans (hb9.mono HB8.out.size)).mono HB1.out.size))
    clear hb9 HS2 HB8
    go_wp2
    go_ret
    exact⟨rfl,HBz.out⟩
end
end Go.Proofs.YtlgfdgdlaahpfaaGreatDoor
