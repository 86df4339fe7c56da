import Derived.Test.YtlgfdgdlaahpfaaGreatDoorA1
import Derived.Test.YtlgfdgdlaahpfaaGreatDoorB51
import Derived.Test.YtlgfdgdlaahpfaaGreatDoorB38
set_option maxRecDepth 100000
set_option maxHeartbeats 8000000
namespace Go.Proofs.YtlgfdgdlaahpfaaGreatDoor
section
open Go.RowKit
section
variable {w:World} {B g:Nat} {v:Value} {s:Dv.St}
theorem pT(F:Nat->Prop)(w:World):Calls Tryz.prog 8 #[] w fun e w'=>e=.returned (.pointer (some ⟨w.1.size,0,none⟩))∧aG w' w.1.size Rw.new F∧Below w.1.size w w'∧w'.1.size=w.1.size+1:=by
 have HK:=vQ (ag w (.cells #[.slice none 0 0,.int .i64 0,.int .i64 0,.slice none 0 0,.slice none 0 0] 71))
 have HB:Hid (Below w.1.size w (w.alloc (.cells #[.slice none 0 0,.int .i64 0,.int .i64 0,.slice none 0 0,.slice none 0 0] 71))):=vY
 go_enter Tryz.func8,Tryz.ntmps8
 go_wp2
 go_ret
 refine⟨rfl,⟨⟨none,0,none,0,none,0,[],[],HK.out,rfl,rfl,fun w' _=>⟨⟨fun z hz=>(by cases hz),fun j hj=>(by cases hj)⟩,ee _ _,fun z hz=>(by cases hz),fun j hj=>(by cases hj)⟩,by decide,vX⟩,⟨by decide,by decide,by decide,by decide,fun q hq=>(by cases hq)⟩⟩,HB.out,by simp⟩
structure WhR(w wr:World)(B g:Nat)(v:Value)(s:Dv.St)(j:Nat)(X:Sc.Pos):Prop where
 dev:cm wr B g v { s with told:=s.told+X.read }
 walk:∃x,aG wr w.1.size x (fun i=>i=g)∧Rw.Twin X.wk x∧x.l.length<=j
 aside:Aside (fun i=>i=g) w wr
 goes:Sc.goes s.b j=some X
end
end
section
open Go.RowKit
def ug:Prop:=∀(w:World),Hv w->Calls Tryz.prog 6 #[] w fun e w'=>e=.returned (.bool true)∧Below w.1.size w w'
def fQ(w:World)(p:OA)(l:List Int):Prop:=∀i (hi:i<l.length),∃b o,p=some ⟨b,o,none⟩∧b<w.1.size∧w.cell? ⟨b,o+i,none⟩=some (.int .i64 l[i])
theorem fQ.on{w w':World}{p:OA}{l:List Int}(h:fQ w p l)(hb:Below w.1.size w w'):fQ w' p l:=fun i hi=>by
 obtain⟨b,o,h1,h2,h3⟩:=h i hi
 exact⟨b,o,h1,Nat.lt_of_lt_of_le h2 hb.size,ab hb h3⟩
theorem pn{B:Nat}{v:Value}{xs l:List Int}{p:OA}{c:Nat}{w:World}(hown:eR w B v xs)(h:fQ w p l)(hlen:xs.length+l.length<=100)(hB:B<=w.1.size){ops:Array Oper}{rest:List Oper}{o:Oper}{a:Act}{Q:Exit->Act->World->Prop}{y x:Operand}(ht:o.type=77)(hg:o.guard=none)(hop:o.op=Op.call { callee:=Callee.builtin Builtin.append,args:=#[y,x],argTypes:=#[77,77] })(hs:a.eval y=v)(hx:a.eval x=.slice p l.length c)(hK:∀ys q cap W,Hid (ys=xs++l)->eR W B (.slice q ys.length cap) ys->Below B w W->wpList Tryz.prog ops Q rest (a.put o.dst (.slice q ys.length cap)) W):
  wpList Tryz.prog ops Q (o::rest) a w:=by
 obtain⟨i,hi,hz,hsz,hby⟩:=info_parts uN
 by_cases h0:l=[]
 ·subst h0
  obtain⟨q,cap,rfl,hcap,-⟩:=hown.ints
  have hr:bC Tryz.prog 77 77 o.type (.slice q xs.length cap) (.slice p 0 c) w (.slice q xs.length cap) w:=by
   rw[ht]
   refine⟨run_append_nothing (P:=Tryz.prog) w 77 77 77 2 i Tryz.underlying77 hi q xs.length cap hcap (.slice p 0 c) ?_⟩
   cases p with
   |none=>exact Src.ofNil w Tryz.underlying77 c
   |some a=>exact Src.ofSlice w Tryz.underlying77 a 0 c [] (by simp) (fun j u hj=>by simp at hj) (fun u hu=>by cases hu)
  exact az hr hg hop hs hx (hK xs q cap w (by show xs=xs++[];simp) hown vZ)
 ·have hpos:0<l.length:=List.length_pos_iff.2 h0
  obtain⟨b,off,rfl,-⟩:=h 0 hpos
  have hcell:∀j u,(l.map fun n=>Value.int .i64 n)[j]?=some u->w.cell? (Addr.add ⟨b,off,none⟩ j)=some u:=fun j u hj=>by
   rw[List.getElem?_map] at hj
   obtain⟨m,hm,rfl⟩:=Option.map_eq_some_iff.1 hj
   obtain⟨hj2,rfl⟩:=List.getElem?_eq_some_iff.1 hm
   obtain⟨b',o',he,-,hk⟩:=h j hj2
   simp only[Option.some.injEq,Addr.mk.injEq,and_true] at he
   obtain⟨rfl,rfl⟩:=he
   rw[Lib.add_plain]
   exact hk
  obtain⟨g,cap,W,hr,hm,hgr,-,-⟩:=run_append_lies (P:=Tryz.prog) w 77 77 B 2 i (.int .i64 0) 1 8 Tryz.underlying77 hi hz hsz hby rfl (by decide) v xs.length _ hown ⟨b,off,none⟩ l.length c _ (by simp) hcell (fun u hu=>by obtain⟨_,_,rfl⟩:=List.mem_map.1 hu;rfl) hpos (by unfold maxLen;omega) (by omega) hB w.1.size rfl
  rw[<-List.map_append,<-List.length_append] at hm
  rw[<-List.length_append] at hr
  have hr':bC Tryz.prog 77 77 o.type v (.slice (some ⟨b,off,none⟩) l.length c) w (.slice (some ⟨g,0,none⟩) (xs++l).length cap) W:=by rw[ht];exact⟨hr⟩
  exact az hr' hg hop hs hx (hK _ _ cap W (vQ rfl) hm ((bY hgr).below hB fun k hk hc=>by have:=(hown.lt k hc).1;omega))
theorem eR.nums{w:World}{B:Nat}{q:OA}{n c:Nat}{l:List Int}(h:eR w B (.slice q n c) l):fQ w q l:=fun i hi=>by
 obtain⟨p,c',hv,-,h1⟩:=h.ints
 injection hv with hv _ _
 rcases h1 with h1 | ⟨g,h1,-,h2,h3⟩
 ·rw[h1] at hi;simp at hi
 ·exact⟨g,0,hv.trans h1,h2,by rw[Nat.zero_add];exact h3 i hi⟩
def nF(w:World)(p:Addr):Prop:=(∃v,w.cell? p=some v)∧w.frozen? p=false
theorem nF.set{w:World}{p:Addr}(h:nF w p)(q:Addr)(u:Value):nF (w.setCell q u) p:=by
 obtain⟨⟨v,h1⟩,h2⟩:=h
 refine⟨?_,by rw[World.frozen?_setCell];exact h2⟩
 by_cases e:q=p
 ·subst e
  exact⟨u,World.cell?_setCell_same (h:=h1) ..⟩
 ·exact⟨v,by rw[World.cell?_setCell_other (h:=by first | exact e | exact fun hc=>e hc.symm)];exact h1⟩
def dA(w:World)(B:Nat)(q:OA)(n z:Nat):Prop:=∀i,i<n->∃g,q=some ⟨g,0,none⟩∧B<=g∧g<w.1.size∧∀m,m<z->nF w ⟨g,i*z+m,none⟩
theorem dA.set{w:World}{B:Nat}{q:OA}{n z:Nat}(h:dA w B q n z)(p:Addr)(u:Value):dA (w.setCell p u) B q n z:=fun i hi=>by
 obtain⟨g,h1,h2,h3,h4⟩:=h i hi
 exact⟨g,h1,h2,by simpa[World.setCell] using h3,fun m hm=>(h4 m hm).set _ _⟩
theorem dA.on{w w':World}{B:Nat}{q:OA}{n z:Nat}(h:dA w B q n z)(hb:Below w.1.size w w'):dA w' B q n z:=fun i hi=>by
 obtain⟨g,h1,h2,h3,h4⟩:=h i hi
 refine⟨g,h1,h2,Nat.lt_of_lt_of_le h3 hb.size,fun m hm=>?_⟩
 obtain⟨⟨v,h5⟩,h6⟩:=h4 m hm
 exact⟨⟨v,ab hb h5⟩,by rw[World.frozen?_of_block (a:=⟨g,i*z+m,none⟩) (hb.block g h3)];exact h6⟩
theorem kw{w:World}{B:Nat}{e:TypeId}{z n:Nat}{q:OA}{k cap:Nat}{xs:List Value}(h:w.ownsRow B e z (.slice q k cap) n xs):n<=cap∧cap<=maxLen∧dA w B q cap z:=by
 rcases h.2 with ⟨h1,h2⟩ | ⟨g,c',cur,h0,h1,h2,h3,h4,h5,-⟩
 ·injection h1 with _ _ h1
  subst h1 h2
  exact⟨vX,by decide,fun i hi=>by omega⟩
 ·injection h0 with h7 _ h8
  subst h7 h8
  refine⟨h3,h4,fun i hi=>⟨g,rfl,h1,(Array.getElem?_eq_some_iff.1 h2).1,fun m hm=>⟨?_,by simp[World.frozen?,h2]⟩⟩⟩
  have hlt:i*z+m<cur.size:=by
   rw[h5]
   have:(i+1)*z<=cap*z:=Nat.mul_le_mul_right _ hi
   rw[Nat.add_mul,Nat.one_mul] at this
   omega
  exact⟨cur[i*z+m],by simp[World.cell?,h2,hlt]⟩
theorem dk{w w':World}{B:Nat}(h:Below B w w'){g m:Nat}(hg:B<=g)(u:Value):Below B w (w'.setCell ⟨g,m,none⟩ u):=by
 refine⟨h.os,h.tape,h.output,by simpa[World.setCell] using h.size,fun k hk=>?_⟩
 rw[Below.heap_setCell _ _ _ _ (by show k≠g;omega)]
 exact h.block k hk
theorem pE{s:Wk}{x:Rw}(ht:Rw.Twin s x)(m:Int):∃(C D:List Col) (is:Bool) (pl:Int),Sch.same C D=true∧(∀w e w',uU (s.sch m) w e w'->∃q cap,e=.returned (.tuple #[.agg #[.slice q C.length cap],.bool is])∧C.length*120<=140737488351232∧bg w' q C∧dA w' w.1.size q C.length 9)∧(∀w' e,rG w' (x.schema m) e->∃q cap,e=.returned (.tuple #[.agg #[.slice q D.length cap],.bool is])∧bg w' q D)∧(Sc.placeAt s m=pl∧(s.sch m).isSome=is)∧x.place m=(pl,is):=by
 have h:=ht.sch m
 unfold Sc.placeAt
 cases hk:s.sch m with
 |none=>
  rw[hk] at h
  rw[h.1]
  refine⟨[],[],false,0,rfl,fun w e w' he=>⟨none,0,he,by simp,fun j hj=>(by simp at hj),fun i hi=>(by simp at hi)⟩,fun w' e he=>⟨none,0,he,fun j hj=>(by simp at hj)⟩,⟨rfl,rfl⟩,h.2⟩
 |some k=>
  rw[hk] at h
  obtain⟨q,q1,q2,q3⟩:=h
  rw[q1]
  refine⟨k.cols,q.1.cols,true,k.place,?_,fun w e w' he=>?_,fun w' e he=>?_,⟨rfl,rfl⟩,q3⟩
  ·rw[Sch.same_fix,q2,List.map_map]
   exact List.map_congr_left fun c _=>Fr.col_fix_idem c
  ·obtain⟨p,c,he,ho⟩:=he
   obtain⟨v,us,Fs,hv,hb,hl⟩:=ho.out
   have hv2:v=.slice p k.cols.length c:=by injection hv with hv;injection hv with hv;exact hv.symm
   subst hv2
   obtain⟨p2,c2,hv3,-,hcols⟩:=hb.cols hl
   injection hv3 with i1 _ _
   subst i1
   obtain⟨h1,-,h2⟩:=kw hb.row
   exact⟨p,c,he,hl,hcols,fun i hi=>h2 i (by omega)⟩
  ·obtain⟨p,c,he,-,-,hc⟩:=he
   exact⟨p,c,he,hc⟩
section
variable {w:World} {B a M n b:Nat} {v:Value} {g:Int->Option Value} {s:Wk} {G F:Nat->Prop} {x:Rw}
theorem tk(hK:ao w B a M n v g s G)(hR:aG w b x F)(hFb:¬F b)(hT:Rw.Twin s x)(p:OA)(c:Nat)(ns:List Int)(hn:ns.length<=2)(hi:∀m∈ns,Fr.i64 m)(hN:fQ w p ns):
    Calls Tryz.prog 11 #[.pointer (some ⟨a,0,none⟩),.pointer (some ⟨b,0,none⟩),.slice p ns.length c] w fun e w'=>e=.returned (.bool true)∧Below w.1.size w w':=by
  have HK:=vQ hK
  have HR:=vQ hR
  have HT:=vQ hT
  have HN:=vQ hN
  have HI:=vQ hi
  have HE:=vQ (kS hK)
  obtain⟨fr,hfr⟩:∃y,y=s.frames:=⟨_,rfl⟩
  obtain⟨ro,hro⟩:∃y,y=s.rows:=⟨_,rfl⟩
  obtain⟨nu,hnu⟩:∃y,y=s.number:=⟨_,rfl⟩
  obtain⟨si,hsi⟩:∃y,y=s.since:=⟨_,rfl⟩
  obtain⟨cl,hcl⟩:∃y,y=s.closed:=⟨_,rfl⟩
  have K1:Hid (∀w',Below w.1.size w w'->Calls Tryz.prog 23 #[.pointer (some ⟨a,0,none⟩)] w' fun e w''=>e=.returned (.int .i64 fr)∧w''=w'):=fun w' hb=>by rw[hfr];exact np (hK.on hb)
  have K2:Hid (∀w',Below w.1.size w w'->Calls Tryz.prog 24 #[.pointer (some ⟨a,0,none⟩)] w' fun e w''=>e=.returned (.int .i64 ro)∧w''=w'):=fun w' hb=>by rw[hro];exact s8 (hK.on hb)
  have K3:Hid (∀w',Below w.1.size w w'->Calls Tryz.prog 25 #[.pointer (some ⟨a,0,none⟩)] w' fun e w''=>e=.returned (.int .i64 nu)∧w''=w'):=fun w' hb=>by rw[hnu];exact no (hK.on hb)
  have K4:Hid (∀w',Below w.1.size w w'->Calls Tryz.prog 26 #[.pointer (some ⟨a,0,none⟩)] w' fun e w''=>e=.returned (.int .i64 si)∧w''=w'):=fun w' hb=>by rw[hsi];exact qG (hK.on hb)
  have K5:Hid (∀w',Below w.1.size w w'->Calls Tryz.prog 37 #[.pointer (some ⟨a,0,none⟩)] w' fun e w''=>e=.returned (.bool cl)∧w''=w'):=fun w' hb=>by rw[hcl];exact sx (hK.on hb)
  have R1:Hid (∀w',Below w.1.size w w'->Calls Tryz.prog 33 #[.pointer (some ⟨b,0,none⟩)] w' fun e w''=>e=.returned (.int .i64 fr)∧Below w'.1.size w' w''):=fun w' hb=>(dX (hR.on hb hFb)).mono fun e w'' ⟨q1,q2⟩=>⟨by rw[hfr,<-hT.frames];exact q1,q2⟩
  have R2:Hid (∀w',Below w.1.size w w'->Calls Tryz.prog 34 #[.pointer (some ⟨b,0,none⟩)] w' fun e w''=>e=.returned (.int .i64 ro)∧Below w'.1.size w' w''):=fun w' hb=>(fN (hR.on hb hFb)).mono fun e w'' ⟨q1,q2⟩=>⟨by rw[hro,<-hT.rows];exact q1,q2⟩
  have R3:Hid (∀w',Below w.1.size w w'->Calls Tryz.prog 35 #[.pointer (some ⟨b,0,none⟩)] w' fun e w''=>e=.returned (.int .i64 nu)∧Below w'.1.size w' w''):=fun w' hb=>(cI (hR.on hb hFb)).mono fun e w'' ⟨q1,q2⟩=>⟨by rw[hnu,<-hT.number];exact q1,q2⟩
  have R4:Hid (∀w',Below w.1.size w w'->Calls Tryz.prog 36 #[.pointer (some ⟨b,0,none⟩)] w' fun e w''=>e=.returned (.int .i64 si)∧Below w'.1.size w' w''):=fun w' hb=>(lZ (hR.on hb hFb)).mono fun e w'' ⟨q1,q2⟩=>⟨by rw[hsi,<-hT.sinceEq];exact q1,q2⟩
  have R5:Hid (∀w',Below w.1.size w w'->Calls Tryz.prog 38 #[.pointer (some ⟨b,0,none⟩)] w' fun e w''=>e=.returned (.bool cl)∧Below w'.1.size w' w''):=fun w' hb=>(kC (hR.on hb hFb)).mono fun e w'' ⟨q1,m,q2⟩=>⟨by rw[hcl,<-hT.closed];exact q1,by rw[q2];exact below_drewN vZ m⟩
  have hnr:=hK.good.number
  rw[<-hnu] at hnr
  obtain⟨L,hL⟩:∃L,L=s.ents:=⟨_,rfl⟩
  have R6:Hid (∀w',Below w.1.size w w'->Calls Tryz.prog 40 #[.pointer (some ⟨b,0,none⟩)] w' fun e w''=>∃q cap,e=.returned (.slice q L.length cap)∧cQ w'' q L∧Below w'.1.size w' w''):=fun w' hb=>(fb (hR.on hb hFb)).mono fun e w'' ⟨q,cap,q1,q2,q3⟩=>by
    rw[hT.entsEq,<-hL] at q1 q2
    obtain⟨p2,c2,hv,-,he,-⟩:=q2.ents
    injection hv with i1 _ _
    subst i1
    exact⟨q,cap,q1,he,q3⟩
  rw[<-hL] at HE
  have hLb:=hK.good.ents
  rw[<-hL] at hLb
  have R7:Hid (∀w' q cap q2 cap2,cQ w' q L->cQ w' q2 L->Calls Tryz.prog 39 #[.slice q L.length cap,.slice q2 L.length cap2] w' fun e w''=>e=.returned (.bool true)∧∃m,w''=w'.drewN m):=fun w' q cap q2 cap2 h1 h2=>by
    have h5:=eF q q2 cap cap2 L L hLb w' h1 h2
    rw[decide_eq_true rfl] at h5
    exact h5
  clear hK hR hT hN hi hfr hro hnu hsi hcl hL
  go_enter Tryz.func11,Tryz.ntmps11
  go_wp2_with fail
  refine HE.out.mono ?_
  rintro e w1 ⟨q,cap,rfl,hE1,hb1⟩
  have HE1:=vQ hE1
  have HA1:=vQ hb1
  clear hE1 hb1 HE
  go_wp2_with fail
  refine(K1.out _ HA1.out).mono ?_
  rintro e w' ⟨rfl,hw'⟩
  rw[hw']
  clear hw' w'
  go_wp2_with fail
  refine(R1.out _ HA1.out).mono ?_
  rintro e w2 ⟨rfl,hb⟩
  have HC2:Hid (Below w1.1.size w1 w2):=hb
  have HA2:=vQ (HA1.out.trans (HC2.out.mono HA1.out.size))
  clear hb
  go_wp2_with fail
  refine(K2.out _ HA2.out).mono ?_
  rintro e w' ⟨rfl,hw'⟩
  rw[hw']
  clear hw' w'
  go_wp2_with fail
  refine(R2.out _ HA2.out).mono ?_
  rintro e w3 ⟨rfl,hb⟩
  have HC3:Hid (Below w1.1.size w1 w3):=HC2.out.trans (hb.mono HC2.out.size)
  have HA3:=vQ (HA1.out.trans (HC3.out.mono HA1.out.size))
  clear hb HC2 HA2
  go_wp2_with fail
  refine(K3.out _ HA3.out).mono ?_
  rintro e w' ⟨rfl,hw'⟩
  rw[hw']
  clear hw' w'
  go_wp2_with fail
  refine(R3.out _ HA3.out).mono ?_
  rintro e w4 ⟨rfl,hb⟩
  have HC4:Hid (Below w1.1.size w1 w4):=HC3.out.trans (hb.mono HC3.out.size)
  have HA4:=vQ (HA1.out.trans (HC4.out.mono HA1.out.size))
  clear hb HC3 HA3
  go_wp2_with fail
  refine(K4.out _ HA4.out).mono ?_
  rintro e w' ⟨rfl,hw'⟩
  rw[hw']
  clear hw' w'
  go_wp2_with fail
  refine(R4.out _ HA4.out).mono ?_
  rintro e w5 ⟨rfl,hb⟩
  have HC5:Hid (Below w1.1.size w1 w5):=HC4.out.trans (hb.mono HC4.out.size)
  have HA5:=vQ (HA1.out.trans (HC5.out.mono HA1.out.size))
  clear hb HC4 HA4
  go_wp2_with fail
  refine(K5.out _ HA5.out).mono ?_
  rintro e w' ⟨rfl,hw'⟩
  rw[hw']
  clear hw' w'
  go_wp2_with fail
  refine(R5.out _ HA5.out).mono ?_
  rintro e w6 ⟨rfl,hb⟩
  have HC6:Hid (Below w1.1.size w1 w6):=HC5.out.trans (hb.mono HC5.out.size)
  have HA6:=vQ (HA1.out.trans (HC6.out.mono HA1.out.size))
  clear hb HC5 HA5
  go_wp2_with fail
  refine(R6.out _ HA6.out).mono ?_
  rintro e w7 ⟨q7,cap7,rfl,he7,hb⟩
  have HC7:Hid (Below w1.1.size w1 w7):=HC6.out.trans (hb.mono HC6.out.size)
  have HA7:=vQ (HA1.out.trans (HC7.out.mono HA1.out.size))
  obtain⟨p2,c2,hv,-,hq1,-⟩:=HE1.out.ents
  injection hv with i1 _ i3
  subst i1 i3
  have HS7:=vQ (R7.out w7 q cap q7 cap7 (hq1.on HC7.out) he7)
  clear hb HC6 HA6 hq1 he7
  go_wp2_with fail
  refine HS7.out.mono ?_
  rintro e w' ⟨rfl,m8,hw'⟩
  obtain⟨hcl,hcm,hsf⟩:=kw HE1.out
  obtain⟨w8,hw8⟩:∃w8,w8=w':=⟨_,rfl⟩
  rw[<-hw8]
  have hC8:Below w1.1.size w1 w8:=by rw[hw8,hw'];exact below_drewN HC7.out m8
  have HC8:=vQ hC8
  have HA8:=vQ (HA1.out.trans (hC8.mono HA1.out.size))
  have HSf:=vQ (hsf.on hC8)
  have sl:∀w',(Instr.slice 32 (.slice q L.length cap) none (some (.int .i64 (cap:Nat))) none).run Tryz.prog w'=.ok (.slice q cap cap) w':=fun w'=>by
    have hs:(sizeOf (Tryz.prog.elem 32)).run Tryz.prog w'=.ok 3 w':=by kernel_rfl
    rw[run_slice_h w' 32 q L.length cap (by kernel_rfl) .i64 (cap:Nat) (by omega) (by omega),hs]
    by_cases h0:cap=0
    · subst h0;simp[sliced,Result.andThen]
    · obtain⟨g,rfl,-⟩:=hsf 0 (by omega)
      simp[sliced,Result.andThen,Addr.add]
  have hcmI:(cap:Int)<=9223372036854775807:=by unfold maxLen at hcm;omega
  clear hw' hw8 hC8 hsf w' HS7 HC7 HA7
  go_wp2_with fail
  go_loopw [69] (fun v69 wr=>∃i:Nat,i<=cap∧v69=.int .i64 (i:Nat)∧Hid (Below w.1.size w wr)∧Hid (dA wr w.1.size q cap 3)) (fun v69 _=>cap-(intOf v69).toNat)
  case atStart=>exact⟨0,Nat.zero_le _,rfl,HA8,HSf⟩
  case round=>
    obtain⟨i,hi,rfl,HBr,HSr⟩:=hrel
    by_cases hlt:i<cap
    · have f1:(i:Int)<(cap:Int):=by omega
      have hiI:(i:Int)+1<=9223372036854775807:=by omega
      obtain⟨gq,rfl,hgl,-,hc⟩:=HSr.out i hlt
      obtain⟨⟨u0,d0⟩,e0⟩:=hc 0 (by omega)
      obtain⟨⟨u1,d1⟩,e1⟩:=hc 1 (by omega)
      obtain⟨⟨u2,d2⟩,e2⟩:=hc 2 (by omega)
      rw[Nat.add_zero] at d0 e0
      have HI2:Hid (∀v0 v1 v2,Below w.1.size w (((wr.setCell ⟨gq,i*3,none⟩ v0).setCell ⟨gq,i*3+1,none⟩ v1).setCell ⟨gq,i*3+2,none⟩ v2)∧dA (((wr.setCell ⟨gq,i*3,none⟩ v0).setCell ⟨gq,i*3+1,none⟩ v1).setCell ⟨gq,i*3+2,none⟩ v2) w.1.size (some ⟨gq,0,none⟩) cap 3):=fun v0 v1 v2=>⟨dk (dk (dk HBr.out hgl _) hgl _) hgl _,((HSr.out.set _ _).set _ _).set _ _⟩
      clear hc HBr HSr sl HE1 HSf HA8
      go_wp2
      go_roundw
      case rel=>exact⟨i+1,by omega,by go_num,(HI2.out _ _ _).1,(HI2.out _ _ _).2⟩
      case measure=>simp[intOf];omega
    · have f1:¬(i:Int)<(cap:Int):=by omega
      clear HSr sl HE1 HSf HA8 hlt
      go_wp2_with fail
      refine(R3.out _ HBr.out).mono ?_
      rintro e w9 ⟨rfl,hb9⟩
      have HA9:=vQ (HBr.out.trans (hb9.mono HBr.out.size))
      clear hb9
      go_wp2_with fail
      refine(R3.out _ HA9.out).mono ?_
      rintro e w10 ⟨rfl,hb10⟩
      have HA10:=vQ (HA9.out.trans (hb10.mono HA9.out.size))
      clear hb10
      have HL:Hid (eR (w10.alloc (.cells #[.int .i64 (-1),.int .i64 0,.int .i64 1,.int .i64 2,.int .i64 nu,.int .i64 (nu+1)] 2)) w10.1.size (.slice (some ⟨w10.1.size,0,none⟩) 6 6) [-1,0,1,2,nu,nu+1]):=⟨rfl,.inr ⟨w10.1.size,6,_,rfl,vX,ag w10 _,vX,by decide,rfl,rfl⟩⟩
      have HNw:=vQ ((HN.out.on HA10.out).on ((Below.refl _ w10).alloc vX (.cells #[.int .i64 (-1),.int .i64 0,.int .i64 1,.int .i64 2,.int .i64 nu,.int .i64 (nu+1)] 2)))
      go_wp2_with (first
        | (at_builtin
           refine pn (xs:=[-1,0,1,2,nu,nu+1]) HL.out HNw.out (by simp;omega) (by simp) rfl rfl rfl rfl rfl ?_
           intro ys q11 cap11 W11 HY hh11 hb11
           have HA11:=vQ (HA10.out.trans ((((Below.refl _ w10).alloc vX (.cells #[.int .i64 (-1),.int .i64 0,.int .i64 1,.int .i64 2,.int .i64 nu,.int .i64 (nu+1)] 2)).trans hb11).mono HA10.out.size))
           have HNy:=vQ hh11.nums
           have hyl:ys.length<=8:=by rw[HY.out];simp;omega
           have HYi:Hid (∀m∈ys,Fr.i64 m):=fun m hm=>by
             rw[HY.out] at hm
             rcases List.mem_append.1 hm with hm | hm
             · simp only[List.mem_cons,List.not_mem_nil,or_false] at hm
               rcases hm with rfl | rfl | rfl | rfl | rfl | rfl <;> exact⟨by omega,by omega⟩
             · exact HI.out m hm
           clear hh11 hb11)
        |fail)
      clear HL HNw HY HN HI
      go_loopw [86] (fun v86 wr=>∃j:Nat,j<=ys.length∧v86=.int .i64 (j:Nat)∧Hid (Below W11.1.size W11 wr)) (fun v86 _=>ys.length-(intOf v86).toNat)
      case atStart=>exact⟨0,Nat.zero_le _,rfl,vZ⟩
      case round=>
        obtain⟨j,hj,rfl,HBj⟩:=hrel
        by_cases hlt:j<ys.length
        · have g1:(j:Int)<(ys.length:Int):=by omega
          have hjI:(j:Int)<=8:=by omega
          obtain⟨bb,oo,rfl,-,hcy⟩:=HNy.out j hlt
          have hm:=HYi.out _ (List.getElem_mem hlt)
          generalize ys[j]=m at hcy hm
          have q0:wr.cell? ⟨bb,oo+j,none⟩=some (.int .i64 m):=ab HBj.out hcy
          have hAj:=HA11.out.trans (HBj.out.mono HA11.out.size)
          obtain⟨C,D,is,pl,hsame,hsA,hsR,⟨hp1,hp2⟩,hp3⟩:=pE HT.out m
          have P1:Hid (∀w',Below w.1.size w w'->Calls Tryz.prog 18 #[.pointer (some ⟨a,0,none⟩),.int .i64 m] w' fun e w''=>(∃q cap,e=.returned (.tuple #[.agg #[.slice q C.length cap],.bool is])∧C.length*120<=140737488351232∧bg w'' q C∧dA w'' w'.1.size q C.length 9)∧Below w'.1.size w' w''):=fun w' hb=>(nl (HK.out.on hb) m hm).mono fun e w'' ⟨y1,y2⟩=>⟨hsA _ _ _ y1,y2⟩
          have P2:Hid (∀w',Below w.1.size w w'->Calls Tryz.prog 41 #[.pointer (some ⟨b,0,none⟩),.int .i64 m] w' fun e w''=>(∃q cap,e=.returned (.tuple #[.agg #[.slice q D.length cap],.bool is])∧bg w'' q D)∧Below w'.1.size w' w''):=fun w' hb=>(fU (HR.out.on hb hFb) hFb m).mono fun e w'' ⟨y1,y2⟩=>⟨hsR _ _ y1,y2⟩
          have P3:Hid (∀w',Below w.1.size w w'->Calls Tryz.prog 42 #[.pointer (some ⟨a,0,none⟩),.int .i64 m] w' fun e w''=>e=.returned (.tuple #[.int .i64 pl,.bool is])∧Below w'.1.size w' w''):=fun w' hb=>by
            have h1:=tI (HK.out.on hb) m hm
            rw[hp1,hp2] at h1
            exact h1
          have P4:Hid (∀w',Below w.1.size w w'->Calls Tryz.prog 43 #[.pointer (some ⟨b,0,none⟩),.int .i64 m] w' fun e w''=>e=.returned (.tuple #[.int .i64 pl,.bool is])∧Below w'.1.size w' w''):=fun w' hb=>by
            have h1:=l6 (HR.out.on hb hFb) m
            rw[hp3] at h1
            exact h1
          have P5:Hid (∀w' q q2 cap cap2,C.length*120<=140737488351232->bg w' q C->bg w' q2 D->Calls Tryz.prog 27 #[.agg #[.slice q C.length cap],.agg #[.slice q2 D.length cap2]] w' fun e w''=>e=.returned (.bool true)∧Below w'.1.size w' w''):=fun w' q q2 cap cap2 hl h1 h2=>by
            have h3:=fM C D q q2 cap cap2 w' hl h1 h2
            rw[hsame] at h3
            exact h3
          have HAj:=vQ hAj
          clear hcy hm hAj hsame hsA hsR hp1 hp2 hp3
          go_wp2_with fail
          refine(P1.out _ HAj.out).mono ?_
          rintro e w13 ⟨⟨q13,cap13,rfl,hl13,hc13,hs13⟩,hb13⟩
          obtain⟨W13,hW13⟩:∃W13,W13=w13.alloc (.cells #[.slice q13 C.length cap13] 30):=⟨_,rfl⟩
          have hbx:Below w13.1.size w13 W13:=by rw[hW13];exact vY
          have hk13:W13.1[w13.1.size]?=some (.cells #[.slice q13 C.length cap13] 30 (0,0)):=by rw[hW13];exact ag w13 _
          have hj13:=hb13.trans (hbx.mono hb13.size)
          have HW13:=vQ hW13.symm
          have HA13:=vQ (HAj.out.trans (hj13.mono HAj.out.size))
          have HJ13:=vQ (HBj.out.trans (hj13.mono HBj.out.size))
          have HJr:=vQ HBj.out.size
          have HC13:=vQ (hc13.on hbx)
          have HS13:=vQ (hs13.on hbx)
          have HG13:Hid (∀i,i<C.length->∃g,q13=some ⟨g,0,none⟩∧g<w13.1.size):=fun i hi=>by
            obtain⟨g,y1,-,y2,-⟩:=hs13 i hi
            exact⟨g,y1,y2⟩
          have HK13:=vQ hk13
          clear hW13 hbx hk13 hj13 hc13 hs13 hb13 P1 HBj HAj q0
          go_wp2_with fail
          rw[HW13.out]
          refine(P2.out _ HA13.out).mono ?_
          rintro e w14 ⟨⟨q14,cap14,rfl,hc14⟩,hb14⟩
          obtain⟨W14,hW14⟩:∃W14,W14=w14.alloc (.cells #[.slice q14 D.length cap14] 30):=⟨_,rfl⟩
          have hbx:Below w14.1.size w14 W14:=by rw[hW14];exact vY
          have hk14:W14.1[w14.1.size]?=some (.cells #[.slice q14 D.length cap14] 30 (0,0)):=by rw[hW14];exact ag w14 _
          have hj14:=hb14.trans (hbx.mono hb14.size)
          have HW14:=vQ hW14.symm
          have HA14:=vQ (HA13.out.trans (hj14.mono HA13.out.size))
          have HJ14:=vQ (HJ13.out.trans (hj14.mono HJ13.out.size))
          have HC14:Hid (bg W14 q13 C∧bg W14 q14 D):=⟨HC13.out.on hj14,hc14.on hbx⟩
          have HS14:=vQ (HS13.out.on hj14)
          have HK14:Hid (W14.1[w13.1.size]?=some (.cells #[.slice q13 C.length cap13] 30 (0,0))∧W14.1[w14.1.size]?=some (.cells #[.slice q14 D.length cap14] 30 (0,0))):=⟨(hj14.block _ (aw HK13.out)).trans HK13.out,hk14⟩
          clear hW14 hbx hk14 hj14 hc14 hb14 P2 HA13 HJ13 HC13 HS13 HK13 HW13
          go_wp2_with fail
          rw[HW14.out]
          refine(P3.out _ HA14.out).mono ?_
          rintro e w15 ⟨rfl,hb15⟩
          have HA15:=vQ (HA14.out.trans (hb15.mono HA14.out.size))
          have HX15:=vQ hb15
          clear hb15 P3 HA14 HW14
          go_wp2_with fail
          refine(P4.out _ HA15.out).mono ?_
          rintro e w16 ⟨rfl,hb16⟩
          have hx16:=HX15.out.trans (hb16.mono HX15.out.size)
          have hka:=(hx16.block _ (aw HK14.out.1)).trans HK14.out.1
          have hkb:=(hx16.block _ (aw HK14.out.2)).trans HK14.out.2
          have x1:w16.cell? ⟨w13.1.size,0,none⟩=some (.slice q13 C.length cap13):=aa hka 0
          have x2:w16.cell? ⟨w14.1.size,0,none⟩=some (.slice q14 D.length cap14):=aa hkb 0
          have HSm:=vQ (P5.out w16 q13 q14 cap13 cap14 hl13 (HC14.out.1.on hx16) (HC14.out.2.on hx16))
          have HJ16:=vQ (HJ14.out.trans (hx16.mono HJ14.out.size))
          have HS16:=vQ (HS14.out.on hx16)
          have HKa:=vQ hka
          clear hx16 hka hkb hb16 P4 P5 HA15 HX15 HC14 HJ14 HS14 HK14
          go_wp2_with fail
          refine HSm.out.mono ?_
          rintro e w17 ⟨rfl,hb17⟩
          have hka:=(hb17.block _ (aw HKa.out)).trans HKa.out
          have HKz:=vQ hka
          have x3:w17.cell? ⟨w13.1.size,0,none⟩=some (.slice q13 C.length cap13):=aa hka 0
          have HJ17:=vQ (HJ16.out.trans (hb17.mono HJ16.out.size))
          have HS17:=vQ (HS16.out.on hb17)
          clear hb17 hka HSm x1 x2 HKa HJ16 HS16
          go_wp2_with fail
          obtain⟨Z,hZ⟩:∃Z,Z=wr.1.size:=⟨_,rfl⟩
          rw[<-hZ] at HS17 HJr
          have hCI:(C.length:Int)<=140737488351232:=by omega
          clear hZ x3
          go_loopw [136] (fun v136 wr=>∃i:Nat,i<=C.length∧v136=.int .i64 (i:Nat)∧Hid (Below W11.1.size W11 wr)∧Hid (dA wr Z q13 C.length 9)∧Hid (wr.1[w13.1.size]?=some (.cells #[.slice q13 C.length cap13] 30 (0,0)))) (fun v136 _=>C.length-(intOf v136).toNat)
          case atStart=>exact⟨0,Nat.zero_le _,rfl,HJ17,HS17,HKz⟩
          case round=>
            obtain⟨i2,hi2,rfl,HB2,HS2,HK2⟩:=hrel
            by_cases hlt2:i2<C.length
            · have f2:(i2:Int)<(C.length:Int):=by omega
              have hiI:(i2:Int)<=140737488351232:=by omega
              obtain⟨gz,hgz,hgl⟩:=HG13.out i2 hlt2
              obtain⟨gq,hq,hZl,-,hc⟩:=HS2.out i2 hlt2
              rw[hgz] at hq
              simp only[Option.some.injEq,Addr.mk.injEq,and_true] at hq
              subst hq
              subst hgz
              obtain⟨⟨u0,d0⟩,e0⟩:=hc 0 (by omega)
              rw[Nat.add_zero] at d0 e0
              have x3:wr.cell? ⟨w13.1.size,0,none⟩=some (.slice (some ⟨gz,0,none⟩) C.length cap13):=aa HK2.out 0
              have HI2:Hid (∀v0,Below W11.1.size W11 (wr.setCell ⟨gz,i2*9,none⟩ v0)∧dA (wr.setCell ⟨gz,i2*9,none⟩ v0) Z (some ⟨gz,0,none⟩) C.length 9∧(wr.setCell ⟨gz,i2*9,none⟩ v0).1[w13.1.size]?=some (.cells #[.slice (some ⟨gz,0,none⟩) C.length cap13] 30 (0,0))):=fun v0=>⟨dk HB2.out (Nat.le_trans HJr.out hZl) _,HS2.out.set _ _,by rw[Below.heap_setCell _ _ _ _ (by show w13.1.size≠gz;omega)];exact HK2.out⟩
              clear hc HB2 HS2 HK2 HJ17 HS17 HKz HG13
              go_wp2
              go_roundw
              case rel=>exact⟨i2+1,by omega,by go_num,(HI2.out _).1,(HI2.out _).2.1,(HI2.out _).2.2⟩
              case measure=>simp[intOf];omega
            · have f2:¬(i2:Int)<(C.length:Int):=by omega
              clear HS2 HK2 HJ17 HS17 HKz HG13
              go_wp2
              go_roundw
              case rel=>exact⟨j+1,by omega,by go_num,HB2⟩
              case measure=>simp[intOf];omega
        · have g1:¬(j:Int)<(ys.length:Int):=by omega
          have HBf:=vQ (HA11.out.trans (HBj.out.mono HA11.out.size))
          clear hlt HBj
          go_wp2
          go_ret
          exact⟨rfl,HBf.out⟩
end
end
section
open Go.RowKit
structure WkI(w wr:World)(a M b i:Nat)(s:Wk)(x:Rw):Prop where
 walk:∃v g,ao wr w.1.size a M i v g s (fun k=>k=b)∧aG wr b x (aQ a M v)
 twin:Rw.Twin s x
 few:x.l.length<=i
 below:Below w.1.size w wr
 base:w.1.size<=b
section
variable {w wr w':World} {a M b i:Nat} {s:Wk} {x:Rw} {f:Fr} {p:Int}
theorem WkI.on(h:WkI w wr a M b i s x)(hb:Below wr.1.size wr w'):WkI w w' a M b i s x:=by
 obtain⟨v,g,h1,h2⟩:=h.walk
 refine⟨⟨v,g,h1.on hb,h2.on hb ?_⟩,h.twin,h.few,h.below.trans (hb.mono h.below.size),h.base⟩
 intro hc
 have:=h1.off b rfl
 rcases hc with hc | hc | hc
 ·exact this.1 hc
 ·exact this.2.1 hc
 ·exact this.2.2 hc
structure WkM(w wr:World)(a M b i:Nat)(s':Wk)(x:Rw):Prop where
 walk:∃v g,ao wr w.1.size a M i v g s' (fun k=>k=b)∧aG wr b x (aQ a M v)
 below:Below w.1.size w wr
theorem ao.notb{B n:Nat}{v:Value}{g:Int->Option Value}(h:ao wr B a M n v g s (fun k=>k=b)):¬aQ a M v b:=fun hc=>by
 have:=h.off b rfl
 rcases hc with hc | hc | hc
 ·exact this.1 hc
 ·exact this.2.1 hc
 ·exact this.2.2 hc
theorem ao.within{B n:Nat}{v:Value}{g:Int->Option Value}{G:Nat->Prop}(h:ao wr B a M n v g s G){k:Nat}(hk:aQ a M v k):k<wr.1.size:=by
 rcases hk with hk | hk | hk
 ·rw[hk];exact h.lt
 ·rw[hk];exact h.map.lt
 ·exact(h.ents.lt k hk).2
theorem WkI.next(h:WkI w wr a M b i s x)(f:Fr)(hwf:f.wf)(u:AV)(hf:aB wr u f)(p:Int)(hv:Hv wr)(hi:i<1000):
  Calls Tryz.prog 9 #[.pointer (some ⟨a,0,none⟩),.agg u,.int .i64 p] wr fun e w'=>e=.returned (.int .i64 (if Sc.may s f p=true then 0 else 143))∧WkM w w' a M b (i+1) (Sc.next s f p) x∧∀k,k<wr.1.size->(∀v g,ao wr w.1.size a M i v g s (fun k=>k=b)->¬aQ a M v k)->w'.1[k]?=wr.1[k]?:=by
 obtain⟨v,g,h1,h2⟩:=h.walk
 refine(qH h1 f hwf u hf p hv (by omega) h.below.size).mono fun e w' ⟨he,hp⟩=>⟨he,?_,fun k hk hn=>?_⟩
 ·obtain⟨v',g',k1,k2,k3⟩:=hp.out
  refine⟨⟨v',g',k1,h2.aside k2 h1.notb (fun k hk=>?_)⟩,h.below.trans (k2.below h.below.size fun k hk hc=>by have:=h1.far hc;omega)⟩
  rcases hk with hk | hk | hk
  ·exact .inl (.inl hk)
  ·exact .inl (.inr (.inl hk))
  ·exact(k3 k hk).imp (fun h=>.inr (.inr h)) id
 ·obtain⟨v',g',k1,k2,k3⟩:=hp.out
  exact k2.block k hk (hn v g h1)
theorem WkM.next{s':Wk}(h:WkM w wr a M b (i+1) s' x)(hs:s'=Sc.next s f p)(ht:Rw.Twin s x)(hg:Sc.Good s)(hb:w.1.size<=b)(hx:x.l.length<=i)(hi:i<1000)(hwf:f.wf)(hbl:f.block.length<=140737488351232)(u:AV)(hf:∀w',Below w.1.size w w'->aB w' u f):
  Calls Tryz.prog 10 #[.pointer (some ⟨b,0,none⟩),.agg u,.int .i64 p] wr fun e w'=>e=.returned (.int .i64 (if Sc.may s f p=true then 0 else 143))∧(∃x',WkI w w' a M b (i+1) s' x')∧Aside (fun k=>k=b) wr w':=by
 obtain⟨v,g,h1,h2⟩:=h.walk
 refine(i9 h2 h1.notb (fun k hk=>h1.within hk) ht hg f hwf hbl u (fun w' ha=>hf w' (h.below.trans (ha.below h.below.size fun k hk hc=>?_))) p (by omega)).mono fun e w' ⟨he,hr,ha⟩=>⟨he,⟨_,⟨v,g,h1.aside ha (fun k hk=>.inl hk) (fun k hk=>Nat.lt_of_lt_of_le (h1.low k hk) ha.size),hr⟩,?_,?_,h.below.trans (ha.below h.below.size fun k hk hc=>by omega),hb⟩,ha⟩
 ·rcases hc with hc | hc
  ·omega
  ·have:=h1.far hc;omega
 ·rw[hs]
  unfold Sc.next
  by_cases hm:Sc.may s f p=true
  ·rw[if_pos hm,if_pos hm];exact ht.push hg hm
  ·rw[if_neg hm,if_neg hm];exact ht
 ·split
  ·simp[Rw.push];omega
  ·omega
theorem bM{w:World}{b:Nat}{v0 v1 v2 v3 v4 v5 v6 v7 v8 v9 v10 v11:Value}{T:TypeId}(h:w.1[b]?=some (.cells #[v0,v1,v2,v3,v4,v5,v6,v7,v8,v9,v10,v11] T (0,0))):w.cell? ⟨b,0,none⟩=some v0∧w.cell? ⟨b,1,none⟩=some v1∧w.cell? ⟨b,2,none⟩=some v2∧w.cell? ⟨b,3,none⟩=some v3∧w.cell? ⟨b,4,none⟩=some v4∧w.cell? ⟨b,5,none⟩=some v5∧w.cell? ⟨b,6,none⟩=some v6∧w.cell? ⟨b,7,none⟩=some v7∧w.cell? ⟨b,8,none⟩=some v8∧w.cell? ⟨b,9,none⟩=some v9∧w.cell? ⟨b,10,none⟩=some v10∧w.cell? ⟨b,11,none⟩=some v11 :=
 ⟨aa h 0,aa h 1,aa h 2,aa h 3,aa h 4,aa h 5,aa h 6,aa h 7,aa h 8,aa h 9,aa h 10,aa h 11⟩
end
end
end Go.Proofs.YtlgfdgdlaahpfaaGreatDoor
