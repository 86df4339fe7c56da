import Derived.Test.YtlgfdgdlaahpfaaGreatDoorB27
import Derived.Test.YtlgfdgdlaahpfaaGreatDoorB35
import Derived.Test.YtlgfdgdlaahpfaaGreatDoorA7
set_option maxRecDepth 100000
set_option maxHeartbeats 4000000
namespace Go.Proofs.YtlgfdgdlaahpfaaGreatDoor
section
open Go.RowKit Go.Maps
section
variable {w:World} {B a M n:Nat} {v:Value} {g:Int->Option Value} {s:Wk} {G:Nat->Prop}
theorem oH(h:ao w B a M n v g s G)(f:Fr)(hk:f.kind=1)(u:AV)(hf:aB w u f)(pl:Int)(hn:0<=f.number):
  Calls Tryz.prog 29 #[.pointer (some ⟨a,0,none⟩),.agg u,.int .i64 pl] w fun e w'=>e=.returned (.bool (Sc.follows s f pl))∧Below w.1.size w w':=by
 obtain⟨sp,sc,bp,bc,ep,ec,rfl,hs1,hs2,hs3,-⟩:=hf.out
 unfold av
 obtain⟨W0,hW0⟩:∃W0,W0=w.alloc (.cells #[.int .i64 1,.int .i64 f.number,.slice sp f.cols.length sc,.int .i64 f.seq,.int .i64 f.first,.int .i64 f.rows,.slice bp f.block.length bc,.int .i64 f.index.at_,.int .i64 f.index.frames,.int .i64 f.index.rows,.slice ep f.index.entries.length ec] 36):=⟨_,rfl⟩
 have hb0:Below w.1.size w W0:=by rw[hW0];exact vY
 have hbk:=ag w (.cells #[.int .i64 1,.int .i64 f.number,.slice sp f.cols.length sc,.int .i64 f.seq,.int .i64 f.first,.int .i64 f.rows,.slice bp f.block.length bc,.int .i64 f.index.at_,.int .i64 f.index.frames,.int .i64 f.index.rows,.slice ep f.index.entries.length ec] 36)
 rw[<-hW0] at hbk
 have x1:W0.cell? ⟨w.1.size,1,none⟩=some (.int .i64 f.number):=aa hbk 1
 have x2:W0.cell? ⟨w.1.size,2,none⟩=some (.slice sp f.cols.length sc):=aa hbk 2
 have HW0:Hid (w.alloc (.cells #[.int .i64 1,.int .i64 f.number,.slice sp f.cols.length sc,.int .i64 f.seq,.int .i64 f.first,.int .i64 f.rows,.slice bp f.block.length bc,.int .i64 f.index.at_,.int .i64 f.index.frames,.int .i64 f.index.rows,.slice ep f.index.entries.length ec] 36)=W0):=hW0.symm
 have h0:=h.on hb0
 have c0:W0.cell? ⟨a,0,none⟩=some (.map (some M)):=h0.cell 0
 have c1:W0.cell? ⟨a,1,none⟩=some (.int .i64 s.number):=h0.cell 1
 have hnr:=h.good.number
 have HB0:=vQ hb0
 obtain⟨R,hR⟩:∃R,R=Sc.follows s f pl:=⟨_,rfl⟩
 have HR:Hid (R=if f.number=s.number then Sch.same f.cols (Sc.schAt s s.number) else decide (f.number=s.number+1)):=by
  show _=_
  rw[hR]
  unfold Sc.follows
  rw[if_pos hk]
 rw[<-hR,hk]
 by_cases hnn:f.number=s.number
 ·obtain⟨k,hkk⟩:=h.good.has (by omega)
  obtain⟨p,c,e1,e2,e3,e4⟩:=h0.known hkk
  have HLk:Hid (∀w',Below W0.1.size W0 w'->(Instr.lookup 66 (.map (some M)) (.int .i64 s.number) false).run Tryz.prog w'=.ok (.agg #[.slice p k.cols.length c,.int .i64 k.place]) w'):=fun w' hb=>by
   have:=(h0.on hb).map.look (m:=s.number) ⟨by omega,by omega⟩
   rw[e1] at this
   exact this
  have HC:Hid ((∀w',Below W0.1.size W0 w'->w'.cell? ⟨a,0,none⟩=some (.map (some M)))∧(∀w',Below W0.1.size W0 w'->w'.cell? ⟨a,1,none⟩=some (.int .i64 s.number))∧(∀w',Below W0.1.size W0 w'->w'.cell? ⟨w.1.size,2,none⟩=some (.slice sp f.cols.length sc))):=⟨fun w' hb=>ab hb c0,fun w' hb=>ab hb c1,fun w' hb=>ab hb x2⟩
  have hfs:=jH p k.cols.length c k.place
  have HS:Hid (∀w',Below W0.1.size W0 w'->Calls Tryz.prog 61 #[.agg #[.slice sp f.cols.length sc],.agg #[.slice p k.cols.length c]] w' fun e w''=>e=.returned (.bool R)∧Below W0.1.size W0 w''):=fun w' hb=>by
   have h1:=tl f.cols k.cols sp p sc c w' hs1 ((hs3.on hb0).on hb) (e4.on hb)
   have h2:R=Sch.same f.cols k.cols:=by
    rw[HR.out,if_pos hnn]
    unfold Sc.schAt
    rw[hkk]
   rw[h2]
   exact h1.mono fun e w'' ⟨a1,a2⟩=>⟨a1,hb.trans (a2.mono hb.size)⟩
  rw[hnn] at x1
  have g0:(s.number==s.number)=true:=by simp
  rw[hnn] at HW0
  rw[hnn]
  clear h hf hW0 hb0 hbk h0 hR HR hs1 hs2 hs3 e1 e2 e3 e4 hkk hk hnn
  go_enter Tryz.func29,Tryz.ntmps29
  go_wp2_with fail
  rw[HW0.out]
  go_quiet (fail)
  go_wp2_with fail
  obtain⟨W1,hW1⟩:∃W1,W1=W0.drewN nq:=⟨_,rfl⟩
  have hb1:Below W0.1.size W0 W1:=by rw[hW1];exact below_drewN vZ _
  rw[<-hW1]
  have y0:=ab hb1 c0
  have y1:=ab hb1 c1
  have y2:=ab hb1 x2
  have yl:=HLk.out W1 hb1
  have yd:=HLk.out W1.drew hb1.drew
  have HB1:=vQ hb1
  clear hW1 hb1 HW0 g0 c0 c1 x1 x2
  go_region_held3 (fun w'=>w'.cell? ⟨a,0,none⟩=some (.map (some M))∧w'.cell? ⟨a,1,none⟩=some (.int .i64 s.number)∧w'.cell? ⟨w.1.size,2,none⟩=some (.slice sp f.cols.length sc)∧(Instr.lookup 66 (.map (some M)) (.int .i64 s.number) false).run Tryz.prog w'=.ok (.agg #[.slice p k.cols.length c,.int .i64 k.place]) w') (go_keep) (first
   | (go_at_call 61;refine(HS.out _ HB1.out.drew).mono ?_;rintro e w2 ⟨rfl,hb2⟩;have z0:=HC.out.1 w2 hb2;have z1:=HC.out.2.1 w2 hb2;have z2:=HC.out.2.2 w2 hb2;have zl:=HLk.out w2 hb2;have HB2:=vQ hb2;clear hb2)
   |fail)
  go_wp2
  go_ret
  exact⟨rfl,HB0.out.trans (HB2.out.mono HB0.out.size)⟩
 ·have g0:(f.number==s.number)=false:=by rw[beq_eq_false_iff_ne];exact hnn
  rw[if_neg hnn] at HR
  have HR2:Hid (R=(f.number==s.number+1)):=by
   show _=_
   rw[HR.out]
   by_cases h1:f.number=s.number+1
   ·rw[h1];simp
   ·rw[decide_eq_false h1];symm;rw[beq_eq_false_iff_ne];exact h1
  clear h hf hW0 hb0 hbk h0 hR HR hs1 hs2 hs3 hk hnn x2 c0
  go_enter Tryz.func29,Tryz.ntmps29
  go_wp2_with fail
  rw[HW0.out]
  go_quiet (fail)
  go_wp2_with fail
  go_quiet (fail)
  go_wp2
  go_ret
  rw[HR2.out]
  exact⟨rfl,below_drewN (below_drewN HB0.out _) _⟩
theorem oG(h:ao w B a M n v g s G)(f:Fr)(hk:f.kind=2)(u:AV)(hf:aB w u f)(pl:Int):
  Calls Tryz.prog 29 #[.pointer (some ⟨a,0,none⟩),.agg u,.int .i64 pl] w fun e w'=>e=.returned (.bool (Sc.follows s f pl))∧Below w.1.size w w':=by
 obtain⟨sp,sc,bp,bc,ep,ec,rfl,-⟩:=hf.out
 unfold av
 obtain⟨W0,hW0⟩:∃W0,W0=w.alloc (.cells #[.int .i64 2,.int .i64 f.number,.slice sp f.cols.length sc,.int .i64 f.seq,.int .i64 f.first,.int .i64 f.rows,.slice bp f.block.length bc,.int .i64 f.index.at_,.int .i64 f.index.frames,.int .i64 f.index.rows,.slice ep f.index.entries.length ec] 36):=⟨_,rfl⟩
 have hb0:Below w.1.size w W0:=by rw[hW0];exact vY
 have hbk:=ag w (.cells #[.int .i64 2,.int .i64 f.number,.slice sp f.cols.length sc,.int .i64 f.seq,.int .i64 f.first,.int .i64 f.rows,.slice bp f.block.length bc,.int .i64 f.index.at_,.int .i64 f.index.frames,.int .i64 f.index.rows,.slice ep f.index.entries.length ec] 36)
 rw[<-hW0] at hbk
 have x1:W0.cell? ⟨w.1.size,1,none⟩=some (.int .i64 f.number):=aa hbk 1
 have x3:W0.cell? ⟨w.1.size,3,none⟩=some (.int .i64 f.seq):=aa hbk 3
 have x4:W0.cell? ⟨w.1.size,4,none⟩=some (.int .i64 f.first):=aa hbk 4
 have HW0:Hid (w.alloc (.cells #[.int .i64 2,.int .i64 f.number,.slice sp f.cols.length sc,.int .i64 f.seq,.int .i64 f.first,.int .i64 f.rows,.slice bp f.block.length bc,.int .i64 f.index.at_,.int .i64 f.index.frames,.int .i64 f.index.rows,.slice ep f.index.entries.length ec] 36)=W0):=hW0.symm
 have h0:=h.on hb0
 have c1:W0.cell? ⟨a,1,none⟩=some (.int .i64 s.number):=h0.cell 1
 have c3:W0.cell? ⟨a,3,none⟩=some (.int .i64 s.frames):=h0.cell 3
 have c4:W0.cell? ⟨a,4,none⟩=some (.int .i64 s.rows):=h0.cell 4
 have HB0:=vQ hb0
 obtain⟨R,hR⟩:∃R,R=Sc.follows s f pl:=⟨_,rfl⟩
 have HR:Hid (R=decide (f.number=s.number∧f.seq=s.frames∧f.first=s.rows)):=by
  show _=_
  rw[hR]
  unfold Sc.follows
  rw[if_neg (by omega),if_pos hk]
 rw[<-hR,hk]
 clear h hf hW0 hb0 hbk h0 hR hk
 by_cases h1:f.number=s.number
 ·have g1:(f.number==s.number)=true:=by rw[beq_iff_eq];exact h1
  by_cases h2:f.seq=s.frames
  ·have g2:(f.seq==s.frames)=true:=by rw[beq_iff_eq];exact h2
   have HR2:Hid (R=(f.first==s.rows)):=by
    show _=_
    rw[HR.out]
    by_cases h3:f.first=s.rows
    ·rw[decide_eq_true ⟨h1,h2,h3⟩];symm;rw[beq_iff_eq];exact h3
    ·rw[decide_eq_false (fun hc=>h3 hc.2.2)];symm;rw[beq_eq_false_iff_ne];exact h3
   clear HR h1 h2
   go_enter Tryz.func29,Tryz.ntmps29
   go_wp2_with fail
   rw[HW0.out]
   go_quiet (fail)
   go_wp2
   go_ret
   rw[HR2.out]
   exact⟨rfl,below_drewN HB0.out _⟩
  ·have g2:(f.seq==s.frames)=false:=by rw[beq_eq_false_iff_ne];exact h2
   have HR2:Hid (R=false):=by show _=_;rw[HR.out];exact decide_eq_false (fun hc=>h2 hc.2.1)
   clear HR h1 h2
   go_enter Tryz.func29,Tryz.ntmps29
   go_wp2_with fail
   rw[HW0.out]
   go_quiet (fail)
   go_wp2
   go_ret
   rw[HR2.out]
   exact⟨rfl,below_drewN HB0.out _⟩
 ·have g1:(f.number==s.number)=false:=by rw[beq_eq_false_iff_ne];exact h1
  have HR2:Hid (R=false):=by show _=_;rw[HR.out];exact decide_eq_false (fun hc=>h1 hc.1)
  clear HR h1
  go_enter Tryz.func29,Tryz.ntmps29
  go_wp2_with fail
  rw[HW0.out]
  go_quiet (fail)
  go_wp2
  go_ret
  rw[HR2.out]
  exact⟨rfl,below_drewN HB0.out _⟩
theorem oF(h:ao w B a M n v g s G)(f:Fr)(hk:f.kind=3)(u:AV)(hf:aB w u f)(pl:Int):
  Calls Tryz.prog 29 #[.pointer (some ⟨a,0,none⟩),.agg u,.int .i64 pl] w fun e w'=>e=.returned (.bool (Sc.follows s f pl))∧Below w.1.size w w':=by
 obtain⟨sp,sc,bp,bc,ep,ec,rfl,-,-,-,-,-,-,he1,he2,he3⟩:=hf.out
 unfold av
 obtain⟨W0,hW0⟩:∃W0,W0=(w.alloc (.cells #[.int .i64 3,.int .i64 f.number,.slice sp f.cols.length sc,.int .i64 f.seq,.int .i64 f.first,.int .i64 f.rows,.slice bp f.block.length bc,.int .i64 f.index.at_,.int .i64 f.index.frames,.int .i64 f.index.rows,.slice ep f.index.entries.length ec] 36)).alloc (.cells #[.int .i64 f.index.at_,.int .i64 f.index.frames,.int .i64 f.index.rows,.slice ep f.index.entries.length ec] 34):=⟨_,rfl⟩
 have hb0:Below w.1.size w W0:=by rw[hW0];exact vY.alloc (by simp) _
 have hbk:=ag (w.alloc (.cells #[.int .i64 3,.int .i64 f.number,.slice sp f.cols.length sc,.int .i64 f.seq,.int .i64 f.first,.int .i64 f.rows,.slice bp f.block.length bc,.int .i64 f.index.at_,.int .i64 f.index.frames,.int .i64 f.index.rows,.slice ep f.index.entries.length ec] 36)) (.cells #[.int .i64 f.index.at_,.int .i64 f.index.frames,.int .i64 f.index.rows,.slice ep f.index.entries.length ec] 34)
 rw[<-hW0] at hbk
 have hX:(w.alloc (.cells #[.int .i64 3,.int .i64 f.number,.slice sp f.cols.length sc,.int .i64 f.seq,.int .i64 f.first,.int .i64 f.rows,.slice bp f.block.length bc,.int .i64 f.index.at_,.int .i64 f.index.frames,.int .i64 f.index.rows,.slice ep f.index.entries.length ec] 36)).1.size=w.1.size+1:=by simp
 rw[hX] at hbk
 have x0:W0.cell? ⟨w.1.size+1,0,none⟩=some (.int .i64 f.index.at_):=aa hbk 0
 have x1:W0.cell? ⟨w.1.size+1,1,none⟩=some (.int .i64 f.index.frames):=aa hbk 1
 have x2:W0.cell? ⟨w.1.size+1,2,none⟩=some (.int .i64 f.index.rows):=aa hbk 2
 have x3:W0.cell? ⟨w.1.size+1,3,none⟩=some (.slice ep f.index.entries.length ec):=aa hbk 3
 have HW0:Hid ((w.alloc (.cells #[.int .i64 3,.int .i64 f.number,.slice sp f.cols.length sc,.int .i64 f.seq,.int .i64 f.first,.int .i64 f.rows,.slice bp f.block.length bc,.int .i64 f.index.at_,.int .i64 f.index.frames,.int .i64 f.index.rows,.slice ep f.index.entries.length ec] 36)).alloc (.cells #[.int .i64 f.index.at_,.int .i64 f.index.frames,.int .i64 f.index.rows,.slice ep f.index.entries.length ec] 34)=W0):=hW0.symm
 have h0:=h.on hb0
 obtain⟨q,d,hv,hqd,hqe,-⟩:=h0.ents.ents
 subst hv
 have c3:W0.cell? ⟨a,3,none⟩=some (.int .i64 s.frames):=h0.cell 3
 have c4:W0.cell? ⟨a,4,none⟩=some (.int .i64 s.rows):=h0.cell 4
 have c5:W0.cell? ⟨a,5,none⟩=some (.slice q s.ents.length d):=h0.cell 5
 have HB0:=vQ hb0
 obtain⟨R,hR⟩:∃R,R=Sc.follows s f pl:=⟨_,rfl⟩
 have HR:Hid (R=decide (f.index.at_=pl∧f.index.frames=s.frames∧f.index.rows=s.rows∧f.index.entries.map Ent.tup=s.ents.map Ent.tup)):=by
  show _=_
  rw[hR]
  unfold Sc.follows
  rw[if_neg (by omega),if_neg (by omega)]
  rfl
 have HC:Hid (∀m,Calls Tryz.prog 62 #[.slice ep f.index.entries.length ec,.slice q s.ents.length d] (W0.drewN m) fun e w'=>e=.returned (.bool (decide (f.index.entries.map Ent.tup=s.ents.map Ent.tup)))∧∃n,w'=(W0.drewN m).drewN n):=fun m=>sF ep q ec d f.index.entries s.ents he1 (W0.drewN m) ((he3.on hb0).on (below_drewN vZ m)) (hqe.on (below_drewN vZ m))
 rw[<-hR,hk]
 clear h hf hW0 hb0 hbk h0 hR hk hX he1 he2 he3 hqe hqd
 by_cases h1:f.index.at_=pl
 ·have g1:(f.index.at_==pl)=true:=by rw[beq_iff_eq];exact h1
  by_cases h2:f.index.frames=s.frames
  ·have g2:(f.index.frames==s.frames)=true:=by rw[beq_iff_eq];exact h2
   by_cases h3:f.index.rows=s.rows
   ·have g3:(f.index.rows==s.rows)=true:=by rw[beq_iff_eq];exact h3
    have HR2:Hid (R=decide (f.index.entries.map Ent.tup=s.ents.map Ent.tup)):=by
     show _=_
     rw[HR.out]
     simp[h1,h2,h3]
    rw[<-HR2.out] at HC
    clear HR HR2 h1 h2 h3
    go_enter Tryz.func29,Tryz.ntmps29
    go_wp2_with fail
    rw[HW0.out]
    go_quiet ((go_at_call 62;exact Calls.quiet_of (HC.out _)))
    go_wp2
    go_ret
    exact⟨rfl,below_drewN HB0.out _⟩
   ·have g3:(f.index.rows==s.rows)=false:=by rw[beq_eq_false_iff_ne];exact h3
    have HR2:Hid (R=false):=by show _=_;rw[HR.out];exact decide_eq_false (fun hc=>h3 hc.2.2.1)
    clear HR h1 h2 h3 HC
    go_enter Tryz.func29,Tryz.ntmps29
    go_wp2_with fail
    rw[HW0.out]
    go_quiet (fail)
    go_wp2
    go_ret
    rw[HR2.out]
    exact⟨rfl,below_drewN HB0.out _⟩
  ·have g2:(f.index.frames==s.frames)=false:=by rw[beq_eq_false_iff_ne];exact h2
   have HR2:Hid (R=false):=by show _=_;rw[HR.out];exact decide_eq_false (fun hc=>h2 hc.2.1)
   clear HR h1 h2 HC
   go_enter Tryz.func29,Tryz.ntmps29
   go_wp2_with fail
   rw[HW0.out]
   go_quiet (fail)
   go_wp2
   go_ret
   rw[HR2.out]
   exact⟨rfl,below_drewN HB0.out _⟩
 ·have g1:(f.index.at_==pl)=false:=by rw[beq_eq_false_iff_ne];exact h1
  have HR2:Hid (R=false):=by show _=_;rw[HR.out];exact decide_eq_false (fun hc=>h1 hc.1)
  clear HR h1 HC
  go_enter Tryz.func29,Tryz.ntmps29
  go_wp2_with fail
  rw[HW0.out]
  go_quiet (fail)
  go_wp2
  go_ret
  rw[HR2.out]
  exact⟨rfl,below_drewN HB0.out _⟩
theorem qJ(h:ao w B a M n v g s G)(f:Fr)(u:AV)(hf:aB w u f)(pl:Int)(he:Fr.err f=0):
  Calls Tryz.prog 29 #[.pointer (some ⟨a,0,none⟩),.agg u,.int .i64 pl] w fun e w'=>e=.returned (.bool (Sc.follows s f pl))∧Below w.1.size w w':=by
 obtain⟨e1,-,e3⟩:=Sc.err_parts he
 rcases e3 with hk | hk | hk
 ·exact oH h f hk u hf pl (e1 hk).1.1
 ·exact oG h f hk u hf pl
 ·exact oF h f hk u hf pl
end
end
section
open Go.RowKit Go.Maps
section
variable {w:World} {B a M n:Nat} {v:Value} {g:Int->Option Value} {s:Wk} {G:Nat->Prop}
theorem ao.more(h:ao w B a M n v g s G){n':Nat}(hn:n<=n'):ao w B a M n' v g s G:=by
 obtain⟨D,h1,h2⟩:=h.map.out
 exact⟨h.lies,⟨D,h1.mono hn,h2⟩,h.ents,h.base,h.good,h.low,h.off,h.sch⟩
theorem bW.put{w1:World}{s':Wk}{i:Nat}{x:Value}{v':Value}{g':Int->Option Value}(hk:ao w1 B a M n v' g' s G)(ha:Aside (aQ a M v) w w1)(hv:∀i,v'.ownBlock=some i->v.ownBlock=some i∨w.1.size<=i)(he:bv M s' v'=(bv M s v').setIfInBounds i x)(hs:s'.sch=s.sch)(hes:s'.ents=s.ents)(hg:Sc.Good s'):bW w (w1.setCell ⟨a,i,none⟩ x) B a M n v s' G :=
 ⟨v',g',hk.put i x he hs hes hg,ha.setCell (p:=⟨a,i,none⟩) (.inl (.inl rfl)) x,hv⟩
theorem tG(h:ao w B a M n v g s G)(f:Fr)(hk:f.kind=1)(hwf:f.wf)(u:AV)(hf:aB w u f)(pl:Int)(hm:Sc.may s f pl=true)(hn:n<1000000000):
  Calls Tryz.prog 30 #[.pointer (some ⟨a,0,none⟩),.agg u,.int .i64 pl] w fun e w'=>e=.returned (.tuple #[])∧bW w w' B a M (n+1) v (Sc.take s f pl) G:=by
 obtain⟨sp,sc,bp,bc,ep,ec,rfl,hs1,hs2,hs3,-⟩:=hf.out
 unfold av
 obtain⟨hp,he,hfo⟩:=Sc.may_parts hm
 obtain⟨e1,-,-⟩:=Sc.err_parts he
 obtain⟨a1,a2⟩:=e1 hk
 obtain⟨W0,hW0⟩:∃W0,W0=w.alloc (.cells #[.int .i64 1,.int .i64 f.number,.slice sp f.cols.length sc,.int .i64 f.seq,.int .i64 f.first,.int .i64 f.rows,.slice bp f.block.length bc,.int .i64 f.index.at_,.int .i64 f.index.frames,.int .i64 f.index.rows,.slice ep f.index.entries.length ec] 36):=⟨_,rfl⟩
 have hb0:Below w.1.size w W0:=by rw[hW0];exact vY
 have HW0:Hid (w.alloc (.cells #[.int .i64 1,.int .i64 f.number,.slice sp f.cols.length sc,.int .i64 f.seq,.int .i64 f.first,.int .i64 f.rows,.slice bp f.block.length bc,.int .i64 f.index.at_,.int .i64 f.index.frames,.int .i64 f.index.rows,.slice ep f.index.entries.length ec] 36)=W0):=hW0.symm
 have HL:=vQ (tL (h.on hb0) f.number f.cols sp sc pl a1 (Sc.follows_sch hk hfo) hp a2 hwf.2.2.1 hs1 (hs3.on hb0) hn)
 have hbk:=ag w (.cells #[.int .i64 1,.int .i64 f.number,.slice sp f.cols.length sc,.int .i64 f.seq,.int .i64 f.first,.int .i64 f.rows,.slice bp f.block.length bc,.int .i64 f.index.at_,.int .i64 f.index.frames,.int .i64 f.index.rows,.slice ep f.index.entries.length ec] 36)
 rw[<-hW0] at hbk
 have HBk:=vQ hbk
 have HB0:=vQ hb0
 have hal:=h.lt
 have haw:¬aQ a M v w.1.size:=fun hc=>by
  rcases hc with hc | hc | hc
  ·omega
  ·have:=h.map.lt;omega
  ·have:=(h.ents.lt _ hc).2;omega
 have HT:Hid (Sc.take s f pl={ Sc.learn s f.number f.cols pl with closed:=false }):=by
  show _=_
  unfold Sc.take
  rw[if_pos hk]
 have HGd:Hid (Sc.Good (Sc.take s f pl)):=Sc.good_take h.good hwf hm
 obtain⟨st,hst⟩:∃st,st=Sc.take s f pl:=⟨_,rfl⟩
 rw[<-hst] at HT HGd ⊢
 rw[hk]
 clear h hf hwf hm hp he hfo e1 a1 a2 hW0 hb0 hbk hs1 hs2 hs3 hst hk
 go_enter Tryz.func30,Tryz.ntmps30
 go_wp2_with fail
 rw[HW0.out]
 refine HL.out.mono ?_
 rintro e w1 ⟨rfl,v',g',hk1,ha1,hv1⟩
 have hbk1:=(ha1.block _ (aw HBk.out) haw).trans HBk.out
 have x0:w1.cell? ⟨w.1.size,0,none⟩=some (.int .i64 1):=aa hbk1 0
 have c6:w1.cell? ⟨a,6,none⟩=some (.bool (Sc.learn s f.number f.cols pl).closed):=hk1.cell 6
 have f6:=hk1.thawed 6
 have HP:Hid (bW w (w1.setCell ⟨a,6,none⟩ (.bool false)) B a M (n+1) v st G):=bW.put hk1 ((ae HB0.out _).trans ha1 (fun _ _ h=>h)) (fun i hi=>(hv1 i hi).imp id (fun h=>Nat.le_trans HB0.out.size h)) (by rw[HT.out];rfl) (by rw[HT.out]) (by rw[HT.out]) HGd.out
 clear hk1 ha1 hv1 hbk1 HL HW0 HT HGd
 go_wp2
 go_end0
 exact⟨rfl,HP.out⟩
theorem tE(h:ao w B a M n v g s G)(f:Fr)(hk:f.kind=3)(u:AV)(hf:aB w u f)(pl:Int):
  Calls Tryz.prog 30 #[.pointer (some ⟨a,0,none⟩),.agg u,.int .i64 pl] w fun e w'=>e=.returned (.tuple #[])∧bW w w' B a M (n+1) v (Sc.take s f pl) G:=by
 obtain⟨sp,sc,bp,bc,ep,ec,rfl,-⟩:=hf.out
 unfold av
 have HT:Hid (Sc.take s f pl={ s with closed:=true }):=by
  show _=_
  unfold Sc.take
  rw[if_neg (by omega),if_neg (by omega)]
 have HP:Hid (∀o,bW w ((w.setCell ⟨a,6,none⟩ (.bool true)).alloc o) B a M (n+1) v (Sc.take s f pl) G):=fun o=>by
  rw[HT.out]
  exact⟨v,g,(((h.put 6 (.bool true) (s':={ s with closed:=true }) rfl rfl rfl (Sc.good_closed h.good true)).more (Nat.le_succ n)).on (vZ.alloc vX o)),((Aside.refl (aQ a M v) w).setCell (p:=⟨a,6,none⟩) (.inl (.inl rfl)) _).alloc o,fun i hi=>.inl hi⟩
 have c6:w.cell? ⟨a,6,none⟩=some (.bool s.closed):=h.cell 6
 have f6:=h.thawed 6
 have hal:=h.lt
 rw[hk]
 clear h hf hk
 go_enter Tryz.func30,Tryz.ntmps30
 go_wp2
 go_end0
 exact⟨rfl,HP.out _⟩
theorem tF(h:ao w B a M n v g s G)(f:Fr)(hk:f.kind=2)(hwf:f.wf)(u:AV)(hf:aB w u f)(pl:Int)(hm:Sc.may s f pl=true)(hB:B<=w.1.size):
  Calls Tryz.prog 30 #[.pointer (some ⟨a,0,none⟩),.agg u,.int .i64 pl] w fun e w'=>e=.returned (.tuple #[])∧bW w w' B a M (n+1) v (Sc.take s f pl) G:=by
 have hf0:=hf
 obtain⟨sp,sc,bp,bc,ep,ec,rfl,-⟩:=hf.out
 obtain⟨hp,he,hfo⟩:=Sc.may_parts hm
 obtain⟨-,e2,-⟩:=Sc.err_parts he
 obtain⟨a1,a2,a3,a4⟩:=e2 hk
 obtain⟨b1,b2,b3⟩:=Sc.follows_data hk hfo
 unfold av at hf0 ⊢
 rw[hk] at hf0
 obtain⟨W0,hW0⟩:∃W0,W0=w.alloc (.cells #[.int .i64 2,.int .i64 f.number,.slice sp f.cols.length sc,.int .i64 f.seq,.int .i64 f.first,.int .i64 f.rows,.slice bp f.block.length bc,.int .i64 f.index.at_,.int .i64 f.index.frames,.int .i64 f.index.rows,.slice ep f.index.entries.length ec] 36):=⟨_,rfl⟩
 have hb0:Below w.1.size w W0:=by rw[hW0];exact vY
 have HW0:Hid (w.alloc (.cells #[.int .i64 2,.int .i64 f.number,.slice sp f.cols.length sc,.int .i64 f.seq,.int .i64 f.first,.int .i64 f.rows,.slice bp f.block.length bc,.int .i64 f.index.at_,.int .i64 f.index.frames,.int .i64 f.index.rows,.slice ep f.index.entries.length ec] 36)=W0):=hW0.symm
 have HL:=vQ (tM (h.on hb0) f _ (hf0.on hb0) pl hp a2 a3 (Nat.le_trans hB hb0.size))
 have hbk:=ag w (.cells #[.int .i64 2,.int .i64 f.number,.slice sp f.cols.length sc,.int .i64 f.seq,.int .i64 f.first,.int .i64 f.rows,.slice bp f.block.length bc,.int .i64 f.index.at_,.int .i64 f.index.frames,.int .i64 f.index.rows,.slice ep f.index.entries.length ec] 36)
 rw[<-hW0] at hbk
 have HBk:=vQ hbk
 have HB0:=vQ hb0
 have hal:=h.lt
 have haw:¬aQ a M v w.1.size:=fun hc=>by
  rcases hc with hc | hc | hc
  ·omega
  ·have:=h.map.lt;omega
  ·have:=(h.ents.lt _ hc).2;omega
 have HT:Hid (Sc.take s f pl={ Sc.count (Sc.enter s f pl) f with closed:=false }):=by
  show _=_
  unfold Sc.take
  rw[if_neg (by omega),if_pos hk]
 have HGd:Hid (Sc.Good (Sc.take s f pl)):=Sc.good_take h.good hwf hm
 have hEn:=Sc.enter_same s f pl
 have hGe:=Sc.good_enter h.good f pl hp a3
 obtain⟨se,hse⟩:∃se,se=Sc.enter s f pl:=⟨_,rfl⟩
 rw[<-hse] at HL HT hEn hGe
 obtain⟨st,hst⟩:∃st,st=Sc.take s f pl:=⟨_,rfl⟩
 rw[<-hst] at HT HGd ⊢
 rw[hk]
 have hfr:0<=se.frames∧se.frames<1099511627776:=by rw[hEn.2.2.2.1,<-b2];exact a2
 have hrw:0<=se.rows∧se.rows<1099511627776:=by rw[hEn.2.2.2.2.1,<-b3];exact a3
 have hsi:0<=se.since∧se.since<1099511627776:=by have:=hGe.since;omega
 have HGe:=vQ hGe
 clear h hf hf0 hwf hm hp he hfo e2 a1 a2 a3 b1 b2 b3 hW0 hb0 hbk hst hse hk hEn hGe
 go_enter Tryz.func30,Tryz.ntmps30
 go_wp2_with fail
 rw[HW0.out]
 refine HL.out.mono ?_
 rintro e w1 ⟨rfl,v',g',hk1,ha1,hv1⟩
 have hbk1:=(ha1.block _ (aw HBk.out) haw).trans HBk.out
 have c3:w1.cell? ⟨a,3,none⟩=some (.int .i64 se.frames):=hk1.cell 3
 have f3:=hk1.thawed 3
 have h2:ao (w1.setCell ⟨a,3,none⟩ (.int .i64 (se.frames+1))) B a M n v' g' { se with frames:=se.frames+1 } G:=hk1.put 3 _ rfl rfl rfl ⟨HGe.out.number,by have:=HGe.out.since;exact⟨by dsimp only;omega,by dsimp only;omega⟩,by dsimp only;omega,HGe.out.rows,HGe.out.ents,HGe.out.entsOk,HGe.out.known,HGe.out.has⟩
 obtain⟨w2,hw2⟩:∃w2,w2=w1.setCell ⟨a,3,none⟩ (.int .i64 (se.frames+1)):=⟨_,rfl⟩
 have ha2:Aside (aQ a M v) W0 w2:=by rw[hw2];exact ha1.setCell (p:=⟨a,3,none⟩) (.inl (.inl rfl)) _
 have HW2:=vQ hw2
 rw[<-hw2] at h2
 have hbk2:=(ha2.block _ (aw HBk.out) haw).trans HBk.out
 have y5:w2.cell? ⟨w.1.size,5,none⟩=some (.int .i64 f.rows):=aa hbk2 5
 have d4:w2.cell? ⟨a,4,none⟩=some (.int .i64 se.rows):=h2.cell 4
 have f4:=h2.thawed 4
 have HK2:=vQ h2
 have HA2:=vQ ha2
 have HV1:=vQ hv1
 clear hk1 ha1 hv1 hbk1 HL hbk2 h2 ha2 hw2
 go_wp2_with fail
 rw[<-HW2.out]
 go_region
 obtain⟨w3,hw3⟩:∃w3,w3=(w2.setCell ⟨a,4,none⟩ (.int .i64 (se.rows+f.rows))).drew:=⟨_,rfl⟩
 rw[<-hw3]
 have h3:ao w3 B a M n v' g' { se with frames:=se.frames+1,rows:=se.rows+f.rows } G:=by
  rw[hw3]
  refine(HK2.out.put 4 (.int .i64 (se.rows+f.rows)) (s':={ se with frames:=se.frames+1,rows:=se.rows+f.rows }) rfl rfl rfl ?_).on vZ.drew
  exact⟨HGe.out.number,by have:=HGe.out.since;exact⟨by dsimp only;omega,by dsimp only;omega⟩,by dsimp only;omega,⟨by dsimp only;omega,by dsimp only;omega⟩,HGe.out.ents,HGe.out.entsOk,HGe.out.known,HGe.out.has⟩
 have ha3:Aside (aQ a M v) W0 w3:=by rw[hw3];exact(HA2.out.setCell (p:=⟨a,4,none⟩) (.inl (.inl rfl)) _).drew
 have e2:w3.cell? ⟨a,2,none⟩=some (.int .i64 se.since):=h3.cell 2
 have g2:=h3.thawed 2
 have e6:w3.cell? ⟨a,6,none⟩=some (.bool se.closed):=h3.cell 6
 have g6:=h3.thawed 6
 have hbk3:=(ha3.block _ (aw HBk.out) haw).trans HBk.out
 have z0:w3.cell? ⟨w.1.size,0,none⟩=some (.int .i64 2):=aa hbk3 0
 have hawl:¬w.1.size=a:=by omega
 have HP:Hid (bW w ((w3.setCell ⟨a,2,none⟩ (.int .i64 (se.since+1))).setCell ⟨a,6,none⟩ (.bool false)) B a M (n+1) v st G):=by
  have h4:=(h3.put 2 (.int .i64 (se.since+1)) (s':=Sc.count se f) rfl rfl rfl (Sc.good_count HGe.out f hfr.2 hrw.2 a4)).more (Nat.le_succ n)
  have ha4:Aside (aQ a M v) w (w3.setCell ⟨a,2,none⟩ (.int .i64 (se.since+1))):=((ae HB0.out _).trans ha3 (fun _ _ h=>h)).setCell (p:=⟨a,2,none⟩) (.inl (.inl rfl)) _
  rw[HT.out]
  exact bW.put h4 ha4 (fun i hi=>(HV1.out i hi).imp id (fun h=>Nat.le_trans HB0.out.size h)) rfl rfl rfl (Sc.good_closed (Sc.good_count HGe.out f hfr.2 hrw.2 a4) false)
 clear h3 ha3 hbk3 hw3 HK2 HA2 HV1 HT HGd y5 d4 f4 c3 f3
 go_wp2
 go_end0
 exact⟨rfl,HP.out⟩
theorem uH(h:ao w B a M n v g s G)(f:Fr)(hwf:f.wf)(u:AV)(hf:aB w u f)(pl:Int)(hm:Sc.may s f pl=true)(hn:n<1000000000)(hB:B<=w.1.size):
  Calls Tryz.prog 30 #[.pointer (some ⟨a,0,none⟩),.agg u,.int .i64 pl] w fun e w'=>e=.returned (.tuple #[])∧bW w w' B a M (n+1) v (Sc.take s f pl) G:=by
 obtain⟨-,-,e3⟩:=Sc.err_parts (Sc.may_parts hm).2.1
 rcases e3 with hk | hk | hk
 ·exact tG h f hk hwf u hf pl hm hn
 ·exact tF h f hk hwf u hf pl hm hB
 ·exact tE h f hk u hf pl
end
end
section
open Go.RowKit Go.Maps
section
variable {w:World} {B a M n:Nat} {v:Value} {g:Int->Option Value} {s:Wk} {G:Nat->Prop}
theorem bW.same{w1:World}(h:ao w B a M n v g s G)(hb:Below w.1.size w w1):bW w w1 B a M (n+1) v s G:=⟨v,g,(h.on hb).more (Nat.le_succ n),ae hb _,fun _ hi=>.inl hi⟩
theorem qH(h:ao w B a M n v g s G)(f:Fr)(hwf:f.wf)(u:AV)(hf:aB w u f)(pl:Int)(hv:Hv w)(hn:n<1000000000)(hB:B<=w.1.size):
  Calls Tryz.prog 9 #[.pointer (some ⟨a,0,none⟩),.agg u,.int .i64 pl] w fun e w'=>e=.returned (.int .i64 (if Sc.may s f pl=true then 0 else 143))∧bW w w' B a M (n+1) v (Sc.next s f pl) G:=by
 have hf0:=hf
 obtain⟨sp,sc,bp,bc,ep,ec,rfl,-⟩:=hf.out
 unfold av at hf0 ⊢
 obtain⟨W0,hW0⟩:∃W0,W0=(w.alloc (.cells #[.int .i64 f.kind,.int .i64 f.number,.slice sp f.cols.length sc,.int .i64 f.seq,.int .i64 f.first,.int .i64 f.rows,.slice bp f.block.length bc,.int .i64 f.index.at_,.int .i64 f.index.frames,.int .i64 f.index.rows,.slice ep f.index.entries.length ec] 36)).alloc (.cells #[.int .i64 pl] 2):=⟨_,rfl⟩
 have hb0:Below w.1.size w W0:=by rw[hW0];exact vY.alloc (by simp) _
 have hz0:W0.1.size=w.1.size+2:=by rw[hW0];simp
 have hbk:W0.1[w.1.size]?=some (.cells #[.int .i64 f.kind,.int .i64 f.number,.slice sp f.cols.length sc,.int .i64 f.seq,.int .i64 f.first,.int .i64 f.rows,.slice bp f.block.length bc,.int .i64 f.index.at_,.int .i64 f.index.frames,.int .i64 f.index.rows,.slice ep f.index.entries.length ec] 36):=by
  rw[hW0,aD _ _ (by simp)]
  exact ag w _
 have hbl:W0.1[w.1.size+1]?=some (.cells #[.int .i64 pl] 2):=by
  rw[hW0]
  have:=ag (w.alloc (.cells #[.int .i64 f.kind,.int .i64 f.number,.slice sp f.cols.length sc,.int .i64 f.seq,.int .i64 f.first,.int .i64 f.rows,.slice bp f.block.length bc,.int .i64 f.index.at_,.int .i64 f.index.frames,.int .i64 f.index.rows,.slice ep f.index.entries.length ec] 36)) (.cells #[.int .i64 pl] 2)
  simpa using this
 have HW0:Hid ((w.alloc (.cells #[.int .i64 f.kind,.int .i64 f.number,.slice sp f.cols.length sc,.int .i64 f.seq,.int .i64 f.first,.int .i64 f.rows,.slice bp f.block.length bc,.int .i64 f.index.at_,.int .i64 f.index.frames,.int .i64 f.index.rows,.slice ep f.index.entries.length ec] 36)).alloc (.cells #[.int .i64 pl] 2)=W0):=hW0.symm
 have HLg:=vQ (tC (w.1.size+1) 1 [pl] (by simp) W0 (fun j hj=>by
  obtain rfl:j=0:=by simpa using hj
  exact aa hbl 0))
 have HH:=vQ h
 have HB0:=vQ hb0
 have HBk:=vQ hbk
 have HF:=vQ hf0
 have HWf:=vQ hwf
 have HM:Hid (Sc.may s f pl=(Fr.within Fr.S pl&&decide (Fr.err f=0)&&Sc.follows s f pl)):=rfl
 have HNx:Hid (Sc.next s f pl=if Sc.may s f pl=true then Sc.take s f pl else s):=rfl
 obtain⟨nx,hnx⟩:∃nx,nx=Sc.next s f pl:=⟨_,rfl⟩
 obtain⟨rc,hrc⟩:∃rc:Int,rc=if Sc.may s f pl=true then 0 else 143:=⟨_,rfl⟩
 rw[<-hnx] at HNx ⊢
 rw[<-hrc]
 have HRc:=vQ hrc
 have HHv:=vQ hv
 clear h hf hf0 hwf hW0 hb0 hbk hbl hnx hv hrc
 by_cases hlg:Fr.within Fr.S pl=true
 ·have hla:[pl].all (Fr.within Fr.S)=true:=by simp[hlg]
  rw[hla] at HLg
  have HE:=vQ (nB f HWf.out _ W0 (HHv.out.next HB0.out) (HF.out.on HB0.out))
  obtain⟨x0,x1,x2,x3,x4,x5,x6,x7,x8,x9,x10⟩:=aO HBk.out
  obtain⟨er,her⟩:∃er,er=Fr.err f:=⟨_,rfl⟩
  rw[<-her] at HE
  have HEr:=vQ her
  clear hla her
  go_enter Tryz.func9,Tryz.ntmps9
  go_wp2_with fail
  rw[HW0.out]
  refine HLg.out.mono ?_
  rintro e w' ⟨rfl,hw'⟩
  rw[hw']
  clear hw' w' HLg
  go_wp2_with fail
  refine HE.out.mono ?_
  rintro e w1 (⟨hz,q,cap,rfl,-,hb1⟩ | ⟨hz,rfl,hb1⟩)
  ·have HB1:=vQ (HB0.out.trans (hb1.mono HB0.out.size))
   have he:Fr.err f=0:=by rw[<-HEr.out];exact hz
   have hbk1:=(hb1.block _ (by omega)).trans HBk.out
   obtain⟨y0,y1,y2,y3,y4,y5,y6,y7,y8,y9,y10⟩:=aO hbk1
   have HFo:=vQ (qJ (HH.out.on HB1.out) f _ (HF.out.on HB1.out) pl he)
   obtain⟨fo,hfo⟩:∃fo,fo=Sc.follows s f pl:=⟨_,rfl⟩
   rw[<-hfo] at HFo HM
   have HM2:Hid (Sc.may s f pl=fo):=by
    show _=_
    rw[HM.out,hlg,decide_eq_true he]
    rfl
   have HBk1:=vQ hbk1
   have hz1:=hb1.size
   clear hb1 hbk1 hfo he HE HM HEr x0 x1 x2 x3 x4 x5 x6 x7 x8 x9 x10
   go_wp2_with fail
   refine HFo.out.mono ?_
   rintro e w2 ⟨rfl,hb2⟩
   have HB2:=vQ (HB1.out.trans (hb2.mono HB1.out.size))
   have hbk2:=(hb2.block _ (by omega)).trans HBk1.out
   obtain⟨z0,z1,z2,z3,z4,z5,z6,z7,z8,z9,z10⟩:=aO hbk2
   clear hb2 hbk2 HFo y0 y1 y2 y3 y4 y5 y6 y7 y8 y9 y10
   cases fo with
   |false=>
    have HP:=vQ (bW.same HH.out HB2.out)
    have HE1:Hid (nx=s):=by show _=_;rw[HNx.out,HM2.out];rfl
    clear HNx
    go_wp2
    go_ret
    rw[HE1.out,HRc.out,HM2.out]
    exact⟨rfl,HP.out⟩
   |true=>
    have HT:=vQ (uH (HH.out.on HB2.out) f HWf.out _ (HF.out.on HB2.out) pl HM2.out hn (Nat.le_trans hB HB2.out.size))
    have HE1:Hid (nx=Sc.take s f pl):=by show _=_;rw[HNx.out,HM2.out];rfl
    clear HNx
    go_wp2_with fail
    refine HT.out.mono ?_
    rintro e w3 ⟨rfl,v',g',hk3,ha3,hv3⟩
    have HP:Hid (bW w w3 B a M (n+1) v (Sc.take s f pl) G):=⟨v',g',hk3,(ae HB2.out _).trans ha3 (fun _ _ h=>h),fun i hi=>(hv3 i hi).imp id (fun h=>Nat.le_trans HB2.out.size h)⟩
    clear hk3 ha3 hv3 HT
    go_wp2
    go_ret
    rw[HE1.out,HRc.out,HM2.out]
    exact⟨rfl,HP.out⟩
  ·have HP:=vQ (bW.same HH.out (HB0.out.trans (hb1.mono HB0.out.size)))
   have g0:((er:Int) != 0)=true:=by rw[bne_iff_ne];omega
   have e0:Sc.may s f pl=false:=by
    rw[HM.out,decide_eq_false (by rw[<-HEr.out];exact hz)]
    simp
   have HE1:Hid (nx=s):=by show _=_;rw[HNx.out,e0];rfl
   have HM0:=vQ e0
   clear hb1 HE hz HNx HM e0 HEr
   go_wp2
   go_ret
   rw[HE1.out,HRc.out,HM0.out]
   exact⟨rfl,HP.out⟩
 ·have hlf:Fr.within Fr.S pl=false:=by simpa using hlg
  have hla:[pl].all (Fr.within Fr.S)=false:=by simp[hlf]
  rw[hla] at HLg
  have HP:=vQ (bW.same HH.out HB0.out)
  have e0:Sc.may s f pl=false:=by rw[HM.out,hlf];rfl
  have HE1:Hid (nx=s):=by show _=_;rw[HNx.out,e0];rfl
  have HM0:=vQ e0
  clear hla hlf hlg HNx HM e0
  go_enter Tryz.func9,Tryz.ntmps9
  go_wp2_with fail
  rw[HW0.out]
  refine HLg.out.mono ?_
  rintro e w' ⟨rfl,hw'⟩
  rw[hw']
  clear hw' w' HLg
  go_wp2
  go_ret
  rw[HE1.out,HRc.out,HM0.out]
  exact⟨rfl,HP.out⟩
end
end
end Go.Proofs.YtlgfdgdlaahpfaaGreatDoor
