import Derived.Test.YtdgacombdcajmaaGreatDoorB46
import Derived.Test.YtdgacombdcajmaaGreatDoorB47
set_option maxRecDepth 100000
set_option maxHeartbeats 4000000
namespace Go.Proofs.YtdgacombdcajmaaGreatDoor
section
open Go.RowKit Go.Maps
section
variable {w:World} {B a M n:Nat} {v:Value} {g:Int->Option Value} {s:Wk} {G:Nat->Prop}
theorem qI(h:av w B a M n v g s G)(f:Fr)(hk:f.kind=1)(u:AV)(hf:cC w u f)(pl:Int)(hn:0<=f.number):
  Calls Tryz.prog 58 #[.pointer (some ⟨a,0,none⟩),.agg u,.int .i64 pl] w fun e w'=>e=.returned (.bool (Sc.follows s f pl))∧Below w.1.size w w':=by
 obtain⟨sp,sc,bp,bc,ep,ec,rfl,hs1,hs2,hs3,-⟩:=hf.out
 unfold aI
 obtain⟨W0,hW0⟩:∃W0,W0=w.alloc (.cells #[.int .i64 1,.int .i64 f.number,.slice sp f.cols.length sc,.int .i64 f.seq,.int .i64 f.first,.int .i64 f.rows,.slice bp f.block.length bc,.int .i64 f.index.at_,.int .i64 f.index.frames,.int .i64 f.index.rows,.slice ep f.index.entries.length ec] 36):=⟨_,rfl⟩
 have hb0:Below w.1.size w W0:=by rw[hW0];exact yY
 have hbk:=an w (.cells #[.int .i64 1,.int .i64 f.number,.slice sp f.cols.length sc,.int .i64 f.seq,.int .i64 f.first,.int .i64 f.rows,.slice bp f.block.length bc,.int .i64 f.index.at_,.int .i64 f.index.frames,.int .i64 f.index.rows,.slice ep f.index.entries.length ec] 36)
 rw[<-hW0] at hbk
 have x1:W0.cell? ⟨w.1.size,1,none⟩=some (.int .i64 f.number):=aa hbk 1
 have x2:W0.cell? ⟨w.1.size,2,none⟩=some (.slice sp f.cols.length sc):=aa hbk 2
 have HW0:Hid (w.alloc (.cells #[.int .i64 1,.int .i64 f.number,.slice sp f.cols.length sc,.int .i64 f.seq,.int .i64 f.first,.int .i64 f.rows,.slice bp f.block.length bc,.int .i64 f.index.at_,.int .i64 f.index.frames,.int .i64 f.index.rows,.slice ep f.index.entries.length ec] 36)=W0):=hW0.symm
 have h0:=h.on hb0
 have c0:W0.cell? ⟨a,0,none⟩=some (.map (some M)):=h0.cell 0
 have c1:W0.cell? ⟨a,1,none⟩=some (.int .i64 s.number):=h0.cell 1
 have hnr:=h.good.number
 have HB0:=yQ hb0
 obtain⟨R,hR⟩:∃R,R=Sc.follows s f pl:=⟨_,rfl⟩
 have HR:Hid (R=if f.number=s.number then Sch.same f.cols (Sc.schAt s s.number) else decide (f.number=s.number+1)):=by
  show _=_
  rw[hR]
  unfold Sc.follows
  rw[if_pos hk]
 rw[<-hR,hk]
 by_cases hnn:f.number=s.number
 ·obtain⟨k,hkk⟩:=h.good.has (by omega)
  obtain⟨p,c,e1,e2,e3,e4⟩:=h0.known hkk
  have HLk:Hid (∀w',Below W0.1.size W0 w'->(Instr.lookup 131 (.map (some M)) (.int .i64 s.number) false).run Tryz.prog w'=.ok (.agg #[.slice p k.cols.length c,.int .i64 k.place]) w'):=fun w' hb=>by
   have:=(h0.on hb).map.look (m:=s.number) ⟨by omega,by omega⟩
   rw[e1] at this
   exact this
  have HC:Hid ((∀w',Below W0.1.size W0 w'->w'.cell? ⟨a,0,none⟩=some (.map (some M)))∧(∀w',Below W0.1.size W0 w'->w'.cell? ⟨a,1,none⟩=some (.int .i64 s.number))∧(∀w',Below W0.1.size W0 w'->w'.cell? ⟨w.1.size,2,none⟩=some (.slice sp f.cols.length sc))):=⟨fun w' hb=>ae hb c0,fun w' hb=>ae hb c1,fun w' hb=>ae hb x2⟩
  have hfs:=lv p k.cols.length c k.place
  have HS:Hid (∀w',Below W0.1.size W0 w'->Calls Tryz.prog 53 #[.agg #[.slice sp f.cols.length sc],.agg #[.slice p k.cols.length c]] w' fun e w''=>e=.returned (.bool R)∧Below W0.1.size W0 w''):=fun w' hb=>by
   have h1:=rY f.cols k.cols sp p sc c w' hs1 ((hs3.on hb0).on hb) (e4.on hb)
   have h2:R=Sch.same f.cols k.cols:=by
    rw[HR.out,if_pos hnn]
    unfold Sc.schAt
    rw[hkk]
   rw[h2]
   exact h1.mono fun e w'' ⟨a1,a2⟩=>⟨a1,hb.trans (a2.mono hb.size)⟩
  rw[hnn] at x1
  have g0:(s.number==s.number)=true:=by simp
  rw[hnn] at HW0
  rw[hnn]
  clear h hf hW0 hb0 hbk h0 hR HR hs1 hs2 hs3 e1 e2 e3 e4 hkk hk hnn
  go_enter Tryz.func58,Tryz.ntmps58
  go_wp2_with fail
  rw[HW0.out]
  go_quiet (fail)
  go_wp2_with fail
  obtain⟨W1,hW1⟩:∃W1,W1=W0.drewN nq:=⟨_,rfl⟩
  have hb1:Below W0.1.size W0 W1:=by rw[hW1];exact below_drewN yZ _
  rw[<-hW1]
  have y0:=ae hb1 c0
  have y1:=ae hb1 c1
  have y2:=ae hb1 x2
  have yl:=HLk.out W1 hb1
  have yd:=HLk.out W1.drew hb1.drew
  have HB1:=yQ hb1
  clear hW1 hb1 HW0 g0 c0 c1 x1 x2
  go_region_held3 (fun w'=>w'.cell? ⟨a,0,none⟩=some (.map (some M))∧w'.cell? ⟨a,1,none⟩=some (.int .i64 s.number)∧w'.cell? ⟨w.1.size,2,none⟩=some (.slice sp f.cols.length sc)∧(Instr.lookup 131 (.map (some M)) (.int .i64 s.number) false).run Tryz.prog w'=.ok (.agg #[.slice p k.cols.length c,.int .i64 k.place]) w') (go_keep) (first
   | (go_at_call 53;refine(HS.out _ HB1.out.drew).mono ?_;rintro e w2 ⟨rfl,hb2⟩;have z0:=HC.out.1 w2 hb2;have z1:=HC.out.2.1 w2 hb2;have z2:=HC.out.2.2 w2 hb2;have zl:=HLk.out w2 hb2;have HB2:=yQ hb2;clear hb2)
   |fail)
  go_wp2
  go_ret
  exact⟨rfl,HB0.out.trans (HB2.out.mono HB0.out.size)⟩
 ·have g0:(f.number==s.number)=false:=by rw[beq_eq_false_iff_ne];exact hnn
  rw[if_neg hnn] at HR
  have HR2:Hid (R=(f.number==s.number+1)):=by
   show _=_
   rw[HR.out]
   by_cases h1:f.number=s.number+1
   ·rw[h1];simp
   ·rw[decide_eq_false h1];symm;rw[beq_eq_false_iff_ne];exact h1
  clear h hf hW0 hb0 hbk h0 hR HR hs1 hs2 hs3 hk hnn x2 c0
  go_enter Tryz.func58,Tryz.ntmps58
  go_wp2_with fail
  rw[HW0.out]
  go_quiet (fail)
  go_wp2_with fail
  go_quiet (fail)
  go_wp2
  go_ret
  rw[HR2.out]
  exact⟨rfl,below_drewN (below_drewN HB0.out _) _⟩
theorem qH(h:av w B a M n v g s G)(f:Fr)(hk:f.kind=2)(u:AV)(hf:cC w u f)(pl:Int):
  Calls Tryz.prog 58 #[.pointer (some ⟨a,0,none⟩),.agg u,.int .i64 pl] w fun e w'=>e=.returned (.bool (Sc.follows s f pl))∧Below w.1.size w w':=by
 obtain⟨sp,sc,bp,bc,ep,ec,rfl,-⟩:=hf.out
 unfold aI
 obtain⟨W0,hW0⟩:∃W0,W0=w.alloc (.cells #[.int .i64 2,.int .i64 f.number,.slice sp f.cols.length sc,.int .i64 f.seq,.int .i64 f.first,.int .i64 f.rows,.slice bp f.block.length bc,.int .i64 f.index.at_,.int .i64 f.index.frames,.int .i64 f.index.rows,.slice ep f.index.entries.length ec] 36):=⟨_,rfl⟩
 have hb0:Below w.1.size w W0:=by rw[hW0];exact yY
 have hbk:=an w (.cells #[.int .i64 2,.int .i64 f.number,.slice sp f.cols.length sc,.int .i64 f.seq,.int .i64 f.first,.int .i64 f.rows,.slice bp f.block.length bc,.int .i64 f.index.at_,.int .i64 f.index.frames,.int .i64 f.index.rows,.slice ep f.index.entries.length ec] 36)
 rw[<-hW0] at hbk
 have x1:W0.cell? ⟨w.1.size,1,none⟩=some (.int .i64 f.number):=aa hbk 1
 have x3:W0.cell? ⟨w.1.size,3,none⟩=some (.int .i64 f.seq):=aa hbk 3
 have x4:W0.cell? ⟨w.1.size,4,none⟩=some (.int .i64 f.first):=aa hbk 4
 have HW0:Hid (w.alloc (.cells #[.int .i64 2,.int .i64 f.number,.slice sp f.cols.length sc,.int .i64 f.seq,.int .i64 f.first,.int .i64 f.rows,.slice bp f.block.length bc,.int .i64 f.index.at_,.int .i64 f.index.frames,.int .i64 f.index.rows,.slice ep f.index.entries.length ec] 36)=W0):=hW0.symm
 have h0:=h.on hb0
 have c1:W0.cell? ⟨a,1,none⟩=some (.int .i64 s.number):=h0.cell 1
 have c3:W0.cell? ⟨a,3,none⟩=some (.int .i64 s.frames):=h0.cell 3
 have c4:W0.cell? ⟨a,4,none⟩=some (.int .i64 s.rows):=h0.cell 4
 have HB0:=yQ hb0
 obtain⟨R,hR⟩:∃R,R=Sc.follows s f pl:=⟨_,rfl⟩
 have HR:Hid (R=decide (f.number=s.number∧f.seq=s.frames∧f.first=s.rows)):=by
  show _=_
  rw[hR]
  unfold Sc.follows
  rw[if_neg (by omega),if_pos hk]
 rw[<-hR,hk]
 clear h hf hW0 hb0 hbk h0 hR hk
 by_cases h1:f.number=s.number
 ·have g1:(f.number==s.number)=true:=by rw[beq_iff_eq];exact h1
  by_cases h2:f.seq=s.frames
  ·have g2:(f.seq==s.frames)=true:=by rw[beq_iff_eq];exact h2
   have HR2:Hid (R=(f.first==s.rows)):=by
    show _=_
    rw[HR.out]
    by_cases h3:f.first=s.rows
    ·rw[decide_eq_true ⟨h1,h2,h3⟩];symm;rw[beq_iff_eq];exact h3
    ·rw[decide_eq_false (fun hc=>h3 hc.2.2)];symm;rw[beq_eq_false_iff_ne];exact h3
   clear HR h1 h2
   go_enter Tryz.func58,Tryz.ntmps58
   go_wp2_with fail
   rw[HW0.out]
   go_quiet (fail)
   go_wp2
   go_ret
   rw[HR2.out]
   exact⟨rfl,below_drewN HB0.out _⟩
  ·have g2:(f.seq==s.frames)=false:=by rw[beq_eq_false_iff_ne];exact h2
   have HR2:Hid (R=false):=by show _=_;rw[HR.out];exact decide_eq_false (fun hc=>h2 hc.2.1)
   clear HR h1 h2
   go_enter Tryz.func58,Tryz.ntmps58
   go_wp2_with fail
   rw[HW0.out]
   go_quiet (fail)
   go_wp2
   go_ret
   rw[HR2.out]
   exact⟨rfl,below_drewN HB0.out _⟩
 ·have g1:(f.number==s.number)=false:=by rw[beq_eq_false_iff_ne];exact h1
  have HR2:Hid (R=false):=by show _=_;rw[HR.out];exact decide_eq_false (fun hc=>h1 hc.1)
  clear HR h1
  go_enter Tryz.func58,Tryz.ntmps58
  go_wp2_with fail
  rw[HW0.out]
  go_quiet (fail)
  go_wp2
  go_ret
  rw[HR2.out]
  exact⟨rfl,below_drewN HB0.out _⟩
theorem qG(h:av w B a M n v g s G)(f:Fr)(hk:f.kind=3)(u:AV)(hf:cC w u f)(pl:Int):
  Calls Tryz.prog 58 #[.pointer (some ⟨a,0,none⟩),.agg u,.int .i64 pl] w fun e w'=>e=.returned (.bool (Sc.follows s f pl))∧Below w.1.size w w':=by
 obtain⟨sp,sc,bp,bc,ep,ec,rfl,-,-,-,-,-,-,he1,he2,he3⟩:=hf.out
 unfold aI
 obtain⟨W0,hW0⟩:∃W0,W0=(w.alloc (.cells #[.int .i64 3,.int .i64 f.number,.slice sp f.cols.length sc,.int .i64 f.seq,.int .i64 f.first,.int .i64 f.rows,.slice bp f.block.length bc,.int .i64 f.index.at_,.int .i64 f.index.frames,.int .i64 f.index.rows,.slice ep f.index.entries.length ec] 36)).alloc (.cells #[.int .i64 f.index.at_,.int .i64 f.index.frames,.int .i64 f.index.rows,.slice ep f.index.entries.length ec] 34):=⟨_,rfl⟩
 have hb0:Below w.1.size w W0:=by rw[hW0];exact yY.alloc (by simp) _
 have hbk:=an (w.alloc (.cells #[.int .i64 3,.int .i64 f.number,.slice sp f.cols.length sc,.int .i64 f.seq,.int .i64 f.first,.int .i64 f.rows,.slice bp f.block.length bc,.int .i64 f.index.at_,.int .i64 f.index.frames,.int .i64 f.index.rows,.slice ep f.index.entries.length ec] 36)) (.cells #[.int .i64 f.index.at_,.int .i64 f.index.frames,.int .i64 f.index.rows,.slice ep f.index.entries.length ec] 34)
 rw[<-hW0] at hbk
 have hX:(w.alloc (.cells #[.int .i64 3,.int .i64 f.number,.slice sp f.cols.length sc,.int .i64 f.seq,.int .i64 f.first,.int .i64 f.rows,.slice bp f.block.length bc,.int .i64 f.index.at_,.int .i64 f.index.frames,.int .i64 f.index.rows,.slice ep f.index.entries.length ec] 36)).1.size=w.1.size+1:=by simp
 rw[hX] at hbk
 have x0:W0.cell? ⟨w.1.size+1,0,none⟩=some (.int .i64 f.index.at_):=aa hbk 0
 have x1:W0.cell? ⟨w.1.size+1,1,none⟩=some (.int .i64 f.index.frames):=aa hbk 1
 have x2:W0.cell? ⟨w.1.size+1,2,none⟩=some (.int .i64 f.index.rows):=aa hbk 2
 have x3:W0.cell? ⟨w.1.size+1,3,none⟩=some (.slice ep f.index.entries.length ec):=aa hbk 3
 have HW0:Hid ((w.alloc (.cells #[.int .i64 3,.int .i64 f.number,.slice sp f.cols.length sc,.int .i64 f.seq,.int .i64 f.first,.int .i64 f.rows,.slice bp f.block.length bc,.int .i64 f.index.at_,.int .i64 f.index.frames,.int .i64 f.index.rows,.slice ep f.index.entries.length ec] 36)).alloc (.cells #[.int .i64 f.index.at_,.int .i64 f.index.frames,.int .i64 f.index.rows,.slice ep f.index.entries.length ec] 34)=W0):=hW0.symm
 have h0:=h.on hb0
 obtain⟨q,d,hv,hqd,hqe,-⟩:=h0.ents.ents
 subst hv
 have c3:W0.cell? ⟨a,3,none⟩=some (.int .i64 s.frames):=h0.cell 3
 have c4:W0.cell? ⟨a,4,none⟩=some (.int .i64 s.rows):=h0.cell 4
 have c5:W0.cell? ⟨a,5,none⟩=some (.slice q s.ents.length d):=h0.cell 5
 have HB0:=yQ hb0
 obtain⟨R,hR⟩:∃R,R=Sc.follows s f pl:=⟨_,rfl⟩
 have HR:Hid (R=decide (f.index.at_=pl∧f.index.frames=s.frames∧f.index.rows=s.rows∧f.index.entries.map Ent.tup=s.ents.map Ent.tup)):=by
  show _=_
  rw[hR]
  unfold Sc.follows
  rw[if_neg (by omega),if_neg (by omega)]
  rfl
 have HC:Hid (∀m,Calls Tryz.prog 88 #[.slice ep f.index.entries.length ec,.slice q s.ents.length d] (W0.drewN m) fun e w'=>e=.returned (.bool (decide (f.index.entries.map Ent.tup=s.ents.map Ent.tup)))∧∃n,w'=(W0.drewN m).drewN n):=fun m=>uW ep q ec d f.index.entries s.ents he1 (W0.drewN m) ((he3.on hb0).on (below_drewN yZ m)) (hqe.on (below_drewN yZ m))
 rw[<-hR,hk]
 clear h hf hW0 hb0 hbk h0 hR hk hX he1 he2 he3 hqe hqd
 by_cases h1:f.index.at_=pl
 ·have g1:(f.index.at_==pl)=true:=by rw[beq_iff_eq];exact h1
  by_cases h2:f.index.frames=s.frames
  ·have g2:(f.index.frames==s.frames)=true:=by rw[beq_iff_eq];exact h2
   by_cases h3:f.index.rows=s.rows
   ·have g3:(f.index.rows==s.rows)=true:=by rw[beq_iff_eq];exact h3
    have HR2:Hid (R=decide (f.index.entries.map Ent.tup=s.ents.map Ent.tup)):=by
     show _=_
     rw[HR.out]
     simp[h1,h2,h3]
    rw[<-HR2.out] at HC
    clear HR HR2 h1 h2 h3
    go_enter Tryz.func58,Tryz.ntmps58
    go_wp2_with fail
    rw[HW0.out]
    go_quiet ((go_at_call 88;exact Calls.quiet_of (HC.out _)))
    go_wp2
    go_ret
    exact⟨rfl,below_drewN HB0.out _⟩
   ·have g3:(f.index.rows==s.rows)=false:=by rw[beq_eq_false_iff_ne];exact h3
    have HR2:Hid (R=false):=by show _=_;rw[HR.out];exact decide_eq_false (fun hc=>h3 hc.2.2.1)
    clear HR h1 h2 h3 HC
    go_enter Tryz.func58,Tryz.ntmps58
    go_wp2_with fail
    rw[HW0.out]
    go_quiet (fail)
    go_wp2
    go_ret
    rw[HR2.out]
    exact⟨rfl,below_drewN HB0.out _⟩
  ·have g2:(f.index.frames==s.frames)=false:=by rw[beq_eq_false_iff_ne];exact h2
   have HR2:Hid (R=false):=by show _=_;rw[HR.out];exact decide_eq_false (fun hc=>h2 hc.2.1)
   clear HR h1 h2 HC
   go_enter Tryz.func58,Tryz.ntmps58
   go_wp2_with fail
   rw[HW0.out]
   go_quiet (fail)
   go_wp2
   go_ret
   rw[HR2.out]
   exact⟨rfl,below_drewN HB0.out _⟩
 ·have g1:(f.index.at_==pl)=false:=by rw[beq_eq_false_iff_ne];exact h1
  have HR2:Hid (R=false):=by show _=_;rw[HR.out];exact decide_eq_false (fun hc=>h1 hc.1)
  clear HR h1 HC
  go_enter Tryz.func58,Tryz.ntmps58
  go_wp2_with fail
  rw[HW0.out]
  go_quiet (fail)
  go_wp2
  go_ret
  rw[HR2.out]
  exact⟨rfl,below_drewN HB0.out _⟩
theorem sT(h:av w B a M n v g s G)(f:Fr)(u:AV)(hf:cC w u f)(pl:Int)(he:Fr.err f=0):
  Calls Tryz.prog 58 #[.pointer (some ⟨a,0,none⟩),.agg u,.int .i64 pl] w fun e w'=>e=.returned (.bool (Sc.follows s f pl))∧Below w.1.size w w':=by
 obtain⟨e1,-,e3⟩:=Sc.err_parts he
 rcases e3 with hk | hk | hk
 ·exact qI h f hk u hf pl (e1 hk).1.1
 ·exact qH h f hk u hf pl
 ·exact qG h f hk u hf pl
end
end
section
open Go.RowKit Go.Maps
section
variable {w:World} {B a M n:Nat} {v:Value} {g:Int->Option Value} {s:Wk} {G:Nat->Prop}
theorem av.more(h:av w B a M n v g s G){n':Nat}(hn:n<=n'):av w B a M n' v g s G:=by
 obtain⟨D,h1,h2⟩:=h.map.out
 exact⟨h.lies,⟨D,h1.mono hn,h2⟩,h.ents,h.base,h.good,h.low,h.off,h.sch⟩
theorem cQ.put{w1:World}{s':Wk}{i:Nat}{x:Value}{v':Value}{g':Int->Option Value}(hk:av w1 B a M n v' g' s G)(ha:Aside (fU a M v) w w1)(hv:∀i,v'.ownBlock=some i->v.ownBlock=some i∨w.1.size<=i)(he:bM M s' v'=(bM M s v').setIfInBounds i x)(hs:s'.sch=s.sch)(hes:s'.ents=s.ents)(hg:Sc.Good s'):cQ w (w1.setCell ⟨a,i,none⟩ x) B a M n v s' G :=
 ⟨v',g',hk.put i x he hs hes hg,ha.setCell (p:=⟨a,i,none⟩) (.inl (.inl rfl)) x,hv⟩
theorem wE(h:av w B a M n v g s G)(f:Fr)(hk:f.kind=1)(hwf:f.wf)(u:AV)(hf:cC w u f)(pl:Int)(hm:Sc.may s f pl=true)(hn:n<1000000000):
  Calls Tryz.prog 59 #[.pointer (some ⟨a,0,none⟩),.agg u,.int .i64 pl] w fun e w'=>e=.returned (.tuple #[])∧cQ w w' B a M (n+1) v (Sc.take s f pl) G:=by
 obtain⟨sp,sc,bp,bc,ep,ec,rfl,hs1,hs2,hs3,-⟩:=hf.out
 unfold aI
 obtain⟨hp,he,hfo⟩:=Sc.may_parts hm
 obtain⟨e1,-,-⟩:=Sc.err_parts he
 obtain⟨a1,a2⟩:=e1 hk
 obtain⟨W0,hW0⟩:∃W0,W0=w.alloc (.cells #[.int .i64 1,.int .i64 f.number,.slice sp f.cols.length sc,.int .i64 f.seq,.int .i64 f.first,.int .i64 f.rows,.slice bp f.block.length bc,.int .i64 f.index.at_,.int .i64 f.index.frames,.int .i64 f.index.rows,.slice ep f.index.entries.length ec] 36):=⟨_,rfl⟩
 have hb0:Below w.1.size w W0:=by rw[hW0];exact yY
 have HW0:Hid (w.alloc (.cells #[.int .i64 1,.int .i64 f.number,.slice sp f.cols.length sc,.int .i64 f.seq,.int .i64 f.first,.int .i64 f.rows,.slice bp f.block.length bc,.int .i64 f.index.at_,.int .i64 f.index.frames,.int .i64 f.index.rows,.slice ep f.index.entries.length ec] 36)=W0):=hW0.symm
 have HL:=yQ (wI (h.on hb0) f.number f.cols sp sc pl a1 (Sc.follows_sch hk hfo) hp a2 hwf.2.2.1 hs1 (hs3.on hb0) hn)
 have hbk:=an w (.cells #[.int .i64 1,.int .i64 f.number,.slice sp f.cols.length sc,.int .i64 f.seq,.int .i64 f.first,.int .i64 f.rows,.slice bp f.block.length bc,.int .i64 f.index.at_,.int .i64 f.index.frames,.int .i64 f.index.rows,.slice ep f.index.entries.length ec] 36)
 rw[<-hW0] at hbk
 have HBk:=yQ hbk
 have HB0:=yQ hb0
 have hal:=h.lt
 have haw:¬fU a M v w.1.size:=fun hc=>by
  rcases hc with hc | hc | hc
  ·omega
  ·have:=h.map.lt;omega
  ·have:=(h.ents.lt _ hc).2;omega
 have HT:Hid (Sc.take s f pl={ Sc.learn s f.number f.cols pl with closed:=false }):=by
  show _=_
  unfold Sc.take
  rw[if_pos hk]
 have HGd:Hid (Sc.Good (Sc.take s f pl)):=Sc.good_take h.good hwf hm
 obtain⟨st,hst⟩:∃st,st=Sc.take s f pl:=⟨_,rfl⟩
 rw[<-hst] at HT HGd ⊢
 rw[hk]
 clear h hf hwf hm hp he hfo e1 a1 a2 hW0 hb0 hbk hs1 hs2 hs3 hst hk
 go_enter Tryz.func59,Tryz.ntmps59
 go_wp2_with fail
 rw[HW0.out]
 refine HL.out.mono ?_
 rintro e w1 ⟨rfl,v',g',hk1,ha1,hv1⟩
 have hbk1:=(ha1.block _ (ao HBk.out) haw).trans HBk.out
 have x0:w1.cell? ⟨w.1.size,0,none⟩=some (.int .i64 1):=aa hbk1 0
 have c6:w1.cell? ⟨a,6,none⟩=some (.bool (Sc.learn s f.number f.cols pl).closed):=hk1.cell 6
 have f6:=hk1.thawed 6
 have HP:Hid (cQ w (w1.setCell ⟨a,6,none⟩ (.bool false)) B a M (n+1) v st G):=cQ.put hk1 ((ag HB0.out _).trans ha1 (fun _ _ h=>h)) (fun i hi=>(hv1 i hi).imp id (fun h=>Nat.le_trans HB0.out.size h)) (by rw[HT.out];rfl) (by rw[HT.out]) (by rw[HT.out]) HGd.out
 clear hk1 ha1 hv1 hbk1 HL HW0 HT HGd
 go_wp2
 go_end0
 exact⟨rfl,HP.out⟩
theorem wC(h:av w B a M n v g s G)(f:Fr)(hk:f.kind=3)(u:AV)(hf:cC w u f)(pl:Int):
  Calls Tryz.prog 59 #[.pointer (some ⟨a,0,none⟩),.agg u,.int .i64 pl] w fun e w'=>e=.returned (.tuple #[])∧cQ w w' B a M (n+1) v (Sc.take s f pl) G:=by
 obtain⟨sp,sc,bp,bc,ep,ec,rfl,-⟩:=hf.out
 unfold aI
 have HT:Hid (Sc.take s f pl={ s with closed:=true }):=by
  show _=_
  unfold Sc.take
  rw[if_neg (by omega),if_neg (by omega)]
 have HP:Hid (∀o,cQ w ((w.setCell ⟨a,6,none⟩ (.bool true)).alloc o) B a M (n+1) v (Sc.take s f pl) G):=fun o=>by
  rw[HT.out]
  exact⟨v,g,(((h.put 6 (.bool true) (s':={ s with closed:=true }) rfl rfl rfl (Sc.good_closed h.good true)).more (Nat.le_succ n)).on (yZ.alloc yX o)),((Aside.refl (fU a M v) w).setCell (p:=⟨a,6,none⟩) (.inl (.inl rfl)) _).alloc o,fun i hi=>.inl hi⟩
 have c6:w.cell? ⟨a,6,none⟩=some (.bool s.closed):=h.cell 6
 have f6:=h.thawed 6
 have hal:=h.lt
 rw[hk]
 clear h hf hk
 go_enter Tryz.func59,Tryz.ntmps59
 go_wp2
 go_end0
 exact⟨rfl,HP.out _⟩
theorem wD(h:av w B a M n v g s G)(f:Fr)(hk:f.kind=2)(hwf:f.wf)(u:AV)(hf:cC w u f)(pl:Int)(hm:Sc.may s f pl=true)(hB:B<=w.1.size):
  Calls Tryz.prog 59 #[.pointer (some ⟨a,0,none⟩),.agg u,.int .i64 pl] w fun e w'=>e=.returned (.tuple #[])∧cQ w w' B a M (n+1) v (Sc.take s f pl) G:=by
 have hf0:=hf
 obtain⟨sp,sc,bp,bc,ep,ec,rfl,-⟩:=hf.out
 obtain⟨hp,he,hfo⟩:=Sc.may_parts hm
 obtain⟨-,e2,-⟩:=Sc.err_parts he
 obtain⟨a1,a2,a3,a4⟩:=e2 hk
 obtain⟨b1,b2,b3⟩:=Sc.follows_data hk hfo
 unfold aI at hf0 ⊢
 rw[hk] at hf0
 obtain⟨W0,hW0⟩:∃W0,W0=w.alloc (.cells #[.int .i64 2,.int .i64 f.number,.slice sp f.cols.length sc,.int .i64 f.seq,.int .i64 f.first,.int .i64 f.rows,.slice bp f.block.length bc,.int .i64 f.index.at_,.int .i64 f.index.frames,.int .i64 f.index.rows,.slice ep f.index.entries.length ec] 36):=⟨_,rfl⟩
 have hb0:Below w.1.size w W0:=by rw[hW0];exact yY
 have HW0:Hid (w.alloc (.cells #[.int .i64 2,.int .i64 f.number,.slice sp f.cols.length sc,.int .i64 f.seq,.int .i64 f.first,.int .i64 f.rows,.slice bp f.block.length bc,.int .i64 f.index.at_,.int .i64 f.index.frames,.int .i64 f.index.rows,.slice ep f.index.entries.length ec] 36)=W0):=hW0.symm
 have HL:=yQ (wJ (h.on hb0) f _ (hf0.on hb0) pl hp a2 a3 (Nat.le_trans hB hb0.size))
 have hbk:=an w (.cells #[.int .i64 2,.int .i64 f.number,.slice sp f.cols.length sc,.int .i64 f.seq,.int .i64 f.first,.int .i64 f.rows,.slice bp f.block.length bc,.int .i64 f.index.at_,.int .i64 f.index.frames,.int .i64 f.index.rows,.slice ep f.index.entries.length ec] 36)
 rw[<-hW0] at hbk
 have HBk:=yQ hbk
 have HB0:=yQ hb0
 have hal:=h.lt
 have haw:¬fU a M v w.1.size:=fun hc=>by
  rcases hc with hc | hc | hc
  ·omega
  ·have:=h.map.lt;omega
  ·have:=(h.ents.lt _ hc).2;omega
 have HT:Hid (Sc.take s f pl={ Sc.count (Sc.enter s f pl) f with closed:=false }):=by
  show _=_
  unfold Sc.take
  rw[if_neg (by omega),if_pos hk]
 have HGd:Hid (Sc.Good (Sc.take s f pl)):=Sc.good_take h.good hwf hm
 have hEn:=Sc.enter_same s f pl
 have hGe:=Sc.good_enter h.good f pl hp a3
 obtain⟨se,hse⟩:∃se,se=Sc.enter s f pl:=⟨_,rfl⟩
 rw[<-hse] at HL HT hEn hGe
 obtain⟨st,hst⟩:∃st,st=Sc.take s f pl:=⟨_,rfl⟩
 rw[<-hst] at HT HGd ⊢
 rw[hk]
 have hfr:0<=se.frames∧se.frames<1099511627776:=by rw[hEn.2.2.2.1,<-b2];exact a2
 have hrw:0<=se.rows∧se.rows<1099511627776:=by rw[hEn.2.2.2.2.1,<-b3];exact a3
 have hsi:0<=se.since∧se.since<1099511627776:=by have:=hGe.since;omega
 have HGe:=yQ hGe
 clear h hf hf0 hwf hm hp he hfo e2 a1 a2 a3 b1 b2 b3 hW0 hb0 hbk hst hse hk hEn hGe
 go_enter Tryz.func59,Tryz.ntmps59
 go_wp2_with fail
 rw[HW0.out]
 refine HL.out.mono ?_
 rintro e w1 ⟨rfl,v',g',hk1,ha1,hv1⟩
 have hbk1:=(ha1.block _ (ao HBk.out) haw).trans HBk.out
 have c3:w1.cell? ⟨a,3,none⟩=some (.int .i64 se.frames):=hk1.cell 3
 have f3:=hk1.thawed 3
 have h2:av (w1.setCell ⟨a,3,none⟩ (.int .i64 (se.frames+1))) B a M n v' g' { se with frames:=se.frames+1 } G:=hk1.put 3 _ rfl rfl rfl ⟨HGe.out.number,by have:=HGe.out.since;exact⟨by dsimp only;omega,by dsimp only;omega⟩,by dsimp only;omega,HGe.out.rows,HGe.out.ents,HGe.out.entsOk,HGe.out.known,HGe.out.has⟩
 obtain⟨w2,hw2⟩:∃w2,w2=w1.setCell ⟨a,3,none⟩ (.int .i64 (se.frames+1)):=⟨_,rfl⟩
 have ha2:Aside (fU a M v) W0 w2:=by rw[hw2];exact ha1.setCell (p:=⟨a,3,none⟩) (.inl (.inl rfl)) _
 have HW2:=yQ hw2
 rw[<-hw2] at h2
 have hbk2:=(ha2.block _ (ao HBk.out) haw).trans HBk.out
 have y5:w2.cell? ⟨w.1.size,5,none⟩=some (.int .i64 f.rows):=aa hbk2 5
 have d4:w2.cell? ⟨a,4,none⟩=some (.int .i64 se.rows):=h2.cell 4
 have f4:=h2.thawed 4
 have HK2:=yQ h2
 have HA2:=yQ ha2
 have HV1:=yQ hv1
 clear hk1 ha1 hv1 hbk1 HL hbk2 h2 ha2 hw2
 go_wp2_with fail
 rw[<-HW2.out]
 go_region
 obtain⟨w3,hw3⟩:∃w3,w3=(w2.setCell ⟨a,4,none⟩ (.int .i64 (se.rows+f.rows))).drew:=⟨_,rfl⟩
 rw[<-hw3]
 have h3:av w3 B a M n v' g' { se with frames:=se.frames+1,rows:=se.rows+f.rows } G:=by
  rw[hw3]
  refine(HK2.out.put 4 (.int .i64 (se.rows+f.rows)) (s':={ se with frames:=se.frames+1,rows:=se.rows+f.rows }) rfl rfl rfl ?_).on yZ.drew
  exact⟨HGe.out.number,by have:=HGe.out.since;exact⟨by dsimp only;omega,by dsimp only;omega⟩,by dsimp only;omega,⟨by dsimp only;omega,by dsimp only;omega⟩,HGe.out.ents,HGe.out.entsOk,HGe.out.known,HGe.out.has⟩
 have ha3:Aside (fU a M v) W0 w3:=by rw[hw3];exact(HA2.out.setCell (p:=⟨a,4,none⟩) (.inl (.inl rfl)) _).drew
 have e2:w3.cell? ⟨a,2,none⟩=some (.int .i64 se.since):=h3.cell 2
 have g2:=h3.thawed 2
 have e6:w3.cell? ⟨a,6,none⟩=some (.bool se.closed):=h3.cell 6
 have g6:=h3.thawed 6
 have hbk3:=(ha3.block _ (ao HBk.out) haw).trans HBk.out
 have z0:w3.cell? ⟨w.1.size,0,none⟩=some (.int .i64 2):=aa hbk3 0
 have hawl:¬w.1.size=a:=by omega
 have HP:Hid (cQ w ((w3.setCell ⟨a,2,none⟩ (.int .i64 (se.since+1))).setCell ⟨a,6,none⟩ (.bool false)) B a M (n+1) v st G):=by
  have h4:=(h3.put 2 (.int .i64 (se.since+1)) (s':=Sc.count se f) rfl rfl rfl (Sc.good_count HGe.out f hfr.2 hrw.2 a4)).more (Nat.le_succ n)
  have ha4:Aside (fU a M v) w (w3.setCell ⟨a,2,none⟩ (.int .i64 (se.since+1))):=((ag HB0.out _).trans ha3 (fun _ _ h=>h)).setCell (p:=⟨a,2,none⟩) (.inl (.inl rfl)) _
  rw[HT.out]
  exact cQ.put h4 ha4 (fun i hi=>(HV1.out i hi).imp id (fun h=>Nat.le_trans HB0.out.size h)) rfl rfl rfl (Sc.good_closed (Sc.good_count HGe.out f hfr.2 hrw.2 a4) false)
 clear h3 ha3 hbk3 hw3 HK2 HA2 HV1 HT HGd y5 d4 f4 c3 f3
 go_wp2
 go_end0
 exact⟨rfl,HP.out⟩
theorem xK(h:av w B a M n v g s G)(f:Fr)(hwf:f.wf)(u:AV)(hf:cC w u f)(pl:Int)(hm:Sc.may s f pl=true)(hn:n<1000000000)(hB:B<=w.1.size):
  Calls Tryz.prog 59 #[.pointer (some ⟨a,0,none⟩),.agg u,.int .i64 pl] w fun e w'=>e=.returned (.tuple #[])∧cQ w w' B a M (n+1) v (Sc.take s f pl) G:=by
 obtain⟨-,-,e3⟩:=Sc.err_parts (Sc.may_parts hm).2.1
 rcases e3 with hk | hk | hk
 ·exact wE h f hk hwf u hf pl hm hn
 ·exact wD h f hk hwf u hf pl hm hB
 ·exact wC h f hk u hf pl
end
end
section
open Go.RowKit Go.Maps
section
variable {w:World} {B a M n:Nat} {v:Value} {g:Int->Option Value} {s:Wk} {G:Nat->Prop}
theorem cQ.same{w1:World}(h:av w B a M n v g s G)(hb:Below w.1.size w w1):cQ w w1 B a M (n+1) v s G:=⟨v,g,(h.on hb).more (Nat.le_succ n),ag hb _,fun _ hi=>.inl hi⟩
theorem xN(h:av w B a M n v g s G)(f:Fr)(hwf:f.wf)(u:AV)(hf:cC w u f)(pl:Int)(hv:Hv w)(hn:n<1000000000)(hB:B<=w.1.size):
  Calls Tryz.prog 33 #[.pointer (some ⟨a,0,none⟩),.agg u,.int .i64 pl] w fun e w'=>e=.returned (.int .i64 (if Sc.may s f pl=true then 0 else 143))∧cQ w w' B a M (n+1) v (Sc.next s f pl) G:=by
 have hf0:=hf
 obtain⟨sp,sc,bp,bc,ep,ec,rfl,-⟩:=hf.out
 unfold aI at hf0 ⊢
 obtain⟨W0,hW0⟩:∃W0,W0=(w.alloc (.cells #[.int .i64 f.kind,.int .i64 f.number,.slice sp f.cols.length sc,.int .i64 f.seq,.int .i64 f.first,.int .i64 f.rows,.slice bp f.block.length bc,.int .i64 f.index.at_,.int .i64 f.index.frames,.int .i64 f.index.rows,.slice ep f.index.entries.length ec] 36)).alloc (.cells #[.int .i64 pl] 2):=⟨_,rfl⟩
 have hb0:Below w.1.size w W0:=by rw[hW0];exact yY.alloc (by simp) _
 have hz0:W0.1.size=w.1.size+2:=by rw[hW0];simp
 have hbk:W0.1[w.1.size]?=some (.cells #[.int .i64 f.kind,.int .i64 f.number,.slice sp f.cols.length sc,.int .i64 f.seq,.int .i64 f.first,.int .i64 f.rows,.slice bp f.block.length bc,.int .i64 f.index.at_,.int .i64 f.index.frames,.int .i64 f.index.rows,.slice ep f.index.entries.length ec] 36):=by
  rw[hW0,aw _ _ (by simp)]
  exact an w _
 have hbl:W0.1[w.1.size+1]?=some (.cells #[.int .i64 pl] 2):=by
  rw[hW0]
  have:=an (w.alloc (.cells #[.int .i64 f.kind,.int .i64 f.number,.slice sp f.cols.length sc,.int .i64 f.seq,.int .i64 f.first,.int .i64 f.rows,.slice bp f.block.length bc,.int .i64 f.index.at_,.int .i64 f.index.frames,.int .i64 f.index.rows,.slice ep f.index.entries.length ec] 36)) (.cells #[.int .i64 pl] 2)
  simpa using this
 have HW0:Hid ((w.alloc (.cells #[.int .i64 f.kind,.int .i64 f.number,.slice sp f.cols.length sc,.int .i64 f.seq,.int .i64 f.first,.int .i64 f.rows,.slice bp f.block.length bc,.int .i64 f.index.at_,.int .i64 f.index.frames,.int .i64 f.index.rows,.slice ep f.index.entries.length ec] 36)).alloc (.cells #[.int .i64 pl] 2)=W0):=hW0.symm
 have HLg:=yQ (wz (w.1.size+1) 1 [pl] (by simp) W0 (fun j hj=>by
  obtain rfl:j=0:=by simpa using hj
  exact aa hbl 0))
 have HH:=yQ h
 have HB0:=yQ hb0
 have HBk:=yQ hbk
 have HF:=yQ hf0
 have HWf:=yQ hwf
 have HM:Hid (Sc.may s f pl=(Fr.within Fr.S pl&&decide (Fr.err f=0)&&Sc.follows s f pl)):=rfl
 have HNx:Hid (Sc.next s f pl=if Sc.may s f pl=true then Sc.take s f pl else s):=rfl
 obtain⟨nx,hnx⟩:∃nx,nx=Sc.next s f pl:=⟨_,rfl⟩
 obtain⟨rc,hrc⟩:∃rc:Int,rc=if Sc.may s f pl=true then 0 else 143:=⟨_,rfl⟩
 rw[<-hnx] at HNx ⊢
 rw[<-hrc]
 have HRc:=yQ hrc
 have HHv:=yQ hv
 clear h hf hf0 hwf hW0 hb0 hbk hbl hnx hv hrc
 by_cases hlg:Fr.within Fr.S pl=true
 ·have hla:[pl].all (Fr.within Fr.S)=true:=by simp[hlg]
  rw[hla] at HLg
  have HE:=yQ (uX f HWf.out _ W0 (HHv.out.next HB0.out) (HF.out.on HB0.out))
  obtain⟨x0,x1,x2,x3,x4,x5,x6,x7,x8,x9,x10⟩:=eF HBk.out
  obtain⟨er,her⟩:∃er,er=Fr.err f:=⟨_,rfl⟩
  rw[<-her] at HE
  have HEr:=yQ her
  clear hla her
  go_enter Tryz.func33,Tryz.ntmps33
  go_wp2_with fail
  rw[HW0.out]
  refine HLg.out.mono ?_
  rintro e w' ⟨rfl,hw'⟩
  rw[hw']
  clear hw' w' HLg
  go_wp2_with fail
  refine HE.out.mono ?_
  rintro e w1 (⟨hz,q,cap,rfl,-,hb1⟩ | ⟨hz,rfl,hb1⟩)
  ·have HB1:=yQ (HB0.out.trans (hb1.mono HB0.out.size))
   have he:Fr.err f=0:=by rw[<-HEr.out];exact hz
   have hbk1:=(hb1.block _ (by omega)).trans HBk.out
   obtain⟨y0,y1,y2,y3,y4,y5,y6,y7,y8,y9,y10⟩:=eF hbk1
   have HFo:=yQ (sT (HH.out.on HB1.out) f _ (HF.out.on HB1.out) pl he)
   obtain⟨fo,hfo⟩:∃fo,fo=Sc.follows s f pl:=⟨_,rfl⟩
   rw[<-hfo] at HFo HM
   have HM2:Hid (Sc.may s f pl=fo):=by
    show _=_
    rw[HM.out,hlg,decide_eq_true he]
    rfl
   have HBk1:=yQ hbk1
   have hz1:=hb1.size
   clear hb1 hbk1 hfo he HE HM HEr x0 x1 x2 x3 x4 x5 x6 x7 x8 x9 x10
   go_wp2_with fail
   refine HFo.out.mono ?_
   rintro e w2 ⟨rfl,hb2⟩
   have HB2:=yQ (HB1.out.trans (hb2.mono HB1.out.size))
   have hbk2:=(hb2.block _ (by omega)).trans HBk1.out
   obtain⟨z0,z1,z2,z3,z4,z5,z6,z7,z8,z9,z10⟩:=eF hbk2
   clear hb2 hbk2 HFo y0 y1 y2 y3 y4 y5 y6 y7 y8 y9 y10
   cases fo with
   |false=>
    have HP:=yQ (cQ.same HH.out HB2.out)
    have HE1:Hid (nx=s):=by show _=_;rw[HNx.out,HM2.out];rfl
    clear HNx
    go_wp2
    go_ret
    rw[HE1.out,HRc.out,HM2.out]
    exact⟨rfl,HP.out⟩
   |true=>
    have HT:=yQ (xK (HH.out.on HB2.out) f HWf.out _ (HF.out.on HB2.out) pl HM2.out hn (Nat.le_trans hB HB2.out.size))
    have HE1:Hid (nx=Sc.take s f pl):=by show _=_;rw[HNx.out,HM2.out];rfl
    clear HNx
    go_wp2_with fail
    refine HT.out.mono ?_
    rintro e w3 ⟨rfl,v',g',hk3,ha3,hv3⟩
    have HP:Hid (cQ w w3 B a M (n+1) v (Sc.take s f pl) G):=⟨v',g',hk3,(ag HB2.out _).trans ha3 (fun _ _ h=>h),fun i hi=>(hv3 i hi).imp id (fun h=>Nat.le_trans HB2.out.size h)⟩
    clear hk3 ha3 hv3 HT
    go_wp2
    go_ret
    rw[HE1.out,HRc.out,HM2.out]
    exact⟨rfl,HP.out⟩
  ·have HP:=yQ (cQ.same HH.out (HB0.out.trans (hb1.mono HB0.out.size)))
   have g0:((er:Int) != 0)=true:=by rw[bne_iff_ne];omega
   have e0:Sc.may s f pl=false:=by
    rw[HM.out,decide_eq_false (by rw[<-HEr.out];exact hz)]
    simp
   have HE1:Hid (nx=s):=by show _=_;rw[HNx.out,e0];rfl
   have HM0:=yQ e0
   clear hb1 HE hz HNx HM e0 HEr
   go_wp2
   go_ret
   rw[HE1.out,HRc.out,HM0.out]
   exact⟨rfl,HP.out⟩
 ·have hlf:Fr.within Fr.S pl=false:=by simpa using hlg
  have hla:[pl].all (Fr.within Fr.S)=false:=by simp[hlf]
  rw[hla] at HLg
  have HP:=yQ (cQ.same HH.out HB0.out)
  have e0:Sc.may s f pl=false:=by rw[HM.out,hlf];rfl
  have HE1:Hid (nx=s):=by show _=_;rw[HNx.out,e0];rfl
  have HM0:=yQ e0
  clear hla hlf hlg HNx HM e0
  go_enter Tryz.func33,Tryz.ntmps33
  go_wp2_with fail
  rw[HW0.out]
  refine HLg.out.mono ?_
  rintro e w' ⟨rfl,hw'⟩
  rw[hw']
  clear hw' w' HLg
  go_wp2
  go_ret
  rw[HE1.out,HRc.out,HM0.out]
  exact⟨rfl,HP.out⟩
end
end
section
open Go.RowKit Go.Maps
structure WhI(w wr:World)(B g x k:Nat)(v:Value)(s:Dv.St)(G:Nat->Prop)(j:Nat)(X:Sc.Pos):Prop where
 dev:aN wr B g v { s with told:=s.told+X.read } x k
 walk:∃v' g',av wr w.1.size (w.1.size+1) w.1.size j v' g' X.wk G
 aside:Aside (fun i=>i=g) w wr
 goes:Sc.goes s.b j=some X
section
variable {w:World} {B g x k:Nat} {v:Value} {s:Dv.St} {G:Nat->Prop}
theorem av.far{w1:World}{B a M n:Nat}{v:Value}{g:Int->Option Value}{s:Wk}{G:Nat->Prop}(h:av w1 B a M n v g s G){i:Nat}(hi:fU a M v i):B<=i:=by
 rcases hi with hi | hi | hi
 ·rw[hi];exact h.base.1
 ·rw[hi];exact h.base.2
 ·exact(h.ents.lt i hi).1
theorem WhI.after{w1 w2:World}{n:Nat}{Y:Dv.St}{sw:Wk}{v1:Value}{g1:Int->Option Value}(hd:aN w1 B g v Y x k)(hw:av w1 w.1.size (w.1.size+1) w.1.size n v1 g1 sw G)(ha:Aside (fun i=>i=g) w w1)(ha2:Aside (fU (w.1.size+1) w.1.size v1) w1 w2)(hG:∀i,i=g∨v.ownBlock=some i->G i)(hg:g<w.1.size):
  aN w2 B g v Y x k∧Aside (fun i=>i=g) w w2:=by
 refine⟨hd.aside ha2 (fun hc=>?_) (fun i hi hc=>?_),ha.trans ha2 (fun i hi hc=>?_)⟩
 ·have:=hw.far hc;omega
 ·have h3:=hw.off i (hG i (.inr hi))
  rcases hc with hc | hc | hc
  ·exact h3.1 hc
  ·exact h3.2.1 hc
  ·exact h3.2.2 hc
 ·have:=hw.far hc;omega
theorem wB(h:aN w B g v s x k)(hd:s.down=false)(hl:s.b.length<=2097152)(ht:s.told<=1000000000000)(hv:Hv w)(hB:2<B)(hBw:B<=w.1.size)(hG:∀i,i=g∨v.ownBlock=some i->G i)(hGl:∀i,G i->i<w.1.size):
  Calls Tryz.prog 14 #[.pointer (some ⟨g,0,none⟩)] w fun e w'=>∃j X er v' g',Sc.goes s.b j=some X∧Sc.step s.b X=.error er∧e=.returned (.tuple #[.pointer (some ⟨w.1.size+1,0,none⟩),.int .i64 (X.at_:Nat),.int .i64 (er:Nat)])∧av w' w.1.size (w.1.size+1) w.1.size (j+1) v' g' X.wk G∧aN w' B g v { s with told:=s.told+X.read+Sc.reads s.b X.at_ } x k∧Aside (fun i=>i=g) w w':=by
 have HU:=yQ (kUp h)
 rw[hd] at HU
 have HN:=yQ (wG w G hGl)
 have HH:=yQ h
 have HHv:=yQ hv
 have HG:=yQ hG
 have HGl:=yQ hGl
 have hgl:=h.lt
 have hbase:=h.base
 have HD:=yQ hd
 clear h hv hG hGl hd
 go_enter Tryz.func14,Tryz.ntmps14
 go_wp2_with fail
 refine HU.out.mono ?_
 rintro e w' ⟨rfl,hw'⟩
 rw[hw']
 clear hw' w' HU
 go_wp2_with fail
 refine HN.out.mono ?_
 rintro e w1 ⟨rfl,hk1,hb1,hs1⟩
 have HI1:Hid (WhI w w1 B g x k v s G 0 Sc.begin_):=⟨HH.out.below hb1,⟨_,_,hk1⟩,ag hb1 _,rfl⟩
 clear hk1 hb1 hs1 HN HH
 go_wp2_with fail
 go_loopw [6] (fun v6 wr=>∃j X,v6=.int .i64 (X.at_:Nat)∧Hid (WhI w wr B g x k v s G j X)) (fun v6 _=>s.b.length-(intOf v6).toNat)
 case atStart=>exact⟨0,Sc.begin_,rfl,HI1⟩
 case round=>
  obtain⟨j,X,rfl,HI⟩:=hrel
  obtain⟨hgd,hat,h8,hrd⟩:=Sc.goes_good HI.out.goes
  obtain⟨v',g',hwk⟩:=HI.out.walk
  have hA:=kAt HI.out.dev HD.out hl (by show s.told+X.read+s.b.length<=_;omega) (HHv.out.on (HI.out.aside.below hBw (fun i hi hc=>by omega)) hB) hB (X.at_:Nat)
  obtain⟨A,hAA⟩:∃A,A=X.at_:=⟨_,rfl⟩
  have HSt:Hid (Sc.step s.b X=match Sc.at_ s.b (X.at_:Nat) with
   |.error e=>.error e
   |.ok (f,n)=>if Sc.may X.wk f (X.at_:Nat)=true then .ok ⟨n,Sc.take X.wk f (X.at_:Nat),X.read+Sc.reads s.b (X.at_:Nat)⟩ else .error 143):=rfl
  have HOk:Hid (∀f n,Sc.at_ s.b (X.at_:Nat)=.ok (f,n)->f.wf∧n<=s.b.length∧X.at_<n):=fun f n he=>by
   obtain⟨a1,a2,a3,a4,a5,a6,a7⟩:=Sc.at_ok he
   exact⟨a4,a6,by rw[a5];omega⟩
  have HNe:Hid (∀er,Sc.at_ s.b (X.at_:Nat)=.error er->er≠0):=fun er he=>pH he
  obtain⟨r,hr⟩:∃r,r=Sc.at_ s.b (X.at_:Nat):=⟨_,rfl⟩
  rw[<-hr] at HSt HOk HNe
  have hA2:Calls Tryz.prog 15 #[.pointer (some ⟨g,0,none⟩),.int .i64 (X.at_:Nat)] wr fun e w'=>AtA r wr e w'∧aN w' B g v { s with told:=s.told+X.read+Sc.reads s.b (X.at_:Nat) } x k∧Aside (fun k=>k=g) wr w':=by rw[hr];exact hA
  have HA:=yQ hA2
  have HWk:=yQ hwk
  have hatI:(X.at_:Int)<=2097152:=by omega
  clear hA hA2 hr hwk hgd hAA A
  go_wp2_with fail
  refine HA.out.mono ?_
  rintro e w2 ⟨hans,hdv,has⟩
  have hw2:av w2 w.1.size (w.1.size+1) w.1.size j v' g' X.wk G:=HWk.out.aside (has.mono fun i _ hi=>HG.out i (.inl hi)) (fun i hi=>.inl hi) (fun i hi=>Nat.lt_of_lt_of_le (HWk.out.low i hi) has.size)
  have haw:Aside (fun i=>i=g) w w2:=HI.out.aside.trans has (fun _ _ h=>h)
  have HGo:=yQ HI.out.goes
  cases r with
  |error er=>
   replace hans:e=.returned (.tuple #[.agg #[.int .i64 0,.int .i64 0,.slice none 0 0,.int .i64 0,.int .i64 0,.int .i64 0,.slice none 0 0,.int .i64 0,.int .i64 0,.int .i64 0,.slice none 0 0],.int .i64 0,.int .i64 (er:Nat)]):=hans
   subst hans
   have hne:=HNe.out er rfl
   have g0:((er:Int)==0)=false:=by rw[beq_eq_false_iff_ne];omega
   have g1:((er:Int) != 0)=true:=by rw[bne_iff_ne];omega
   have HE:Hid (Sc.step s.b X=.error er):=HSt.out
   have HW2:=yQ hw2
   have HDv:=yQ hdv
   have HAw:=yQ haw
   clear hw2 hdv haw has hne HNe HOk HSt HA HWk HI
   go_wp2
   go_ret3
   have hbo:∀o,Below w2.1.size w2 (w2.alloc o):=fun o=>yZ.alloc yX o
   exact⟨j,X,er,v',g',HGo.out,HE.out,rfl,(HW2.out.on (hbo _)).more (Nat.le_succ j),HDv.out.below (hbo _),HAw.out.alloc _⟩
  |ok y=>
   obtain⟨f,m⟩:=y
   obtain⟨u,rfl,hfo⟩:∃u,e=.returned (.tuple #[.agg u,.int .i64 (m:Nat),.int .i64 0])∧fD w2 wr.1.size u f:=hans
   obtain⟨hwf,hml,hmx⟩:=HOk.out f m rfl
   have hfl:=hfo.lies
   obtain⟨sp,sc,bp,bc,ep,ec,hu,-⟩:=hfo.out
   unfold aI at hu
   subst hu
   obtain⟨b0,hb0⟩:∃x,x=f.kind:=⟨_,rfl⟩
   obtain⟨b1,hb1⟩:∃x,x=f.number:=⟨_,rfl⟩
   obtain⟨b2,hbb2⟩:∃x,x=f.cols.length:=⟨_,rfl⟩
   obtain⟨b3,hb3⟩:∃x,x=f.seq:=⟨_,rfl⟩
   obtain⟨b4,hb4⟩:∃x,x=f.first:=⟨_,rfl⟩
   obtain⟨b5,hb5⟩:∃x,x=f.rows:=⟨_,rfl⟩
   obtain⟨b6,hb6⟩:∃x,x=f.block.length:=⟨_,rfl⟩
   obtain⟨b7,hb7⟩:∃x,x=f.index.at_:=⟨_,rfl⟩
   obtain⟨b8,hb8⟩:∃x,x=f.index.frames:=⟨_,rfl⟩
   obtain⟨b9,hb9⟩:∃x,x=f.index.rows:=⟨_,rfl⟩
   obtain⟨b10,hb10⟩:∃x,x=f.index.entries.length:=⟨_,rfl⟩
   rw[<-hb0,<-hb1,<-hbb2,<-hb3,<-hb4,<-hb5,<-hb6,<-hb7,<-hb8,<-hb9,<-hb10] at hfl ⊢
   obtain⟨w3,hw3⟩:∃w3,w3=w2.alloc (.cells #[.int .i64 b0,.int .i64 b1,.slice sp b2 sc,.int .i64 b3,.int .i64 b4,.int .i64 b5,.slice bp b6 bc,.int .i64 b7,.int .i64 b8,.int .i64 b9,.slice ep b10 ec] 36):=⟨_,rfl⟩
   have hb23:Below w2.1.size w2 w3:=by rw[hw3];exact yY
   have HW3:Hid (w2.alloc (.cells #[.int .i64 b0,.int .i64 b1,.slice sp b2 sc,.int .i64 b3,.int .i64 b4,.int .i64 b5,.slice bp b6 bc,.int .i64 b7,.int .i64 b8,.int .i64 b9,.slice ep b10 ec] 36)=w3):=hw3.symm
   have hk3:=hw2.on hb23
   have hv3:Hv w3:=HHv.out.on ((haw.below hBw (fun i hi hc=>by omega)).trans (hb23.mono (by have:=haw.size;omega))) hB
   have HNx:=yQ (xN hk3 f hwf _ (hfl.on hb23) (X.at_:Nat) hv3 (by omega) (by have:=haw.size;have:=hb23.size;omega))
   have HK3:=yQ hk3
   have HD3:=yQ (hdv.below hb23)
   have HA3:Hid (Aside (fun i=>i=g) w w3):=haw.trans (ag hb23 (fun i=>i=g)) (fun _ _ h=>h)
   obtain⟨mb,hmb⟩:∃mb,mb=Sc.may X.wk f (X.at_:Nat):=⟨_,rfl⟩
   rw[<-hmb] at HNx
   have HSt2:Hid (Sc.step s.b X=if mb=true then .ok ⟨m,Sc.take X.wk f (X.at_:Nat),X.read+Sc.reads s.b (X.at_:Nat)⟩ else .error 143):=by rw[hmb];exact HSt.out
   have HTk:Hid (Sc.next X.wk f (X.at_:Nat)=if mb=true then Sc.take X.wk f (X.at_:Nat) else X.wk):=by rw[hmb];exact rfl
   have hmI:(m:Int)<=2097152:=by omega
   clear hfo hfl hw2 hdv haw has hk3 hv3 hb23 hw3 hmb HSt HNe HOk HA HWk HI hb0 hb1 hbb2 hb3 hb4 hb5 hb6 hb7 hb8 hb9 hb10 hwf
   go_wp2_with fail
   rw[HW3.out]
   refine HNx.out.mono ?_
   rintro e w4 ⟨rfl,v4,g4,hk4,ha4,hv4⟩
   obtain⟨hd4,haw4⟩:=WhI.after HD3.out HK3.out HA3.out ha4 HG.out hgl
   have HK4:=yQ hk4
   have HD4:=yQ hd4
   have HA4:=yQ haw4
   clear hk4 ha4 hv4 hd4 haw4 HNx HK3 HD3 HA3 HW3
   cases mb with
   |false=>
    have HE:Hid (Sc.step s.b X=.error 143):=HSt2.out
    have HT2:Hid (Sc.next X.wk f (X.at_:Nat)=X.wk):=HTk.out
    rw[HT2.out] at HK4
    clear HSt2 HTk
    go_wp2
    go_ret3
    exact⟨j,X,143,v4,g4,HGo.out,HE.out,rfl,HK4.out,HD4.out,HA4.out⟩
   |true=>
    have HE:=yQ (Sc.goes_succ HGo.out HSt2.out)
    have HT2:Hid (Sc.next X.wk f (X.at_:Nat)=Sc.take X.wk f (X.at_:Nat)):=HTk.out
    rw[HT2.out] at HK4
    have HI2:Hid (WhI w w4 B g x k v s G (j+1) ⟨m,Sc.take X.wk f (X.at_:Nat),X.read+Sc.reads s.b (X.at_:Nat)⟩):=⟨by rw[<-Nat.add_assoc];exact HD4.out,⟨_,_,HK4.out⟩,HA4.out,HE.out⟩
    clear HSt2 HTk HK4 HD4 HA4 HE HT2
    go_wp2
    go_roundw
    case rel=>exact⟨j+1,_,rfl,HI2⟩
    case measure=>simp[intOf];omega
end
end
end Go.Proofs.YtdgacombdcajmaaGreatDoor
