import Derived.Test.YtceomhodhmcknaaGreatDoorA5
set_option maxRecDepth 100000
set_option maxHeartbeats 8000000
namespace Go.Proofs.YtceomhodhmcknaaGreatDoor
variable{B Bw M a g n0 p r:Nat}{w w' w0:World}{b:L8}{v:Value}{xs:List Tx}
section
open Go.RowKit
structure RdL(w0 w:World)(B Bw g r a M n0:Nat)(v un:Value)(b:L8)(tr:List V->List V)(ts:List Tl)(xs:List Tx)(G R:Nat->Prop)(p:Nat):Prop where
 out:∃j X lq lc,Rdg w0 w B Bw g r a M v un (.slice lq xs.length lc) b (n0+2202*j) G j X∧Rd.Inv tr b j X (ts++xs.map Tx.t)∧TlL w lq xs∧xs.length<=lc∧(∀bb o,lq=some ⟨bb,o,none⟩->xs≠[]->R bb)∧p<=X.at_
 rows:TlS (fun i=>¬R i) w xs
 sub:∀i,R i->G i∧w0.1.size<=i
def RdD(w0 w:World)(B g r a M n0:Nat)(v un:Value)(b:L8)(tr:List V->List V)(ts:List Tl)(er:Nat):Prop:=∃j X,Rd.Inv tr b j X ts∧Rd.End b X er∧er≠0∧RdE w0 w B g r a M v un (.slice none 0 0) b (n0+2202*(j+1)) er
structure uw(w w':World)(g r:Nat)(G R G' R':Nat->Prop):Prop where
 asd:Aside (rF g r G) w w'
 g:∀i,G i->G' i
 r:∀i,R i->R' i
 new:∀i,R' i->R i∨w.1.size<=i
theorem TlL.aside{q:OA}{F:Nat->Prop}(h:TlL w q xs)(ha:Aside F w w')(hq:∀bb o,q=some ⟨bb,o,none⟩->xs≠[]->¬F bb):TlL w' q xs:=fun k hk=>by
 obtain⟨bb,o,h1,h2,h3⟩:=h k hk
 exact⟨bb,o,h1,Nat.lt_of_lt_of_le h2 ha.size,fun m hm=>(ha.cell (p:=⟨bb,o+k*4+m,none⟩) h2 (hq bb o h1 (fun hc=>by rw[hc] at hk;simp at hk))).trans (h3 m hm)⟩
section
variable {w0 w:World} {B Bw g r a M n j er:Nat} {v un lv lv':Value} {b:L8} {G:Nat->Prop} {X:Sc.Pos}
theorem RdE.put(h:RdE w0 w B g r a M v un lv b n er)(hc:RdC w0 B g r a M v b)(er':Nat):RdE w0 ((w.setCell ⟨r,5,none⟩ lv').setCell ⟨r,6,none⟩ (.int .i64 (er':Nat))) B g r a M v un lv' b n er':=by
 obtain⟨h1,⟨p,h2⟩,h3⟩:=h.setE hc 5 lv'
 obtain⟨k1,⟨p',k2⟩,k3⟩:=RdE.setE (lv:=lv') ⟨h1,⟨p,h2⟩,h3⟩ hc 6 (.int .i64 (er':Nat))
 exact⟨k1,⟨p',k2⟩,k3⟩
theorem Rdg.put(h:Rdg w0 w B Bw g r a M v un lv b n G j X)(hc:RdC w0 B g r a M v b)(lv':Value):Rdg w0 (w.setCell ⟨r,5,none⟩ lv') B Bw g r a M v un lv' b n G j X:=by
 obtain⟨h1,h2,h3,h4⟩:=h.setE hc 5 lv'
 exact⟨h1,h2,h3,h.inG,h4⟩
theorem Rdg.put6(h:Rdg w0 w B Bw g r a M v un lv b n G j X)(hc:RdC w0 B g r a M v b):Rdg w0 (w.setCell ⟨r,6,none⟩ (.int .i64 0)) B Bw g r a M v un lv b n G j X:=by
 obtain⟨h1,h2,h3,h4⟩:=h.setE hc 6 (.int .i64 0)
 exact⟨h1,h2,h3,h.inG,h4⟩
end
def ei(bb o c:Nat):OA:=if c=1 then some ⟨bb,o,none⟩ else some ⟨bb,o+4,none⟩
theorem pf(bb o n c:Nat)(w:World):(Instr.slice 31 (.slice (some ⟨bb,o,none⟩) (n+1) c) (some (.int .i64 1)) none none).run Tryz.prog w=.ok (.slice (ei bb o c) n (c-1)) w:=by
 have hs:(sizeOf (Tryz.prog.elem 31)).run Tryz.prog w=.ok 4 w:=by kernel_rfl
 rw[run_slice_l w 31 _ (n+1) c (by kernel_rfl) .i64 1 (by omega) (by omega),hs]
 unfold ei
 by_cases hc:c=1
 ·simp[sliced,hc,Result.andThen]
 ·simp[sliced,hc,Result.andThen,Lib.add_plain]
theorem eZ(w:World)(g:Nat)(c0 c1 c2 c3:Value):Aside (fun i=>i=g) w ((((w.setCell ⟨g,0,none⟩ c0).setCell ⟨g,1,none⟩ c1).setCell ⟨g,2,none⟩ c2).setCell ⟨g,3,none⟩ c3):=(((ai w g 0 c0).trans (ai _ g 1 c1) (fun _ _ h=>h)).trans (ai _ g 2 c2) (fun _ _ h=>h)).trans (ai _ g 3 c3) (fun _ _ h=>h)
theorem eY{T:TypeId}{d0 d1 d2 d3:Value}(h:w.1[g]?=some (.cells #[d0,d1,d2,d3] T (0,0)))(c0 c1 c2 c3:Value):((((w.setCell ⟨g,0,none⟩ c0).setCell ⟨g,1,none⟩ c1).setCell ⟨g,2,none⟩ c2).setCell ⟨g,3,none⟩ c3).1[g]?=some (.cells #[c0,c1,c2,c3] T (0,0)):=al (al (al (al h 0 c0) 1 c1) 2 c2) 3 c3
theorem TlL.tail{bb o c:Nat}{x:Tx}(h:TlL w (some ⟨bb,o,none⟩) (x::xs))(hc:xs.length+1<=c):TlL w (ei bb o c) xs:=fun k hk=>by
 obtain⟨b',o',h1,h2,h3⟩:=h (k+1) (by simp;omega)
 injection h1 with h1
 injection h1 with h1 h4
 subst h1 h4
 refine⟨bb,o+4,by unfold ei;rw[if_neg (by omega)],h2,fun m hm=>?_⟩
 have:=h3 m hm
 rw[show o+(k+1)*4+m=o+4+k*4+m by omega] at this
 simpa using this
def mQ(r:Nat)(W:World):Int:=intOf ((W.cell? ⟨r,6,none⟩).getD (.bool false))
def NxS(w0 w:World)(B Bw g r a M n0:Nat)(v un:Value)(b:L8)(tr:List V->List V)(ts:List Tl)(G R:Nat->Prop)(W:World):Prop :=
 ∃G' R',uw w W g r G R G' R'∧((∃xs p,RdL w0 W B Bw g r a M n0 v un b tr ts xs G' R' p)∨∃er,RdD w0 W B g r a M n0 v un b tr ts er)
def NxA(w0 w:World)(B Bw g r a M n0:Nat)(v un:Value)(b:L8)(tr:List V->List V)(ts:List Tl)(G R:Nat->Prop)(e:Ending)(W:World):Prop :=
 ∃G' R',uw w W g r G R G' R'∧((∃x xs p,e=.returned (.tuple #[.agg #[.slice x.q x.t.row.length x.d,.int .i64 x.t.at_,.int .i64 x.t.num,.int .i64 0],.bool true])∧RdL w0 W B Bw g r a M n0 v un b tr (ts++[x.t]) xs G' R' p∧TlS (fun i=>¬R' i) W [x])∨∃er,e=.returned (.tuple #[.agg #[.slice none 0 0,.int .i64 0,.int .i64 0,.int .i64 0],.bool false])∧RdD w0 W B g r a M n0 v un b tr ts er)
theorem ua{un:Value}{tr:List V->List V}{ts:List Tl}{G R:Nat->Prop}(hRd:gu tr w0 g r a M un b)(hc:RdC w0 B g r a M v b)(h:RdL w0 w B Bw g r a M n0 v un b tr ts xs G R p)(hn:n0<=10000000000)(hBw:Bw<=w0.1.size):
  Calls Tryz.prog 22 #[.pointer (some ⟨r,0,none⟩)] w (NxA w0 w B Bw g r a M n0 v un b tr ts G R):=by
 obtain⟨W1,hW1⟩:∃W1,W1=w.alloc (.cells #[.slice none 0 0,.int .i64 0,.int .i64 0,.int .i64 0] 38):=⟨_,rfl⟩
 have hb1:Below w.1.size w W1:=by rw[hW1];exact xY
 have hs1:W1.1.size=w.1.size+1:=by rw[hW1];simp
 have HP:Hid (W1.1[w.1.size]?=some (.cells #[.slice none 0 0,.int .i64 0,.int .i64 0,.int .i64 0] 38 (0,0))):=by rw[hW1];exact ap w _
 have HS:Hid (NxS w0 W1 B Bw g r a M n0 v un b tr ts (fun k=>G k∨k=w.1.size) R W1):=by
  refine⟨_,R,⟨Aside.refl _ _,fun _ h=>h,fun _ h=>h,fun _ h=>.inl h⟩,.inl ⟨xs,p,?_⟩⟩
  obtain⟨j,X,lq,lc,h1,h2,h3,h4,h5,h6⟩:=h.out
  exact⟨⟨j,X,lq,lc,h1.grow hb1 (fun k hk=>hk.imp id (fun h=>by omega)) (fun k hk=>.inl hk),h2,h3.aside (ag hb1 (fun _=>False)) (fun _ _ _ _ h=>h),h4,h5,h6⟩,h.rows.on hb1,fun i hi=>⟨.inl (h.sub i hi).1,(h.sub i hi).2⟩⟩
 have HZ:Hid (w0.1.size<=w.1.size):=by
  obtain⟨j,X,lq,lc,h1,-⟩:=h.out
  exact h1.asd.size
 have HRl:Hid (∀i,R i->i<w.1.size):=fun i hi=>by
  obtain⟨j,X,lq,lc,h1,-⟩:=h.out
  obtain⟨v',g',hk,-⟩:=h1.walk
  exact hk.low i (h.sub i hi).1
 have HC:=xQ hc
 have HRd:=xQ hRd
 have HW1:=xQ hW1
 have HB1:=xQ hb1
 clear hc hRd h hW1 hb1
 go_enter Tryz.func22,Tryz.ntmps22
 go_wp2_with fail
 rw[<-HW1.out]
 go_loopw [] (fun wr=>Hid (NxS w0 W1 B Bw g r a M n0 v un b tr ts (fun k=>G k∨k=w.1.size) R wr)) (fun wr=>if mQ r wr=0 then b.length+1-rAt r wr else 0)
 case atStart=>exact HS
 case round=>
  have HL:=hrel
  clear hrel HS
  obtain⟨G',R',hwd,⟨xs,p,hl⟩ | ⟨er,hd⟩⟩:=HL.out
  ·obtain⟨j,X,lq,lc,h1,h2,h3,h4,h5,h6⟩:=hl.out
   have c5:wr.cell? ⟨r,5,none⟩=some (.slice lq xs.length lc):=aa h1.blk 5
   have c6:wr.cell? ⟨r,6,none⟩=some (.int .i64 0):=aa h1.blk 6
   by_cases hx:xs=[]
   ·subst hx
    have h2':Rd.Inv tr b j X ts:=by simpa using h2
    have HN:=xQ (mZ HRd.out HC.out h1 h2' hn hBw)
    have HAt:Hid (rAt r wr=X.at_∧X.at_<=b.length):=⟨by
     unfold rAt
     rw[show wr.cell? ⟨r,1,none⟩=some (.int .i64 (X.at_:Nat)) from aa h1.blk 1]
     simp[intOf],(Sc.goes_good h2.goes).2.1⟩
    have HE0:Hid (mQ r wr=0):=by
     show _=_
     unfold mQ
     rw[c6]
     rfl
    have HWd:=xQ hwd
    have HH:=xQ h1
    have HSub:=xQ hl.sub
    have hl0:([]:List Tx).length=0:=rfl
    rw[hl0] at c5
    clear hwd hl h1 h2 h2' h3 h4 h5 h6 hl0
    go_wp2_with fail
    refine HN.out.mono ?_
    rintro e w2 ⟨ha2,j2,X2,⟨er,q1,q2,q3,rfl,q5⟩ | ⟨ys,q,c,lo,q1,q2,rfl,q4,q5,q6,q7,q8,q9,q10⟩⟩
    ·obtain⟨pp,hb⟩:=q5.blk
     have d5:w2.cell? ⟨r,5,none⟩=some (.slice lq 0 lc):=aa hb 5
     have d6:w2.cell? ⟨r,6,none⟩=some (.int .i64 0):=aa hb 6
     have df:=ac hb
     have hs3:Aside (fun i=>i=r) w2 ((w2.setCell ⟨r,5,none⟩ (.slice none 0 0)).setCell ⟨r,6,none⟩ (.int .i64 (er:Nat))):=(ai w2 r 5 _).trans (ai _ r 6 _) (fun _ _ h=>h)
     have HF:Hid (NxS w0 W1 B Bw g r a M n0 v un b tr ts (fun k=>G k∨k=w.1.size) R ((w2.setCell ⟨r,5,none⟩ (.slice none 0 0)).setCell ⟨r,6,none⟩ (.int .i64 (er:Nat)))):=⟨G',R',⟨HWd.out.asd.trans (ha2.trans hs3 (fun i _ h=>.inr (.inl h))) (fun i _ h=>h.imp id (fun h=>h.imp id (fun h hg=>h (HWd.out.g i hg)))),HWd.out.g,HWd.out.r,HWd.out.new⟩,.inr ⟨er,j2,X2,q1,q2,q3,q5.put HC.out er⟩⟩
     have HM:Hid (mQ r ((w2.setCell ⟨r,5,none⟩ (.slice none 0 0)).setCell ⟨r,6,none⟩ (.int .i64 (er:Nat)))≠0):=by
      have hb3:=al (al hb 5 (.slice none 0 0)) 6 (.int .i64 (er:Nat))
      show _≠_
      unfold mQ
      rw[show((w2.setCell ⟨r,5,none⟩ (.slice none 0 0)).setCell ⟨r,6,none⟩ (.int .i64 (er:Nat))).cell? ⟨r,6,none⟩=some (.int .i64 (er:Nat)) from aa hb3 6]
      simpa[intOf] using q3
     clear q1 q2 q3 q5 ha2 hs3 HN hb
     go_wp2
     go_roundw
     case rel=>exact HF
     case measure=>rw[if_pos HE0.out,if_neg HM.out,HAt.out.1];have:=HAt.out.2;omega
    ·have hb:=q10.blk
     have d5:w2.cell? ⟨r,5,none⟩=some (.slice lq 0 lc):=aa hb 5
     have d6:w2.cell? ⟨r,6,none⟩=some (.int .i64 0):=aa hb 6
     have df:=ac hb
     have hs3:Aside (fun i=>i=r) w2 ((w2.setCell ⟨r,5,none⟩ (.slice q ys.length c)).setCell ⟨r,6,none⟩ (.int .i64 0)):=(ai w2 r 5 _).trans (ai _ r 6 _) (fun _ _ h=>h)
     have hrw:=(HC.out.far r (.inr (.inl rfl))).2
     have hz:=HZ.out
     have hw1:=HB1.out.size
     have hwr:=HWd.out.asd.size
     have hR3:=(q10.put HC.out (.slice q ys.length c)).put6 HC.out
     have HF:Hid (NxS w0 W1 B Bw g r a M n0 v un b tr ts (fun k=>G k∨k=w.1.size) R ((w2.setCell ⟨r,5,none⟩ (.slice q ys.length c)).setCell ⟨r,6,none⟩ (.int .i64 0))):=by
      refine⟨_,fun k=>R' k∨(lo<=k∧k<w2.1.size),⟨HWd.out.asd.trans (ha2.trans hs3 (fun i _ h=>.inr (.inl h))) (fun i _ h=>h.imp id (fun h=>h.imp id (fun h hg=>h (HWd.out.g i hg)))),fun i h=>.inl (HWd.out.g i h),fun i h=>.inl (HWd.out.r i h),fun i h=>h.elim (HWd.out.new i) (fun h=>.inr (by omega))⟩,.inl ⟨ys,X2.at_,⟨⟨j2,X2,q,c,hR3,q1,?_,q4,?_,xX⟩,?_,?_⟩⟩⟩
      ·exact q7.aside hs3 (fun bb o h _ hc=>by have:=q8 bb o h;omega)
      ·intro bb o h hne
       obtain⟨bb',o',e1,e2,-⟩:=q7 0 (List.length_pos_iff.2 hne)
       rw[h] at e1
       injection e1 with e1
       injection e1 with e1 _
       exact .inr ⟨q8 bb o h,by omega⟩
      ·refine q9.step (hs3.mono (fun i _ h=>by omega)) (fun k hk=>?_)
       by_cases hk2:k<lo
       ·exact .inl hk2
       ·exact .inr (Nat.le_of_not_lt (fun hc=>hk (.inr ⟨by omega,hc⟩)))
      ·intro i hi
       rcases hi with hi | hi
       ·exact⟨.inl (HSub.out i hi).1,(HSub.out i hi).2⟩
       ·exact⟨.inr hi,by omega⟩
     have HM:Hid (mQ r ((w2.setCell ⟨r,5,none⟩ (.slice q ys.length c)).setCell ⟨r,6,none⟩ (.int .i64 0))=0∧rAt r ((w2.setCell ⟨r,5,none⟩ (.slice q ys.length c)).setCell ⟨r,6,none⟩ (.int .i64 0))=X2.at_∧X.at_<X2.at_):=by
      refine⟨?_,?_,q2⟩
      ·unfold mQ
       rw[show((w2.setCell ⟨r,5,none⟩ (.slice q ys.length c)).setCell ⟨r,6,none⟩ (.int .i64 0)).cell? ⟨r,6,none⟩=some (.int .i64 0) from aa hR3.blk 6]
       rfl
      ·unfold rAt
       rw[show((w2.setCell ⟨r,5,none⟩ (.slice q ys.length c)).setCell ⟨r,6,none⟩ (.int .i64 0)).cell? ⟨r,1,none⟩=some (.int .i64 (X2.at_:Nat)) from aa hR3.blk 1]
       simp[intOf]
     clear q1 q2 q4 q5 q6 q7 q8 q9 q10 ha2 hs3 HN hb hR3
     go_wp2
     go_roundw
     case rel=>exact HF
     case measure=>rw[if_pos HE0.out,if_pos HM.out.1,HM.out.2.1,HAt.out.1];have:=HAt.out.2;have:=HM.out.2.2;omega
   ·obtain⟨x,xs',rfl⟩:∃x xs',xs=x::xs':=by
     cases xs with
     |nil=>exact absurd rfl hx
     |cons x xs'=>exact⟨x,xs',rfl⟩
    obtain⟨bb,o,hq,hbb,hcl⟩:=h3 0 (by simp)
    subst hq
    have x0:wr.cell? ⟨bb,o,none⟩=some (.slice x.q x.t.row.length x.d):=hcl 0 (by omega)
    have x1:wr.cell? ⟨bb,o+1,none⟩=some (.int .i64 x.t.at_):=hcl 1 (by omega)
    have x2:wr.cell? ⟨bb,o+2,none⟩=some (.int .i64 x.t.num):=hcl 2 (by omega)
    have x3:wr.cell? ⟨bb,o+3,none⟩=some (.int .i64 0):=hcl 3 (by omega)
    obtain⟨nl,hnl⟩:∃nl,nl=xs'.length:=⟨_,rfl⟩
    rw[show(x::xs').length=nl+1 by rw[hnl];rfl] at c5 h4
    have g1:(((nl+1:Nat):Int)==0)=false:=bv (by omega)
    have g2:(0:Int)<((nl+1:Nat):Int):=by omega
    have hrb:=h1.blk
    have hrf:=ac hrb
    have hrp:=(hwd.asd.block _ (by omega) (fun hc=>by have:=(HC.out.far r (.inr (.inl rfl))).2;have:=(HC.out.far g (.inl rfl)).2;have:=HZ.out;rcases hc with hc | hc | hc;omega;omega;exact hc (.inr rfl))).trans HP.out
    have d5:∀ob,(wr.alloc ob).cell? ⟨r,5,none⟩=some (.slice (some ⟨bb,o,none⟩) (nl+1) lc):=fun ob=>ae (xZ.alloc xX ob) c5
    have hsl:∀W,(Instr.slice 31 (.slice (some ⟨bb,o,none⟩) (nl+1) lc) (some (.int .i64 1)) none none).run Tryz.prog W=.ok (.slice (ei bb o lc) nl (lc-1)) W:=fun W=>pf bb o nl lc W
    have e0:∀ob,(wr.alloc ob).cell? ⟨w.1.size,0,none⟩=some (.slice none 0 0):=fun ob=>ae (xZ.alloc xX ob) (aa hrp 0)
    have e1:∀ob,(wr.alloc ob).cell? ⟨w.1.size,1,none⟩=some (.int .i64 0):=fun ob=>ae (xZ.alloc xX ob) (aa hrp 1)
    have e2:∀ob,(wr.alloc ob).cell? ⟨w.1.size,2,none⟩=some (.int .i64 0):=fun ob=>ae (xZ.alloc xX ob) (aa hrp 2)
    have e3:∀ob,(wr.alloc ob).cell? ⟨w.1.size,3,none⟩=some (.int .i64 0):=fun ob=>ae (xZ.alloc xX ob) (aa hrp 3)
    have hfr:∀ob i,(wr.alloc ob).frozen? ⟨w.1.size,i,none⟩=false:=fun ob i=>ac ((((Below.refl wr.1.size wr).alloc xX ob).block _ (ao hrp)).trans hrp) i
    have hfr2:∀ob i,(wr.alloc ob).frozen? ⟨r,i,none⟩=false:=fun ob i=>ac ((((Below.refl wr.1.size wr).alloc xX ob).block _ (ao hrb)).trans hrb) i
    have hrw:=(HC.out.far r (.inr (.inl rfl))).2
    have hz:=HZ.out
    have hws:=ao hrp
    have n1:¬r=w.1.size:=by omega
    have n2:¬w.1.size=r:=by omega
    have n3:¬r=wr.1.size:=by omega
    have n4:¬wr.1.size=r:=by omega
    have n5:¬w.1.size=wr.1.size:=by omega
    have n6:¬wr.1.size=w.1.size:=by omega
    have HNl:=xQ hnl
    have HQ:=xQ (And.intro h1 (And.intro h2 (And.intro h3 (And.intro h4 (And.intro h5 h6)))))
    have HHl:=xQ hl
    have HWd:=xQ hwd
    have HRp:=xQ hrp
    clear h1 h2 h3 h4 h5 h6 hx HL hnl hcl hwd hl hrp hrb hbb hrf hrw hz hws
    go_wp2
    have hz:=HZ.out
    have hrw:=(HC.out.far r (.inr (.inl rfl))).2
    have ha1:Below wr.1.size wr (wr.alloc (.cells #[.slice x.q x.t.row.length x.d,.int .i64 x.t.at_,.int .i64 x.t.num,.int .i64 0] 38)):=xY
    have ha2:=ai (wr.alloc (.cells #[.slice x.q x.t.row.length x.d,.int .i64 x.t.at_,.int .i64 x.t.num,.int .i64 0] 38)) r 5 (.slice (ei bb o lc) nl (lc-1))
    have ha4:=eZ ((wr.alloc (.cells #[.slice x.q x.t.row.length x.d,.int .i64 x.t.at_,.int .i64 x.t.num,.int .i64 0] 38)).setCell ⟨r,5,none⟩ (.slice (ei bb o lc) nl (lc-1))) w.1.size (.slice x.q x.t.row.length x.d) (.int .i64 x.t.at_) (.int .i64 x.t.num) (.int .i64 0)
    have hall:=((ag ha1 (fun i=>i=r∨i=w.1.size)).trans ha2 (fun _ _ h=>.inl h)).trans ha4 (fun _ _ h=>.inr h)
    have hb4:=(ha2.block w.1.size (Nat.lt_of_lt_of_le (ao HRp.out) ha1.size) n2).trans ((ha1.block _ (ao HRp.out)).trans HRp.out)
    refine bodyPost_ret (aB rfl _ _ w.1.size _ _ _ _ rfl (eY hb4 _ _ _ _) Tryz.underlying38 rfl (by kernel_rfl)) rfl ?_
    obtain⟨q1,q2,q3,q4,q5,q6⟩:=HQ.out
    have hnl:=HNl.out
    have hRne:∀i,R' i->¬(i=r∨i=w.1.size):=fun i hi hc=>by
     have h1:=(HHl.out.sub i hi).2
     rcases HWd.out.new i hi with h2 | h2
     ·have:=HRl.out i h2;omega
     ·omega
    have hR4:=(((q1.on ha1).put HC.out (.slice (ei bb o lc) nl (lc-1))).beside HC.out ha4 hz (HWd.out.g _ (.inr rfl)))
    rw[hnl] at hR4
    refine⟨G',R',⟨?_,fun i h=>HWd.out.g i (.inl h),HWd.out.r,fun i h=>(HWd.out.new i h).imp id (fun h=>by omega)⟩,.inl ⟨x,xs',X.at_,rfl,⟨⟨j,X,ei bb o lc,lc-1,?_,?_,?_,by omega,?_,xX⟩,?_,HHl.out.sub⟩,?_⟩⟩
    ·exact((ag HB1.out _).trans (gW HWd.out.asd (fun k _ hk=>.inl hk)) (fun _ _ h=>h)).trans hall (fun i hi h=>by rcases h with h | h;exact .inr (.inl h);omega)
    ·rw[hnl];exact hR4
    ·simpa using q2
    ·exact(q3.tail (by omega)).aside hall (fun b' o' he hne=>hRne b' (by
      have:b'=bb:=by
       unfold ei at he
       split at he <;> injection he with he <;> injection he with he _ <;> exact he.symm
      rw[this]
      exact q5 bb o rfl (by simp)))
    ·intro b' o' he hne
     have:b'=bb:=by
      unfold ei at he
      split at he <;> injection he with he <;> injection he with he _ <;> exact he.symm
     rw[this]
     exact q5 bb o rfl (by simp)
    ·exact fun y hy=>(HHl.out.rows y (List.mem_cons_of_mem _ hy)).step (hall.mono (fun i _ h hr=>hRne i hr h)) (fun k hk=>.inl hk)
    ·exact fun y hy=>(HHl.out.rows y (by rw[List.mem_singleton.1 hy];exact List.mem_cons_self)).step (hall.mono (fun i _ h hr=>hRne i hr h)) (fun k hk=>.inl hk)
  ·obtain⟨j,X,h1,h2,h3,h4⟩:=hd
   obtain⟨pp,hrb⟩:=h4.blk
   have c5:wr.cell? ⟨r,5,none⟩=some (.slice none 0 0):=aa hrb 5
   have c6:wr.cell? ⟨r,6,none⟩=some (.int .i64 (er:Nat)):=aa hrb 6
   have g1:((er:Int)==0)=false:=bv (by omega)
   have hrw:=(HC.out.far r (.inr (.inl rfl))).2
   have hgw:=(HC.out.far g (.inl rfl)).2
   have hz:=HZ.out
   have hrp:=(hwd.asd.block _ (by omega) (fun hc=>by rcases hc with hc | hc | hc;omega;omega;exact hc (.inr rfl))).trans HP.out
   obtain⟨e0,e1,e2,e3⟩:=cQ4 hrp
   have hfr:=ac hrp
   have HRp:=xQ hrp
   have HWd:=xQ hwd
   have HD:=xQ (And.intro h1 (And.intro h2 (And.intro h3 h4)))
   clear hwd h1 h2 h3 h4 hrb HL hrp hrw hgw hz
   go_wp2
   have ha4:=eZ wr w.1.size (.slice none 0 0) (.int .i64 0) (.int .i64 0) (.int .i64 0)
   refine bodyPost_ret (aB rfl _ _ w.1.size _ _ _ _ rfl (eY HRp.out _ _ _ _) Tryz.underlying38 rfl (by kernel_rfl)) rfl ?_
   refine⟨G',R',⟨?_,fun i h=>HWd.out.g i (.inl h),HWd.out.r,fun i h=>(HWd.out.new i h).imp id (fun h=>by omega)⟩,.inr ⟨er,rfl,j,X,HD.out.1,HD.out.2.1,HD.out.2.2.1,HD.out.2.2.2.beside HC.out ha4 HZ.out⟩⟩
   exact((ag HB1.out _).trans (gW HWd.out.asd (fun k _ hk=>.inl hk)) (fun _ _ h=>h)).trans ha4 (fun i hi h=>by omega)
end
section
open Go.RowKit
namespace Rd
theorem rows_few:∀{k:Nat} {x:Sc.Pos},Sc.goes b k=some x->x.wk.rows<=64*(k:Nat)
 |0,x,h=>by
  injection h with h
  subst h
  exact Int.le_refl _
 |k+1,y,h=>by
  obtain⟨z,hz,hs⟩:=Sc.goes_pred h
  obtain⟨f,h1,h2,h3,-⟩:=Sc.step_ok hs
  have h4:=rows_few hz
  rw[h3,take_rows]
  split
  ·next hk=>
   have:=((Sc.err_parts (Sc.may_parts h2).2.1).2.1 hk).2.2.2
   omega
  ·omega
end Rd
theorem vN{er:Nat}{un lv:Value}(hb:w.1[r]?=some (.cells (cQ g p a un lv er) 73 (0,0))):Calls Tryz.prog 10 #[.pointer (some ⟨r,0,none⟩)] w fun e w'=>e=.returned (.int .i64 (if er=140 then 0 else (er:Nat)))∧w'=w:=by
 have c6:w.cell? ⟨r,6,none⟩=some (.int .i64 (er:Nat)):=aa hb 6
 clear hb
 by_cases he:er=140
 ·subst he
  go_enter Tryz.func10,Tryz.ntmps10
  go_wp2
  go_ret
  exact⟨rfl,rfl⟩
 ·have g1:((er:Int)==140)=false:=bv (by omega)
  rw[if_neg he]
  clear he
  go_enter Tryz.func10,Tryz.ntmps10
  go_wp2
  go_ret
  exact⟨rfl,rfl⟩
section
variable {w0 w w':World} {B Bw g r a M n n0 j p:Nat} {v un lv:Value} {b:L8} {tr:List V->List V} {ts:List Tl} {xs:List Tx} {G G' R F:Nat->Prop} {X:Sc.Pos}
theorem Rdg.wide(h:Rdg w0 w B Bw g r a M v un lv b n G j X)(hc:RdC w0 B g r a M v b)(ha:Aside F w w')(hF:∀i,F i->G i∧w0.1.size<=i)(hG:∀k,G' k->G k∨(w.1.size<=k∧k<w'.1.size))(hi:∀k,G k->G' k):Rdg w0 w' B Bw g r a M v un lv b n G' j X:=by
 obtain⟨v',g',h1,h2⟩:=h.walk
 have hr:=(hc.far r (.inr (.inl rfl))).2
 have hg:=(hc.far g (.inl rfl)).2
 exact⟨h.file.aside ha (fun hc=>by have:=(hF _ hc).2;omega) (fun k hk hf=>by have:=(hc.vr k hk).2.2;have:=(hF _ hf).2;omega),(ha.block r (ao h.blk) (fun hc=>by have:=(hF _ hc).2;omega)).trans h.blk,⟨v',g',h1.aside (ha.mono fun i _ hi=>(hF i hi).1) (fun k hk=>(hG k hk).imp id And.left) (fun k hk=>(hG k hk).elim (fun hh=>Nat.lt_of_lt_of_le (h1.low k hh) ha.size) And.right),h2⟩,fun i hi'=>hi i (h.inG i hi'),h.asd.trans ha (fun i hi he=>by have:=(hF i he).2;omega)⟩
theorem RdL.wide(h:RdL w0 w B Bw g r a M n0 v un b tr ts xs G R p)(hc:RdC w0 B g r a M v b)(ha:Aside F w w')(hF:∀i,F i->G i∧w0.1.size<=i)(hR:∀i,F i->¬R i)(hG:∀k,G' k->G k∨(w.1.size<=k∧k<w'.1.size))(hi:∀k,G k->G' k):RdL w0 w' B Bw g r a M n0 v un b tr ts xs G' R p:=by
 obtain⟨j,X,lq,lc,h1,h2,h3,h4,h5,h6⟩:=h.out
 exact⟨⟨j,X,lq,lc,h1.wide hc ha hF hG hi,h2,h3.aside ha (fun bb o hq hne hf=>hR bb hf (h5 bb o hq hne)),h4,h5,h6⟩,h.rows.step (ha.mono fun i _ hf=>hR i hf) (fun k hk=>.inl hk),fun i hi'=>⟨hi i (h.sub i hi').1,(h.sub i hi').2⟩⟩
theorem RdL.low(h:RdL w0 w B Bw g r a M n0 v un b tr ts xs G R p):w0.1.size<=w.1.size∧(∀i,G i->i<w.1.size)∧((ts++xs.map Tx.t).length<=64*b.length):=by
 obtain⟨j,X,lq,lc,h1,h2,-⟩:=h.out
 obtain⟨v',g',hk,-⟩:=h1.walk
 refine⟨h1.asd.size,hk.low,?_⟩
 have h3:=Rd.rows_few h2.goes
 obtain⟨-,h4,h5,-⟩:=Sc.goes_good h2.goes
 have:=h2.len
 omega
end
def tlA(x:Tx):AV:=#[.slice x.q x.t.row.length x.d,.int .i64 x.t.at_,.int .i64 x.t.num,.int .i64 0]
def tl0:AV:=#[.slice none 0 0,.int .i64 0,.int .i64 0,.int .i64 0]
def tl4(q:OA)(n d:Nat)(i m:Int):AV:=#[.slice q n d,.int .i64 i,.int .i64 m,.int .i64 0]
def AlS(w0:World)(B Bw g r a M n0:Nat)(v un vs:Value)(b:L8)(tr:List V->List V)(c:AV)(is:Bool)(xs:List Tx)(W:World):Prop:=match is with
 |true=>∃x ys G R p,c=tlA x∧RdL w0 W B Bw g r a M n0 v un b tr (xs.map Tx.t++[x.t]) ys G R p∧(∀i,vs.ownBlock=some i->G i∧¬R i)∧TlS (fun i=>¬R i) W (xs++[x])
 |false=>c=tl0∧TlS (fun i=>i<w0.1.size) W xs∧∃er,RdD w0 W B g r a M n0 v un b tr (xs.map Tx.t) er
theorem NxA.any{gb:Nat}{un vs:Value}{tr:List V->List V}{G R:Nat->Prop}{e:Ending}(h:NxA w0 w B Bw g r a M n0 v un b tr (xs.map Tx.t) G R e w')(hc:RdC w0 B g r a M v b)(hvs:∀i,vs.ownBlock=some i->(G i∧¬R i)∧i<w.1.size)(hx:TlS (fun i=>¬R i) w xs)(hR:∀i,R i->G i∧w0.1.size<=i)(hz:w0.1.size<=w.1.size)(hgb:(G gb∧¬R gb∧gb<w.1.size∧w0.1.size<=gb)∨w'.1.size<=gb):
  ∃q n d i m is,e=.returned (.tuple #[.agg (tl4 q n d i m),.bool is])∧(∀w'',Aside (fun i=>i=gb) w' w''->AlS w0 B Bw g r a M n0 v un vs b tr (tl4 q n d i m) is xs w'')∧Aside (rF g r G) w w':=by
 have hr:=(hc.far r (.inr (.inl rfl))).2
 have hg:=(hc.far g (.inl rfl)).2
 have hA:∀{F:Nat->Prop},Aside (rF g r G) w w'->(∀k,F k->k<w'.1.size->¬R k)->TlS F w' xs:=fun ha hF=>(hx.step (F':=fun i=>¬R i) (ha.mono fun i _ hf hri=>by
  have:=hR i hri
  rcases hf with hf | hf | hf
  ·omega
  ·omega
  ·exact hf this.1) (fun k hk=>.inl hk)).less hF
 obtain⟨G',R',hwd,⟨x,ys,p,rfl,q2,q3⟩ | ⟨er,rfl,j,X,q1,q2,q3,q4⟩⟩:=h
 ·refine⟨_,_,_,_,_,true,rfl,fun w'' h2=>?_,hwd.asd⟩
  have hgR:gb<w'.1.size->(G' gb∧w0.1.size<=gb)∧¬R' gb:=fun hlt=>by
   rcases hgb with h1 | h1
   ·refine⟨⟨hwd.g _ h1.1,h1.2.2.2⟩,fun hc=>?_⟩
    rcases hwd.new _ hc with h3 | h3
    ·exact h1.2.1 h3
    ·omega
   ·omega
  have h3:Aside (fun i=>i=gb∧gb<w'.1.size) w' w'':=h2.mono fun i hi he=>⟨he,by omega⟩
  refine⟨x,ys,G',R',p,rfl,q2.wide hc h3 (fun i hi=>by rw[hi.1];exact(hgR hi.2).1) (fun i hi=>by rw[hi.1];exact(hgR hi.2).2) (fun k hk=>.inl hk) (fun k hk=>hk),fun i hi=>⟨hwd.g i (hvs i hi).1.1,fun hc=>?_⟩,TlS.step (F:=fun i=>¬R' i) (fun y hy=>?_) (h3.mono fun i _ hi=>by rw[hi.1];exact(hgR hi.2).2) (fun k hk=>.inl hk)⟩
  ·rcases hwd.new i hc with h1 | h1
   ·exact(hvs i hi).1.2 h1
   ·have:=(hvs i hi).2;omega
  ·rcases List.mem_append.1 hy with hy | hy
   ·exact hA hwd.asd (fun k hk _ h=>hk (hwd.r k h)) y hy
   ·exact q3 y hy
 ·refine⟨none,0,0,0,0,false,rfl,fun w'' h2=>⟨rfl,?_,er,j,X,q1,q2,q3,q4.beside hc h2 ?_⟩,hwd.asd⟩
  ·have h3:TlS (fun i=>i<w0.1.size∨i=gb) w' xs:=hA hwd.asd (fun k hk hlt h=>by
    have h4:=(hR k h).2
    rcases hk with hk | hk
    ·omega
    ·subst hk
     rcases hgb with h1 | h1
     ·exact h1.2.1 h
     ·omega)
   exact h3.step (h2.mono fun i _ hi=>.inr hi) (fun k hk=>.inl (.inl hk))
  ·have:=hwd.asd.size
   rcases hgb with h1 | h1
   ·exact h1.2.2.2
   ·omega
def xp:Value->Nat
 |.slice _ n _=>n
 |_=>0
theorem vV{un:Value}{tr:List V->List V}{G:Nat->Prop}(hRd:gu tr w0 g r a M un b)(hc:RdC w0 B g r a M v b)(h:RdL w0 w B Bw g r a M n0 v un b tr [] [] G (fun _=>False) p)(hn:n0<=10000000000)(hBw:Bw<=w0.1.size):
    Calls Tryz.prog 8 #[.pointer (some ⟨r,0,none⟩)] w fun e w'=>∃vs xs er,e=.returned vs∧TlO w' w.1.size vs xs∧TlS (fun i=>i<w0.1.size) w' xs∧RdD w0 w' B g r a M n0 v un b tr (xs.map Tx.t) er:=by
  have HC:=xQ hc
  have HRd:=xQ hRd
  have HN:=xQ (ua hRd hc h hn hBw)
  have HZ:=xQ h.low.1
  have hlen:=hc.len
  clear hc hRd h
  go_enter Tryz.func8,Tryz.ntmps8
  go_wp2_with fail
  refine HN.out.mono ?_
  intro e w2 hans
  obtain⟨q,n,d,i,m,is,rfl,hS,ha2⟩:=NxA.any (gb:=w2.1.size) (xs:=[]) (vs:=.slice none 0 0) hans HC.out (fun i hi=>by cases hi) (fun x hx=>by cases hx) (fun i hi=>hi.elim) HZ.out (.inr xX)
  have hs2:=ha2.size
  have HS:Hid ((w2.alloc (.cells (tl4 q n d i m) 38)).1[w2.1.size]?=some (.cells (tl4 q n d i m) 38 (0,0))∧TlO (w2.alloc (.cells (tl4 q n d i m) 38)) w.1.size (.slice none 0 0) []∧AlS w0 B Bw g r a M n0 v un (.slice none 0 0) b tr (tl4 q n d i m) is [] (w2.alloc (.cells (tl4 q n d i m) 38))∧w.1.size<=(w2.alloc (.cells (tl4 q n d i m) 38)).1.size∧(Value.slice none 0 0).ownBlock≠some w2.1.size):=⟨ap w2 _,oj _ _,hS _ (ag xY _),by simp;omega,by simp[Value.ownBlock]⟩
  unfold tl4 at HS ⊢
  clear hans hS ha2 HN
  go_wp2_with fail
  go_loopw [3,4,5] (fun v3 v4 v5 wr=>∃(gb:Nat) (is:Bool) (q:OA) (n d:Nat) (i m:Int) (xs:List Tx),v4=.pointer (some ⟨gb,0,none⟩)∧v5=.bool is∧Hid (wr.1[gb]?=some (.cells (tl4 q n d i m) 38 (0,0))∧TlO wr w.1.size v3 xs∧AlS w0 B Bw g r a M n0 v un v3 b tr (tl4 q n d i m) is xs wr∧w.1.size<=wr.1.size∧v3.ownBlock≠some gb)) (fun v3 _ _ _=>64*b.length+2-xp v3)
  case atStart=>exact⟨_,is,q,n,d,i,m,[],rfl,rfl,HS⟩
  case round=>
    clear HS
    obtain⟨gb,is,q,n,d,i,m,xs,rfl,rfl,HR⟩:=hrel
    obtain⟨pv,cv,rfl,hcv,-⟩:=HR.out.2.1.form
    cases is with
    |false=>
      go_wp2
      go_ret
      obtain⟨-,h1,er,h2⟩:_∧TlS (fun i=>i<w0.1.size) wr xs∧∃er,RdD w0 wr B g r a M n0 v un b tr (xs.map Tx.t) er:=HR.out.2.2.1
      exact⟨_,xs,er,rfl,HR.out.2.1,h1,h2⟩
    |true=>
      obtain⟨x,ys,G1,R1,p1,h1,h2,h3,h4⟩:∃x ys G R p,tl4 q n d i m=tlA x∧RdL w0 wr B Bw g r a M n0 v un b tr (xs.map Tx.t++[x.t]) ys G R p∧(∀i,(Value.slice pv xs.length cv).ownBlock=some i->G i∧¬R i)∧TlS (fun i=>¬R i) wr (xs++[x]):=HR.out.2.2.1
      have hgbk:=HR.out.1
      rw[h1] at hgbk
      unfold tlA at hgbk
      have hlow:=h2.low
      have hfew:xs.length+1<=64*b.length:=by have:=hlow.2.2;simp at this;omega
      obtain⟨wa,hwa⟩:∃wa,wa=wr.alloc (.cells #[.slice x.q x.t.row.length x.d,.int .i64 x.t.at_,.int .i64 x.t.num,.int .i64 0] 38):=⟨_,rfl⟩
      have hba:Below wr.1.size wr wa:=by rw[hwa];exact xY
      have hsa:wa.1.size=wr.1.size+1:=by rw[hwa];simp
      have hbk:wa.1[wr.1.size]?=some (.cells #[.slice x.q x.t.row.length x.d,.int .i64 x.t.at_,.int .i64 x.t.num,.int .i64 0] 38 (0,0)):=by rw[hwa];exact ap wr _
      obtain⟨g3,cap3,W5,hr3,ho3,ha3,hn3⟩:=oi (HR.out.2.1.on hba) (by have:=HR.out.2.2.2.1;omega) x wr.1.size hbk (by omega)
      have hs5:wr.1.size+1<=W5.1.size:=by have:=ha3.size;omega
      have hg5:W5.1[gb]?=some (.cells #[.slice x.q x.t.row.length x.d,.int .i64 x.t.at_,.int .i64 x.t.num,.int .i64 0] 38 (0,0)):=(ha3.block gb (by have:=ao hgbk;omega) HR.out.2.2.2.2).trans ((hba.block _ (ao hgbk)).trans hgbk)
      obtain⟨W6,hW6⟩:∃W6,W6=W5.alloc (.cells #[.slice x.q x.t.row.length x.d,.int .i64 x.t.at_,.int .i64 x.t.num,.int .i64 0] 38):=⟨_,rfl⟩
      have hb6:Below W5.1.size W5 W6:=by rw[hW6];exact xY
      have hs6:W6.1.size=W5.1.size+1:=by rw[hW6];simp
      have ha6:Aside (fun i=>(Value.slice pv xs.length cv).ownBlock=some i) wr W6:=((ag hba _).trans ha3 (fun _ _ h=>h)).trans (ag hb6 (fun _=>False)) (fun _ _ h=>h.elim)
      have hlo:∀i,(Value.slice pv xs.length cv).ownBlock=some i->w.1.size<=i∧i<wr.1.size:=HR.out.2.1.lt
      have hzz:=HZ.out
      have h6:=h2.wide (G':=fun k=>G1 k∨(wr.1.size<=k∧k<W6.1.size)) HC.out ha6 (fun i hi=>⟨(h3 i hi).1,by have:=(hlo i hi).1;omega⟩) (fun i hi=>(h3 i hi).2) (fun k hk=>hk) (fun k hk=>.inl hk)
      have h6':RdL w0 W6 B Bw g r a M n0 v un b tr ((xs++[x]).map Tx.t) ys (fun k=>G1 k∨(wr.1.size<=k∧k<W6.1.size)) R1 p1:=by rw[List.map_append];exact h6
      have HN:=xQ (ua HRd.out HC.out h6' hn hBw)
      have hRlow:∀i,R1 i->i<wr.1.size:=fun i hi=>hlow.2.1 i (h2.sub i hi).1
      have HAny:Hid (∀e w7,NxA w0 W6 B Bw g r a M n0 v un b tr ((xs++[x]).map Tx.t) (fun k=>G1 k∨(wr.1.size<=k∧k<W6.1.size)) R1 e w7->∃q n d i m is,e=.returned (.tuple #[.agg (tl4 q n d i m),.bool is])∧(∀w'',Aside (fun i=>i=W5.1.size) w7 w''->AlS w0 B Bw g r a M n0 v un (.slice (some ⟨g3,0,none⟩) (xs++[x]).length cap3) b tr (tl4 q n d i m) is (xs++[x]) w'')∧Aside (rF g r (fun k=>G1 k∨(wr.1.size<=k∧k<W6.1.size))) W6 w7):=fun e w7 hh=>NxA.any (gb:=W5.1.size) hh HC.out (fun i hi=>by
          simp only[Value.ownBlock,Option.some.injEq] at hi
          subst hi
          have:=(ho3.lt g3 (by rfl)).2
          rcases hn3 with hn3 | hn3
          · have h5:=h3 _ hn3
            exact⟨⟨.inl h5.1,h5.2⟩,by omega⟩
          · exact⟨⟨.inr ⟨by omega,by omega⟩,fun hc=>by have:=hRlow _ hc;omega⟩,by omega⟩) (h4.step (ha6.mono fun i _ hi=>(h3 i hi).2) (fun k hk=>.inl hk)) (fun i hi=>⟨.inl (h2.sub i hi).1,(h2.sub i hi).2⟩) (by omega) (.inl ⟨.inr ⟨by omega,by omega⟩,fun hc=>by have:=hRlow _ hc;omega,by omega,by omega⟩)
      have HO6:=xQ (ho3.on hb6)
      have HB6:Hid (W6.1[W5.1.size]?=some (.cells #[.slice x.q x.t.row.length x.d,.int .i64 x.t.at_,.int .i64 x.t.num,.int .i64 0] 38 (0,0))):=by rw[hW6];exact ap W5 _
      obtain⟨x0,x1,x2,x3⟩:=cQ4 hgbk
      obtain⟨y0,y1,y2,y3⟩:=cQ4 hg5
      obtain⟨zl,hzl⟩:∃zl,zl=(xs++[x]).length:=⟨_,rfl⟩
      rw[<-hzl] at hr3 HO6 HAny
      have hzl2:zl=xs.length+1:=by rw[hzl];simp
      have HZl:=xQ hzl2
      have HR3:=xQ hr3
      have HWa:=xQ hwa
      have HW6:=xQ hW6
      have hww:=HR.out.2.2.2.1
      have hg3l:g3<W5.1.size:=(ho3.lt g3 (by rfl)).2
      have HG3:Hid ((G1 g3∨wr.1.size<=g3)∧w.1.size<=g3):=⟨hn3.imp (fun h=>(h3 _ h).1) (fun h=>by omega),(ho3.lt g3 (by rfl)).1⟩
      clear h1 h2 h3 h4 hgbk hlow hba hsa hbk hr3 ho3 ha3 hn3 hg5 hW6 hb6 ha6 hlo hzz h6 h6' hRlow hwa hzl hzl2
      go_wp2_with (first
        | (at_builtin
           rw[<-HWa.out]
           refine aP HR3.out rfl rfl rfl rfl ?_)
        |fail)
      rw[<-HW6.out]
      refine HN.out.mono ?_
      intro e w7 hans
      obtain⟨q',n',d',i',m',is',rfl,hS',ha7⟩:=HAny.out e w7 hans
      have hr:=(HC.out.far r (.inr (.inl rfl))).2
      have hg:=(HC.out.far g (.inl rfl)).2
      have hz:=HZ.out
      have hb7:=(ha7.block _ (by omega) (fun hc=>by rcases hc with hc | hc | hc;omega;omega;exact hc (.inr ⟨by omega,by omega⟩))).trans HB6.out
      obtain⟨z0,z1,z2,z3⟩:=cQ4 hb7
      have zf:=ac hb7
      have h4s:=eZ w7 W5.1.size (.slice q' n' d') (.int .i64 i') (.int .i64 m') (.int .i64 0)
      have ho7:TlO w7 w.1.size (.slice (some ⟨g3,0,none⟩) zl cap3) (xs++[x]):=TlO.aside HO6.out ha7 (fun k hk hc=>by
        simp only[Value.ownBlock,Option.some.injEq] at hk
        subst hk
        have:=HG3.out
        rcases hc with hc | hc | hc
        · omega
        · omega
        · exact hc (this.1.imp id (fun h=>⟨h,by omega⟩)))
      have HF:Hid (((((w7.setCell ⟨W5.1.size,0,none⟩ (.slice q' n' d')).setCell ⟨W5.1.size,1,none⟩ (.int .i64 i')).setCell ⟨W5.1.size,2,none⟩ (.int .i64 m')).setCell ⟨W5.1.size,3,none⟩ (.int .i64 0)).1[W5.1.size]?=some (.cells (tl4 q' n' d' i' m') 38 (0,0))∧TlO ((((w7.setCell ⟨W5.1.size,0,none⟩ (.slice q' n' d')).setCell ⟨W5.1.size,1,none⟩ (.int .i64 i')).setCell ⟨W5.1.size,2,none⟩ (.int .i64 m')).setCell ⟨W5.1.size,3,none⟩ (.int .i64 0)) w.1.size (.slice (some ⟨g3,0,none⟩) zl cap3) (xs++[x])∧AlS w0 B Bw g r a M n0 v un (.slice (some ⟨g3,0,none⟩) zl cap3) b tr (tl4 q' n' d' i' m') is' (xs++[x]) ((((w7.setCell ⟨W5.1.size,0,none⟩ (.slice q' n' d')).setCell ⟨W5.1.size,1,none⟩ (.int .i64 i')).setCell ⟨W5.1.size,2,none⟩ (.int .i64 m')).setCell ⟨W5.1.size,3,none⟩ (.int .i64 0))∧w.1.size<=((((w7.setCell ⟨W5.1.size,0,none⟩ (.slice q' n' d')).setCell ⟨W5.1.size,1,none⟩ (.int .i64 i')).setCell ⟨W5.1.size,2,none⟩ (.int .i64 m')).setCell ⟨W5.1.size,3,none⟩ (.int .i64 0)).1.size∧(Value.slice (some ⟨g3,0,none⟩) zl cap3).ownBlock≠some W5.1.size):=⟨eY hb7 _ _ _ _,ho7.aside h4s (fun k hk hc=>by simp only[Value.ownBlock,Option.some.injEq] at hk;omega),hS' _ h4s,by have:=h4s.size;have:=ha7.size;omega,by simp[Value.ownBlock];omega⟩
      clear hans hS' ha7 hb7 h4s ho7 HN HAny
      unfold tl4
      go_wp2
      go_roundw
      case rel=>exact⟨_,is',q',n',d',i',m',xs++[x],rfl,rfl,HF⟩
      case measure=>show 64*b.length+2-zl<64*b.length+2-xs.length;have:=HZl.out;omega
end
section
open Go.RowKit
structure oO(w w':World)(g r a M:Nat)(un:Value)(G:Nat->Prop):Prop where
 blk:w'.1[r]?=some (.cells (cQ g 0 a un (.slice none 0 0) 0) 73 (0,0))
 walk:ax w' w.1.size a M 0 (.slice none 0 0) (fun _=>none) Sc.new (fun i=>G i∨i=r)
 below:Below w.1.size w w'
 far:w.1.size<=r∧r<w'.1.size∧M<w'.1.size
theorem uS(w:World)(g:Nat)(G:Nat->Prop)(hG:∀k,G k->k<w.1.size):Calls Tryz.prog 6 #[.pointer (some ⟨g,0,none⟩)] w fun e w'=>∃r a M,e=.returned (.pointer (some ⟨r,0,none⟩))∧oO w w' g r a M (.slice none 0 0) G:=by
 have HN:=xQ (rK w G hG)
 clear hG
 go_enter Tryz.func6,Tryz.ntmps6
 go_wp2_with fail
 refine HN.out.mono ?_
 rintro e w1 ⟨rfl,hk,hb,hs⟩
 have hb2:Below w1.1.size w1 (w1.alloc (.cells (cQ g 0 (w.1.size+1) (.slice none 0 0) (.slice none 0 0) 0) 73)):=xY
 have HF:Hid (oO w (w1.alloc (.cells (cQ g 0 (w.1.size+1) (.slice none 0 0) (.slice none 0 0) 0) 73)) g w1.1.size (w.1.size+1) w.1.size (.slice none 0 0) G):=⟨ap w1 _,hk.aside (ag hb2 _) (fun k hkk=>hkk.imp id (fun h=>by omega)) (fun k hkk=>hkk.elim (fun h=>Nat.lt_of_lt_of_le (hk.low k h) hb2.size) (fun h=>by rw[h];simp)),hb.trans (hb2.mono hb.size),by omega,by simp,by simp;omega⟩
 unfold cQ at HF
 clear hk hb hs hb2 HN
 go_wp2
 go_ret
 exact⟨_,_,_,rfl,HF.out⟩
theorem cL.ne{n:Nat}(h:cL w B g v b n):∀i,v.ownBlock=some i->i≠g:=fun i hi hc=>by
 obtain⟨s,x,k,h1,-⟩:=h.out
 subst hc
 rcases h1.has.2 with ⟨h3,_⟩ | ⟨g',cap,cur,h3,_,h5,_⟩
 ·rw[h3] at hi;cases hi
 ·rw[h3] at hi
  injection hi with hi
  rw[<-hi] at h1
  have h6:=h1.lies
  rw[h5] at h6
  injection h6 with h6
  injection h6 with _ h6 _
  exact absurd h6 (by decide)
theorem jR{un:Value}{tr:List V->List V}{G:Nat->Prop}(hblk:w.1[r]?=some (.cells (cQ g 0 a un (.slice none 0 0) 0) 73 (0,0)))(hwk:ax w Bw a M 0 (.slice none 0 0) (fun _=>none) Sc.new G)(hf:cL w B g v b n0)(hv:Hv w)(hB:1<B)(hBw:B<=Bw)(hr:B<=r)(hl:b.length<=2097152)(hG:∀i,i=g∨v.ownBlock=some i∨i=r->G i)(hgr:g≠r)(hvr:∀i,v.ownBlock=some i->i≠g∧i≠r):
  RdC w B g r a M v b∧RdL w w B Bw g r a M n0 v un b tr [] [] G (fun _=>False) 0:=by
 refine⟨⟨hv,hB,hl,fun i hi=>?_,fun i hi=>⟨(hvr i hi).1,(hvr i hi).2,(hf.own hi).2⟩,hgr⟩,⟨⟨0,Sc.begin_,none,0,⟨by simpa using hf,hblk,⟨_,_,hwk,fun i hi=>(by cases hi)⟩,hG,Aside.refl _ _⟩,by simpa using Rd.inv_zero,fun k hk=>(by simp at hk),xX,fun _ _ h=>(by cases h),Nat.zero_le _⟩,fun x hx=>(by cases hx),fun i hi=>hi.elim⟩⟩
 have h1:=hwk.base
 have h2:=hwk.map.lt
 have h3:=hwk.lt
 have h4:=hf.lt
 have h5:=ao hblk
 rcases hi with hi | hi | hi | hi <;> omega
end
end Go.Proofs.YtceomhodhmcknaaGreatDoor
