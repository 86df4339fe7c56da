import Derived.Test.YtbahfgdbjgkklaaGreatDoorB36
import Derived.Test.YtbahfgdbjgkklaaGreatDoorB35
set_option maxRecDepth 100000
set_option maxHeartbeats 2000000
namespace Go.Proofs.YtbahfgdbjgkklaaGreatDoor
section
open Go.RowKit Go.Shelf
attribute [local go_sem] af Oper.semAt_some
theorem vl(s:List Col)(p:OA)(c:Nat)(n:Nat)(q:OA)(d:Nat)(w:World):
  Calls Tryz.prog 90 #[.agg #[.slice p s.length c],.slice q n d] w fun e w'=>e=.returned (.func (.func 143) #[] #[.pointer (some ⟨w.1.size+1,0,none⟩),.pointer (some ⟨w.1.size,0,none⟩)])∧w'=(w.alloc (.cells #[.slice p s.length c] 29)).alloc (.cells #[.slice q n d] 75):=by
 go_enter Tryz.func90,Tryz.ntmps90;go_wp2;go_ret;exact⟨rfl,rfl⟩
theorem bG{P:Program}{fn:Func}{p q:Tmp}{y z e:TypeId}(h:fn.results=#[.cell p y,.cell q z])(tmps:AV)(w:World)(g o:Nat)(v:Value)(x:Int)(K:tmps.getD p undef=.pointer (some ⟨g,0,none⟩))(I:w.cell? ⟨g,0,none⟩=some v)(Q:P.underlying y=some (.slice e))(M:tmps.getD q undef=.pointer (some ⟨o,0,none⟩))(J:w.cell? ⟨o,0,none⟩=some (.int .i64 x))(S:P.underlying z=some (.int .i64)):
  (results fn tmps).run P w=.ok (.tuple #[v,.int .i64 x]) w:=by
 have L:tmps[p]?.getD undef=.pointer (some ⟨g,0,none⟩):=by simpa using K
 have O:tmps[q]?.getD undef=.pointer (some ⟨o,0,none⟩):=by simpa using M
 have D:(loadVar y ⟨g,0,none⟩).run P w=.ok v w:=by
  simp[go_sem,isAgg,run_underlying Q,I]
 have E:(loadVar z ⟨o,0,none⟩).run P w=.ok (.int .i64 x) w:=by
  simp[go_sem,isAgg,run_underlying S,J]
 simp[results,h,L,O,asAddr,D,E]
structure eW(w w3:World)(B:Nat)(rec:Loop)(v:Value)(xs:L8)(W:World):Prop where
 below:Below w.1.size w W
 same:∀k,k<w3.1.size->k≠B->W.1[k]?=w3.1[k]?
 box:W.1[B]?=some (.cells #[v] 22 (0,0))
 has:Has W (w3.1.size+2) v xs
 dfr:W.1[w3.1.size]?=some (.deferred (some []))
 lp:W.1[w3.1.size+1]?=some (.loop rec)
 size:w3.1.size+2<=W.1.size
structure xV(w w3:World)(rec:Loop)(er:Nat)(W:World):Prop where
 below:Below w.1.size w W
 r1:W.1[w.1.size+1]?=some (.cells #[.slice none 0 0] 22 (0,0))
 r2:W.1[w.1.size+1+1]?=some (.cells #[.int .i64 er] 68 (0,0))
 dfr:W.1[w3.1.size]?=some (.deferred (some []))
 lp:W.1[w3.1.size+1]?=some (.loop rec)
 far:w.1.size+3<=w3.1.size
section
variable {w w3 W W':World} {B:Nat} {rec:Loop} {v v':Value} {xs ys:L8}
theorem eW.on(h:eW w w3 B rec v xs W)(hb:Below W.1.size W W'):eW w w3 B rec v xs W':=by
 have E:=h.size;have D:=h.below.size;have o:=au h.box;exact⟨h.below.trans (hb.mono D),fun k y z=>(hb.block k (by omega)).trans (h.same k y z),aR h.box hb o,h.has.on hb,aR h.dfr hb (by omega),aR h.lp hb (by omega),by have:=hb.size;omega⟩
theorem eW.turn(h:eW w w3 B rec v xs W)(J:w.1.size<=w3.1.size)(D:B<w3.1.size)(y:Loop):eW w w3 B y v xs (W.putObj (w3.1.size+1) (.loop y)):=by
 have I:=h.size;refine⟨h.below.trans (bF _ (by omega) h.below.size),fun k o z=>(World.putObj_heap_other (by omega)).trans (h.same k o z),(World.putObj_heap_other (by omega)).trans h.box,h.has.aside (dU _) (fun k o E=>?_),(World.putObj_heap_other (by omega)).trans h.dfr,World.putObj_heap_same (by omega),by simp;omega⟩;have:=(h.has.lt k o).1;omega
theorem eW.more(h:eW w w3 B rec v xs W)(L:w.1.size<=B)(M:B<w3.1.size)(z:Aside (fun k=>v.ownBlock=some k) W W')(I:Has W' (w3.1.size+2) v' ys):
  W'.1[B]?=some (.cells #[v] 22 (0,0))∧eW w w3 B rec v' ys (W'.setCell ⟨B,0,none⟩ v'):=by
 have O:=h.size;have hold:∀k,k<w3.1.size+2->W'.1[k]?=W.1[k]?:=fun k o=>z.block k (by omega) (fun y=>by have:=(h.has.lt k y).1;omega);have E:W'.1[B]?=some (.cells #[v] 22 (0,0)):=(hold B (by omega)).trans h.box;have D:∀k,k≠B->(W'.setCell ⟨B,0,none⟩ v').1[k]?=W'.1[k]?:=fun k o=>Below.heap_setCell _ _ _ _ o;have K:Below w.1.size W W':=z.below h.below.size (fun k o y=>by have:=(h.has.lt k y).1;omega);refine⟨E,⟨(h.below.trans K).setCell (p:=⟨B,0,none⟩) L _,fun k o J=>?_,by simpa using ai E 0 v',?_,?_,?_,?_⟩⟩
 ·rw[D k J,hold k (by omega)];exact h.same k o J
 ·exact I.aside ((Aside.refl (fun k=>k=B) W').setCell (p:=⟨B,0,none⟩) (.inl rfl) v') (fun k o y=>by have:=(I.lt k o).1;omega)
 ·rw[D _ (by omega),hold _ (by omega)];exact h.dfr
 ·rw[D _ (by omega),hold _ (by omega)];exact h.lp
 ·have:=z.size;have:(W'.setCell ⟨B,0,none⟩ v').1.size=W'.1.size:=by simp[World.setCell]
  omega
end
theorem zv(b0:RowsIn)(s:List Col)(p:OA)(c:Nat)(l:List (List V))(q:OA)(d:Nat)(w:World)(b5:bB w p c s)(b4:fw w q d l):
    Calls Tryz.prog 54 #[.agg #[.slice p s.length c],.slice q l.length d] w (Told w (Bt.err s l) (Bt.out s l)):=by
  have el:=b4.len;obtain⟨b1,b6⟩:∃b1,b1=((w.alloc (.cells #[.slice p s.length c] 29)).alloc (.cells #[.slice none 0 0] 22)).alloc (.cells #[.int .i64 0] 68):=⟨_,rfl⟩;obtain⟨cc,cd,ce,bs,d6⟩:=al3 w (.cells #[.slice p s.length c] 29) (.cells #[.slice none 0 0] 22) (.cells #[.int .i64 0] 68);rw[<-b6] at cc cd ce bs d6;have bT:=gQq (ry b0 s p c l.length b1 (b5.on bs));have bj:=gQq (And.intro cc (And.intro cd ce));have co:=gQq bs;have cs:=gQq b6;have dn:=gQq b5;have dj:=gQq b4;have dk:=gQq b0;obtain⟨R,a0⟩:∃R,R=Bt.err s l:=⟨_,rfl⟩;obtain⟨O,a9⟩:∃O,O=Bt.out s l:=⟨_,rfl⟩;rw[<-a0,<-a9];unfold Bt.out at a9;rw[<-a0] at a9;unfold Bt.err at a0;obtain⟨M,ca⟩:∃M,M=Bt.numErr s l.length:=⟨_,rfl⟩;rw[<-ca] at bT a0;have bn:=gQq a0;have J:=gQq a9;have cq:=gQq ca;clear bs b6 b5 b4 b0 a0 a9 ca cc cd ce;refine(callsIn_wide (n:=5)).1 ?_;refine callsIn_of_wp_marks Tryz.func54 rfl trivial ?_ rfl;simp only[Tryz.ntmps54,List.size_toArray,List.length_cons,List.length_nil,Nat.reduceAdd,Nat.reduceSub,Array.replicate_succ,Array.replicate_zero,List.push_toArray,List.append_toArray,List.nil_append,List.cons_append]
  gi_wp2
  refine⟨trivial,?_⟩;rw[<-cs.out];refine(callsIn_wide.2 bT.out).mono ?_;rintro e w1 ⟨rfl,Y⟩;have dh:=gQq Y;have bO:=gQq (co.out.trans (Y.mono co.out.size));have ep:=Y.size;have cb:=aR bj.out.1 Y (by omega);have y:=aR bj.out.2.1 Y (by omega);have z:=aR bj.out.2.2 Y (by omega);have de:=ao cb;have cj:=ao y;have ck:=ao z;have f1:=aN y;have b3:=aN z;have ab:=gQq (And.intro cb (And.intro y z));clear Y bT cs bj dh cb y z;by_cases h0:M≠0
  · have d1:((M:Int) != 0)=true:=aQ (by omega);have E:Hid (R=M):=bn.out.trans (if_pos h0);have HOn:Hid (O=[]):=(by show _=_;rw[J.out,E.out,if_neg h0]);clear bn h0 J
    gi_wp2
    have z:=ai (ax ab.out.2.2 ⟨w.1.size+1,0,none⟩ (.slice none 0 0) (by simp)) 0 (.int .i64 M);have y:=ax (ai ab.out.2.1 0 (.slice none 0 0)) ⟨w.1.size+1+1,0,none⟩ (.int .i64 M) (by simp);refine⟨_,bG rfl _ _ (w.1.size+1) (w.1.size+1+1) _ _ rfl (ao y) Tryz.underlying22 rfl (ao z) Tryz.underlying68,?_⟩;refine⟨none,0,by rw[HOn.out,E.out];rfl,by rw[HOn.out];exact .inl rfl,by rw[HOn.out];exact gQx,?_⟩;exact(bO.out.setCell (p:=⟨w.1.size+1,0,none⟩) (by simp) _).setCell (p:=⟨w.1.size+1+1,0,none⟩) (by simp;omega) _
  have d1:((M:Int) != 0)=false:=bo (by omega);have bk:=gQq (bn.out.trans (if_neg h0));have di:Hid (Bt.numErr s l.length=0):=by show _=0;rw[<-cq.out];omega
  clear bn h0 cq;have z0:=fun o=>ae ((Below.refl w1.1.size w1).alloc gQx o) de;clear cj ck f1 b3
  gi_wp2
  refine⟨trivial,?_⟩;refine(callsIn_wide.2 (vl s p c l.length q d _)).mono ?_;rintro e w3 ⟨rfl,dc⟩;obtain⟨cf,cg,ci,bN,dd⟩:=al3 w1 (.cells #[.slice none 0 0] 22) (.cells #[.slice p s.length c] 29) (.cells #[.slice q l.length d] 75);rw[<-dc] at cf cg ci bN dd;have en:w1.1.size+3<=w3.1.size:=by omega
  have S:=gQq (And.intro cf (And.intro cg (And.intro ci bN)));have d2:=gQq (bO.out.trans (bN.mono bO.out.size));clear dc cf cg ci bN dd z0 de
  gi_wp2
  refine ly (gf:=143) rfl (enters_of Tryz.func143 (by kernel_rfl) rfl) ?_;intro fn;generalize hrec:ji fn _ _ _ _ _=rec;have em:w.1.size+3<=w1.1.size:=by omega
  have be:w.1.size<=w3.1.size:=by omega
  have U:=gQq hrec;clear hrec;refine(sV dk.out.encode s p c l q d (w1.1.size+1) (w1.1.size+1+1) (w3.1.size+1) (fun i W=>∃v,eW w w3 w1.1.size (rec .ready none) v (Bt.bytes (l.take i)) W) (fun I W=>xV w w3 (rec .done (some .ret)) I W) _ ?hJb ?hJn ?h0 ?good ?bad).mono ?_;case hJb=>
    rintro i W ⟨v,h⟩;exact⟨dn.out.on h.below,dj.out.on h.below,(h.same _ (by omega) (by omega)).trans S.out.2.1,(h.same _ (by omega) (by omega)).trans S.out.2.2.1⟩
  case hJn=>
    rintro i W W' ⟨v,h⟩ hb;exact⟨v,h.on hb⟩
  case h0=>
    obtain⟨ds,dv,b2,ec⟩:=al2 w3 (.deferred (some [])) (.loop (rec .ready none));exact⟨.slice none 0 0,d2.out.trans (b2.mono be),fun k a4 _=>b2.block k a4,aR S.out.1 b2 (by omega),aM _ _,ds,dv,by omega⟩
  case good=>
    rintro m i c5 W df cap ⟨v,h⟩ c9 a3 a2;have D:(Bt.bytes (l.take i)).length+(Rw.bytes l[i]).length<=140737488355328:=by
      have ef:=Bt.bytes_bound (Bt.rowsErr_take i c9);have eg:=(Rw.err_open a3).2.2.2;have eh:(l.take i).length<=l.length:=(by rw[List.length_take];omega);have ei:=Bt.numErr_open di.out;omega
    have L:=h.lp;rw[<-U.out] at L;have hb:eW w w3 w1.1.size (rec .busy none) v (Bt.bytes (l.take i)) (W.putObj (w3.1.size+1) (.loop (rec .busy none))):=h.turn be (by omega) _;have b8:At (W.putObj (w3.1.size+1) (.loop (rec .busy none))) df (Rw.bytes l[i]):=a2.turn h.lp _;rw[<-U.out] at hb b8;refine fR (R:=fun b W'=>b=true∧∃v,eW w w3 w1.1.size (rec .ready none) v (Bt.bytes (l.take (i+1))) W') L rfl ?_;have Q:=gQq hb;have cn:=gQq b8;have ea:=gQq a3;have n7:=ao hb.box;have bX:=gQq L;clear a2 b8 a3 c9 L hb
    gi_wp2
    refine⟨bX.out,?_⟩
    gi_wp2_with (first
      | (gi_at_builtin
         refine oW Q.out.has cn.out D Q.out.size rfl rfl rfl rfl rfl ?_;intro ys d9 d0 eb dr bc cv _;obtain⟨b9,c6⟩:=Q.out.more (by omega) (by omega) cv bc;have n8:=ao b9;have ed:=aN b9;have cr:=gQq c6;clear bc cv b9 c6)
      |fail)
    refine⟨cr.out.lp,rfl,.slice d9 ys.length d0,?_⟩;have db:=cr.out.turn be (by omega) (rec .ready none);rw[<-U.out] at db ⊢;have d7:ys=Bt.bytes (l.take (i+1)):=(by rw[dr.out,Bt.bytes_take l i c5]);rw[<-d7];exact db
  case bad=>
    rintro m i c5 W df cap ⟨v,h⟩ a3;obtain⟨I,cy⟩:∃I,I=Rw.err s l[i]:=⟨_,rfl⟩;rw[<-cy] at a3 ⊢;have ee:((I:Int) != 0)=true:=aQ (by omega);have L:=h.lp;rw[<-U.out] at L;have hb:eW w w3 w1.1.size (rec .busy none) v (Bt.bytes (l.take i)) (W.putObj (w3.1.size+1) (.loop (rec .busy none))):=h.turn be (by omega) _;rw[<-U.out] at hb;refine fR (R:=fun b W'=>b=false∧xV w w3 (rec .done (some .ret)) I W') L rfl ?_;have y:W.1[w.1.size+1]?=some (.cells #[.slice none 0 0] 22 (0,0)):=(h.same _ (by omega) (by omega)).trans (aR ab.out.2.1 S.out.2.2.2 (by omega));have z:W.1[w.1.size+1+1]?=some (.cells #[.int .i64 0] 68 (0,0)):=(h.same _ (by omega) (by omega)).trans (aR ab.out.2.2 S.out.2.2.2 (by omega));obtain⟨aj,a1⟩:∃aj,aj=W.putObj (w3.1.size+1) (.loop (rec .busy none)):=⟨_,rfl⟩;have bp:aj.1[w.1.size+1]?=some (.cells #[.slice none 0 0] 22 (0,0)):=(by rw[a1];exact(World.putObj_heap_other (by omega)).trans y);have bq:aj.1[w.1.size+1+1]?=some (.cells #[.int .i64 0] 68 (0,0)):=(by rw[a1];exact(World.putObj_heap_other (by omega)).trans z);rw[<-U.out] at a1;rw[<-a1] at hb;have Q:=gQq hb;have bX:=gQq L;have cj:=ao bp;have f1:=aN bp;have ck:=ao bq;have b3:=aN bq;have cp:=gQq (And.intro bp bq);have dp:=gQq a1;clear L hb y z bp bq a1 h cy a3
    gi_wp2
    refine⟨bX.out,?_⟩;rw[<-dp.out]
    gi_wp2
    have c2:=ai (ax cp.out.2 ⟨w.1.size+1,0,none⟩ (.slice none 0 0) (by simp)) 0 (.int .i64 I);have c1:=ax (ai cp.out.1 0 (.slice none 0 0)) ⟨w.1.size+1+1,0,none⟩ (.int .i64 I) (by simp);have da:∀k,w.1.size+2<k->((aj.setCell ⟨w.1.size+1,0,none⟩ (.slice none 0 0)).setCell ⟨w.1.size+1+1,0,none⟩ (.int .i64 I)).1[k]?=aj.1[k]?:=fun k a4=>by
      rw[Below.heap_setCell _ _ _ _ (by simp;omega),Below.heap_setCell _ _ _ _ (by simp;omega)]
    have D:=((Q.out.below.setCell (p:=⟨w.1.size+1,0,none⟩) (by simp) (.slice none 0 0)).setCell (p:=⟨w.1.size+1+1,0,none⟩) (by simp;omega) (.int .i64 I));have c8:=(da (w3.1.size+1) (by omega)).trans Q.out.lp;have d4:=(da w3.1.size (by omega)).trans Q.out.dfr;refine⟨c8,rfl,?_⟩;rw[U.out];exact⟨D.trans (bF _ (by omega) D.size),(World.putObj_heap_other (by omega)).trans (by simpa using c1),(World.putObj_heap_other (by omega)).trans (by simpa using c2),(World.putObj_heap_other (by omega)).trans d4,World.putObj_heap_same (au c8),by omega⟩
  rintro e ct ⟨⟨er,rfl⟩,⟨a5,v,br⟩ | ⟨a5,b7⟩⟩
  · rw[List.take_length] at br;have h5:=br.turn be (by omega) (rec .exhausted none);refine⟨⟨_,rfl⟩,.inl ⟨br.lp,?_⟩⟩;obtain⟨X,cu⟩:∃X,X=ct.putObj (w3.1.size+1) (.loop (rec .exhausted none)):=⟨_,rfl⟩;rw[<-cu] at h5 ⊢;obtain⟨a6,ak,rfl,a2,cx⟩:=h5.has.at;have a7:=gQq (bk.out.trans (if_neg (by rw[a5];simp)));have y:X.1[w.1.size+1]?=some (.cells #[.slice none 0 0] 22 (0,0)):=(h5.same _ (by omega) (by omega)).trans (aR ab.out.2.1 S.out.2.2.2 (by omega));have z:X.1[w.1.size+1+1]?=some (.cells #[.int .i64 0] 68 (0,0)):=(h5.same _ (by omega) (by omega)).trans (aR ab.out.2.2 S.out.2.2.2 (by omega));obtain⟨K,cw⟩:∃K,K=Bt.bytes l:=⟨_,rfl⟩;rw[<-cw] at h5 a2 cx a7 J;have Z:=gQq h5;have cn:=gQq a2;have n7:=ao h5.box;have cj:=ao y;have f1:=aN y;have ck:=ao z;have b3:=aN z;have bi:=gQq (And.intro y z);clear br h5 a2 y z cu a5 cw bk;by_cases c7:2048<K.length
    · have E:Hid (R=2):=a7.out.trans (if_pos c7);have HOn:Hid (O=[]):=(by show _=_;rw[J.out,E.out,if_neg (by decide)]);clear a7 J
      gi_wp2
      have c2:=ai (ax bi.out.2 ⟨w.1.size+1,0,none⟩ (.slice none 0 0) (by simp)) 0 (.int .i64 2);have c1:=ax (ai bi.out.1 0 (.slice none 0 0)) ⟨w.1.size+1+1,0,none⟩ (.int .i64 2) (by simp);have bb:((X.setCell ⟨w.1.size+1,0,none⟩ (.slice none 0 0)).setCell ⟨w.1.size+1+1,0,none⟩ (.int .i64 2)).1[w3.1.size]?=some (.deferred (some [])):=by
        rw[Below.heap_setCell _ _ _ _ (by simp;omega),Below.heap_setCell _ _ _ _ (by simp;omega)];exact Z.out.dfr
      have D:=((Z.out.below.setCell (p:=⟨w.1.size+1,0,none⟩) (by simp) (.slice none 0 0)).setCell (p:=⟨w.1.size+1+1,0,none⟩) (by simp;omega) (.int .i64 2));refine⟨by simp,.inl ⟨_,_,rfl,run_takeDeferred bb,?_⟩⟩;refine⟨_,bG rfl _ _ (w.1.size+1) (w.1.size+1+1) _ _ rfl (ao ((World.putObj_heap_other (by omega)).trans c1)) Tryz.underlying22 rfl (ao ((World.putObj_heap_other (by omega)).trans c2)) Tryz.underlying68,?_⟩;exact⟨none,0,by rw[HOn.out,E.out];rfl,by rw[HOn.out];exact .inl rfl,by rw[HOn.out];exact gQx,D.trans (bF _ (by omega) D.size)⟩
    · have E:Hid (R=0):=a7.out.trans (if_neg c7);have HOn:Hid (O=K):=(by show _=_;rw[J.out,E.out,if_pos rfl]);clear a7 J
      gi_wp2
      have c2:=ai (ax bi.out.2 ⟨w.1.size+1,0,none⟩ (.slice a6 K.length ak) (by simp)) 0 (.int .i64 0);have c1:=ax (ai bi.out.1 0 (.slice a6 K.length ak)) ⟨w.1.size+1+1,0,none⟩ (.int .i64 0) (by simp);have bb:((X.setCell ⟨w.1.size+1,0,none⟩ (.slice a6 K.length ak)).setCell ⟨w.1.size+1+1,0,none⟩ (.int .i64 0)).1[w3.1.size]?=some (.deferred (some [])):=by
        rw[Below.heap_setCell _ _ _ _ (by simp;omega),Below.heap_setCell _ _ _ _ (by simp;omega)];exact Z.out.dfr
      have D:=((Z.out.below.setCell (p:=⟨w.1.size+1,0,none⟩) (by simp) (.slice a6 K.length ak)).setCell (p:=⟨w.1.size+1+1,0,none⟩) (by simp;omega) (.int .i64 0));have bc:Has _ _ _ _:=(Z.out.has.aside ((((Aside.refl (fun k=>k<w3.1.size+1) X).setCell (p:=⟨w.1.size+1,0,none⟩) (.inl (by simp;omega)) (.slice a6 K.length ak)).setCell (p:=⟨w.1.size+1+1,0,none⟩) (.inl (by simp;omega)) (.int .i64 0))) (fun k a4 d3=>by have:=(Z.out.has.lt k a4).1;omega));have d5:=bc.aside (dU (l:=w3.1.size) (.deferred none)) (fun k a4 d3=>by have:=(bc.lt k a4).1;omega);refine⟨by simp,.inl ⟨_,_,rfl,run_takeDeferred bb,?_⟩⟩;refine⟨_,bG rfl _ _ (w.1.size+1) (w.1.size+1+1) _ _ rfl (ao ((World.putObj_heap_other (by omega)).trans c1)) Tryz.underlying22 rfl (ao ((World.putObj_heap_other (by omega)).trans c2)) Tryz.underlying68,?_⟩;exact⟨a6,ak,by rw[HOn.out,E.out];rfl,by rw[HOn.out];exact d5.here,by rw[HOn.out];exact cx,D.trans (bF _ (by omega) D.size)⟩
  · refine⟨⟨_,rfl⟩,.inr ⟨b7.lp,?_⟩⟩;have a8:=gQq b7;have E:Hid (R=Bt.rowsErr s l):=bk.out.trans (if_pos a5);have HOn:Hid (O=[]):=(by show _=_;rw[J.out,E.out,if_neg a5]);clear b7 a5 bk J
    gi_wp2
    have bb:(ct.putObj (w3.1.size+1) (.loop (rec .exhausted (some .ret)))).1[w3.1.size]?=some (.deferred (some [])):=(World.putObj_heap_other (by omega)).trans a8.out.dfr;have D:=a8.out.below.trans (bF (l:=w3.1.size+1) (.loop (rec .exhausted (some .ret))) (by omega) a8.out.below.size);refine⟨by simp,.inl ⟨_,_,rfl,run_takeDeferred bb,?_⟩⟩;refine⟨_,bG rfl _ _ (w.1.size+1) (w.1.size+1+1) _ _ rfl (ao ((World.putObj_heap_other (by omega)).trans ((World.putObj_heap_other (by omega)).trans a8.out.r1))) Tryz.underlying22 rfl (ao ((World.putObj_heap_other (by omega)).trans ((World.putObj_heap_other (by omega)).trans a8.out.r2))) Tryz.underlying68,?_⟩;exact⟨none,0,by rw[HOn.out,E.out];rfl,by rw[HOn.out];exact .inl rfl,by rw[HOn.out];exact gQx,D.trans (bF _ (by omega) D.size)⟩
end
section
open Go.RowKit
attribute [local go_sem] af
theorem yk(a7:RowsIn)(s:List Col)(p:OA)(c:Nat)(l:List (List V))(q:OA)(d:Nat)(w:World)(be:bB w p c s)(bc:fw w q d l):
  Calls Tryz.prog 25 #[.agg #[.slice p s.length c],.slice q l.length d] w (tg w (Bt.pack s l)):=by
 obtain⟨J,Z⟩:∃J,J=w.alloc (.cells #[.slice p s.length c] 29):=⟨_,rfl⟩;have K:Below w.1.size w J:=by rw[Z];exact gQy
 have O:=gQq (zv a7 s p c l q d J (be.on K) (bc.on K));obtain⟨P,z⟩:∃P,P=Bt.pack s l:=⟨_,rfl⟩;rw[<-z];unfold Bt.pack at z;have ah:=fun h=>(Bt.err_open (s:=s) (l:=l) h).2.2;have X:Bt.out s l=if Bt.err s l=0 then Bt.bytes l else []:=rfl;obtain⟨R,D⟩:∃R,R=Bt.err s l:=⟨_,rfl⟩;obtain⟨y,Y⟩:∃y,y=Bt.out s l:=⟨_,rfl⟩;obtain⟨S,L⟩:∃S,S=Bt.bytes l:=⟨_,rfl⟩;rw[<-Y,<-D,<-L] at X;rw[<-D,<-Y] at O;rw[<-D,<-L] at z;rw[<-D,<-L] at ah;have aj:=gQq K;have a8:=gQq Z;have E:=gQq z;have Q:=gQq X;have M:=gQq ah;clear K Z D X Y z L ah;go_enter Tryz.func25,Tryz.ntmps25;go_wp2_with fail;rw[<-a8.out];refine O.out.mono ?_;rintro e w1 ⟨bk,c1,rfl,ab,bi,a1⟩;have U:=aj.out.trans (a1.mono aj.out.size);have ak:=gQq U;have a4:=U.size;clear a1 O U;by_cases o:R=0
 ·have a9:y=S:=by rw[Q.out,if_pos o]
  subst a9;have I:Hid (P=Blk.pack y):=by show _=_;rw[E.out,if_pos o]
  have bp:=M.out o;have a0:=gQq (zk y bk c1 w1 (by omega) bi ab);have bb:((R:Int) != 0)=false:=bo (by omega);rw[<-I.out] at a0;clear E Q M ab o I;go_wp2_with fail;refine a0.out.mono ?_;rintro e br ⟨bn,bq,c2,rfl,bj,a3,a2⟩;subst bj;have a6:=gQq a3;have a5:=gQq (ak.out.trans (a2.mono a4));clear a3 a2;go_wp2;go_ret2;exact⟨bn,_,c2,rfl,rfl,a6.out.lower a4,a5.out⟩
 ·have I:Hid (P=⟨R,[]⟩):=by show _=_;rw[E.out,if_neg o]
  have bb:((R:Int) != 0)=true:=aQ (by omega);clear E Q M ab o;go_wp2;go_ret2;rw[I.out];exact⟨none,0,0,rfl,rfl,aM _ _,ak.out⟩
end
end Go.Proofs.YtbahfgdbjgkklaaGreatDoor
