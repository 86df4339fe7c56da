import Derived.Test.YtngmnfdaedlodaaGreatDoorB36
import Derived.Test.YtngmnfdaedlodaaGreatDoorB35
set_option maxRecDepth 100000
set_option maxHeartbeats 2000000
namespace Go.Proofs.YtngmnfdaedlodaaGreatDoor
open Go.Proofs.Tryz
open Option renaming none->I,some->U
open Go.Value renaming slice->Y,int->F
open Go.IntKind renaming i64->C
open Go.Obj renaming cells->N
section
open Go.RowKit Go.Shelf
attribute [local go_sem] ai Oper.semAt_some
theorem uv(s:List Col)(p:OA)(c:Nat)(n:Nat)(q:OA)(d:Nat)(w:World):
  Calls Tryz.prog 107 #[.agg #[Y p s.length c],Y q n d] w fun e w'=>e=.returned (.func (.func 136) #[] #[.pointer (U ⟨w.1.size+1,0,I⟩),.pointer (U ⟨w.1.size,0,I⟩)])∧w'=(w.alloc (N #[Y p s.length c] 35)).alloc (N #[Y q n d] 36):=by
 go_enter func107,ntmps107;go_wp2;go_ret;exact⟨rfl,rfl⟩
theorem dQ{P:Program}{fn:Func}{p q:Tmp}{y A e:TypeId}(h:fn.results=#[.cell p y,.cell q A])(tmps:AV)(w:World)(g o:Nat)(v:Value)(x:Int)(L:tmps.getD p undef=.pointer (U ⟨g,0,I⟩))(J:w.cell? ⟨g,0,I⟩=U v)(V:P.underlying y=U (.slice e))(Q:tmps.getD q undef=.pointer (U ⟨o,0,I⟩))(K:w.cell? ⟨o,0,I⟩=U (F C x))(X:P.underlying A=U (.int C)):
  (results fn tmps).run P w=.ok (.tuple #[v,F C x]) w:=by
 have M:tmps[p]?.getD undef=.pointer (U ⟨g,0,I⟩):=by simpa using L
 have S:tmps[q]?.getD undef=.pointer (U ⟨o,0,I⟩):=by simpa using Q
 have D:(loadVar y ⟨g,0,I⟩).run P w=.ok v w:=by
  simp[go_sem,isAgg,run_underlying V,J]
 have E:(loadVar A ⟨o,0,I⟩).run P w=.ok (F C x) w:=by
  simp[go_sem,isAgg,run_underlying X,K]
 simp[results,h,M,S,asAddr,D,E]
structure ed(w w3:World)(B:Nat)(rec:Loop)(v:Value)(xs:L8)(W:World):Prop where
 below:Below w.1.size w W
 same:∀k,k<w3.1.size->k≠B->W.1[k]?=w3.1[k]?
 box:W.1[B]?=U (N #[v] 40 (0,0))
 has:Has W (w3.1.size+2) v xs
 dfr:W.1[w3.1.size]?=U (.deferred (U []))
 lp:W.1[w3.1.size+1]?=U (.loop rec)
 size:w3.1.size+2<=W.1.size
structure xx(w w3:World)(rec:Loop)(er:Nat)(W:World):Prop where
 below:Below w.1.size w W
 r1:W.1[w.1.size+1]?=U (N #[Y I 0 0] 40 (0,0))
 r2:W.1[w.1.size+1+1]?=U (N #[F C er] 25 (0,0))
 dfr:W.1[w3.1.size]?=U (.deferred (U []))
 lp:W.1[w3.1.size+1]?=U (.loop rec)
 far:w.1.size+3<=w3.1.size
section
variable {w w3 W W':World} {B:Nat} {rec:Loop} {v v':Value} {xs ys:L8}
theorem ed.on(h:ed w w3 B rec v xs W)(hb:Below W.1.size W W'):ed w w3 B rec v xs W':=by
 have E:=h.size;have D:=h.below.size;have o:=ao h.box;exact⟨h.below.trans (hb.mono D),fun k y A=>(hb.block k (by omega)).trans (h.same k y A),bP h.box hb o,h.has.on hb,bP h.dfr hb (by omega),bP h.lp hb (by omega),by have:=hb.size;omega⟩
theorem ed.turn(h:ed w w3 B rec v xs W)(K:w.1.size<=w3.1.size)(D:B<w3.1.size)(y:Loop):ed w w3 B y v xs (W.putObj (w3.1.size+1) (.loop y)):=by
 have J:=h.size;refine⟨h.below.trans (db _ (by omega) h.below.size),fun k o A=>(World.putObj_heap_other (by omega)).trans (h.same k o A),(World.putObj_heap_other (by omega)).trans h.box,h.has.aside (ft _) (fun k o E=>?_),(World.putObj_heap_other (by omega)).trans h.dfr,World.putObj_heap_same (by omega),by simp;omega⟩;have:=(h.has.lt k o).1;omega
theorem ed.more(h:ed w w3 B rec v xs W)(M:w.1.size<=B)(Q:B<w3.1.size)(A:Aside (fun k=>v.ownBlock=U k) W W')(J:Has W' (w3.1.size+2) v' ys):
  W'.1[B]?=U (N #[v] 40 (0,0))∧ed w w3 B rec v' ys (W'.setCell ⟨B,0,I⟩ v'):=by
 have S:=h.size;have hold:∀k,k<w3.1.size+2->W'.1[k]?=W.1[k]?:=fun k o=>A.block k (by omega) (fun y=>by have:=(h.has.lt k y).1;omega);have E:W'.1[B]?=U (N #[v] 40 (0,0)):=(hold B (by omega)).trans h.box;have D:∀k,k≠B->(W'.setCell ⟨B,0,I⟩ v').1[k]?=W'.1[k]?:=fun k o=>Below.heap_setCell _ _ _ _ o;have L:Below w.1.size W W':=A.below h.below.size (fun k o y=>by have:=(h.has.lt k y).1;omega);refine⟨E,⟨(h.below.trans L).setCell (p:=⟨B,0,I⟩) M _,fun k o K=>?_,by simpa using an E 0 v',?_,?_,?_,?_⟩⟩
 ·rw[D k K,hold k (by omega)];exact h.same k o K
 ·exact J.aside ((Aside.refl (fun k=>k=B) W').setCell (p:=⟨B,0,I⟩) (.inl rfl) v') (fun k o y=>by have:=(J.lt k o).1;omega)
 ·rw[D _ (by omega),hold _ (by omega)];exact h.dfr
 ·rw[D _ (by omega),hold _ (by omega)];exact h.lp
 ·have:=A.size;have:(W'.setCell ⟨B,0,I⟩ v').1.size=W'.1.size:=by simp[World.setCell]
  omega
end
theorem zq(b2:RowsIn)(s:List Col)(p:OA)(c:Nat)(l:List (List V))(q:OA)(d:Nat)(w:World)(b7:dZ w p c s)(b6:cP w q d l):
    Calls Tryz.prog 78 #[.agg #[Y p s.length c],Y q l.length d] w (Told w (Bt.err s l) (Bt.out s l)):=by
  have e9:=b6.len;obtain⟨b3,b8⟩:∃b3,b3=((w.alloc (N #[Y p s.length c] 35)).alloc (N #[Y I 0 0] 40)).alloc (N #[F C 0] 25):=⟨_,rfl⟩;obtain⟨cj,ck,cn,bO,ew⟩:=al3 w (N #[Y p s.length c] 35) (N #[Y I 0 0] 40) (N #[F C 0] 25);rw[<-b8] at cj ck cn bO ew;have b0:=gQq (wK b2 s p c l.length b3 (b7.on bO));have bn:=gQq (And.intro cj (And.intro ck cn));have cu:=gQq bO;have cy:=gQq b8;have ea:=gQq b7;have d8:=gQq b6;have d9:=gQq b2;obtain⟨R,a3⟩:∃R,R=Bt.err s l:=⟨_,rfl⟩;obtain⟨O,be⟩:∃O,O=Bt.out s l:=⟨_,rfl⟩;rw[<-a3,<-be];unfold Bt.out at be;rw[<-a3] at be;unfold Bt.err at a3;obtain⟨Q,cd⟩:∃Q,Q=Bt.numErr s l.length:=⟨_,rfl⟩;rw[<-cd] at b0 a3;have bq:=gQq a3;have K:=gQq be;have cw:=gQq cd;clear bO b8 b7 b6 b2 a3 be cd cj ck cn;refine(callsIn_wide (n:=5)).1 ?_;refine callsIn_of_wp_marks func78 rfl trivial ?_ rfl;simp only[ntmps78,List.size_toArray,Aq,List.length_nil,Nat.reduceAdd,Nat.reduceSub,Array.replicate_succ,Array.replicate_zero,List.push_toArray,List.append_toArray,List.nil_append,List.cons_append]
  gi_wp2
  refine⟨trivial,?_⟩;rw[<-cy.out];refine(callsIn_wide.2 b0.out).mono ?_;rintro e w1 ⟨rfl,aj⟩;have d6:=gQq aj;have bX:=gQq (cu.out.trans (aj.mono cu.out.size));have fo:=aj.size;have ci:=bP bn.out.1 aj (by omega);have y:=bP bn.out.2.1 aj (by omega);have A:=bP bn.out.2.2 aj (by omega);have d4:=ay ci;have cr:=ay y;have cs:=ay A;have f1:=cG y;have b5:=cG A;have aw:=gQq (And.intro ci (And.intro y A));clear aj b0 cy bn d6 ci y A;by_cases h0:Q≠0
  · have en:((Q:Int) != 0)=true:=cE (by omega);have E:Hid (R=Q):=bq.out.trans (AK h0);have HOn:Hid (O=[]):=(by show _=_;rw[K.out,E.out,AJ h0]);clear bq h0 K
    gi_wp2
    have A:=an (aK aw.out.2.2 ⟨w.1.size+1,0,I⟩ (Y I 0 0) (by simp)) 0 (F C Q);have y:=aK (an aw.out.2.1 0 (Y I 0 0)) ⟨w.1.size+1+1,0,I⟩ (F C Q) (by simp);refine⟨_,dQ rfl _ _ (w.1.size+1) (w.1.size+1+1) _ _ rfl (ay y) underlying40 rfl (ay A) underlying25,?_⟩;refine⟨I,0,by rw[HOn.out,E.out];rfl,by rw[HOn.out];exact .inl rfl,by rw[HOn.out];exact gQx,?_⟩;exact(bX.out.setCell (p:=⟨w.1.size+1,0,I⟩) (by simp) _).setCell (p:=⟨w.1.size+1+1,0,I⟩) (by simp;omega) _
  have en:((Q:Int) != 0)=false:=bZ (by omega);have bp:=gQq (bq.out.trans (AJ h0));have d7:Hid (Bt.numErr s l.length=0):=by show _=0;rw[<-cw.out];omega
  clear bq h0 cw;have z0:=fun o=>ae ((Below.refl w1.1.size w1).alloc gQx o) d4;clear cr cs f1 b5
  gi_wp2
  refine⟨trivial,?_⟩;refine(callsIn_wide.2 (uv s p c l.length q d _)).mono ?_;rintro e w3 ⟨rfl,d2⟩;obtain⟨co,cp,cq,bT,d3⟩:=al3 w1 (N #[Y I 0 0] 40) (N #[Y p s.length c] 35) (N #[Y q l.length d] 36);rw[<-d2] at co cp cq bT d3;have fi:w1.1.size+3<=w3.1.size:=by omega
  have Z:=gQq (And.intro co (And.intro cp (And.intro cq bT)));have ep:=gQq (bX.out.trans (bT.mono bX.out.size));clear d2 co cp cq bT d3 z0 d4
  gi_wp2
  refine qW (gf:=136) rfl (enters_of func136 (by kernel_rfl) rfl) ?_;intro fn;generalize hrec:jl fn _ _ _ _ _=rec;have fc:w.1.size+3<=w1.1.size:=by omega
  have bk:w.1.size<=w3.1.size:=by omega
  have ab:=gQq hrec;clear hrec;refine(sd d9.out.encode s p c l q d (w1.1.size+1) (w1.1.size+1+1) (w3.1.size+1) (fun i W=>∃v,ed w w3 w1.1.size (rec .ready I) v (Bt.bytes (l.take i)) W) (fun J W=>xx w w3 (rec .done (U .ret)) J W) _ ?hJb ?hJn ?h0 ?good ?bad).mono ?_;case hJb=>
    rintro i W ⟨v,h⟩;exact⟨ea.out.on h.below,d8.out.on h.below,(h.same _ (by omega) (by omega)).trans Z.out.2.1,(h.same _ (by omega) (by omega)).trans Z.out.2.2.1⟩
  case hJn=>
    rintro i W W' ⟨v,h⟩ hb;exact⟨v,h.on hb⟩
  case h0=>
    obtain⟨eg,el,b4,e2⟩:=al2 w3 (.deferred (U [])) (.loop (rec .ready I));exact⟨Y I 0 0,ep.out.trans (b4.mono bk),fun k a7 _=>b4.block k a7,bP Z.out.1 b4 (by omega),bF _ _,eg,el,by omega⟩
  case good=>
    rintro m i dj W d5 cap ⟨v,h⟩ dv a6 a5;have D:(Bt.bytes (l.take i)).length+(Rw.bytes l[i]).length<=140737488355328:=by
      have e5:=Bt.bytes_bound (Bt.rowsErr_take i dv);have e6:=(Rw.err_open a6).2.2.2;have e7:(l.take i).length<=l.length:=(by rw[AA];omega);have e8:=Bt.numErr_open d7.out;omega
    have M:=h.lp;rw[<-ab.out] at M;have hb:ed w w3 w1.1.size (rec .busy I) v (Bt.bytes (l.take i)) (W.putObj (w3.1.size+1) (.loop (rec .busy I))):=h.turn bk (by omega) _;have cb:At (W.putObj (w3.1.size+1) (.loop (rec .busy I))) d5 (Rw.bytes l[i]):=a5.turn h.lp _;rw[<-ab.out] at hb cb;refine ku (R:=fun b W'=>b=true∧∃v,ed w w3 w1.1.size (rec .ready I) v (Bt.bytes (l.take (i+1))) W') M rfl ?_;have X:=gQq hb;have ct:=gQq cb;have e0:=gQq a6;have n7:=ay hb.box;have b1:=gQq M;clear a5 cb a6 dv M hb
    gi_wp2
    refine⟨b1.out,?_⟩
    gi_wp2_with (first
      | (gi_at_builtin
         refine nQ X.out.has ct.out D X.out.size rfl rfl rfl rfl rfl ?_;intro ys eL em e1 ec bj c7 _;obtain⟨cc,dr⟩:=X.out.more (by omega) (by omega) c7 bj;have n8:=ay cc;have e3:=cG cc;have cx:=gQq dr;clear bj c7 cc dr)
      |fail)
    refine⟨cx.out.lp,rfl,Y eL ys.length em,?_⟩;have d1:=cx.out.turn bk (by omega) (rec .ready I);rw[<-ab.out] at d1 ⊢;have ez:ys=Bt.bytes (l.take (i+1)):=(by rw[ec.out,Bt.bytes_take l i dj]);rw[<-ez];exact d1
  case bad=>
    rintro m i dj W d5 cap ⟨v,h⟩ a6;obtain⟨J,df⟩:∃J,J=Rw.err s l[i]:=⟨_,rfl⟩;rw[<-df] at a6 ⊢;have e4:((J:Int) != 0)=true:=cE (by omega);have M:=h.lp;rw[<-ab.out] at M;have hb:ed w w3 w1.1.size (rec .busy I) v (Bt.bytes (l.take i)) (W.putObj (w3.1.size+1) (.loop (rec .busy I))):=h.turn bk (by omega) _;rw[<-ab.out] at hb;refine ku (R:=fun b W'=>b=false∧xx w w3 (rec .done (U .ret)) J W') M rfl ?_;have y:W.1[w.1.size+1]?=U (N #[Y I 0 0] 40 (0,0)):=(h.same _ (by omega) (by omega)).trans (bP aw.out.2.1 Z.out.2.2.2 (by omega));have A:W.1[w.1.size+1+1]?=U (N #[F C 0] 25 (0,0)):=(h.same _ (by omega) (by omega)).trans (bP aw.out.2.2 Z.out.2.2.2 (by omega));obtain⟨a1,a4⟩:∃a1,a1=W.putObj (w3.1.size+1) (.loop (rec .busy I)):=⟨_,rfl⟩;have bs:a1.1[w.1.size+1]?=U (N #[Y I 0 0] 40 (0,0)):=(by rw[a4];exact(World.putObj_heap_other (by omega)).trans y);have bv:a1.1[w.1.size+1+1]?=U (N #[F C 0] 25 (0,0)):=(by rw[a4];exact(World.putObj_heap_other (by omega)).trans A);rw[<-ab.out] at a4;rw[<-a4] at hb;have X:=gQq hb;have b1:=gQq M;have cr:=ay bs;have f1:=cG bs;have cs:=ay bv;have b5:=cG bv;have cv:=gQq (And.intro bs bv);have eb:=gQq a4;clear M hb y A bs bv a4 h df a6
    gi_wp2
    refine⟨b1.out,?_⟩;rw[<-eb.out]
    gi_wp2
    have c2:=an (aK cv.out.2 ⟨w.1.size+1,0,I⟩ (Y I 0 0) (by simp)) 0 (F C J);have c1:=aK (an cv.out.1 0 (Y I 0 0)) ⟨w.1.size+1+1,0,I⟩ (F C J) (by simp);have d0:∀k,w.1.size+2<k->((a1.setCell ⟨w.1.size+1,0,I⟩ (Y I 0 0)).setCell ⟨w.1.size+1+1,0,I⟩ (F C J)).1[k]?=a1.1[k]?:=fun k a7=>by
      rw[Below.heap_setCell _ _ _ _ (by simp;omega),Below.heap_setCell _ _ _ _ (by simp;omega)]
    have D:=((X.out.below.setCell (p:=⟨w.1.size+1,0,I⟩) (by simp) (Y I 0 0)).setCell (p:=⟨w.1.size+1+1,0,I⟩) (by simp;omega) (F C J));have du:=(d0 (w3.1.size+1) (by omega)).trans X.out.lp;have er:=(d0 w3.1.size (by omega)).trans X.out.dfr;refine⟨du,rfl,?_⟩;rw[ab.out];exact⟨D.trans (db _ (by omega) D.size),(World.putObj_heap_other (by omega)).trans (by simpa using c1),(World.putObj_heap_other (by omega)).trans (by simpa using c2),(World.putObj_heap_other (by omega)).trans er,World.putObj_heap_same (ao du),by omega⟩
  rintro e c5 ⟨⟨fq,rfl⟩,⟨a8,v,bN⟩ | ⟨a8,b9⟩⟩
  · rw[List.take_length] at bN;have S:=bN.turn bk (by omega) (rec .exhausted I);refine⟨⟨_,rfl⟩,.inl ⟨bN.lp,?_⟩⟩;obtain⟨ah,c6⟩:∃ah,ah=c5.putObj (w3.1.size+1) (.loop (rec .exhausted I)):=⟨_,rfl⟩;rw[<-c6] at S ⊢;obtain⟨a9,a2,rfl,a5,c9⟩:=S.has.at;have bb:=gQq (bp.out.trans (AJ (by rw[a8];simp)));have y:ah.1[w.1.size+1]?=U (N #[Y I 0 0] 40 (0,0)):=(S.same _ (by omega) (by omega)).trans (bP aw.out.2.1 Z.out.2.2.2 (by omega));have A:ah.1[w.1.size+1+1]?=U (N #[F C 0] 25 (0,0)):=(S.same _ (by omega) (by omega)).trans (bP aw.out.2.2 Z.out.2.2.2 (by omega));obtain⟨L,c8⟩:∃L,L=Bt.bytes l:=⟨_,rfl⟩;rw[<-c8] at S a5 c9 bb K;have ak:=gQq S;have ct:=gQq a5;have n7:=ay S.box;have cr:=ay y;have f1:=cG y;have cs:=ay A;have b5:=cG A;have bl:=gQq (And.intro y A);clear bN S a5 y A c6 a8 c8 bp;by_cases ds:2048<L.length
    · have E:Hid (R=2):=bb.out.trans (AK ds);have HOn:Hid (O=[]):=(by show _=_;rw[K.out,E.out,AJ (by decide)]);clear bb K
      gi_wp2
      have c2:=an (aK bl.out.2 ⟨w.1.size+1,0,I⟩ (Y I 0 0) (by simp)) 0 (F C 2);have c1:=aK (an bl.out.1 0 (Y I 0 0)) ⟨w.1.size+1+1,0,I⟩ (F C 2) (by simp);have bi:((ah.setCell ⟨w.1.size+1,0,I⟩ (Y I 0 0)).setCell ⟨w.1.size+1+1,0,I⟩ (F C 2)).1[w3.1.size]?=U (.deferred (U [])):=by
        rw[Below.heap_setCell _ _ _ _ (by simp;omega),Below.heap_setCell _ _ _ _ (by simp;omega)];exact ak.out.dfr
      have D:=((ak.out.below.setCell (p:=⟨w.1.size+1,0,I⟩) (by simp) (Y I 0 0)).setCell (p:=⟨w.1.size+1+1,0,I⟩) (by simp;omega) (F C 2));refine⟨by simp,.inl ⟨_,_,rfl,run_takeDeferred bi,?_⟩⟩;refine⟨_,dQ rfl _ _ (w.1.size+1) (w.1.size+1+1) _ _ rfl (ay ((World.putObj_heap_other (by omega)).trans c1)) underlying40 rfl (ay ((World.putObj_heap_other (by omega)).trans c2)) underlying25,?_⟩;exact⟨I,0,by rw[HOn.out,E.out];rfl,by rw[HOn.out];exact .inl rfl,by rw[HOn.out];exact gQx,D.trans (db _ (by omega) D.size)⟩
    · have E:Hid (R=0):=bb.out.trans (AJ ds);have HOn:Hid (O=L):=(by show _=_;rw[K.out,E.out,AK rfl]);clear bb K
      gi_wp2
      have c2:=an (aK bl.out.2 ⟨w.1.size+1,0,I⟩ (Y a9 L.length a2) (by simp)) 0 (F C 0);have c1:=aK (an bl.out.1 0 (Y a9 L.length a2)) ⟨w.1.size+1+1,0,I⟩ (F C 0) (by simp);have bi:((ah.setCell ⟨w.1.size+1,0,I⟩ (Y a9 L.length a2)).setCell ⟨w.1.size+1+1,0,I⟩ (F C 0)).1[w3.1.size]?=U (.deferred (U [])):=by
        rw[Below.heap_setCell _ _ _ _ (by simp;omega),Below.heap_setCell _ _ _ _ (by simp;omega)];exact ak.out.dfr
      have D:=((ak.out.below.setCell (p:=⟨w.1.size+1,0,I⟩) (by simp) (Y a9 L.length a2)).setCell (p:=⟨w.1.size+1+1,0,I⟩) (by simp;omega) (F C 0));have bj:Has _ _ _ _:=(ak.out.has.aside ((((Aside.refl (fun k=>k<w3.1.size+1) ah).setCell (p:=⟨w.1.size+1,0,I⟩) (.inl (by simp;omega)) (Y a9 L.length a2)).setCell (p:=⟨w.1.size+1+1,0,I⟩) (.inl (by simp;omega)) (F C 0))) (fun k a7 eq=>by have:=(ak.out.has.lt k a7).1;omega));have ev:=bj.aside (ft (l:=w3.1.size) (.deferred I)) (fun k a7 eq=>by have:=(bj.lt k a7).1;omega);refine⟨by simp,.inl ⟨_,_,rfl,run_takeDeferred bi,?_⟩⟩;refine⟨_,dQ rfl _ _ (w.1.size+1) (w.1.size+1+1) _ _ rfl (ay ((World.putObj_heap_other (by omega)).trans c1)) underlying40 rfl (ay ((World.putObj_heap_other (by omega)).trans c2)) underlying25,?_⟩;exact⟨a9,a2,by rw[HOn.out,E.out];rfl,by rw[HOn.out];exact ev.here,by rw[HOn.out];exact c9,D.trans (db _ (by omega) D.size)⟩
  · refine⟨⟨_,rfl⟩,.inr ⟨b9.lp,?_⟩⟩;have bc:=gQq b9;have E:Hid (R=Bt.rowsErr s l):=bp.out.trans (AK a8);have HOn:Hid (O=[]):=(by show _=_;rw[K.out,E.out,AJ a8]);clear b9 a8 bp K
    gi_wp2
    have bi:(c5.putObj (w3.1.size+1) (.loop (rec .exhausted (U .ret)))).1[w3.1.size]?=U (.deferred (U [])):=(World.putObj_heap_other (by omega)).trans bc.out.dfr;have D:=bc.out.below.trans (db (l:=w3.1.size+1) (.loop (rec .exhausted (U .ret))) (by omega) bc.out.below.size);refine⟨by simp,.inl ⟨_,_,rfl,run_takeDeferred bi,?_⟩⟩;refine⟨_,dQ rfl _ _ (w.1.size+1) (w.1.size+1+1) _ _ rfl (ay ((World.putObj_heap_other (by omega)).trans ((World.putObj_heap_other (by omega)).trans bc.out.r1))) underlying40 rfl (ay ((World.putObj_heap_other (by omega)).trans ((World.putObj_heap_other (by omega)).trans bc.out.r2))) underlying25,?_⟩;exact⟨I,0,by rw[HOn.out,E.out];rfl,by rw[HOn.out];exact .inl rfl,by rw[HOn.out];exact gQx,D.trans (db _ (by omega) D.size)⟩
end
section
open Go.RowKit
attribute [local go_sem] ai
theorem xN(bb:RowsIn)(s:List Col)(p:OA)(c:Nat)(l:List (List V))(q:OA)(d:Nat)(w:World)(bk:dZ w p c s)(bj:cP w q d l):
  Calls Tryz.prog 54 #[.agg #[Y p s.length c],Y q l.length d] w (zI w (Bt.pack s l)):=by
 obtain⟨K,ak⟩:∃K,K=w.alloc (N #[Y p s.length c] 35):=⟨_,rfl⟩;have L:Below w.1.size w K:=by rw[ak];exact gQy
 have S:=gQq (zq bb s p c l q d K (bk.on L) (bj.on L));obtain⟨P,A⟩:∃P,P=Bt.pack s l:=⟨_,rfl⟩;rw[<-A];unfold Bt.pack at A;have a0:=fun h=>(Bt.err_open (s:=s) (l:=l) h).2.2;have ah:Bt.out s l=if Bt.err s l=0 then Bt.bytes l else []:=rfl;obtain⟨R,D⟩:∃R,R=Bt.err s l:=⟨_,rfl⟩;obtain⟨y,aj⟩:∃y,y=Bt.out s l:=⟨_,rfl⟩;obtain⟨Z,M⟩:∃Z,Z=Bt.bytes l:=⟨_,rfl⟩;rw[<-aj,<-D,<-M] at ah;rw[<-D,<-aj] at S;rw[<-D,<-M] at A;rw[<-D,<-M] at a0;have a1:=gQq L;have bc:=gQq ak;have E:=gQq A;have X:=gQq ah;have Q:=gQq a0;clear L ak D ah aj A M a0;go_enter func54,ntmps54;go_wp2_with fail;rw[<-bc.out];refine S.out.mono ?_;rintro e w1 ⟨bp,c1,rfl,aw,bl,a4⟩;have ab:=a1.out.trans (a4.mono a1.out.size);have a2:=gQq ab;have a7:=ab.size;clear a4 S ab;by_cases o:R=0
 ·have be:y=Z:=by rw[X.out,AK o]
  subst be;have J:Hid (P=Blk.pack y):=by show _=_;rw[E.out,AK o]
  have bs:=Q.out o;have a3:=gQq (yX y bp c1 w1 (by omega) bl aw);have bi:((R:Int) != 0)=false:=bZ (by omega);rw[<-J.out] at a3;clear E X Q aw o J;go_wp2_with fail;refine a3.out.mono ?_;rintro e bN ⟨bq,bv,c2,rfl,bn,a6,a5⟩;subst bn;have a9:=gQq a6;have a8:=gQq (a2.out.trans (a5.mono a7));clear a6 a5;go_wp2;go_ret2;exact⟨bq,_,c2,rfl,rfl,a9.out.lower a7,a8.out⟩
 ·have J:Hid (P=⟨R,[]⟩):=by show _=_;rw[E.out,AJ o]
  have bi:((R:Int) != 0)=true:=cE (by omega);clear E X Q aw o;go_wp2;go_ret2;rw[J.out];exact⟨I,0,0,rfl,rfl,bF _ _,a2.out⟩
end
end Go.Proofs.YtngmnfdaedlodaaGreatDoor
