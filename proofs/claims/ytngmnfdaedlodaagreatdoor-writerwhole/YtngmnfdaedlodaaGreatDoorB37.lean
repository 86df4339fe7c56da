import Derived.Test.YtngmnfdaedlodaaGreatDoorB36
import Derived.Test.YtngmnfdaedlodaaGreatDoorB35
set_option maxRecDepth 100000
set_option maxHeartbeats 2000000
namespace Go.Proofs.YtngmnfdaedlodaaGreatDoor
open Go.Proofs.Tryz
open Option renaming none->I,some->U
open Go.Value renaming slice->Y,int->F
open Go.IntKind renaming i64->C
open Go.Obj renaming cells->N
section
open Go.RowKit Go.Shelf
attribute [local go_sem] al Oper.semAt_some
theorem uD(s:List Col)(p:OA)(c:Nat)(n:Nat)(q:OA)(d:Nat)(w:World):
  Calls Tryz.prog 107 #[.agg #[Y p s.length c],Y q n d] w fun e w'=>e=.returned (.func (.func 136) #[] #[.pointer (U ⟨w.1.size+1,0,I⟩),.pointer (U ⟨w.1.size,0,I⟩)])∧w'=(w.alloc (N #[Y p s.length c] 35)).alloc (N #[Y q n d] 36):=by
 go_enter func107,ntmps107;go_wp2;go_ret;exact⟨rfl,rfl⟩
theorem dT{P:Program}{fn:Func}{p q:Tmp}{y A e:TypeId}(h:fn.results=#[.cell p y,.cell q A])(tmps:AV)(w:World)(g o:Nat)(v:Value)(x:Int)(L:tmps.getD p undef=.pointer (U ⟨g,0,I⟩))(J:w.cell? ⟨g,0,I⟩=U v)(V:P.underlying y=U (.slice e))(Q:tmps.getD q undef=.pointer (U ⟨o,0,I⟩))(K:w.cell? ⟨o,0,I⟩=U (F C x))(X:P.underlying A=U (.int C)):
  (results fn tmps).run P w=.ok (.tuple #[v,F C x]) w:=by
 have M:tmps[p]?.getD undef=.pointer (U ⟨g,0,I⟩):=by simpa using L
 have S:tmps[q]?.getD undef=.pointer (U ⟨o,0,I⟩):=by simpa using Q
 have D:(loadVar y ⟨g,0,I⟩).run P w=.ok v w:=by
  simp[go_sem,isAgg,run_underlying V,J]
 have E:(loadVar A ⟨o,0,I⟩).run P w=.ok (F C x) w:=by
  simp[go_sem,isAgg,run_underlying X,K]
 simp[results,h,M,S,asAddr,D,E]
structure eh(w w3:World)(B:Nat)(rec:Loop)(v:Value)(xs:L8)(W:World):Prop where
 below:Below w.1.size w W
 same:∀k,k<w3.1.size->k≠B->W.1[k]?=w3.1[k]?
 box:W.1[B]?=U (N #[v] 40 (0,0))
 has:Has W (w3.1.size+2) v xs
 dfr:W.1[w3.1.size]?=U (.deferred (U []))
 lp:W.1[w3.1.size+1]?=U (.loop rec)
 size:w3.1.size+2<=W.1.size
structure xJ(w w3:World)(rec:Loop)(er:Nat)(W:World):Prop where
 below:Below w.1.size w W
 r1:W.1[w.1.size+1]?=U (N #[Y I 0 0] 40 (0,0))
 r2:W.1[w.1.size+1+1]?=U (N #[F C er] 25 (0,0))
 dfr:W.1[w3.1.size]?=U (.deferred (U []))
 lp:W.1[w3.1.size+1]?=U (.loop rec)
 far:w.1.size+3<=w3.1.size
section
variable {w w3 W W':World} {B:Nat} {rec:Loop} {v v':Value} {xs ys:L8}
theorem eh.on(h:eh w w3 B rec v xs W)(hb:Below W.1.size W W'):eh w w3 B rec v xs W':=by
 have E:=h.size;have D:=h.below.size;have o:=ap h.box;exact⟨h.below.trans (hb.mono D),fun k y A=>(hb.block k (by omega)).trans (h.same k y A),bQ h.box hb o,h.has.on hb,bQ h.dfr hb (by omega),bQ h.lp hb (by omega),by have:=hb.size;omega⟩
theorem eh.turn(h:eh w w3 B rec v xs W)(K:w.1.size<=w3.1.size)(D:B<w3.1.size)(y:Loop):eh w w3 B y v xs (W.putObj (w3.1.size+1) (.loop y)):=by
 have J:=h.size;refine⟨h.below.trans (dc _ (by omega) h.below.size),fun k o A=>(World.putObj_heap_other (by omega)).trans (h.same k o A),(World.putObj_heap_other (by omega)).trans h.box,h.has.aside (fz _) (fun k o E=>?_),(World.putObj_heap_other (by omega)).trans h.dfr,World.putObj_heap_same (by omega),by simp;omega⟩;have:=(h.has.lt k o).1;omega
theorem eh.more(h:eh w w3 B rec v xs W)(M:w.1.size<=B)(Q:B<w3.1.size)(A:Aside (fun k=>v.ownBlock=U k) W W')(J:Has W' (w3.1.size+2) v' ys):
  W'.1[B]?=U (N #[v] 40 (0,0))∧eh w w3 B rec v' ys (W'.setCell ⟨B,0,I⟩ v'):=by
 have S:=h.size;have hold:∀k,k<w3.1.size+2->W'.1[k]?=W.1[k]?:=fun k o=>A.block k (by omega) (fun y=>by have:=(h.has.lt k y).1;omega);have E:W'.1[B]?=U (N #[v] 40 (0,0)):=(hold B (by omega)).trans h.box;have D:∀k,k≠B->(W'.setCell ⟨B,0,I⟩ v').1[k]?=W'.1[k]?:=fun k o=>Below.heap_setCell _ _ _ _ o;have L:Below w.1.size W W':=A.below h.below.size (fun k o y=>by have:=(h.has.lt k y).1;omega);refine⟨E,⟨(h.below.trans L).setCell (p:=⟨B,0,I⟩) M _,fun k o K=>?_,by simpa using ao E 0 v',?_,?_,?_,?_⟩⟩
 ·rw[D k K,hold k (by omega)];exact h.same k o K
 ·exact J.aside ((Aside.refl (fun k=>k=B) W').setCell (p:=⟨B,0,I⟩) (.inl rfl) v') (fun k o y=>by have:=(J.lt k o).1;omega)
 ·rw[D _ (by omega),hold _ (by omega)];exact h.dfr
 ·rw[D _ (by omega),hold _ (by omega)];exact h.lp
 ·have:=A.size;have:(W'.setCell ⟨B,0,I⟩ v').1.size=W'.1.size:=by simp[World.setCell]
  omega
end
theorem zH(b1:RowsIn)(s:List Col)(p:OA)(c:Nat)(l:List (List V))(q:OA)(d:Nat)(w:World)(b6:ef w p c s)(b5:cQ w q d l):
    Calls Tryz.prog 78 #[.agg #[Y p s.length c],Y q l.length d] w (Told w (Bt.err s l) (Bt.out s l)):=by
  have e8:=b5.len;obtain⟨b2,b7⟩:∃b2,b2=((w.alloc (N #[Y p s.length c] 35)).alloc (N #[Y I 0 0] 40)).alloc (N #[F C 0] 25):=⟨_,rfl⟩;obtain⟨ci,cj,ck,bN,ev⟩:=al3 w (N #[Y p s.length c] 35) (N #[Y I 0 0] 40) (N #[F C 0] 25);rw[<-b7] at ci cj ck bN ev;have bX:=gQq (wV b1 s p c l.length b2 (b6.on bN));have bl:=gQq (And.intro ci (And.intro cj ck));have ct:=gQq bN;have cx:=gQq b7;have d9:=gQq b6;have d7:=gQq b5;have d8:=gQq b1;obtain⟨R,a2⟩:∃R,R=Bt.err s l:=⟨_,rfl⟩;obtain⟨O,bc⟩:∃O,O=Bt.out s l:=⟨_,rfl⟩;rw[<-a2,<-bc];unfold Bt.out at bc;rw[<-a2] at bc;unfold Bt.err at a2;obtain⟨Q,cc⟩:∃Q,Q=Bt.numErr s l.length:=⟨_,rfl⟩;rw[<-cc] at bX a2;have bp:=gQq a2;have K:=gQq bc;have cv:=gQq cc;clear bN b7 b6 b5 b1 a2 bc cc ci cj ck;refine(callsIn_wide (n:=5)).1 ?_;refine callsIn_of_wp_marks func78 rfl trivial ?_ rfl;simp only[ntmps78,List.size_toArray,AI,List.length_nil,Nat.reduceAdd,Nat.reduceSub,Array.replicate_succ,Array.replicate_zero,List.push_toArray,List.append_toArray,List.nil_append,List.cons_append]
  gi_wp2
  refine⟨trivial,?_⟩;rw[<-cx.out];refine(callsIn_wide.2 bX.out).mono ?_;rintro e w1 ⟨rfl,ai⟩;have d5:=gQq ai;have bT:=gQq (ct.out.trans (ai.mono ct.out.size));have fi:=ai.size;have cd:=bQ bl.out.1 ai (by omega);have y:=bQ bl.out.2.1 ai (by omega);have A:=bQ bl.out.2.2 ai (by omega);have d3:=az cd;have cq:=az y;have cr:=az A;have f1:=cG y;have b4:=cG A;have ak:=gQq (And.intro cd (And.intro y A));clear ai bX cx bl d5 cd y A;by_cases h0:Q≠0
  · have em:((Q:Int) != 0)=true:=cE (by omega);have E:Hid (R=Q):=bp.out.trans (AG h0);have HOn:Hid (O=[]):=(by show _=_;rw[K.out,E.out,AF h0]);clear bp h0 K
    gi_wp2
    have A:=ao (aL ak.out.2.2 ⟨w.1.size+1,0,I⟩ (Y I 0 0) (by simp)) 0 (F C Q);have y:=aL (ao ak.out.2.1 0 (Y I 0 0)) ⟨w.1.size+1+1,0,I⟩ (F C Q) (by simp);refine⟨_,dT rfl _ _ (w.1.size+1) (w.1.size+1+1) _ _ rfl (az y) underlying40 rfl (az A) underlying25,?_⟩;refine⟨I,0,by rw[HOn.out,E.out];rfl,by rw[HOn.out];exact .inl rfl,by rw[HOn.out];exact gQx,?_⟩;exact(bT.out.setCell (p:=⟨w.1.size+1,0,I⟩) (by simp) _).setCell (p:=⟨w.1.size+1+1,0,I⟩) (by simp;omega) _
  have em:((Q:Int) != 0)=false:=ca (by omega);have bn:=gQq (bp.out.trans (AF h0));have d6:Hid (Bt.numErr s l.length=0):=by show _=0;rw[<-cv.out];omega
  clear bp h0 cv;have z0:=fun o=>ae ((Below.refl w1.1.size w1).alloc gQx o) d3;clear cq cr f1 b4
  gi_wp2
  refine⟨trivial,?_⟩;refine(callsIn_wide.2 (uD s p c l.length q d _)).mono ?_;rintro e w3 ⟨rfl,d1⟩;obtain⟨cn,co,cp,bO,d2⟩:=al3 w1 (N #[Y I 0 0] 40) (N #[Y p s.length c] 35) (N #[Y q l.length d] 36);rw[<-d1] at cn co cp bO d2;have fc:w1.1.size+3<=w3.1.size:=by omega
  have Z:=gQq (And.intro cn (And.intro co (And.intro cp bO)));have en:=gQq (bT.out.trans (bO.mono bT.out.size));clear d1 cn co cp bO d2 z0 d3
  gi_wp2
  refine rh (gf:=136) rfl (enters_of func136 (by kernel_rfl) rfl) ?_;intro fn;generalize hrec:jp fn _ _ _ _ _=rec;have e9:w.1.size+3<=w1.1.size:=by omega
  have bj:w.1.size<=w3.1.size:=by omega
  have ab:=gQq hrec;clear hrec;refine(su d8.out.encode s p c l q d (w1.1.size+1) (w1.1.size+1+1) (w3.1.size+1) (fun i W=>∃v,eh w w3 w1.1.size (rec .ready I) v (Bt.bytes (l.take i)) W) (fun J W=>xJ w w3 (rec .done (U .ret)) J W) _ ?hJb ?hJn ?h0 ?good ?bad).mono ?_;case hJb=>
    rintro i W ⟨v,h⟩;exact⟨d9.out.on h.below,d7.out.on h.below,(h.same _ (by omega) (by omega)).trans Z.out.2.1,(h.same _ (by omega) (by omega)).trans Z.out.2.2.1⟩
  case hJn=>
    rintro i W W' ⟨v,h⟩ hb;exact⟨v,h.on hb⟩
  case h0=>
    obtain⟨ec,eg,b3,e1⟩:=al2 w3 (.deferred (U [])) (.loop (rec .ready I));exact⟨Y I 0 0,en.out.trans (b3.mono bj),fun k a6 _=>b3.block k a6,bQ Z.out.1 b3 (by omega),bG _ _,ec,eg,by omega⟩
  case good=>
    rintro m i df W d4 cap ⟨v,h⟩ du a5 a4;have D:(Bt.bytes (l.take i)).length+(Rw.bytes l[i]).length<=140737488355328:=by
      have e4:=Bt.bytes_bound (Bt.rowsErr_take i du);have e5:=(Rw.err_open a5).2.2.2;have e6:(l.take i).length<=l.length:=(by rw[AM];omega);have e7:=Bt.numErr_open d6.out;omega
    have M:=h.lp;rw[<-ab.out] at M;have hb:eh w w3 w1.1.size (rec .busy I) v (Bt.bytes (l.take i)) (W.putObj (w3.1.size+1) (.loop (rec .busy I))):=h.turn bj (by omega) _;have b9:At (W.putObj (w3.1.size+1) (.loop (rec .busy I))) d4 (Rw.bytes l[i]):=a4.turn h.lp _;rw[<-ab.out] at hb b9;refine kB (R:=fun b W'=>b=true∧∃v,eh w w3 w1.1.size (rec .ready I) v (Bt.bytes (l.take (i+1))) W') M rfl ?_;have X:=gQq hb;have cs:=gQq b9;have eL:=gQq a5;have n7:=az hb.box;have b0:=gQq M;clear a4 b9 a5 du M hb
    gi_wp2
    refine⟨b0.out,?_⟩
    gi_wp2_with (first
      | (gi_at_builtin
         refine oa X.out.has cs.out D X.out.size rfl rfl rfl rfl rfl ?_;intro ys eC el e0 eb bi c6 _;obtain⟨cb,dj⟩:=X.out.more (by omega) (by omega) c6 bi;have n8:=az cb;have e2:=cG cb;have cw:=gQq dj;clear bi c6 cb dj)
      |fail)
    refine⟨cw.out.lp,rfl,Y eC ys.length el,?_⟩;have d0:=cw.out.turn bj (by omega) (rec .ready I);rw[<-ab.out] at d0 ⊢;have ew:ys=Bt.bytes (l.take (i+1)):=(by rw[eb.out,Bt.bytes_take l i df]);rw[<-ew];exact d0
  case bad=>
    rintro m i df W d4 cap ⟨v,h⟩ a5;obtain⟨J,c9⟩:∃J,J=Rw.err s l[i]:=⟨_,rfl⟩;rw[<-c9] at a5 ⊢;have e3:((J:Int) != 0)=true:=cE (by omega);have M:=h.lp;rw[<-ab.out] at M;have hb:eh w w3 w1.1.size (rec .busy I) v (Bt.bytes (l.take i)) (W.putObj (w3.1.size+1) (.loop (rec .busy I))):=h.turn bj (by omega) _;rw[<-ab.out] at hb;refine kB (R:=fun b W'=>b=false∧xJ w w3 (rec .done (U .ret)) J W') M rfl ?_;have y:W.1[w.1.size+1]?=U (N #[Y I 0 0] 40 (0,0)):=(h.same _ (by omega) (by omega)).trans (bQ ak.out.2.1 Z.out.2.2.2 (by omega));have A:W.1[w.1.size+1+1]?=U (N #[F C 0] 25 (0,0)):=(h.same _ (by omega) (by omega)).trans (bQ ak.out.2.2 Z.out.2.2.2 (by omega));obtain⟨a0,a3⟩:∃a0,a0=W.putObj (w3.1.size+1) (.loop (rec .busy I)):=⟨_,rfl⟩;have bq:a0.1[w.1.size+1]?=U (N #[Y I 0 0] 40 (0,0)):=(by rw[a3];exact(World.putObj_heap_other (by omega)).trans y);have bs:a0.1[w.1.size+1+1]?=U (N #[F C 0] 25 (0,0)):=(by rw[a3];exact(World.putObj_heap_other (by omega)).trans A);rw[<-ab.out] at a3;rw[<-a3] at hb;have X:=gQq hb;have b0:=gQq M;have cq:=az bq;have f1:=cG bq;have cr:=az bs;have b4:=cG bs;have cu:=gQq (And.intro bq bs);have ea:=gQq a3;clear M hb y A bq bs a3 h c9 a5
    gi_wp2
    refine⟨b0.out,?_⟩;rw[<-ea.out]
    gi_wp2
    have c2:=ao (aL cu.out.2 ⟨w.1.size+1,0,I⟩ (Y I 0 0) (by simp)) 0 (F C J);have c1:=aL (ao cu.out.1 0 (Y I 0 0)) ⟨w.1.size+1+1,0,I⟩ (F C J) (by simp);have dv:∀k,w.1.size+2<k->((a0.setCell ⟨w.1.size+1,0,I⟩ (Y I 0 0)).setCell ⟨w.1.size+1+1,0,I⟩ (F C J)).1[k]?=a0.1[k]?:=fun k a6=>by
      rw[Below.heap_setCell _ _ _ _ (by simp;omega),Below.heap_setCell _ _ _ _ (by simp;omega)]
    have D:=((X.out.below.setCell (p:=⟨w.1.size+1,0,I⟩) (by simp) (Y I 0 0)).setCell (p:=⟨w.1.size+1+1,0,I⟩) (by simp;omega) (F C J));have ds:=(dv (w3.1.size+1) (by omega)).trans X.out.lp;have eq:=(dv w3.1.size (by omega)).trans X.out.dfr;refine⟨ds,rfl,?_⟩;rw[ab.out];exact⟨D.trans (dc _ (by omega) D.size),(World.putObj_heap_other (by omega)).trans (by simpa using c1),(World.putObj_heap_other (by omega)).trans (by simpa using c2),(World.putObj_heap_other (by omega)).trans eq,World.putObj_heap_same (ap ds),by omega⟩
  rintro e cy ⟨⟨fo,rfl⟩,⟨a7,v,bv⟩ | ⟨a7,b8⟩⟩
  · rw[List.take_length] at bv;have S:=bv.turn bj (by omega) (rec .exhausted I);refine⟨⟨_,rfl⟩,.inl ⟨bv.lp,?_⟩⟩;obtain⟨ah,c5⟩:∃ah,ah=cy.putObj (w3.1.size+1) (.loop (rec .exhausted I)):=⟨_,rfl⟩;rw[<-c5] at S ⊢;obtain⟨a8,a1,rfl,a4,c8⟩:=S.has.at;have a9:=gQq (bn.out.trans (AF (by rw[a7];simp)));have y:ah.1[w.1.size+1]?=U (N #[Y I 0 0] 40 (0,0)):=(S.same _ (by omega) (by omega)).trans (bQ ak.out.2.1 Z.out.2.2.2 (by omega));have A:ah.1[w.1.size+1+1]?=U (N #[F C 0] 25 (0,0)):=(S.same _ (by omega) (by omega)).trans (bQ ak.out.2.2 Z.out.2.2.2 (by omega));obtain⟨L,c7⟩:∃L,L=Bt.bytes l:=⟨_,rfl⟩;rw[<-c7] at S a4 c8 a9 K;have aj:=gQq S;have cs:=gQq a4;have n7:=az S.box;have cq:=az y;have f1:=cG y;have cr:=az A;have b4:=cG A;have bk:=gQq (And.intro y A);clear bv S a4 y A c5 a7 c7 bn;by_cases dr:2048<L.length
    · have E:Hid (R=2):=a9.out.trans (AG dr);have HOn:Hid (O=[]):=(by show _=_;rw[K.out,E.out,AF (by decide)]);clear a9 K
      gi_wp2
      have c2:=ao (aL bk.out.2 ⟨w.1.size+1,0,I⟩ (Y I 0 0) (by simp)) 0 (F C 2);have c1:=aL (ao bk.out.1 0 (Y I 0 0)) ⟨w.1.size+1+1,0,I⟩ (F C 2) (by simp);have be:((ah.setCell ⟨w.1.size+1,0,I⟩ (Y I 0 0)).setCell ⟨w.1.size+1+1,0,I⟩ (F C 2)).1[w3.1.size]?=U (.deferred (U [])):=by
        rw[Below.heap_setCell _ _ _ _ (by simp;omega),Below.heap_setCell _ _ _ _ (by simp;omega)];exact aj.out.dfr
      have D:=((aj.out.below.setCell (p:=⟨w.1.size+1,0,I⟩) (by simp) (Y I 0 0)).setCell (p:=⟨w.1.size+1+1,0,I⟩) (by simp;omega) (F C 2));refine⟨by simp,.inl ⟨_,_,rfl,run_takeDeferred be,?_⟩⟩;refine⟨_,dT rfl _ _ (w.1.size+1) (w.1.size+1+1) _ _ rfl (az ((World.putObj_heap_other (by omega)).trans c1)) underlying40 rfl (az ((World.putObj_heap_other (by omega)).trans c2)) underlying25,?_⟩;exact⟨I,0,by rw[HOn.out,E.out];rfl,by rw[HOn.out];exact .inl rfl,by rw[HOn.out];exact gQx,D.trans (dc _ (by omega) D.size)⟩
    · have E:Hid (R=0):=a9.out.trans (AF dr);have HOn:Hid (O=L):=(by show _=_;rw[K.out,E.out,AG rfl]);clear a9 K
      gi_wp2
      have c2:=ao (aL bk.out.2 ⟨w.1.size+1,0,I⟩ (Y a8 L.length a1) (by simp)) 0 (F C 0);have c1:=aL (ao bk.out.1 0 (Y a8 L.length a1)) ⟨w.1.size+1+1,0,I⟩ (F C 0) (by simp);have be:((ah.setCell ⟨w.1.size+1,0,I⟩ (Y a8 L.length a1)).setCell ⟨w.1.size+1+1,0,I⟩ (F C 0)).1[w3.1.size]?=U (.deferred (U [])):=by
        rw[Below.heap_setCell _ _ _ _ (by simp;omega),Below.heap_setCell _ _ _ _ (by simp;omega)];exact aj.out.dfr
      have D:=((aj.out.below.setCell (p:=⟨w.1.size+1,0,I⟩) (by simp) (Y a8 L.length a1)).setCell (p:=⟨w.1.size+1+1,0,I⟩) (by simp;omega) (F C 0));have bi:Has _ _ _ _:=(aj.out.has.aside ((((Aside.refl (fun k=>k<w3.1.size+1) ah).setCell (p:=⟨w.1.size+1,0,I⟩) (.inl (by simp;omega)) (Y a8 L.length a1)).setCell (p:=⟨w.1.size+1+1,0,I⟩) (.inl (by simp;omega)) (F C 0))) (fun k a6 ep=>by have:=(aj.out.has.lt k a6).1;omega));have er:=bi.aside (fz (l:=w3.1.size) (.deferred I)) (fun k a6 ep=>by have:=(bi.lt k a6).1;omega);refine⟨by simp,.inl ⟨_,_,rfl,run_takeDeferred be,?_⟩⟩;refine⟨_,dT rfl _ _ (w.1.size+1) (w.1.size+1+1) _ _ rfl (az ((World.putObj_heap_other (by omega)).trans c1)) underlying40 rfl (az ((World.putObj_heap_other (by omega)).trans c2)) underlying25,?_⟩;exact⟨a8,a1,by rw[HOn.out,E.out];rfl,by rw[HOn.out];exact er.here,by rw[HOn.out];exact c8,D.trans (dc _ (by omega) D.size)⟩
  · refine⟨⟨_,rfl⟩,.inr ⟨b8.lp,?_⟩⟩;have bb:=gQq b8;have E:Hid (R=Bt.rowsErr s l):=bn.out.trans (AG a7);have HOn:Hid (O=[]):=(by show _=_;rw[K.out,E.out,AF a7]);clear b8 a7 bn K
    gi_wp2
    have be:(cy.putObj (w3.1.size+1) (.loop (rec .exhausted (U .ret)))).1[w3.1.size]?=U (.deferred (U [])):=(World.putObj_heap_other (by omega)).trans bb.out.dfr;have D:=bb.out.below.trans (dc (l:=w3.1.size+1) (.loop (rec .exhausted (U .ret))) (by omega) bb.out.below.size);refine⟨by simp,.inl ⟨_,_,rfl,run_takeDeferred be,?_⟩⟩;refine⟨_,dT rfl _ _ (w.1.size+1) (w.1.size+1+1) _ _ rfl (az ((World.putObj_heap_other (by omega)).trans ((World.putObj_heap_other (by omega)).trans bb.out.r1))) underlying40 rfl (az ((World.putObj_heap_other (by omega)).trans ((World.putObj_heap_other (by omega)).trans bb.out.r2))) underlying25,?_⟩;exact⟨I,0,by rw[HOn.out,E.out];rfl,by rw[HOn.out];exact .inl rfl,by rw[HOn.out];exact gQx,D.trans (dc _ (by omega) D.size)⟩
end
section
open Go.RowKit
attribute [local go_sem] al
theorem xZ(a9:RowsIn)(s:List Col)(p:OA)(c:Nat)(l:List (List V))(q:OA)(d:Nat)(w:World)(bj:ef w p c s)(bi:cQ w q d l):
  Calls Tryz.prog 54 #[.agg #[Y p s.length c],Y q l.length d] w (zY w (Bt.pack s l)):=by
 obtain⟨K,aj⟩:∃K,K=w.alloc (N #[Y p s.length c] 35):=⟨_,rfl⟩;have L:Below w.1.size w K:=by rw[aj];exact gQy
 have S:=gQq (zH a9 s p c l q d K (bj.on L) (bi.on L));obtain⟨P,A⟩:∃P,P=Bt.pack s l:=⟨_,rfl⟩;rw[<-A];unfold Bt.pack at A;have aw:=fun h=>(Bt.err_open (s:=s) (l:=l) h).2.2;have ah:Bt.out s l=if Bt.err s l=0 then Bt.bytes l else []:=rfl;obtain⟨R,D⟩:∃R,R=Bt.err s l:=⟨_,rfl⟩;obtain⟨y,ai⟩:∃y,y=Bt.out s l:=⟨_,rfl⟩;obtain⟨Z,M⟩:∃Z,Z=Bt.bytes l:=⟨_,rfl⟩;rw[<-ai,<-D,<-M] at ah;rw[<-D,<-ai] at S;rw[<-D,<-M] at A;rw[<-D,<-M] at aw;have a0:=gQq L;have bb:=gQq aj;have E:=gQq A;have X:=gQq ah;have Q:=gQq aw;clear L aj D ah ai A M aw;go_enter func54,ntmps54;go_wp2_with fail;rw[<-bb.out];refine S.out.mono ?_;rintro e w1 ⟨bn,c1,rfl,ak,bk,a3⟩;have ab:=a0.out.trans (a3.mono a0.out.size);have a1:=gQq ab;have a6:=ab.size;clear a3 S ab;by_cases o:R=0
 ·have bc:y=Z:=by rw[X.out,AG o]
  subst bc;have J:Hid (P=Blk.pack y):=by show _=_;rw[E.out,AG o]
  have bq:=Q.out o;have a2:=gQq (zr y bn c1 w1 (by omega) bk ak);have be:((R:Int) != 0)=false:=ca (by omega);rw[<-J.out] at a2;clear E X Q ak o J;go_wp2_with fail;refine a2.out.mono ?_;rintro e bv ⟨bp,bs,c2,rfl,bl,a5,a4⟩;subst bl;have a8:=gQq a5;have a7:=gQq (a1.out.trans (a4.mono a6));clear a5 a4;go_wp2;go_ret2;exact⟨bp,_,c2,rfl,rfl,a8.out.lower a6,a7.out⟩
 ·have J:Hid (P=⟨R,[]⟩):=by show _=_;rw[E.out,AF o]
  have be:((R:Int) != 0)=true:=cE (by omega);clear E X Q ak o;go_wp2;go_ret2;rw[J.out];exact⟨I,0,0,rfl,rfl,bG _ _,a1.out⟩
end
end Go.Proofs.YtngmnfdaedlodaaGreatDoor
