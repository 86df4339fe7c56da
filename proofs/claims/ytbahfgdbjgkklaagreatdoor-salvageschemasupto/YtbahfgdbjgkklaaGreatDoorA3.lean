import Derived.Test.YtbahfgdbjgkklaaGreatDoorA2
import Derived.Test.YtbahfgdbjgkklaaGreatDoorB38
set_option maxRecDepth 100000
set_option maxHeartbeats 4000000
namespace Go.Proofs.YtbahfgdbjgkklaaGreatDoor
variable{B:Nat}{W w w1 wr:World}{v:Value}
section
open Go.RowKit
theorem cM{P:Program}{fn:Func}{p u:Tmp}{y:TypeId}(h:fn.results=#[.cell p y,.tmp u])(tmps:AV)(w:World)(g:Nat)(t:TypeId)(o:AV)(fr:Nat×Nat)(d:TypeDesc)(I:tmps.getD p undef=.pointer (some ⟨g,0,none⟩))(D:w.1[g]?=some (.cells o t fr))(K:P.underlying y=some d)(hd:(match d with | .struct _ | .array _ _=>true | _=>false)=true)(E:(P.info? y).map (·.size)=some o.size):
  (results fn tmps).run P w=.ok (.tuple #[.agg o,tmps.getD u undef]) w:=by
 have J:tmps[p]?.getD undef=.pointer (some ⟨g,0,none⟩):=by simpa using I
 have z:=run_loadVar_row w g t y o fr d D K hd E;simp[results,h,J,asAddr,z]
def zV(w:World)(s:List Col)(e:Ending)(w':World):Prop:=∃q d,e=.returned (.tuple #[.agg #[.slice q s.length d],.int .i64 0])∧fv w' w.1.size #[.slice q s.length d] s∧Below w.1.size w w'
theorem sZ(s:List Col)(p:OA)(c:Nat)(w:World)(E:bB w p c s)(D:Sch.err s=0)(bn:s.map Col.fix=s):Calls Tryz.prog 36 #[.agg #[.slice p s.length c]] w (zV w s):=by
 obtain⟨W,y⟩:∃W,W=(w.alloc (.cells #[.slice p s.length c] 29)).alloc (.cells #[.slice none 0 0] 29):=⟨_,rfl⟩;have Z:Below w.1.size w W:=by rw[y];exact gQy.alloc (by simp) _
 have a9:W.1[w.1.size+1]?=some (.cells #[.slice none 0 0] 29 (0,0)):=by rw[y];exact(al2 w _ _).2.1
 have J:W.1.size=w.1.size+2:=by rw[y];simp
 have U:=mE s p c W E.len (E.on Z).cols E.wf;rw[show encB s=Sch.bytes s from if_pos D,D] at U;have ah:=Sch.read_put D E.wf;rw[bn] at ah;have bO:(Sch.bytes s).length<=1024:=by
  have Q:=lT s;rw[D] at Q;split at Q
  ·omega
  ·split at Q
   ·omega
   ·omega
 have L:=gQq U;have a6:=gQq ah;have ak:=gQq Z;have aj:=gQq a9;have bN:=gQq J;have a7:=gQq y;obtain⟨O,bc⟩:∃O,O=Sch.bytes s:=⟨_,rfl⟩;rw[<-bc] at L a6 bO;clear E D bn y Z a9 J U ah bc;go_enter Tryz.func36,Tryz.ntmps36;go_wp2_with fail;rw[<-a7.out];refine L.out.mono ?_;rintro e b5 ⟨q,cap,rfl,be,bT,bi⟩;have S:=ri q O cap (by omega) bT b5 be;rw[a6.out] at S;have a5:=gQq S;have K:=gQq bi;clear S be bi L a7;go_wp2_with fail;refine a5.out.mono ?_;rintro e o ⟨u,rfl,bq,Y⟩;obtain⟨v,us,br,b3,z,ab⟩:=bq.out;subst b3;obtain⟨p3,c3,b4,-⟩:=z.cols ab;subst b4;have X:=K.out.trans (Y.mono K.out.size);have I:=(X.block _ (au aj.out)).trans aj.out;have b1:=K.out.size;have b2:=Y.size;have J:=bN.out;have b7:o.cell? ⟨w.1.size+1,0,none⟩=some (.slice none 0 0):=aa I 0;have b6:o.frozen? ⟨w.1.size+1,0,none⟩=false:=by simp[World.frozen?,I]
 have bb:(o.setCell ⟨w.1.size+1,0,none⟩ (.slice p3 s.length c3)).1[w.1.size+1]?=some (.cells #[.slice p3 s.length c3] 29 (0,0)):=ai I 0 _;have V:Aside (fun i=>i=w.1.size+1) o (o.setCell ⟨w.1.size+1,0,none⟩ (.slice p3 s.length c3)):=ag _ _ _ _;have bj:=z.aside V (fun g bX bk=>by have:=(z.lt g bX).1;omega) (fun j b0 k bp bk=>by have:=(z.range j b0 k bp).1;omega)
 have a8:Hid (fv (o.setCell ⟨w.1.size+1,0,none⟩ (.slice p3 s.length c3)) w.1.size #[.slice p3 s.length c3] s∧Below w.1.size w (o.setCell ⟨w.1.size+1,0,none⟩ (.slice p3 s.length c3))) :=
  ⟨⟨_,us,br,rfl,bj.low (by omega),ab⟩,(ak.out.trans (X.mono ak.out.size)).trans (V.below (by omega) (fun k bp bk=>by omega))⟩
 have bs:=gQq bb;clear bq z bj ab Y X I bb V b1 b2 J a5;go_wp2;refine bodyPost_ret (cM rfl _ _ (w.1.size+1) _ _ _ _ rfl bs.out Tryz.underlying29 rfl (by kernel_rfl)) rfl ?_;exact⟨p3,c3,rfl,a8.out.1,a8.out.2⟩
theorem ye(n:Int)(h:0<=n∧n<2147483648)(w:World):Calls Tryz.prog 37 #[.int .i64 n] w fun e w'=>e=.returned (.bool true)∧w'=w:=by
 have o:=h.1;have y:=h.2;clear h;go_enter Tryz.func37,Tryz.ntmps37;go_wp2;go_ret;exact⟨rfl,rfl⟩
structure Slv(w:World)(B a M gs n:Nat)(v:Value)(g:Int->Option Value)(s:Int->Option (List Col))(d:Sp):Prop where
 lies:w.1[a]?=some (.cells #[.map (some M),.pointer (some ⟨gs,0,none⟩)] 96 (0,0))
 map:KM w M n g
 spl:Spl w B gs v d
 sees:∀m,match s m with
  |none=>g m=none
  |some c=>∃p d,g m=some (.agg #[.slice p c.length d])∧dZ (fun i=>i=gs∨v.ownBlock=some i) w (fun w=>bB w p d c)
 low:B<=a∧B<=M
structure N17(w wr:World)(B a M gs r Mu nu n cnt:Nat)(v:Value)(gu g:Int->Option Value)(s:Int->Option (List Col))(ns:List Int):Prop where
 lies:wr.1[a]?=some (.cells #[.map (some M),.pointer (some ⟨gs,0,none⟩)] 96 (0,0))
 rng:RM wr Mu r nu gu ns cnt
 map:KM wr M n g
 spl:Spl wr B gs v Sp.start
 few:n<=ns.length
 room:cnt+ns.length<=nu
 sees:∀m,(m∈ns->∃c p d,s m=some c∧g m=some (.agg #[.slice p c.length d])∧dZ (fun i=>i=M∨i=r∨i=gs∨v.ownBlock=some i) wr (fun w=>bB w p d c))∧(m∉ns->g m=none)
 below:Below w.1.size w wr
 off:M≠Mu∧M≠r∧r≠a∧w.1.size<=M∧w.1.size<=r∧a<r∧M<r∧gs<r∧(∀i,v.ownBlock=some i->i<r)
section
variable {w wr w5 w7 W8 wm:World} {B a M gs r Mu nu n cnt cn1:Nat} {v:Value} {gu g:Int->Option Value} {s:Int->Option (List Col)} {ns:List Int}
theorem N17.more(h:N17 w wr B a M gs r Mu nu n cnt v gu g s ns){m:Int}{c:List Col}{q:OA}{d:Nat}(L:Aside (fun k=>k=r) wr w5)(E:RM w5 Mu r nu gu (ns++[m]) cn1)(bO:cn1<cnt)(be:m∉ns)(bi:s m=some c)(bk:∀x∈c,x.wf)(V:Below w5.1.size w5 w7){J:Nat}(bs:w5.1.size<=J)(bj:fv w7 J #[.slice q c.length d] c)(X:Below w7.1.size w7 W8)(y:KM wm M (n+1) (fun k=>if k=m then some (.agg #[.slice q c.length d]) else g k))(I:Aside (fun k=>k=M) W8 wm):
  N17 w wm B a M gs r Mu nu (n+1) cn1 v gu (fun k=>if k=m then some (.agg #[.slice q c.length d]) else g k) s (ns++[m]):=by
 obtain⟨bn,bp,bX,b0,b1,b2,b3,b4,Y⟩:=h.off;have bb:=au h.lies;have O:=V.trans (X.mono V.size);have bT:=E.lt.1;have bN:=L.size;have a9:a≠M:=fun o=>h.map.off h.lies o;have K:Aside (fun i=>i=M∨i=r) wr wm:=(((L.mono (fun i _ z=>.inr z)).trans (al O (fun _=>False)) (fun _ _ o=>o.elim))).trans (I.mono (fun i _ z=>.inl z)) (fun _ _ o=>o);have a6:Aside (fun i=>i=M∨i=r∨i=gs∨v.ownBlock=some i) wr wm:=K.mono (fun i _ z=>z.elim .inl (fun E=>.inr (.inl E)));have S:w5.1[a]?=_:=(L.block a bb (fun o=>by omega)).trans h.lies;have U:=(O.block a (au S)).trans S;refine⟨(I.block a (au U) a9).trans U,(E.on O).aside I (fun o=>bn o.symm) (fun o=>bp o.symm),y,?_,?_,?_,fun Q=>⟨fun D=>?_,fun D=>?_⟩,?_,h.off⟩
 ·refine h.spl.aside K (fun o=>o.elim (h.map.off h.spl.lies) (fun E=>by omega)) (fun i z o=>o.elim (fun a8=>?_) (fun E=>by have:=Y i z;omega));obtain⟨C,a7⟩:=eP h.spl.held z;exact h.map.off a7 a8
 ·have:=h.few;simp;omega
 ·have:=h.room;simp;omega
 ·rcases List.mem_append.1 D with D | D
  ·obtain⟨Z,bq,ab,ah,aj,ak⟩:=(h.sees Q).1 D;refine⟨Z,bq,ab,ah,?_,ak.step a6 (fun _ y=>.inl y)⟩;rw[if_neg (fun e:Q=m=>be (by rw[<-e];exact D))];exact aj
  ·rw[List.mem_singleton.1 D,if_pos rfl];have bc:∀k,(k=M∨k=r∨k=gs∨v.ownBlock=some k)->k<J:=fun k y=>by
    rcases y with y | y | y | y
    ·omega
    ·omega
    ·omega
    ·have:=Y k y;omega
   exact⟨c,q,d,bi,rfl,fun br a5=>((lk bj bk (fun k y=>.inl (bc k y))).step ((al X _).trans (I.mono (fun i _ z=>.inl z)) (fun _ _ o=>o)) (fun _ y=>.inl y) br a5).1⟩
 ·rw[List.mem_append,not_or,List.mem_singleton] at D;rw[if_neg D.2];exact(h.sees Q).2 D.1
 ·exact h.below.trans (K.below h.below.size (fun k y o=>by omega))
end
theorem tH{l:List (Int×List Col)}(h:l.Pairwise (fun a b=>a.1<b.1))(m:Int)(c:List Col):Sv.sure l m=some c↔(m,c)∈l:=⟨Sv.sure_mem,fun o=>Sv.sure_unlike (h.imp fun {a b} y=>by omega) o⟩
def zT(w:World)(s:Int->Option (List Col))(e:Ending)(w':World):Prop:=∃a M gs n v g,e=.returned (.pointer (some ⟨a,0,none⟩))∧Slv w' w.1.size a M gs n v g s Sp.start∧Below w.1.size w w'
theorem ym(l:List (Int×List Col))(q:OA)(c:Nat)(w:World)(dj:l.length<=2000000)(b2:eV w q l)(b8:∀p∈l,Sv.good p):Calls Tryz.prog 15 #[.slice q l.length c] w (zT w (Sv.sure l)):=by
  have br:=gQq (zm (w.alloc (.map #[] 0)));have c6:=gQq b2;have bq:=gQq b8;have eg:=@run_makeMap Tryz.prog;clear b2 b8;go_enter Tryz.func15,Tryz.ntmps15;go_wp2_with fail;refine br.out.mono ?_;rintro e w1 ⟨gs,v,rfl,Y,U⟩;have a9:Below w.1.size w w1:=((Below.refl w.1.size w).alloc gQx (.map #[] 0)).trans (U.mono (by simp));have cc:=(qW w).on U;obtain⟨ab,Z⟩:∃W,W=w1.alloc (.cells #[.map (some w.1.size),.pointer (some ⟨gs,0,none⟩)] 96):=⟨_,rfl⟩;have V:Below w1.1.size w1 ab:=by rw[Z];exact gQy
  have ak:ab.1[w1.1.size]?=some (.cells #[.map (some w.1.size),.pointer (some ⟨gs,0,none⟩)] 96 (0,0)):=by rw[Z];exact am w1 _
  have bb:=a9.trans (V.mono a9.size);have bX:=gQq (pa l q c w ab dj bb c6.out (fun p dk=>by have:=(bq.out p dk).1;exact⟨by omega,by omega⟩));have cv:=gQq (cc.on V);have c9:=gQq (Y.on V);have bn:=gQq ak;have bp:=gQq bb;have aj:Hid (w.1.size<w1.1.size∧gs<w1.1.size∧(∀i,v.ownBlock=some i->i<w1.1.size)∧w1.1.size<ab.1.size):=⟨by have:=U.size;simp at this;omega,Y.lt,fun i be=>(Y.held.lt i be).2,au ak⟩;have b0:=gQq Z;clear Y U a9 cc V ak bb Z br;go_wp2_with fail;rw[<-b0.out];clear b0;refine bX.out.mono ?_;rintro e bk ⟨Mu,nu,gu,rfl,cd,eh,ee,Q,b4⟩;have cx:=gQq cd;have bT:=gQq Q;have ah:=gQq b4;clear cd Q b4 bX;go_wp2_with (first | (at_range;refine jB cx.out rfl rfl rfl ?_;intro w4 cnt b7 ci b5 ds) | fail)
  go_frame
  have L:=ah.out.trans (b5.mono ah.out.size);have dr:=ah.out.size
  have bs:Hid (N17 w w4 (w.1.size+1) w1.1.size w.1.size gs bk.1.size Mu nu 0 cnt v gu (fun _=>none) (Sv.sure l) []) :=
    ⟨(L.block _ (au bn.out)).trans bn.out,ci,cv.out.on L,by have:=c9.out.on L;simpa using this,by simp,by simpa using b7,fun m=>⟨by simp,fun _=>rfl⟩,bp.out.trans (L.mono bp.out.size),by
      obtain⟨en,ep,d9,er⟩:=aj.out
      exact⟨by omega,by omega,by omega,by omega,by omega,by omega,by omega,by omega,fun i be=>by have:=d9 i be;omega⟩⟩
  clear b7 ci b5 ds L dr;go_loopw [] (fun wr=>∃(n b1:Nat) (g:Int->Option Value) (ns:List Int),Hid (N17 w wr (w.1.size+1) w1.1.size w.1.size gs bk.1.size Mu nu n b1 v gu g (Sv.sure l) ns)) (fun wr=>wr.rangeLeft Mu bk.1.size);case atStart=>exact⟨0,cnt,_,[],bs⟩
  case round=>
    obtain⟨n,b1,g,ns,o⟩:=hrel;clear bs
    go_wp2_with (first|(at_next;refine lh o.out.rng rfl rfl rfl ?_ ?_;(intro b3);(have cq:=gQq b3);(clear b3);rotate_left;(intro m ec w5 cn1 cf b9 cg cj ce a5 dp dh);(obtain⟨z,p,d,I,df,ck⟩:=lq bT.out b9);subst df;(have X:=bq.out _ (Sv.sure_mem I));(have a6:Below w.1.size w w5:=o.out.below.trans (a5.below o.out.below.size (fun k ca bc=>by have:=o.out.off.2.2.2.2.1;omega)));(have cu:=gQq (sZ z p d (w5.alloc (.cells #[.slice p z.length d] 29)) (ck.on (a6.alloc a6.size _)) X.2.1 X.2.2.1));(have y:=gQq (And.intro cf (And.intro cg (And.intro cj (And.intro ce (And.intro a5 (And.intro I X)))))));(clear cf b9 cg cj ce a5 I ck dp X a6))|(go_at_call 36;refine cu.out.mono ?_;(rintro e w7 ⟨S,J,rfl,cn,b6⟩);(have c8:=gQq cn);(have cs:=gQq b6);(have c7:=gQq (ye m y.out.2.2.2.2.2.2.1));(clear cn b6))|(go_at_call 37;refine(c7.out _).mono ?_;(rintro e w' ⟨rfl,co⟩);(rw[co]);(clear co))|fail)
    · obtain⟨d0,cp,d1,d2,d3,d4,d5,d6,d7⟩:=o.out.off;have O:Below w5.1.size w5 w7:=((Below.refl w5.1.size w5).alloc gQx (.cells #[.slice p z.length d] 29)).trans (cs.out.mono (by simp));obtain⟨W8,K⟩:∃W,W=w7.alloc (.cells #[.slice S z.length J] 29):=⟨_,rfl⟩;have a8:Below w7.1.size w7 W8:=(by rw[K];exact gQy);have a7:=O.trans (a8.mono O.size);have bi:=(y.out.2.2.2.2.1.block _ (au o.out.lies) (fun bc=>by omega)).trans o.out.lies;have bj:=(a7.block _ (au bi)).trans bi;have ea:W8.cell? ⟨w1.1.size,0,none⟩=some (.map (some w.1.size)):=aa bj 0;have eb:W8.cell? ⟨w7.1.size,0,none⟩=some (.slice S z.length J):=aa (show W8.1[w7.1.size]?=some (.cells #[.slice S z.length J] 29 (0,0)) by rw[K];exact am w7 _) 0;have cw:=gQq ((o.out.map.aside y.out.2.2.2.2.1 cp).on a7);have ef:=o.out.few;have el:=o.out.room;have c5:=gQq (au bj);have cy:Hid (w7.1.size<W8.1.size):=(by show _<_;rw[K];simp);have dv:w5.1.size<=w7.1.size:=O.size;have dn:=y.out.2.2.1.lt.1;have bO:=gQq (And.intro (show ¬w1.1.size=w.1.size by have:=aj.out.1;omega) (show ¬w7.1.size=w.1.size by omega));have cr:=gQq O;have ct:=gQq a8;rw[<-K];clear K O a8 a7 bi bj d0 cp d1 d2 d3 d4 d5 d6 d7 dv dn dh;obtain⟨wm,ei,cb,D,-⟩:=(show KM W8.drew w.1.size n g from ⟨cw.out.out⟩).put y.out.1 (by omega) (.agg #[.slice S z.length J]);have eu:=(D.cell (p:=⟨w1.1.size,0,none⟩) c5.out bO.out.1).trans ea;have ew:=(D.cell (p:=⟨w7.1.size,0,none⟩) cy.out bO.out.2).trans eb
      have bN:=gQq (o.out.more y.out.2.2.2.2.1 y.out.2.2.1 y.out.2.2.2.1 y.out.2.1 y.out.2.2.2.2.2.1 y.out.2.2.2.2.2.2.2.2.2 cr.out (by simp) c8.out ct.out cb ⟨D.os,D.tape,D.output,D.size,D.block⟩);clear cb D;go_region_held3 (fun w'=>w'.cell? ⟨w1.1.size,0,none⟩=some (.map (some w.1.size))∧w'.cell? ⟨w7.1.size,0,none⟩=some (.slice S z.length J)) (go_keep) (first | fail);go_wp2_with fail;exact⟨⟨_,_,_,_,bN⟩,by rw[bN.out.rng.left,o.out.rng.left];exact y.out.2.2.2.1⟩
    · go_ret;have di:Slv wr w.1.size w1.1.size w.1.size gs n v g (Sv.sure l) Sp.start:=by
        refine⟨o.out.lies,o.out.map,⟨o.out.spl.lies,o.out.spl.held.low (by omega),by have:=o.out.spl.base;omega⟩,fun m=>?_,by have:=aj.out.1;omega,gQx⟩;have I:=o.out.sees m;have Q:=bT.out m;cases hm:Sv.sure l m with
        |none=>
          refine I.2 (fun bc=>?_);obtain⟨da,_,_,E,_⟩:=I.1 bc;rw[hm] at E;cases E
        |some c0=>
          rw[hm] at Q;obtain⟨em,ed,dc,_⟩:=Q;obtain⟨da,d8,db,E,dd,de⟩:=I.1 (cq.out m _ dc);rw[hm] at E;injection E with E;subst E;exact⟨d8,db,dd,de.step (Aside.refl _ _) (fun k ca=>.inl (.inr (.inr ca)))⟩
      exact⟨_,_,gs,n,v,g,rfl,di,o.out.below⟩
end
section
open Go.RowKit
def mS(a b c d:Int)(p:OA)(n m:Nat):AV:=#[.int .i64 a,.int .i64 b,.int .i64 c,.int .i64 d,.slice p n m]
def qP(W:World)(g:Nat)(c0 c1 c2 c3 c4:Value):World:=((((W.setCell ⟨g,0,none⟩ c0).setCell ⟨g,1,none⟩ c1).setCell ⟨g,2,none⟩ c2).setCell ⟨g,3,none⟩ c3).setCell ⟨g,4,none⟩ c4
section
variable {W:World} {g:Nat} {T:TypeId} {a0 a1 a2 a3 a4 c0 c1 c2 c3 c4:Value}
theorem dH(h:W.1[g]?=some (.cells #[a0,a1,a2,a3,a4] T (0,0))):(qP W g c0 c1 c2 c3 c4).1[g]?=some (.cells #[c0,c1,c2,c3,c4] T (0,0)):=by
 unfold qP;rw[ai (ai (ai (ai (ai h 0 _) 1 _) 2 _) 3 _) 4 _];rfl
theorem cO:Aside (fun j=>j=g) W (qP W g c0 c1 c2 c3 c4):=by
 unfold qP;have o:Aside (fun j=>j=g) W (W.setCell ⟨g,0,none⟩ c0):=(Aside.refl (fun j=>j=g) W).setCell (p:=⟨g,0,none⟩) (.inl rfl) _;exact(((o.setCell (p:=⟨g,1,none⟩) (.inl rfl) c1).setCell (p:=⟨g,2,none⟩) (.inl rfl) c2).setCell (p:=⟨g,3,none⟩) (.inl rfl) c3).setCell (p:=⟨g,4,none⟩) (.inl rfl) c4
theorem ow(h:W.1[g]?=some (.cells #[a0,a1,a2,a3,a4] T (0,0))):(W.cell? ⟨g,0,none⟩=some a0∧W.cell? ⟨g,1,none⟩=some a1∧W.cell? ⟨g,2,none⟩=some a2∧W.cell? ⟨g,3,none⟩=some a3∧W.cell? ⟨g,4,none⟩=some a4)∧W.frozen? ⟨g,0,none⟩=false∧W.frozen? ⟨g,1,none⟩=false∧W.frozen? ⟨g,2,none⟩=false∧W.frozen? ⟨g,3,none⟩=false∧W.frozen? ⟨g,4,none⟩=false :=
 ⟨⟨aa h 0,aa h 1,aa h 2,aa h 3,aa h 4⟩,by simp[World.frozen?,h],by simp[World.frozen?,h],by simp[World.frozen?,h],by simp[World.frozen?,h],by simp[World.frozen?,h]⟩
end
theorem vN{s:Int->Option (List Col)}{k:Nat}{o:L8}{f:Fr}(hd:Fr.dec o=.ok f)(y:¬f.kind=2):Sv.bat1 s (k,o)=none:=by
 unfold Sv.bat1 Sv.saved;simp only[hd];rw[if_neg y]
theorem td{s:Int->Option (List Col)}{k:Nat}{o:L8}{f:Fr}(hd:Fr.dec o=.ok f)(y:f.kind=2)(z:s f.number=none):Sv.bat1 s (k,o)=none:=by
 unfold Sv.bat1 Sv.saved;simp only[hd];rw[if_pos y,z]
theorem tb{s:Int->Option (List Col)}{k:Nat}{o:L8}{f:Fr}{c:List Col}(hd:Fr.dec o=.ok f)(y:f.kind=2)(z:s f.number=some c):Sv.bat1 s (k,o)=(match Bt.unpack c f.block f.rows with | .error _=>none | .ok l=>some ⟨k,f.number,f.seq,f.first,l⟩):=by
 unfold Sv.bat1 Sv.saved;simp only[hd];rw[if_pos y,z];dsimp only;cases Bt.unpack c f.block f.rows <;> rfl
def zW(w:World)(o:Option Bat)(e:Ending)(w':World):Prop:=match o with
 |none=>e=.returned (.tuple #[.agg (mS 0 0 0 0 none 0 0),.bool false])∧Below w.1.size w w'
 |some x=>∃rp rc,e=.returned (.tuple #[.agg (mS x.at_ x.number x.seq x.first rp x.rows.length rc),.bool true])∧bP w' w.1.size (.slice rp x.rows.length rc) x.rows∧Below w.1.size w w'
theorem vL(w:World)(a M gs n:Nat)(g:Int->Option Value)(s:Int->Option (List Col))(k:Nat)(y:L8)(bc:OA)(bb:Nat)(db:w.1[a]?=some (.cells #[.map (some M),.pointer (some ⟨gs,0,none⟩)] 96 (0,0)))(de:KM w M n g)(Q:fM w s g)(dj:Hv w)(c7:At w bc y)(eg:y.length<=2200)(c8:y.length<=bb):
  Calls Tryz.prog 39 #[.pointer (some ⟨a,0,none⟩),.agg #[.int .i64 (k:Int),.slice bc y.length bb]] w (zW w (Sv.bat1 s (k,y))):=by
 obtain⟨bk,b6⟩:∃W,W=(w.alloc (.cells #[.int .i64 (k:Int),.slice bc y.length bb] 62)).alloc (.cells #[.int .i64 0,.int .i64 0,.int .i64 0,.int .i64 0,.slice none 0 0] 79):=⟨_,rfl⟩;obtain⟨ck,cn,bn,cj⟩:=al2 w (.cells #[.int .i64 (k:Int),.slice bc y.length bb] 62) (.cells #[.int .i64 0,.int .i64 0,.int .i64 0,.int .i64 0,.slice none 0 0] 79);rw[<-b6] at ck cn bn cj;have cr:=gQq (rj bc bb y (by omega) c8 bk (dj.next bn) (c7.on bn));have cs:=gQq ck;have bN:=gQq cn;have br:=gQq bn;have eb:=gQq cj;have cw:=gQq db;have d0:=gQq de;have b3:=gQq Q;have cy:=gQq b6;clear db de Q dj c7 c8 ck cn bn cj b6;go_enter Tryz.func39,Tryz.ntmps39;go_wp2_with fail;rw[<-cy.out];clear cy;refine cr.out.mono ?_;clear cr;cases hd:Fr.dec y with
 |error er=>
  rintro e w1 ⟨rfl,S⟩;have ci:=kv hd;have ec:((er:Int) != 0)=true:=aQ (by omega);have I:Hid (Sv.bat1 s (k,y)=none):=by show _=_;unfold Sv.bat1;rw[show(k,y).2=y from rfl,hd]
  obtain⟨o,D⟩:∃o,o=w1.alloc (.cells #[.int .i64 0,.int .i64 0,.slice none 0 0,.int .i64 0,.int .i64 0,.int .i64 0,.slice none 0 0,.int .i64 0,.int .i64 0,.int .i64 0,.slice none 0 0] 67):=⟨_,rfl⟩;have L:Below bk.1.size bk o:=by rw[D];exact S.alloc S.size _
  have U:=(L.block _ (au bN.out)).trans bN.out;have J:=gQq (br.out.trans (L.mono br.out.size));have bi:=gQq U;obtain⟨⟨ak,a5,a6,a7,a8⟩,Y,f1,Z,ab,ah⟩:=ow U;have bj:=gQq D;rw[D] at ak a5 a6 a7 a8 Y f1 Z ab ah;clear hd ci D L U S;go_wp2;rw[<-bj.out];refine bodyPost_ret (cM rfl _ _ (w.1.size+1) _ _ _ _ rfl (dH bi.out) Tryz.underlying79 rfl (by kernel_rfl)) rfl ?_;rw[I.out];exact⟨rfl,J.out.trans (cO.below J.out.size (fun k E bp=>by omega))⟩
 |ok f=>
  rintro e w1 ⟨u,rfl,cb,S⟩;have ca:=cb.lies;obtain⟨sp,dk,b5,b4,c6,c5,d3,-,-,-,b9,b8,b7,-⟩:=ca.out;subst d3;unfold bJ;obtain⟨o,D⟩:∃o,o=w1.alloc (.cells #[.int .i64 f.kind,.int .i64 f.number,.slice sp f.cols.length dk,.int .i64 f.seq,.int .i64 f.first,.int .i64 f.rows,.slice b5 f.block.length b4,.int .i64 f.index.at_,.int .i64 f.index.frames,.int .i64 f.index.rows,.slice c6 f.index.entries.length c5] 67):=⟨_,rfl⟩;have bO:Below w1.1.size w1 o:=by rw[D];exact gQy
  have bT:o.1[w1.1.size]?=some (.cells #[.int .i64 f.kind,.int .i64 f.number,.slice sp f.cols.length dk,.int .i64 f.seq,.int .i64 f.first,.int .i64 f.rows,.slice b5 f.block.length b4,.int .i64 f.index.at_,.int .i64 f.index.frames,.int .i64 f.index.rows,.slice c6 f.index.entries.length c5] 67 (0,0)):=by rw[D];exact am w1 _
  have L:Below bk.1.size bk o:=S.trans (bO.mono S.size);have U:=(L.block _ (au bN.out)).trans bN.out;have J:=gQq (br.out.trans (L.mono br.out.size));have bi:=gQq U;have ct:=gQq bT;have b2:=gQq ((L.block _ (au cs.out)).trans cs.out);have bj:=gQq D;have bX:=gQq (And.intro b9 (And.intro b8 (b7.on bO)));by_cases E:f.kind=2
  ·have d2:(f.kind != 2)=false:=bo E;have da:Fr.i64 f.number:=(Fr.dec_ok hd).2.2.2.1.2.1;have cg:=(J.out.block _ (au cw.out)).trans cw.out;have z0:o.cell? ⟨a,0,none⟩=some (.map (some M)):=aa cg 0;have z1:o.cell? ⟨w1.1.size,1,none⟩=some (.int .i64 f.number):=aa bT 1;have cv:=gQq (d0.out.on J.out);have bs:=gQq (And.intro hd E);have eh:a<o.1.size:=au cg;clear hd E D L bO U bT S cb ca b9 b8 b7 cg;go_wp2_with fail;rw[<-bj.out];clear bj;obtain⟨cq,cp,co,bq,O,cd⟩:∃cq cp co bq,(g f.number).getD eB=.agg #[.slice cq cp co]∧(g f.number).isSome=bq:=by
    cases hg:g f.number with
    |none=>exact⟨none,0,0,false,rfl,rfl⟩
    |some v=>
     obtain⟨c,p,d,_,rfl,_⟩:=lq b3.out hg;exact⟨p,_,d,true,rfl,rfl⟩
   have dc:=(show KM o.drew M n g from ⟨cv.out.out⟩).look da;have dd:=(show KM (o.alloc (.cells #[.slice none 0 0] 29)).drew M n g from ⟨(cv.out.on gQy).out⟩).look da;rw[O,cd] at dc dd;have b0:=gQq (And.intro O cd);clear O cd
   go_cut [8,9] from 25 (fun d7 d8 dp=>d7=.pointer (some ⟨o.1.size,0,none⟩)∧d8=.bool bq∧Hid (Below o.1.size o dp∧dp.1[o.1.size]?=some (.cells #[.slice cq cp co] 29 (0,0))))
   case first=>
    go_region_held3 (fun w'=>w'.cell? ⟨a,0,none⟩=some (.map (some M))∧w'.cell? ⟨w1.1.size,1,none⟩=some (.int .i64 f.number)) (go_keep) (first | fail);all_goals (try go_wp2_with fail)
    all_goals go_meet
    all_goals exact⟨rfl,rfl,gQy.drew,am o _⟩
   case rest=>
    obtain⟨rfl,rfl,X⟩:=hcut;have cf:=(X.out.1.block _ (au bi.out)).trans bi.out;have V:=gQq (J.out.trans (X.out.1.mono J.out.size));obtain⟨⟨ak,a5,a6,a7,a8⟩,Y,f1,Z,ab,ah⟩:=ow cf;have a9:=gQq cf;clear cf dc dd z0 z1;cases Q:s f.number with
    |none=>
     have c9:g f.number=none:=(by have:=b3.out f.number;rw[Q] at this;exact this);have ce:bq=false:=(by have:=b0.out.2;rw[c9] at this;exact this.symm);subst ce;have I:=gQq (td (k:=k) bs.out.1 bs.out.2 Q);clear Q c9;go_wp2;refine bodyPost_ret (cM rfl _ _ (w.1.size+1) _ _ _ _ rfl (dH a9.out) Tryz.underlying79 rfl (by kernel_rfl)) rfl ?_;rw[I.out];exact⟨rfl,V.out.trans (cO.below V.out.size (fun k E bp=>by omega))⟩
    |some c=>
     obtain⟨p,d,cc,di⟩:∃p d,g f.number=some (.agg #[.slice p c.length d])∧bB w p d c:=by have:=b3.out f.number;rw[Q] at this;exact this
     have ce:bq=true:=(by have:=b0.out.2;rw[cc] at this;exact this.symm);have O:=b0.out.1;rw[cc] at O;injection O with O;simp only[Array.mk.injEq,List.cons.injEq,and_true,Value.slice.injEq] at O;obtain⟨rfl,rfl,rfl⟩:=O;subst ce;have I:=gQq (tb (k:=k) bs.out.1 bs.out.2 Q);have z:=(X.out.1.block _ (au ct.out)).trans ct.out;have dr:=aa z 1;have ds:=aa z 3;have dv:=aa z 4;have d9:=aa z 5;have ea:=aa z 6;have d4:=aa X.out.2 0;have cx:=gQq (tB wI c p d f.block b5 b4 f.rows wc (di.on V.out) bX.out.1 bX.out.2.1 (bX.out.2.2.on X.out.1));have cu:=gQq z;clear Q cc di z ak a5 a6 a7 a8 Y f1 Z ab ah;go_wp2_with fail;refine cx.out.mono ?_;clear cx dr ds dv d9 ea d4;cases hun:Bt.unpack c f.block f.rows with
     |error er=>
      rintro e dn ⟨rfl,K⟩;have ci:=Bt.unpack_err hun;have ed:((er:Int) != 0)=true:=aQ (by omega);rw[hun] at I;have aj:=(K.block _ (au a9.out)).trans a9.out;obtain⟨⟨ak,a5,a6,a7,a8⟩,Y,f1,Z,ab,ah⟩:=ow aj;have b1:=gQq aj;have be:=gQq (V.out.trans (K.mono V.out.size));clear aj K hun ci;go_wp2;refine bodyPost_ret (cM rfl _ _ (w.1.size+1) _ _ _ _ rfl (dH b1.out) Tryz.underlying79 rfl (by kernel_rfl)) rfl ?_;rw[I.out];exact⟨rfl,be.out.trans (cO.below be.out.size (fun k E bp=>by omega))⟩
     |ok l=>
      rintro e dn ⟨d6,d5,rfl,dh,K⟩;rw[hun] at I;have aj:=(K.block _ (au a9.out)).trans a9.out;obtain⟨⟨ak,a5,a6,a7,a8⟩,Y,f1,Z,ab,ah⟩:=ow aj;have z:=(K.block _ (au cu.out)).trans cu.out;have dr:=aa z 1;have ds:=aa z 3;have dv:=aa z 4;have df:dn.1[w.1.size]?=some (.cells #[.int .i64 (k:Int),.slice bc y.length bb] 62 (0,0)):=(K.block _ (Nat.lt_of_lt_of_le (au b2.out) X.out.1.size)).trans ((X.out.1.block _ (au b2.out)).trans b2.out);have el:=aa df 0;have b1:=gQq aj;have be:=gQq (V.out.trans (K.mono V.out.size));have d1:=gQq dh;have ei:w.1.size+1<wc.1.size:=au a9.out;clear aj K hun dh z df;go_wp2;refine bodyPost_ret (cM rfl _ _ (w.1.size+1) _ _ _ _ rfl (dH b1.out) Tryz.underlying79 rfl (by kernel_rfl)) rfl ?_;rw[I.out];exact⟨d6,d5,rfl,(d1.out.aside cO (fun k ee ef bp=>by omega)).lower (by omega),be.out.trans (cO.below be.out.size (fun k E bp=>by omega))⟩
  ·have d2:(f.kind != 2)=true:=aQ E;have I:=gQq (vN (s:=s) (k:=k) hd E);obtain⟨⟨ak,a5,a6,a7,a8⟩,Y,f1,Z,ab,ah⟩:=ow U;rw[D] at ak a5 a6 a7 a8 Y f1 Z ab ah;clear hd E D L bO U bT S cb ca b9 b8 b7;go_wp2;rw[<-bj.out];refine bodyPost_ret (cM rfl _ _ (w.1.size+1) _ _ _ _ rfl (dH bi.out) Tryz.underlying79 rfl (by kernel_rfl)) rfl ?_;rw[I.out];exact⟨rfl,J.out.trans (cO.below J.out.size (fun k E bp=>by omega))⟩
end
section
open Go.RowKit
def vM(x:Bat)(u:List Value)(w:World):Prop:=∃rp rc,u=(mS x.at_ x.number x.seq x.first rp x.rows.length rc).toList∧fw w rp rc x.rows
theorem xe:(Tryz.prog.info? 79).map (fun i=>(i.zero,i.size,i.bytes))=some (some (.agg #[.int .i64 0,.int .i64 0,.int .i64 0,.int .i64 0,.slice none 0 0]),5,56):=by kernel_rfl
theorem Lot.bats{xs:List Bat}(h:Lot 79 5 vM w B v xs):∃q c,v=.slice q xs.length c∧lZ w q xs:=by
 obtain⟨q,c,D,_⟩:=h.form;refine⟨q,c,D,fun j O=>?_⟩;obtain⟨g,cap,u,y,_,_,J,_,z,I,E,K,L⟩:=h.cell j O;rw[D] at y;injection y with y _ _;rw[K] at z;have o:∀m,m<5->w.cell? ⟨g,0+j*5+m,none⟩=(mS xs[j].at_ xs[j].number xs[j].seq xs[j].first I xs[j].rows.length E).toList[m]?:=fun m Q=>by rw[Nat.zero_add];exact z m Q
 exact⟨g,0,I,E,y,J,o 0 (by omega),o 1 (by omega),o 2 (by omega),o 3 (by omega),o 4 (by omega),L⟩
theorem xv{s:Int->Option (List Col)}{r:Run}{x:Bat}(h:Sv.bat1 s r=some x):x.rows.length<=64∧∀o∈x.rows,∀v∈o,v.wf:=by
 unfold Sv.bat1 at h;split at h
 ·unfold Sv.saved at h;dsimp only at h;split at h
  ·split at h
   ·cases h
   ·split at h
    ·cases h
    ·rename_i l hl;injection h with h;subst h;obtain⟨y,_,z⟩:=Bt.unpack_open hl;have K:=(Bt.numErr_open y).2;obtain⟨J,_,_,_,D⟩:=Bt.whole_ok z;exact⟨by dsimp only;omega,fun o I v E=>(D o I v E).2⟩
  ·cases h
 ·cases h
structure F17(w1 wr:World)(v:Value)(s:Int->Option (List Col))(rs:List Run):Prop where
 rows:Lot 79 5 vM wr w1.1.size v (Sv.bats s rs)
 below:Below w1.1.size w1 wr
theorem F17.skip{s:Int->Option (List Col)}{rs:List Run}{r:Run}(h:F17 w1 wr v s rs)(hb:Below wr.1.size wr W)(o:Sv.bat1 s r=none):F17 w1 W v s (rs++[r]):=⟨by rw[Sv.bats_snoc,o];simpa using h.rows.on hb,h.below.trans (hb.mono h.below.size)⟩
theorem F17.more{o:World}{v':Value}{s:Int->Option (List Col)}{rs:List Run}{r:Run}{x:Bat}(h:F17 w1 wr v s rs)(hb:Below wr.1.size wr W)(E:Sv.bat1 s r=some x)(D:Lot 79 5 vM o w1.1.size v' (Sv.bats s rs++[x]))(y:Aside (fun i=>v.ownBlock=some i) W o):F17 w1 o v' s (rs++[r]) :=
 ⟨by rw[Sv.bats_snoc,E];exact D,(h.below.trans (hb.mono h.below.size)).trans (y.below (Nat.le_trans h.below.size hb.size) (fun k I z=>by have:=(h.rows.lt k z).1;omega))⟩
theorem F17.still{o:World}{s:Int->Option (List Col)}{rs:List Run}{B:Nat}{D:OA}{z:Nat}{x:Bat}(h:F17 w1 wr v s rs)(J:bP o B (.slice D x.rows.length z) x.rows)(S:wr.1.size<=B)(U:x.rows.length<=64)(K:∀L∈x.rows,∀v∈L,v.wf)(hb:Below o.1.size o W):dZ (fun i=>v.ownBlock=some i) W (vM x (mS x.at_ x.number x.seq x.first D x.rows.length z).toList):=fun w' I=>by
 have E:Aside (fun i=>v.ownBlock=some i) o w':=(al hb _).trans I (fun _ _ y=>y);exact⟨D,z,rfl,(J.aside E (fun k O Q y=>by have:=(h.rows.lt k y).2;omega)).rows (by omega) K⟩
def zU(w:World)(B:Nat)(xs:List Bat)(e:Ending)(w':World):Prop:=∃q c,e=.returned (.slice q xs.length c)∧lZ w' q xs∧Below B w w'
theorem rM{a M gs n:Nat}{g:Int->Option Value}{s:Int->Option (List Col)}{d:Sp}(h:Slv w B a M gs n v g s d):¬(a=gs∨v.ownBlock=some a)∧¬(M=gs∨v.ownBlock=some M):=by
 refine⟨fun z=>z.elim (fun e=>?_) (fun e=>?_),fun z=>z.elim (fun e=>h.map.off h.spl.lies e.symm) (fun e=>?_)⟩
 ·have o:=h.lies;rw[e,h.spl.lies] at o;injection o with o;injection o with _ o _;exact absurd o (by decide)
 ·obtain⟨C,y⟩:=eP h.spl.held e;have o:=h.lies;rw[y] at o;injection o with o;injection o with _ o _;exact absurd o (by decide)
 ·obtain⟨C,y⟩:=eP h.spl.held e;exact h.map.off y rfl
theorem xl(w:World)(B a M gs n:Nat)(v:Value)(g:Int->Option Value)(s:Int->Option (List Col))(b:L8)(p:OA)(c:Nat)(D:Slv w B a M gs n v g s Sp.start)(b8:B<=w.1.size)(c6:2<B)(co:Hv w)(dr:b.length<=100000)(b6:At w p b)(ce:b≠[]->∀k o,p=some ⟨k,o,none⟩->k<B):
  Calls Tryz.prog 16 #[.pointer (some ⟨a,0,none⟩),.slice p b.length c] w (zU w B (Sv.bats s (Sp.of b).out)):=by
 have bs:=gQq (xS w B gs v Sp.start p c b D.spl b6 (fun c7 k o cb=>by
  have dj:=ce c7 k o cb;have dk:=D.spl.base
  exact⟨by omega,fun I=>by have:=(D.spl.held.lt _ I).1;omega⟩) (by simp[Sp.start];omega))
 have cn:Sp.start.tolds b=(Sp.of b).out:=by
  have:=Sp.tolds_out Sp.start b;simpa[Sp.start,Sp.of] using this.symm
 have c8:=Sp.out_len b;have bT:=gQq (Sp.row_all b).stand;have z1:w.cell? ⟨a,1,none⟩=some (.pointer (some ⟨gs,0,none⟩)):=aa D.lies 1;have y:=gQq D;have cv:=gQq co;have Z:=gQq cn;obtain⟨rs,cg⟩:∃rs,rs=(Sp.of b).out:=⟨_,rfl⟩;rw[<-cg] at c8 bT Z ⊢;clear D co b6 ce cg cn;go_enter Tryz.func16,Tryz.ntmps16;go_wp2_with fail;refine bs.out.mono ?_;rintro e w1 ⟨q,cap,v',de,rfl,J⟩;have a6:=J.runs;rw[Z.out] at a6 ⊢;obtain⟨b3,b4⟩:=rM y.out;have cc:=(J.aside.block a (au y.out.lies) b3).trans y.out.lies;have ah:Below B w w1:=J.aside.below b8 (fun k cb I=>by
  rcases I with I | I
  ·have:=y.out.spl.base;omega
  ·have:=(y.out.spl.held.lt _ I).1;omega)
 have cj:fM w1 s g:=fun m=>by
  have:=y.out.sees m;cases hm:s m with
  |none=>rw[hm] at this;exact this
  |some c0=>
   rw[hm] at this;obtain⟨da,cx,cy,c5⟩:=this;exact⟨da,cx,cy,c5 w1 J.aside⟩
 have cs:=gQq a6;have bN:=gQq cc;have cr:=gQq (y.out.map.aside J.aside b4);have ct:=gQq cj;have cw:=gQq (cv.out.on ah c6);have bn:=gQq ah;clear a6 cc ah cj J bs b3 b4 z1 Z;go_wp2_with fail;go_loopw [5,17] (fun dc be wr=>∃t:Nat,t<=rs.length∧be=.int .i64 t∧Hid (F17 w1 wr dc s (rs.take t))) (fun _ be _=>rs.length-(intOf be).toNat);case atStart=>exact⟨0,by omega,rfl,fU _ _,gQz⟩
 case round=>
  obtain⟨t,dv,rfl,HR⟩:=hrel;by_cases X:t<rs.length
  ·have d0:(t:Int)<(rs.length:Int):=(by omega);obtain⟨dd,dh,cp,b5,ak,dn,bj,bk,Q,U⟩:=(cs.out.on HR.out.below).cell t X;injection ak with ak hq2 hq3;clear hq2;subst hq3;subst ak;have aj:=(bT.out _ (List.getElem_mem X)).most;obtain⟨k,z,a5⟩:∃k z,rs[t]=(k,z):=⟨_,_,rfl⟩;have b0:Hid (rs.take (t+1)=rs.take t++[(k,z)]):=(by show _=_;rw[List.take_succ_eq_append_getElem X,a5]);rw[a5] at bj bk Q U aj;simp only at bj bk Q U aj;obtain⟨cq,a7⟩:∃W,W=wr.alloc (.cells #[.int .i64 (k:Int),.slice cp z.length b5] 62):=⟨_,rfl⟩;have S:Below wr.1.size wr cq:=(by rw[a7];exact gQy);have L:=HR.out.below.trans (S.mono HR.out.below.size);have br:=gQq (vL cq a M gs n g s k z cp b5 ((L.block _ (au bN.out)).trans bN.out) (cr.out.on L) (ct.out.on L) (cw.out.next L) (Q.on S) aj U);have K:=gQq S;have b1:=gQq a7;clear a5 Q a7 S L U;go_wp2_with fail;rw[<-b1.out];clear b1 bj bk;refine br.out.mono ?_;clear br;cases hd:Sv.bat1 s (k,z) with
   |none=>
    rintro e bi ⟨rfl,E⟩;unfold mS;have Y:=gQq (HR.out.skip (r:=(k,z)) (K.out.trans ((E.alloc E.size (.cells #[.int .i64 0,.int .i64 0,.int .i64 0,.int .i64 0,.slice none 0 0] 79)).mono K.out.size)) hd);clear E hd;go_wp2;go_roundw;case rel=>exact⟨t+1,by omega,by go_num,by rw[b0.out];exact Y⟩
    case measure=>simp[intOf];omega
   |some x=>
    rintro e bi ⟨bc,bb,rfl,cf,E⟩;have a8:=xv hd;have bp:Hid (Below wr.1.size wr bi):=K.out.trans (E.mono K.out.size);obtain⟨-,b7,ab,-⟩:=al2 bi (.cells (mS x.at_ x.number x.seq x.first bc x.rows.length bb) 79) (.cells (mS x.at_ x.number x.seq x.first bc x.rows.length bb) 79);have bq:=gQq b7;have O:=gQq (bp.out.trans (ab.mono bp.out.size));have bX:=gQq (HR.out.still cf K.out.size a8.1 a8.2 ab);have bO:=gQq (HR.out.rows.on O.out);have cu:=gQq hd;have ck:=Sv.bats_le s (rs.take t);have ds:(Sv.bats s (rs.take t)).length<=100000:=(by rw[List.length_take] at ck;omega);unfold mS at bq O bX bO ⊢;clear hd a8 cf E b7 ab ck;go_wp2_with (first | (at_builtin;refine iw (P:=vM) xe Tryz.underlying42 rfl (by decide) bO.out x #[.int .i64 x.at_,.int .i64 x.number,.int .i64 x.seq,.int .i64 x.first,.slice bc x.rows.length bb] rfl (by intro a b9;simp at b9;rcases b9 with rfl | rfl | rfl | rfl | rfl <;> rfl) bX.out bq.out (by omega) (by omega) (by have:=HR.out.below.size;have:=O.out.size;omega) rfl rfl rfl rfl rfl ?_;(intro di df w5 cd ca _);(have Y:=gQq (HR.out.more O.out cu.out cd ca));(clear cd ca)) | fail);go_roundw;case rel=>exact⟨t+1,by omega,by go_num,by rw[b0.out];exact Y⟩
    case measure=>simp[intOf];omega
  ·have dp:¬(t:Int)<(rs.length:Int):=(by omega);obtain rfl:t=rs.length:=by omega
   have V:=HR.out;rw[List.take_length] at V;obtain⟨db,c2,c9,ci⟩:=V.rows.bats;subst c9;have b2:=gQq (And.intro ci (bn.out.trans (V.below.mono (Nat.le_trans b8 bn.out.size))));clear X V ci;go_wp2;go_ret;exact⟨db,c2,rfl,b2.out.1,b2.out.2⟩
theorem yO:xW Hv where
 on h hb:=h.next hb
 all b p c w hl hbc hA hv:=by
  have O:=gQq (gy.ok b p c w (by omega) hbc hA hv);have J:=gQq hA;have Q:=gQq hv;clear hA hv;go_enter Tryz.func11,Tryz.ntmps11;go_wp2_with fail;refine O.out.mono ?_;rintro e w1 ⟨l,q,d,rfl,ab,Z,E,Y,U⟩;have L:=gQq (ym l q d w1 Y ab (fun x a9=>Sv.said_good _ x (Sv.sure_mem ((E x.1 x.2).1 a9))));have ah:∀m,Sv.sure l m=Sv.sure (Sv.said (Sp.of b).out) m:=fun m=>by
   apply Option.ext;intro x;rw[tH Z,E]
  have ak:=gQq (funext ah);have HB1:=gQq U;clear ab Z E Y U ah O;go_wp2_with fail;refine L.out.mono ?_;rintro e bc ⟨a,M,gs,n,v,g,rfl,I,D⟩;rw[ak.out] at I;have y:=HB1.out.trans (D.mono HB1.out.size);have K:=gQq (xl bc w1.1.size a M gs n v g _ b p c I D.size (Nat.lt_of_lt_of_le Q.out.lt HB1.out.size) (Q.out.next y) hl (J.out.on y) (fun a8 k o z=>by
   rcases J.out with a5 | ⟨be,bk,a6,a7,bi⟩
   ·exact absurd a5 a8
   ·rw[a6] at z;injection z with z;injection z with e1 _;subst e1;exact Nat.lt_of_lt_of_le a7 HB1.out.size))
  have aj:=gQq y;clear I D y L;go_wp2_with fail;refine K.out.mono ?_;rintro e bn ⟨bb,c3,rfl,X,V⟩;have S:=gQq (And.intro X (aj.out.trans (V.mono HB1.out.size)));clear X V K;go_wp2;go_ret;exact⟨bb,c3,rfl,S.out.1,S.out.2⟩
end
end Go.Proofs.YtbahfgdbjgkklaaGreatDoor
