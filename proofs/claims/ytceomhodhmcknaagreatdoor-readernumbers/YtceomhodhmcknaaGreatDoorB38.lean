import Derived.Test.YtceomhodhmcknaaGreatDoorA13
import Derived.Test.YtceomhodhmcknaaGreatDoorB29
import Derived.Test.YtceomhodhmcknaaGreatDoorB32
set_option maxRecDepth 100000
set_option maxHeartbeats 4000000
namespace Go.Proofs.YtceomhodhmcknaaGreatDoor
variable{B:Nat}{w:World}{v:Value}
section
open Go.RowKit Go.Shelf
attribute [local go_sem] af Oper.semAt_some
theorem tz:(Tryz.prog.info? 35).map (fun i=>(i.zero,i.size,i.bytes))=some (some (.agg #[.slice none 0 0]),1,24):=by kernel_rfl
def mi(w:World)(F:Nat->Prop)(q:OA)(d:Nat)(vs:List V):Prop:=aR w F (cells5 0 0 0 ⟨#[]⟩ q vs.length d) (.mk 0 0 0 ⟨#[]⟩ vs)
structure bM(w:World)(B:Nat)(v:Value)(ys:List (List V)):Prop where
 out:∃us:List Value,w.ownsRow B 35 1 v ys.length us∧∀j (hj:j<ys.length),∃q d,us[j]?=some (.slice q ys[j].length d)∧mi w (fun k=>B<=k∧k<w.1.size∧v.ownBlock≠some k) q d ys[j]
theorem pi(w:World)(B:Nat):bM w B (.slice none 0 0) []:=⟨[],⟨rfl,.inl ⟨rfl,rfl⟩⟩,fun j hj=>by simp at hj⟩
section
variable {w w':World} {B:Nat} {v:Value} {ys:List (List V)}
theorem bM.lt(h:bM w B v ys):∀k,v.ownBlock=some k->B<=k∧k<w.1.size:=by
 obtain⟨us,h1,_⟩:=h.out
 exact World.ownsRow.lt h1
theorem bM.aside{G:Nat->Prop}(h:bM w B v ys)(ha:Aside G w w')(hG:∀k,B<=k->k<w.1.size->¬G k):bM w' B v ys:=by
 have hlt:=h.lt
 obtain⟨us,h1,h2⟩:=h.out
 have hs:=ha.size
 refine⟨us,⟨h1.1,?_⟩,fun j hj=>?_⟩
 ·rcases h1.2 with h3 | ⟨g,cap,cur,rfl,h4,h5,h6⟩
  ·exact .inl h3
  ·exact .inr ⟨g,cap,cur,rfl,h4,by rw[ha.block g (Array.getElem?_eq_some_iff.1 h5).1 (hG g h4 (Array.getElem?_eq_some_iff.1 h5).1)];exact h5,h6⟩
 ·obtain⟨q,d,e1,e2⟩:=h2 j hj
  exact⟨q,d,e1,(aR.aside e2 ha (fun k hk=>hG k hk.1 hk.2.1)).mono (fun k hk=>⟨hk.1,by omega,hk.2.2⟩)⟩
theorem bM.on(h:bM w B v ys)(hb:Below w.1.size w w'):bM w' B v ys:=h.aside (ag hb (fun _=>False)) (fun _ _ _ hc=>hc)
theorem bM.lower{B':Nat}(h:bM w B v ys)(hB:B'<=B):bM w B' v ys:=by
 obtain⟨us,h1,h2⟩:=h.out
 refine⟨us,⟨h1.1,?_⟩,fun j hj=>?_⟩
 ·rcases h1.2 with h3 | ⟨g,cap,cur,rfl,h4,h5,h6⟩
  ·exact .inl h3
  ·exact .inr ⟨g,cap,cur,rfl,by omega,h5,h6⟩
 ·obtain⟨q,d,e1,e2⟩:=h2 j hj
  exact⟨q,d,e1,aR.mono e2 (fun k hk=>⟨by omega,hk.2⟩)⟩
theorem bM.form(h:bM w B v ys):∃q c,v=.slice q ys.length c∧ys.length<=c:=by
 obtain⟨us,h1,h2⟩:=h.out
 rcases h1.2 with ⟨rfl,h3⟩ | ⟨g,cap,cur,rfl,_,_,h4,_⟩
 ·exact⟨none,0,by rw[h3],by omega⟩
 ·exact⟨_,_,rfl,h4⟩
theorem bM.rows{q:OA}{c:Nat}(h:bM w B (.slice q ys.length c) ys)(hl:ys.length*24<=140737488351232)(hw:∀y∈ys,∀x∈y,x.wf):fJ w q c ys:=by
 obtain⟨us,h1,h2⟩:=h.out
 rcases h1.2 with ⟨he,h3⟩ | ⟨g,cap,cur,he,h4,h5,h6,h7,h8,h9⟩
 ·injection he with e1 _ e2
  exact⟨hl,by omega,fun j hj=>by omega⟩
 ·injection he with e1 _ e2
  subst e1 e2
  refine⟨hl,h6,fun j hj=>?_⟩
  obtain⟨qj,dj,e3,e4⟩:=h2 j hj
  refine⟨g,0,qj,dj,rfl,(Array.getElem?_eq_some_iff.1 h5).1,?_,aR.lies e4,hw _ (List.getElem_mem hj)⟩
  rw[aa h5]
  rw[<-h9,List.getElem?_take] at e3
  simp only[Nat.mul_one] at e3
  rw[if_pos hj] at e3
  simpa using e3
end
theorem qU{ys:List (List V)}(h:bM w B v ys)(hB:B<=w.1.size)(y:List V)(q:OA)(d ad:Nat)(hblk:w.1[ad]?=some (.cells #[.slice q y.length d] 35 (0,0)))(hn:ys.length<=1000000)(hy:mi w (fun k=>B<=k∧k<w.1.size∧v.ownBlock≠some k) q d y):
  ∃g cap W,cf Tryz.prog 55 55 55 v (.slice (some ⟨ad,0,none⟩) 1 1) w (.slice (some ⟨g,0,none⟩) (ys++[y]).length cap) W∧bM W B (.slice (some ⟨g,0,none⟩) (ys++[y]).length cap) (ys++[y])∧Aside (fun k=>v.ownBlock=some k) w W:=by
 obtain⟨i,hi,hz,hsz,hby⟩:=info_parts tz
 obtain⟨us,h1,h2⟩:=h.out
 have hul:us.length=ys.length:=by rw[h1.1];omega
 obtain⟨g,cap,W,hr,ho,hg,hor,hlt⟩:=run_append_lies (P:=Tryz.prog) w 55 55 B 35 i (.agg #[.slice none 0 0]) 1 24 Tryz.underlying55 hi hz hsz hby rfl (by decide) v ys.length us h1 ⟨ad,0,none⟩ 1 1 [.slice q y.length d] rfl (World.news_of_block hblk) (by simp[Value.oneCell']) (by decide) (by unfold maxLen;omega) (by omega) hB w.1.size rfl
 have hlen:(ys++[y]).length=ys.length+1:=by simp
 have hag:=cd hg
 have hsW:=hag.size
 have hgn:∀k,k<w.1.size->v.ownBlock≠some k->g≠k:=fun k hk hv hc=>by
  subst hc
  rcases hor with h3 | h3
  ·exact hv h3
  ·omega
 refine⟨g,cap,W,⟨by rw[hlen];exact hr⟩,⟨us++[.slice q y.length d],by rw[hlen];exact ho,fun j hj=>?_⟩,hag⟩
 have keep:∀{q':OA} {d':Nat} {z:List V},mi w (fun k=>B<=k∧k<w.1.size∧v.ownBlock≠some k) q' d' z->mi W (fun k=>B<=k∧k<W.1.size∧(Value.slice (some ⟨g,0,none⟩) (ys++[y]).length cap).ownBlock≠some k) q' d' z:=fun hz=>
  (aR.aside hz hag (fun k hk hc=>hk.2.2 hc)).mono (fun k hk=>⟨hk.1,by omega,fun hc=>by
   simp only[Value.ownBlock,Option.some.injEq] at hc
   exact hgn k hk.2.1 hk.2.2 hc⟩)
 by_cases hje:j<ys.length
 ·obtain⟨q',d',e1,e2⟩:=h2 j hje
  refine⟨q',d',?_,?_⟩
  ·rw[List.getElem?_append_left (by omega),e1,List.getElem_append_left hje]
  ·rw[List.getElem_append_left hje]
   exact keep e2
 ·have hj2:j=ys.length:=by rw[hlen] at hj;omega
  subst hj2
  refine⟨q,d,?_,?_⟩
  ·rw[List.getElem?_append_right (by omega),hul]
   simp
  ·simp only[List.getElem_append_right xX,Nat.sub_self,List.getElem_cons_zero]
   exact keep hy
def sF(J:List (List V)->World->Prop)(X:Nat->World->Prop)(W:World):Except Nat (List (List V))->Prop
 |.ok l=>J l W
 |.error er=>X er W
theorem ql{m:List (List V)}(HR:RowsIn m)(s:List Col)(p:OA)(c:Nat)(b:L8)(q:OA)(d:Nat)(n:Nat)(hb:b.length<=2048)(hn:n<=64)(hbd:b.length<=d)(sb bb nb:Nat)(L:Nat)(J:List (List V)->World->Prop)(X:Nat->World->Prop)(W:World)(hJb:∀ys W,J ys W->dc W p c s∧At W q b∧W.1[sb]?=some (.cells #[.slice p s.length c] 53 (0,0))∧W.1[bb]?=some (.cells #[.slice q b.length d] 22 (0,0))∧W.1[nb]?=some (.cells #[.int .i64 n] 3 (0,0)))(hJn:∀ys W W',J ys W->Below W.1.size W W'->J ys W')(h0:J [] W)(good:∀m ys y W1 W2 qq dd,ys.length<n->J ys W1->Below W1.1.size W1 W2->mi W2 (fun k=>W1.1.size<=k∧k<W2.1.size) qq dd y->YieldAt Fence.wide m Tryz.prog L #[.agg #[.slice qq y.length dd],.int .i64 0] W2 fun e W'=>∃b,e=.returned (.bool b)∧b=true∧J (ys++[y]) W')(bad:∀m ys W (er:Nat),J ys W->er≠0->YieldAt Fence.wide m Tryz.prog L #[.agg #[.slice none 0 0],.int .i64 er] W fun e W'=>∃b,e=.returned (.bool b)∧b=false∧X er W'):
  Calls Tryz.prog 109 #[.func (.yield L) #[] #[],.pointer (some ⟨nb,0,none⟩),.pointer (some ⟨sb,0,none⟩),.pointer (some ⟨bb,0,none⟩)] W fun e W'=>(∃v,e=.returned v)∧sF J X W' (Bt.whole s b n):=by
 have n0:=am (hJb [] W h0).2.2.2.2
 have HJb:=xQ hJb
 have HJn:=xQ hJn
 have H0:=xQ h0
 have HG:=xQ good
 have HBd:=xQ bad
 have HRI:=xQ HR
 clear hJb hJn h0 good bad HR
 refine(callsIn_wide (n:=3)).1 ?_
 refine callsIn_of_wp Tryz.func109 rfl trivial ?_ rfl
 simp only[Tryz.ntmps109,List.size_toArray,List.length_cons,List.length_nil,Nat.reduceAdd,Nat.reduceSub,Array.replicate_succ,Array.replicate_zero,List.push_toArray,List.append_toArray,List.nil_append,List.cons_append]
 gi_wp2
 gi_loopw [5,10] (fun v5 v10 wr=>∃(i a:Nat) (ys:List (List V)),i<=n∧v10=.int .i64 i∧v5=.int .i64 a∧a<=b.length∧Hid (Bt.rows s b i 0=.ok (ys,a)∧ys.length=i∧J ys wr)) (fun _ v10 _=>n-(intOf v10).toNat)
 case atStart=>exact⟨0,0,[],by omega,rfl,rfl,by omega,rfl,rfl,H0.out⟩
 case round=>
  clear n0
  obtain⟨i,a,ys,hi,rfl,rfl,ha,HK⟩:=hrel
  obtain⟨hS0,hA0,hsb0,hbb0,-⟩:=HJb.out ys wr HK.out.2.2
  by_cases hlt:i<n
  ·have hlt':(i:Int)<(n:Int):=by omega
   have n1:=am hsb0
   have n2:=am hbb0
   have hD:=HRI.out.decode s p c b q d a wr hS0 (by omega) hbd hA0 (by omega) (by omega)
   have hsn:=Bt.rows_snoc i 0 ys a HK.out.1
   cases hrd:Rw.read s b a with
   |error er=>
    rw[hrd] at hD hsn
    have hne:=Rw.read_err hrd
    have HW:Hid (Bt.whole s b n=.error er):=by
     show _=_
     have:=Bt.rows_stop (i+1) 0 er (n-(i+1)) hsn
     rw[show i+1+(n-(i+1))=n by omega] at this
     unfold Bt.whole
     rw[this]
    have HD:=xQ hD
    clear hD hsn hS0 hA0 hsb0 hbb0 hrd
    gi_wp2
    refine⟨trivial,?_⟩
    refine(callsIn_wide.2 HD.out).mono ?_
    rintro e w1 ⟨rfl,hb1⟩
    have g1:((er:Int) != 0)=true:=bC (by omega)
    obtain⟨w2,hw2⟩:∃w2,w2=w1.alloc (.cells #[.slice none 0 0] 35):=⟨_,rfl⟩
    have hb2:Below wr.1.size wr w2:=by rw[hw2];exact hb1.alloc hb1.size _
    obtain⟨fn,tmps,assign,body,hy,hR1⟩:=HBd.out 2 ys w2 er (HJn.out ys wr w2 HK.out.2.2 hb2) hne
    rw[hw2] at hy hR1
    clear hb1 hb2 hw2 HD
    gi_wp2
    refine hR1.mono ?_
    rintro e w3 ⟨bb,rfl,rfl,hX3⟩
    have HX3:=xQ hX3
    clear hX3
    gi_wp2
    refine bodyPost_ret (results_none rfl _ _ _) rfl ?_
    refine⟨⟨_,rfl⟩,?_⟩
    rw[HW.out]
    exact HX3.out
   |ok pr=>
    obtain⟨y,k⟩:=pr
    rw[hrd] at hD hsn
    have hk:=(Rw.read_ok hrd).2.2.2.1
    have HD:=xQ hD
    have HSn:=xQ hsn
    clear hD hsn hS0 hA0 hsb0 hbb0 hrd
    gi_wp2
    refine⟨trivial,?_⟩
    refine(callsIn_wide.2 HD.out).mono ?_
    rintro e w1 ⟨qq,dd,rfl,hown,hb1⟩
    obtain⟨w2,hw2⟩:∃w2,w2=w1.alloc (.cells #[.slice qq y.length dd] 35):=⟨_,rfl⟩
    have hb2:Below wr.1.size wr w2:=by rw[hw2];exact hb1.alloc hb1.size _
    have hs2:w2.1.size=w1.1.size+1:=by rw[hw2];simp
    have hb12:Below w1.1.size w1 w2:=by rw[hw2];exact xY
    obtain⟨fn,tmps,assign,body,hy,hR1⟩:=HG.out 2 ys y wr w2 qq dd (by rw[HK.out.2.1];exact hlt) HK.out.2.2 hb2 ((hown.under hb12 (fun k hk=>hk.2)).mono (fun k hk=>⟨hk.1,by omega⟩))
    rw[hw2] at hy hR1
    clear hb1 hb2 hw2 hs2 hb12 HD hown
    gi_wp2
    refine hR1.mono ?_
    rintro e w3 ⟨bb,rfl,rfl,hJ3⟩
    have HJ3:=xQ hJ3
    clear hJ3
    gi_wp2
    go_roundw
    case rel=>
     refine⟨i+1,k,ys++[y],by omega,by go_num,rfl,hk,HSn.out,by simp[HK.out.2.1],HJ3.out⟩
    case measure=>simp[intOf];omega
  ·have hie:i=n:=by omega
   subst hie
   have n2:=am hbb0
   by_cases hend:a<b.length
   ·have hend':(a:Int)<(b.length:Int):=by omega
    have HW:Hid (Bt.whole s b i=.error 5):=by
     show _=_
     unfold Bt.whole
     rw[HK.out.1]
     exact if_pos hend
    obtain⟨fn,tmps,assign,body,hy,hR1⟩:=HBd.out 2 ys wr 5 HK.out.2.2 (by decide)
    simp only[Int.cast_ofNat_Int] at hy
    clear hS0 hA0 hsb0 hbb0
    gi_wp2
    refine hR1.mono ?_
    rintro e w3 ⟨bb,rfl,rfl,hX3⟩
    have HX3:=xQ hX3
    clear hX3
    gi_wp2
    go_end0
    refine⟨⟨_,rfl⟩,?_⟩
    rw[HW.out]
    exact HX3.out
   ·have HW:Hid (Bt.whole s b i=.ok ys):=by
     show _=_
     unfold Bt.whole
     rw[HK.out.1]
     exact if_neg hend
    have hend':¬(a:Int)<(b.length:Int):=by omega
    clear hS0 hA0 hsb0 hbb0
    gi_wp2
    go_end0
    refine⟨⟨_,rfl⟩,?_⟩
    rw[HW.out]
    exact HK.out.2.2
end
section
open Go.RowKit Go.Shelf
attribute [local go_sem] af Oper.semAt_some
def xv(w:World)(r:Except Nat (List (List V)))(e:Ending)(w':World):Prop:=match r with
 |.error er=>e=.returned (.tuple #[.slice none 0 0,.int .i64 (er:Nat)])∧Below w.1.size w w'
 |.ok l=>∃q c,e=.returned (.tuple #[.slice q l.length c,.int .i64 0])∧bM w' w.1.size (.slice q l.length c) l∧Below w.1.size w w'
theorem sf(s:List Col)(p:OA)(c m:Nat)(q:OA)(d:Nat)(n:Int)(w:World):
  Calls Tryz.prog 83 #[.agg #[.slice p s.length c],.slice q m d,.int .i64 n] w fun e w'=>e=.returned (.func (.func 109) #[] #[.pointer (some ⟨w.1.size+1+1,0,none⟩),.pointer (some ⟨w.1.size,0,none⟩),.pointer (some ⟨w.1.size+1,0,none⟩)])∧w'=((w.alloc (.cells #[.slice p s.length c] 53)).alloc (.cells #[.slice q m d] 22)).alloc (.cells #[.int .i64 n] 3):=by
 go_enter Tryz.func83,Tryz.ntmps83
 go_wp2
 go_ret
 exact⟨rfl,rfl⟩
structure iS(w w3:World)(B:Nat)(rec:Loop)(v:Value)(ys:List (List V))(W:World):Prop where
 below:Below w.1.size w W
 same:∀k,k<w3.1.size->k≠B->W.1[k]?=w3.1[k]?
 box:W.1[B]?=some (.cells #[v] 55 (0,0))
 has:bM W (w3.1.size+2) v ys
 dfr:W.1[w3.1.size]?=some (.deferred (some []))
 lp:W.1[w3.1.size+1]?=some (.loop rec)
 size:w3.1.size+2<=W.1.size
structure vW(w w3:World)(rec:Loop)(er:Nat)(W:World):Prop where
 below:Below w.1.size w W
 r1:W.1[w.1.size+1]?=some (.cells #[.slice none 0 0] 55 (0,0))
 r2:W.1[w.1.size+1+1]?=some (.cells #[.int .i64 er] 36 (0,0))
 dfr:W.1[w3.1.size]?=some (.deferred (some []))
 lp:W.1[w3.1.size+1]?=some (.loop rec)
section
variable {w w3 W W':World} {B:Nat} {rec:Loop} {v v':Value} {xs ys:List (List V)}
theorem iS.on(h:iS w w3 B rec v xs W)(hb:Below W.1.size W W'):iS w w3 B rec v xs W':=by
 have hs:=h.size
 have hw:=h.below.size
 have hB:=ao h.box
 exact⟨h.below.trans (hb.mono hw),fun k hk hne=>(hb.block k (by omega)).trans (h.same k hk hne),aF h.box hb hB,h.has.on hb,aF h.dfr hb (by omega),aF h.lp hb (by omega),by have:=hb.size;omega⟩
theorem iS.turn(h:iS w w3 B rec v xs W)(hw:w.1.size<=w3.1.size)(hB:B<w3.1.size)(rec':Loop):iS w w3 B rec' v xs (W.putObj (w3.1.size+1) (.loop rec')):=by
 have hs:=h.size
 exact⟨h.below.trans (bo _ (by omega) h.below.size),fun k hk hne=>(World.putObj_heap_other (by omega)).trans (h.same k hk hne),(World.putObj_heap_other (by omega)).trans h.box,h.has.aside (bR _) (fun k hk _ hc=>by omega),(World.putObj_heap_other (by omega)).trans h.dfr,World.putObj_heap_same (by omega),by simp;omega⟩
theorem iS.more(h:iS w w3 B rec v xs W)(hw:w.1.size<=B)(hB:B<w3.1.size)(ha:Aside (fun k=>v.ownBlock=some k) W W')(hh:bM W' (w3.1.size+2) v' ys):
  W'.1[B]?=some (.cells #[v] 55 (0,0))∧iS w w3 B rec v' ys (W'.setCell ⟨B,0,none⟩ v'):=by
 have hs:=h.size
 have hold:∀k,k<w3.1.size+2->W'.1[k]?=W.1[k]?:=fun k hk=>ha.block k (by omega) (fun hc=>by have:=(h.has.lt k hc).1;omega)
 have hbx:W'.1[B]?=some (.cells #[v] 55 (0,0)):=(hold B (by omega)).trans h.box
 have hset:∀k,k≠B->(W'.setCell ⟨B,0,none⟩ v').1[k]?=W'.1[k]?:=fun k hk=>Below.heap_setCell _ _ _ _ hk
 have hbW:Below w.1.size W W':=ha.below h.below.size (fun k hk hc=>by have:=(h.has.lt k hc).1;omega)
 refine⟨hbx,⟨(h.below.trans hbW).setCell (p:=⟨B,0,none⟩) hw _,fun k hk hne=>?_,by simpa using al hbx 0 v',?_,?_,?_,?_⟩⟩
 ·rw[hset k hne,hold k (by omega)];exact h.same k hk hne
 ·exact hh.aside ((Aside.refl (fun k=>k=B) W').setCell (p:=⟨B,0,none⟩) (.inl rfl) v') (fun k hk _ hc=>by omega)
 ·rw[hset _ (by omega),hold _ (by omega)];exact h.dfr
 ·rw[hset _ (by omega),hold _ (by omega)];exact h.lp
 ·have:=ha.size
  have:(W'.setCell ⟨B,0,none⟩ v').1.size=W'.1.size:=by simp[World.setCell]
  omega
end
theorem At.keepB{w':World}{p:OA}{l:L8}{A:Nat}(h:At w p l)(hp:∀b o,p=some ⟨b,o,none⟩->b<A)(hk:∀k,k<A->w'.1[k]?=w.1[k]?)(hs:w.1.size<=w'.1.size):At w' p l:=by
 rcases h with rfl | ⟨b,o,rfl,h1,h2⟩
 ·exact .inl rfl
 ·refine .inr ⟨b,o,rfl,by omega,fun j hj=>?_⟩
  rw[World.cell?_of_block (w:=w) (hk b (hp b o rfl))]
  exact h2 j hj
theorem oW{F:Fence}{n:Nat}{ys:List (List V)}{w:World}(h:bM w B v ys)(hB:B<=w.1.size)(y:List V)(q:OA)(d ad:Nat)(hblk:w.1[ad]?=some (.cells #[.slice q y.length d] 35 (0,0)))(hn:ys.length<=1000000)(hy:mi w (fun k=>B<=k∧k<w.1.size∧v.ownBlock≠some k) q d y){ops:Array Oper}{rest:List Oper}{o:Oper}{a:Act}{Q:Exit->Act->World->Prop}{yy x:Operand}(ht:o.type=55)(hg:o.guard=none)(hop:o.op=Op.call { callee:=Callee.builtin Builtin.append,args:=#[yy,x],argTypes:=#[55,55] })(hs:a.eval yy=v)(hx:a.eval x=.slice (some ⟨ad,0,none⟩) 1 1)(hK:∀zs g cap W,Hid (zs=ys++[y])->bM W B (.slice (some ⟨g,0,none⟩) zs.length cap) zs->Aside (fun k=>v.ownBlock=some k) w W->wpListIn F n Tryz.prog ops Q rest (a.put o.dst (.slice (some ⟨g,0,none⟩) zs.length cap)) W):
  wpListIn F n Tryz.prog ops Q (o::rest) a w:=by
 obtain⟨g,cap,W,hr,hm,ha⟩:=qU h hB y q d ad hblk hn hy
 have hr':cf Tryz.prog 55 55 o.type v (.slice (some ⟨ad,0,none⟩) 1 1) w (.slice (some ⟨g,0,none⟩) (ys++[y]).length cap) W:=by rw[ht];exact hr
 exact cn hr' hg hop hs hx (hK _ g cap W (xQ rfl) hm ha)
theorem qH{m:List (List V)}(HR:RowsIn m)(s:List Col)(p:OA)(c:Nat)(b:L8)(q:OA)(d:Nat)(n:Int)(w:World)(hS:dc w p c s)(hbl:b.length<=140737488351232)(hbd:b.length<=d)(hat:At w q b):
    Calls Tryz.prog 52 #[.agg #[.slice p s.length c],.slice q b.length d,.int .i64 n] w (xv w (Bt.unpack s b n)):=by
  obtain⟨W0,hW0⟩:∃W0,W0=((w.alloc (.cells #[.slice p s.length c] 53)).alloc (.cells #[.slice none 0 0] 55)).alloc (.cells #[.int .i64 0] 36):=⟨_,rfl⟩
  obtain⟨k0,k1,k2,hb0,hs0⟩:=al3 w (.cells #[.slice p s.length c] 53) (.cells #[.slice none 0 0] 55) (.cells #[.int .i64 0] 36)
  rw[<-hW0] at k0 k1 k2 hb0 hs0
  have HC:=xQ (oL HR s p c n W0 (hS.on hb0))
  have HK:=xQ (And.intro k0 (And.intro k1 k2))
  have HB0:=xQ hb0
  have HW0:=xQ hW0
  have HS:=xQ hS
  have HA:=xQ hat
  have HRI:=xQ HR
  obtain⟨R,hR⟩:∃R,R=Bt.unpack s b n:=⟨_,rfl⟩
  rw[<-hR]
  unfold Bt.unpack at hR
  obtain⟨en,hen⟩:∃en,en=Bt.numErr s n:=⟨_,rfl⟩
  rw[<-hen] at HC hR
  have HRR:=xQ hR
  have HEn:=xQ hen
  clear hb0 hW0 hS HR hR hen k0 k1 k2 hat
  refine(callsIn_wide (n:=5)).1 ?_
  refine callsIn_of_wp_marks Tryz.func52 rfl trivial ?_ rfl
  simp only[Tryz.ntmps52,List.size_toArray,List.length_cons,List.length_nil,Nat.reduceAdd,Nat.reduceSub,Array.replicate_succ,Array.replicate_zero,List.push_toArray,List.append_toArray,List.nil_append,List.cons_append]
  gi_wp2
  refine⟨trivial,?_⟩
  rw[<-HW0.out]
  refine(callsIn_wide.2 HC.out).mono ?_
  rintro e w1 ⟨rfl,hb1⟩
  have HBw1:=xQ (HB0.out.trans (hb1.mono HB0.out.size))
  have hs1:=hb1.size
  have j0:=aF HK.out.1 hb1 (by omega)
  have j1:=aF HK.out.2.1 hb1 (by omega)
  have j2:=aF HK.out.2.2 hb1 (by omega)
  have n0:=am j0
  have n1:=am j1
  have n2:=am j2
  have f1:=aI j1
  have f2:=aI j2
  have HJ:=xQ (And.intro j0 (And.intro j1 j2))
  clear hb1 HC HW0 HK j0 j1 j2
  by_cases h0:en≠0
  · have g0:((en:Int) != 0)=true:=bC (by omega)
    have HE:Hid (R=.error en):=HRR.out.trans (if_pos h0)
    clear HRR h0
    gi_wp2
    have j2:=al (aw HJ.out.2.2 ⟨w.1.size+1,0,none⟩ (.slice none 0 0) (by simp)) 0 (.int .i64 en)
    have j1:=aw (al HJ.out.2.1 0 (.slice none 0 0)) ⟨w.1.size+1+1,0,none⟩ (.int .i64 en) (by simp)
    refine⟨_,bL rfl _ _ (w.1.size+1) (w.1.size+1+1) _ _ rfl (am j1) Tryz.underlying55 rfl (am j2) Tryz.underlying36,?_⟩
    rw[HE.out]
    exact⟨rfl,(HBw1.out.setCell (p:=⟨w.1.size+1,0,none⟩) (by simp) _).setCell (p:=⟨w.1.size+1+1,0,none⟩) (by simp;omega) _⟩
  have g0:((en:Int) != 0)=false:=cg (by omega)
  have HR1:=xQ (HRR.out.trans (if_neg h0))
  have HEn0:Hid (Bt.numErr s n=0):=by show _=0;rw[<-HEn.out];omega
  obtain⟨nn,hnn⟩:∃nn:Nat,n=nn:=⟨n.toNat,by have:=(Bt.numErr_open HEn0.out).2.1;omega⟩
  subst hnn
  have hn64:nn<=64:=by have:=(Bt.numErr_open HEn0.out).2.2;omega
  rw[Int.toNat_natCast] at HR1
  clear HRR h0 HEn
  have HU:=xQ (sZ b q d w1 hbl hbd (HA.out.on HBw1.out))
  have hul:=(Blk.unpack_len b).1
  obtain⟨U,hU⟩:∃U,U=Blk.unpack b:=⟨_,rfl⟩
  rw[<-hU] at HU HR1 hul
  clear hU
  gi_wp2
  refine⟨trivial,?_⟩
  refine(callsIn_wide.2 HU.out).mono ?_
  rintro e w2 ⟨q2,m2,c2,rfl,hm2,hh2,hb2⟩
  subst hm2
  have HBw2:=xQ (HBw1.out.trans (hb2.mono HBw1.out.size))
  have hs2:=hb2.size
  have j0:=aF HJ.out.1 hb2 (by omega)
  have j1:=aF HJ.out.2.1 hb2 (by omega)
  have j2:=aF HJ.out.2.2 hb2 (by omega)
  have n0:=am j0
  have n1:=am j1
  have n2:=am j2
  have f1:=aI j1
  have f2:=aI j2
  have HJ2:=xQ (And.intro j0 (And.intro j1 j2))
  have HH2:=xQ hh2
  clear hb2 hh2 HU HJ j0 j1 j2
  by_cases h1:U.err≠0
  · have g1:((U.err:Int) != 0)=true:=bC (by omega)
    have HE:Hid (R=.error U.err):=HR1.out.trans (if_pos h1)
    clear HR1 h1
    gi_wp2
    have j2:=al (aw HJ2.out.2.2 ⟨w.1.size+1,0,none⟩ (.slice none 0 0) (by simp)) 0 (.int .i64 U.err)
    have j1:=aw (al HJ2.out.2.1 0 (.slice none 0 0)) ⟨w.1.size+1+1,0,none⟩ (.int .i64 U.err) (by simp)
    refine⟨_,bL rfl _ _ (w.1.size+1) (w.1.size+1+1) _ _ rfl (am j1) Tryz.underlying55 rfl (am j2) Tryz.underlying36,?_⟩
    rw[HE.out]
    exact⟨rfl,(HBw2.out.setCell (p:=⟨w.1.size+1,0,none⟩) (by simp) _).setCell (p:=⟨w.1.size+1+1,0,none⟩) (by simp;omega) _⟩
  have g1:((U.err:Int) != 0)=false:=cg (by omega)
  have HR2:=xQ (HR1.out.trans (if_neg h1))
  clear HR1 h1
  have z0:=fun o=>ae ((Below.refl w2.1.size w2).alloc xX o) n0
  clear n1 n2 f1 f2
  gi_wp2
  refine⟨trivial,?_⟩
  refine(callsIn_wide.2 (sf s p c U.out.length q2 c2 nn _)).mono ?_
  rintro e w3 ⟨rfl,hw3⟩
  obtain⟨m0,m1,m2,m3,mb,ms⟩:=al4 w2 (.cells #[.slice none 0 0] 55) (.cells #[.slice p s.length c] 53) (.cells #[.slice q2 U.out.length c2] 22) (.cells #[.int .i64 nn] 3)
  rw[<-hw3] at m0 m1 m2 m3 mb ms
  have hms:w2.1.size+4<=w3.1.size:=by omega
  have HM:=xQ (And.intro m0 (And.intro m1 (And.intro m2 (And.intro m3 mb))))
  have hBw3:=xQ (HBw2.out.trans (mb.mono HBw2.out.size))
  have hh3:=HH2.out.on mb
  obtain⟨pv,cv,hpv,hat3,hcv⟩:=hh3.at
  injection hpv with e1 _ e2
  subst e1 e2
  have HAt3:=xQ hat3
  have HLow:Hid (∀b o,q2=some ⟨b,o,none⟩->b<w2.1.size):=fun b o hq=>(HH2.out.place b o hq).2
  clear hw3 m0 m1 m2 m3 mb ms z0 n0 hh3 hat3
  gi_wp2
  refine fX (gf:=109) rfl (enters_of Tryz.func109 (by kernel_rfl) rfl) ?_
  intro fn
  generalize hrec:fW fn _ _ _ _ _=rec
  have hlo:w.1.size+3<=w2.1.size:=by omega
  have hww:w.1.size<=w3.1.size:=by omega
  have HREC:=xQ hrec
  clear hrec
  refine(ql HRI.out s p c U.out q2 c2 nn hul hn64 hcv (w2.1.size+1) (w2.1.size+1+1) (w2.1.size+1+1+1) (w3.1.size+1) (fun ys W=>∃v,iS w w3 w2.1.size (rec .ready none) v ys W) (fun er W=>vW w w3 (rec .done (some .ret)) er W) _ ?hJb ?hJn ?h0 ?good ?bad).mono ?_
  case hJb=>
    rintro ys W ⟨v,h⟩
    refine⟨HS.out.on h.below,?_,(h.same _ (by omega) (by omega)).trans HM.out.2.1,(h.same _ (by omega) (by omega)).trans HM.out.2.2.1,(h.same _ (by omega) (by omega)).trans HM.out.2.2.2.1⟩
    exact At.keepB (A:=w2.1.size) HAt3.out HLow.out (fun k hk=>h.same k (by omega) (by omega)) (by have:=h.size;omega)
  case hJn=>
    rintro ys W W' ⟨v,h⟩ hb
    exact⟨v,h.on hb⟩
  case h0=>
    obtain⟨a0,a1,ab,asz⟩:=al2 w3 (.deferred (some [])) (.loop (rec .ready none))
    exact⟨.slice none 0 0,hBw3.out.trans (ab.mono hww),fun k hk _=>ab.block k hk,aF HM.out.1 ab (by omega),pi _ _,a0,a1,by omega⟩
  case good=>
    rintro m ys y W1 W2 qq dd hyn ⟨v,h1⟩ hb12 hown
    have h2:=h1.on hb12
    have hlp:=h2.lp
    rw[<-HREC.out] at hlp
    refine dF (R:=fun b W'=>b=true∧∃v,iS w w3 w2.1.size (rec .ready none) v (ys++[y]) W') hlp rfl ?_
    obtain⟨Wr,hWr⟩:∃Wr,Wr=W2.alloc (.cells #[.slice qq y.length dd] 35):=⟨_,rfl⟩
    have hb2r:Below W2.1.size W2 Wr:=by rw[hWr];exact xY
    have hrb:Wr.1[W2.1.size]?=some (.cells #[.slice qq y.length dd] 35 (0,0)):=by rw[hWr];exact ap W2 _
    have hr:=h2.on hb2r
    have hlr:=hr.lp
    rw[<-HREC.out] at hlr
    obtain⟨Wb,hWb⟩:∃Wb,Wb=Wr.putObj (w3.1.size+1) (.loop (rec .busy none)):=⟨_,rfl⟩
    have hb:=hr.turn hww (by omega) (rec .busy none)
    have hbb:Wb.1[W2.1.size]?=some (.cells #[.slice qq y.length dd] 35 (0,0)):=by rw[hWb];exact(World.putObj_heap_other (by have:=h2.size;omega)).trans hrb
    have ha2b:Aside (fun k=>k=w3.1.size+1) W2 Wb:=by rw[hWb];exact(ag hb2r _).trans (bR _) (fun _ _ h=>h)
    rw[<-hWb] at hb
    rw[<-HREC.out] at hWb
    have hob:mi Wb (fun k=>w3.1.size+2<=k∧k<Wb.1.size∧v.ownBlock≠some k) qq dd y:=by
      refine(aR.aside hown ha2b (fun k hk hc=>?_)).mono (fun k hk=>⟨?_,?_,fun hc=>?_⟩)
      · have:=h1.size;omega
      · have:=h1.size;omega
      · have:=ha2b.size;omega
      · have:=(h1.has.lt k hc).2;omega
    obtain⟨Wc,hWc⟩:∃Wc,Wc=Wb.alloc (.cells #[.slice qq y.length dd] 35):=⟨_,rfl⟩
    have hbc:Below Wb.1.size Wb Wc:=by rw[hWc];exact xY
    have hc:=hb.on hbc
    have hcb:Wc.1[Wb.1.size]?=some (.cells #[.slice qq y.length dd] 35 (0,0)):=by rw[hWc];exact ap Wb _
    have hoc:mi Wc (fun k=>w3.1.size+2<=k∧k<Wc.1.size∧v.ownBlock≠some k) qq dd y:=(aR.aside hob (ag hbc (fun _=>False)) (fun _ _ hc=>hc)).mono (fun k hk=>⟨hk.1,by have:=hbc.size;omega,hk.2.2⟩)
    have n7:=am hb.box
    have n12:=am hbb
    have HC:=xQ hc
    have HCB:=xQ hcb
    have HOC:=xQ hoc
    have HWr:=xQ hWr
    have HWb:=xQ hWb
    have HWc:=xQ hWc
    have HLr:=xQ hlr
    have hy6:ys.length<=1000000:=by omega
    clear h1 h2 hr hb hc hWr hWb hWc hlr hlp hown hob hoc hb12 hb2r hrb hbb ha2b hbc hcb
    gi_wp2
    rw[<-HWr.out]
    refine⟨HLr.out,?_⟩
    rw[<-HWb.out]
    gi_wp2_with (first
      | (gi_at_builtin
         rw[<-HWc.out]
         refine oW HC.out.has HC.out.size y qq dd _ HCB.out hy6 HOC.out rfl rfl rfl rfl rfl ?_
         intro zs g3 cap3 W5 HY hh ha
         obtain⟨hbx,hj⟩:=HC.out.more (by omega) (by omega) ha hh
         have n8:=am hbx
         have f8:=aI hbx
         have HJ3:=xQ hj
         clear hh ha hbx hj)
      |fail)
    have hlp3:=HJ3.out.lp
    rw[<-HREC.out] at hlp3
    refine⟨hlp3,rfl,.slice (some ⟨g3,0,none⟩) zs.length cap3,?_⟩
    have ht:=HJ3.out.turn hww (by omega) (rec .ready none)
    rw[HREC.out,<-HY.out]
    exact ht
  case bad=>
    rintro m ys W er ⟨v,h⟩ he
    have g2:((er:Int) != 0)=true:=bC (by omega)
    have hlp:=h.lp
    rw[<-HREC.out] at hlp
    refine dF (R:=fun b W'=>b=false∧vW w w3 (rec .done (some .ret)) er W') hlp rfl ?_
    obtain⟨Wr,hWr⟩:∃Wr,Wr=W.alloc (.cells #[.slice none 0 0] 35):=⟨_,rfl⟩
    have hbr:Below W.1.size W Wr:=by rw[hWr];exact xY
    have hr:=h.on hbr
    have hlr:=hr.lp
    rw[<-HREC.out] at hlr
    have j1:Wr.1[w.1.size+1]?=some (.cells #[.slice none 0 0] 55 (0,0)):=(hr.same _ (by omega) (by omega)).trans (aF HJ2.out.2.1 HM.out.2.2.2.2 (by omega))
    have j2:Wr.1[w.1.size+1+1]?=some (.cells #[.int .i64 0] 36 (0,0)):=(hr.same _ (by omega) (by omega)).trans (aF HJ2.out.2.2 HM.out.2.2.2.2 (by omega))
    obtain⟨Wb,hWb⟩:∃Wb,Wb=Wr.putObj (w3.1.size+1) (.loop (rec .busy none)):=⟨_,rfl⟩
    have hb:=hr.turn hww (by omega) (rec .busy none)
    have b1:Wb.1[w.1.size+1]?=some (.cells #[.slice none 0 0] 55 (0,0)):=by rw[hWb];exact(World.putObj_heap_other (by omega)).trans j1
    have b2:Wb.1[w.1.size+1+1]?=some (.cells #[.int .i64 0] 36 (0,0)):=by rw[hWb];exact(World.putObj_heap_other (by omega)).trans j2
    rw[<-hWb] at hb
    rw[<-HREC.out] at hWb
    have HBd:=xQ hb
    have HLr:=xQ hlr
    have n1:=am b1
    have f1:=aI b1
    have n2:=am b2
    have f2:=aI b2
    have HB12:=xQ (And.intro b1 b2)
    have HWb:=xQ hWb
    have HWr:=xQ hWr
    clear hlp hlr hb hr hbr j1 j2 b1 b2 hWb hWr h he
    gi_wp2
    rw[<-HWr.out]
    refine⟨HLr.out,?_⟩
    rw[<-HWb.out]
    gi_wp2
    have c2':=al (aw HB12.out.2 ⟨w.1.size+1,0,none⟩ (.slice none 0 0) (by simp)) 0 (.int .i64 er)
    have c1':=aw (al HB12.out.1 0 (.slice none 0 0)) ⟨w.1.size+1+1,0,none⟩ (.int .i64 er) (by simp)
    have hset:∀k,w.1.size+2<k->((Wb.setCell ⟨w.1.size+1,0,none⟩ (.slice none 0 0)).setCell ⟨w.1.size+1+1,0,none⟩ (.int .i64 er)).1[k]?=Wb.1[k]?:=fun k hk=>by
      rw[Below.heap_setCell _ _ _ _ (by simp;omega),Below.heap_setCell _ _ _ _ (by simp;omega)]
    have hbl:=((HBd.out.below.setCell (p:=⟨w.1.size+1,0,none⟩) (by simp) (.slice none 0 0)).setCell (p:=⟨w.1.size+1+1,0,none⟩) (by simp;omega) (.int .i64 er))
    have hlp2:=(hset (w3.1.size+1) (by omega)).trans HBd.out.lp
    have hdf2:=(hset w3.1.size (by omega)).trans HBd.out.dfr
    rw[<-HREC.out] at hlp2
    refine⟨hlp2,rfl,?_⟩
    rw[HREC.out]
    exact⟨hbl.trans (bo _ (by omega) hbl.size),(World.putObj_heap_other (by omega)).trans (by simpa using c1'),(World.putObj_heap_other (by omega)).trans (by simpa using c2'),(World.putObj_heap_other (by omega)).trans hdf2,World.putObj_heap_same (ao hlp2)⟩
  rintro e W4 ⟨⟨v4,rfl⟩,hend⟩
  rw[<-HR2.out] at hend
  clear HR2
  cases R with
  |ok l=>
    obtain⟨v,hJ4⟩:=hend
    have h5:=hJ4.turn hww (by omega) (rec .exhausted none)
    refine⟨⟨_,rfl⟩,.inl ⟨hJ4.lp,?_⟩⟩
    obtain⟨W5,hW5⟩:∃W5,W5=W4.putObj (w3.1.size+1) (.loop (rec .exhausted none)):=⟨_,rfl⟩
    rw[<-hW5] at h5 ⊢
    obtain⟨pv,cv,rfl,hcv2⟩:=h5.has.form
    have j1:W5.1[w.1.size+1]?=some (.cells #[.slice none 0 0] 55 (0,0)):=(h5.same _ (by omega) (by omega)).trans (aF HJ2.out.2.1 HM.out.2.2.2.2 (by omega))
    have j2:W5.1[w.1.size+1+1]?=some (.cells #[.int .i64 0] 36 (0,0)):=(h5.same _ (by omega) (by omega)).trans (aF HJ2.out.2.2 HM.out.2.2.2.2 (by omega))
    have H5:=xQ h5
    have n7:=am h5.box
    have n1:=am j1
    have f1:=aI j1
    have n2:=am j2
    have f2:=aI j2
    have HJ12:=xQ (And.intro j1 j2)
    clear hJ4 h5 j1 j2 hW5
    gi_wp2
    have c2':=al (aw HJ12.out.2 ⟨w.1.size+1,0,none⟩ (.slice pv l.length cv) (by simp)) 0 (.int .i64 0)
    have c1':=aw (al HJ12.out.1 0 (.slice pv l.length cv)) ⟨w.1.size+1+1,0,none⟩ (.int .i64 0) (by simp)
    have hdf:((W5.setCell ⟨w.1.size+1,0,none⟩ (.slice pv l.length cv)).setCell ⟨w.1.size+1+1,0,none⟩ (.int .i64 0)).1[w3.1.size]?=some (.deferred (some [])):=by
      rw[Below.heap_setCell _ _ _ _ (by simp;omega),Below.heap_setCell _ _ _ _ (by simp;omega)];exact H5.out.dfr
    have hbl:=((H5.out.below.setCell (p:=⟨w.1.size+1,0,none⟩) (by simp) (.slice pv l.length cv)).setCell (p:=⟨w.1.size+1+1,0,none⟩) (by simp;omega) (.int .i64 0))
    have hh:=(H5.out.has.aside ((((Aside.refl (fun k=>k<w3.1.size+1) W5).setCell (p:=⟨w.1.size+1,0,none⟩) (.inl (by simp;omega)) (.slice pv l.length cv)).setCell (p:=⟨w.1.size+1+1,0,none⟩) (.inl (by simp;omega)) (.int .i64 0))) (fun k hk _ hc=>by omega))
    have hh2:=hh.aside (bR (l:=w3.1.size) (.deferred none)) (fun k hk _ hc=>by omega)
    refine⟨by simp,.inl ⟨_,_,rfl,run_takeDeferred hdf,?_⟩⟩
    refine⟨_,bL rfl _ _ (w.1.size+1) (w.1.size+1+1) _ _ rfl (am ((World.putObj_heap_other (by omega)).trans c1')) Tryz.underlying55 rfl (am ((World.putObj_heap_other (by omega)).trans c2')) Tryz.underlying36,?_⟩
    exact⟨pv,cv,rfl,hh2.lower (by omega),hbl.trans (bo _ (by omega) hbl.size)⟩
  |error er=>
    have hX4:vW w w3 (rec .done (some .ret)) er W4:=hend
    refine⟨⟨_,rfl⟩,.inr ⟨hX4.lp,?_⟩⟩
    have HX:=xQ hX4
    clear hX4 hend
    gi_wp2
    have hdf:(W4.putObj (w3.1.size+1) (.loop (rec .exhausted (some .ret)))).1[w3.1.size]?=some (.deferred (some [])):=(World.putObj_heap_other (by omega)).trans HX.out.dfr
    have hbl:=HX.out.below.trans (bo (l:=w3.1.size+1) (.loop (rec .exhausted (some .ret))) (by omega) HX.out.below.size)
    refine⟨by simp,.inl ⟨_,_,rfl,run_takeDeferred hdf,?_⟩⟩
    refine⟨_,bL rfl _ _ (w.1.size+1) (w.1.size+1+1) _ _ rfl (am ((World.putObj_heap_other (by omega)).trans ((World.putObj_heap_other (by omega)).trans HX.out.r1))) Tryz.underlying55 rfl (am ((World.putObj_heap_other (by omega)).trans ((World.putObj_heap_other (by omega)).trans HX.out.r2))) Tryz.underlying36,?_⟩
    exact⟨rfl,hbl.trans (bo _ (by omega) hbl.size)⟩
end
section
open Go.RowKit
theorem my(i:Int)(b:Nat)(t:ByteArray)(items:List V)(hwf:(V.mk 2 i b t items).wf):xl (.mk 2 i b t items):=by
 rintro w0 w u B R most xs hx hb0 hr0 hW hlen
 obtain⟨p,c,rfl,hxl,hxc,hxi⟩:=hx.open
 obtain⟨wk,wi,wb,wt,wx⟩:=V.wf_mk.1 hwf
 unfold cells5
 have e:Sch.vB (.mk 2 i b t items)=Leb.put (Leb.zig i):=by rw[Sch.vB_mk,Sch.vH,if_neg (by omega),if_pos rfl,if_pos (.inr (.inl rfl)),List.append_nil]
 rw[e] at hlen ⊢
 exact oY 2 124 (by omega) rfl i b t p items.length c hW (enters Tryz.func124 (by kernel_rfl) rfl) (fun w' _ hw=>(oU hw (by omega) 2 i wi b t p items.length c).mono fun _ _ h=>⟨_,qw.all,h.1,h.2.1,h.2.2⟩)
def uA(m:List (List V)):Prop:=∀y∈m,∀x∈y,∃i b t,x=.mk 2 i b t []
theorem qV{m:List (List V)}(hm:uA m):RowsIn m:=⟨fun s p c vs q d w h0 h1 h2=>sa s p c vs (fun x hx d _ hw=>by
 obtain⟨i,b,t,rfl⟩:=hm vs h0 x hx
 exact my i b t [] hw) q d w h1 h2,fun s p c l q d a w h1 h2 h3 h4 h5 h6=>sg s p c l q d a w h1 h2 h3 h4 h5 h6⟩
end
end Go.Proofs.YtceomhodhmcknaaGreatDoor
