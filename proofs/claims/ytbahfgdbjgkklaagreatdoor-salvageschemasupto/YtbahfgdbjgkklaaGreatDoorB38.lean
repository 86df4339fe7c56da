import Derived.Test.YtbahfgdbjgkklaaGreatDoorB37
import Derived.Test.YtbahfgdbjgkklaaGreatDoorB29
import Derived.Test.YtbahfgdbjgkklaaGreatDoorB32
set_option maxRecDepth 100000
set_option maxHeartbeats 4000000
namespace Go.Proofs.YtbahfgdbjgkklaaGreatDoor
variable{B:Nat}{w:World}{v:Value}
section
open Go.RowKit Go.Shelf
attribute [local go_sem] af Oper.semAt_some
theorem wZ:(Tryz.prog.info? 82).map (fun i=>(i.zero,i.size,i.bytes))=some (some (.agg #[.slice none 0 0]),1,24):=by kernel_rfl
def oO(w:World)(F:Nat->Prop)(q:OA)(d:Nat)(vs:List V):Prop:=aO w F (cells5 0 0 0 ⟨#[]⟩ q vs.length d) (.mk 0 0 0 ⟨#[]⟩ vs)
structure bP(w:World)(B:Nat)(v:Value)(ys:List (List V)):Prop where
 out:∃us:List Value,w.ownsRow B 82 1 v ys.length us∧∀j (hj:j<ys.length),∃q d,us[j]?=some (.slice q ys[j].length d)∧oO w (fun k=>B<=k∧k<w.1.size∧v.ownBlock≠some k) q d ys[j]
theorem rR(w:World)(B:Nat):bP w B (.slice none 0 0) []:=⟨[],⟨rfl,.inl ⟨rfl,rfl⟩⟩,fun j o=>by simp at o⟩
section
variable {w w':World} {B:Nat} {v:Value} {ys:List (List V)}
theorem bP.lt(h:bP w B v ys):∀k,v.ownBlock=some k->B<=k∧k<w.1.size:=by
 obtain⟨us,o,_⟩:=h.out;exact World.ownsRow.lt o
theorem bP.aside{G:Nat->Prop}(h:bP w B v ys)(z:Aside G w w')(I:∀k,B<=k->k<w.1.size->¬G k):bP w' B v ys:=by
 have U:=h.lt;obtain⟨us,D,M⟩:=h.out;have X:=z.size;refine⟨us,⟨D.1,?_⟩,fun j S=>?_⟩
 ·rcases D.2 with O | ⟨g,cap,J,rfl,E,y,Q⟩
  ·exact .inl O
  ·exact .inr ⟨g,cap,J,rfl,E,by rw[z.block g (Array.getElem?_eq_some_iff.1 y).1 (I g E (Array.getElem?_eq_some_iff.1 y).1)];exact y,Q⟩
 ·obtain⟨q,d,K,L⟩:=M j S;exact⟨q,d,K,(aO.aside L z (fun k o=>I k o.1 o.2.1)).mono (fun k o=>⟨o.1,by omega,o.2.2⟩)⟩
theorem bP.on(h:bP w B v ys)(hb:Below w.1.size w w'):bP w' B v ys:=h.aside (al hb (fun _=>False)) (fun _ _ _ o=>o)
theorem bP.lower{B':Nat}(h:bP w B v ys)(Q:B'<=B):bP w B' v ys:=by
 obtain⟨us,o,E⟩:=h.out;refine⟨us,⟨o.1,?_⟩,fun j L=>?_⟩
 ·rcases o.2 with I | ⟨g,cap,y,rfl,O,J,K⟩
  ·exact .inl I
  ·exact .inr ⟨g,cap,y,rfl,by omega,J,K⟩
 ·obtain⟨q,d,z,D⟩:=E j L;exact⟨q,d,z,aO.mono D (fun k M=>⟨by omega,M.2⟩)⟩
theorem bP.form(h:bP w B v ys):∃q c,v=.slice q ys.length c∧ys.length<=c:=by
 obtain⟨us,o,E⟩:=h.out;rcases o.2 with ⟨rfl,y⟩ | ⟨g,cap,D,rfl,_,_,z,_⟩
 ·exact⟨none,0,by rw[y],by omega⟩
 ·exact⟨_,_,rfl,z⟩
theorem bP.rows{q:OA}{c:Nat}(h:bP w B (.slice q ys.length c) ys)(E:ys.length*24<=140737488351232)(Q:∀U∈ys,∀x∈U,x.wf):fw w q c ys:=by
 obtain⟨us,K,L⟩:=h.out;rcases K.2 with ⟨z,Y⟩ | ⟨g,cap,X,z,Z,D,M,ab,ah,O⟩
 ·injection z with e1 _ e2;exact⟨E,by omega,fun j y=>by omega⟩
 ·injection z with e1 _ e2;subst e1 e2;refine⟨E,M,fun j y=>?_⟩;obtain⟨S,I,o,J⟩:=L j y;refine⟨g,0,S,I,rfl,(Array.getElem?_eq_some_iff.1 D).1,?_,aO.lies J,Q _ (List.getElem_mem y)⟩;rw[aa D];rw[<-O,List.getElem?_take] at o;simp only[Nat.mul_one] at o;rw[if_pos y] at o;simpa using o
end
theorem tL{ys:List (List V)}(h:bP w B v ys)(Y:B<=w.1.size)(o:List V)(q:OA)(d ad:Nat)(Z:w.1[ad]?=some (.cells #[.slice q o.length d] 82 (0,0)))(bb:ys.length<=1000000)(a8:oO w (fun k=>B<=k∧k<w.1.size∧v.ownBlock≠some k) q d o):
  ∃g cap W,cY Tryz.prog 75 75 75 v (.slice (some ⟨ad,0,none⟩) 1 1) w (.slice (some ⟨g,0,none⟩) (ys++[o]).length cap) W∧bP W B (.slice (some ⟨g,0,none⟩) (ys++[o]).length cap) (ys++[o])∧Aside (fun k=>v.ownBlock=some k) w W:=by
 obtain⟨i,ak,L,a5,ab⟩:=info_parts wZ;obtain⟨us,M,X⟩:=h.out;have a6:us.length=ys.length:=by rw[M.1];omega
 obtain⟨g,cap,W,a4,a2,ah,a3,a9⟩:=run_append_lies (P:=Tryz.prog) w 75 75 B 82 i (.agg #[.slice none 0 0]) 1 24 Tryz.underlying75 ak L a5 ab rfl (by decide) v ys.length us M ⟨ad,0,none⟩ 1 1 [.slice q o.length d] rfl (World.news_of_block Z) (by simp[Value.oneCell']) (by decide) (by unfold maxLen;omega) (by omega) Y w.1.size rfl;have K:(ys++[o]).length=ys.length+1:=by simp
 have I:=cK ah;have bc:=I.size;have aj:∀k,k<w.1.size->v.ownBlock≠some k->g≠k:=fun k z a7 y=>by
  subst y;rcases a3 with O | O
  ·exact a7 O
  ·omega
 refine⟨g,cap,W,⟨by rw[K];exact a4⟩,⟨us++[.slice q o.length d],by rw[K];exact a2,fun j a0=>?_⟩,I⟩;have keep:∀{E:OA} {D:Nat} {Q:List V},oO w (fun k=>B<=k∧k<w.1.size∧v.ownBlock≠some k) E D Q->oO W (fun k=>B<=k∧k<W.1.size∧(Value.slice (some ⟨g,0,none⟩) (ys++[o]).length cap).ownBlock≠some k) E D Q:=fun L=>
  (aO.aside L I (fun k z y=>z.2.2 y)).mono (fun k z=>⟨z.1,by omega,fun y=>by
   simp only[Value.ownBlock,Option.some.injEq] at y
   exact aj k z.2.1 z.2.2 y⟩)
 by_cases J:j<ys.length
 ·obtain⟨E,D,S,U⟩:=X j J;refine⟨E,D,?_,?_⟩
  ·rw[List.getElem?_append_left (by omega),S,List.getElem_append_left J]
  ·rw[List.getElem_append_left J];exact keep U
 ·have a1:j=ys.length:=by rw[K] at a0;omega
  subst a1;refine⟨q,d,?_,?_⟩
  ·rw[List.getElem?_append_right (by omega),a6];simp
  ·simp only[List.getElem_append_right gQx,Nat.sub_self,List.getElem_cons_zero];exact keep a8
def vP(J:List (List V)->World->Prop)(X:Nat->World->Prop)(W:World):Except Nat (List (List V))->Prop
 |.ok l=>J l W
 |.error er=>X er W
theorem sY(bb:RowsIn)(s:List Col)(p:OA)(c:Nat)(b:L8)(q:OA)(d:Nat)(n:Nat)(hb:b.length<=2048)(cd:n<=64)(b0:b.length<=d)(bp U nb:Nat)(L:Nat)(z:List (List V)->World->Prop)(X:Nat->World->Prop)(W:World)(a7:∀ys W,z ys W->bB W p c s∧At W q b∧W.1[bp]?=some (.cells #[.slice p s.length c] 29 (0,0))∧W.1[U]?=some (.cells #[.slice q b.length d] 22 (0,0))∧W.1[nb]?=some (.cells #[.int .i64 n] 3 (0,0)))(bi:∀ys W W',z ys W->Below W.1.size W W'->z ys W')(a6:z [] W)(good:∀m ys K a2 a3 a1 dd,ys.length<n->z ys a2->Below a2.1.size a2 a3->oO a3 (fun k=>a2.1.size<=k∧k<a3.1.size) a1 dd K->YieldAt Fence.wide m Tryz.prog L #[.agg #[.slice a1 K.length dd],.int .i64 0] a3 fun e W'=>∃b,e=.returned (.bool b)∧b=true∧z (ys++[K]) W')(bad:∀m ys W (E:Nat),z ys W->E≠0->YieldAt Fence.wide m Tryz.prog L #[.agg #[.slice none 0 0],.int .i64 E] W fun e W'=>∃b,e=.returned (.bool b)∧b=false∧X E W'):
  Calls Tryz.prog 88 #[.func (.yield L) #[] #[],.pointer (some ⟨nb,0,none⟩),.pointer (some ⟨bp,0,none⟩),.pointer (some ⟨U,0,none⟩)] W fun e W'=>(∃v,e=.returned v)∧vP z X W' (Bt.whole s b n):=by
 have b6:=ao (a7 [] W a6).2.2.2.2;have bN:=gQq a7;have bO:=gQq bi;have bq:=gQq a6;have br:=gQq good;have a9:=gQq bad;have bT:=gQq bb;clear a7 bi a6 good bad bb;refine(callsIn_wide (n:=3)).1 ?_;refine callsIn_of_wp Tryz.func88 rfl trivial ?_ rfl;simp only[Tryz.ntmps88,List.size_toArray,List.length_cons,List.length_nil,Nat.reduceAdd,Nat.reduceSub,Array.replicate_succ,Array.replicate_zero,List.push_toArray,List.append_toArray,List.nil_append,List.cons_append]
 gi_wp2
 gi_loopw [5,10] (fun b8 a8 wr=>∃(i a:Nat) (ys:List (List V)),i<=n∧a8=.int .i64 i∧b8=.int .i64 a∧a<=b.length∧Hid (Bt.rows s b i 0=.ok (ys,a)∧ys.length=i∧z ys wr)) (fun _ a8 _=>n-(intOf a8).toNat)
 case atStart=>exact⟨0,0,[],by omega,rfl,rfl,by omega,rfl,rfl,bq.out⟩
 case round=>
  clear b6;obtain⟨i,a,ys,cb,rfl,rfl,ca,y⟩:=hrel;obtain⟨Z,Y,ak,M,-⟩:=bN.out ys wr y.out.2.2;by_cases b3:i<n
  ·have cc:(i:Int)<(n:Int):=(by omega);have ce:=ao ak;have b7:=ao M;have hD:=bT.out.decode s p c b q d a wr Z (by omega) b0 Y (by omega) (by omega);have O:=Bt.rows_snoc i 0 ys a y.out.1;cases hrd:Rw.read s b a with
   |error E=>
    rw[hrd] at hD O;have b4:=Rw.read_err hrd;have S:Hid (Bt.whole s b n=.error E):=by
     show _=_;have:=Bt.rows_stop (i+1) 0 E (n-(i+1)) O;rw[show i+1+(n-(i+1))=n by omega] at this;unfold Bt.whole;rw[this]
    have Q:=gQq hD;clear hD O Z Y ak M hrd
    gi_wp2
    refine⟨trivial,?_⟩;refine(callsIn_wide.2 Q.out).mono ?_;rintro e w1 ⟨rfl,J⟩;have b9:((E:Int) != 0)=true:=aQ (by omega);obtain⟨o,D⟩:∃o,o=w1.alloc (.cells #[.slice none 0 0] 82):=⟨_,rfl⟩;have ah:Below wr.1.size wr o:=(by rw[D];exact J.alloc J.size _);obtain⟨fn,tmps,assign,body,a0,I⟩:=a9.out 2 ys o E (bO.out ys wr o y.out.2.2 ah) b4;rw[D] at a0 I;clear J ah D Q
    gi_wp2
    refine I.mono ?_;rintro e w3 ⟨U,rfl,rfl,ab⟩;have a4:=gQq ab;clear ab
    gi_wp2
    refine bodyPost_ret (results_none rfl _ _ _) rfl ?_;refine⟨⟨_,rfl⟩,?_⟩;rw[S.out];exact a4.out
   |ok pr=>
    obtain⟨K,k⟩:=pr;rw[hrd] at hD O;have aj:=(Rw.read_ok hrd).2.2.2.1;have Q:=gQq hD;have bX:=gQq O;clear hD O Z Y ak M hrd
    gi_wp2
    refine⟨trivial,?_⟩;refine(callsIn_wide.2 Q.out).mono ?_;rintro e w1 ⟨a1,dd,rfl,bn,J⟩;obtain⟨o,D⟩:∃o,o=w1.alloc (.cells #[.slice a1 K.length dd] 82):=⟨_,rfl⟩;have ah:Below wr.1.size wr o:=(by rw[D];exact J.alloc J.size _);have b5:o.1.size=w1.1.size+1:=(by rw[D];simp);have bj:Below w1.1.size w1 o:=(by rw[D];exact gQy);obtain⟨fn,tmps,assign,body,a0,I⟩:=br.out 2 ys K wr o a1 dd (by rw[y.out.2.1];exact b3) y.out.2.2 ah ((bn.under bj (fun k aj=>aj.2)).mono (fun k aj=>⟨aj.1,by omega⟩));rw[D] at a0 I;clear J ah D b5 bj Q bn
    gi_wp2
    refine I.mono ?_;rintro e w3 ⟨U,rfl,rfl,be⟩;have bs:=gQq be;clear be
    gi_wp2
    go_roundw;case rel=>
     refine⟨i+1,k,ys++[K],by omega,by go_num,rfl,aj,bX.out,by simp[y.out.2.1],bs.out⟩
    case measure=>simp[intOf];omega
  ·have b2:i=n:=(by omega);subst b2;have b7:=ao M;by_cases bk:a<b.length
   ·have b1:(a:Int)<(b.length:Int):=(by omega);have S:Hid (Bt.whole s b i=.error 5):=by
     show _=_;unfold Bt.whole;rw[y.out.1];exact if_pos bk
    obtain⟨fn,tmps,assign,body,a0,I⟩:=a9.out 2 ys wr 5 y.out.2.2 (by decide);simp only[Int.cast_ofNat_Int] at a0;clear Z Y ak M
    gi_wp2
    refine I.mono ?_;rintro e w3 ⟨U,rfl,rfl,ab⟩;have a4:=gQq ab;clear ab
    gi_wp2
    go_end0;refine⟨⟨_,rfl⟩,?_⟩;rw[S.out];exact a4.out
   ·have S:Hid (Bt.whole s b i=.ok ys):=by
     show _=_;unfold Bt.whole;rw[y.out.1];exact if_neg bk
    have b1:¬(a:Int)<(b.length:Int):=(by omega);clear Z Y ak M
    gi_wp2
    go_end0;refine⟨⟨_,rfl⟩,?_⟩;rw[S.out];exact y.out.2.2
end
section
open Go.RowKit Go.Shelf
attribute [local go_sem] af Oper.semAt_some
def Ac(w:World)(r:Except Nat (List (List V)))(e:Ending)(w':World):Prop:=match r with
 |.error er=>e=.returned (.tuple #[.slice none 0 0,.int .i64 (er:Nat)])∧Below w.1.size w w'
 |.ok l=>∃q c,e=.returned (.tuple #[.slice q l.length c,.int .i64 0])∧bP w' w.1.size (.slice q l.length c) l∧Below w.1.size w w'
theorem vw(s:List Col)(p:OA)(c m:Nat)(q:OA)(d:Nat)(n:Int)(w:World):
  Calls Tryz.prog 53 #[.agg #[.slice p s.length c],.slice q m d,.int .i64 n] w fun e w'=>e=.returned (.func (.func 88) #[] #[.pointer (some ⟨w.1.size+1+1,0,none⟩),.pointer (some ⟨w.1.size,0,none⟩),.pointer (some ⟨w.1.size+1,0,none⟩)])∧w'=((w.alloc (.cells #[.slice p s.length c] 29)).alloc (.cells #[.slice q m d] 22)).alloc (.cells #[.int .i64 n] 3):=by
 go_enter Tryz.func53,Tryz.ntmps53;go_wp2;go_ret;exact⟨rfl,rfl⟩
structure kH(w w3:World)(B:Nat)(rec:Loop)(v:Value)(ys:List (List V))(W:World):Prop where
 below:Below w.1.size w W
 same:∀k,k<w3.1.size->k≠B->W.1[k]?=w3.1[k]?
 box:W.1[B]?=some (.cells #[v] 75 (0,0))
 has:bP W (w3.1.size+2) v ys
 dfr:W.1[w3.1.size]?=some (.deferred (some []))
 lp:W.1[w3.1.size+1]?=some (.loop rec)
 size:w3.1.size+2<=W.1.size
structure yR(w w3:World)(rec:Loop)(er:Nat)(W:World):Prop where
 below:Below w.1.size w W
 r1:W.1[w.1.size+1]?=some (.cells #[.slice none 0 0] 75 (0,0))
 r2:W.1[w.1.size+1+1]?=some (.cells #[.int .i64 er] 68 (0,0))
 dfr:W.1[w3.1.size]?=some (.deferred (some []))
 lp:W.1[w3.1.size+1]?=some (.loop rec)
section
variable {w w3 W W':World} {B:Nat} {rec:Loop} {v v':Value} {xs ys:List (List V)}
theorem kH.on(h:kH w w3 B rec v xs W)(hb:Below W.1.size W W'):kH w w3 B rec v xs W':=by
 have E:=h.size;have D:=h.below.size;have o:=au h.box;exact⟨h.below.trans (hb.mono D),fun k y z=>(hb.block k (by omega)).trans (h.same k y z),aR h.box hb o,h.has.on hb,aR h.dfr hb (by omega),aR h.lp hb (by omega),by have:=hb.size;omega⟩
theorem kH.turn(h:kH w w3 B rec v xs W)(J:w.1.size<=w3.1.size)(D:B<w3.1.size)(y:Loop):kH w w3 B y v xs (W.putObj (w3.1.size+1) (.loop y)):=by
 have I:=h.size;exact⟨h.below.trans (bF _ (by omega) h.below.size),fun k o z=>(World.putObj_heap_other (by omega)).trans (h.same k o z),(World.putObj_heap_other (by omega)).trans h.box,h.has.aside (dU _) (fun k o _ E=>by omega),(World.putObj_heap_other (by omega)).trans h.dfr,World.putObj_heap_same (by omega),by simp;omega⟩
theorem kH.more(h:kH w w3 B rec v xs W)(L:w.1.size<=B)(M:B<w3.1.size)(z:Aside (fun k=>v.ownBlock=some k) W W')(K:bP W' (w3.1.size+2) v' ys):
  W'.1[B]?=some (.cells #[v] 75 (0,0))∧kH w w3 B rec v' ys (W'.setCell ⟨B,0,none⟩ v'):=by
 have O:=h.size;have hold:∀k,k<w3.1.size+2->W'.1[k]?=W.1[k]?:=fun k o=>z.block k (by omega) (fun y=>by have:=(h.has.lt k y).1;omega);have E:W'.1[B]?=some (.cells #[v] 75 (0,0)):=(hold B (by omega)).trans h.box;have D:∀k,k≠B->(W'.setCell ⟨B,0,none⟩ v').1[k]?=W'.1[k]?:=fun k o=>Below.heap_setCell _ _ _ _ o;have J:Below w.1.size W W':=z.below h.below.size (fun k o y=>by have:=(h.has.lt k y).1;omega);refine⟨E,⟨(h.below.trans J).setCell (p:=⟨B,0,none⟩) L _,fun k o I=>?_,by simpa using ai E 0 v',?_,?_,?_,?_⟩⟩
 ·rw[D k I,hold k (by omega)];exact h.same k o I
 ·exact K.aside ((Aside.refl (fun k=>k=B) W').setCell (p:=⟨B,0,none⟩) (.inl rfl) v') (fun k o _ y=>by omega)
 ·rw[D _ (by omega),hold _ (by omega)];exact h.dfr
 ·rw[D _ (by omega),hold _ (by omega)];exact h.lp
 ·have:=z.size;have:(W'.setCell ⟨B,0,none⟩ v').1.size=W'.1.size:=by simp[World.setCell]
  omega
end
theorem At.keepB{w':World}{p:OA}{l:L8}{A:Nat}(h:At w p l)(E:∀b o,p=some ⟨b,o,none⟩->b<A)(D:∀k,k<A->w'.1[k]?=w.1[k]?)(J:w.1.size<=w'.1.size):At w' p l:=by
 rcases h with rfl | ⟨b,o,rfl,I,y⟩
 ·exact .inl rfl
 ·refine .inr ⟨b,o,rfl,by omega,fun j z=>?_⟩;rw[World.cell?_of_block (w:=w) (D b (E b o rfl))];exact y j z
theorem rK{F:Fence}{n:Nat}{ys:List (List V)}{w:World}(h:bP w B v ys)(I:B<=w.1.size)(y:List V)(q:OA)(d ad:Nat)(L:w.1[ad]?=some (.cells #[.slice q y.length d] 82 (0,0)))(Q:ys.length<=1000000)(ah:oO w (fun k=>B<=k∧k<w.1.size∧v.ownBlock≠some k) q d y){D:Array Oper}{rest:List Oper}{o:Oper}{a:Act}{z:Exit->Act->World->Prop}{E x:Operand}(Z:o.type=75)(M:o.guard=none)(S:o.op=Op.call { callee:=Callee.builtin Builtin.append,args:=#[E,x],argTypes:=#[75,75] })(Y:a.eval E=v)(ab:a.eval x=.slice (some ⟨ad,0,none⟩) 1 1)(J:∀zs g cap W,Hid (zs=ys++[y])->bP W B (.slice (some ⟨g,0,none⟩) zs.length cap) zs->Aside (fun k=>v.ownBlock=some k) w W->wpListIn F n Tryz.prog D z rest (a.put o.dst (.slice (some ⟨g,0,none⟩) zs.length cap)) W):
  wpListIn F n Tryz.prog D z (o::rest) a w:=by
 obtain⟨g,cap,W,U,O,K⟩:=tL h I y q d ad L Q ah;have X:cY Tryz.prog 75 75 o.type v (.slice (some ⟨ad,0,none⟩) 1 1) w (.slice (some ⟨g,0,none⟩) (ys++[y]).length cap) W:=by rw[Z];exact U
 exact dP X M S Y ab (J _ g cap W (gQq rfl) O K)
theorem tB(ci:RowsIn)(s:List Col)(p:OA)(c:Nat)(b:L8)(q:OA)(d:Nat)(n:Int)(w:World)(cu:bB w p c s)(O:b.length<=140737488351232)(fa:b.length<=d)(d3:At w q b):
    Calls Tryz.prog 24 #[.agg #[.slice p s.length c],.slice q b.length d,.int .i64 n] w (Ac w (Bt.unpack s b n)):=by
  obtain⟨co,cv⟩:∃co,co=((w.alloc (.cells #[.slice p s.length c] 29)).alloc (.cells #[.slice none 0 0] 75)).alloc (.cells #[.int .i64 0] 68):=⟨_,rfl⟩;obtain⟨c9,da,db,b3,fx⟩:=al3 w (.cells #[.slice p s.length c] 29) (.cells #[.slice none 0 0] 75) (.cells #[.int .i64 0] 68);rw[<-cv] at c9 da db b3 fx;have ak:=gQq (ry ci s p c n co (cu.on b3));have bN:=gQq (And.intro c9 (And.intro da db));have dh:=gQq b3;have dv:=gQq cv;have ez:=gQq cu;have em:=gQq d3;have ew:=gQq ci;obtain⟨R,bn⟩:∃R,R=Bt.unpack s b n:=⟨_,rfl⟩;rw[<-bn];unfold Bt.unpack at bn;obtain⟨ab,c7⟩:∃ab,ab=Bt.numErr s n:=⟨_,rfl⟩;rw[<-c7] at ak bn;have bO:=gQq bn;have dj:=gQq c7;clear b3 cv cu ci bn c7 c9 da db d3;refine(callsIn_wide (n:=5)).1 ?_;refine callsIn_of_wp_marks Tryz.func24 rfl trivial ?_ rfl;simp only[Tryz.ntmps24,List.size_toArray,List.length_cons,List.length_nil,Nat.reduceAdd,Nat.reduceSub,Array.replicate_succ,Array.replicate_zero,List.push_toArray,List.append_toArray,List.nil_append,List.cons_append]
  gi_wp2
  refine⟨trivial,?_⟩;rw[<-dv.out];refine(callsIn_wide.2 ak.out).mono ?_;rintro e w1 ⟨rfl,be⟩;have bs:=gQq (dh.out.trans (be.mono dh.out.size));have gd:=be.size;have a6:=aR bN.out.1 be (by omega);have j1:=aR bN.out.2.1 be (by omega);have y:=aR bN.out.2.2 be (by omega);have df:=ao a6;have b9:=ao j1;have ca:=ao y;have f1:=aN j1;have b0:=aN y;have a8:=gQq (And.intro a6 (And.intro j1 y));clear be ak dv bN a6 j1 y;by_cases h0:ab≠0
  · have e6:((ab:Int) != 0)=true:=aQ (by omega);have cf:Hid (R=.error ab):=bO.out.trans (if_pos h0);clear bO h0
    gi_wp2
    have y:=ai (ax a8.out.2.2 ⟨w.1.size+1,0,none⟩ (.slice none 0 0) (by simp)) 0 (.int .i64 ab);have j1:=ax (ai a8.out.2.1 0 (.slice none 0 0)) ⟨w.1.size+1+1,0,none⟩ (.int .i64 ab) (by simp);refine⟨_,bG rfl _ _ (w.1.size+1) (w.1.size+1+1) _ _ rfl (ao j1) Tryz.underlying75 rfl (ao y) Tryz.underlying68,?_⟩;rw[cf.out];exact⟨rfl,(bs.out.setCell (p:=⟨w.1.size+1,0,none⟩) (by simp) _).setCell (p:=⟨w.1.size+1+1,0,none⟩) (by simp;omega) _⟩
  have e6:((ab:Int) != 0)=false:=bo (by omega);have bb:=gQq (bO.out.trans (if_neg h0));have dk:Hid (Bt.numErr s n=0):=by show _=0;rw[<-dj.out];omega
  obtain⟨bj,fh⟩:∃bj:Nat,n=bj:=⟨n.toNat,by have:=(Bt.numErr_open dk.out).2.1;omega⟩;subst fh;have fg:bj<=64:=by have:=(Bt.numErr_open dk.out).2.2;omega
  rw[Int.toNat_natCast] at bb;clear bO h0 dj;have cj:=gQq (ww b q d w1 O fa (em.out.on bs.out));have eh:=(Blk.unpack_len b).1;obtain⟨J,d0⟩:∃J,J=Blk.unpack b:=⟨_,rfl⟩;rw[<-d0] at cj bb eh;clear d0
  gi_wp2
  refine⟨trivial,?_⟩;refine(callsIn_wide.2 cj.out).mono ?_;rintro e I ⟨cb,b8,c2,rfl,ff,b7,bi⟩;subst ff;have ce:=gQq (bs.out.trans (bi.mono bs.out.size));have ge:=bi.size;have a6:=aR a8.out.1 bi (by omega);have j1:=aR a8.out.2.1 bi (by omega);have y:=aR a8.out.2.2 bi (by omega);have df:=ao a6;have b9:=ao j1;have ca:=ao y;have f1:=aN j1;have b0:=aN y;have a9:=gQq (And.intro a6 (And.intro j1 y));have dn:=gQq b7;clear bi b7 cj a8 a6 j1 y;by_cases M:J.err≠0
  · have e7:((J.err:Int) != 0)=true:=aQ (by omega);have cf:Hid (R=.error J.err):=bb.out.trans (if_pos M);clear bb M
    gi_wp2
    have y:=ai (ax a9.out.2.2 ⟨w.1.size+1,0,none⟩ (.slice none 0 0) (by simp)) 0 (.int .i64 J.err);have j1:=ax (ai a9.out.2.1 0 (.slice none 0 0)) ⟨w.1.size+1+1,0,none⟩ (.int .i64 J.err) (by simp);refine⟨_,bG rfl _ _ (w.1.size+1) (w.1.size+1+1) _ _ rfl (ao j1) Tryz.underlying75 rfl (ao y) Tryz.underlying68,?_⟩;rw[cf.out];exact⟨rfl,(ce.out.setCell (p:=⟨w.1.size+1,0,none⟩) (by simp) _).setCell (p:=⟨w.1.size+1+1,0,none⟩) (by simp;omega) _⟩
  have e7:((J.err:Int) != 0)=false:=bo (by omega);have ds:=gQq (bb.out.trans (if_neg M));clear bb M;have z0:=fun o=>ae ((Below.refl I.1.size I).alloc gQx o) df;clear b9 ca f1 b0
  gi_wp2
  refine⟨trivial,?_⟩;refine(callsIn_wide.2 (vw s p c J.out.length cb c2 bj _)).mono ?_;rintro e w3 ⟨rfl,ei⟩;obtain⟨dc,dd,b8,de,bq,el⟩:=al4 I (.cells #[.slice none 0 0] 75) (.cells #[.slice p s.length c] 29) (.cells #[.slice cb J.out.length c2] 22) (.cells #[.int .i64 bj] 3);rw[<-ei] at dc dd b8 de bq el;have gb:I.1.size+4<=w3.1.size:=by omega
  have Y:=gQq (And.intro dc (And.intro dd (And.intro b8 (And.intro de bq))));have e9:=gQq (ce.out.trans (bq.mono ce.out.size));have d9:=dn.out.on bq;obtain⟨a7,a2,fi,d4,fb⟩:=d9.at;injection fi with e1 _ e2;subst e1 e2;have en:=gQq d4;have er:Hid (∀b o,cb=some ⟨b,o,none⟩->b<I.1.size):=fun b o fs=>(dn.out.place b o fs).2;clear ei dc dd b8 de bq el z0 df d9 d4
  gi_wp2
  refine ly (gf:=88) rfl (enters_of Tryz.func88 (by kernel_rfl) rfl) ?_;intro fn;generalize hrec:ji fn _ _ _ _ _=rec;have f8:w.1.size+3<=I.1.size:=by omega
  have bp:w.1.size<=w3.1.size:=by omega
  have K:=gQq hrec;clear hrec;refine(sY ew.out s p c J.out cb c2 bj eh fg fb (I.1.size+1) (I.1.size+1+1) (I.1.size+1+1+1) (w3.1.size+1) (fun ys W=>∃v,kH w w3 I.1.size (rec .ready none) v ys W) (fun L W=>yR w w3 (rec .done (some .ret)) L W) _ ?hJb ?hJn ?h0 ?good ?bad).mono ?_;case hJb=>
    rintro ys W ⟨v,h⟩;refine⟨ez.out.on h.below,?_,(h.same _ (by omega) (by omega)).trans Y.out.2.1,(h.same _ (by omega) (by omega)).trans Y.out.2.2.1,(h.same _ (by omega) (by omega)).trans Y.out.2.2.2.1⟩;exact At.keepB (A:=I.1.size) en.out er.out (fun k Q=>h.same k (by omega) (by omega)) (by have:=h.size;omega)
  case hJn=>
    rintro ys W W' ⟨v,h⟩ hb;exact⟨v,h.on hb⟩
  case h0=>
    obtain⟨e3,e4,cq,f3⟩:=al2 w3 (.deferred (some [])) (.loop (rec .ready none));exact⟨.slice none 0 0,e9.out.trans (cq.mono bp),fun k Q _=>cq.block k Q,aR Y.out.1 cq (by omega),rR _ _,e3,e4,by omega⟩
  case good=>
    rintro m ys X f2 a0 aj Z gg ⟨v,M⟩ d5 ee;have b1:=M.on d5;have a4:=b1.lp;rw[<-K.out] at a4;refine fR (R:=fun b W'=>b=true∧∃v,kH w w3 I.1.size (rec .ready none) v (ys++[X]) W') a4 rfl ?_;obtain⟨E,ah⟩:∃E,E=a0.alloc (.cells #[.slice aj X.length Z] 82):=⟨_,rfl⟩;have cy:Below a0.1.size a0 E:=(by rw[ah];exact gQy);have ef:E.1[a0.1.size]?=some (.cells #[.slice aj X.length Z] 82 (0,0)):=(by rw[ah];exact am a0 _);have U:=b1.on cy;have a5:=U.lp;rw[<-K.out] at a5;obtain⟨z,D⟩:∃z,z=E.putObj (w3.1.size+1) (.loop (rec .busy none)):=⟨_,rfl⟩;have hb:=U.turn bp (by omega) (rec .busy none);have d6:z.1[a0.1.size]?=some (.cells #[.slice aj X.length Z] 82 (0,0)):=(by rw[D];exact(World.putObj_heap_other (by have:=b1.size;omega)).trans ef);have cx:Aside (fun k=>k=w3.1.size+1) a0 z:=(by rw[D];exact(al cy _).trans (dU _) (fun _ _ h=>h));rw[<-D] at hb;rw[<-K.out] at D;have ec:oO z (fun k=>w3.1.size+2<=k∧k<z.1.size∧v.ownBlock≠some k) aj Z X:=by
      refine(aO.aside ee cx (fun k Q S=>?_)).mono (fun k Q=>⟨?_,?_,fun S=>?_⟩)
      · have:=M.size;omega
      · have:=M.size;omega
      · have:=cx.size;omega
      · have:=(M.has.lt k S).2;omega
    obtain⟨bc,b2⟩:∃bc,bc=z.alloc (.cells #[.slice aj X.length Z] 82):=⟨_,rfl⟩;have b4:Below z.1.size z bc:=(by rw[b2];exact gQy);have S:=hb.on b4;have d8:bc.1[z.1.size]?=some (.cells #[.slice aj X.length Z] 82 (0,0)):=(by rw[b2];exact am z _);have ed:oO bc (fun k=>w3.1.size+2<=k∧k<bc.1.size∧v.ownBlock≠some k) aj Z X:=(aO.aside ec (al b4 (fun _=>False)) (fun _ _ S=>S)).mono (fun k Q=>⟨Q.1,by have:=b4.size;omega,Q.2.2⟩);have n7:=ao hb.box;have n12:=ao d6;have ak:=gQq S;have ep:=gQq d8;have eu:=gQq ed;have cn:=gQq ah;have ck:=gQq D;have eC:=gQq b2;have cg:=gQq a5;have f0:ys.length<=1000000:=(by omega);clear M b1 U hb S ah D b2 a5 a4 ee ec ed d5 cy ef d6 cx b4 d8
    gi_wp2
    rw[<-cn.out];refine⟨cg.out,?_⟩;rw[<-ck.out]
    gi_wp2_with (first
      | (gi_at_builtin
         rw[<-eC.out];refine rK ak.out.has ak.out.size X aj Z _ ep.out f0 eu.out rfl rfl rfl rfl rfl ?_;intro zs e8 e5 a1 e0 b6 d2;obtain⟨c5,ea⟩:=ak.out.more (by omega) (by omega) d2 b6;have n8:=ao c5;have f4:=aN c5;have dr:=gQq ea;clear b6 d2 c5 ea)
      |fail)
    have eb:=dr.out.lp;rw[<-K.out] at eb;refine⟨eb,rfl,.slice (some ⟨e8,0,none⟩) zs.length e5,?_⟩;have fy:=dr.out.turn bp (by omega) (rec .ready none);rw[K.out,<-e0.out];exact fy
  case bad=>
    rintro m ys W L ⟨v,h⟩ fe;have f5:((L:Int) != 0)=true:=aQ (by omega);have a4:=h.lp;rw[<-K.out] at a4;refine fR (R:=fun b W'=>b=false∧yR w w3 (rec .done (some .ret)) L W') a4 rfl ?_;obtain⟨E,ah⟩:∃E,E=W.alloc (.cells #[.slice none 0 0] 82):=⟨_,rfl⟩;have d7:Below W.1.size W E:=(by rw[ah];exact gQy);have U:=h.on d7;have a5:=U.lp;rw[<-K.out] at a5;have j1:E.1[w.1.size+1]?=some (.cells #[.slice none 0 0] 75 (0,0)):=(U.same _ (by omega) (by omega)).trans (aR a9.out.2.1 Y.out.2.2.2.2 (by omega));have y:E.1[w.1.size+1+1]?=some (.cells #[.int .i64 0] 68 (0,0)):=(U.same _ (by omega) (by omega)).trans (aR a9.out.2.2 Y.out.2.2.2.2 (by omega));obtain⟨z,D⟩:∃z,z=E.putObj (w3.1.size+1) (.loop (rec .busy none)):=⟨_,rfl⟩;have hb:=U.turn bp (by omega) (rec .busy none);have bT:z.1[w.1.size+1]?=some (.cells #[.slice none 0 0] 75 (0,0)):=(by rw[D];exact(World.putObj_heap_other (by omega)).trans j1);have bX:z.1[w.1.size+1+1]?=some (.cells #[.int .i64 0] 68 (0,0)):=(by rw[D];exact(World.putObj_heap_other (by omega)).trans y);rw[<-D] at hb;rw[<-K.out] at D;have cd:=gQq hb;have cg:=gQq a5;have b9:=ao bT;have f1:=aN bT;have ca:=ao bX;have b0:=aN bX;have di:=gQq (And.intro bT bX);have ck:=gQq D;have cn:=gQq ah;clear a4 a5 hb U d7 j1 y bT bX D ah h fe
    gi_wp2
    rw[<-cn.out];refine⟨cg.out,?_⟩;rw[<-ck.out]
    gi_wp2
    have cs:=ai (ax di.out.2 ⟨w.1.size+1,0,none⟩ (.slice none 0 0) (by simp)) 0 (.int .i64 L);have cr:=ax (ai di.out.1 0 (.slice none 0 0)) ⟨w.1.size+1+1,0,none⟩ (.int .i64 L) (by simp);have eg:∀k,w.1.size+2<k->((z.setCell ⟨w.1.size+1,0,none⟩ (.slice none 0 0)).setCell ⟨w.1.size+1+1,0,none⟩ (.int .i64 L)).1[k]?=z.1[k]?:=fun k Q=>by
      rw[Below.heap_setCell _ _ _ _ (by simp;omega),Below.heap_setCell _ _ _ _ (by simp;omega)]
    have O:=((cd.out.below.setCell (p:=⟨w.1.size+1,0,none⟩) (by simp) (.slice none 0 0)).setCell (p:=⟨w.1.size+1+1,0,none⟩) (by simp;omega) (.int .i64 L));have c8:=(eg (w3.1.size+1) (by omega)).trans cd.out.lp;have fc:=(eg w3.1.size (by omega)).trans cd.out.dfr;rw[<-K.out] at c8;refine⟨c8,rfl,?_⟩;rw[K.out];exact⟨O.trans (bF _ (by omega) O.size),(World.putObj_heap_other (by omega)).trans (by simpa using cr),(World.putObj_heap_other (by omega)).trans (by simpa using cs),(World.putObj_heap_other (by omega)).trans fc,World.putObj_heap_same (au c8)⟩
  rintro e cp ⟨⟨gh,rfl⟩,b5⟩;rw[<-ds.out] at b5;clear ds;cases R with
  |ok l=>
    obtain⟨v,ct⟩:=b5;have a3:=ct.turn bp (by omega) (rec .exhausted none);refine⟨⟨_,rfl⟩,.inl ⟨ct.lp,?_⟩⟩;obtain⟨a1,d1⟩:∃a1,a1=cp.putObj (w3.1.size+1) (.loop (rec .exhausted none)):=⟨_,rfl⟩;rw[<-d1] at a3 ⊢;obtain⟨a7,a2,rfl,f6⟩:=a3.has.form;have j1:a1.1[w.1.size+1]?=some (.cells #[.slice none 0 0] 75 (0,0)):=(a3.same _ (by omega) (by omega)).trans (aR a9.out.2.1 Y.out.2.2.2.2 (by omega));have y:a1.1[w.1.size+1+1]?=some (.cells #[.int .i64 0] 68 (0,0)):=(a3.same _ (by omega) (by omega)).trans (aR a9.out.2.2 Y.out.2.2.2.2 (by omega));have cc:=gQq a3;have n7:=ao a3.box;have b9:=ao j1;have f1:=aN j1;have ca:=ao y;have b0:=aN y;have dp:=gQq (And.intro j1 y);clear ct a3 j1 y d1
    gi_wp2
    have cs:=ai (ax dp.out.2 ⟨w.1.size+1,0,none⟩ (.slice a7 l.length a2) (by simp)) 0 (.int .i64 0);have cr:=ax (ai dp.out.1 0 (.slice a7 l.length a2)) ⟨w.1.size+1+1,0,none⟩ (.int .i64 0) (by simp);have c6:((a1.setCell ⟨w.1.size+1,0,none⟩ (.slice a7 l.length a2)).setCell ⟨w.1.size+1+1,0,none⟩ (.int .i64 0)).1[w3.1.size]?=some (.deferred (some [])):=by
      rw[Below.heap_setCell _ _ _ _ (by simp;omega),Below.heap_setCell _ _ _ _ (by simp;omega)];exact cc.out.dfr
    have O:=((cc.out.below.setCell (p:=⟨w.1.size+1,0,none⟩) (by simp) (.slice a7 l.length a2)).setCell (p:=⟨w.1.size+1+1,0,none⟩) (by simp;omega) (.int .i64 0));have b6:=(cc.out.has.aside ((((Aside.refl (fun k=>k<w3.1.size+1) a1).setCell (p:=⟨w.1.size+1,0,none⟩) (.inl (by simp;omega)) (.slice a7 l.length a2)).setCell (p:=⟨w.1.size+1+1,0,none⟩) (.inl (by simp;omega)) (.int .i64 0))) (fun k Q _ S=>by omega));have b7:=b6.aside (dU (l:=w3.1.size) (.deferred none)) (fun k Q _ S=>by omega);refine⟨by simp,.inl ⟨_,_,rfl,run_takeDeferred c6,?_⟩⟩;refine⟨_,bG rfl _ _ (w.1.size+1) (w.1.size+1+1) _ _ rfl (ao ((World.putObj_heap_other (by omega)).trans cr)) Tryz.underlying75 rfl (ao ((World.putObj_heap_other (by omega)).trans cs)) Tryz.underlying68,?_⟩;exact⟨a7,a2,rfl,b7.lower (by omega),O.trans (bF _ (by omega) O.size)⟩
  |error L=>
    have cw:yR w w3 (rec .done (some .ret)) L cp:=b5;refine⟨⟨_,rfl⟩,.inr ⟨cw.lp,?_⟩⟩;have bk:=gQq cw;clear cw b5
    gi_wp2
    have c6:(cp.putObj (w3.1.size+1) (.loop (rec .exhausted (some .ret)))).1[w3.1.size]?=some (.deferred (some [])):=(World.putObj_heap_other (by omega)).trans bk.out.dfr;have O:=bk.out.below.trans (bF (l:=w3.1.size+1) (.loop (rec .exhausted (some .ret))) (by omega) bk.out.below.size);refine⟨by simp,.inl ⟨_,_,rfl,run_takeDeferred c6,?_⟩⟩;refine⟨_,bG rfl _ _ (w.1.size+1) (w.1.size+1+1) _ _ rfl (ao ((World.putObj_heap_other (by omega)).trans ((World.putObj_heap_other (by omega)).trans bk.out.r1))) Tryz.underlying75 rfl (ao ((World.putObj_heap_other (by omega)).trans ((World.putObj_heap_other (by omega)).trans bk.out.r2))) Tryz.underlying68,?_⟩;exact⟨rfl,O.trans (bF _ (by omega) O.size)⟩
end
section
open Go.RowKit
theorem tM:RowsIn:=⟨fun s p c J q d w o y=>vm s p c J q d w o y,fun s p c l q d a w o y z D E I=>vy s p c l q d a w o y z D E I⟩
theorem wI:RowsIn:=tM
end
end Go.Proofs.YtbahfgdbjgkklaaGreatDoor
