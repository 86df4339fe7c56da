import Derived.Test.YtbahfgdbjgkklaaGreatDoorK17B
import Derived.Test.YtbahfgdbjgkklaaGreatDoorSrt
import Derived.Shelf.SlSortCmp.NoneTotal
import Derived.Test.YtbahfgdbjgkklaaGreatDoorB40
import Derived.Test.YtbahfgdbjgkklaaGreatDoorB26
set_option maxRecDepth 100000
set_option maxHeartbeats 4000000
namespace Go.Proofs.YtbahfgdbjgkklaaGreatDoor
variable{B c e g n:Nat}{W w w' w1 wr:World}{v:Value}{f:Fr}
section
open Go.RowKit Go.Sort
def fL(y:Int×OA×Nat×Nat):List Value:=[.int .i64 y.1,.slice y.2.1 y.2.2.1 y.2.2.2]
def kw(x y:Int×OA×Nat×Nat):Int:=if x.1<y.1 then -1 else if y.1<x.1 then 1 else 0
theorem wT(x o:Int×OA×Nat×Nat):ltOf kw x o=decide (x.1<o.1):=by
 unfold ltOf kw;by_cases y:x.1<o.1
 ·simp[y]
 ·by_cases z:o.1<x.1 <;> simp[y,z]
theorem zf:SWO (ltOf kw) where
 irrefl x:=by rw[wT];simp
 trans x y z h1 h2:=by rw[wT] at *;simp at *;omega
 ntrans x y z h1 h2:=by rw[wT] at *;simp at *;omega
theorem um(x:Int)(w:World):Calls Tryz.prog 102 #[.int .i64 x] w fun e w'=>e=.returned (.bool false)∧w'=w:=by
 go_enter Tryz.func102,Tryz.ntmps102;go_wp2;go_ret;exact⟨by simp,rfl⟩
theorem s7(x o:Int)(w:World):Calls Tryz.prog 67 #[.int .i64 x,.int .i64 o] w fun e w'=>e=.returned (.int .i64 (if x<o then -1 else if o<x then 1 else 0))∧w'=w:=by
 have y:=gQq um;by_cases z:x<o
 ·go_enter Tryz.func67,Tryz.ntmps67;go_wp2_with (first | (go_at_call 102;refine(y.out _ _).mono ?_;rintro e w' ⟨rfl,rfl⟩) | fail);go_ret;exact⟨by simp,rfl⟩
 ·by_cases D:o<x
  ·go_enter Tryz.func67,Tryz.ntmps67;go_wp2_with (first | (go_at_call 102;refine(y.out _ _).mono ?_;rintro e w' ⟨rfl,rfl⟩) | fail);go_ret;exact⟨by simp,rfl⟩
  ·go_enter Tryz.func67,Tryz.ntmps67;go_wp2_with (first | (go_at_call 102;refine(y.out _ _).mono ?_;rintro e w' ⟨rfl,rfl⟩) | fail);go_ret;exact⟨by simp,rfl⟩
theorem wP(x o:Int×OA×Nat×Nat)(w:World):Calls Tryz.prog 66 #[.agg #[.int .i64 x.1,.slice x.2.1 x.2.2.1 x.2.2.2],.agg #[.int .i64 o.1,.slice o.2.1 o.2.2.1 o.2.2.2]] w fun e w'=>e=.returned (.int .i64 (kw x o))∧∃q E,w'=grow (w.drewN q) E:=by
 have y:=fun D=>s7 x.1 o.1 D;rw[show(if x.1<o.1 then (-1:Int) else if o.1<x.1 then 1 else 0)=kw x o from rfl] at y;generalize kw x o=r at y ⊢;have z:=gQq y;clear y;go_enter Tryz.func66,Tryz.ntmps66;go_wp2_with (first | (go_at_call 67;refine(z.out _).mono ?_;rintro e w' ⟨rfl,rfl⟩) | fail);go_ret;exact⟨rfl,0,_,by rw[alloc_eq_grow,alloc_eq_grow,grow_grow];rfl⟩
theorem Lot.holds{cap:Nat}{y:List (Int×OA×Nat×Nat)}(h:Lot 31 2 (fun O u _=>u=fL O) w B (.slice (some ⟨g,0,none⟩) y.length cap) y):HoldsK fL 2 w g 0 y.toArray:=by
 intro t D;rw[size_flatK] at D;have ab:t<y.length*2:=by simpa using D
 have I:t / 2<y.length:=by omega
 obtain⟨V,Q,u,z,_,_,Y,Z,K,L⟩:=h.cell (t / 2) I;injection z with z _ _;injection z with z;injection z with z _;subst z;have E:=K (t % 2) (by omega);rw[show t / 2*2+t % 2=t by omega,L] at E;rw[get_flatK _ _ _ _ D,Nat.zero_add];refine⟨?_,?_⟩
 ·rw[E];have e:y.toArray[t / 2]! = y[t / 2]:=by simp[I]
  rw[e];have:t % 2<(fL y[t / 2]).length:=by show t % 2<2;omega
  simp[this]
 ·obtain⟨us,_,_,M,_⟩:=h.out;rcases M.2 with ⟨o,_⟩ | ⟨X,S,U,o,_,J,_⟩
  ·cases o
  ·injection o with o _ _;injection o with o;injection o with o _;subst o;simp[World.frozen?,J]
theorem kD{d:Array (Int×OA×Nat×Nat)}{os:Array Obj}:Aside (fun i=>i=g) w (sortWorldK fL 2 w g 0 n d os):=by
 refine⟨rfl,rfl,rfl,?_,fun k y o=>?_⟩
 ·show w.1.size<=(grow (putRowK fL 2 (Sort.ahead w n) g 0 d) os).1.size;rw[size_grow,size_putRowK];show w.1.size<=w.1.size+_;omega
 ·show(grow (putRowK fL 2 (Sort.ahead w n) g 0 d) os).1[k]?=_;rw[heap_grow_old _ _ (by rw[size_putRowK];exact y)];show(w.1.modify g _)[k]?=_;rw[Array.getElem?_modify,if_neg (fun e=>o e.symm)]
def lW(w:World)(B:Nat)(v:Value)(ys:List (Int×OA×Nat×Nat)):Prop:=Lot 31 2 (fun y u _=>u=fL y) w B v ys
theorem lW.aside{F:Nat->Prop}{o:List (Int×OA×Nat×Nat)}(h:lW w B v o)(y:Aside F w w')(D:∀i,v.ownBlock=some i->¬F i):lW w' B v o:=Lot.aside h y D fun _ _ z=>fun _ _=>z.here
theorem jy:(Tryz.prog.info? 31).map (fun i=>(i.zero,i.size,i.bytes))=some (some (.agg #[.int .i64 0,.slice none 0 0]),2,32):=by kernel_rfl
structure R17(P:OA->Nat->List Col->Prop)(w wr:World)(M n:Nat)(g:Int->Option Value)(s:Int->Option (List Col))(v:Value)(ys:List (Int×OA×Nat×Nat))(cnt:Nat):Prop where
 rng:RM wr M w.1.size n g (ys.map (·.1)) cnt
 rows:lW wr w.1.size v ys
 room:cnt+ys.length<=n
 each:∀y∈ys,∃c,s y.1=some c∧y.2.2.1=c.length∧bB w y.2.1 y.2.2.2 c∧P y.2.1 y.2.2.2 c
 nodup:(ys.map (·.1)).Nodup
 below:Below w.1.size w wr
 off:v.ownBlock≠some w.1.size
theorem pw{P:OA->Nat->List Col->Prop}{s:Int->Option (List Col)}{g:Int->Option Value}{m:Int}{v:Value}(h:il P w s g)(o:g m=some v):∃c p d,s m=some c∧v=.agg #[.slice p c.length d]∧bB w p d c∧P p d c:=by
 have:=h m;cases hs:s m with
 |none=>rw[hs] at this;rw[show g m=none from this] at o;cases o
 |some c=>
  rw[hs] at this;obtain⟨p,d,y,z⟩:=this;rw[y] at o;injection o with o;exact⟨c,p,d,rfl,o.symm,z⟩
theorem lq{s:Int->Option (List Col)}{g:Int->Option Value}{m:Int}{v:Value}(h:fM w s g)(o:g m=some v):∃c p d,s m=some c∧v=.agg #[.slice p c.length d]∧bB w p d c:=by
 have:=h m;cases hs:s m with
 |none=>rw[hs] at this;rw[show g m=none from this] at o;cases o
 |some c=>
  rw[hs] at this;obtain⟨p,d,y,z⟩:=this;rw[y] at o;injection o with o;exact⟨c,p,d,rfl,o.symm,z⟩
theorem R17.more{P:OA->Nat->List Col->Prop}{Q w5:World}{z:Nat}{g:Int->Option Value}{s:Int->Option (List Col)}{v v':Value}{ys:List (Int×OA×Nat×Nat)}{cnt E:Nat}{m:Int}{c:List Col}{p:OA}{d:Nat}(h:R17 P w wr z n g s v ys cnt)(ah:z<w.1.size)(I:Aside (fun k=>k=w.1.size) wr w1)(X:RM w1 z w.1.size n g (ys.map (·.1)++[m]) E)(aj:E<cnt)(U:m∉ys.map (·.1))(Y:s m=some c)(Z:bB w p d c∧P p d c)(hb:Below w1.1.size w1 Q)(M:Aside (fun i=>v.ownBlock=some i) Q w5)(S:lW w5 w.1.size v' (ys++[(m,p,c.length,d)]))(V:v'.ownBlock≠some w.1.size):R17 P w w5 z n g s v' (ys++[(m,p,c.length,d)]) E:=by
 have O:∀k,v.ownBlock=some k->w.1.size<=k:=fun k J=>(Lot.lt h.rows k J).1;refine⟨?_,S,by have:=h.room;simp;omega,fun y o=>?_,?_,?_,V⟩
 ·rw[List.map_append];exact(X.on hb).aside M (fun D=>by have:=O _ D;omega) h.off
 ·rcases List.mem_append.1 o with o | o
  ·exact h.each y o
  ·rw[List.mem_singleton.1 o];exact⟨c,Y,rfl,Z⟩
 ·rw[List.map_append,List.nodup_append];refine⟨h.nodup,by simp,fun a I b hb=>?_⟩;simp at hb;rw[hb];exact fun e=>U (e ▸ I)
 ·have K:=h.below.trans (I.below h.below.size (fun k J D=>by omega));have L:=K.trans (hb.mono K.size);exact L.trans (M.below L.size (fun k J D=>by have:=O _ D;omega))
def zQ(P:OA->Nat->List Col->Prop)(w:World)(s:Int->Option (List Col))(e:Ending)(w':World):Prop:=∃(l:List (Int×List Col)) (q:OA) (d:Nat),e=.returned (.slice q l.length d)∧im P w' q l∧l.Pairwise (fun a b=>a.1<b.1)∧(∀n c,(n,c)∈l↔s n=some c)∧l.length<=2000000∧Below w.1.size w w'
theorem tO{P:OA->Nat->List Col->Prop}{s:Int->Option (List Col)}{q:OA}{d:Nat}{J zs:List (Int×OA×Nat×Nat)}(L:zs.Perm J)(ak:zs.Pairwise (fun a b=>¬b.1<a.1))(ah:(J.map (·.1)).Nodup)(Y:∀y∈J,∃c,s y.1=some c∧y.2.2.1=c.length∧bB w y.2.1 y.2.2.2 c∧P y.2.1 y.2.2.2 c)(V:∀m c,s m=some c->m∈J.map (·.1))(ab:J.length<=2000000)(hb:Below w.1.size w w')(X:∀j (h:j<zs.length),∃b I,q=some ⟨b,I,none⟩∧b<w'.1.size∧w'.cell? ⟨b,I+j*2,none⟩=some (.int .i64 zs[j].1)∧w'.cell? ⟨b,I+j*2+1,none⟩=some (.slice zs[j].2.1 zs[j].2.2.1 zs[j].2.2.2)):
  zQ P w s (.returned (.slice q zs.length d)) w':=by
 have S:∀o∈zs,∃c,s o.1=some c∧o.2.2.1=c.length∧bB w o.2.1 o.2.2.2 c∧P o.2.1 o.2.2.2 c:=fun o h=>Y o (L.mem_iff.1 h);have aj:(zs.map (·.1)).Nodup:=(L.map _).nodup_iff.2 ah;refine⟨zs.map (fun o=>(o.1,(s o.1).getD [])),q,d,by rw[List.length_map],fun j Z=>?_,?_,fun m c=>?_,by rw[List.length_map,L.length_eq];exact ab,hb⟩
 ·have Q:j<zs.length:=by simpa using Z
  obtain⟨b,I,z,D,K,M⟩:=X j Q;obtain⟨c,E,U,O⟩:=S _ (List.getElem_mem Q);refine⟨b,I,zs[j].2.1,zs[j].2.2.2,z,D,?_,?_,?_⟩
  ·rw[List.getElem_map];exact K
  ·rw[List.getElem_map,E,M,U];rfl
  ·rw[List.getElem_map,E];exact⟨O.1.on hb,O.2⟩
 ·rw[List.pairwise_map];have z:zs.Pairwise (fun a b=>a.1≠b.1):=List.pairwise_map.1 aj;exact(ak.and z).imp fun {a b} h=>by
   have:=h.1;have:=h.2;show a.1<b.1;omega
 ·rw[List.mem_map];constructor
  ·rintro⟨o,z,D⟩;obtain⟨a0,K,_⟩:=S o z;injection D with M E;rw[K] at E;rw[<-M,K,<-E];rfl
  ·intro h;obtain⟨y,z,D⟩:=List.mem_map.1 (V m c h);exact⟨y,L.mem_iff.2 z,by rw[D,h];rfl⟩
theorem wJ(P:OA->Nat->List Col->Prop)(w:World)(L n:Nat)(g:Int->Option Value)(s:Int->Option (List Col))(bb:KM w L n g)(c5:n<=2000000)(b2:il P w s g):
  Calls Tryz.prog 32 #[.map (some L)] w (zQ P w s):=by
 have a2:=gQq bb;have a6:=gQq b2;clear bb b2;go_enter Tryz.func32,Tryz.ntmps32;go_wp2_with (first | (at_range;refine jB a2.out rfl rfl rfl ?_;intro w0 cnt bk b0 bj cn) | fail)
 go_frame
 have a5:Hid (R17 P w w0 L n g s (.slice none 0 0) [] cnt):=⟨b0,fU _ _,by simpa using bk,by simp,by simp,bj,by simp[Value.ownBlock]⟩;clear bk b0 bj cn;go_loopw [3] (fun cr wr=>∃(z:List (Int×OA×Nat×Nat)) (cnt:Nat),Hid (R17 P w wr L n g s cr z cnt)) (fun _ wr=>wr.rangeLeft L w.1.size);case atStart=>exact⟨[],cnt,a5⟩
 case round=>
  obtain⟨z,cs,o⟩:=hrel;clear a5;have ca:=gQq a2.out.lt
  go_wp2_with (first
   | (at_next;refine lh o.out.rng rfl rfl rfl ?_ ?_;(intro bi);(have b6:=gQq bi);(clear bi);rotate_left;(intro m cu w1 cc bO bq bT b1 bN ab aj cw);(obtain⟨E,p,d,b4,cf,b3⟩:=pw a6.out bq);subst cf;(have D:=gQq (And.intro bO (And.intro bT (And.intro b1 (And.intro bN (And.intro ab (And.intro b4 b3)))))));(have a1:=gQq (((Below.refl w1.1.size w1).alloc gQx (.cells #[.slice p E.length d] 29)).alloc (by simp) (.cells #[.int .i64 m,.slice p E.length d] 31)));(have b9:=gQq (Lot.on (lW.aside o.out.rows ab (fun i ah S=>o.out.off (by rw[ah,S]))) a1.out));(have b7:Hid (((w1.alloc (.cells #[.slice p E.length d] 29)).alloc (.cells #[.int .i64 m,.slice p E.length d] 31)).1[w1.1.size+1]?=some (.cells #[.int .i64 m,.slice p E.length d] 31 (0,0))):=(al2 w1 _ _).2.1);(clear bO bq bT b1 bN ab b4 b3 aj))
   | (at_builtin;refine iw (P:=fun y u _=>u=fL y) jy Tryz.underlying24 rfl (by decide) b9.out (m,p,E.length,d) #[.int .i64 m,.slice p E.length d] rfl (by intro a bc;simp at bc;rcases bc with rfl | rfl <;> rfl) (fun _ _=>rfl) b7.out (by have:=o.out.room;omega) (by have:=o.out.room;omega) (by have:=o.out.below.size;have:=D.out.2.2.2.2.1.size;simp;omega) rfl rfl rfl rfl rfl ?_;(intro cd cap w5 bs be O);(have a3:Hid (R17 P w w5 L n g s (.slice (some ⟨cd,0,none⟩) (z.length+1) cap) (z++[(m,p,E.length,d)]) cc):=o.out.more ca.out D.out.2.2.2.2.1 D.out.2.2.1 D.out.2.2.2.1 D.out.2.1 D.out.2.2.2.2.2.1 D.out.2.2.2.2.2.2 a1.out be bs (fun S=>by simp only[Value.ownBlock,Option.some.injEq] at S;rcases O with O | O;exact o.out.off (by rw[O,S]);have:=o.out.below.size;have:=D.out.2.2.2.2.1.size;have:=o.out.rng.lt.1;simp at O;omega));(clear bs be O))
   |fail)
  ·exact⟨⟨_,_,a3⟩,by rw[a3.out.rng.left,o.out.rng.left];exact D.out.2.2.2.1⟩
  ·have a0:Hid (∀m c,s m=some c->m∈z.map (·.1)):=fun m c ck=>by
    have:=a6.out m;rw[ck] at this;obtain⟨p,d,ce,_⟩:=this;exact b6.out m _ ce
   have cp:z.length<=2000000:=(by have:=o.out.room;omega);obtain⟨us,_,_,Y,_⟩:=o.out.rows.out;rcases Y.2 with ⟨Q,a9⟩ | ⟨I,cap,ct,Q,cg,bn,cv,_⟩
   ·subst Q;have co:z=[]:=List.eq_nil_of_length_eq_zero a9;subst co;have J:=AnyF.slices_SortFunc_none qJ none 0 (.func (.func 66) #[] #[]) wr;change Calls Tryz.prog 65 _ _ _ at J;clear Y a9;refine J.mono ?_;rintro e w' ⟨rfl,V⟩;rw[V];clear V J;go_wp2;go_ret;exact tO (zs:=[]) (List.Perm.refl []) .nil (by simp) (by simp) a0.out (by simp) o.out.below (fun j K=>by simp at K)
   ·subst Q;have a8:∀args w,(callFunc 66 args).run Tryz.prog w=.ok (.enter 66 args) w:=enters_of Tryz.func66 (by kernel_rfl) rfl;have Z:=Lot.holds o.out.rows;have bp:I<wr.1.size:=au bn;have J:=AnyQ.slices_SortFunc qJ 2 Tryz.isAgg31 Tryz.sizeOf31 fL (fun _=>rfl) (fun x v Q=>by simp[fL] at Q;rcases Q with rfl | rfl <;> rfl) kw zf 66 #[] I 0 cap z.toArray wr a8 (fun _ _ _ _ x y=>wP x y _) Z bp (by simp;omega);change Calls Tryz.prog 65 #[.slice (some ⟨I,0,none⟩) z.length cap,.func (.func 66) #[] #[]] _ _ at J;have b8:=gQq Z;have X:=gQq (And.intro cg bp);clear Y a8 Z bn;refine J.mono ?_;rintro e w' ⟨rfl,d',k,os,bX,b5,V⟩;have a4:=gQq bX;have cb:=gQq b5;have a7:=gQq V;clear J bX b5 V;go_wp2;go_ret;have U:d'.size=z.length:=(by have:=a4.out.1;simpa using this);have cq:d'.toList.length=z.length:=(by simpa using U);have cx:∀j,j<d'.size->d'[j]! = d'.toList[j]!:=fun j K=>by simp[K]
    rw[<-cq];refine tO (zs:=d'.toList) ?_ ?_ o.out.nodup o.out.each a0.out cp ?_ (fun j K=>?_)
    ·have:=a4.out.2.2;rw[show z.toArray.size=d'.size by simp[U]] at this;rw[Array.extract_size] at this;rw[show d'.size=z.toArray.size by simp[U],Array.extract_size] at this;simpa using this
    ·rw[List.pairwise_iff_getElem];intro i j ah K cj;have ci:i<d'.size:=(by simpa using ah);have M:j<d'.size:=(by simpa using K);have:=cb.out i j (Nat.zero_le _) cj (by rw[show z.toArray.size=d'.size by simp[U]];exact M);rw[wT] at this;simpa[ci,M] using this
    ·have:=kD (w:=wr) (g:=I) (n:=k) (d:=d') (os:=os);rw[<-a7.out] at this;exact o.out.below.trans (this.below o.out.below.size (fun k cy S=>by have:=X.out.1;omega))
    ·have M:j<d'.size:=(by simpa using K);have br:=holdsK_sortWorldK fL 2 wr I 0 k z.toArray d' os X.out.2 b8.out (by simp[U]);have aj:=(kD (w:=wr) (g:=I) (n:=k) (d:=d') (os:=os)).size;have e:d'[j]! = d'.toList[j]:=(by simp[M]);have c0:=(br.cell M (c:=0) (by omega)).1;have c1:=(br.cell M (c:=1) (by omega)).1;rw[e,Nat.add_zero] at c0;rw[e] at c1;rw[<-a7.out] at c0 c1 aj;exact⟨I,0,rfl,by have:=X.out.2;omega,c0,c1⟩
end
section
open Go.RowKit
theorem bg.cell{I:List Nat}{rs:List Run}(h:bg w B v I rs)(j:Nat)(S:j<rs.length):∃q cap E y,v=.slice (some ⟨q,0,none⟩) rs.length cap∧q<w.1.size∧w.cell? ⟨q,j*2,none⟩=some (.int .i64 rs[j].1)∧w.cell? ⟨q,j*2+1,none⟩=some (.slice E rs[j].2.length y)∧At w E rs[j].2∧rs[j].2.length<=y:=by
 obtain⟨us,M,aj,O⟩:=h.out;obtain⟨g,cap,V,K,L,o⟩:=O j S;rcases M.2 with ⟨_,X⟩ | ⟨q,J,U,rfl,Y,z,Z,ab,ah,Q⟩
 ·omega
 ·have D:∀m,m<2->w.cell? ⟨q,j*2+m,none⟩=us[j*2+m]?:=fun m o=>by
   rw[<-Q,List.getElem?_take_of_lt (by omega)];simp[World.cell?,z]
  exact⟨q,J,_,cap,rfl,(Array.getElem?_eq_some_iff.1 z).1,(D 0 (by omega)).trans K,(D 1 (by omega)).trans L,o.free.at,o.base.2.2⟩
def lu(B:Nat)(x:Int×List Col)(u:List Value)(w:World):Prop:=∃p d,u=[.int .i64 x.1,.slice p x.2.length d]∧bB w p d x.2∧dl w B p x.2.length 9
theorem Lot.schs{xs:List (Int×List Col)}(h:Lot 31 2 (lu B) w B v xs):∃q c,v=.slice q xs.length c∧im (fun p _ c=>dl w B p c.length 9) w q xs:=by
 obtain⟨q,c,z,_⟩:=h.form;refine⟨q,c,z,fun j K=>?_⟩;obtain⟨g,cap,u,o,_,_,D,_,y,p,d,E,I,J⟩:=h.cell j K;rw[z] at o;injection o with o _ _;have c0:=y 0 (by omega);have c1:=y 1 (by omega);rw[E] at c0 c1;exact⟨g,0,p,d,o,D,by rw[Nat.zero_add];exact c0,by rw[Nat.zero_add];exact c1,I,J⟩
theorem lk{p:OA}{s:List Col}{F:Nat->Prop}(h:fv w B #[.slice p s.length c] s)(V:∀x∈s,x.wf)(D:∀k,F k->k<B∨w.1.size<=k):dZ F w (fun w=>bB w p c s∧dl w B p s.length 9):=fun w' O=>by
 obtain⟨v,us,X,y,hb,E⟩:=h.out;simp only[Array.mk.injEq,List.cons.injEq,and_true] at y;subst y;have z:=hb.aside O (fun g Q o=>by have:=hb.lt g Q;have:=D g o;omega) (fun j S k U o=>by have:=hb.range j S k U;have:=D k o;omega);obtain⟨Z,Y,I,J,K⟩:=z.cols E;injection I with e4 _ e5;subst e4 e5;obtain⟨L,-,M⟩:=tN z.row;exact⟨⟨E,J,K,V⟩,M.few L⟩
theorem kv{l:L8}(h:Fr.dec l=.error e):e≠0:=by
 unfold Fr.dec at h;split at h
 ·next e' he=>injection h with h;rw[<-h];exact qR he
 ·next b hb=>
  unfold Fr.rdF at h;have z:∀{D:Nat} {l:L8} {e:Nat},Fr.nb D l=.error e->e=5:=by
   intro D l e h;unfold Fr.nb at h;split at h
   ·injection h with h;omega
   ·split at h
    ·cases h
    ·injection h with h;omega
  have y:∀(o:List Nat) {l:L8} {e:Nat},Fr.nbs o l=.error e->e=5:=by
   intro o;induction o with
   |nil=>intro l e h;rw[Fr.nbs] at h;cases h
   |cons a o ih=>
    intro l e h;rw[Fr.nbs] at h;split at h
    ·next e' he=>injection h with h;rw[<-h];exact z he
    ·split at h
     ·next e' he=>injection h with h;rw[<-h];exact ih he
     ·cases h
  have E:∀(m:Nat) {l:L8} {e:Nat},Fr.rdE m l=.error e->e=5:=by
   intro m;induction m with
   |zero=>intro l e h;rw[Fr.rdE] at h;cases h
   |succ m ih=>
    intro l e h;rw[Fr.rdE] at h;split at h
    ·next e' he=>injection h with h;rw[<-h];exact y _ he
    ·split at h
     ·next e' he=>injection h with h;rw[<-h];exact ih he
     ·cases h
  split at h
  ·unfold Fr.rdS at h;split at h
   ·next e' he=>injection h with h;rw[<-h,z he];decide
   ·split at h
    ·next e' he=>injection h with h;rw[<-h];exact Sch.read_ne he
    ·cases h
  ·split at h
   ·unfold Fr.rdD at h;split at h
    ·next e' he=>injection h with h;rw[<-h,y _ he];decide
    ·split at h
     ·injection h with h;omega
     ·cases h
   ·split at h
    ·unfold Fr.rdI at h;split at h
     ·next e' he=>injection h with h;rw[<-h,y _ he];decide
     ·split at h
      ·next e' he=>injection h with h;rw[<-h,E _ he];decide
      ·split at h
       ·cases h
       ·injection h with h;omega
    ·injection h with h;omega
structure S17(w1 wr:World)(v:Value)(rs:List Run):Prop where
 rows:Lot 31 2 (lu w1.1.size) wr w1.1.size v (Sv.said rs)
 below:Below w1.1.size w1 wr
theorem S17.skip{rs:List Run}{r:Run}(h:S17 w1 wr v rs)(hb:Below wr.1.size wr W)(o:Sv.said (rs++[r])=Sv.said rs):S17 w1 W v (rs++[r]):=⟨by rw[o];exact h.rows.on hb,h.below.trans (hb.mono h.below.size)⟩
theorem S17.more{o:World}{v':Value}{rs:List Run}{r:Run}{x:Int×List Col}(h:S17 w1 wr v rs)(hb:Below wr.1.size wr W)(E:Sv.said (rs++[r])=Sv.said rs++[x])(D:Lot 31 2 (lu w1.1.size) o w1.1.size v' (Sv.said rs++[x]))(y:Aside (fun i=>v.ownBlock=some i) W o):S17 w1 o v' (rs++[r]) :=
 ⟨by rw[E];exact D,(h.below.trans (hb.mono h.below.size)).trans (y.below (Nat.le_trans h.below.size hb.size) (fun k I z=>by have:=(h.rows.lt k z).1;omega))⟩
theorem S17.still{y:World}{rs:List Run}{p:OA}{l:List Col}(h:S17 w1 wr v rs)(I:fv y B #[.slice p l.length c] l)(z:wr.1.size<=B)(J:∀x∈l,x.wf)(hb:Below y.1.size y W)(n:Int):dZ (fun i=>v.ownBlock=some i) W (lu w1.1.size (n,l) [.int .i64 n,.slice p l.length c]):=fun w' E=>
 have D:=(lk I J (fun k o=>.inl (Nat.lt_of_lt_of_le (h.rows.lt k o).2 z))).step (al hb _) (fun _ o=>.inl o) w' E
 ⟨p,c,rfl,D.1,D.2.low (Nat.le_trans h.below.size z)⟩
theorem nG{rs:List Run}{r:Run}(h:Fr.dec r.2=.error e):Sv.said (rs++[r])=Sv.said rs:=by rw[Sv.said_snoc,h];simp
theorem nF{rs:List Run}{r:Run}(h:Fr.dec r.2=.ok f)(o:¬f.kind=1):Sv.said (rs++[r])=Sv.said rs:=by rw[Sv.said_snoc,h];simp[o]
theorem nE{rs:List Run}{r:Run}(h:Fr.dec r.2=.ok f)(o:f.kind=1):Sv.said (rs++[r])=Sv.said rs++[(f.number,f.cols)]:=by rw[Sv.said_snoc,h];simp[o]
theorem gy:jA Hv:=fun b p c w d1 c7 b1 ce=>by
 have Y:=gQq (zg w p c b b1 (by omega));have cr:=gQq ce;have da:=Sp.out_len b;have bi:=gQq (Sp.row_all b).stand;obtain⟨rs,cb⟩:∃rs,rs=(Sp.of b).out:=⟨_,rfl⟩;rw[<-cb] at Y da bi ⊢;clear b1 ce cb c7;go_enter Tryz.func8,Tryz.ntmps8;go_wp2_with fail;refine Y.out.mono ?_;rintro e w1 ⟨q,cap,dn,rfl,ca,b5⟩;have co:=gQq ca;have L:=gQq b5;clear ca b5 Y;go_wp2_with fail;go_loopw [3,11] (fun dj a5 wr=>∃t:Nat,t<=rs.length∧a5=.int .i64 t∧Hid (S17 w1 wr dj (rs.take t))) (fun _ a5 _=>rs.length-(intOf a5).toNat);case atStart=>exact⟨0,by omega,rfl,fU _ _,gQz⟩
 case round=>
  obtain⟨t,d4,rfl,y⟩:=hrel;by_cases U:t<rs.length
  ·have d5:(t:Int)<(rs.length:Int):=(by omega);obtain⟨dk,dr,cf,bq,a0,dv,a6,a7,O,aj⟩:=(co.out.on y.out.below).cell t U;injection a0 with a0 hq2 hq3;clear hq2;subst hq3;subst a0;have b9:=(bi.out _ (List.getElem_mem U)).most;obtain⟨k,z,a1⟩:∃k z,rs[t]=(k,z):=⟨_,_,rfl⟩;have Z:Hid (rs.take (t+1)=rs.take t++[(k,z)]):=(by show _=_;rw[List.take_succ_eq_append_getElem U,a1]);rw[a1] at a6 a7 O aj b9;simp only at a6 a7 O aj b9;obtain⟨cg,a4⟩:∃W,W=wr.alloc (.cells #[.int .i64 (k:Int),.slice cf z.length bq] 62):=⟨_,rfl⟩;have Q:Below wr.1.size wr cg:=(by rw[a4];exact gQy);have cs:=gQq ((cr.out.next L.out).next (y.out.below.trans (Q.mono y.out.below.size)));have bc:=gQq (rj cf bq z (by omega) aj cg cs.out (O.on Q));have I:=gQq Q;have bk:=gQq a4;clear a1 O a4 Q;go_wp2_with fail;rw[<-bk.out];clear bk a6 a7;refine bc.out.mono ?_;clear bc;cases hd:Fr.dec z with
   |error er=>
    rintro e D ⟨rfl,o⟩;have c9:=kv hd;have ds:((er:Int)==0)=false:=bd (by omega);have J:=gQq (y.out.skip (r:=(k,z)) (I.out.trans ((o.alloc o.size (.cells #[.int .i64 0,.int .i64 0,.slice none 0 0,.int .i64 0,.int .i64 0,.int .i64 0,.slice none 0 0,.int .i64 0,.int .i64 0,.int .i64 0,.slice none 0 0] 67)).mono I.out.size)) (nG hd));clear o hd c9;go_wp2;go_roundw;case rel=>exact⟨t+1,by omega,by go_num,by rw[Z.out];exact J⟩
    case measure=>simp[intOf];omega
   |ok f=>
    rintro e D ⟨u,rfl,ak,o⟩;obtain⟨sp,V,bp,bn,bs,br,dc,a3,-⟩:=ak.out;subst dc;unfold bJ;have HBd:Hid (Below wr.1.size wr D):=I.out.trans (o.mono I.out.size);have cj:Hid (Below D.1.size D (D.alloc (.cells #[.int .i64 f.kind,.int .i64 f.number,.slice sp f.cols.length V,.int .i64 f.seq,.int .i64 f.first,.int .i64 f.rows,.slice bp f.block.length bn,.int .i64 f.index.at_,.int .i64 f.index.frames,.int .i64 f.index.rows,.slice bs f.index.entries.length br] 67))):=gQy;by_cases E:f.kind=1
    ·have bN:(f.kind==1)=true:=cZ E;have b6:=Sv.dec_good hd E;obtain⟨-,b2,ah,-⟩:=al2 D (.cells #[.int .i64 f.kind,.int .i64 f.number,.slice sp f.cols.length V,.int .i64 f.seq,.int .i64 f.first,.int .i64 f.rows,.slice bp f.block.length bn,.int .i64 f.index.at_,.int .i64 f.index.frames,.int .i64 f.index.rows,.slice bs f.index.entries.length br] 67) (.cells #[.int .i64 f.number,.slice sp f.cols.length V] 31);have ck:=gQq b2;have X:=gQq (HBd.out.trans (ah.mono HBd.out.size));have cq:=gQq (y.out.still a3 I.out.size b6.2.2.2 ah f.number);have cn:=gQq (y.out.rows.on X.out);have cp:=gQq (nE (rs:=rs.take t) (r:=(k,z)) hd E);have a2:=Sv.said_le (rs.take t);have d3:(Sv.said (rs.take t)).length<=1100000:=(by rw[List.length_take] at a2;omega);clear hd E b6 a3 ak o b2 ah a2;go_wp2_with (first | (at_builtin;refine iw (P:=lu w1.1.size) jy Tryz.underlying24 rfl (by decide) cn.out (f.number,f.cols) #[.int .i64 f.number,.slice sp f.cols.length V] rfl (by intro a b3;simp at b3;rcases b3 with rfl | rfl <;> rfl) cq.out ck.out (by omega) (by omega) (by have:=y.out.below.size;have:=X.out.size;omega) rfl rfl rfl rfl rfl ?_;(intro bN dp w5 b8 b4 _);(have J:=gQq (y.out.more X.out cp.out b8 b4));(clear b8 b4)) | fail);go_roundw;case rel=>exact⟨t+1,by omega,by go_num,by rw[Z.out];exact J⟩
     case measure=>simp[intOf];omega
    ·have bN:(f.kind==1)=false:=bd E;have J:=gQq (y.out.skip (r:=(k,z)) (HBd.out.trans (cj.out.mono HBd.out.size)) (nF hd E));clear hd E a3 ak o;go_wp2;go_roundw;case rel=>exact⟨t+1,by omega,by go_num,by rw[Z.out];exact J⟩
     case measure=>simp[intOf];omega
  ·have d0:¬(t:Int)<(rs.length:Int):=(by omega);obtain rfl:t=rs.length:=by omega
   have S:=y.out;rw[List.take_length] at S;obtain⟨dh,c2,dd,cc⟩:=S.rows.schs;subst dd;have a2:=Sv.said_le rs;have bj:=gQq (jE _ (Sv.said rs) dh c2 wr wr (by omega) gQz cc (fun p db=>by have:=(Sv.said_good rs p db).1;exact⟨by omega,by omega⟩));have bb:=gQq (L.out.trans (S.below.mono L.out.size));clear U S cc;go_wp2_with fail;refine bj.out.mono ?_;rintro e D ⟨M,n,g,rfl,b7,d2,-,cd,o⟩;have be:=gQq (wJ _ D M n g (Sv.sure (Sv.said rs)) b7 (by omega) (cd.on o));have a8:=gQq (bb.out.trans (o.mono bb.out.size));have a9:=gQq o;clear b7 cd o bj;go_wp2_with fail;refine be.out.mono ?_;rintro e d6 ⟨l,di,cv,rfl,bO,bT,bX,b0,ab⟩;have ci:=gQq (a9.out.trans (ab.mono a9.out.size));have K:=gQq (And.intro bO (And.intro bT (And.intro bX (And.intro b0 (a8.out.trans (ab.mono a8.out.size))))));clear bO bT bX b0 ab be;go_wp2;go_ret;exact⟨l,di,cv,rfl,fun j c8=>by
    obtain⟨cu,de,df,c0,f1,cw,cx,cy,c5,c6⟩:=K.out.1 j c8
    exact⟨cu,de,df,c0,f1,cw,cx,cy,c5,(c6.on ci.out).low L.out.size⟩,K.out.2.1,K.out.2.2.1,K.out.2.2.2.1,K.out.2.2.2.2⟩
end
end Go.Proofs.YtbahfgdbjgkklaaGreatDoor
