import Derived.Test.YtdkammppnkhhoaaGreatDoorB37
import Derived.Test.YtdkammppnkhhoaaGreatDoorB36
set_option maxRecDepth 100000
set_option maxHeartbeats 4000000
namespace Go.Proofs.YtdkammppnkhhoaaGreatDoor
variable{B M a n:Nat}{w1:World}{v:Value}
section
open Go.RowKit Go.Maps
structure WhI(w wr:World)(B g x k:Nat)(v:Value)(s:Dv.St)(G:Nat->Prop)(j:Nat)(X:Sc.Pos):Prop where
 dev:aH wr B g v { s with told:=s.told+X.read } x k
 walk:∃v' g',ax wr w.1.size (w.1.size+1) w.1.size j v' g' X.wk G
 aside:Aside (fun i=>i=g) w wr
 goes:Sc.goes s.b j=some X
section
variable {w:World} {B g x k:Nat} {v:Value} {s:Dv.St} {G:Nat->Prop}
theorem ax.far{g:Int->Option Value}{s:Wk}{G:Nat->Prop}(h:ax w1 B a M n v g s G){i:Nat}(o:eV a M v i):B<=i:=by
 rcases o with o | o | o
 ·rw[o];exact h.base.1
 ·rw[o];exact h.base.2
 ·exact(h.ents.lt i o).1
theorem WhI.after{A:World}{D:Dv.St}{R:Wk}{J:Value}{K:Int->Option Value}(hd:aH w1 B g v D x k)(z:ax w1 w.1.size (w.1.size+1) w.1.size n J K R G)(O:Aside (fun i=>i=g) w w1)(E:Aside (eV (w.1.size+1) w.1.size J) w1 A)(L:∀i,i=g∨v.ownBlock=some i->G i)(U:g<w.1.size):
  aH A B g v D x k∧Aside (fun i=>i=g) w A:=by
 refine⟨hd.aside E (fun o=>?_) (fun i I o=>?_),O.trans E (fun i I o=>?_)⟩
 ·have:=z.far o;omega
 ·have y:=z.off i (L i (.inr I));rcases o with o | o | o
  ·exact y.1 o
  ·exact y.2.1 o
  ·exact y.2.2 o
 ·have:=z.far o;omega
theorem vX(h:aH w B g v s x k)(hd:s.down=false)(eU:s.b.length<=2097152)(f3:s.told<=1000000000000)(d5:Hv w)(bd:2<B)(cw:B<=w.1.size)(cx:∀i,i=g∨v.ownBlock=some i->G i)(be:∀i,G i->i<w.1.size):
  Calls Tryz.prog 6 #[.pointer (some ⟨g,0,none⟩)] w fun e w'=>∃j X z a4 ak,Sc.goes s.b j=some X∧Sc.step s.b X=.error z∧e=.returned (.tuple #[.pointer (some ⟨w.1.size+1,0,none⟩),.int .i64 (X.at_:Nat),.int .i64 (z:Nat)])∧ax w' w.1.size (w.1.size+1) w.1.size (j+1) a4 ak X.wk G∧aH w' B g v { s with told:=s.told+X.read+Sc.reads s.b X.at_ } x k∧Aside (fun i=>i=g) w w':=by
 have bc:=xX (kUp h);rw[hd] at bc;have b3:=xX (sM w G be);have b0:=xX h;have b1:=xX d5;have bX:=xX cx;have e4:=xX be;have eS:=h.lt;have fv:=h.base;have ec:=xX hd;clear h d5 cx be hd;go_enter Tryz.func6,Tryz.ntmps6;go_wp2_with fail;refine bc.out.mono ?_;rintro e w' ⟨rfl,d7⟩;rw[d7];clear d7 w' bc;go_wp2_with fail;refine b3.out.mono ?_;rintro e w1 ⟨rfl,d2,L,e1⟩;have em:Hid (WhI w w1 B g x k v s G 0 Sc.begin_):=⟨b0.out.below L,⟨_,_,d2⟩,ae L _,rfl⟩;clear d2 L e1 b3 b0;go_wp2_with fail;go_loopw [6] (fun bN wr=>∃j X,bN=.int .i64 (X.at_:Nat)∧Hid (WhI w wr B g x k v s G j X)) (fun bN _=>s.b.length-(intOf bN).toNat);case atStart=>exact⟨0,Sc.begin_,rfl,em⟩
 case round=>
  obtain⟨j,X,rfl,D⟩:=hrel;obtain⟨eL,fr,fo,f2⟩:=Sc.goes_good D.out.goes;obtain⟨a4,ak,d9⟩:=D.out.walk;have ct:=kAt D.out.dev ec.out eU (by show s.told+X.read+s.b.length<=_;omega) (b1.out.on (D.out.aside.below cw (fun i J eC=>by omega)) bd) bd (X.at_:Nat);obtain⟨A,ez⟩:∃A,A=X.at_:=⟨_,rfl⟩
  have U:Hid (Sc.step s.b X=match Sc.at_ s.b (X.at_:Nat) with
   |.error e=>.error e
   |.ok (f,n)=>if Sc.may X.wk f (X.at_:Nat)=true then .ok ⟨n,Sc.take X.wk f (X.at_:Nat),X.read+Sc.reads s.b (X.at_:Nat)⟩ else .error 143):=rfl
  have HOk:Hid (∀f n,Sc.at_ s.b (X.at_:Nat)=.ok (f,n)->f.wf∧n<=s.b.length∧X.at_<n):=fun f n bj=>by
   obtain⟨e5,e6,e7,eq,er,eu,e8⟩:=Sc.at_ok bj;exact⟨eq,eu,by rw[er];omega⟩
  have W:Hid (∀z,Sc.at_ s.b (X.at_:Nat)=.error z->z≠0):=fun z bj=>pj bj;obtain⟨r,bp⟩:∃r,r=Sc.at_ s.b (X.at_:Nat):=⟨_,rfl⟩;rw[<-bp] at U HOk W;have cv:Calls Tryz.prog 19 #[.pointer (some ⟨g,0,none⟩),.int .i64 (X.at_:Nat)] wr fun e w'=>AtA r wr e w'∧aH w' B g v { s with told:=s.told+X.read+Sc.reads s.b (X.at_:Nat) } x k∧Aside (fun k=>k=g) wr w':=by rw[bp];exact ct
  have a6:=xX cv;have aj:=xX d9;have fs:(X.at_:Int)<=2097152:=by omega
  clear ct cv bp d9 eL ez A;go_wp2_with fail;refine a6.out.mono ?_;rintro e w2 ⟨a0,a1,has⟩;have a3:ax w2 w.1.size (w.1.size+1) w.1.size j a4 ak X.wk G:=aj.out.aside (has.mono fun i _ J=>bX.out i (.inl J)) (fun i J=>.inl J) (fun i J=>Nat.lt_of_lt_of_le (aj.out.low i J) has.size);have E:Aside (fun i=>i=g) w w2:=D.out.aside.trans has (fun _ _ h=>h);have a9:=xX D.out.goes;cases r with
  |error z=>
   replace a0:e=.returned (.tuple #[.agg #[.int .i64 0,.int .i64 0,.slice none 0 0,.int .i64 0,.int .i64 0,.int .i64 0,.slice none 0 0,.int .i64 0,.int .i64 0,.int .i64 0,.slice none 0 0],.int .i64 0,.int .i64 (z:Nat)]):=a0
   subst a0;have e0:=W.out z rfl;have e9:((z:Int)==0)=false:=(by rw[beq_eq_false_iff_ne];omega);have fi:((z:Int) != 0)=true:=(by rw[bne_iff_ne];omega);have K:Hid (Sc.step s.b X=.error z):=U.out;have ep:=xX a3;have el:=xX a1;have eb:=xX E;clear a3 a1 E has e0 W HOk U a6 aj D;go_wp2
   go_ret3
   have d0:∀o,Below w2.1.size w2 (w2.alloc o):=fun o=>xY.alloc xZ o;exact⟨j,X,z,a4,ak,a9.out,K.out,rfl,(ep.out.on (d0 _)).more (Nat.le_succ j),el.out.below (d0 _),eb.out.alloc _⟩
  |ok y=>
   obtain⟨f,m⟩:=y;obtain⟨u,rfl,bl⟩:∃u,e=.returned (.tuple #[.agg u,.int .i64 (m:Nat),.int .i64 0])∧cT w2 wr.1.size u f:=a0;obtain⟨d8,fy,f0⟩:=HOk.out f m rfl;have bk:=bl.lies;obtain⟨sp,ea,cp,co,cs,cq,d4,-⟩:=bl.out;unfold aB at d4;subst d4;obtain⟨b5,c6⟩:∃x,x=f.kind:=⟨_,rfl⟩;obtain⟨b6,L⟩:∃x,x=f.number:=⟨_,rfl⟩;obtain⟨b8,dv⟩:∃x,x=f.cols.length:=⟨_,rfl⟩;obtain⟨b9,c8⟩:∃x,x=f.seq:=⟨_,rfl⟩;obtain⟨cb,c9⟩:∃x,x=f.first:=⟨_,rfl⟩;obtain⟨cc,dd⟩:∃x,x=f.rows:=⟨_,rfl⟩;obtain⟨ci,df⟩:∃x,x=f.block.length:=⟨_,rfl⟩;obtain⟨cj,dp⟩:∃x,x=f.index.at_:=⟨_,rfl⟩;obtain⟨ck,dr⟩:∃x,x=f.index.frames:=⟨_,rfl⟩;obtain⟨cn,ds⟩:∃x,x=f.index.rows:=⟨_,rfl⟩;obtain⟨b7,c7⟩:∃x,x=f.index.entries.length:=⟨_,rfl⟩;rw[<-c6,<-L,<-dv,<-c8,<-c9,<-dd,<-df,<-dp,<-dr,<-ds,<-c7] at bk ⊢;obtain⟨O,bq⟩:∃O,O=w2.alloc (.cells #[.int .i64 b5,.int .i64 b6,.slice sp b8 ea,.int .i64 b9,.int .i64 cb,.int .i64 cc,.slice cp ci co,.int .i64 cj,.int .i64 ck,.int .i64 cn,.slice cs b7 cq] 47):=⟨_,rfl⟩;have I:Below w2.1.size w2 O:=(by rw[bq];exact xV);have b4:Hid (w2.alloc (.cells #[.int .i64 b5,.int .i64 b6,.slice sp b8 ea,.int .i64 b9,.int .i64 cb,.int .i64 cc,.slice cp ci co,.int .i64 cj,.int .i64 ck,.int .i64 cn,.slice cs b7 cq] 47)=O):=bq.symm;have bn:=a3.on I;have d6:Hv O:=b1.out.on ((E.below cw (fun i J eC=>by omega)).trans (I.mono (by have:=E.size;omega))) bd;have bb:=xX (vq bn f d8 _ (bk.on I) (X.at_:Nat) d6 (by omega) (by have:=E.size;have:=I.size;omega));have b2:=xX bn;have bT:=xX (a1.below I)
   have bO:Hid (Aside (fun i=>i=g) w O):=E.trans (ae I (fun i=>i=g)) (fun _ _ h=>h);obtain⟨V,a2⟩:∃V,V=Sc.may X.wk f (X.at_:Nat):=⟨_,rfl⟩;rw[<-a2] at bb;have Y:Hid (Sc.step s.b X=if V=true then .ok ⟨m,Sc.take X.wk f (X.at_:Nat),X.read+Sc.reads s.b (X.at_:Nat)⟩ else .error 143):=(by rw[a2];exact U.out);have ah:Hid (Sc.next X.wk f (X.at_:Nat)=if V=true then Sc.take X.wk f (X.at_:Nat) else X.wk):=(by rw[a2];exact rfl);have fx:(m:Int)<=2097152:=(by omega);clear bl bk a3 a1 E has bn d6 I bq a2 U W HOk a6 aj D c6 L dv c8 c9 dd df dp dr ds c7 d8;go_wp2_with fail;rw[b4.out];refine bb.out.mono ?_;rintro e w4 ⟨rfl,e3,ew,d3,cy,e2⟩;obtain⟨d1,c5⟩:=WhI.after bT.out b2.out bO.out cy bX.out eS;have R:=xX d3;have a8:=xX d1;have a7:=xX c5;clear d3 cy e2 d1 c5 bb b2 bT bO b4;cases V with
   |false=>
    have K:Hid (Sc.step s.b X=.error 143):=Y.out;have Z:Hid (Sc.next X.wk f (X.at_:Nat)=X.wk):=ah.out;rw[Z.out] at R;clear Y ah;go_wp2
    go_ret3
    exact⟨j,X,143,e3,ew,a9.out,K.out,rfl,R.out,a8.out,a7.out⟩
   |true=>
    have K:=xX (Sc.goes_succ a9.out Y.out);have Z:Hid (Sc.next X.wk f (X.at_:Nat)=Sc.take X.wk f (X.at_:Nat)):=ah.out;rw[Z.out] at R;have en:Hid (WhI w w4 B g x k v s G (j+1) ⟨m,Sc.take X.wk f (X.at_:Nat),X.read+Sc.reads s.b (X.at_:Nat)⟩):=⟨by rw[<-Nat.add_assoc];exact a8.out,⟨_,_,R.out⟩,a7.out,K.out⟩;clear Y ah R a8 a7 K Z;go_wp2;go_roundw;case rel=>exact⟨j+1,_,rfl,en⟩
    case measure=>simp[intOf];omega
end
end
section
open Go.RowKit Go.Maps
def xH(o:Option Kn)(w:World)(e:Ending)(w':World):Prop:=match o with
 |none=>e=.returned (.tuple #[.agg #[.slice none 0 0],.bool false])
 |some k=>∃q cap,e=.returned (.tuple #[.agg #[.slice q k.cols.length cap],.bool true])∧cS w' w.1.size #[.slice q k.cols.length cap] k.cols
theorem uI{s:List Col}(h:∀c∈s,c.fix=c∧c.wf):s.map Col.fix=s:=by
 conv=>rhs;rw[<-List.map_id s]
 exact List.map_congr_left fun c o=>(h c o).1
theorem oX{w:World}{g:Int->Option Value}{s:Wk}{G:Nat->Prop}(h:ax w B a M n v g s G)(m:Int)(bk:Fr.i64 m):Calls Tryz.prog 15 #[.pointer (some ⟨a,0,none⟩),.int .i64 m] w fun e w'=>xH (s.sch m) w e w'∧Below w.1.size w w':=by
 obtain⟨y,z⟩:∃y,y=w.alloc (.cells #[.slice none 0 0] 41):=⟨_,rfl⟩;have K:Below w.1.size w y:=by rw[z];exact xV
 have A:y.1[w.1.size]?=some (.cells #[.slice none 0 0] 41):=by rw[z];exact ag w _
 have O:=h.on K;have c0:∀o,(w.alloc o).cell? ⟨a,0,none⟩=some (.map (some M)):=fun o=>ac (xY.alloc xZ o) (h.cell 0);have ah:y.1.size=w.1.size+1:=by rw[z];simp
 have E:=O.map.look_ok bk;cases hs:s.sch m with
 |none=>
  rw[h.unknown hs] at E;simp only[Option.getD_none,Option.isSome_none,eX] at E;rw[z] at E;have a7:Hid (∀o,Below w.1.size w ((w.alloc (.cells #[.slice none 0 0] 41)).alloc o)):=fun o=>xV.alloc (by simp) _;have X:Hid (∀o,((w.alloc (.cells #[.slice none 0 0] 41)).alloc o).1[w.1.size]?=some (.cells #[.slice none 0 0] 41)):=fun o=>by
   have a4:=(aG y o (az A)).trans A;rw[z] at a4;exact a4
  have bN:∀o,((w.alloc (.cells #[.slice none 0 0] 41)).alloc o).cell? ⟨w.1.size,0,none⟩=some (.slice none 0 0):=fun o=>by have:=aa ((aG y o (az A)).trans A) 0;rw[z] at this;exact this
  have bO:∀o,((w.alloc (.cells #[.slice none 0 0] 41)).alloc o).frozen? ⟨w.1.size,0,none⟩=false:=fun o=>by have:=ab ((aG y o (az A)).trans A) 0;rw[z] at this;exact this
  clear h O hs z K A ah;go_enter Tryz.func15,Tryz.ntmps15;go_wp2;refine bodyPost_ret (ap rfl _ _ w.1.size _ _ _ _ rfl (X.out _) Tryz.underlying41 rfl (by kernel_rfl)) rfl ?_;exact⟨rfl,a7.out _⟩
 |some k=>
  obtain⟨p,c,a1,a2,be,a3⟩:=O.known hs;obtain⟨-,a6,aj,-⟩:=h.good.known m k hs;rw[a1] at E;simp only[Option.getD_some,Option.isSome_some] at E;rw[z] at E;obtain⟨J,R⟩:∃J,J=y.alloc (.cells #[.slice p k.cols.length c,.int .i64 k.place] 93):=⟨_,rfl⟩;have U:Below y.1.size y J:=by rw[R];exact xV
  have L:=xX (pi k.cols p c J a2 (a3.on U) a6 (fun x bl=>(aj x bl).2));rw[uI aj] at L;have a0:Hid ((w.alloc (.cells #[.slice none 0 0] 41)).alloc (.cells #[.slice p k.cols.length c,.int .i64 k.place] 93)=J):=by rw[R,z];exact rfl
  have ak:=xX (K.trans (U.mono K.size));have X:=xX ((U.block _ (az A)).trans A);have bp:J.1.size=w.1.size+2:=by rw[R];simp[ah]
  obtain⟨D,Z⟩:∃D,D=k.cols.length:=⟨_,rfl⟩;rw[<-Z] at L a0 E;have bb:=xX Z;clear h O hs z K A R U a1 a2 be a3 a6 aj ah Z;go_enter Tryz.func15,Tryz.ntmps15;go_wp2_with fail;rw[a0.out];refine L.out.mono ?_;rintro e I ⟨q,cap,rfl,a5,V⟩;have W:=(V.block _ (by omega)).trans X.out;have bq:I.cell? ⟨w.1.size,0,none⟩=some (.slice none 0 0):=aa W 0;have bs:=ab W 0;have Y:Aside (fun i=>i=w.1.size) I (I.setCell ⟨w.1.size,0,none⟩ (.slice q D cap)):=(Aside.refl (fun i=>i=w.1.size) I).setCell (p:=⟨w.1.size,0,none⟩) (.inl rfl) _;have bc:Hid (cS (I.setCell ⟨w.1.size,0,none⟩ (.slice q D cap)) w.1.size #[.slice q D cap] k.cols):=fp (a5.beside Y (fun i bj=>by omega)) (by omega);have a8:Hid (Below w.1.size w (I.setCell ⟨w.1.size,0,none⟩ (.slice q D cap))):=(ak.out.trans (V.mono ak.out.size)).trans (Y.below (by have:=V.size;omega) (fun i bj bn=>by omega));have a9:Hid ((I.setCell ⟨w.1.size,0,none⟩ (.slice q D cap)).1[w.1.size]?=some (.cells #[.slice q D cap] 41)):=by
   show _=_;simp only[World.setCell,Array.getElem?_modify,W,if_true,Option.map_some];rfl
  clear a5 V W Y L;go_wp2;refine bodyPost_ret (ap rfl _ _ w.1.size _ _ _ _ rfl a9.out Tryz.underlying41 rfl (by kernel_rfl)) rfl ?_;have bd:=bb.out;subst bd;exact⟨⟨q,cap,rfl,bc.out⟩,a8.out⟩
end
end Go.Proofs.YtdkammppnkhhoaaGreatDoor
