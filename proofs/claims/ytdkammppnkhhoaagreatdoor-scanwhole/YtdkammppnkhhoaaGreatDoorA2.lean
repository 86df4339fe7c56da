import Derived.Test.YtdkammppnkhhoaaGreatDoorA1
import Derived.Test.YtdkammppnkhhoaaGreatDoorB51
import Derived.Test.YtdkammppnkhhoaaGreatDoorA3
set_option maxRecDepth 100000
set_option maxHeartbeats 8000000
namespace Go.Proofs.YtdkammppnkhhoaaGreatDoor
variable{B c n z:Nat}{w w':World}{p q:OA}
section
open Go.RowKit
theorem oE{b:L8}{p:Int}{f:Fr}(h:Sc.at_ b p=.ok (f,n)):f.block.length<=1048576:=by
 unfold Sc.at_ at h;split at h
 ·cases h
 ·split at h
  ·cases h
  ·split at h
   ·cases h
   ·next r hr=>
    split at h
    ·cases h
    ·next g hg=>
     injection h with h;injection h with h3 h4;subst h3;obtain⟨A,L,D,O,R⟩:=Fr.dec_ok hg;have J:=(Fr.err_open A).2;have K:=(Cob.stuff_length (Fr.check (Fr.head g))).1;rw[Fr.check_length] at K;have E:g.kind≠2->g.block=[]:=fun o=>by
      rw[<-D];unfold Fr.norm;by_cases y:g.kind=1
      ·rw[if_pos y];rfl
      ·rw[if_neg y,if_neg o];rfl
     have I:g.kind=2->g.block.length<=(Fr.head g).length:=fun o=>by
      unfold Fr.head Fr.fields;rw[if_neg (by omega),if_pos o,List.length_cons,List.length_append];omega
     unfold Fr.run at J;by_cases o:g.kind=2
     ·have:=I o;omega
     ·rw[E o];simp
section
variable {w:World} {B g:Nat} {v:Value} {s:Dv.St}
theorem rM(F:Nat->Prop)(w:World):Calls Tryz.prog 30 #[] w fun e w'=>e=.returned (.pointer (some ⟨w.1.size,0,none⟩))∧ba w' w.1.size Rw.new F∧Below w.1.size w w'∧w'.1.size=w.1.size+1:=by
 have D:=xX (ag w (.cells #[.slice none 0 0,.int .i64 0,.int .i64 0,.slice none 0 0,.slice none 0 0] 111));have A:Hid (Below w.1.size w (w.alloc (.cells #[.slice none 0 0,.int .i64 0,.int .i64 0,.slice none 0 0,.slice none 0 0] 111))):=xV;go_enter Tryz.func30,Tryz.ntmps30;go_wp2;go_ret;refine⟨rfl,⟨⟨none,0,none,0,none,0,[],[],D.out,rfl,rfl,fun w' _=>⟨⟨fun z y=>(by cases y),fun j o=>(by cases o)⟩,fW _ _,fun z y=>(by cases y),fun j o=>(by cases o)⟩,by decide,xZ⟩,⟨by decide,by decide,by decide,by decide,fun q E=>(by cases E)⟩⟩,A.out,by simp⟩
structure WhR(w wr:World)(B g:Nat)(v:Value)(s:Dv.St)(j:Nat)(X:Sc.Pos):Prop where
 dev:aZ wr B g v { s with told:=s.told+X.read }
 walk:∃x,ba wr w.1.size x (fun i=>i=g)∧Rw.Twin X.wk x∧x.l.length<=j
 aside:Aside (fun i=>i=g) w wr
 goes:Sc.goes s.b j=some X
theorem nl(h:aZ w B g v s)(hd:s.down=false)(ep:s.b.length<=2097152)(fi:s.told<=1000000000000):
  Calls Tryz.prog 7 #[.pointer (some ⟨g,0,none⟩)] w fun e w'=>∃j X A x,Sc.goes s.b j=some X∧Sc.step s.b X=.error A∧e=.returned (.tuple #[.pointer (some ⟨w.1.size,0,none⟩),.int .i64 (X.at_:Nat),.int .i64 (A:Nat)])∧ba w' w.1.size x (fun i=>i=g)∧Rw.Twin X.wk x∧aZ w' B g v { s with told:=s.told+X.read+Sc.reads s.b X.at_ }∧Aside (fun i=>i=g) w w':=by
 have bd:=xX (rE h);rw[hd] at bd;have bO:=xX (rM (fun i=>i=g) w);have bN:=xX h;have e3:=h.lt;have c6:=xX hd;have df:Hid (∀i,v.ownBlock=some i->i<w.1.size):=fun i a1=>(h.has.lt i a1).2;clear h hd;go_enter Tryz.func7,Tryz.ntmps7;go_wp2_with fail;refine bd.out.mono ?_;rintro e w' ⟨rfl,cw⟩;rw[cw];clear cw w' bd;go_wp2_with fail;refine bO.out.mono ?_;rintro e w1 ⟨rfl,cq,K,er⟩;have c8:Hid (WhR w w1 B g v s 0 Sc.begin_):=⟨bN.out.below K,⟨_,cq,Rw.twin_new,xZ⟩,ae K _,rfl⟩;clear cq K er bO bN;go_wp2_with fail;go_loopw [7] (fun bn wr=>∃j X,bn=.int .i64 (X.at_:Nat)∧Hid (WhR w wr B g v s j X)) (fun bn _=>s.b.length-(intOf bn).toNat);case atStart=>exact⟨0,Sc.begin_,rfl,c8⟩
 case round=>
  obtain⟨j,X,rfl,I⟩:=hrel;obtain⟨cp,e1,e0,e7⟩:=Sc.goes_good I.out.goes;obtain⟨x,cy,ct,fr⟩:=I.out.walk;have bX:=uh I.out.dev c6.out ep (by show s.told+X.read+s.b.length<=_;omega) (X.at_:Nat)
  have O:Hid (Sc.step s.b X=match Sc.at_ s.b (X.at_:Nat) with
   |.error e=>.error e
   |.ok (f,n)=>if Sc.may X.wk f (X.at_:Nat)=true then .ok ⟨n,Sc.take X.wk f (X.at_:Nat),X.read+Sc.reads s.b (X.at_:Nat)⟩ else .error 143):=rfl
  have U:Hid (∀f n,Sc.at_ s.b (X.at_:Nat)=.ok (f,n)->f.wf∧n<=s.b.length∧X.at_<n∧f.block.length<=1048576):=fun f n ak=>by
   obtain⟨ew,ez,eC,dr,ds,dv,eL⟩:=Sc.at_ok ak;exact⟨dr,dv,by rw[ds];omega,oE ak⟩
  have R:Hid (∀A,Sc.at_ s.b (X.at_:Nat)=.error A->A≠0):=fun A ak=>pj ak;obtain⟨r,bj⟩:∃r,r=Sc.at_ s.b (X.at_:Nat):=⟨_,rfl⟩;rw[<-bj] at O U R;have b0:Calls Tryz.prog 31 #[.pointer (some ⟨g,0,none⟩),.int .i64 (X.at_:Nat)] wr fun e w'=>AtA r wr e w'∧aZ w' B g v { s with told:=s.told+X.read+Sc.reads s.b (X.at_:Nat) }∧Aside (fun k=>k=g) wr w':=by rw[bj];exact bX
  have a6:=xX b0;have HWk:=xX cy;have W:=xX ct;have bs:=xX cp;have e2:(X.at_:Int)<=2097152:=by omega
  have Y:¬w.1.size=g:=by omega
  clear bX b0 bj cy cp ct;go_wp2_with fail;refine a6.out.mono ?_;rintro e D ⟨Z,aj,has⟩;have a3:ba D w.1.size x (fun i=>i=g):=HWk.out.aside has Y (fun k E=>.inl E);have ah:Aside (fun i=>i=g) w D:=I.out.aside.trans has (fun _ _ h=>h);have a9:=xX I.out.goes;have fo:=HWk.out.lt;cases r with
  |error A=>
   replace Z:e=.returned (.tuple #[.agg #[.int .i64 0,.int .i64 0,.slice none 0 0,.int .i64 0,.int .i64 0,.int .i64 0,.slice none 0 0,.int .i64 0,.int .i64 0,.int .i64 0,.slice none 0 0],.int .i64 0,.int .i64 (A:Nat)]):=Z
   subst Z;have eq:=R.out A rfl;have eS:((A:Int)==0)=false:=(by rw[beq_eq_false_iff_ne];omega);have eU:((A:Int) != 0)=true:=(by rw[bne_iff_ne];omega);have J:Hid (Sc.step s.b X=.error A):=O.out;have dp:=xX a3;have c7:=xX aj;have c5:=xX ah;clear a3 aj ah has eq R U O a6 HWk I;go_wp2
   go_ret3
   have cj:∀o,Below D.1.size D (D.alloc o):=fun o=>xY.alloc xZ o;exact⟨j,X,A,x,a9.out,J.out,rfl,dp.out.on (cj _) Y,W.out,c7.out.below (cj _),c5.out.alloc _⟩
  |ok y=>
   obtain⟨f,m⟩:=y;obtain⟨u,rfl,a0⟩:∃u,e=.returned (.tuple #[.agg u,.int .i64 (m:Nat),.int .i64 0])∧cT D wr.1.size u f:=Z;obtain⟨cx,e5,e6,ci⟩:=U.out f m rfl;obtain⟨sp,eu,ec,eb,em,el,cv,-⟩:=a0.out;unfold aB at cv;subst cv;obtain⟨d0,b2⟩:∃x,x=f.kind:=⟨_,rfl⟩;obtain⟨d1,K⟩:∃x,x=f.number:=⟨_,rfl⟩;obtain⟨d3,cc⟩:∃x,x=f.cols.length:=⟨_,rfl⟩;obtain⟨d4,b4⟩:∃x,x=f.seq:=⟨_,rfl⟩;obtain⟨d5,b5⟩:∃x,x=f.first:=⟨_,rfl⟩;obtain⟨d6,b6⟩:∃x,x=f.rows:=⟨_,rfl⟩;obtain⟨d7,b7⟩:∃x,x=f.block.length:=⟨_,rfl⟩;obtain⟨d8,b8⟩:∃x,x=f.index.at_:=⟨_,rfl⟩;obtain⟨d9,b9⟩:∃x,x=f.index.frames:=⟨_,rfl⟩;obtain⟨ea,cb⟩:∃x,x=f.index.rows:=⟨_,rfl⟩;obtain⟨d2,b3⟩:∃x,x=f.index.entries.length:=⟨_,rfl⟩;rw[<-b2,<-K,<-cc,<-b4,<-b5,<-b6,<-b7,<-b8,<-b9,<-cb,<-b3] at a0 ⊢;obtain⟨a5,bk⟩:∃a5,a5=D.alloc (.cells #[.int .i64 d0,.int .i64 d1,.slice sp d3 eu,.int .i64 d4,.int .i64 d5,.int .i64 d6,.slice ec d7 eb,.int .i64 d8,.int .i64 d9,.int .i64 ea,.slice em d2 el] 47):=⟨_,rfl⟩;have L:Below D.1.size D a5:=(by rw[bk];exact xV);have bT:=xX bk.symm;have e9:=L.size;have e8:=has.size;have co:=a0.beside14 (ae L (fun _=>False)) (fun k E=>absurd E id);have bc:=xX (pK (a3.on L Y) Y (fun k E=>by omega) W.out bs.out f cx ci _ (fun w' en=>(co.beside14 en (fun k E=>by rcases E with E | E <;> omega)).lies) (X.at_:Nat) (by omega));have bq:=xX (aj.below L);have bp:Hid (Aside (fun i=>i=g) w a5):=ah.trans (ae L (fun i=>i=g)) (fun _ _ h=>h);obtain⟨a4,a2⟩:∃a4,a4=Sc.may X.wk f (X.at_:Nat):=⟨_,rfl⟩;rw[<-a2] at bc
   have V:Hid (Sc.step s.b X=if a4=true then .ok ⟨m,Sc.take X.wk f (X.at_:Nat),X.read+Sc.reads s.b (X.at_:Nat)⟩ else .error 143):=(by rw[a2];exact O.out);have dd:=xX a2.symm;have e4:(m:Int)<=2097152:=(by omega);clear a0 co a3 aj ah has L bk a2 O R U a6 HWk I b2 K cc b4 b5 b6 b7 b8 b9 cb b3 cx ci;go_wp2_with fail;rw[bT.out];refine bc.out.mono ?_;rintro e w4 ⟨rfl,cs,be⟩;have cn:=bq.out.aside be (fun ck=>by omega) (fun i a1 ck=>by have:=df.out i a1;omega);have b1:Aside (fun i=>i=g) w w4:=bp.out.trans be (fun i a1 ck=>by omega);have bb:=xX cs;have a8:=xX cn;have a7:=xX b1;clear cs be cn b1 bc bq bp bT;cases a4 with
   |false=>
    have J:Hid (Sc.step s.b X=.error 143):=V.out;clear V;go_wp2
    go_ret3
    exact⟨j,X,143,x,a9.out,J.out,rfl,bb.out,W.out,a8.out,a7.out⟩
   |true=>
    have J:=xX (Sc.goes_succ a9.out V.out);have c9:Hid (WhR w w4 B g v s (j+1) ⟨m,Sc.take X.wk f (X.at_:Nat),X.read+Sc.reads s.b (X.at_:Nat)⟩):=⟨by rw[<-Nat.add_assoc];exact a8.out,⟨_,bb.out,W.out.push bs.out dd.out,by simp[Rw.push];omega⟩,a7.out,J.out⟩;clear V bb a8 a7 J;go_wp2;go_roundw;case rel=>exact⟨j+1,_,rfl,c9⟩
    case measure=>simp[intOf];omega
end
end
section
open Go.RowKit
def wR:Prop:=∀(w:World),Hv w->Calls Tryz.prog 4 #[] w fun e w'=>e=.returned (.bool true)∧Below w.1.size w w'
def gH(w:World)(p:OA)(l:List Int):Prop:=∀i (hi:i<l.length),∃b o,p=some ⟨b,o,none⟩∧b<w.1.size∧w.cell? ⟨b,o+i,none⟩=some (.int .i64 l[i])
theorem gH.on{l:List Int}(h:gH w p l)(hb:Below w.1.size w w'):gH w' p l:=fun i D=>by
 obtain⟨b,E,o,y,A⟩:=h i D;exact⟨b,E,o,Nat.lt_of_lt_of_le y hb.size,ac hb A⟩
theorem qW{v:Value}{xs l:List Int}(D:dx w B v xs)(h:gH w p l)(bd:xs.length+l.length<=100)(O:B<=w.1.size){ops:Array Oper}{rest:List Oper}{o:Oper}{a:Act}{Q:Exit->Act->World->Prop}{y x:Operand}(ak:o.type=67)(V:o.guard=none)(Z:o.op=Op.call { callee:=Callee.builtin Builtin.append,args:=#[y,x],argTypes:=#[67,67] })(aj:a.eval y=v)(a0:a.eval x=.slice p l.length c)(R:∀I q cap W,Hid (I=xs++l)->dx W B (.slice q I.length cap) I->Below B w W->wpList Tryz.prog ops Q rest (a.put o.dst (.slice q I.length cap)) W):
  wpList Tryz.prog ops Q (o::rest) a w:=by
 obtain⟨i,X,bb,a9,a2⟩:=info_parts vw;by_cases L:l=[]
 ·subst L;obtain⟨q,cap,rfl,a4,-⟩:=D.ints;have E:bJ Tryz.prog 67 67 o.type (.slice q xs.length cap) (.slice p 0 c) w (.slice q xs.length cap) w:=by
   rw[ak];refine⟨run_append_nothing (P:=Tryz.prog) w 67 67 67 2 i Tryz.underlying67 X q xs.length cap a4 (.slice p 0 c) ?_⟩;cases p with
   |none=>exact Src.ofNil w Tryz.underlying67 c
   |some a=>exact Src.ofSlice w Tryz.underlying67 a 0 c [] (by simp) (fun j u hj=>by simp at hj) (fun u J=>by cases J)
  exact aF E V Z aj a0 (R xs q cap w (by show xs=xs++[];simp) D xY)
 ·have ah:0<l.length:=List.length_pos_iff.2 L;obtain⟨b,K,rfl,-⟩:=h 0 ah;have a5:∀j u,(l.map fun n=>Value.int .i64 n)[j]?=some u->w.cell? (Addr.add ⟨b,K,none⟩ j)=some u:=fun j u hj=>by
   rw[List.getElem?_map] at hj;obtain⟨m,A,rfl⟩:=Option.map_eq_some_iff.1 hj;obtain⟨a7,rfl⟩:=List.getElem?_eq_some_iff.1 A;obtain⟨bc,be,U,-,Y⟩:=h j a7;simp only[Option.some.injEq,Addr.mk.injEq,and_true] at U;obtain⟨rfl,rfl⟩:=U;rw[Lib.add_plain];exact Y
  obtain⟨g,cap,W,E,A,a6,-,-⟩:=run_append_lies (P:=Tryz.prog) w 67 67 B 2 i (.int .i64 0) 1 8 Tryz.underlying67 X bb a9 a2 rfl (by decide) v xs.length _ D ⟨b,K,none⟩ l.length c _ (by simp) a5 (fun u J=>by obtain⟨_,_,rfl⟩:=List.mem_map.1 J;rfl) ah (by unfold maxLen;omega) (by omega) O w.1.size rfl;rw[<-List.map_append,<-List.length_append] at A;rw[<-List.length_append] at E;have a8:bJ Tryz.prog 67 67 o.type v (.slice (some ⟨b,K,none⟩) l.length c) w (.slice (some ⟨g,0,none⟩) (xs++l).length cap) W:=by rw[ak];exact⟨E⟩
  exact aF a8 V Z aj a0 (R _ _ cap W (xX rfl) A ((cz a6).below O fun k Y a3=>by have:=(D.lt k a3).1;omega))
theorem dx.nums{l:List Int}(h:dx w B (.slice q n c) l):gH w q l:=fun i y=>by
 obtain⟨p,I,A,-,o⟩:=h.ints;injection A with A _ _;rcases o with o | ⟨g,o,-,D,E⟩
 ·rw[o] at y;simp at y
 ·exact⟨g,0,A.trans o,D,by rw[Nat.zero_add];exact E i y⟩
def pk(w:World)(p:Addr):Prop:=(∃v,w.cell? p=some v)∧w.frozen? p=false
theorem pk.set{p:Addr}(h:pk w p)(q:Addr)(u:Value):pk (w.setCell q u) p:=by
 obtain⟨⟨v,o⟩,y⟩:=h;refine⟨?_,by rw[World.frozen?_setCell];exact y⟩;by_cases e:q=p
 ·subst e;exact⟨u,World.cell?_setCell_same (h:=o) ..⟩
 ·exact⟨v,by rw[World.cell?_setCell_other (h:=by first | exact e | exact fun A=>e A.symm)];exact o⟩
def dQ(w:World)(B:Nat)(q:OA)(n z:Nat):Prop:=∀i,i<n->∃g,q=some ⟨g,0,none⟩∧B<=g∧g<w.1.size∧∀m,m<z->pk w ⟨g,i*z+m,none⟩
theorem dQ.set(h:dQ w B q n z)(p:Addr)(u:Value):dQ (w.setCell p u) B q n z:=fun i E=>by
 obtain⟨g,o,y,A,D⟩:=h i E;exact⟨g,o,y,by simpa[World.setCell] using A,fun m I=>(D m I).set _ _⟩
theorem dQ.on(h:dQ w B q n z)(hb:Below w.1.size w w'):dQ w' B q n z:=fun i J=>by
 obtain⟨g,y,A,o,D⟩:=h i J;refine⟨g,y,A,Nat.lt_of_lt_of_le o hb.size,fun m K=>?_⟩;obtain⟨⟨v,E⟩,I⟩:=D m K;exact⟨⟨v,ac hb E⟩,by rw[World.frozen?_of_block (a:=⟨g,i*z+m,none⟩) (hb.block g o)];exact I⟩
theorem lR{e:TypeId}{k cap:Nat}{xs:List Value}(h:w.ownsRow B e z (.slice q k cap) n xs):n<=cap∧cap<=maxLen∧dQ w B q cap z:=by
 rcases h.2 with ⟨o,y⟩ | ⟨g,O,A,E,o,y,I,J,K,-⟩
 ·injection o with _ _ o;subst o y;exact⟨xZ,by decide,fun i D=>by omega⟩
 ·injection E with h7 _ h8;subst h7 h8;refine⟨I,J,fun i D=>⟨g,rfl,o,(Array.getElem?_eq_some_iff.1 y).1,fun m R=>⟨?_,by simp[World.frozen?,y]⟩⟩⟩;have L:i*z+m<A.size:=by
   rw[K];have:(i+1)*z<=cap*z:=Nat.mul_le_mul_right _ D;rw[Nat.add_mul,Nat.one_mul] at this;omega
  exact⟨A[i*z+m],by simp[World.cell?,y,L]⟩
theorem dE(h:Below B w w'){g m:Nat}(y:B<=g)(u:Value):Below B w (w'.setCell ⟨g,m,none⟩ u):=by
 refine⟨h.os,h.tape,h.output,by simpa[World.setCell] using h.size,fun k o=>?_⟩;rw[Below.heap_setCell _ _ _ _ (by show k≠g;omega)];exact h.block k o
theorem rv{s:Wk}{x:Rw}(R:Rw.Twin s x)(m:Int):∃(C A:List Col) (is:Bool) (pl:Int),Sch.same C A=true∧(∀w e w',xH (s.sch m) w e w'->∃q cap,e=.returned (.tuple #[.agg #[.slice q C.length cap],.bool is])∧C.length*120<=140737488351232∧bw w' q C∧dQ w' w.1.size q C.length 9)∧(∀w' e,tF w' (x.schema m) e->∃q cap,e=.returned (.tuple #[.agg #[.slice q A.length cap],.bool is])∧bw w' q A)∧(Sc.placeAt s m=pl∧(s.sch m).isSome=is)∧x.place m=(pl,is):=by
 have h:=R.sch m;unfold Sc.placeAt;cases hk:s.sch m with
 |none=>
  rw[hk] at h;rw[h.1];refine⟨[],[],false,0,rfl,fun w e w' o=>⟨none,0,o,by simp,fun j D=>(by simp at D),fun i E=>(by simp at E)⟩,fun w' e o=>⟨none,0,o,fun j D=>(by simp at D)⟩,⟨rfl,rfl⟩,h.2⟩
 |some k=>
  rw[hk] at h;obtain⟨q,W,X,Y⟩:=h;rw[W];refine⟨k.cols,q.1.cols,true,k.place,?_,fun w e w' o=>?_,fun w' e o=>?_,⟨rfl,rfl⟩,Y⟩
  ·rw[Sch.same_fix,X,List.map_map];exact List.map_congr_left fun c _=>Fr.col_fix_idem c
  ·obtain⟨p,c,o,O⟩:=o;obtain⟨v,us,Z,y,hb,I⟩:=O.out;have U:v=.slice p k.cols.length c:=(by injection y with y;injection y with y;exact y.symm);subst U;obtain⟨p2,c2,V,-,L⟩:=hb.cols I;injection V with i1 _ _;subst i1;obtain⟨ah,-,J⟩:=lR hb.row;exact⟨p,c,o,I,L,fun i E=>J i (by omega)⟩
  ·obtain⟨p,c,o,-,-,K⟩:=o;exact⟨p,c,o,K⟩
section
variable {w:World} {B a M n b:Nat} {v:Value} {g:Int->Option Value} {s:Wk} {G F:Nat->Prop} {x:Rw}
theorem vF(R:ax w B a M n v g s G)(a0:ba w b x F)(Y:¬F b)(a1:Rw.Twin s x)(p:OA)(c:Nat)(cx:List Int)(ix:cx.length<=2)(bs:∀m∈cx,Fr.i64 m)(gt:gH w p cx):
    Calls Tryz.prog 8 #[.pointer (some ⟨a,0,none⟩),.pointer (some ⟨b,0,none⟩),.slice p cx.length c] w fun e w'=>e=.returned (.bool true)∧Below w.1.size w w':=by
  have fr:=xX R;have fy:=xX a0;have ht:=xX a1;have fv:=xX gt;have fi:=xX bs;have dr:=xX (mu R);obtain⟨gh,eq⟩:∃y,y=s.frames:=⟨_,rfl⟩;obtain⟨ro,ew⟩:∃y,y=s.rows:=⟨_,rfl⟩;obtain⟨K,cw⟩:∃y,y=s.number:=⟨_,rfl⟩;obtain⟨hm,eL⟩:∃y,y=s.since:=⟨_,rfl⟩;obtain⟨cl,ct⟩:∃y,y=s.closed:=⟨_,rfl⟩;have hv:Hid (∀w',Below w.1.size w w'->Calls Tryz.prog 20 #[.pointer (some ⟨a,0,none⟩)] w' fun e o=>e=.returned (.int .i64 gh)∧o=w'):=fun w' hb=>by rw[eq];exact o0 (R.on hb)
  have hw:Hid (∀w',Below w.1.size w w'->Calls Tryz.prog 21 #[.pointer (some ⟨a,0,none⟩)] w' fun e o=>e=.returned (.int .i64 ro)∧o=w'):=fun w' hb=>by rw[ew];exact vo (R.on hb)
  have hx:Hid (∀w',Below w.1.size w w'->Calls Tryz.prog 22 #[.pointer (some ⟨a,0,none⟩)] w' fun e o=>e=.returned (.int .i64 K)∧o=w'):=fun w' hb=>by rw[cw];exact oY (R.on hb)
  have hy:Hid (∀w',Below w.1.size w w'->Calls Tryz.prog 23 #[.pointer (some ⟨a,0,none⟩)] w' fun e o=>e=.returned (.int .i64 hm)∧o=w'):=fun w' hb=>by rw[eL];exact sL (R.on hb)
  have hz:Hid (∀w',Below w.1.size w w'->Calls Tryz.prog 37 #[.pointer (some ⟨a,0,none⟩)] w' fun e o=>e=.returned (.bool cl)∧o=w'):=fun w' hb=>by rw[ct];exact uF (R.on hb)
  have hA:Hid (∀w',Below w.1.size w w'->Calls Tryz.prog 33 #[.pointer (some ⟨b,0,none⟩)] w' fun e o=>e=.returned (.int .i64 gh)∧Below w'.1.size w' o):=fun w' hb=>(eA (a0.on hb Y)).mono fun e o ⟨L,q2⟩=>⟨by rw[eq,<-a1.frames];exact L,q2⟩;have hB:Hid (∀w',Below w.1.size w w'->Calls Tryz.prog 34 #[.pointer (some ⟨b,0,none⟩)] w' fun e o=>e=.returned (.int .i64 ro)∧Below w'.1.size w' o):=fun w' hb=>(gC (a0.on hb Y)).mono fun e o ⟨L,q2⟩=>⟨by rw[ew,<-a1.rows];exact L,q2⟩;have d9:Hid (∀w',Below w.1.size w w'->Calls Tryz.prog 35 #[.pointer (some ⟨b,0,none⟩)] w' fun e o=>e=.returned (.int .i64 K)∧Below w'.1.size w' o):=fun w' hb=>(cW (a0.on hb Y)).mono fun e o ⟨L,q2⟩=>⟨by rw[cw,<-a1.number];exact L,q2⟩;have hC:Hid (∀w',Below w.1.size w w'->Calls Tryz.prog 36 #[.pointer (some ⟨b,0,none⟩)] w' fun e o=>e=.returned (.int .i64 hm)∧Below w'.1.size w' o):=fun w' hb=>(nt (a0.on hb Y)).mono fun e o ⟨L,q2⟩=>⟨by rw[eL,<-a1.sinceEq];exact L,q2⟩;have hD:Hid (∀w',Below w.1.size w w'->Calls Tryz.prog 38 #[.pointer (some ⟨b,0,none⟩)] w' fun e o=>e=.returned (.bool cl)∧Below w'.1.size w' o):=fun w' hb=>(l6 (a0.on hb Y)).mono fun e o ⟨L,m,q2⟩=>⟨by rw[ct,<-a1.closed];exact L,by rw[q2];exact below_drewN xY m⟩;have hR:=R.good.number;rw[<-cw] at hR;obtain⟨I,co⟩:∃I,I=s.ents:=⟨_,rfl⟩;have hE:Hid (∀w',Below w.1.size w w'->Calls Tryz.prog 40 #[.pointer (some ⟨b,0,none⟩)] w' fun e o=>∃q cap,e=.returned (.slice q I.length cap)∧di o q I∧Below w'.1.size w' o):=fun w' hb=>(fJ (a0.on hb Y)).mono fun e o ⟨q,cap,L,q2,hX⟩=>by
    rw[a1.entsEq,<-co] at L q2;obtain⟨p2,c2,eS,-,hN,-⟩:=q2.ents;injection eS with i1 _ _;subst i1;exact⟨q,cap,L,hN,hX⟩
  rw[<-co] at dr;have gs:=R.good.ents;rw[<-co] at gs;have hF:Hid (∀w' q cap q2 a5,di w' q I->di w' q2 I->Calls Tryz.prog 39 #[.slice q I.length cap,.slice q2 I.length a5] w' fun e o=>e=.returned (.bool true)∧∃m,o=w'.drewN m):=fun w' q cap q2 a5 X ec=>by
    have gm:=fc q q2 cap a5 I I gs w' X ec;rw[decide_eq_true rfl] at gm;exact gm
  clear R a0 a1 gt bs eq ew cw eL ct co;go_enter Tryz.func8,Tryz.ntmps8;go_wp2_with fail;refine dr.out.mono ?_;rintro e w1 ⟨q,cap,rfl,gq,gL⟩;have b8:=xX gq;have D:=xX gL;clear gq gL dr;go_wp2_with fail;refine(hv.out _ D.out).mono ?_;rintro e w' ⟨rfl,A⟩;rw[A];clear A w';go_wp2_with fail;refine(hA.out _ D.out).mono ?_;rintro e h0 ⟨rfl,hb⟩;have b2:Hid (Below w1.1.size w1 h0):=hb;have c5:=xX (D.out.trans (b2.out.mono D.out.size));clear hb;go_wp2_with fail;refine(hw.out _ c5.out).mono ?_;rintro e w' ⟨rfl,A⟩;rw[A];clear A w';go_wp2_with fail;refine(hB.out _ c5.out).mono ?_;rintro e h1 ⟨rfl,hb⟩;have b3:Hid (Below w1.1.size w1 h1):=b2.out.trans (hb.mono b2.out.size);have c6:=xX (D.out.trans (b3.out.mono D.out.size));clear hb b2 c5;go_wp2_with fail;refine(hx.out _ c6.out).mono ?_;rintro e w' ⟨rfl,A⟩;rw[A];clear A w';go_wp2_with fail;refine(d9.out _ c6.out).mono ?_;rintro e w4 ⟨rfl,hb⟩;have b4:Hid (Below w1.1.size w1 w4):=b3.out.trans (hb.mono b3.out.size);have c7:=xX (D.out.trans (b4.out.mono D.out.size));clear hb b3 c6;go_wp2_with fail;refine(hy.out _ c7.out).mono ?_;rintro e w' ⟨rfl,A⟩;rw[A];clear A w';go_wp2_with fail;refine(hC.out _ c7.out).mono ?_;rintro e w5 ⟨rfl,hb⟩;have b5:Hid (Below w1.1.size w1 w5):=b4.out.trans (hb.mono b4.out.size);have c8:=xX (D.out.trans (b5.out.mono D.out.size));clear hb b4 c7;go_wp2_with fail;refine(hz.out _ c8.out).mono ?_;rintro e w' ⟨rfl,A⟩;rw[A];clear A w';go_wp2_with fail;refine(hD.out _ c8.out).mono ?_;rintro e h2 ⟨rfl,hb⟩
  have b6:Hid (Below w1.1.size w1 h2):=b5.out.trans (hb.mono b5.out.size);have e8:=xX (D.out.trans (b6.out.mono D.out.size));clear hb b5 c8;go_wp2_with fail;refine(hE.out _ e8.out).mono ?_;rintro e ho ⟨hY,hH,rfl,g5,hb⟩;have b7:Hid (Below w1.1.size w1 ho):=b6.out.trans (hb.mono b6.out.size);have hq:=xX (D.out.trans (b7.out.mono D.out.size));obtain⟨p2,c2,eS,-,hi,-⟩:=b8.out.ents;injection eS with i1 _ i3;subst i1 i3;have f4:=xX (hF.out ho q cap hY hH (hi.on b7.out) g5);clear hb b6 e8 hi g5;go_wp2_with fail;refine f4.out.mono ?_;rintro e w' ⟨rfl,hT,A⟩;obtain⟨ct,hM,eC⟩:=lR b8.out;obtain⟨e6,eU⟩:∃e6,e6=w':=⟨_,rfl⟩;rw[<-eU];have cn:Below w1.1.size w1 e6:=by rw[eU,A];exact below_drewN b7.out hT
  have h5:=xX cn;have c9:=xX (D.out.trans (cn.mono D.out.size));have d6:=xX (eC.on cn);have hn:∀w',(Instr.slice 43 (.slice q I.length cap) none (some (.int .i64 (cap:Nat))) none).run Tryz.prog w'=.ok (.slice q cap cap) w':=fun w'=>by
    have hS:(sizeOf (Tryz.prog.elem 43)).run Tryz.prog w'=.ok 3 w':=(by kernel_rfl);rw[run_slice_h w' 43 q I.length cap (by kernel_rfl) .i64 (cap:Nat) (by omega) (by omega),hS];by_cases hK:cap=0
    · subst hK;simp[sliced,Result.andThen]
    · obtain⟨g,rfl,-⟩:=eC 0 (by omega);simp[sliced,Result.andThen,Addr.add]
  have ic:(cap:Int)<=9223372036854775807:=by unfold maxLen at hM;omega
  clear A eU cn eC w' f4 b7 hq;go_wp2_with fail;go_loopw [69] (fun e3 wr=>∃i:Nat,i<=cap∧e3=.int .i64 (i:Nat)∧Hid (Below w.1.size w wr)∧Hid (dQ wr w.1.size q cap 3)) (fun e3 _=>cap-(intOf e3).toNat);case atStart=>exact⟨0,Nat.zero_le _,rfl,c9,d6⟩
  case round=>
    obtain⟨i,bs,rfl,bn,ci⟩:=hrel;by_cases bk:i<cap
    · have f1:(i:Int)<(cap:Int):=(by omega);have hO:(i:Int)+1<=9223372036854775807:=(by omega);obtain⟨ak,rfl,cv,-,a7⟩:=ci.out i bk;obtain⟨⟨u0,ea⟩,eb⟩:=a7 0 (by omega);obtain⟨⟨u1,h7⟩,h9⟩:=a7 1 (by omega);obtain⟨⟨u2,h8⟩,ia⟩:=a7 2 (by omega);rw[Nat.add_zero] at ea eb;have bd:Hid (∀a3 e0 e2,Below w.1.size w (((wr.setCell ⟨ak,i*3,none⟩ a3).setCell ⟨ak,i*3+1,none⟩ e0).setCell ⟨ak,i*3+2,none⟩ e2)∧dQ (((wr.setCell ⟨ak,i*3,none⟩ a3).setCell ⟨ak,i*3+1,none⟩ e0).setCell ⟨ak,i*3+2,none⟩ e2) w.1.size (some ⟨ak,0,none⟩) cap 3):=fun a3 e0 e2=>⟨dE (dE (dE bn.out cv _) cv _) cv _,((ci.out.set _ _).set _ _).set _ _⟩;clear a7 bn ci hn b8 d6 c9;go_wp2;go_roundw;case rel=>exact⟨i+1,by omega,by go_num,(bd.out _ _ _).1,(bd.out _ _ _).2⟩
      case measure=>simp[intOf];omega
    · have f1:¬(i:Int)<(cap:Int):=(by omega);clear ci hn b8 d6 c9 bk;go_wp2_with fail;refine(d9.out _ bn.out).mono ?_;rintro e i4 ⟨rfl,g2⟩;have dd:=xX (bn.out.trans (g2.mono bn.out.size));clear g2;go_wp2_with fail;refine(d9.out _ dd.out).mono ?_;rintro e bb ⟨rfl,gN⟩;have cy:=xX (dd.out.trans (gN.mono dd.out.size));clear gN;have fs:Hid (dx (bb.alloc (.cells #[.int .i64 (-1),.int .i64 0,.int .i64 1,.int .i64 2,.int .i64 K,.int .i64 (K+1)] 2)) bb.1.size (.slice (some ⟨bb.1.size,0,none⟩) 6 6) [-1,0,1,2,K,K+1]):=⟨rfl,.inr ⟨bb.1.size,6,_,rfl,xZ,ag bb _,xZ,by decide,rfl,rfl⟩⟩;have fx:=xX ((fv.out.on cy.out).on ((Below.refl _ bb).alloc xZ (.cells #[.int .i64 (-1),.int .i64 0,.int .i64 1,.int .i64 2,.int .i64 K,.int .i64 (K+1)] 2)))
      go_wp2_with (first
        | (at_builtin;refine qW (xs:=[-1,0,1,2,K,K+1]) fs.out fx.out (by simp;omega) (by simp) rfl rfl rfl rfl rfl ?_;intro a4 i0 h6 be d8 g7 g0;have bT:=xX (cy.out.trans ((((Below.refl _ bb).alloc xZ (.cells #[.int .i64 (-1),.int .i64 0,.int .i64 1,.int .i64 2,.int .i64 K,.int .i64 (K+1)] 2)).trans g0).mono cy.out.size));have hs:=xX g7.nums;have iy:a4.length<=8:=(by rw[d8.out];simp;omega);have hu:Hid (∀m∈a4,Fr.i64 m):=fun m J=>by
             rw[d8.out] at J;rcases List.mem_append.1 J with J | J
             · simp only[List.mem_cons,List.not_mem_nil,or_false] at J;rcases J with rfl | rfl | rfl | rfl | rfl | rfl <;> exact⟨by omega,by omega⟩
             · exact fi.out m J
           clear g7 g0)
        |fail)
      clear fs fx d8 fv fi;go_loopw [86] (fun e4 wr=>∃j:Nat,j<=a4.length∧e4=.int .i64 (j:Nat)∧Hid (Below be.1.size be wr)) (fun e4 _=>a4.length-(intOf e4).toNat);case atStart=>exact⟨0,Nat.zero_le _,rfl,xY⟩
      case round=>
        obtain⟨j,ih,rfl,ah⟩:=hrel;by_cases bk:j<a4.length
        · have hJ:(j:Int)<(a4.length:Int):=(by omega);have it:(j:Int)<=8:=(by omega);obtain⟨hG,hV,rfl,-,ep⟩:=hs.out j bk;have J:=hu.out _ (List.getElem_mem bk);generalize a4[j]=m at ep J;have hW:wr.cell? ⟨hG,hV+j,none⟩=some (.int .i64 m):=ac ah.out ep;have gn:=bT.out.trans (ah.out.mono bT.out.size);obtain⟨C,O,is,pl,hl,hj,hk,⟨hf,hg⟩,hh⟩:=rv ht.out m;have f8:Hid (∀w',Below w.1.size w w'->Calls Tryz.prog 15 #[.pointer (some ⟨a,0,none⟩),.int .i64 m] w' fun e o=>(∃q cap,e=.returned (.tuple #[.agg #[.slice q C.length cap],.bool is])∧C.length*120<=140737488351232∧bw o q C∧dQ o w'.1.size q C.length 9)∧Below w'.1.size w' o):=fun w' hb=>(oX (fr.out.on hb) m J).mono fun e o ⟨bN,bO⟩=>⟨hj _ _ _ bN,bO⟩;have f9:Hid (∀w',Below w.1.size w w'->Calls Tryz.prog 41 #[.pointer (some ⟨b,0,none⟩),.int .i64 m] w' fun e o=>(∃q cap,e=.returned (.tuple #[.agg #[.slice q O.length cap],.bool is])∧bw o q O)∧Below w'.1.size w' o):=fun w' hb=>(gO (fy.out.on hb Y) Y m).mono fun e o ⟨bN,bO⟩=>⟨hk _ _ bN,bO⟩;have gb:Hid (∀w',Below w.1.size w w'->Calls Tryz.prog 42 #[.pointer (some ⟨a,0,none⟩),.int .i64 m] w' fun e o=>e=.returned (.tuple #[.int .i64 pl,.bool is])∧Below w'.1.size w' o):=fun w' hb=>by
            have X:=wh (fr.out.on hb) m J;rw[hf,hg] at X;exact X
          have gd:Hid (∀w',Below w.1.size w w'->Calls Tryz.prog 43 #[.pointer (some ⟨b,0,none⟩),.int .i64 m] w' fun e o=>e=.returned (.tuple #[.int .i64 pl,.bool is])∧Below w'.1.size w' o):=fun w' hb=>by
            have X:=nz (fy.out.on hb Y) m;rw[hh] at X;exact X
          have gf:Hid (∀w' q q2 cap a5,C.length*120<=140737488351232->bw w' q C->bw w' q2 O->Calls Tryz.prog 24 #[.agg #[.slice q C.length cap],.agg #[.slice q2 O.length a5]] w' fun e o=>e=.returned (.bool true)∧Below w'.1.size w' o):=fun w' q q2 cap a5 hP X ec=>by
            have gl:=gB C O q q2 cap a5 w' hP X ec;rw[hl] at gl;exact gl
          have b1:=xX gn;clear ep J gn hl hj hk hf hg hh;go_wp2_with fail;refine(f8.out _ b1.out).mono ?_;rintro e E ⟨⟨V,W,rfl,hQ,g3,ez⟩,el⟩;obtain⟨cj,cp⟩:∃cj,cj=E.alloc (.cells #[.slice V C.length W] 41):=⟨_,rfl⟩;have a2:Below E.1.size E cj:=(by rw[cp];exact xV);have g8:cj.1[E.1.size]?=some (.cells #[.slice V C.length W] 41 (0,0)):=(by rw[cp];exact ag E _);have er:=el.trans (a2.mono el.size);have f6:=xX cp.symm;have bX:=xX (b1.out.trans (er.mono b1.out.size));have dv:=xX (ah.out.trans (er.mono ah.out.size));have fo:=xX ah.out.size;have e9:=xX (g3.on a2);have f0:=xX (ez.on a2);have ds:Hid (∀i,i<C.length->∃g,V=some ⟨g,0,none⟩∧g<E.1.size):=fun i bs=>by
            obtain⟨g,bN,-,bO,-⟩:=ez i bs;exact⟨g,bN,bO⟩
          have d3:=xX g8;clear cp a2 g8 er g3 ez el f8 ah b1 hW;go_wp2_with fail;rw[f6.out];refine(f9.out _ bX.out).mono ?_;rintro e bc ⟨⟨bl,bq,rfl,g4⟩,em⟩;obtain⟨aj,cq⟩:∃aj,aj=bc.alloc (.cells #[.slice bl O.length bq] 41):=⟨_,rfl⟩;have a2:Below bc.1.size bc aj:=(by rw[cq];exact xV);have ha:aj.1[bc.1.size]?=some (.cells #[.slice bl O.length bq] 41 (0,0)):=(by rw[cq];exact ag bc _);have bj:=em.trans (a2.mono em.size);have f7:=xX cq.symm;have b0:=xX (bX.out.trans (bj.mono bX.out.size));have d0:=xX (dv.out.trans (bj.mono dv.out.size));have dp:Hid (bw aj V C∧bw aj bl O):=⟨e9.out.on bj,g4.on a2⟩;have f2:=xX (f0.out.on bj);have bp:Hid (aj.1[E.1.size]?=some (.cells #[.slice V C.length W] 41 (0,0))∧aj.1[bc.1.size]?=some (.cells #[.slice bl O.length bq] 41 (0,0))):=⟨(bj.block _ (az d3.out)).trans d3.out,ha⟩;clear cq a2 ha bj g4 em f9 bX dv e9 f0 d3 f6;go_wp2_with fail;rw[f7.out];refine(gb.out _ b0.out).mono ?_;rintro e i2 ⟨rfl,en⟩;have e7:=xX (b0.out.trans (en.mono b0.out.size));have d7:=xX en;clear en gb b0 f7;go_wp2_with fail;refine(gd.out _ e7.out).mono ?_;rintro e e5 ⟨rfl,g1⟩;have a9:=d7.out.trans (g1.mono d7.out.size);have a8:=(a9.block _ (az bp.out.1)).trans bp.out.1;have hc:=(a9.block _ (az bp.out.2)).trans bp.out.2;have h3:e5.cell? ⟨E.1.size,0,none⟩=some (.slice V C.length W):=aa a8 0
          have h4:e5.cell? ⟨bc.1.size,0,none⟩=some (.slice bl O.length bq):=aa hc 0;have f5:=xX (gf.out e5 V bl W bq hQ (dp.out.1.on a9) (dp.out.2.on a9));have d1:=xX (d0.out.trans (a9.mono d0.out.size));have f3:=xX (f2.out.on a9);have d4:=xX a8;clear a9 a8 hc g1 gd gf e7 d7 dp d0 f2 bp;go_wp2_with fail;refine f5.out.mono ?_;rintro e hZ ⟨rfl,cs⟩;have a8:=(cs.block _ (az d4.out)).trans d4.out;have d5:=xX a8;have hp:hZ.cell? ⟨E.1.size,0,none⟩=some (.slice V C.length W):=aa a8 0;have d2:=xX (d1.out.trans (cs.mono d1.out.size));have cb:=xX (f3.out.on cs);clear cs a8 f5 h3 h4 d4 d1 f3;go_wp2_with fail;obtain⟨Z,gz⟩:∃Z,Z=wr.1.size:=⟨_,rfl⟩;rw[<-gz] at cb fo;have ib:(C.length:Int)<=140737488351232:=(by omega);clear gz hp;go_loopw [136] (fun e1 wr=>∃i:Nat,i<=C.length∧e1=.int .i64 (i:Nat)∧Hid (Below be.1.size be wr)∧Hid (dQ wr Z V C.length 9)∧Hid (wr.1[E.1.size]?=some (.cells #[.slice V C.length W] 41 (0,0)))) (fun e1 _=>C.length-(intOf e1).toNat);case atStart=>exact⟨0,Nat.zero_le _,rfl,d2,cb,d5⟩
          case round=>
            obtain⟨U,id,rfl,df,cc,b9⟩:=hrel;by_cases he:U<C.length
            · have hI:(U:Int)<(C.length:Int):=(by omega);have hO:(U:Int)<=140737488351232:=(by omega);obtain⟨a6,g6,cv⟩:=ds.out U he;obtain⟨ak,eu,hL,-,a7⟩:=cc.out U he;rw[g6] at eu;simp only[Option.some.injEq,Addr.mk.injEq,and_true] at eu;subst eu;subst g6;obtain⟨⟨u0,ea⟩,eb⟩:=a7 0 (by omega);rw[Nat.add_zero] at ea eb;have hp:wr.cell? ⟨E.1.size,0,none⟩=some (.slice (some ⟨a6,0,none⟩) C.length W):=aa b9.out 0;have bd:Hid (∀a3,Below be.1.size be (wr.setCell ⟨a6,U*9,none⟩ a3)∧dQ (wr.setCell ⟨a6,U*9,none⟩ a3) Z (some ⟨a6,0,none⟩) C.length 9∧(wr.setCell ⟨a6,U*9,none⟩ a3).1[E.1.size]?=some (.cells #[.slice (some ⟨a6,0,none⟩) C.length W] 41 (0,0))):=fun a3=>⟨dE df.out (Nat.le_trans fo.out hL) _,cc.out.set _ _,by rw[Below.heap_setCell _ _ _ _ (by show E.1.size≠a6;omega)];exact b9.out⟩;clear a7 df cc b9 d2 cb d5 ds;go_wp2;go_roundw;case rel=>exact⟨U+1,by omega,by go_num,(bd.out _).1,(bd.out _).2.1,(bd.out _).2.2⟩
              case measure=>simp[intOf];omega
            · have hI:¬(U:Int)<(C.length:Int):=(by omega);clear cc b9 d2 cb d5 ds;go_wp2;go_roundw;case rel=>exact⟨j+1,by omega,by go_num,df⟩
              case measure=>simp[intOf];omega
        · have hJ:¬(j:Int)<(a4.length:Int):=(by omega);have hr:=xX (bT.out.trans (ah.out.mono bT.out.size));clear bk ah;go_wp2;go_ret;exact⟨rfl,hr.out⟩
end
end
section
open Go.RowKit
theorem jv(a4:wR)(p:OA)(c:Nat)(l:L8)(cj:l.length<=140737488351232)(w:World)(W:Hv w)(a7:At w p l):
  Calls Tryz.prog 3 #[.slice p l.length c] w fun e w'=>e=.returned (.bool true)∧Below w.1.size w w':=by
 have ak:=xX (a4 w W);have b1:=xX W;have bN:=xX a7;clear W a7 a4;go_enter Tryz.func3,Tryz.ntmps3;go_wp2_with fail;refine ak.out.mono ?_;rintro e w1 ⟨rfl,bb⟩;have D:=xX bb;clear bb ak;by_cases E:100000<l.length
 ·have b3:(100000:Int)<(l.length:Int):=by omega
  clear E;go_wp2;go_ret;exact⟨rfl,D.out⟩
 have b3:¬(100000:Int)<(l.length:Int):=by omega
 have aj:=xX (vV p c l (by omega) w1 (bN.out.on D.out));have ck:l.length<=100000:=by omega
 clear E;go_wp2_with fail;refine aj.out.mono ?_;rintro e cq ⟨g,r,v,u,x,k,rfl,a6⟩;have HH2:=xX a6;clear a6 aj;by_cases E:30000<l.length
 ·have b4:(30000:Int)<(l.length:Int):=by omega
  have b5:decide (30000<l.length)=true:=decide_eq_true E;go_wp2;go_ret;exact⟨rfl,D.out.trans (HH2.out.below.mono D.out.size)⟩
 have b4:¬(30000:Int)<(l.length:Int):=by omega
 have b5:decide (30000<l.length)=false:=decide_eq_false E;have U:Hv w1:=b1.out.next D.out;have b7:=HH2.out.ref.lt;have a9:=vX (G:=fun i=>i=g∨v.ownBlock=some i∨i=r) HH2.out.dev rfl (by show l.length<=_;omega) (by show 0<=_;omega) (U.next HH2.out.below) U.lt HH2.out.below.size (fun i o=>o.imp id .inl) (fun i o=>by
  rcases o with o | o | o
  ·rw[o];exact HH2.out.dev.lt
  ·exact(HH2.out.dev.has.lt i o).2
  ·rw[o];exact b7)
 have a3:=xX a9;clear a9 E U;go_wp2_with fail;refine a3.out.mono ?_;rintro e b8 ⟨j,X,cb,cp,ci,I,J,rfl,bs,bj,has⟩;have bl:=HH2.out.ref.aside has (fun A=>HH2.out.apart.1 A.symm) (fun i o A=>HH2.out.apart.2.2.1 (by rw[o,A]));have cn:=has.size;have a1:=xX (nl bl rfl (by show l.length<=_;omega) (by show 0<=_;omega));have HB2:=xX HH2.out.below;have Y:Hid (Below w1.1.size w1 b8):=HB2.out.trans (has.below HB2.out.size (fun i o A=>by have:=HH2.out.dev.base;omega));have R:=xX bs;have ah:=xX bj;have b0:=xX I;have b2:=xX J;clear bs bj I J bl has a3;go_wp2_with fail;refine a1.out.mono ?_;rintro e w4 ⟨co,b9,cc,y,I,J,rfl,bp,bq,be,has⟩;obtain⟨rfl,rfl,rfl⟩:=Sc.goes_uniq b0.out b2.out I J;have a8:Below w1.1.size w1 w4:=Y.out.trans (has.below Y.out.size (fun i o A=>by have:=HH2.out.ref.base;omega));have bk:=R.out.aside (has.mono fun i _ o=>.inr (.inr o)) (fun i o=>.inl o) (fun i o=>Nat.lt_of_lt_of_le (R.out.low i o) has.size);have a2:=xX (vF bk bp (by omega) bq none 0 [] (by simp) (fun m b6=>by cases b6) (fun i o=>by cases o));have bc:=ah.out.aside has (fun A=>HH2.out.apart.1 A) (fun i o A=>HH2.out.apart.2.1 (by rw[o,A]));have Z:=xX bc;have a0:=xX be;have O:=xX a8;clear bc be a8 bk bp bq I J has R ah a1;go_wp2_with fail;refine a2.out.mono ?_;rintro e w5 ⟨rfl,L⟩;obtain⟨T,V⟩:∃T:Nat,T=0+X.read+Sc.reads l X.at_:=⟨_,rfl⟩;have bd:=Z.out.below L;have bn:=a0.out.below L
 have bT:Hid (Calls Tryz.prog 9 #[.pointer (some ⟨g,0,none⟩)] w5 fun e w'=>e=.returned (.int .i64 (T:Nat))∧w'=w5):=by rw[V];exact sO bd
 have bX:Hid (Calls Tryz.prog 10 #[.pointer (some ⟨r,0,none⟩)] w5 fun e w'=>e=.returned (.int .i64 (T:Nat))∧w'=w5):=by rw[V];exact nH bn
 have bO:=xX (D.out.trans ((O.out.trans (L.mono O.out.size)).mono D.out.size));clear L V bd bn a2 Z a0 O;go_wp2_with fail;refine bT.out.mono ?_;rintro e w' ⟨rfl,K⟩;rw[K];clear K w';go_wp2_with fail;refine bX.out.mono ?_;rintro e w' ⟨rfl,K⟩;rw[K];clear K w';go_wp2;go_ret;exact⟨rfl,bO.out⟩
end
end Go.Proofs.YtdkammppnkhhoaaGreatDoor
