import Derived.Test.YtdkammppnkhhoaaGreatDoorB47
import Derived.Test.YtdkammppnkhhoaaGreatDoorB13
set_option maxRecDepth 100000
set_option maxHeartbeats 4000000
namespace Go.Proofs.YtdkammppnkhhoaaGreatDoor
variable{B:Nat}{W w:World}{q:OA}
section
open Go.RowKit
theorem jY{cap:Nat}{o:List (List Value×(Fr×Int))}(h:db W B (.slice q o.length cap) (o.map (·.1)))(M:∀L∈o,PlV w L.1 L.2)(i:Nat)(K:i<o.length):
  ∃b y sp J D A I E,q=some ⟨b,y,none⟩∧W.cell? ⟨b,y+i*12,none⟩=some (.int .i64 o[i].2.1.kind)∧W.cell? ⟨b,y+i*12+1,none⟩=some (.int .i64 o[i].2.1.number)∧W.cell? ⟨b,y+i*12+2,none⟩=some (.slice sp o[i].2.1.cols.length J)∧W.cell? ⟨b,y+i*12+3,none⟩=some (.int .i64 o[i].2.1.seq)∧W.cell? ⟨b,y+i*12+4,none⟩=some (.int .i64 o[i].2.1.first)∧W.cell? ⟨b,y+i*12+5,none⟩=some (.int .i64 o[i].2.1.rows)∧W.cell? ⟨b,y+i*12+6,none⟩=some (.slice D o[i].2.1.block.length A)∧W.cell? ⟨b,y+i*12+7,none⟩=some (.int .i64 o[i].2.1.index.at_)∧W.cell? ⟨b,y+i*12+8,none⟩=some (.int .i64 o[i].2.1.index.frames)∧W.cell? ⟨b,y+i*12+9,none⟩=some (.int .i64 o[i].2.1.index.rows)∧W.cell? ⟨b,y+i*12+10,none⟩=some (.slice I o[i].2.1.index.entries.length E)∧W.cell? ⟨b,y+i*12+11,none⟩=some (.int .i64 o[i].2.2):=by
 obtain⟨p,c,U,-,O⟩:=h.lies;injection U with hp _ _;subst hp;obtain⟨b,y,rfl,z⟩:=O i (by rw[List.length_map];exact K);rw[List.getElem_map] at z;obtain⟨sp,J,D,A,I,E,-,R⟩:=M o[i] (List.getElem_mem K);rw[R] at z;exact⟨b,y,sp,J,D,A,I,E,rfl,z 0 (by omega),z 1 (by omega),z 2 (by omega),z 3 (by omega),z 4 (by omega),z 5 (by omega),z 6 (by omega),z 7 (by omega),z 8 (by omega),z 9 (by omega),z 10 (by omega),z 11 (by omega)⟩
section
variable {w w':World} {a:Nat} {x:Rw} {F:Nat->Prop}
theorem cW(h:ba w a x F):Calls Tryz.prog 35 #[.pointer (some ⟨a,0,none⟩)] w fun e w'=>e=.returned (.int .i64 x.number)∧Below w.1.size w w':=by
 have I:=xX (dS h);have bp:x.schemas.length<=1000001:=by
  unfold Rw.schemas;rw[List.length_append];have:=List.length_filter_le (fun q:Fr×Int=>decide (q.1.kind=1)) x.l;have:=h.small.l;have:=h.small.s0;omega
 obtain⟨S,K⟩:∃S,S=x.schemas:=⟨_,rfl⟩;have X:Hid (x.number=S.foldl (fun n q=>if n<q.1.number then q.1.number else n) (-1)):=by show x.number=_;rw[K];rfl
 rw[<-K] at bp I;rw[X.out];clear h K X;go_enter Tryz.func35,Tryz.ntmps35;go_wp2_with fail;refine I.out.mono ?_;rintro e w1 ⟨q,cap,o,rfl,Z,ah,L,hb⟩;have bq:o.length=S.length:=by rw[<-L,List.length_map]
 have b2:o.length<=1000001:=by omega
 have a3:=xX Z;have a4:=xX (ah w (Aside.refl _ _));have a5:=xX L;have R:=xX hb;obtain⟨G,Y⟩:∃G:Int->(List Value×(Fr×Int))->Int,G=fun n z=>if n<z.2.1.number then z.2.1.number else n:=⟨_,rfl⟩;have V:=xX Y;clear Z ah L hb I bq Y;go_wp2_with fail;go_loopw [3,9] (fun bs O wr=>∃i:Nat,i<=o.length∧O=.int .i64 (i:Nat)∧bs=.int .i64 ((o.take i).foldl G (-1))∧Hid (Below w1.1.size w1 wr)) (fun _ O _=>o.length-(intOf O).toNat);case atStart=>exact⟨0,by omega,rfl,rfl,xY⟩
 case round=>
  obtain⟨i,b0,rfl,rfl,y⟩:=hrel;have b1:(i:Int)<=1000001:=by omega
  obtain⟨N,hN⟩:∃N,N=(o.take i).foldl G (-1):=⟨_,rfl⟩;rw[<-hN];by_cases M:i<o.length
  ·have f1:(i:Int)<(o.length:Int):=(by omega);have A:=cL G (-1) o i M;rw[<-hN] at A;have aj:G N o[i]=if N<o[i].2.1.number then o[i].2.1.number else N:=(by rw[V.out]);rw[aj] at A;obtain⟨b,E,sp,b4,bO,bN,bX,bT,rfl,a6,a7,bb,bc,bd,be,bj,bk,bl,bn,a8,a9⟩:=jY (a3.out.on y.out) a4.out i M;generalize o[i].2.1.kind=b3,o[i].2.1.number=k1,o[i].2.1.cols.length=k2,o[i].2.1.seq=k3,o[i].2.1.first=k4,o[i].2.1.rows=k5,o[i].2.1.block.length=k6,o[i].2.1.index.at_=k7,o[i].2.1.index.frames=k8,o[i].2.1.index.rows=k9,o[i].2.1.index.entries.length=k10,o[i].2.2=k11 at a6 a7 bb bc bd be bj bk bl bn a8 a9 A;have D:=xX A;have U:Hid (∀E,Below w1.1.size w1 (wr.alloc E)):=fun E=>y.out.alloc y.out.size E;clear A aj hN y;by_cases ak:N<k1
   ·have J:Hid ((o.take (i+1)).foldl G (-1)=k1):=(by show _=_;rw[D.out,if_pos ak]);clear D;go_wp2;go_roundw;case rel=>exact⟨i+1,by omega,by go_num,by rw[J.out],U.out _⟩
    case measure=>simp[intOf];omega
   ·have J:Hid ((o.take (i+1)).foldl G (-1)=N):=(by show _=_;rw[D.out,if_neg ak]);clear D;go_wp2;go_roundw;case rel=>exact⟨i+1,by omega,by go_num,by rw[J.out],U.out _⟩
    case measure=>simp[intOf];omega
  ·have f1:¬(i:Int)<(o.length:Int):=(by omega);have a2:Hid (N=S.foldl (fun n q=>if n<q.1.number then q.1.number else n) (-1)):=by
    show N=_;rw[hN,List.take_of_length_le (by omega),<-a5.out,List.foldl_map,V.out]
   have a1:=xX (R.out.trans (y.out.mono R.out.size));clear hN M;go_wp2;go_ret;exact⟨by rw[<-a2.out];rfl,a1.out⟩
theorem nz(h:ba w a x F)(m:Int):Calls Tryz.prog 43 #[.pointer (some ⟨a,0,none⟩),.int .i64 m] w fun e w'=>e=.returned (.tuple #[.int .i64 (x.place m).1,.bool (x.place m).2])∧Below w.1.size w w':=by
 have M:=xX (dS h);have bN:x.schemas.length<=1000001:=by
  unfold Rw.schemas;rw[List.length_append];have:=List.length_filter_le (fun q:Fr×Int=>decide (q.1.kind=1)) x.l;have:=h.small.l;have:=h.small.s0;omega
 obtain⟨S,O⟩:∃S,S=x.schemas:=⟨_,rfl⟩;have ah:Hid (x.place m=S.foldl (fun r q=>if q.1.number=m then (q.2,true) else r) (0,false)):=by show x.place m=_;rw[O];rfl
 rw[<-O] at bN M;rw[ah.out];clear h O ah;go_enter Tryz.func43,Tryz.ntmps43;go_wp2_with fail;refine M.out.mono ?_;rintro e w1 ⟨q,cap,o,rfl,ak,a0,R,hb⟩;have bO:o.length=S.length:=by rw[<-R,List.length_map]
 have b6:o.length<=1000001:=by omega
 have a5:=xX ak;have a6:=xX (a0 w (Aside.refl _ _));have a7:=xX R;have X:=xX hb;obtain⟨G,aj⟩:∃G:Int×Bool->(List Value×(Fr×Int))->Int×Bool,G=fun r z=>if z.2.1.number=m then (z.2.2,true) else r:=⟨_,rfl⟩;have Z:=xX aj;clear ak a0 R hb M bO aj;go_wp2_with fail;go_loopw [6,7,13] (fun bT bX V wr=>∃i:Nat,i<=o.length∧V=.int .i64 (i:Nat)∧bT=.int .i64 ((o.take i).foldl G (0,false)).1∧bX=.bool ((o.take i).foldl G (0,false)).2∧Hid (Below w1.1.size w1 wr)) (fun _ _ V _=>o.length-(intOf V).toNat);case atStart=>exact⟨0,by omega,rfl,rfl,rfl,xY⟩
 case round=>
  obtain⟨i,b4,rfl,rfl,rfl,HB⟩:=hrel;have b5:(i:Int)<=1000001:=by omega
  obtain⟨N,D⟩:∃N,N=(o.take i).foldl G (0,false):=⟨_,rfl⟩;rw[<-D];obtain⟨I,J⟩:=N;by_cases U:i<o.length
  ·have f1:(i:Int)<(o.length:Int):=(by omega);have E:=cL G (0,false) o i U;rw[<-D] at E;have a1:G (I,J) o[i]=if o[i].2.1.number=m then (o[i].2.2,true) else (I,J):=(by rw[Z.out]);rw[a1] at E;obtain⟨b,L,sp,b8,b1,b0,b3,b2,rfl,a8,a9,bd,be,bj,bk,bl,bn,bp,bq,bb,bc⟩:=jY (a5.out.on HB.out) a6.out i U;generalize o[i].2.1.kind=b7,o[i].2.1.number=k1,o[i].2.1.cols.length=k2,o[i].2.1.seq=k3,o[i].2.1.first=k4,o[i].2.1.rows=k5,o[i].2.1.block.length=k6,o[i].2.1.index.at_=k7,o[i].2.1.index.frames=k8,o[i].2.1.index.rows=k9,o[i].2.1.index.entries.length=k10,o[i].2.2=k11 at a8 a9 bd be bj bk bl bn bp bq bb bc E;have K:=xX E;have Y:Hid (∀L,Below w1.1.size w1 (wr.alloc L)):=fun L=>HB.out.alloc HB.out.size L;clear E a1 D HB;by_cases y:k1=m
   ·have bs:(k1==m)=true:=(by rw[beq_iff_eq];exact y);have A:Hid ((o.take (i+1)).foldl G (0,false)=(k11,true)):=(by show _=_;rw[K.out,if_pos y]);clear K y;go_wp2;go_roundw;case rel=>exact⟨i+1,by omega,by go_num,by rw[A.out],by rw[A.out],Y.out _⟩
    case measure=>simp[intOf];omega
   ·have bs:(k1==m)=false:=(by rw[beq_eq_false_iff_ne];exact y);have A:Hid ((o.take (i+1)).foldl G (0,false)=(I,J)):=(by show _=_;rw[K.out,if_neg y]);clear K y;go_wp2;go_roundw;case rel=>exact⟨i+1,by omega,by go_num,by rw[A.out],by rw[A.out],Y.out _⟩
    case measure=>simp[intOf];omega
  ·have f1:¬(i:Int)<(o.length:Int):=(by omega);have a4:Hid ((I,J)=S.foldl (fun r q=>if q.1.number=m then (q.2,true) else r) (0,false)):=by
    show(I,J)=_;rw[D,List.take_of_length_le (by omega),<-a7.out,List.foldl_map,Z.out]
   have a3:=xX (X.out.trans (HB.out.mono X.out.size));clear D U;go_wp2;go_ret2;exact⟨by rw[<-a4.out];rfl,a3.out⟩
end
end
section
open Go.RowKit
theorem jf{y:Type}(p:y->Bool):∀(l:List y) (i:Nat) (o:i<l.length),p l[i]=true->(∀k (z:k<l.length),k<i->p l[k]=false)->l.find? p=some l[i]
 | [],i,o,_,_=>by simp at o
 |x::l,0,_,h,_=>by
  rw[List.find?_cons];have A:p x=true:=h;rw[A];rfl
 |x::l,i+1,o,h,hb=>by
  rw[List.find?_cons];have D:p x=false:=hb 0 (by simp) (by omega);rw[D];exact jf p l i (by simpa using o) h (fun k z E=>hb (k+1) (by simpa using z) (by omega))
theorem rW{cap:Nat}{o:List (List Value×(Fr×Int))}{G:World->Prop}(h:db W B (.slice q o.length cap) (o.map (·.1)))(ak:G w)(O:∀w',G w'->∀U∈o,PlV w' U.1 U.2)(i:Nat)(L:i<o.length):
  ∃b y sp A E D J I,q=some ⟨b,y,none⟩∧(∀w',G w'->o[i].2.1.cols.length*120<=140737488351232∧o[i].2.1.cols.length<=A∧bw w' sp o[i].2.1.cols)∧W.cell? ⟨b,y+i*12,none⟩=some (.int .i64 o[i].2.1.kind)∧W.cell? ⟨b,y+i*12+1,none⟩=some (.int .i64 o[i].2.1.number)∧W.cell? ⟨b,y+i*12+2,none⟩=some (.slice sp o[i].2.1.cols.length A)∧W.cell? ⟨b,y+i*12+3,none⟩=some (.int .i64 o[i].2.1.seq)∧W.cell? ⟨b,y+i*12+4,none⟩=some (.int .i64 o[i].2.1.first)∧W.cell? ⟨b,y+i*12+5,none⟩=some (.int .i64 o[i].2.1.rows)∧W.cell? ⟨b,y+i*12+6,none⟩=some (.slice E o[i].2.1.block.length D)∧W.cell? ⟨b,y+i*12+7,none⟩=some (.int .i64 o[i].2.1.index.at_)∧W.cell? ⟨b,y+i*12+8,none⟩=some (.int .i64 o[i].2.1.index.frames)∧W.cell? ⟨b,y+i*12+9,none⟩=some (.int .i64 o[i].2.1.index.rows)∧W.cell? ⟨b,y+i*12+10,none⟩=some (.slice J o[i].2.1.index.entries.length I)∧W.cell? ⟨b,y+i*12+11,none⟩=some (.int .i64 o[i].2.2):=by
 obtain⟨p,c,aj,-,ah⟩:=h.lies;injection aj with hp _ _;subst hp;obtain⟨b,y,rfl,z⟩:=ah i (by rw[List.length_map];exact L);rw[List.getElem_map] at z;obtain⟨sp,A,E,D,J,I,-,R⟩:=O w ak o[i] (List.getElem_mem L);rw[R] at z;refine⟨b,y,sp,A,E,D,J,I,rfl,fun w' a0=>?_,z 0 (by omega),z 1 (by omega),z 2 (by omega),z 3 (by omega),z 4 (by omega),z 5 (by omega),z 6 (by omega),z 7 (by omega),z 8 (by omega),z 9 (by omega),z 10 (by omega),z 11 (by omega)⟩;obtain⟨bc,a9,a3,bc2,a7,a5,Z,M⟩:=O w' a0 o[i] (List.getElem_mem L);rw[R] at M;simp only[List.cons.injEq,Value.slice.injEq,and_true,true_and] at M;obtain⟨⟨rfl,rfl⟩,-⟩:=M;obtain⟨bb,a8,a2,a1,a6,a4,K,V,X,Y,-⟩:=Z.out;unfold aB at K;simp only[Array.mk.injEq,List.cons.injEq,Value.slice.injEq,and_true,true_and] at K;obtain⟨⟨rfl,rfl⟩,-⟩:=K;exact⟨V,X,Y⟩
def tF(w':World)(o:Option (Fr×Int))(e:Ending):Prop:=match o with
 |some q=>∃sp sc,e=.returned (.tuple #[.agg #[.slice sp q.1.cols.length sc],.bool true])∧(q.1.cols.length*120<=140737488351232∧q.1.cols.length<=sc∧bw w' sp q.1.cols)
 |none=>e=.returned (.tuple #[.agg #[.slice none 0 0],.bool false])
section
variable {w w':World} {a:Nat} {x:Rw} {F:Nat->Prop}
theorem gO(h:ba w a x F)(ct:¬F a)(m:Int):Calls Tryz.prog 41 #[.pointer (some ⟨a,0,none⟩),.int .i64 m] w fun e w'=>tF w' (x.schema m) e∧Below w.1.size w w':=by
 obtain⟨D,R⟩:∃D,D=w.alloc (.cells #[.slice none 0 0] 41):=⟨_,rfl⟩;have a3:Below w.1.size w D:=by rw[R];exact xV
 have bn:D.1[w.1.size]?=some (.cells #[.slice none 0 0] 41):=by rw[R];exact ag w _
 have bj:ba D a x (fun i=>i=w.1.size):=h.aside (F':=fun i=>i=w.1.size) (ae a3 F) ct (fun k A=>.inr (by omega));have a0:=xX (dS bj);have dp:=h.lt;have cv:x.schemas.length<=1000001:=by
  unfold Rw.schemas;rw[List.length_append];have:=List.length_filter_le (fun q:Fr×Int=>decide (q.1.kind=1)) x.l;have:=h.small.l;have:=h.small.s0;omega
 obtain⟨S,a1⟩:∃S,S=x.schemas:=⟨_,rfl⟩;have bb:Hid (x.schema m=S.find? fun q=>decide (q.1.number=m)):=by show x.schema m=_;rw[a1];rfl
 rw[<-a1] at cv a0;rw[bb.out];have X:=xX a3;have a7:=xX bn;have b6:=xX R.symm;have d0:D.1.size=w.1.size+1:=by rw[R];simp
 clear h bj a1 bb a3 bn R;go_enter Tryz.func41,Tryz.ntmps41;go_wp2_with fail;rw[b6.out];refine a0.out.mono ?_;rintro e w1 ⟨q,cap,y,rfl,bk,bl,a2,hb⟩;have cw:y.length=S.length:=by rw[<-a2,List.length_map]
 have d3:y.length<=1000001:=by omega
 have b4:=xX bk;have b5:=xX bl;have bc:=xX a2;have K:=xX hb;have a8:=xX ((hb.block _ (by omega)).trans a7.out);have d1:=hb.size;clear bk bl a2 hb a0 cw a7;go_wp2_with fail;go_loopw [11] (fun a6 wr=>∃i:Nat,i<=y.length∧a6=.int .i64 (i:Nat)∧Hid (Below w1.1.size w1 wr∧∀k (A:k<y.length),k<i->decide (y[k].2.1.number=m)=false)) (fun a6 _=>y.length-(intOf a6).toNat);case atStart=>exact⟨0,by omega,rfl,xY,fun k _ A=>by omega⟩
 case round=>
  obtain⟨i,dr,rfl,HB⟩:=hrel;have ds:(i:Int)<=1000001:=by omega
  have U:∀o,(wr.alloc o).1[w.1.size]?=some (.cells #[.slice none 0 0] 41):=fun o=>(aG wr o (by have:=HB.out.1.size;omega)).trans ((HB.out.1.block _ (by omega)).trans a8.out);by_cases bs:i<y.length
  ·have f1:(i:Int)<(y.length:Int):=(by omega);obtain⟨b,o,sp,I,c9,c8,df,dd,rfl,bp,b7,bd,be,cb,cc,ci,cj,ck,cn,co,b8,b9⟩:=rW (G:=fun cy=>Aside (fun i=>i=a∨i=w.1.size) D cy) (b4.out.on HB.out.1) (Aside.refl _ _) b5.out i bs;have M:Hid (y[i].2.1.number=m->S.find? (fun q=>decide (q.1.number=m))=some y[i].2):=fun a4=>by
    have cq:S.find? (fun q=>decide (q.1.number=m))=(y.find? (fun z=>decide (z.2.1.number=m))).map (·.2):=(by rw[<-bc.out,List.find?_map];rfl);rw[cq,jf _ y i bs (decide_eq_true a4) HB.out.2];rfl
   have aj:=xX bp;have O:Hid (¬y[i].2.1.number=m->∀k (A:k<y.length),k<i+1->decide (y[k].2.1.number=m)=false):=fun a4 k A dv=>by
    rcases Nat.lt_or_ge k i with L | L
    ·exact HB.out.2 k A L
    ·obtain rfl:k=i:=by omega
     exact decide_eq_false a4
   obtain⟨J,bO⟩:∃J,J=y[i].2:=⟨_,rfl⟩;rw[<-bO] at b7 bd be cb cc ci cj ck cn co b8 b9 M aj O;have bT:Hid (∀o,Below w.1.size w (wr.alloc o)):=fun o=>(X.out.trans ((K.out.trans (HB.out.1.mono K.out.size)).mono X.out.size)).alloc (by have:=HB.out.1.size;omega) o;have bX:Hid (∀o,Below w1.1.size w1 (wr.alloc o)):=fun o=>HB.out.1.alloc HB.out.1.size o;have b0:Hid (Below D.1.size D wr):=K.out.trans (HB.out.1.mono K.out.size);have b1:=xX U;have c5:∀o,(wr.alloc o).cell? ⟨w.1.size,0,none⟩=some (.slice none 0 0):=fun o=>aa (U o) 0;have c6:∀o,(wr.alloc o).frozen? ⟨w.1.size,0,none⟩=false:=fun o=>ab (U o) 0;have d2:=HB.out.1.size;obtain⟨V,bq⟩:∃V,V=J.1.number:=⟨_,rfl⟩;rw[<-bq] at bd M O;obtain⟨E,a5⟩:∃E,E=J.1.cols.length:=⟨_,rfl⟩;rw[<-a5] at be aj;have a9:=xX a5;clear bp bO U HB bq a5;by_cases A:V=m
   ·have cs:(V==m)=true:=(by rw[beq_iff_eq];exact A);have ak:=xX (M.out A);have b2:Hid (∀o,J.1.cols.length*120<=140737488351232∧J.1.cols.length<=I∧bw ((wr.alloc o).setCell ⟨w.1.size,0,none⟩ (.slice sp E I)) sp J.1.cols):=fun o=>by
     have L:=aj.out _ (((ae b0.out (fun i=>i=a∨i=w.1.size)).alloc o).setCell (p:=⟨w.1.size,0,none⟩) (.inl (.inr rfl)) (.slice sp E I));have e:=a9.out;exact⟨by rw[<-e];exact L.1,by rw[<-e];exact L.2.1,L.2.2⟩
    have ah:Hid (∀o,((wr.alloc o).setCell ⟨w.1.size,0,none⟩ (.slice sp E I)).1[w.1.size]?=some (.cells #[.slice sp E I] 41)):=fun o=>by
     show _=_;simp only[World.setCell,Array.getElem?_modify,b1.out o,if_true,Option.map_some];rfl
    have Z:Hid (∀o,Below w.1.size w ((wr.alloc o).setCell ⟨w.1.size,0,none⟩ (.slice sp E I))):=fun o=>(bT.out o).setCell xZ _;clear M O A;go_wp2;refine bodyPost_ret (ap rfl _ _ w.1.size _ _ _ _ rfl (ah.out _) Tryz.underlying41 rfl (by kernel_rfl)) rfl ?_;rw[ak.out];have cp:=a9.out;subst cp;exact⟨⟨sp,I,rfl,b2.out _⟩,Z.out _⟩
   ·have cs:(V==m)=false:=(by rw[beq_eq_false_iff_ne];exact A);have b3:=xX (O.out A);clear M O A;go_wp2;go_roundw;case rel=>exact⟨i+1,by omega,by go_num,bX.out _,b3.out⟩
    case measure=>simp[intOf];omega
  ·have f1:¬(i:Int)<(y.length:Int):=(by omega);have ak:Hid (S.find? (fun q=>decide (q.1.number=m))=none):=by
    show _=_;rw[List.find?_eq_none];intro t bN;rw[<-bc.out] at bN;obtain⟨d4,cx,rfl⟩:=List.mem_map.1 bN;obtain⟨k,A,rfl⟩:=List.mem_iff_getElem.1 cx;rw[HB.out.2 k A (by omega)];simp
   have Y:=(HB.out.1.block _ (by omega)).trans a8.out;have c5:wr.cell? ⟨w.1.size,0,none⟩=some (.slice none 0 0):=aa Y 0;have c6:wr.frozen? ⟨w.1.size,0,none⟩=false:=ab Y 0;have ah:Hid ((wr.setCell ⟨w.1.size,0,none⟩ (.slice none 0 0)).1[w.1.size]?=some (.cells #[.slice none 0 0] 41)):=by
    show _=_;simp only[World.setCell,Array.getElem?_modify,Y,if_true,Option.map_some];rfl
   have Z:Hid (Below w.1.size w (wr.setCell ⟨w.1.size,0,none⟩ (.slice none 0 0))):=(X.out.trans ((K.out.trans (HB.out.1.mono K.out.size)).mono X.out.size)).setCell xZ _;clear U Y HB;go_wp2;refine bodyPost_ret (ap rfl _ _ w.1.size _ _ _ _ rfl ah.out Tryz.underlying41 rfl (by kernel_rfl)) rfl ?_;rw[ak.out];exact⟨rfl,Z.out⟩
end
end
section
open Go.RowKit
structure EnB(x:Rw)(i:Nat)(R:Rw.En):Prop where
 frames:0<=R.frames∧R.frames<=1099511627776+i
 rows:0<=R.rows∧R.rows<=1099511627776+64*i
 out:R.out.length<=x.e0.length∨R.out.length<=64
theorem ta{x:Rw}{i:Nat}{o:Rw.En}(h:EnB x i o)(q:Fr×Int)(y:q.1.kind=2->0<=q.1.rows∧q.1.rows<=64):EnB x (i+1) (Rw.enter o q):=by
 have z:=h.frames;have A:=h.rows;unfold Rw.enter;split
 ·exact⟨by show 0<=o.frames∧o.frames<=_;omega,by show 0<=o.rows∧o.rows<=_;omega,h.out⟩
 ·split
  ·next hk=>
   have D:=y hk;refine⟨by show 0<=o.frames+1∧o.frames+1<=_;omega,by show 0<=o.rows+q.1.rows∧o.rows+q.1.rows<=_;omega,?_⟩;show(if o.frames % 4=0∧o.out.length<64 then o.out++[⟨q.2,o.rows,o.last⟩] else o.out).length<=_∨_;split
   ·next hc=>right;rw[List.length_append,List.length_singleton];omega
   ·exact h.out
  ·exact⟨by omega,by omega,h.out⟩
section
variable {w w':World} {a:Nat} {x:Rw} {F:Nat->Prop}
theorem fJ(h:ba w a x F):Calls Tryz.prog 40 #[.pointer (some ⟨a,0,none⟩)] w fun e w'=>∃q cap,e=.returned (.slice q x.entries.length cap)∧bv w' w.1.size (.slice q x.entries.length cap) x.entries∧Below w.1.size w w':=by
  obtain⟨lp,hk,g5,g4,sp,hl,eq,er,eu⟩:=h.old;obtain⟨c0,c1,c2,c3,c4⟩:=cQ5 eq;obtain⟨c9,c8,dd⟩:=er w (Aside.refl _ _);have bn:=h.small;obtain⟨ak,df⟩:∃ak,ak=x.f0:=⟨_,rfl⟩;obtain⟨a1,dp⟩:∃a1,a1=x.r0:=⟨_,rfl⟩;obtain⟨l,cc⟩:∃l,l=x.l:=⟨_,rfl⟩;obtain⟨A,dr⟩:∃A,A=x.s0:=⟨_,rfl⟩;obtain⟨V,b9⟩:∃V,V=x.e0:=⟨_,rfl⟩;have ea:Hid (x.entries=(l.foldl Rw.enter ⟨V,ak,a1,A.foldl (fun _ q=>q.2) 0⟩).out):=by show x.entries=_;rw[cc,df,dp,dr,b9];rfl
  have gd:=bn.f0;have gn:=bn.r0;have gl:=bn.l;have gq:=bn.s0;have d9:Hid (∀q∈l,q.1.kind=2->0<=q.1.rows∧q.1.rows<=64):=by rw[cc];exact bn.rows
  rw[<-df] at c1 gd;rw[<-dp] at c2 gn;rw[<-cc] at c0 c9 gl;rw[<-dr] at c4 dd gq;have d3:Hid (V=x.e0):=b9;rw[<-b9] at c3 c8 eu;have fs:=xX c9;have fv:=xX dd;have e9:=xX c8;obtain⟨T,eC⟩:∃T,T=x.entries:=⟨_,rfl⟩;rw[<-eC] at ea ⊢;clear h eq er bn df dp cc dr b9 c9 dd c8 eC;go_enter Tryz.func40,Tryz.ntmps40
  go_wp2_with (first|(at_builtin;refine iE (xs:=[]) (B:=w.1.size) (dn w w.1.size) e9.out (by simp;omega) xZ rfl rfl rfl rfl rfl ?_;intro gN gs f2 bp eb bO bk I;have d6:=xX bO;have bj:Below w.1.size w bp:=bk.below xZ (fun i gf E=>by simp[Value.ownBlock] at E);have e4:=ac bj c0;have g0:=ac bj c1;have g1:=ac bj c2;have g2:=ac bj c4;have b0:=xX bj;clear bO bk I bj)|fail)
  have e1:gN=V:=eb.out;rw[e1] at d6 ⊢;clear e1 eb c0 c1 c2 c3 c4;go_loopw [6,29] (fun d0 ds wr=>∃i:Nat,i<=A.length∧ds=.int .i64 (i:Nat)∧d0=.int .i64 ((A.take i).foldl (fun _ q=>q.2) 0)∧Hid (Below bp.1.size bp wr)) (fun _ ds _=>A.length-(intOf ds).toNat);case atStart=>exact⟨0,by omega,rfl,rfl,xY⟩
  case round=>
    obtain⟨i,gf,rfl,rfl,J⟩:=hrel;have ha:(i:Int)<=1:=(by omega);obtain⟨N,b5⟩:∃N,N=(A.take i).foldl (fun(_:Int) (q:Fr×Int)=>q.2) 0:=⟨_,rfl⟩;rw[<-b5];by_cases Y:i<A.length
    · have f1:(i:Int)<(A.length:Int):=(by omega);have Z:=cL (fun(_:Int) (q:Fr×Int)=>q.2) 0 A i Y;have bN:Below w.1.size w wr:=b0.out.trans (J.out.mono b0.out.size);obtain⟨b,D,rfl,bs⟩:=fv.out i Y;obtain⟨bd,bc,a5,a4,a7,a6,-,cn,co,cs,ct,cv,cw,cx,cy,c5,c6,cp,cq⟩:=(bs.on bN).out;generalize A[i].1.kind=L,A[i].1.number=k1,A[i].1.cols.length=k2,A[i].1.seq=k3,A[i].1.first=k4,A[i].1.rows=k5,A[i].1.block.length=k6,A[i].1.index.at_=k7,A[i].1.index.frames=k8,A[i].1.index.rows=k9,A[i].1.index.entries.length=k10,A[i].2=k11 at cn co cs ct cv cw cx cy c5 c6 cp cq Z;have O:=xX Z;have be:Hid (∀D,Below bp.1.size bp (wr.alloc D)):=fun D=>J.out.alloc J.out.size D;clear Z bs b5 J bN;go_wp2;go_roundw;case rel=>exact⟨i+1,by omega,by go_num,by rw[O.out],be.out _⟩
      case measure=>simp[intOf];omega
    · have f1:¬(i:Int)<(A.length:Int):=(by omega);have fi:Hid (N=A.foldl (fun _ q=>q.2) 0):=(by show N=_;rw[b5,List.take_of_length_le (by omega)]);have hn:=ac J.out e4;have ez:EnB x 0 ⟨V,ak,a1,N⟩:=⟨by show 0<=ak∧ak<=_;omega,by show 0<=a1∧a1<=_;omega,.inl (by show V.length<=_;rw[d3.out];exact xZ)⟩;have e8:=xX ez;have bN:Below w.1.size w wr:=b0.out.trans (J.out.mono b0.out.size);have e5:=xX bN;have fo:=xX (d6.out.on J.out);have hj:x.e0.length*24<=140737488351232:=(by rw[<-d3.out];exact eu);obtain⟨U,ew⟩:∃U:Rw.En,U=⟨V,ak,a1,N⟩:=⟨_,rfl⟩;have d4:=xX ew;clear b5 Y ez bN J e4 g0 g1 g2 ew;go_wp2_with fail;go_loopw [3,4,5,6,41] (fun gt gz gL d0 dv wq=>∃(i:Nat) (z:Rw.En) (q:OA) (cap:Nat),i<=l.length∧dv=.int .i64 (i:Nat)∧gt=.slice q z.out.length cap∧gz=.int .i64 z.frames∧gL=.int .i64 z.rows∧d0=.int .i64 z.last∧Hid (z=(l.take i).foldl Rw.enter U∧EnB x i z)∧Hid (bv wq w.1.size (.slice q z.out.length cap) z.out)∧Hid (Below w.1.size w wq)) (fun _ _ _ _ dv _=>l.length-(intOf dv).toNat);case atStart=>exact⟨0,⟨V,ak,a1,N⟩,gs,f2,by omega,rfl,rfl,rfl,rfl,rfl,⟨by rw[d4.out];rfl,e8.out⟩,fo,e5⟩
      case round=>
        obtain⟨o,z,q,cap,g8,rfl,rfl,rfl,rfl,rfl,aj,b1,J⟩:=hrel;have hc:(o:Int)<=1000000:=(by omega);obtain⟨out,y,ro,la⟩:=z;have f8:0<=y∧y<=1099511627776+o:=aj.out.2.frames;have f9:0<=ro∧ro<=1099511627776+64*o:=aj.out.2.rows;have b7:out.length<=x.e0.length∨out.length<=64:=aj.out.2.out;have g7:y<=2199023255552:=(by omega);have hi:ro<=2199023255552:=(by omega);have cb:0<=y:=f8.1;have hh:0<=ro:=f9.1;have hg:(out.length:Int)<=140737488351232:=(by omega);dsimp only;by_cases Y:o<l.length
        · have f3:(o:Int)<(l.length:Int):=(by omega);have Z:=cL Rw.enter U l o Y;rw[<-aj.out.1] at Z;have b4:=ta aj.out.2 l[o] (d9.out l[o] (List.getElem_mem Y));have bl:=d9.out l[o] (List.getElem_mem Y);obtain⟨b,D,rfl,bs⟩:=fs.out o Y;obtain⟨bd,bc,a5,a4,a7,a6,-,cn,co,cs,ct,cv,cw,cx,cy,c5,c6,cp,cq⟩:=(bs.on J.out).out;have eL:Rw.enter ⟨out,y,ro,la⟩ l[o]=if l[o].1.kind=1 then ⟨out,y,ro,l[o].2⟩ else if l[o].1.kind=2 then ⟨if y % 4=0∧out.length<64 then out++[⟨l[o].2,ro,la⟩] else out,y+1,ro+l[o].1.rows,la⟩ else ⟨out,y,ro,la⟩:=rfl;rw[eL] at Z b4;generalize l[o].1.kind=L,l[o].1.number=k1,l[o].1.cols.length=k2,l[o].1.seq=k3,l[o].1.first=k4,l[o].1.rows=k5,l[o].1.block.length=k6,l[o].1.index.at_=k7,l[o].1.index.frames=k8,l[o].1.index.rows=k9,l[o].1.index.entries.length=k10,l[o].2=k11 at cn co cs ct cv cw cx cy c5 c6 cp cq Z b4 bl;have O:=xX Z;have ah:=xX b4;have be:Hid (∀D,Below w.1.size w (wr.alloc D)):=fun D=>J.out.alloc J.out.size D;have d5:Hid (∀k,(Value.slice q out.length cap).ownBlock=some k->w.1.size<=k∧k<wr.1.size):=b1.out.lt;have b2:Hid (∀D,bv (wr.alloc D) w.1.size (.slice q out.length cap) out):=fun D=>b1.out.on (xY.alloc xZ D);clear Z bs eL b4 aj b1 J;by_cases K:L=1
          · have f4:(L==1)=true:=(by rw[beq_iff_eq];exact K);have a3:Hid ((l.take (o+1)).foldl Rw.enter U=⟨out,y,ro,k11⟩):=(by show _=_;rw[O.out,if_pos K]);have a2:Hid (EnB x (o+1) ⟨out,y,ro,k11⟩):=(by have:=ah.out;rw[if_pos K] at this;exact this);clear O ah K;go_wp2;go_roundw;case rel=>exact⟨o+1,⟨out,y,ro,k11⟩,q,cap,by omega,by go_num,rfl,rfl,rfl,rfl,⟨a3.out.symm,a2.out⟩,b2.out _,be.out _⟩
            case measure=>simp[intOf];omega
          · have f4:(L==1)=false:=(by rw[beq_eq_false_iff_ne];exact K);by_cases I:L=2
            · have f5:(L==2)=true:=(by rw[beq_iff_eq];exact I);obtain⟨he,hf⟩:=bl I;have bb:(l.take (o+1)).foldl Rw.enter U=⟨if y % 4=0∧out.length<64 then out++[⟨k11,ro,la⟩] else out,y+1,ro+k5,la⟩:=(by rw[O.out,if_neg K,if_pos I]);have a8:EnB x (o+1) ⟨if y % 4=0∧out.length<64 then out++[⟨k11,ro,la⟩] else out,y+1,ro+k5,la⟩:=(by have:=ah.out;rw[if_neg K,if_pos I] at this;exact this);by_cases E:y % 4=0∧out.length<64
              · have en:(y.tmod 4==0)=true:=(by rw[beq_iff_eq,Int.tmod_eq_emod_of_nonneg cb];exact E.1);have c7:(out.length:Int)<64:=(by omega);have f6:decide ((out.length:Int)<64)=true:=decide_eq_true c7;rw[if_pos E] at bb a8;have f7:decide (out.length<64)=true:=decide_eq_true E.2;have ep:(y % 4==0)=true:=(by rw[beq_iff_eq];exact E.1);have a3:=xX bb;have a2:=xX a8;obtain⟨M,a9⟩:∃M,M=wr.alloc (.cells #[.int .i64 L,.int .i64 k1,.slice bd k2 bc,.int .i64 k3,.int .i64 k4,.int .i64 k5,.slice a5 k6 a4,.int .i64 k7,.int .i64 k8,.int .i64 k9,.slice a7 k10 a6,.int .i64 k11] 115):=⟨_,rfl⟩;obtain⟨R,b6⟩:∃R,R=M.alloc (.cells #[.int .i64 k11,.int .i64 ro,.int .i64 la] 61):=⟨_,rfl⟩;have e2:M.1.size=wr.1.size+1:=(by rw[a9];simp);have gb:Below wr.1.size wr M:=(by rw[a9];exact xV);have b8:Below M.1.size M R:=(by rw[b6];exact xV);have eS:M.1[wr.1.size]?=some (.cells #[.int .i64 L,.int .i64 k1,.slice bd k2 bc,.int .i64 k3,.int .i64 k4,.int .i64 k5,.slice a5 k6 a4,.int .i64 k7,.int .i64 k8,.int .i64 k9,.slice a7 k10 a6,.int .i64 k11] 115):=(by rw[a9];exact ag wr _);have bT:R.1[M.1.size]?=some (.cells #[.int .i64 k11,.int .i64 ro,.int .i64 la] 61):=(by rw[b6];exact ag M _);have f0:Hid ((wr.alloc (.cells #[.int .i64 L,.int .i64 k1,.slice bd k2 bc,.int .i64 k3,.int .i64 k4,.int .i64 k5,.slice a5 k6 a4,.int .i64 k7,.int .i64 k8,.int .i64 k9,.slice a7 k10 a6,.int .i64 k11] 115)).alloc (.cells #[.int .i64 k11,.int .i64 ro,.int .i64 la] 61)=R):=by rw[b6,a9];exact rfl
                have e7:Hid (di R (some ⟨wr.1.size+1,0,none⟩) [⟨k11,ro,la⟩]):=fun j gh=>by
                  obtain rfl:j=0:=by simpa using gh
                  rw[<-e2];exact⟨M.1.size,0,rfl,az bT,aa bT 0,aa bT 1,aa bT 2⟩
                have fr:Hid (bv R w.1.size (.slice q out.length cap) out):=by
                  have X:=b2.out (.cells #[.int .i64 L,.int .i64 k1,.slice bd k2 bc,.int .i64 k3,.int .i64 k4,.int .i64 k5,.slice a5 k6 a4,.int .i64 k7,.int .i64 k8,.int .i64 k9,.slice a7 k10 a6,.int .i64 k11] 115);rw[<-a9] at X;exact X.on b8
                have ck:Hid (Below w.1.size w R):=by
                  have X:=be.out (.cells #[.int .i64 L,.int .i64 k1,.slice bd k2 bc,.int .i64 k3,.int .i64 k4,.int .i64 k5,.slice a5 k6 a4,.int .i64 k7,.int .i64 k8,.int .i64 k9,.slice a7 k10 a6,.int .i64 k11] 115);rw[<-a9] at X;exact X.trans (b8.mono X.size)
                have el:Hid (R.1[wr.1.size]?=some (.cells #[.int .i64 L,.int .i64 k1,.slice bd k2 bc,.int .i64 k3,.int .i64 k4,.int .i64 k5,.slice a5 k6 a4,.int .i64 k7,.int .i64 k8,.int .i64 k9,.slice a7 k10 a6,.int .i64 k11] 115)):=(b8.block _ (by omega)).trans eS;have fy:Hid (w.1.size<=R.1.size):=ck.out.size;have gm:(out.length+1)*24<=140737488355328:=(by omega);clear O ah K I E bb a8 bl b7 a9 b6 e2 gb b8 eS bT
                go_wp2_with (first|(at_builtin;rw[f0.out];refine iE fr.out e7.out (by simpa using gm) fy.out rfl rfl rfl rfl rfl ?_;intro d1 e3 em b3 ec bO bk I;have d7:=xX bO;have d2:Hid (Below w.1.size w b3):=ck.out.trans (bk.below ck.out.size (fun k K E=>by have:=(d5.out k E).1;omega));have eU:=(bk.block _ (az el.out) (fun E=>by have:=(d5.out _ E).2;omega)).trans el.out;have hm:b3.cell? ⟨wr.1.size,5,none⟩=some (.int .i64 k5):=aa eU 5;clear bO bk I eU)|fail)
                have ci:d1=out++[⟨k11,ro,la⟩]:=ec.out;have g3:=xX ci;have fx:Hid (∃(i:Nat) (z:Rw.En) (bX:OA) (bq:Nat),i<=l.length∧Value.int .i64 ((o:Int)+1)=.int .i64 (i:Nat)∧Value.slice e3 d1.length em=.slice bX z.out.length bq∧Value.int .i64 (y+1)=.int .i64 z.frames∧Value.int .i64 (ro+k5)=.int .i64 z.rows∧Value.int .i64 la=.int .i64 z.last∧Hid (z=(l.take i).foldl Rw.enter U∧EnB x i z)∧Hid (bv b3 w.1.size (.slice bX z.out.length bq) z.out)∧Hid (Below w.1.size w b3)):=⟨o+1,⟨d1,y+1,ro+k5,la⟩,e3,em,by omega,by go_num,rfl,rfl,rfl,rfl,⟨by rw[ci];exact a3.out.symm,by rw[ci];exact a2.out⟩,d7.out,d2.out⟩;clear ci ec d7 d2;go_roundw;case rel=>exact fx.out
                case measure=>simp[intOf];omega
              · rw[if_neg E] at bb a8;have a3:=xX bb;have a2:=xX a8;have d8:Hid (∀cj,(∃D,cj=wr.alloc D)->∃(i:Nat) (z:Rw.En) (bX:OA) (bq:Nat),i<=l.length∧Value.int .i64 ((o:Int)+1)=.int .i64 (i:Nat)∧Value.slice q out.length cap=.slice bX z.out.length bq∧Value.int .i64 (y+1)=.int .i64 z.frames∧Value.int .i64 (ro+k5)=.int .i64 z.rows∧Value.int .i64 la=.int .i64 z.last∧Hid (z=(l.take i).foldl Rw.enter U∧EnB x i z)∧Hid (bv cj w.1.size (.slice bX z.out.length bq) z.out)∧Hid (Below w.1.size w cj)):=fun cj ⟨D,e0⟩=>⟨o+1,⟨out,y+1,ro+k5,la⟩,q,cap,by omega,by go_num,rfl,rfl,rfl,rfl,⟨a3.out.symm,a2.out⟩,by rw[e0];exact b2.out D,by rw[e0];exact be.out D⟩;by_cases a0:y % 4=0
                · have en:(y.tmod 4==0)=true:=(by rw[beq_iff_eq,Int.tmod_eq_emod_of_nonneg cb];exact a0);have c7:¬(out.length:Int)<64:=fun h=>E ⟨a0,by omega⟩;have f6:decide ((out.length:Int)<64)=false:=decide_eq_false c7;have f7:decide (out.length<64)=false:=decide_eq_false (by omega);have ep:(y % 4==0)=true:=(by rw[beq_iff_eq];exact a0);clear O ah K I E a0 bb a8 bl b7;go_wp2;go_roundw;case rel=>exact d8.out _ ⟨_,rfl⟩
                  case measure=>simp[intOf];omega
                · have en:(y.tmod 4==0)=false:=(by rw[beq_eq_false_iff_ne,Int.tmod_eq_emod_of_nonneg cb];exact a0);have ep:(y % 4==0)=false:=(by rw[beq_eq_false_iff_ne];exact a0);have g6:¬y.tmod 4=0:=(by rw[Int.tmod_eq_emod_of_nonneg cb];exact a0);clear O ah K I E a0 bb a8 bl b7;go_wp2;go_roundw;case rel=>exact d8.out _ ⟨_,rfl⟩
                  case measure=>simp[intOf];omega
            · have f5:(L==2)=false:=(by rw[beq_eq_false_iff_ne];exact I);have a3:Hid ((l.take (o+1)).foldl Rw.enter U=⟨out,y,ro,la⟩):=(by show _=_;rw[O.out,if_neg K,if_neg I]);have a2:Hid (EnB x (o+1) ⟨out,y,ro,la⟩):=(by have:=ah.out;rw[if_neg K,if_neg I] at this;exact this);clear O ah K I bl;go_wp2;go_roundw;case rel=>exact⟨o+1,⟨out,y,ro,la⟩,q,cap,by omega,by go_num,rfl,rfl,rfl,rfl,⟨a3.out.symm,a2.out⟩,b2.out _,be.out _⟩
              case measure=>simp[intOf];omega
        · have f3:¬(o:Int)<(l.length:Int):=(by omega);have e6:Hid (out=T):=by
            show out=T;have X:=aj.out.1;rw[List.take_of_length_le (by omega),d4.out,fi.out] at X;rw[ea.out,<-X]
          clear aj Y b7;go_wp2;go_ret;rw[<-e6.out];exact⟨q,cap,rfl,b1.out,J.out⟩
end
end
section
open Go.RowKit
section
variable {w w':World} {a:Nat} {x:Rw} {F:Nat->Prop}
theorem i6(h:ba w a x F)(bc:¬F a)(c9:-1<=x.number∧x.number<2147483648)(f:Fr)(a3:f.kind=1)(u:AV)(b7:aP w u f)(p:Int):
  Calls Tryz.prog 64 #[.pointer (some ⟨a,0,none⟩),.agg u,.int .i64 p] w fun e w'=>e=.returned (.bool (x.follows f p))∧Below w.1.size w w':=by
 obtain⟨sp,a6,b1,b0,b3,b2,rfl,c6,c7,b8,-⟩:=b7.out;unfold aB
 have HX:Hid (x.follows f p=if f.number=x.number+1 then true else match x.schema f.number with
  |some q=>decide (f.number=x.number)&&Sch.same q.1.cols f.cols
  |none=>false):=by show x.follows f p=_;unfold Rw.follows;rw[if_pos a3];rfl
 obtain⟨X,K⟩:∃X,X=w.alloc (.cells #[.int .i64 f.kind,.int .i64 f.number,.slice sp f.cols.length a6,.int .i64 f.seq,.int .i64 f.first,.int .i64 f.rows,.slice b1 f.block.length b0,.int .i64 f.index.at_,.int .i64 f.index.frames,.int .i64 f.index.rows,.slice b3 f.index.entries.length b2] 47):=⟨_,rfl⟩;have a1:Below w.1.size w X:=by rw[K];exact xV
 have a2:X.1[w.1.size]?=some (.cells #[.int .i64 f.kind,.int .i64 f.number,.slice sp f.cols.length a6,.int .i64 f.seq,.int .i64 f.first,.int .i64 f.rows,.slice b1 f.block.length b0,.int .i64 f.index.at_,.int .i64 f.index.frames,.int .i64 f.index.rows,.slice b3 f.index.entries.length b2] 47 (0,0)):=by rw[K];exact ag w _
 have bb:=h.on a1 bc;have a7:=xX (cW bb);have cj:=xX bb;have cp:=xX (b8.on a1);obtain⟨N,b6⟩:∃N,N=x.number:=⟨_,rfl⟩;rw[<-b6] at a7 HX c9;rw[a3] at K a2;obtain⟨A,D⟩:∃y,y=f.number:=⟨_,rfl⟩;obtain⟨cv,ah⟩:∃y,y=f.cols.length:=⟨_,rfl⟩;obtain⟨d6,E⟩:∃y,y=f.seq:=⟨_,rfl⟩;obtain⟨d7,R⟩:∃y,y=f.first:=⟨_,rfl⟩;obtain⟨d8,bj⟩:∃y,y=f.rows:=⟨_,rfl⟩;obtain⟨d9,bk⟩:∃y,y=f.block.length:=⟨_,rfl⟩;obtain⟨ea,bl⟩:∃y,y=f.index.at_:=⟨_,rfl⟩;obtain⟨eb,bn⟩:∃y,y=f.index.frames:=⟨_,rfl⟩;obtain⟨ec,bp⟩:∃y,y=f.index.rows:=⟨_,rfl⟩;obtain⟨d5,be⟩:∃y,y=f.index.entries.length:=⟨_,rfl⟩;rw[<-D,<-ah,<-E,<-R,<-bj,<-bk,<-bl,<-bn,<-bp,<-be] at K a2;rw[a3,<-D,<-ah,<-E,<-R,<-bj,<-bk,<-bl,<-bn,<-bp,<-be];rw[<-D] at HX;rw[<-ah] at c6 c7;have cq:=xX ah;have cs:=xX K.symm;have aj:=xX a1;have bX:=xX a2;have en:X.1.size=w.1.size+1:=by rw[K];simp
 obtain⟨r,cb⟩:∃r,r=x.follows f p:=⟨_,rfl⟩;rw[<-cb] at HX ⊢;clear h bb b7 b8 b6 a1 a2 K D ah E R bj bk bl bn bp be a3 cb;go_enter Tryz.func64,Tryz.ntmps64;go_wp2_with fail;rw[cs.out];refine a7.out.mono ?_;rintro e w1 ⟨rfl,D⟩;have V:=xX D;have bq:=(D.block _ (by omega)).trans bX.out;obtain⟨dd,df,dr,ds,dv,d0,d1,d2,d3,d4,dp⟩:=aO bq;have co:=xX bq;have ep:=D.size;clear D bq a7 bX;by_cases M:A=N+1
 ·have cw:(A==N+1)=true:=by rw[beq_iff_eq];exact M
  have J:Hid (r=true):=by show r=true;rw[HX.out,if_pos M]
  have I:=xX (aj.out.trans (V.out.mono aj.out.size));clear M HX;go_wp2;go_ret;exact⟨by rw[J.out];rfl,I.out⟩
 ·have cw:(A==N+1)=false:=by rw[beq_eq_false_iff_ne];exact M
  have a8:=xX (gO (cj.out.on V.out bc) bc A);rw[if_neg M] at HX;obtain⟨o,b9⟩:∃o,o=x.schema A:=⟨_,rfl⟩;rw[<-b9] at a8 HX;clear M b9;go_wp2_with fail;refine a8.out.mono ?_;rintro e L ⟨a4,Z⟩;have I:=xX (aj.out.trans ((V.out.trans (Z.mono V.out.size)).mono aj.out.size));have U:=(Z.block _ (by omega)).trans co.out;have ck:=xX Z;have eq:=Z.size;clear dd df dr ds dv d0 d1 d2 d3 d4 dp Z a8;cases o with
  |none=>
   replace a4:e=.returned (.tuple #[.agg #[.slice none 0 0],.bool false]):=a4
   subst a4;have J:Hid (r=false):=HX.out;clear U HX;go_wp2;go_ret;exact⟨by rw[J.out];rfl,I.out.alloc I.out.size _⟩
  |some q=>
   obtain⟨bO,bN,rfl,b4,cy,b5⟩:=a4;have ak:Hid (r=(decide (A=N)&&Sch.same q.1.cols f.cols)):=HX.out;obtain⟨a5,bs⟩:∃a5,a5=q.1.cols.length:=⟨_,rfl⟩;rw[<-bs];obtain⟨Y,a0⟩:∃Y,Y=L.alloc (.cells #[.slice bO a5 bN] 41):=⟨_,rfl⟩;have E:Below L.1.size L Y:=(by rw[a0];exact xV);have c5:=(E.block _ (az U)).trans U;have c8:Y.1[L.1.size]?=some (.cells #[.slice bO a5 bN] 41):=(by rw[a0];exact ag L _);have bd:=gB q.1.cols f.cols bO sp bN a6 Y b4 (b5.on E) (((cp.out.on V.out).on ck.out).on E);rw[<-bs,<-cq.out] at bd;have a9:=xX bd;have bT:=xX (I.out.trans (E.mono I.out.size));have ct:=xX a0.symm;have el:∀o,(L.alloc o).cell? ⟨w.1.size,1,none⟩=some (.int .i64 A):=fun o=>ac (xY.alloc xZ o) (aa U 1);have em:∀o,(L.alloc o).cell? ⟨w.1.size,2,none⟩=some (.slice sp cv a6):=fun o=>ac (xY.alloc xZ o) (aa U 2);clear bd a0 E c5 c8 b4 cy b5 U bs HX;by_cases O:A=N
   ·have cx:(A==N)=true:=(by rw[beq_iff_eq];exact O);have J:Hid (r=Sch.same q.1.cols f.cols):=(by show r=_;rw[ak.out,decide_eq_true O,Bool.true_and]);clear O ak;go_wp2_with fail;rw[ct.out];refine a9.out.mono ?_;rintro e w4 ⟨rfl,R⟩;have cn:=xX (bT.out.trans (R.mono bT.out.size));obtain⟨z,cc⟩:∃z,z=Sch.same q.1.cols f.cols:=⟨_,rfl⟩;rw[<-cc] at J ⊢;clear R cc a9;go_wp2;go_ret;exact⟨by rw[J.out];rfl,cn.out⟩
   ·have cx:(A==N)=false:=(by rw[beq_eq_false_iff_ne];exact O);have J:Hid (r=false):=(by show r=_;rw[ak.out,decide_eq_false O,Bool.false_and]);clear O ak a9;go_wp2;go_ret;exact⟨by rw[J.out];rfl,I.out.alloc I.out.size _⟩
end
end
section
open Go.RowKit
section
variable {w w':World} {a:Nat} {x:Rw} {F:Nat->Prop}
theorem iZ(h:ba w a x F)(Y:¬F a)(f:Fr)(a5:f.kind=2)(u:AV)(b7:aP w u f)(p:Int):
  Calls Tryz.prog 64 #[.pointer (some ⟨a,0,none⟩),.agg u,.int .i64 p] w fun e w'=>e=.returned (.bool (x.follows f p))∧Below w.1.size w w':=by
 obtain⟨sp,b9,b3,b2,b5,b4,rfl,-⟩:=b7.out;unfold aB;have y:Hid (x.follows f p=decide (0<=x.number∧f.number=x.number∧f.seq=x.frames∧f.first=x.rows)):=by show x.follows f p=_;unfold Rw.follows;rw[if_neg (by omega),if_pos a5]
 obtain⟨R,E⟩:∃R,R=w.alloc (.cells #[.int .i64 f.kind,.int .i64 f.number,.slice sp f.cols.length b9,.int .i64 f.seq,.int .i64 f.first,.int .i64 f.rows,.slice b3 f.block.length b2,.int .i64 f.index.at_,.int .i64 f.index.frames,.int .i64 f.index.rows,.slice b5 f.index.entries.length b4] 47):=⟨_,rfl⟩;have a9:Below w.1.size w R:=by rw[E];exact xV
 have a4:R.1[w.1.size]?=some (.cells #[.int .i64 f.kind,.int .i64 f.number,.slice sp f.cols.length b9,.int .i64 f.seq,.int .i64 f.first,.int .i64 f.rows,.slice b3 f.block.length b2,.int .i64 f.index.at_,.int .i64 f.index.frames,.int .i64 f.index.rows,.slice b5 f.index.entries.length b4] 47 (0,0)):=by rw[E];exact ag w _
 have a8:=h.on a9 Y;have a7:=xX (cW a8);have a6:=xX a8;obtain⟨N,b6⟩:∃N,N=x.number:=⟨_,rfl⟩;rw[<-b6] at a7 y;rw[a5] at E a4;obtain⟨U,z⟩:∃o,o=f.number:=⟨_,rfl⟩;obtain⟨ds,bl⟩:∃o,o=f.cols.length:=⟨_,rfl⟩;obtain⟨V,a2⟩:∃o,o=f.seq:=⟨_,rfl⟩;obtain⟨a0,a3⟩:∃o,o=f.first:=⟨_,rfl⟩;obtain⟨dv,bc⟩:∃o,o=f.rows:=⟨_,rfl⟩;obtain⟨d0,bd⟩:∃o,o=f.block.length:=⟨_,rfl⟩;obtain⟨d1,be⟩:∃o,o=f.index.at_:=⟨_,rfl⟩;obtain⟨d2,bj⟩:∃o,o=f.index.frames:=⟨_,rfl⟩;obtain⟨d3,bk⟩:∃o,o=f.index.rows:=⟨_,rfl⟩;obtain⟨dr,bb⟩:∃o,o=f.index.entries.length:=⟨_,rfl⟩;rw[<-z,<-bl,<-a2,<-a3,<-bc,<-bd,<-be,<-bj,<-bk,<-bb] at E a4;rw[a5,<-z,<-bl,<-a2,<-a3,<-bc,<-bd,<-be,<-bj,<-bk,<-bb];rw[<-z,<-a2,<-a3] at y;have cc:=xX E.symm;have bO:=xX a9;have bT:=xX a4;have d4:R.1.size=w.1.size+1:=by rw[E];simp
 obtain⟨r,b8⟩:∃r,r=x.follows f p:=⟨_,rfl⟩;rw[<-b8] at y ⊢;clear h a8 b7 b6 a9 a4 E z bl a2 a3 bc bd be bj bk bb a5 b8;go_enter Tryz.func64,Tryz.ntmps64;go_wp2_with fail;rw[cc.out];refine a7.out.mono ?_;rintro e w1 ⟨rfl,z⟩;have ah:=xX z;have bn:=(z.block _ (by omega)).trans bT.out;obtain⟨d6,cx,c5,c6,c7,c8,c9,dd,df,dp,cy⟩:=aO bn;have cb:=xX bn;have d5:=z.size;clear z bn a7 bT;obtain⟨M,bp⟩:∃M,M=x.frames:=⟨_,rfl⟩;obtain⟨ro,bq⟩:∃ro,ro=x.rows:=⟨_,rfl⟩;have b0:Hid (∀w',Below w1.1.size w1 w'->Calls Tryz.prog 33 #[.pointer (some ⟨a,0,none⟩)] w' fun e Z=>e=.returned (.int .i64 M)∧Below w1.1.size w1 Z):=fun w' hb=>(eA ((a6.out.on ah.out Y).on hb Y)).mono fun e Z ⟨bs,bN⟩=>⟨by rw[bp];exact bs,hb.trans (bN.mono hb.size)⟩;have b1:Hid (∀w',Below w1.1.size w1 w'->Calls Tryz.prog 34 #[.pointer (some ⟨a,0,none⟩)] w' fun e Z=>e=.returned (.int .i64 ro)∧Below w1.1.size w1 Z):=fun w' hb=>(gC ((a6.out.on ah.out Y).on hb Y)).mono fun e Z ⟨bs,bN⟩=>⟨by rw[bq];exact bs,hb.trans (bN.mono hb.size)⟩;have ak:Hid (∀w',Below w1.1.size w1 w'->w'.cell? ⟨w.1.size,1,none⟩=some (.int .i64 U)∧w'.cell? ⟨w.1.size,3,none⟩=some (.int .i64 V)∧w'.cell? ⟨w.1.size,4,none⟩=some (.int .i64 a0)):=fun w' hb=>⟨ac hb cx,ac hb c6,ac hb c7⟩;rw[<-bp,<-bq] at y;have L:=xX (bO.out.trans (ah.out.mono bO.out.size));clear bp bq a6 ah cb c5 c8 c9 dd df dp cy;by_cases X:0<=N;case neg=>
  have cq:decide (0<=N)=false:=decide_eq_false X;have A:Hid (r=false):=by show r=_;rw[y.out,decide_eq_false (fun K=>X K.1)]
  clear X y;go_wp2_with fail;go_quiet (fail);go_wp2;go_ret;exact⟨by rw[A.out];rfl,below_drewN L.out _⟩
 have cq:decide (0<=N)=true:=decide_eq_true X;by_cases D:U=N;case neg=>
  have cs:(U==N)=false:=by rw[beq_eq_false_iff_ne];exact D
  have A:Hid (r=false):=by show r=_;rw[y.out,decide_eq_false (fun K=>D K.2.1)]
  clear D y;go_wp2_with fail;go_quiet (fail);go_wp2;go_ret;exact⟨by rw[A.out];rfl,below_drewN L.out _⟩
 have cs:(U==N)=true:=by rw[beq_iff_eq];exact D
 by_cases O:V=M;case neg=>
  have ct:(V==M)=false:=by rw[beq_eq_false_iff_ne];exact O
  have A:Hid (r=false):=by show r=_;rw[y.out,decide_eq_false (fun K=>O K.2.2.1)]
  clear D O y;go_wp2_with fail
  first
   |go_region_with (first|(go_at_call 33;refine(b0.out _ (xY.drew)).mono ?_;rintro e cv ⟨rfl,I⟩;obtain⟨ci,cj,ck⟩:=ak.out _ I;have aj:=xX I;clear I)|(go_at_call 34;refine(b1.out _ aj.out).mono ?_;rintro e cw ⟨rfl,J⟩;obtain⟨cn,co,cp⟩:=ak.out _ J;have bX:=xX J;clear J)|fail)
   |fail
  all_goals
   go_wp2;go_ret;exact⟨by rw[A.out];rfl,L.out.trans (aj.out.mono L.out.size)⟩
 have ct:(V==M)=true:=by rw[beq_iff_eq];exact O
 have A:Hid (r=(a0==ro)):=by
  show r=_;rw[y.out];by_cases a1:a0=ro
  ·rw[decide_eq_true ⟨X,D,O,a1⟩];exact(by rw[a1];simp)
  ·rw[decide_eq_false (fun K=>a1 K.2.2.2)];exact(by symm;rw[beq_eq_false_iff_ne];exact a1)
 clear D O y;go_wp2_with fail
 go_region_held3 (fun w'=>w'.cell? ⟨w.1.size,1,none⟩=some (.int .i64 U)∧w'.cell? ⟨w.1.size,3,none⟩=some (.int .i64 V)∧w'.cell? ⟨w.1.size,4,none⟩=some (.int .i64 a0)) (go_keep) (first|(go_at_call 33;refine(b0.out _ (xY.drew)).mono ?_;rintro e cv ⟨rfl,I⟩;obtain⟨ci,cj,ck⟩:=ak.out _ I;have aj:=xX I;clear I)|(go_at_call 34;refine(b1.out _ aj.out).mono ?_;rintro e cw ⟨rfl,J⟩;obtain⟨cn,co,cp⟩:=ak.out _ J;have bX:=xX J;clear J)|fail)
 go_wp2;go_ret;exact⟨by rw[A.out];rfl,L.out.trans (bX.out.mono L.out.size)⟩
end
end
end Go.Proofs.YtdkammppnkhhoaaGreatDoor
