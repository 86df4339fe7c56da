import Derived.Test.YtdkammppnkhhoaaGreatDoorA7
set_option maxRecDepth 100000
set_option maxHeartbeats 8000000
namespace Go.Proofs.YtdkammppnkhhoaaGreatDoor
variable{a b c:Bool}
section
open Go.RowKit
theorem bL(n b:Int)(w:World):Calls Tryz.prog 115 #[.int .i64 n,.int .i64 b] w fun e w'=>e=.returned (.bool (Fr.within b n))∧w'=w:=by
 by_cases o:0<=n
 ·by_cases y:n<b
  ·have e:Fr.within b n=true:=decide_eq_true ⟨o,y⟩;rw[e];clear e;go_enter Tryz.func115,Tryz.ntmps115;go_wp2;go_ret;exact⟨rfl,rfl⟩
  ·have e:Fr.within b n=false:=decide_eq_false (fun h=>y h.2);rw[e];clear e;go_enter Tryz.func115,Tryz.ntmps115;go_wp2;go_ret;exact⟨rfl,rfl⟩
 ·have e:Fr.within b n=false:=decide_eq_false (fun h=>o h.1);rw[e];clear e;go_enter Tryz.func115,Tryz.ntmps115;go_wp2;go_ret;exact⟨rfl,rfl⟩
theorem io(b:Nat)(l:List Int)(bk:l.length<=100)(Z:∀n∈l,0<=n∧n<=9223372036854775807)(w:World)(h:Ints w b l):
    Calls Tryz.prog 118 #[.slice (some ⟨b,0,none⟩) l.length l.length] w fun e w'=>∃p cap,e=.returned (.slice p (Fr.nums l).length cap)∧Has w' w.1.size (.slice p (Fr.nums l).length cap) (Fr.nums l)∧Below w.1.size w w':=by
  have H:=xX h;have a1:=xX Z;clear h Z;go_enter Tryz.func118,Tryz.ntmps118;go_wp2;go_loopw [3,4] (fun bb K wr=>∃(k:Nat) (xs:L8),k<=l.length∧K=.int .i64 k∧xs.length<=10*k∧Hid (xs=Fr.nums (l.take k)∧Has wr w.1.size bb xs∧Below w.1.size w wr)) (fun _ K _=>l.length-(intOf K).toNat);case atStart=>exact⟨0,[],by omega,rfl,by simp,rfl,aI _ _,xY⟩
  case round=>
    obtain⟨k,xs,bj,rfl,bp,o⟩:=hrel;have a3:=o.out.2.2.size;have y:=xX o.out.2.1;by_cases J:k<l.length
    · have bl:(k:Int)<(l.length:Int):=(by omega);have a4:wr.cell? ⟨b,k,none⟩=some (.int .i64 l[k]):=(o.out.2.2.cell (p:=⟨b,k,none⟩) H.out.1).trans (H.out.2 k J);have I:=a1.out l[k] (List.getElem_mem J);have D:=xX (eB l k J);obtain⟨m,V⟩:∃m:Nat,(m:Int)=l[k]:=⟨l[k].toNat,by omega⟩;rw[<-V] at a4 I D;have bn:(m:Int)<=9223372036854775807:=I.2;have A:Hid (∀L:Int,L=(m:Int)->Calls Tryz.prog 151 #[.int .u64 L] wr fun e w'=>∃g cap,e=.returned (.slice (some ⟨g,0,none⟩) (Leb.put m).length cap)∧bA w' wr.1.size g cap (Leb.put m)∧Below wr.1.size wr w'):=fun L a9=>by
        subst a9;exact cN _ (by omega) wr
      have a7:=Leb.put_length_le m;have M:Hid (Fr.nums (l.take (k+1))=Fr.nums (l.take k)++Leb.put m):=by
        show _=_;rw[D.out,Int.toNat_natCast]
      clear V I D;obtain⟨u,Y⟩:∃u,u=Leb.put m:=⟨_,rfl⟩;rw[<-Y] at A a7 M;clear Y;go_wp2_with fail;refine(A.out _ (by omega)).mono ?_;rintro e w1 ⟨g,bc,rfl,X,E⟩;have a0:=xX X;have z:=xX E;have be:=E.size;clear X E A
      go_wp2_with (first|(at_builtin;refine aw (y.out.on z.out) a0.out.at (by omega) (by omega) rfl rfl rfl rfl rfl ?_;intro ah bq bd W O U R a5;have aj:=xX (au R (y.out.on z.out) (by omega));have ak:=xX U;have a8:ah.length<=10*(k+1):=(by rw[O.out,List.length_append];omega);clear R a5 U)|fail)
      go_roundw;case rel=>exact⟨k+1,ah,by omega,by go_num,a8,by rw[O.out,M.out,o.out.1],ak.out,(o.out.2.2.trans (z.out.mono a3)).trans aj.out⟩
      case measure=>simp[intOf];omega
    · have a6:k=l.length:=(by omega);subst a6;have a2:Hid (xs=Fr.nums l):=by
        show _=_;rw[o.out.1,List.take_length]
      obtain⟨p,cap,rfl,-,-⟩:=y.out.at;go_wp2;go_ret;rw[<-a2.out];exact⟨p,cap,rfl,y.out,o.out.2.2⟩
theorem gk(h:¬(a&&b&&c)=true):a=false∨(a=true∧b=false)∨(a=true∧b=true∧c=false):=by
 revert h;cases a <;> cases b <;> cases c <;> simp
theorem gp(h:(a&&b&&c)=true):a=true∧b=true∧c=true:=by
 revert h;cases a <;> cases b <;> cases c <;> simp
theorem jC(es:List Ent)(i:Nat)(h:i<es.length)(o:(es.take i).all Fr.entOk=true)(y:Fr.entOk es[i]=true):(es.take (i+1)).all Fr.entOk=true:=by
 rw[List.take_succ_eq_append_getElem h,List.all_append,o];simp[y]
theorem rN(a b c:Int)(es:List Ent)(p:OA)(W:Nat)(w:World)(bl:es.length*24<=140737488351232)(h:di w p es):
  Calls Tryz.prog 117 #[.agg #[.int .i64 a,.int .i64 b,.int .i64 c,.slice p es.length W]] w fun e w'=>e=.returned (.int .i64 (Fr.idxErr ⟨a,b,c,es⟩:Nat))∧Below w.1.size w w':=by
 obtain⟨V,L⟩:∃V,V=Fr.idxErr ⟨a,b,c,es⟩:=⟨_,rfl⟩;rw[<-L];unfold Fr.idxErr at L;dsimp only at L;obtain⟨A,I⟩:∃A,A=w.alloc (.cells #[.int .i64 a,.int .i64 b,.int .i64 c,.slice p es.length W] 45):=⟨_,rfl⟩;have J:Hid (Below w.1.size w A):=by rw[I];exact xV
 have bq:A.cell? ⟨w.1.size,0,none⟩=some (.int .i64 a):=by rw[I];simp
 have bs:A.cell? ⟨w.1.size,1,none⟩=some (.int .i64 b):=by rw[I];simp
 have bN:A.cell? ⟨w.1.size,2,none⟩=some (.int .i64 c):=by rw[I];simp
 have bO:A.cell? ⟨w.1.size,3,none⟩=some (.slice p es.length W):=by rw[I];simp
 have a7:Hid (w.alloc (.cells #[.int .i64 a,.int .i64 b,.int .i64 c,.slice p es.length W] 45)=A):=by rw[I];exact rfl
 have H:=xX (h.on J.out);have z:=xX L;clear h I L;have X:=xX (bL a 1099511627776 A);have Y:=xX (bL b 1099511627776 A);have Z:=xX (bL c 1099511627776 A);have a6:Hid (Fr.S=1099511627776):=rfl;rw[a6.out] at z;generalize Fr.within 1099511627776 a=a1 at X z;generalize Fr.within 1099511627776 b=a2 at Y z;generalize Fr.within 1099511627776 c=a3 at Z z;go_enter Tryz.func117,Tryz.ntmps117;go_wp2_with fail;rw[a7.out];refine X.out.mono ?_;rintro e w1 ⟨rfl,o⟩;rw[o];clear o w1 X;go_wp2_with fail;refine Y.out.mono ?_;rintro e w1 ⟨rfl,o⟩;rw[o];clear o w1 Y;go_wp2_with fail;refine Z.out.mono ?_;rintro e w1 ⟨rfl,o⟩;rw[o];clear o w1 Z;by_cases y:(a1&&a2&&a3)=true
 ·rw[if_neg (by rw[y];decide)] at z;obtain⟨rfl,rfl,rfl⟩:=gp y;clear y;by_cases ah:64<es.length
  ·rw[if_pos ah] at z;have a8:(64:Int)<(es.length:Int):=(by omega);clear ah;go_wp2;go_ret;exact⟨by rw[z.out];rfl,J.out⟩
  ·rw[if_neg ah] at z;have a8:¬(64:Int)<(es.length:Int):=(by omega);go_wp2_with fail;go_loopw [6] (fun a4 wr=>∃i:Nat,i<=es.length∧a4=.int .i64 i∧wr=A∧Hid ((es.take i).all Fr.entOk=true)) (fun a4 _=>es.length-(intOf a4).toNat);case atStart=>exact⟨0,by omega,rfl,rfl,rfl⟩
   case round=>
    obtain⟨i,bk,rfl,rfl,U⟩:=hrel;by_cases ak:i<es.length
    ·have bn:(i:Int)<(es.length:Int):=(by omega);obtain⟨bj,bp,bb,-,bc,bd,be⟩:=H.out i ak;subst bb;have E:Hid (Fr.entOk es[i]=true->(es.take (i+1)).all Fr.entOk=true):=fun aj=>jC es i ak U.out aj;have D:Hid (Fr.entOk es[i]=false->V=7):=fun aj=>by
      rw[z.out,if_pos];rw[List.all_eq_false];exact⟨es[i],List.getElem_mem ak,by rw[aj];decide⟩
     have a5:Hid (Fr.entOk es[i]=(Fr.within 1099511627776 es[i].at_&&Fr.within 1099511627776 es[i].row&&Fr.within 1099511627776 es[i].sch)):=rfl;rw[a5.out] at E D;have M:=xX (bL es[i].at_ 1099511627776 wr);have O:=xX (bL es[i].row 1099511627776 wr);have R:=xX (bL es[i].sch 1099511627776 wr);clear a5 U;generalize Fr.within 1099511627776 es[i].at_=a1 at M E D;generalize Fr.within 1099511627776 es[i].row=a2 at O E D;generalize Fr.within 1099511627776 es[i].sch=a3 at R E D;generalize es[i].at_=a' at bc M;generalize es[i].row=b' at bd O;generalize es[i].sch=c' at be R;go_wp2_with fail;refine M.out.mono ?_;rintro e w1 ⟨rfl,o⟩;rw[o];clear o w1 M;go_wp2_with fail;refine O.out.mono ?_;rintro e w1 ⟨rfl,o⟩;rw[o];clear o w1 O;go_wp2_with fail;refine R.out.mono ?_;rintro e w1 ⟨rfl,o⟩;rw[o];clear o w1 R;by_cases y:(a1&&a2&&a3)=true
     ·have K:=xX (E.out y);obtain⟨rfl,rfl,rfl⟩:=gp y;clear y E D;go_wp2;go_roundw;case rel=>exact⟨i+1,by omega,by go_num,by first | rfl | trivial,K⟩
      case measure=>simp[intOf];omega
     ·have K:=xX (D.out (Bool.not_eq_true _ ▸ y));have a0:=gk y;clear y E D;rcases a0 with rfl | ⟨rfl,rfl⟩ | ⟨rfl,rfl,rfl⟩
      all_goals
       go_wp2;go_ret;exact⟨by rw[K.out];rfl,J.out⟩
    ·have a9:i=es.length:=(by omega);subst a9;have K:Hid (V=0):=by
      show _=_;have:=U.out;rw[List.take_length] at this;rw[z.out,if_neg (by rw[this];decide)]
     clear U;go_wp2;go_ret;exact⟨by rw[K.out];rfl,J.out⟩
 ·rw[if_pos (Bool.not_eq_true _ ▸ y)] at z;have a0:=gk y;clear y;rcases a0 with rfl | ⟨rfl,rfl⟩ | ⟨rfl,rfl,rfl⟩
  all_goals
   go_wp2;go_ret;exact⟨by rw[z.out];rfl,J.out⟩
end
section
open Go.RowKit
theorem nh(f:Fr)(R:f.kind=1)(X:f.wf)(u:AV)(w:World)(Z:aP w u f):
  Calls Tryz.prog 89 #[.agg u] w fun e w'=>e=.returned (.int .i64 (Fr.err0 f:Nat))∧Below w.1.size w w':=by
 obtain⟨sp,E,L,K,O,M,rfl,a0,a1,V,bl,bn,a2,bp,bq,a3⟩:=Z.out;unfold aB;obtain⟨U,z⟩:∃U,U=Fr.err0 f:=⟨_,rfl⟩;rw[<-z];unfold Fr.err0 at z;rw[if_pos R] at z;rw[R];obtain⟨w0,D⟩:∃w0,w0=w.alloc (.cells #[.int .i64 1,.int .i64 f.number,.slice sp f.cols.length E,.int .i64 f.seq,.int .i64 f.first,.int .i64 f.rows,.slice L f.block.length K,.int .i64 f.index.at_,.int .i64 f.index.frames,.int .i64 f.index.rows,.slice O f.index.entries.length M] 47):=⟨_,rfl⟩;have A:Hid (Below w.1.size w w0):=by rw[D];exact xV
 have ak:Hid (w.alloc (.cells #[.int .i64 1,.int .i64 f.number,.slice sp f.cols.length E,.int .i64 f.seq,.int .i64 f.first,.int .i64 f.rows,.slice L f.block.length K,.int .i64 f.index.at_,.int .i64 f.index.frames,.int .i64 f.index.rows,.slice O f.index.entries.length M] 47)=w0):=by rw[D];exact rfl
 have o:w0.1[w.1.size]?=some (.cells #[.int .i64 1,.int .i64 f.number,.slice sp f.cols.length E,.int .i64 f.seq,.int .i64 f.first,.int .i64 f.rows,.slice L f.block.length K,.int .i64 f.index.at_,.int .i64 f.index.frames,.int .i64 f.index.rows,.slice O f.index.entries.length M] 47 (0,0)):=by rw[D];exact ag w _
 have a5:=aa o 0;have a6:=aa o 1;have a8:=aa o 2;have a9:=aa o 3;have bb:=aa o 4;have bc:=aa o 5;have bd:=aa o 7;have be:=aa o 8;have bj:=aa o 9;have a7:=aa o 10;simp only[List.getElem?_toArray,List.getElem?_cons_zero,List.getElem?_cons_succ] at a5 a6 a8 a9 bb bc bd be bj a7;clear D o;have J:=xX (jV f.cols sp E w0 a0 a1 (V.on A.out) X.2.2.1);have I:=xX (bL f.number 2147483648 w0);have y:=xX z;have aj:Hid (Fr.N=2147483648):=rfl;rw[aj.out] at y;generalize Fr.within 2147483648 f.number=a4 at I y;generalize Sch.err f.cols=bk at J y;clear z Z V a2 a3 X R;go_enter Tryz.func89,Tryz.ntmps89;go_wp2_with fail;rw[ak.out];refine I.out.mono ?_;rintro e w1 ⟨rfl,Y⟩;rw[Y];clear Y w1 I;cases a4 with
 |false=>
  rw[if_pos rfl] at y;go_wp2;go_ret;exact⟨by rw[y.out];rfl,A.out⟩
 |true=>
  rw[if_neg (by decide)] at y;go_wp2_with fail;refine J.out.mono ?_;rintro e w1 ⟨rfl,W⟩;have ah:=xX (A.out.trans (W.mono A.out.size));clear W J;go_wp2;go_ret;exact⟨by rw[y.out];rfl,ah.out⟩
theorem ng(f:Fr)(V:f.kind=2)(u:AV)(w:World)(aj:aP w u f):
  Calls Tryz.prog 89 #[.agg u] w fun e w'=>e=.returned (.int .i64 (Fr.err0 f:Nat))∧Below w.1.size w w':=by
 obtain⟨sp,W,O,M,U,R,rfl,bn,bp,a3,bq,bs,a4,bN,bO,a5⟩:=aj.out;unfold aB;obtain⟨Z,D⟩:∃Z,Z=Fr.err0 f:=⟨_,rfl⟩;rw[<-D];unfold Fr.err0 at D;rw[if_neg (by omega),if_pos V] at D;rw[V];obtain⟨w0,I⟩:∃w0,w0=w.alloc (.cells #[.int .i64 2,.int .i64 f.number,.slice sp f.cols.length W,.int .i64 f.seq,.int .i64 f.first,.int .i64 f.rows,.slice O f.block.length M,.int .i64 f.index.at_,.int .i64 f.index.frames,.int .i64 f.index.rows,.slice U f.index.entries.length R] 47):=⟨_,rfl⟩;have E:Hid (Below w.1.size w w0):=by rw[I];exact xV
 have a2:Hid (w.alloc (.cells #[.int .i64 2,.int .i64 f.number,.slice sp f.cols.length W,.int .i64 f.seq,.int .i64 f.first,.int .i64 f.rows,.slice O f.block.length M,.int .i64 f.index.at_,.int .i64 f.index.frames,.int .i64 f.index.rows,.slice U f.index.entries.length R] 47)=w0):=by rw[I];exact rfl
 have y:w0.1[w.1.size]?=some (.cells #[.int .i64 2,.int .i64 f.number,.slice sp f.cols.length W,.int .i64 f.seq,.int .i64 f.first,.int .i64 f.rows,.slice O f.block.length M,.int .i64 f.index.at_,.int .i64 f.index.frames,.int .i64 f.index.rows,.slice U f.index.entries.length R] 47 (0,0)):=by rw[I];exact ag w _
 have a7:=aa y 0;have a8:=aa y 1;have bb:=aa y 2;have bc:=aa y 3;have bd:=aa y 4;have be:=aa y 5;have bj:=aa y 7;have bk:=aa y 8;have bl:=aa y 9;have a9:=aa y 10;simp only[List.getElem?_toArray,List.getElem?_cons_zero,List.getElem?_cons_succ] at a7 a8 bb bc bd be bj bk bl a9;clear I y;have J:=xX (bL f.number 2147483648 w0);have K:=xX (bL f.seq 1099511627776 w0);have L:=xX (bL f.first 1099511627776 w0);have o:=xX D;have X:Hid (Fr.N=2147483648):=rfl;have Y:Hid (Fr.S=1099511627776):=rfl;rw[X.out,Y.out] at o;generalize Fr.within 2147483648 f.number=ak at J o;generalize Fr.within 1099511627776 f.seq=a0 at K o;generalize Fr.within 1099511627776 f.first=a1 at L o;clear D aj a3 a4 a5 V X Y;go_enter Tryz.func89,Tryz.ntmps89;go_wp2_with fail;rw[a2.out];refine J.out.mono ?_;rintro e w1 ⟨rfl,z⟩;rw[z];clear z w1 J;go_wp2_with fail;refine K.out.mono ?_;rintro e w1 ⟨rfl,z⟩;rw[z];clear z w1 K;go_wp2_with fail;refine L.out.mono ?_;rintro e w1 ⟨rfl,z⟩;rw[z];clear z w1 L;by_cases A:(ak&&a0&&a1)=true
 ·rw[A,Bool.true_and] at o;obtain⟨rfl,rfl,rfl⟩:=gp A;clear A;by_cases bT:f.rows<1
  ·rw[if_pos (decide_eq_false (by omega))] at o;go_wp2;go_ret;exact⟨by rw[o.out];rfl,E.out⟩
  ·by_cases bX:64<f.rows
   ·rw[if_pos (decide_eq_false (by omega))] at o;go_wp2;go_ret;exact⟨by rw[o.out];rfl,E.out⟩
   ·rw[if_neg (by rw[decide_eq_true (by omega)];decide)] at o;go_wp2;go_ret;exact⟨by rw[o.out];rfl,E.out⟩
 ·have ah:(ak&&a0&&a1)=false:=Bool.eq_false_iff.2 A;rw[if_pos (by rw[ah,Bool.false_and])] at o;clear ah;have a6:=gk A;clear A;rcases a6 with rfl | ⟨rfl,rfl⟩ | ⟨rfl,rfl,rfl⟩
  all_goals
   go_wp2;go_ret;exact⟨by rw[o.out];rfl,E.out⟩
theorem nf(f:Fr)(L:f.kind=3)(u:AV)(w:World)(W:aP w u f):
  Calls Tryz.prog 89 #[.agg u] w fun e w'=>e=.returned (.int .i64 (Fr.err0 f:Nat))∧Below w.1.size w w':=by
 obtain⟨sp,M,K,J,A,z,rfl,a9,bb,Z,bc,bd,ah,aj,be,U⟩:=W.out;unfold aB;obtain⟨R,y⟩:∃R,R=Fr.err0 f:=⟨_,rfl⟩;rw[<-y];unfold Fr.err0 at y;rw[if_neg (by omega),if_neg (by omega),if_pos L] at y;rw[L];obtain⟨w0,D⟩:∃w0,w0=w.alloc (.cells #[.int .i64 3,.int .i64 f.number,.slice sp f.cols.length M,.int .i64 f.seq,.int .i64 f.first,.int .i64 f.rows,.slice K f.block.length J,.int .i64 f.index.at_,.int .i64 f.index.frames,.int .i64 f.index.rows,.slice A f.index.entries.length z] 47):=⟨_,rfl⟩;have E:Hid (Below w.1.size w w0):=by rw[D];exact xV
 have Y:Hid (w.alloc (.cells #[.int .i64 3,.int .i64 f.number,.slice sp f.cols.length M,.int .i64 f.seq,.int .i64 f.first,.int .i64 f.rows,.slice K f.block.length J,.int .i64 f.index.at_,.int .i64 f.index.frames,.int .i64 f.index.rows,.slice A f.index.entries.length z] 47)=w0):=by rw[D];exact rfl
 have o:w0.1[w.1.size]?=some (.cells #[.int .i64 3,.int .i64 f.number,.slice sp f.cols.length M,.int .i64 f.seq,.int .i64 f.first,.int .i64 f.rows,.slice K f.block.length J,.int .i64 f.index.at_,.int .i64 f.index.frames,.int .i64 f.index.rows,.slice A f.index.entries.length z] 47 (0,0)):=by rw[D];exact ag w _
 have ak:=aa o 0;have a0:=aa o 1;have a2:=aa o 2;have a3:=aa o 3;have a4:=aa o 4;have a5:=aa o 5;have a6:=aa o 7;have a7:=aa o 8;have a8:=aa o 9;have a1:=aa o 10;simp only[List.getElem?_toArray,List.getElem?_cons_zero,List.getElem?_cons_succ] at ak a0 a2 a3 a4 a5 a6 a7 a8 a1;clear D o;have I:=xX (rN f.index.at_ f.index.frames f.index.rows f.index.entries A z w0 aj (U.on E.out));have O:Hid (Fr.idxErr ⟨f.index.at_,f.index.frames,f.index.rows,f.index.entries⟩=Fr.idxErr f.index):=rfl;rw[O.out,<-y] at I;clear y W Z ah U L O;go_enter Tryz.func89,Tryz.ntmps89;go_wp2_with fail;rw[Y.out];refine I.out.mono ?_;rintro e w1 ⟨rfl,V⟩;have X:=xX (E.out.trans (V.mono E.out.size));clear V I;go_wp2;go_ret;exact⟨rfl,X.out⟩
theorem ni(f:Fr)(y:f.kind≠1)(z:f.kind≠2)(A:f.kind≠3)(u:AV)(w:World)(E:aP w u f):
  Calls Tryz.prog 89 #[.agg u] w fun e w'=>e=.returned (.int .i64 (Fr.err0 f:Nat))∧Below w.1.size w w':=by
 obtain⟨sp,a2,L,K,O,M,rfl,R,U,V,W,X,Y,Z,ah,aj⟩:=E.out;unfold aB;obtain⟨D,o⟩:∃D,D=Fr.err0 f:=⟨_,rfl⟩;rw[<-o];unfold Fr.err0 at o;rw[if_neg y,if_neg z,if_neg A] at o;subst o;have J:Hid (∀I,Below w.1.size w (w.alloc I)):=fun I=>xV;have ak:=aK y;have a0:=aK z;have a1:=aK A;clear y z A E;go_enter Tryz.func89,Tryz.ntmps89;go_wp2;go_ret;exact⟨rfl,J.out _⟩
theorem rD(f:Fr)(D:f.wf)(u:AV)(w:World)(o:aP w u f):
  Calls Tryz.prog 89 #[.agg u] w fun e w'=>e=.returned (.int .i64 (Fr.err0 f:Nat))∧Below w.1.size w w':=by
 by_cases y:f.kind=1
 ·exact nh f y D u w o
 by_cases z:f.kind=2
 ·exact ng f z u w o
 by_cases A:f.kind=3
 ·exact nf f A u w o
 exact ni f y z A u w o
theorem sI(n:Nat):(Sch.le 4 n).length=4:=by simp[Sch.le]
theorem uD(n k:Nat)(h:k<4):(Sch.le 4 n).take (k+1)=(Sch.le 4 n).take k++[UInt8.ofNat (n / 256 ^ k % 256)]:=by
 have e:Sch.le 4 n=[UInt8.ofNat (n / 256 ^ 0 % 256),UInt8.ofNat (n / 256 ^ 1 % 256),UInt8.ofNat (n / 256 ^ 2 % 256),UInt8.ofNat (n / 256 ^ 3 % 256)]:=by
  simp[Sch.le,Nat.div_div_eq_div_mul]
 rw[e];match k,h with
 |0,_=>rfl
 |1,_=>rfl
 |2,_=>rfl
 |3,_=>rfl
theorem fu(p:OA)(c:Nat)(l:L8)(a7:l.length<=140737488351232)(w:World)(h:At w p l):
    Calls Tryz.prog 120 #[.slice p l.length c] w fun e w'=>∃q cap,e=.returned (.slice q (Fr.check l).length cap)∧Has w' w.1.size (.slice q (Fr.check l).length cap) (Fr.check l)∧Below w.1.size w w':=by
  have z:=xX (iU p c l a7 w h);have X:=xX h;have ah:Hid (aI w w.1.size=aI w w.1.size):=rfl;have L:Crc.sum l<4294967296:=Crc.update_lt (by omega) l;obtain⟨S,D⟩:∃S,S=Crc.sum l:=⟨_,rfl⟩;rw[<-D] at z L;have a1:=xX D;clear h D ah;go_enter Tryz.func120,Tryz.ntmps120;go_wp2_with fail;refine z.out.mono ?_;rintro e w1 ⟨rfl,V⟩;rw[V];clear V w1 z
  go_wp2_with (first|(at_builtin;refine aw (aI w w.1.size) X.out (by simp;omega) xZ rfl rfl rfl rfl rfl ?_;intro I bs be W J R M a5;have Y:=xX (au M (aI w w.1.size) xZ);have aj:=xX R;clear M a5 R)|fail)
  have K:Hid (I=l):=by show _=_;rw[J.out];rfl
  clear J;have a2:Hid (I.length<=l.length+0):=by show _<=_;rw[K.out];exact xZ
  go_loopw [3,4,5] (fun bb bc E wr=>∃(k:Nat) (m:Nat) (xs:L8),k<=4∧E=.int .i64 k∧bb=.int .u32 (m:Nat)∧m<4294967296∧xs.length<=l.length+k∧Hid (m=S / 256 ^ k∧xs=l++(Sch.le 4 S).take k∧Has wr w.1.size bc xs∧Below w.1.size w wr)) (fun _ _ E _=>4-(intOf E).toNat);case atStart=>exact⟨0,S,I,by omega,rfl,rfl,L,a2.out,by simp,by rw[K.out];simp,aj.out,Y.out⟩
  case round=>
    obtain⟨k,m,xs,bl,rfl,rfl,bp,bq,o⟩:=hrel;have a3:=o.out.2.2.2.size;have y:=xX o.out.2.2.1;by_cases a8:k<4
    · have bn:(k:Int)<4:=(by omega);have a9:m / 256<4294967296:=(by omega);have a4:(UInt8.ofNat (m % 256)).toNat=m % 256:=(by rw[UInt8.toNat_ofNat'];omega);have a0:Hid (m / 256=S / 256 ^ (k+1)):=(by show _=_;rw[o.out.1,Nat.div_div_eq_div_mul,Nat.pow_succ]);have A:Hid (xs++[UInt8.ofNat (m % 256)]=l++(Sch.le 4 S).take (k+1)):=by show _=_;rw[uD S k a8,o.out.2.1,o.out.1,List.append_assoc]
      go_wp2_with (first|(at_builtin;refine aW y.out (UInt8.ofNat (m % 256)) (by omega) a3 (by rw[a4];omega) rfl rfl rfl rfl rfl ?_;intro bk bj bd U O;have ak:=xX U;have Z:=xX O;clear U O)|fail)
      go_roundw;case rel=>
        refine⟨k+1,m / 256,xs++[UInt8.ofNat (m % 256)],by omega,by go_num,by go_num,a9,by simp;omega,a0.out,A.out,?_,o.out.2.2.2.trans Z.out⟩;have:=ak.out.has;rw[List.length_append] at this;exact this
      case measure=>simp[intOf];omega
    · have a6:k=4:=(by omega);subst a6;have A:Hid (xs=Fr.check l):=by
        show _=_;rw[o.out.2.1,a1.out,Fr.check,List.take_of_length_le (by rw[sI];exact xZ)]
      obtain⟨q,cap,rfl,-,-⟩:=y.out.at;go_wp2;go_ret;rw[<-A.out];exact⟨q,cap,rfl,y.out,o.out.2.2.2⟩
end
section
open Go.RowKit
theorem bZ{w:World}{B n c:Nat}{q:OA}{l:L8}(h:Has w B (.slice q n c) l):At w q l:=by
 obtain⟨A,z,y,o,-⟩:=h.at;injection y with e1;subst e1;exact o
def pr(w:World)(l:L8)(e:Ending)(w':World):Prop:=∃q cap,e=.returned (.slice q l.length cap)∧Has w' w.1.size (.slice q l.length cap) l∧Below w.1.size w w'
theorem pP(f:Fr)(D:f.kind=2)(ew:f.block.length<=1048576)(d0:f.wf)(L:Fr.err0 f=0)(u:AV)(w:World)(b7:aP w u f):
    Calls Tryz.prog 90 #[.agg u] w (pr w (Fr.check (Fr.head f))):=by
  obtain⟨sp,a8,a4,a3,a6,a5,rfl,em,en,c9,ep,eq,bN,er,eu,dd⟩:=b7.out;unfold aB;obtain⟨w0,E⟩:∃w0,w0=w.alloc (.cells #[.int .i64 2,.int .i64 f.number,.slice sp f.cols.length a8,.int .i64 f.seq,.int .i64 f.first,.int .i64 f.rows,.slice a4 f.block.length a3,.int .i64 f.index.at_,.int .i64 f.index.frames,.int .i64 f.index.rows,.slice a6 f.index.entries.length a5] 47):=⟨_,rfl⟩;have b8:w0.1.size=w.1.size+1:=by rw[E];simp
  have A:Hid (Below w.1.size w w0):=by rw[E];exact xV
  have bT:w0.1[w.1.size]?=some (.cells #[.int .i64 2,.int .i64 f.number,.slice sp f.cols.length a8,.int .i64 f.seq,.int .i64 f.first,.int .i64 f.rows,.slice a4 f.block.length a3,.int .i64 f.index.at_,.int .i64 f.index.frames,.int .i64 f.index.rows,.slice a6 f.index.entries.length a5] 47 (0,0)):=by rw[E];exact ag w _
  obtain⟨w1,I⟩:∃w1,w1=w0.alloc (.cells #[.int .u8 2] 5):=⟨_,rfl⟩;have d1:w1.1.size=w.1.size+2:=by rw[I];simp[b8]
  have bb:Hid (Below w0.1.size w0 w1):=by rw[I];exact xV
  have c5:Hid (Has w1 w0.1.size (.slice (some ⟨w.1.size+1,0,none⟩) 1 1) [2]):=by
    have:=bP (B:=w0.1.size) (w:=w0) [2] (C:=#[.int .u8 2]) rfl xZ (by simp);rw[<-I] at this;show Has _ _ _ _;rw[b8] at this ⊢;exact this
  obtain⟨z,M⟩:∃z,z=w1.alloc (.cells #[.int .i64 f.number,.int .i64 f.seq,.int .i64 f.first,.int .i64 f.rows] 2):=⟨_,rfl⟩;have K:Hid (Below w1.1.size w1 z):=by rw[M];exact xV
  have bn:Hid (((w.alloc (.cells #[.int .i64 2,.int .i64 f.number,.slice sp f.cols.length a8,.int .i64 f.seq,.int .i64 f.first,.int .i64 f.rows,.slice a4 f.block.length a3,.int .i64 f.index.at_,.int .i64 f.index.frames,.int .i64 f.index.rows,.slice a6 f.index.entries.length a5] 47)).alloc (.cells #[.int .u8 2] 5)).alloc (.cells #[.int .i64 f.number,.int .i64 f.seq,.int .i64 f.first,.int .i64 f.rows] 2)=z):=by rw[M,I,E];exact rfl
  have df:0<=f.number∧0<=f.seq∧0<=f.first∧1<=f.rows:=by
    unfold Fr.err0 at L;rw[if_neg (by omega),if_pos D] at L;by_cases hb:(Fr.within Fr.N f.number&&Fr.within Fr.S f.seq&&Fr.within Fr.S f.first&&decide (1<=f.rows∧f.rows<=64))=false
    · rw[if_pos hb] at L;omega
    · rw[Bool.not_eq_false] at hb;simp only[Bool.and_eq_true,Fr.within_iff,decide_eq_true_eq] at hb;omega
  obtain⟨cb,cc,d3,ci,cj,ck,d4,d5⟩:=d0;unfold Fr.i64 at cb cc ci cj ck;have bO:Ints z (w.1.size+2) [f.number,f.seq,f.first,f.rows]:=by
    have:=cH w1 [f.number,f.seq,f.first,f.rows] (C:=#[.int .i64 f.number,.int .i64 f.seq,.int .i64 f.first,.int .i64 f.rows]) rfl;rw[<-M,d1] at this;exact this
  have a2:=xX (io (w.1.size+2) [f.number,f.seq,f.first,f.rows] (by simp) (fun m ds=>by
      simp only[List.mem_cons,List.not_mem_nil,or_false] at ds
      omega) z bO)
  have dv:(Fr.nums [f.number,f.seq,f.first,f.rows]).length<=40:=by
    have ea:=Leb.put_length_le f.number.toNat;have eb:=Leb.put_length_le f.seq.toNat;have ec:=Leb.put_length_le f.first.toNat;have el:=Leb.put_length_le f.rows.toNat;simp only[Fr.nums_cons,Fr.nums_nil,List.append_nil,List.length_append];omega
  have be:Hid (Fr.head f=2::(Fr.nums [f.number,f.seq,f.first,f.rows]++f.block)):=by
    show _=_;unfold Fr.head Fr.fields;rw[if_neg (by omega),if_pos D,D];rfl
  have bc:Hid (Below w0.1.size w0 z):=bb.out.trans (K.out.mono bb.out.size);have cp:=xX bN;rw[D];have bk:=xX bT;obtain⟨b9,b6⟩:∃b9,b9=Fr.nums [f.number,f.seq,f.first,f.rows]:=⟨_,rfl⟩;rw[<-b6] at a2 dv be;clear E I M bT b7 c9 bN dd D L bO df b6 cb cc d3 ci cj ck d4 d5;have eL:=K.out.size;go_enter Tryz.func90,Tryz.ntmps90;go_wp2_with fail;rw[bn.out];refine a2.out.mono ?_;rintro e e2 ⟨p3,d7,rfl,b2,a7⟩;have a0:=xX (bc.out.trans (a7.mono bc.out.size));have cs:=xX (K.out.trans (a7.mono K.out.size));have o:=(a0.out.block _ (by omega)).trans bk.out;have O:=aa o 0;have R:=aa o 1;have V:=aa o 2;have W:=aa o 3;have X:=aa o 4;have Y:=aa o 5;have Z:=aa o 6;have ah:=aa o 7;have aj:=aa o 8;have ak:=aa o 9;have U:=aa o 10;simp only[List.getElem?_toArray,List.getElem?_cons_zero,List.getElem?_cons_succ] at O R V W X Y Z ah aj ak U;have cn:=xX (bZ b2);have bl:=xX (c5.out.on cs.out);have eS:=a0.out.size;clear b2 a7 a2 bn
  go_wp2_with (first|(at_builtin;refine aw bl.out cn.out (by first | omega | (simp only[List.length_cons,List.length_nil];omega)) (by omega) rfl rfl rfl rfl rfl ?_;intro d6 e0 d8 c7 bp b3 bX dp;have cv:=xX (au bX bl.out (by omega));have bj:=xX b3;clear bX dp b3;have J:Hid (Below w0.1.size w0 c7):=a0.out.trans cv.out;have y:=(J.out.block _ (by omega)).trans bk.out;clear O R V W X Y Z ah aj ak U;have O:=aa y 0;have R:=aa y 1;have V:=aa y 2;have W:=aa y 3;have X:=aa y 4;have Y:=aa y 5;have Z:=aa y 6;have ah:=aa y 7;have aj:=aa y 8;have ak:=aa y 9;have U:=aa y 10;simp only[List.getElem?_toArray,List.getElem?_cons_zero,List.getElem?_cons_succ] at O R V W X Y Z ah aj ak U;have ez:d6.length<=41:=(by rw[bp.out];simp;omega);have eU:=J.out.size;have co:=xX (cp.out.on (A.out.trans (J.out.mono A.out.size)));clear o y)|(at_builtin;refine aw bj.out co.out (by first | omega | (simp only[List.length_cons,List.length_nil];omega)) (by omega) rfl rfl rfl rfl rfl ?_;intro a9 d2 c8 bs bq b4 b0 dr;have cw:=xX (au b0 bj.out (by omega));have cy:=xX b4;clear b0 dr b4)|fail)
  have cq:Hid (Below w0.1.size w0 bs):=J.out.trans cw.out;have eC:a9.length<=41+f.block.length:=by rw[bq.out,List.length_append];omega
  have c6:Hid (Fr.check a9=Fr.check (Fr.head f)):=by show _=_;rw[bq.out,bp.out,be.out];rfl
  have bd:=xX (fu d2 c8 a9 (by omega) bs (bZ cy.out));have a1:=cq;go_wp2_with fail;refine bd.out.mono ?_;rintro e e3 ⟨e1,d9,rfl,b5,b1⟩;have ct:=xX (A.out.trans ((a1.out.trans (b1.mono a1.out.size)).mono A.out.size));have cx:=xX (b5.lower (B':=w.1.size) (Nat.le_trans A.out.size a1.out.size));clear b5 b1 bd;go_wp2;go_ret;rw[<-c6.out];exact⟨_,_,rfl,cx.out,ct.out⟩
theorem pQ(f:Fr)(E:f.kind=1)(cj:f.wf)(A:Fr.err0 f=0)(u:AV)(w:World)(ck:aP w u f):
    Calls Tryz.prog 90 #[.agg u] w (pr w (Fr.check (Fr.head f))):=by
  obtain⟨sp,R,a6,a5,a8,a7,rfl,dv,d0,b1,er,eu,d1,ew,ez,d2⟩:=ck.out;unfold aB;obtain⟨w0,I⟩:∃w0,w0=w.alloc (.cells #[.int .i64 1,.int .i64 f.number,.slice sp f.cols.length R,.int .i64 f.seq,.int .i64 f.first,.int .i64 f.rows,.slice a6 f.block.length a5,.int .i64 f.index.at_,.int .i64 f.index.frames,.int .i64 f.index.rows,.slice a8 f.index.entries.length a7] 47):=⟨_,rfl⟩;have cn:w0.1.size=w.1.size+1:=by rw[I];simp
  have D:Hid (Below w.1.size w w0):=by rw[I];exact xV
  have b3:w0.1[w.1.size]?=some (.cells #[.int .i64 1,.int .i64 f.number,.slice sp f.cols.length R,.int .i64 f.seq,.int .i64 f.first,.int .i64 f.rows,.slice a6 f.block.length a5,.int .i64 f.index.at_,.int .i64 f.index.frames,.int .i64 f.index.rows,.slice a8 f.index.entries.length a7] 47 (0,0)):=by rw[I];exact ag w _
  obtain⟨w1,J⟩:∃w1,w1=w0.alloc (.cells #[.int .u8 1] 5):=⟨_,rfl⟩;have d8:w1.1.size=w.1.size+2:=by rw[J];simp[cn]
  have bd:Hid (Below w0.1.size w0 w1):=by rw[J];exact xV
  have dd:Hid (Has w1 w0.1.size (.slice (some ⟨w.1.size+1,0,none⟩) 1 1) [1]):=by
    have:=bP (B:=w0.1.size) (w:=w0) [1] (C:=#[.int .u8 1]) rfl xZ (by simp);rw[<-J] at this;show Has _ _ _ _;rw[cn] at this ⊢;exact this
  obtain⟨z,O⟩:∃z,z=w1.alloc (.cells #[.int .i64 f.number] 2):=⟨_,rfl⟩;have L:Hid (Below w1.1.size w1 z):=by rw[O];exact xV
  have bN:Hid (((w.alloc (.cells #[.int .i64 1,.int .i64 f.number,.slice sp f.cols.length R,.int .i64 f.seq,.int .i64 f.first,.int .i64 f.rows,.slice a6 f.block.length a5,.int .i64 f.index.at_,.int .i64 f.index.frames,.int .i64 f.index.rows,.slice a8 f.index.entries.length a7] 47)).alloc (.cells #[.int .u8 1] 5)).alloc (.cells #[.int .i64 f.number] 2)=z):=by rw[O,J,I];exact rfl
  have bb:0<=f.number∧Sch.err f.cols=0:=by
    unfold Fr.err0 at A;rw[if_pos E] at A;by_cases hb:Fr.within Fr.N f.number=false
    · rw[if_pos hb] at A;omega
    · rw[if_neg hb] at A;rw[Bool.not_eq_false,Fr.within_iff] at hb;exact⟨hb.1,A⟩
  have df:=xX cj.2.2.1;obtain⟨cp,cq,-⟩:=cj;unfold Fr.i64 at cp cq;have b2:Ints z (w.1.size+2) [f.number]:=by
    have:=cH w1 [f.number] (C:=#[.int .i64 f.number]) rfl;rw[<-O,d8] at this;exact this
  have a4:=xX (io (w.1.size+2) [f.number] (by simp) (fun m d5=>by
      simp only[List.mem_cons,List.not_mem_nil,or_false] at d5
      omega) z b2)
  have d6:(Fr.nums [f.number]).length<=10:=by
    have eq:=Leb.put_length_le f.number.toNat;simp only[Fr.nums_cons,Fr.nums_nil,List.append_nil];omega
  have bp:Hid (Fr.head f=1::(Fr.nums [f.number]++Sch.bytes f.cols)):=by
    show _=_;unfold Fr.head Fr.fields;rw[if_pos E,E];rfl
  have eC:(Sch.bytes f.cols).length<=1024:=(Sch.err_open bb.2).2.2.2;have c6:=xX bb.2;have be:Hid (Below w0.1.size w0 z):=bd.out.trans (L.out.mono bd.out.size);have dp:=xX b1;rw[E];have bq:=xX b3;obtain⟨co,ci⟩:∃co,co=Fr.nums [f.number]:=⟨_,rfl⟩;rw[<-ci] at a4 d6 bp;clear I J O b3 ck b1 d1 d2 E A b2 bb ci cp cq;have eU:=L.out.size;go_enter Tryz.func90,Tryz.ntmps90;go_wp2_with fail;rw[bN.out];refine a4.out.mono ?_;rintro e e5 ⟨p3,el,rfl,b7,a9⟩;have a2:=xX (be.out.trans (a9.mono be.out.size));have cw:=xX (L.out.trans (a9.mono L.out.size));have o:=(a2.out.block _ (by omega)).trans bq.out;have U:=aa o 0;have V:=aa o 1;have X:=aa o 2;have Y:=aa o 3;have Z:=aa o 4;have ah:=aa o 5;have aj:=aa o 6;have ak:=aa o 7;have a0:=aa o 8;have a1:=aa o 9;have W:=aa o 10;simp only[List.getElem?_toArray,List.getElem?_cons_zero,List.getElem?_cons_succ] at U V X Y Z ah aj ak a0 a1 W;have cs:=xX (bZ b7);have bs:=xX (dd.out.on cw.out);have e0:=a2.out.size;clear b7 a9 a4 bN
  go_wp2_with (first|(at_builtin;refine aw bs.out cs.out (by first | omega | (simp only[List.length_cons,List.length_nil];omega)) (by omega) rfl rfl rfl rfl rfl ?_;intro eb e2 em bX bO b8 b4 d3;have cy:=xX (au b4 bs.out (by omega));have c8:=xX b8;clear b4 d3 b8;have K:Hid (Below w0.1.size w0 bX):=a2.out.trans cy.out;have y:=(K.out.block _ (by omega)).trans bq.out;clear U V X Y Z ah aj ak a0 a1 W;have U:=aa y 0;have V:=aa y 1;have X:=aa y 2;have Y:=aa y 3;have Z:=aa y 4;have ah:=aa y 5;have aj:=aa y 6;have ak:=aa y 7;have a0:=aa y 8;have a1:=aa y 9;have W:=aa y 10;simp only[List.getElem?_toArray,List.getElem?_cons_zero,List.getElem?_cons_succ] at U V X Y Z ah aj ak a0 a1 W)|fail)
  have eL:eb.length<=11:=by rw[bO.out];simp;omega
  have d9:=K.out.size;have bl:=xX (nE f.cols sp R bX dv d0 (dp.out.on (D.out.trans (K.out.mono D.out.size))) df.out);clear o y;go_wp2_with fail;refine bl.out.mono ?_;rintro e w5 (⟨-,e3,en,rfl,b9,M⟩ | ⟨d7,-,-⟩);case inr=>exact absurd c6.out d7
  have ec:=xX M;have bj:=xX (K.out.trans (M.mono d9));have ct:=xX (bZ b9);have bn:=xX (c8.out.on M);have e1:=bj.out.size;clear b9 M bl
  go_wp2_with (first|(at_builtin;refine aw bn.out ct.out (by first | omega | (simp only[List.length_cons,List.length_nil];omega)) (by omega) rfl rfl rfl rfl rfl ?_;intro bc ea ds b0 bT cb b5 d4;have c5:=xX (au b5 bn.out (by omega));have c9:=xX cb;clear b5 d4 cb)|fail)
  have cv:Hid (Below w0.1.size w0 b0):=bj.out.trans c5.out;have eS:bc.length<=1100:=by rw[bT.out,List.length_append];omega
  have dr:Hid (Fr.check bc=Fr.check (Fr.head f)):=by show _=_;rw[bT.out,bO.out,bp.out];rfl
  have bk:=xX (fu ea ds bc (by omega) b0 (bZ c9.out));have a3:=cv;go_wp2_with fail;refine bk.out.mono ?_;rintro e e6 ⟨e4,ep,rfl,cc,b6⟩;have cx:=xX (D.out.trans ((a3.out.trans (b6.mono a3.out.size)).mono D.out.size));have c7:=xX (cc.lower (B':=w.1.size) (Nat.le_trans D.out.size a3.out.size));clear cc b6 bk;go_wp2;go_ret;rw[<-dr.out];exact⟨_,_,rfl,c7.out,cx.out⟩
end
section
open Go.RowKit
theorem pO(f:Fr)(Z:f.kind=3)(f5:f.wf)(A:Fr.err0 f=0)(u:AV)(w:World)(d5:aP w u f):
    Calls Tryz.prog 90 #[.agg u] w (pr w (Fr.check (Fr.head f))):=by
  obtain⟨sp,bO,be,bd,O,I,rfl,X,e9,cy,g1,g2,fi,g3,g4,c5⟩:=d5.out;unfold aB;obtain⟨w0,aj⟩:∃w0,w0=w.alloc (.cells #[.int .i64 3,.int .i64 f.number,.slice sp f.cols.length bO,.int .i64 f.seq,.int .i64 f.first,.int .i64 f.rows,.slice be f.block.length bd,.int .i64 f.index.at_,.int .i64 f.index.frames,.int .i64 f.index.rows,.slice O f.index.entries.length I] 47):=⟨_,rfl⟩;have d6:w0.1.size=w.1.size+1:=by rw[aj];simp
  have U:Hid (Below w.1.size w w0):=by rw[aj];exact xV
  have c7:w0.1[w.1.size]?=some (.cells #[.int .i64 3,.int .i64 f.number,.slice sp f.cols.length bO,.int .i64 f.seq,.int .i64 f.first,.int .i64 f.rows,.slice be f.block.length bd,.int .i64 f.index.at_,.int .i64 f.index.frames,.int .i64 f.index.rows,.slice O f.index.entries.length I] 47 (0,0)):=by rw[aj];exact ag w _
  obtain⟨w1,ak⟩:∃w1,w1=w0.alloc (.cells #[.int .u8 3] 5):=⟨_,rfl⟩;have d7:w1.1.size=w.1.size+2:=by rw[ak];simp[d6]
  have b1:Hid (Below w0.1.size w0 w1):=by rw[ak];exact xV
  have e5:Hid (Has w1 w0.1.size (.slice (some ⟨w.1.size+1,0,none⟩) 1 1) [3]):=by
    have:=bP (B:=w0.1.size) (w:=w0) [3] (C:=#[.int .u8 3]) rfl xZ (by simp);rw[<-ak] at this;show Has _ _ _ _;rw[d6] at this ⊢;exact this
  obtain⟨E,a1⟩:∃E,E=w1.alloc (.cells #[.int .i64 f.index.at_,.int .i64 f.index.frames,.int .i64 f.index.rows,.slice O f.index.entries.length I] 45):=⟨_,rfl⟩;have d8:E.1.size=w.1.size+3:=by rw[a1];simp[d7]
  have a7:Hid (Below w1.1.size w1 E):=by rw[a1];exact xV
  have c8:E.1[w.1.size+2]?=some (.cells #[.int .i64 f.index.at_,.int .i64 f.index.frames,.int .i64 f.index.rows,.slice O f.index.entries.length I] 45 (0,0)):=by rw[a1,<-d7];exact ag w1 _
  obtain⟨D,a0⟩:∃D,D=E.alloc (.cells #[.int .i64 f.index.at_,.int .i64 f.index.frames,.int .i64 f.index.rows,.int .i64 (f.index.entries.length:Int)] 2):=⟨_,rfl⟩;have bb:Hid (Below E.1.size E D):=by rw[a0];exact xV
  have ck:Hid ((((w.alloc (.cells #[.int .i64 3,.int .i64 f.number,.slice sp f.cols.length bO,.int .i64 f.seq,.int .i64 f.first,.int .i64 f.rows,.slice be f.block.length bd,.int .i64 f.index.at_,.int .i64 f.index.frames,.int .i64 f.index.rows,.slice O f.index.entries.length I] 47)).alloc (.cells #[.int .u8 3] 5)).alloc (.cells #[.int .i64 f.index.at_,.int .i64 f.index.frames,.int .i64 f.index.rows,.slice O f.index.entries.length I] 45)).alloc (.cells #[.int .i64 f.index.at_,.int .i64 f.index.frames,.int .i64 f.index.rows,.int .i64 (f.index.entries.length:Int)] 2)=D):=by rw[a0,a1,ak,aj];exact rfl
  have bs:(0<=f.index.at_∧0<=f.index.frames∧0<=f.index.rows)∧f.index.entries.length<=64∧f.index.entries.all Fr.entOk=true:=by
    unfold Fr.err0 at A;rw[if_neg (by omega),if_neg (by omega),if_pos Z] at A;unfold Fr.idxErr at A;by_cases hb:(Fr.within Fr.S f.index.at_&&Fr.within Fr.S f.index.frames&&Fr.within Fr.S f.index.rows)=false
    · rw[if_pos hb] at A;omega
    · rw[if_neg hb] at A;rw[Bool.not_eq_false] at hb;simp only[Bool.and_eq_true,Fr.within_iff] at hb;by_cases bj:64<f.index.entries.length
      · rw[if_pos bj] at A;omega
      · rw[if_neg bj] at A;by_cases bl:f.index.entries.all Fr.entOk=false
        · rw[if_pos bl] at A;omega
        · rw[Bool.not_eq_false] at bl;exact⟨by omega,by omega,bl⟩
  obtain⟨f7,f8,f9,gb,bT,gd,R,gf⟩:=f5;unfold Fr.i64 at R;have eS:Hid (∀e∈f.index.entries,(0<=e.at_∧e.at_<=9223372036854775807)∧(0<=e.row∧e.row<=9223372036854775807)∧(0<=e.sch∧e.sch<=9223372036854775807)):=fun e ah=>by
    have X:=List.all_eq_true.1 bs.2.2 e ah;unfold Fr.entOk at X;simp only[Bool.and_eq_true,Fr.within_iff] at X;have f2:Fr.S=1099511627776:=rfl;rw[f2] at X;omega
  have c6:Ints D (w.1.size+3) [f.index.at_,f.index.frames,f.index.rows,(f.index.entries.length:Int)]:=by rw[a0];exact ints_at d8 [f.index.at_,f.index.frames,f.index.rows,(f.index.entries.length:Int)] rfl
  have bj:=bs.2.1;have L:=xX (io (w.1.size+3) [f.index.at_,f.index.frames,f.index.rows,(f.index.entries.length:Int)] (by simp) (fun m ah=>by
      simp only[List.mem_cons,List.not_mem_nil,or_false] at ah
      omega) D c6)
  have f0:(Fr.nums [f.index.at_,f.index.frames,f.index.rows,(f.index.entries.length:Int)]).length<=40:=by
    have gz:=Leb.put_length_le f.index.at_.toNat;have gL:=Leb.put_length_le f.index.frames.toNat;have gN:=Leb.put_length_le f.index.rows.toNat;have g0:=Leb.put_length_le (f.index.entries.length:Int).toNat;simp only[Fr.nums_cons,Fr.nums_nil,List.append_nil,List.length_append];omega
  have cc:Hid (Fr.head f=3::(Fr.nums [f.index.at_,f.index.frames,f.index.rows,(f.index.entries.length:Int)]++(f.index.entries.map Fr.entB).flatten)):=by
    show _=_;unfold Fr.head Fr.fields;rw[if_neg (by omega),if_neg (by omega),Z];rfl
  have b6:Hid (Below w0.1.size w0 E):=b1.out.trans (a7.out.mono b1.out.size);have b2:Hid (Below w0.1.size w0 D):=b6.out.trans (bb.out.mono b6.out.size);have b7:Hid (Below w1.1.size w1 D):=a7.out.trans (bb.out.mono a7.out.size);have eL:=xX c5;rw[Z];have gl:=xX c7;have ci:=xX ((bb.out.block _ (by omega)).trans c8);obtain⟨ea,d3⟩:∃ea,ea=Fr.nums [f.index.at_,f.index.frames,f.index.rows,(f.index.entries.length:Int)]:=⟨_,rfl⟩;rw[<-d3] at L f0 cc;have hf:D.1.size=w.1.size+4:=by rw[a0];simp[d8]
  clear aj ak a1 a0 c7 c8 d5 cy fi c5 Z A c6 bs d3 f7 f8 f9 gb bT gd R gf;go_enter Tryz.func90,Tryz.ntmps90;go_wp2_with fail;rw[ck.out];refine L.out.mono ?_;rintro e hn ⟨p3,gm,rfl,dv,Y⟩;have b3:=xX (b2.out.trans (Y.mono b2.out.size));have eq:=xX (b7.out.trans (Y.mono b7.out.size));have e2:=xX ((Y.block _ (by omega)).trans ci.out);have el:=xX (bZ dv);have cj:=xX (e5.out.on eq.out);have hg:=Y.size;clear dv Y L ck ci;have he:=b3.out.size
  go_wp2_with (first|(at_builtin;refine aw cj.out el.out (by simp only[List.length_cons,List.length_nil];omega) (by omega) rfl rfl rfl rfl rfl ?_;intro gh hl gn M cp d0 a3 fv;have ew:=xX (au a3 cj.out (by omega));have e0:=xX d0;have e3:=xX ((a3.block (w.1.size+2) (by omega) (fun fo=>by have h:some (w.1.size+1)=some (w.1.size+2):=fo;injection h with h;omega)).trans e2.out);have hh:=a3.size;clear a3 fv d0)|fail)
  have b4:Hid (Below w0.1.size w0 M):=b3.out.trans ew.out;have ha:gh.length<=41:=by rw[cp.out];simp;omega
  have e4:Hid (w.1.size+2<M.1.size):=xX (by omega:w.1.size+2<M.1.size);go_loopw [4,6] (fun bT R wr=>∃(k:Nat) (xs:L8),k<=f.index.entries.length∧R=.int .i64 k∧xs.length<=30*k∧Hid (xs=((f.index.entries.take k).map Fr.entB).flatten∧Has wr M.1.size bT xs∧Below M.1.size M wr)) (fun _ R _=>f.index.entries.length-(intOf R).toNat);case atStart=>exact⟨0,[],by omega,rfl,by simp,rfl,aI _ _,xY⟩
  case round=>
    obtain⟨k,xs,Z,rfl,g8,V⟩:=hrel;have bc:=xX V.out.2.1;have K:=xX V.out.2.2;have cn:=xX V.out.1;have f3:=K.out.size;have bk:=(K.out.block _ e4.out).trans e3.out;have d9:=aa bk 3;simp only[List.getElem?_toArray,List.getElem?_cons_zero,List.getElem?_cons_succ] at d9;by_cases bN:k<f.index.entries.length
    · have g6:(k:Int)<(f.index.entries.length:Int):=(by omega);obtain⟨a2,a6,fr,g5,ct,cv,cw⟩:=(eL.out.on (U.out.trans ((b4.out.trans (K.out.mono (by omega))).mono U.out.size))) k bN;have a5:=eS.out f.index.entries[k] (List.getElem_mem bN);subst fr;obtain⟨y,bn⟩:∃y,y=f.index.entries[k].at_:=⟨_,rfl⟩;obtain⟨z,bp⟩:∃z,z=f.index.entries[k].row:=⟨_,rfl⟩;obtain⟨o,bq⟩:∃o,o=f.index.entries[k].sch:=⟨_,rfl⟩;have eC:=xX (eH f.index.entries k bN);have b9:Hid (Fr.entB f.index.entries[k]=Fr.nums [y,z,o]):=by
        show _=_;rw[bn,bp,bq];rfl
      rw[<-bn] at ct a5;rw[<-bp] at cv a5;rw[<-bq] at cw a5;have L:Hid (Calls Tryz.prog 118 #[.slice (some ⟨wr.1.size,0,none⟩) 3 3] (wr.alloc (.cells #[.int .i64 y,.int .i64 z,.int .i64 o] 2)).drew fun e bX=>∃p cap,e=.returned (.slice p (Fr.nums [y,z,o]).length cap)∧At bX p (Fr.nums [y,z,o])∧Below wr.1.size wr bX):=by
        refine(io wr.1.size [y,z,o] (by simp) (fun m ah=>?_) _ (cH wr [y,z,o] rfl).drew).mono ?_
        · simp only[List.mem_cons,List.not_mem_nil,or_false] at ah;omega
        · rintro e bX ⟨p,cap,rfl,a4,hb⟩;have dr:Below wr.1.size wr (wr.alloc (.cells #[.int .i64 y,.int .i64 z,.int .i64 o] 2)).drew:=xV.drew;exact⟨p,cap,rfl,bZ a4,dr.trans (hb.mono dr.size)⟩
      have f4:(Fr.nums [y,z,o]).length<=30:=by
        have X:=Leb.put_length_le y.toNat;have e9:=Leb.put_length_le z.toNat;have cy:=Leb.put_length_le o.toNat;simp only[Fr.nums_cons,Fr.nums_nil,List.append_nil,List.length_append];omega
      obtain⟨u,d4⟩:∃u,u=Fr.nums [y,z,o]:=⟨_,rfl⟩;rw[<-d4] at L f4 b9;clear d4 bn bp bq a5 V bk;go_wp2_with fail
      go_region_held3 (fun w'=>w'.cell? ⟨a2,a6+k*3,none⟩=some (.int .i64 y)∧w'.cell? ⟨a2,a6+k*3+1,none⟩=some (.int .i64 z)∧w'.cell? ⟨a2,a6+k*3+2,none⟩=some (.int .i64 o)∧w'.cell? ⟨w.1.size+2,3,none⟩=some (.slice (some ⟨a2,a6,none⟩) f.index.entries.length I)) (go_keep) (first|(go_at_call 118;refine L.out.mono ?_;rintro e w5 ⟨hj,gq,rfl,dd,J⟩;have hp:=ac J ct;have hq:=ac J cv;have hr:=ac J cw;have hs:=ac J d9;have em:=xX dd;have a8:=xX J;have g7:=J.size;clear dd J))
      go_wp2_with (first|(at_builtin;refine aw (bc.out.on a8.out) em.out (by omega) (by omega) rfl rfl rfl rfl rfl ?_;intro ec eb cx W co a4 c9 fs;have er:=xX (au c9 (bc.out.on a8.out) (by omega));have e7:=xX a4;have f6:ec.length<=30*(k+1):=(by rw[co.out,List.length_append];omega);clear c9 fs a4)|fail)
      go_roundw;case rel=>
        refine⟨k+1,ec,by omega,by go_num,f6,?_,e7.out,(K.out.trans (a8.out.mono f3)).trans er.out⟩;rw[co.out,cn.out,eC.out,b9.out]
      case measure=>simp[intOf];omega
    · have fy:k=f.index.entries.length:=(by omega);subst fy;have e6:Hid (xs=(f.index.entries.map Fr.entB).flatten):=by
        show _=_;rw[cn.out,List.take_length]
      obtain⟨hk,gs,rfl,dp,-⟩:=bc.out.at;have en:=xX dp;have cb:=xX (e0.out.on K.out);have b5:=xX (b4.out.trans (K.out.mono (by omega)));have hi:=b5.out.size;clear dp V bk
      go_wp2_with (first|(at_builtin;refine aw cb.out en.out (by first | omega | (simp only[List.length_cons,List.length_nil];omega)) (by omega) rfl rfl rfl rfl rfl ?_;intro b0 eb cx cs cq d1 df fx;have ez:=xX (au df cb.out (by omega));have e1:=xX d1;clear df fx d1)|fail)
      have ep:Hid (Below w0.1.size w0 cs):=b5.out.trans ez.out;have hc:b0.length<=3000:=(by rw[cq.out,List.length_append];omega);have e8:Hid (Fr.check b0=Fr.check (Fr.head f)):=(by show _=_;rw[cq.out,cp.out,e6.out,cc.out];rfl);have b8:=xX (fu eb cx b0 (by omega) cs (bZ e1.out));have a9:=ep;go_wp2_with fail;refine b8.out.mono ?_;rintro e ho ⟨hm,gt,rfl,d2,ds⟩;have eu:=xX (U.out.trans ((a9.out.trans (ds.mono a9.out.size)).mono U.out.size));have eU:=xX (d2.lower (B':=w.1.size) (Nat.le_trans U.out.size a9.out.size));clear d2 ds b8;go_wp2;go_ret;rw[<-e8.out];exact⟨_,_,rfl,eU.out,eu.out⟩
theorem ug(f:Fr)(I:f.block.length<=1048576)(y:f.wf)(o:Fr.err0 f=0)(u:AV)(w:World)(z:aP w u f):
  Calls Tryz.prog 90 #[.agg u] w (pr w (Fr.check (Fr.head f))):=by
 rcases Fr.head_fields o with A | D | E
 ·exact pQ f A y o u w z
 ·exact pP f D I y o u w z
 ·exact pO f E y o u w z
end
section
open Go.RowKit
theorem dM:∀l:List Int,(Fr.nums l).length<=10*l.length
 | []=>by simp[Fr.nums_nil]
 |n::l=>by
  rw[Fr.nums_cons,List.length_append,List.length_cons];have o:=Leb.put_length_le n.toNat;have y:=dM l;omega
theorem kp:∀es:List Ent,((es.map Fr.entB).flatten).length<=30*es.length
 | []=>by simp
 |e::es=>by
  rw[List.map_cons,List.flatten_cons,List.length_append,List.length_cons];have o:(Fr.entB e).length<=30:=dM [e.at_,e.row,e.sch];have y:=kp es;omega
theorem qm{f:Fr}(o:Fr.err0 f=0)(hb:f.block.length<=1048576):(Fr.check (Fr.head f)).length<=1100000:=by
 rw[Fr.check_length];unfold Fr.head;rw[List.length_cons];unfold Fr.fields;have I:=Fr.head_fields o;unfold Fr.err0 at o;by_cases z:f.kind=1
 ·rw[if_pos z] at o ⊢;rw[List.length_append];have y:=dM [f.number];by_cases hb:Fr.within Fr.N f.number=false
  ·rw[if_pos hb] at o;omega
  ·rw[if_neg hb] at o;have D:=(Sch.err_open o).2.2.2;simp only[List.length_cons,List.length_nil] at y;omega
 ·rw[if_neg z] at o ⊢;by_cases A:f.kind=2
  ·rw[if_pos A,List.length_append];have y:=dM [f.number,f.seq,f.first,f.rows];simp only[List.length_cons,List.length_nil] at y;omega
  ·rw[if_neg A] at o ⊢;rw[if_pos (by omega)] at o;have y:=dM [f.index.at_,f.index.frames,f.index.rows,(f.index.entries.length:Int)];have D:=kp f.index.entries;simp only[List.length_cons,List.length_nil] at y;rw[List.length_append];unfold Fr.idxErr at o;by_cases hb:(Fr.within Fr.S f.index.at_&&Fr.within Fr.S f.index.frames&&Fr.within Fr.S f.index.rows)=false
   ·rw[if_pos hb] at o;omega
   ·rw[if_neg hb] at o;by_cases E:64<f.index.entries.length
    ·rw[if_pos E] at o;omega
    ·omega
theorem lX(f:Fr)(a8:f.block.length<=1048576)(bd:f.wf)(u:AV)(w:World)(be:aP w u f):
    Calls Tryz.prog 63 #[.agg u] w (jO w (Fr.err f) (0::(Fr.run f++[0]))):=by
  obtain⟨sp,R,I,E,L,K,b7,-⟩:=be.out;have Y:=xX be;rw[b7] at Y ⊢;unfold aB at Y ⊢;have c7:=xX bd;obtain⟨w0,O⟩:∃w0,w0=w.alloc (.cells #[.int .i64 f.kind,.int .i64 f.number,.slice sp f.cols.length R,.int .i64 f.seq,.int .i64 f.first,.int .i64 f.rows,.slice I f.block.length E,.int .i64 f.index.at_,.int .i64 f.index.frames,.int .i64 f.index.rows,.slice L f.index.entries.length K] 47):=⟨_,rfl⟩;have a1:Hid (Below w.1.size w w0):=by rw[O];exact xV
  have bs:Hid (w.alloc (.cells #[.int .i64 f.kind,.int .i64 f.number,.slice sp f.cols.length R,.int .i64 f.seq,.int .i64 f.first,.int .i64 f.rows,.slice I f.block.length E,.int .i64 f.index.at_,.int .i64 f.index.frames,.int .i64 f.index.rows,.slice L f.index.entries.length K] 47)=w0):=by rw[O];exact rfl
  have cy:Hid (w0.1[w.1.size]?=some (.cells #[.int .i64 f.kind,.int .i64 f.number,.slice sp f.cols.length R,.int .i64 f.seq,.int .i64 f.first,.int .i64 f.rows,.slice I f.block.length E,.int .i64 f.index.at_,.int .i64 f.index.frames,.int .i64 f.index.rows,.slice L f.index.entries.length K] 47 (0,0))):=by rw[O];exact ag w _
  have ec:w0.1.size=w.1.size+1:=by rw[O];simp
  have a4:=xX (rD f bd #[.int .i64 f.kind,.int .i64 f.number,.slice sp f.cols.length R,.int .i64 f.seq,.int .i64 f.first,.int .i64 f.rows,.slice I f.block.length E,.int .i64 f.index.at_,.int .i64 f.index.frames,.int .i64 f.index.rows,.slice L f.index.entries.length K] w0 (Y.out.on a1.out));have D:Hid (Fr.err f=if Fr.err0 f≠0 then Fr.err0 f else if 2200<(Fr.run f).length then 2 else 0):=rfl;have X:=xX (fun(a9:Fr.err0 f=0) w' (hb:Below w.1.size w w')=>ug f a8 c7.out a9 #[.int .i64 f.kind,.int .i64 f.number,.slice sp f.cols.length R,.int .i64 f.seq,.int .i64 f.first,.int .i64 f.rows,.slice I f.block.length E,.int .i64 f.index.at_,.int .i64 f.index.frames,.int .i64 f.index.rows,.slice L f.index.entries.length K] w' (Y.out.on hb));have Z:=xX (fun(a9:Fr.err0 f=0)=>qm a9 a8);have bp:Hid (Fr.run f=Cob.stuff (Fr.check (Fr.head f))):=rfl;obtain⟨A,bb⟩:∃A,A=Fr.err f:=⟨_,rfl⟩;obtain⟨J,M⟩:∃J,J=Fr.err0 f:=⟨_,rfl⟩;obtain⟨y,aj⟩:∃y,y=Fr.run f:=⟨_,rfl⟩;obtain⟨a5,ah⟩:∃a5,a5=Fr.check (Fr.head f):=⟨_,rfl⟩;rw[<-bb,<-aj];rw[<-bb,<-M,<-aj] at D;rw[<-aj,<-ah] at bp;rw[<-M] at a4;rw[<-M,<-ah] at X;rw[<-M,<-ah] at Z;clear b7 O be bd bb M aj ah a8;go_enter Tryz.func63,Tryz.ntmps63;go_wp2_with fail;rw[bs.out];refine a4.out.mono ?_;rintro e w1 ⟨rfl,a7⟩;have V:=xX (a1.out.trans (a7.mono a1.out.size));have o:=(a7.block _ (by omega)).trans cy.out;clear a7 a4 bs;by_cases ak:J=0
  · subst ak;have z:Hid (A=if 2200<y.length then 2 else 0):=D.out;have bj:=xX (X.out rfl w1 V.out);have eb:=Z.out rfl;have ds:=V.out.size;clear D X Z;have cb:=aa o 0;have cc:=aa o 1;have cj:=aa o 2;have ck:=aa o 3;have cn:=aa o 4;have co:=aa o 5;have cp:=aa o 6;have cq:=aa o 7;have cs:=aa o 8;have ct:=aa o 9;have ci:=aa o 10;simp only[List.getElem?_toArray,List.getElem?_cons_zero,List.getElem?_cons_succ] at cb cc cj ck cn co cp cq cs ct ci;clear o;go_wp2_with fail;refine bj.out.mono ?_;rintro e d2 ⟨d1,dd,rfl,b3,b0⟩;have bk:=xX (V.out.trans (b0.mono ds));have a6:=kB d1 dd a5 (by omega) d2 (bZ b3);rw[<-bp.out] at a6;have bq:=xX a6;have dv:=bk.out.size;clear b3 b0 bj a6 cb cc cj ck cn co cp cq cs ct ci;go_wp2_with fail;refine bq.out.mono ?_;rintro e U ⟨d9,d5,rfl,b5,b1⟩;have a2:=xX (bk.out.trans (b1.mono dv));have b9:=a2.out.size;have c5:=xX b5;clear b1 bq b5;by_cases bc:2200<y.length
    · have a3:Hid (A=2):=z.out.trans (if_pos bc);have dp:(2200:Int)<(y.length:Int):=(by omega);clear bc z;go_wp2;go_ret2;rw[a3.out];exact aR (by omega) a2.out
    · have a3:Hid (A=0):=z.out.trans (if_neg bc);have dp:¬(2200:Int)<(y.length:Int):=(by omega);clear z;have bn:=xX (bP (B:=U.1.size) (w:=U) [0] (C:=#[.int .u8 0]) rfl xZ (by simp));have W:Hid (Below U.1.size U (U.alloc (.cells #[.int .u8 0] 5))):=xV;have cv:=xX (c5.out.at.on W.out)
      go_wp2_with (first|(at_builtin;refine aw bn.out cv.out (by simp only[List.length_cons,List.length_nil];omega) W.out.size rfl rfl rfl rfl rfl ?_;intro a0 el d6 d3 bN b4 bX dr;have bl:=xX (W.out.trans (au bX bn.out W.out.size));have cx:=xX b4;have b8:a0.length<=2201:=(by rw[bN.out];simp;omega);have c8:Hid (a0.length<=2201):=b8;have d0:=bl.out.size;clear bX dr b4 b8)|(at_builtin;refine aW cx.out 0 (by have:=c8.out;omega) d0 rfl rfl rfl rfl rfl rfl ?_;intro ea d7 d4 b6 b2;have c6:=xX b6;have cw:=xX (a2.out.trans ((bl.out.trans b2).mono b9));clear b6 b2)|fail)
      go_ret2;have bO:a0++[0]=0::(y++[0]):=(by rw[bN.out];rfl);have bT:=c6.out.has;rw[bO] at bT;have df:a0.length+1=(0::(y++[0])).length:=(by rw[<-bO,List.length_append];rfl);rw[df];exact .inl ⟨a3.out,_,_,rfl,bT.lower b9,cw.out⟩
  · have d8:((J:Int) != 0)=true:=bz (by omega);have z:Hid (A=J):=D.out.trans (if_pos ak);have c9:=xX ak;clear ak D X Z o;go_wp2;go_ret2;rw[z.out];exact aR c9.out V.out
end
end Go.Proofs.YtdkammppnkhhoaaGreatDoor
