import Derived.Test.YtdkammppnkhhoaaGreatDoorB07
set_option maxRecDepth 100000
set_option maxHeartbeats 2000000
namespace Go.Proofs.YtdkammppnkhhoaaGreatDoor
section
open Go.RowKit
attribute [local go_sem] am
end
section
open Go.RowKit
attribute [local go_sem] am
theorem gB(s t:List Col)(p q:OA)(c d:Nat)(w:World)(f3:s.length*120<=140737488351232)(z:bw w p s)(A:bw w q t):
  Calls Tryz.prog 24 #[.agg #[.slice p s.length c],.agg #[.slice q t.length d]] w fun e w'=>e=.returned (.bool (Sch.same s t))∧Below w.1.size w w':=by
 obtain⟨D,b1⟩:∃D,D=(w.alloc (.cells #[.slice p s.length c] 41)).alloc (.cells #[.slice q t.length d] 41):=⟨_,rfl⟩;have b6:Hid (Below w.1.size w D):=by rw[b1];exact xV.alloc (by simp) _
 have d9:Hid (D.cell? ⟨w.1.size,0,none⟩=some (.slice p s.length c)∧D.cell? ⟨w.1.size+1,0,none⟩=some (.slice q t.length d)):=by rw[b1];exact⟨by simp,by simp⟩
 have cc:=xX b1;have e1:=xX z;have e2:=xX A;clear b1 z A;by_cases X:¬s.length=t.length
 ·have e3:((s.length:Int) != (t.length:Int))=true:=bz (by omega);have o:=xX (iO s t X);clear X;go_enter Tryz.func24,Tryz.ntmps24;go_wp2;rw[<-cc.out];go_ret;exact⟨by rw[o.out];rfl,b6.out⟩
 replace X:s.length=t.length:=Classical.not_not.1 X
 have e3:((s.length:Int) != (t.length:Int))=false:=cd (by omega);have d2:=xX X;clear X;go_enter Tryz.func24,Tryz.ntmps24;go_wp2_with fail;rw[<-cc.out];clear cc;go_loopw [5] (fun cx wr=>∃j:Nat,j<=s.length∧cx=.int .i64 j∧Hid (Below D.1.size D wr∧∀m (U:m<s.length) (W:m<t.length),m<j->Sch.colSame s[m] t[m]=true)) (fun cx _=>s.length-(intOf cx).toNat);case atStart=>exact⟨0,by omega,rfl,xY,fun m _ _ h=>by omega⟩
 case round=>
  obtain⟨j,fv,rfl,I⟩:=hrel;have O:Below w.1.size w wr:=b6.out.trans (I.out.1.mono b6.out.size);have fi:wr.cell? ⟨w.1.size,0,none⟩=some (.slice p s.length c):=ac I.out.1 d9.out.1;have ez:wr.cell? ⟨w.1.size+1,0,none⟩=some (.slice q t.length d):=ac I.out.1 d9.out.2;by_cases cn:j<s.length
  ·have ep:j<t.length:=(by have:=d2.out;omega);have fx:(j:Int)<(s.length:Int):=(by omega);have fy:(j:Int)<(t.length:Int):=(by omega);obtain⟨bx,f4,co,ds,dr,dp,cv,ct,cq,cw,up,un,cs,rfl,fr,ea,eu,em⟩:=e1.out.at j cn;obtain⟨fo,f5,cp,d1,d0,dv,c7,c6,cy,dd,c9,c8,c5,rfl,fs,eb,ew,en⟩:=e2.out.at j ep;have e5:=ea.on O;have ec:=eb.on O;have cb:Hid (∀w',Below w.1.size w w'->Calls Tryz.prog 56 #[.agg #[.int .i64 co,.slice ds dr dp],.agg #[.int .i64 cp,.slice d1 d0 dv]] w' fun e df=>e=.returned (.bool (Ty.same s[j].ty t[j].ty))∧Below w'.1.size w' df):=fun w' hb=>kC _ _ w' _ _ (eu.on hb) (ew.on hb);have ci:Hid (∀w',Below w.1.size w w'->Calls Tryz.prog 57 #[.agg #[.int .i64 cv,.int .i64 ct,.float .f64 cq,.string cw,.slice up un cs],.agg #[.int .i64 c7,.int .i64 c6,.float .f64 cy,.string dd,.slice c9 c8 c5]] w' fun e df=>e=.returned (.bool (V.same s[j].dflt t[j].dflt))∧Below w'.1.size w' df):=fun w' hb=>lV _ _ w' _ _ (em.on hb) (en.on hb);have L:Hid (Sch.colSame s[j] t[j]=(decide (s[j].name=t[j].name)&&(s[j].has==t[j].has)&&Ty.same s[j].ty t[j].ty&&V.same s[j].dflt t[j].dflt)):=rfl;have d5:=xX I.out.2;have b8:=xX I.out.1;have y:Hid (Sch.colSame s[j] t[j]=false->Sch.same s t=false):=fun h=>iP s t j cn ep h;have M:Hid (Sch.colSame s[j] t[j]=true->∀m (U:m<s.length) (W:m<t.length),m<j+1->Sch.colSame s[m] t[m]=true):=fun h m U W f2=>by
    by_cases e6:m=j
    ·subst e6;exact h
    ·exact d5.out m U W (by omega)
   obtain⟨a9,el⟩:∃a9,a9=Sch.colSame s[j] t[j]:=⟨_,rfl⟩;rw[<-el] at L y M;obtain⟨bd,eq⟩:∃bd,bd=Ty.same s[j].ty t[j].ty:=⟨_,rfl⟩;rw[<-eq] at cb L;obtain⟨aj,er⟩:∃aj,aj=V.same s[j].dflt t[j].dflt:=⟨_,rfl⟩;rw[<-er] at ci L;clear el eq er ea eb eu ew em en I;generalize s[j].name=Z at *
   generalize t[j].name=ah at *
   generalize s[j].has=z at *
   generalize t[j].has=A at *
   obtain⟨bn,bp,bq,bs,bN,bO,bT,bX,b0⟩:=e5;obtain⟨K,Y⟩:∃K,K=wr.alloc (.cells #[.string Z,.int .i64 co,.slice ds dr dp,.bool z,.int .i64 cv,.int .i64 ct,.float .f64 cq,.string cw,.slice up un cs] 79):=⟨_,rfl⟩;have b2:Below wr.1.size wr K:=(by rw[Y];exact xV);have e7:K.1.size=wr.1.size+1:=(by rw[Y];simp);obtain⟨a0,a1,a2,a3,a4,a5,a6,a7,a8⟩:=ec.on b2;have eC:=ac b2 ez;obtain⟨R,b3⟩:∃R,R=K.alloc (.cells #[.string ah,.int .i64 cp,.slice d1 d0 dv,.bool A,.int .i64 c7,.int .i64 c6,.float .f64 cy,.string dd,.slice c9 c8 c5] 79):=⟨_,rfl⟩;have cj:Below K.1.size K R:=(by rw[b3];exact xV);have ck:Below wr.1.size wr R:=b2.trans (cj.mono (by omega));have be:=xX (O.trans (ck.mono O.size));have b9:=xX (b8.out.trans (ck.mono b8.out.size));have d3:Hid (At9 R wr.1.size 0 Z co ds dr dp z cv ct cq cw up un cs):=At9.on (w:=K) (by rw[Y];exact⟨by simp,by simp,by simp,by simp,by simp,by simp,by simp,by simp,by simp⟩) cj;have d4:Hid (At9 R (wr.1.size+1) 0 ah cp d1 d0 dv A c7 c6 cy dd c9 c8 c5):=by
    rw[<-e7,b3];exact⟨by simp,by simp,by simp,by simp,by simp,by simp,by simp,by simp,by simp⟩
   have d7:=xX Y;have d8:=xX b3;rw[Y] at a0 a1 a2 a3 a4 a5 a6 a7 a8 eC;clear Y b3 b2 cj ck O ec d5 b8;go_wp2_with fail;rw[<-d7.out,<-d8.out];clear d7 d8 bn bp bq bs bN bO bT bX b0 a0 a1 a2 a3 a4 a5 a6 a7 a8 fi ez eC;refine(cb.out R be.out).mono ?_;rintro e e8 ⟨rfl,bb⟩;have b7:=xX (be.out.trans (bb.mono be.out.size));have d6:=xX (b9.out.trans (bb.mono b9.out.size));have b4:=xX (d3.out.on bb);have b5:=xX (d4.out.on bb);obtain⟨bn,bp,bq,bs,bN,bO,bT,bX,b0⟩:=b4.out;obtain⟨a0,a1,a2,a3,a4,a5,a6,a7,a8⟩:=b5.out;clear bb cb d3 d4 be b9;go_wp2_with fail;refine(ci.out e8 b7.out).mono ?_;rintro e e9 ⟨rfl,bc⟩;have ak:=xX (b7.out.trans (bc.mono b7.out.size));have eL:=xX (d6.out.trans (bc.mono d6.out.size));clear bn bp bq bs bN bO bT bX b0 a0 a1 a2 a3 a4 a5 a6 a7 a8;obtain⟨bn,bp,bq,bs,bN,bO,bT,bX,b0⟩:=b4.out.on bc;obtain⟨a0,a1,a2,a3,a4,a5,a6,a7,a8⟩:=b5.out.on bc;clear bc b4 b5 ci;by_cases J:¬Z=ah
   ·have e4:(Z.toList==ah.toList)=false:=(by rw[cr,decide_eq_false J]);have o:Hid (Sch.same s t=false):=y.out (by rw[L.out,decide_eq_false J,Bool.false_and,Bool.false_and,Bool.false_and]);clear J L y M;go_wp2;go_ret;exact⟨by rw[o.out];rfl,ak.out⟩
   replace J:Z=ah:=Classical.not_not.1 J
   have e4:(Z.toList==ah.toList)=true:=(by rw[cr,decide_eq_true J]);have bj:Hid (a9=(z==A&&bd&&aj)):=(by show _=_;rw[L.out,decide_eq_true J,Bool.true_and]);clear J L;by_cases E:¬z=A
   ·have o:Hid (Sch.same s t=false):=y.out (by rw[bj.out,beq_eq_false_iff_ne.2 E,Bool.false_and,Bool.false_and]);clear bj y M;cases z
    ·cases A
     ·exact absurd rfl E
     ·clear E;go_wp2;go_ret;exact⟨by rw[o.out];rfl,ak.out⟩
    ·cases A
     ·clear E;go_wp2;go_ret;exact⟨by rw[o.out];rfl,ak.out⟩
     ·exact absurd rfl E
   replace E:z=A:=Classical.not_not.1 E
   have bk:Hid (a9=(bd&&aj)):=(by show _=_;rw[bj.out,E,beq_self_eq_true,Bool.true_and]);clear bj;subst E;cases z
   all_goals
    cases bd with
    |false=>
     have o:Hid (Sch.same s t=false):=y.out (by rw[bk.out,Bool.false_and]);clear bk y M;go_wp2;go_ret;exact⟨by rw[o.out];rfl,ak.out⟩
    |true=>
     have bl:Hid (a9=aj):=(by show _=_;rw[bk.out,Bool.true_and]);clear bk;cases aj with
     |false=>
      have o:Hid (Sch.same s t=false):=y.out bl.out;clear bl y M;go_wp2;go_ret;exact⟨by rw[o.out];rfl,ak.out⟩
     |true=>
      have e0:Hid (Below D.1.size D e9∧∀m (U:m<s.length) (W:m<t.length),m<j+1->Sch.colSame s[m] t[m]=true):=⟨eL.out,M.out bl.out⟩;clear bl y M;go_wp2;go_roundw;case rel=>exact⟨j+1,by omega,by go_num,e0⟩
      case measure=>simp[intOf];omega
  ·have eU:Hid (Sch.same s t=true):=gA s t d2.out (fun m U W=>I.out.2 m U W (by omega));have eS:=xX O;have f0:¬(j:Int)<(s.length:Int):=(by omega);clear I O cn;go_wp2;go_ret;exact⟨by rw[eU.out];rfl,eS.out⟩
end
end Go.Proofs.YtdkammppnkhhoaaGreatDoor
