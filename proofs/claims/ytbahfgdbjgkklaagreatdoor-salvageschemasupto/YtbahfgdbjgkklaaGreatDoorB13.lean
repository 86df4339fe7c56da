import Derived.Test.YtbahfgdbjgkklaaGreatDoorB07
set_option maxRecDepth 100000
set_option maxHeartbeats 2000000
namespace Go.Proofs.YtbahfgdbjgkklaaGreatDoor
section
open Go.RowKit
attribute [local go_sem] af
end
section
open Go.RowKit
attribute [local go_sem] af
theorem iE(s t:List Col)(p q:OA)(c d:Nat)(w:World)(e0:s.length*120<=140737488351232)(z:et w p s)(D:et w q t):
  Calls Tryz.prog 29 #[.agg #[.slice p s.length c],.agg #[.slice q t.length d]] w fun e w'=>e=.returned (.bool (Sch.same s t))∧Below w.1.size w w':=by
 obtain⟨E,b0⟩:∃E,E=(w.alloc (.cells #[.slice p s.length c] 29)).alloc (.cells #[.slice q t.length d] 29):=⟨_,rfl⟩;have b5:Hid (Below w.1.size w E):=by rw[b0];exact gQy.alloc (by simp) _
 have di:Hid (E.cell? ⟨w.1.size,0,none⟩=some (.slice p s.length c)∧E.cell? ⟨w.1.size+1,0,none⟩=some (.slice q t.length d)):=by rw[b0];exact⟨by simp,by simp⟩
 have ca:=gQq b0;have ea:=gQq z;have eb:=gQq D;clear b0 z D;by_cases X:¬s.length=t.length
 ·have ec:((s.length:Int) != (t.length:Int))=true:=aQ (by omega);have o:=gQq (jM s t X);clear X;go_enter Tryz.func29,Tryz.ntmps29;go_wp2;rw[<-ca.out];go_ret;exact⟨by rw[o.out];rfl,b5.out⟩
 replace X:s.length=t.length:=Classical.not_not.1 X
 have ec:((s.length:Int) != (t.length:Int))=false:=bo (by omega);have da:=gQq X;clear X;go_enter Tryz.func29,Tryz.ntmps29;go_wp2_with fail;rw[<-ca.out];clear ca;go_loopw [5] (fun cp wr=>∃j:Nat,j<=s.length∧cp=.int .i64 j∧Hid (Below E.1.size E wr∧∀m (U:m<s.length) (W:m<t.length),m<j->Sch.colSame s[m] t[m]=true)) (fun cp _=>s.length-(intOf cp).toNat);case atStart=>exact⟨0,by omega,rfl,gQz,fun m _ _ h=>by omega⟩
 case round=>
  obtain⟨j,er,rfl,J⟩:=hrel;have Q:Below w.1.size w wr:=b5.out.trans (J.out.1.mono b5.out.size);have el:wr.cell? ⟨w.1.size,0,none⟩=some (.slice p s.length c):=ae J.out.1 di.out.1;have d4:wr.cell? ⟨w.1.size+1,0,none⟩=some (.slice q t.length d):=ae J.out.1 di.out.2;by_cases ce:j<s.length
  ·have dv:j<t.length:=(by have:=da.out;omega);have eu:(j:Int)<(s.length:Int):=(by omega);have ew:(j:Int)<(t.length:Int):=(by omega);obtain⟨bx,e1,cf,c6,c5,cy,cn,ck,ci,co,up,un,cj,rfl,en,dj,d2,dr⟩:=ea.out.at j ce;obtain⟨em,e2,cg,c9,c8,c7,ct,cs,cq,cw,cv,cu,cr,rfl,ep,dk,d3,ds⟩:=eb.out.at j dv;have ee:=dj.on Q;have dn:=dk.on Q;have b9:Hid (∀w',Below w.1.size w w'->Calls Tryz.prog 59 #[.agg #[.int .i64 cf,.slice c6 c5 cy],.agg #[.int .i64 cg,.slice c9 c8 c7]] w' fun e cx=>e=.returned (.bool (Ty.same s[j].ty t[j].ty))∧Below w'.1.size w' cx):=fun w' hb=>mi _ _ w' _ _ (d2.on hb) (d3.on hb);have cb:Hid (∀w',Below w.1.size w w'->Calls Tryz.prog 60 #[.agg #[.int .i64 cn,.int .i64 ck,.float .f64 ci,.string co,.slice up un cj],.agg #[.int .i64 ct,.int .i64 cs,.float .f64 cq,.string cw,.slice cv cu cr]] w' fun e cx=>e=.returned (.bool (V.same s[j].dflt t[j].dflt))∧Below w'.1.size w' cx):=fun w' hb=>nN _ _ w' _ _ (dr.on hb) (ds.on hb);have M:Hid (Sch.colSame s[j] t[j]=(decide (s[j].name=t[j].name)&&(s[j].has==t[j].has)&&Ty.same s[j].ty t[j].ty&&V.same s[j].dflt t[j].dflt)):=rfl;have dd:=gQq J.out.2;have b7:=gQq J.out.1;have y:Hid (Sch.colSame s[j] t[j]=false->Sch.same s t=false):=fun h=>jN s t j ce dv h;have O:Hid (Sch.colSame s[j] t[j]=true->∀m (U:m<s.length) (W:m<t.length),m<j+1->Sch.colSame s[m] t[m]=true):=fun h m U W eC=>by
    by_cases ef:m=j
    ·subst ef;exact h
    ·exact dd.out m U W (by omega)
   obtain⟨a8,dp⟩:∃a8,a8=Sch.colSame s[j] t[j]:=⟨_,rfl⟩;rw[<-dp] at M y O;obtain⟨bc,d0⟩:∃bc,bc=Ty.same s[j].ty t[j].ty:=⟨_,rfl⟩;rw[<-d0] at b9 M;obtain⟨ah,d1⟩:∃ah,ah=V.same s[j].dflt t[j].dflt:=⟨_,rfl⟩;rw[<-d1] at cb M;clear dp d0 d1 dj dk d2 d3 dr ds J;generalize s[j].name=Z at *
   generalize t[j].name=ab at *
   generalize s[j].has=z at *
   generalize t[j].has=D at *
   obtain⟨bn,bp,bq,br,bs,bN,bO,bT,bX⟩:=ee;obtain⟨L,Y⟩:∃L,L=wr.alloc (.cells #[.string Z,.int .i64 cf,.slice c6 c5 cy,.bool z,.int .i64 cn,.int .i64 ck,.float .f64 ci,.string co,.slice up un cj] 40):=⟨_,rfl⟩;have b1:Below wr.1.size wr L:=(by rw[Y];exact gQy);have eg:L.1.size=wr.1.size+1:=(by rw[Y];simp);obtain⟨ak,a0,a1,a2,a3,a4,a5,a6,a7⟩:=dn.on b1;have d5:=ae b1 d4;obtain⟨S,b2⟩:∃S,S=L.alloc (.cells #[.string ab,.int .i64 cg,.slice c9 c8 c7,.bool D,.int .i64 ct,.int .i64 cs,.float .f64 cq,.string cw,.slice cv cu cr] 40):=⟨_,rfl⟩;have cc:Below L.1.size L S:=(by rw[b2];exact gQy);have cd:Below wr.1.size wr S:=b1.trans (cc.mono (by omega));have be:=gQq (Q.trans (cd.mono Q.size));have b8:=gQq (b7.out.trans (cd.mono b7.out.size));have db:Hid (At9 S wr.1.size 0 Z cf c6 c5 cy z cn ck ci co up un cj):=At9.on (w:=L) (by rw[Y];exact⟨by simp,by simp,by simp,by simp,by simp,by simp,by simp,by simp,by simp⟩) cc;have dc:Hid (At9 S (wr.1.size+1) 0 ab cg c9 c8 c7 D ct cs cq cw cv cu cr):=by
    rw[<-eg,b2];exact⟨by simp,by simp,by simp,by simp,by simp,by simp,by simp,by simp,by simp⟩
   have df:=gQq Y;have dh:=gQq b2;rw[Y] at ak a0 a1 a2 a3 a4 a5 a6 a7 d5;clear Y b2 b1 cc cd Q dn dd b7;go_wp2_with fail;rw[<-df.out,<-dh.out];clear df dh bn bp bq br bs bN bO bT bX ak a0 a1 a2 a3 a4 a5 a6 a7 el d4 d5;refine(b9.out S be.out).mono ?_;rintro e eh ⟨rfl,a9⟩;have b6:=gQq (be.out.trans (a9.mono be.out.size));have de:=gQq (b8.out.trans (a9.mono b8.out.size));have b3:=gQq (db.out.on a9);have b4:=gQq (dc.out.on a9);obtain⟨bn,bp,bq,br,bs,bN,bO,bT,bX⟩:=b3.out;obtain⟨ak,a0,a1,a2,a3,a4,a5,a6,a7⟩:=b4.out;clear a9 b9 db dc be b8;go_wp2_with fail;refine(cb.out eh b6.out).mono ?_;rintro e ei ⟨rfl,bb⟩;have aj:=gQq (b6.out.trans (bb.mono b6.out.size));have d6:=gQq (de.out.trans (bb.mono de.out.size));clear bn bp bq br bs bN bO bT bX ak a0 a1 a2 a3 a4 a5 a6 a7;obtain⟨bn,bp,bq,br,bs,bN,bO,bT,bX⟩:=b3.out.on bb;obtain⟨ak,a0,a1,a2,a3,a4,a5,a6,a7⟩:=b4.out.on bb;clear bb b3 b4 cb;by_cases K:¬Z=ab
   ·have ed:(Z.toList==ab.toList)=false:=(by rw[dA,decide_eq_false K]);have o:Hid (Sch.same s t=false):=y.out (by rw[M.out,decide_eq_false K,Bool.false_and,Bool.false_and,Bool.false_and]);clear K M y O;go_wp2;go_ret;exact⟨by rw[o.out];rfl,aj.out⟩
   replace K:Z=ab:=Classical.not_not.1 K
   have ed:(Z.toList==ab.toList)=true:=(by rw[dA,decide_eq_true K]);have bi:Hid (a8=(z==D&&bc&&ah)):=(by show _=_;rw[M.out,decide_eq_true K,Bool.true_and]);clear K M;by_cases I:¬z=D
   ·have o:Hid (Sch.same s t=false):=y.out (by rw[bi.out,beq_eq_false_iff_ne.2 I,Bool.false_and,Bool.false_and]);clear bi y O;cases z
    ·cases D
     ·exact absurd rfl I
     ·clear I;go_wp2;go_ret;exact⟨by rw[o.out];rfl,aj.out⟩
    ·cases D
     ·clear I;go_wp2;go_ret;exact⟨by rw[o.out];rfl,aj.out⟩
     ·exact absurd rfl I
   replace I:z=D:=Classical.not_not.1 I
   have bj:Hid (a8=(bc&&ah)):=(by show _=_;rw[bi.out,I,beq_self_eq_true,Bool.true_and]);clear bi;subst I;cases z
   all_goals
    cases bc with
    |false=>
     have o:Hid (Sch.same s t=false):=y.out (by rw[bj.out,Bool.false_and]);clear bj y O;go_wp2;go_ret;exact⟨by rw[o.out];rfl,aj.out⟩
    |true=>
     have bk:Hid (a8=ah):=(by show _=_;rw[bj.out,Bool.true_and]);clear bj;cases ah with
     |false=>
      have o:Hid (Sch.same s t=false):=y.out bk.out;clear bk y O;go_wp2;go_ret;exact⟨by rw[o.out];rfl,aj.out⟩
     |true=>
      have d9:Hid (Below E.1.size E ei∧∀m (U:m<s.length) (W:m<t.length),m<j+1->Sch.colSame s[m] t[m]=true):=⟨d6.out,O.out bk.out⟩;clear bk y O;go_wp2;go_roundw;case rel=>exact⟨j+1,by omega,by go_num,d9⟩
      case measure=>simp[intOf];omega
  ·have d8:Hid (Sch.same s t=true):=iC s t da.out (fun m U W=>J.out.2 m U W (by omega));have d7:=gQq Q;have ez:¬(j:Int)<(s.length:Int):=(by omega);clear J Q ce;go_wp2;go_ret;exact⟨by rw[d8.out];rfl,d7.out⟩
end
end Go.Proofs.YtbahfgdbjgkklaaGreatDoor
