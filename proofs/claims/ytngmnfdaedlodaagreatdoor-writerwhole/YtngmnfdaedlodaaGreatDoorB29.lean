import Derived.Test.YtngmnfdaedlodaaGreatDoorB28
import Derived.Test.YtngmnfdaedlodaaGreatDoorB27
set_option maxRecDepth 100000
set_option maxHeartbeats 1000000
namespace Go.Proofs.YtngmnfdaedlodaaGreatDoor
open Go.RowKit renaming Hid->I,Below->N
open Option renaming none->U,some->Y
open Go.Value renaming slice->O,int->C
open Go.IntKind renaming i64->F
section
open Go.RowKit
attribute [local go_sem] al
theorem nO(y:Ty)(x:V)(w:World)(u v:AV)(aw:aN w u y)(ak:aK w v x):Calls Tryz.prog 169 #[.agg u,.agg v] w fun e w'=>e=.returned (C F (Rw.vErr y x:Nat))∧N w.1.size w w':=by
 obtain⟨k,i,b,t,xs⟩:=x;obtain⟨k',K⟩:=y;obtain⟨p,c,rfl,-⟩:=ak.open;obtain⟨q,e,rfl,-⟩:=aw.open;obtain⟨W0,Z⟩:∃W0,W0=(w.alloc (.cells (au k' q K.length e) 99)).alloc (.cells (cells5 k i b t p xs.length c) 102):=⟨_,rfl⟩;have A:I (N w.1.size w W0):=by rw[Z];exact gQy.alloc (by simp) _
 have ab:=gQq (ak.on A.out);have a2:=gQq (aw.on A.out);have M:=gQq (pI _ W0 _ ab.out);have S:=gQq (fun w' (hb:N W0.1.size W0 w')=>isK _ _ w' _ _ (ab.out.on hb) (a2.out.on hb));have ah:I (W0.cell? ⟨w.1.size+1,0,U⟩=Y (C F k)∧W0.cell? ⟨w.1.size+1,1,U⟩=Y (C F i)∧W0.cell? ⟨w.1.size+1,2,U⟩=Y (.float .f64 b)∧W0.cell? ⟨w.1.size+1,3,U⟩=Y (.string t)∧W0.cell? ⟨w.1.size+1,4,U⟩=Y (O p xs.length c)∧W0.cell? ⟨w.1.size,0,U⟩=Y (C F k')∧W0.cell? ⟨w.1.size,1,U⟩=Y (O q K.length e)):=by rw[Z];exact⟨by simp[cells5],by simp[cells5],by simp[cells5],by simp[cells5],by simp[cells5],by simp[au],by simp[au]⟩
 have a3:=gQq Z;obtain⟨R,aj⟩:∃R,R=Rw.vErr (.mk k' K) (.mk k i b t xs):=⟨_,rfl⟩;have D:=gQq (aj.trans (by rw[Rw.vErr]:Rw.vErr (.mk k' K) (.mk k i b t xs)=_));rw[<-aj];obtain⟨E,a7⟩:∃E,E=chk 1 (.mk k i b t xs):=⟨_,rfl⟩;rw[<-a7] at M D;obtain⟨X,a6⟩:∃X,X=Sch.is (.mk k i b t xs) (.mk k' K):=⟨_,rfl⟩;rw[<-a6] at D S;clear Z ak aw aj a7 a6 ab a2;unfold cells5 au at *
 go_enter Tryz.func169,Tryz.ntmps169;go_wp2_with fail;rw[<-a3.out];clear a3;refine M.out.mono ?_;rintro e w1 ⟨rfl,a4⟩;have o:=gQq a4;clear a4;by_cases ai:E=0
 ·have bn:((E:Int) != 0)=false:=ca (by omega);obtain⟨a8,a9,bb,bc,be,bi,bj⟩:=ah.out;have c0:=ae o.out a8;have c1:=ae o.out a9;have c2:=ae o.out bb;have c3:=ae o.out bc;have c4:=ae o.out be;have bk:=ae o.out bi;have bl:=ae o.out bj;have Q:I (R=if X then 0 else 80):=by show _=_;rw[D.out,AF (by omega)]
  have a1:=gQq (S.out w1 o.out);clear a8 a9 bb bc be bi bj ai D S ah M;go_wp2_with fail;refine a1.out.mono ?_;rintro e bp ⟨rfl,a5⟩;have L:=gQq ((A.out.trans (o.out.mono A.out.size)).trans (a5.mono (A.out.trans (o.out.mono A.out.size)).size));clear a5 c0 c1 c2 c3 c4 bk bl o a1;cases X with
  |true=>
   have J:I (R=0):=(by show _=_;rw[Q.out];rfl);clear Q;go_wp2;go_ret;exact⟨by rw[J.out];rfl,L.out⟩
  |false=>
   have J:I (R=80):=(by show _=_;rw[Q.out];rfl);clear Q;go_wp2;go_ret;exact⟨by rw[J.out];rfl,L.out⟩
 ·have bn:((E:Int) != 0)=true:=cE (by omega);have J:I (R=E):=by show _=_;rw[D.out,AG ai]
  have L:=gQq (A.out.trans (o.out.mono A.out.size));clear ai D S ah M o;go_wp2;go_ret;exact⟨by rw[J.out];rfl,L.out⟩
end
section
open Go.RowKit
attribute [local go_sem] al
theorem uE(s:List Col)(p:OA)(bc:Nat)(vs:List V)(q:OA)(aw:Nat)(w:World)(gt:ef w p bc s)(cn:dN w q aw vs):
  Calls Tryz.prog 137 #[.agg #[O p s.length bc],.agg #[O q vs.length aw]] w (Told w (Rw.err s vs) (Rw.out s vs)):=by
 obtain⟨g0,hm,cr,er⟩:=gt;obtain⟨hv,-,en⟩:=cn.items;have ep:=cn.2;obtain⟨M,bi⟩:∃M,M=(w.alloc (.cells #[O p s.length bc] 35)).alloc (.cells #[O q vs.length aw] 64):=⟨_,rfl⟩;have a6:I (N w.1.size w M):=by rw[bi];exact gQy.alloc (by simp) _
 have b8:I (M.cell? ⟨w.1.size,0,U⟩=Y (O p s.length bc)∧M.cell? ⟨w.1.size+1,0,U⟩=Y (O q vs.length aw)):=by rw[bi];exact⟨by simp,by simp⟩
 have g1:w.1.size+2<=M.1.size:=by rw[bi];simp
 have dj:=gQq bi;have X:=gQq (je s p bc M g0 (cr.on a6.out) er);have bn:=gQq (fun h=>Sch.err_open (s:=s) h);obtain⟨R,bN⟩:∃R,R=Rw.err s vs:=⟨_,rfl⟩;have a9:=gQq (bN.trans (by rw[Rw.err]:Rw.err s vs=_));obtain⟨Z,ck⟩:∃Z,Z=Rw.out s vs:=⟨_,rfl⟩;have E:=gQq (ck.trans (by rw[Rw.out]:Rw.out s vs=_));rw[<-bN] at E;rw[<-bN,<-ck];obtain⟨a0,eb⟩:∃a0,a0=Sch.err s:=⟨_,rfl⟩;rw[<-eb] at X a9 bn;have f3:=gQq cr;have fy:=gQq en;have f0:=gQq ep;clear bi bN ck cr er eb en ep cn;go_enter Tryz.func137,Tryz.ntmps137;go_wp2_with fail;rw[<-dj.out];clear dj;refine X.out.mono ?_;rintro e w1 ⟨rfl,co⟩;have a7:=gQq co;have c5:=gQq (a6.out.trans (co.mono a6.out.size));clear co X;by_cases be:¬a0=0
 ·have gm:((a0:Int) != 0)=true:=cE (by omega);have D:I (R=a0):=by show _=_;rw[a9.out,AG be]
  have y:I (Z=[]):=by show _=_;rw[E.out,D.out,AF be]
  clear a9 be bn E;go_wp2;go_ret2;exact⟨U,0,by rw[y.out,D.out];rfl,by rw[y.out];exact .inl rfl,by rw[y.out];exact gQx,c5.out⟩
 have gm:((a0:Int) != 0)=false:=ca (by omega);have bp:=gQq (a9.out.trans (AF be));have hs:s.length<=16:=(bn.out (by omega)).2.1;clear a9 bn be;have eL:=ae a7.out b8.out.1;have a1:=ae a7.out b8.out.2;by_cases A:¬vs.length=s.length
 ·have gn:((vs.length:Int) != (s.length:Int))=true:=cE (by omega);have D:I (R=80):=by show _=_;rw[bp.out,AG A]
  have y:I (Z=[]):=by show _=_;rw[E.out,D.out,AF (by decide)]
  clear bp A E;go_wp2;go_ret2;exact⟨U,0,by rw[y.out,D.out];rfl,by rw[y.out];exact .inl rfl,by rw[y.out];exact gQx,c5.out⟩
 have gn:((vs.length:Int) != (s.length:Int))=false:=ca (by omega);have bq:=gQq (bp.out.trans (AF A));have bs:I (vs.length=s.length):=by show _=_;omega
 have ht:vs.length<=16:=by have:=bs.out;omega
 clear bp A;obtain⟨Q,bO⟩:∃Q,Q=(w1.alloc (.cells jh 288)).alloc (.cells #[O (Y ⟨w1.1.size,0,U⟩) 8 8,O U 0 0,C F 1024] 269):=⟨_,rfl⟩;have fq:I (N w1.1.size w1 Q):=by rw[bO];exact gQy.alloc (by simp) _
 have b7:I (Wtr Q (w1.1.size+2) (w1.1.size+1) 1024 []):=by rw[bO];exact qM _ _
 have cj:∀o a3,N w1.1.size w1 ((w1.alloc o).alloc a3):=fun o a3=>gQy.alloc (by simp) _;have z0:=fun o a3=>ae (cj o a3) eL;have z1:=fun o a3=>ae (cj o a3) a1;have dr:=gQq bO;clear cj bO;go_wp2_with fail;refine(li _).mono ?_;rintro e hg ⟨rfl,ev⟩;rw[ev];clear ev hg;go_wp2_with fail;rw[<-dr.out];clear dr z0 z1;have c9:I (N w1.1.size w1 Q∧w.1.size+2<=w1.1.size):=⟨fq.out,AT g1 a7.out.size⟩;go_loopw [28] (fun cx wr=>∃(j:Nat) (zs:L8),j<=s.length∧cx=C F j∧zs.length<=j*20000000000∧I (iw 1024 [] (Rw.bytes (vs.take j)) zs∧Wtr wr (w1.1.size+2) (w1.1.size+1) 1024 zs∧AsW (w1.1.size+1) Q wr∧Rw.colsErr s vs=Rw.colsErr (s.drop j) (vs.drop j))) (fun cx _=>s.length-(intOf cx).toNat);case atStart=>exact⟨0,[],by omega,rfl,by simp,⟨.inl rfl,by simp⟩,b7.out,AsW.new b7.out.lt gQz,rfl⟩
 case round=>
  clear eL a1;obtain⟨j,zs,ho,rfl,hw,J⟩:=hrel;have cp:N w1.1.size w1 wr:=c9.out.1.trans (J.out.2.2.1.below b7.out (by omega));have bT:N M.1.size M wr:=a7.out.trans (cp.mono a7.out.size);have ab:N w.1.size w wr:=a6.out.trans (bT.mono a6.out.size);have a1:wr.cell? ⟨w.1.size+1,0,U⟩=Y (O q vs.length aw):=ae bT b8.out.2;by_cases el:j<s.length
  ·have b0:j<vs.length:=(by have:=bs.out;omega);have hp:(j:Int)<(vs.length:Int):=(by omega);have hq:(j:Int)<(s.length:Int):=(by omega);obtain⟨bx,hz,k,b4,b3,b2,g8,g7,g5,he,hc,ha,g6,rfl,hl,ci,em,-⟩:=f3.out.at j el;obtain⟨f4,f5,f6,f7,f8,f9,gb,gd,gh⟩:=ci.on ab;obtain⟨hC,cq,eg⟩:=fy.out j b0;obtain⟨ak,a4,ct,cs,cb,cw,cv,cu,b9,rfl,_,rfl,c0,c1,c2,c3,c4⟩:=(eg.on ab).lies;obtain⟨ah,bk⟩:∃ah,ah=wr.alloc (.cells #[.string s[j].name,C F k,O b4 b3 b2,.bool s[j].has,C F g8,C F g7,.float .f64 g5,.string he,O hc ha g6] 104):=⟨_,rfl⟩;have K:N wr.1.size wr ah:=(by rw[bk];exact gQy);have e0:ah.cell? ⟨wr.1.size,1,U⟩=Y (C F k):=(by rw[bk];simp);have e3:ah.cell? ⟨wr.1.size,2,U⟩=Y (O b4 b3 b2):=(by rw[bk];simp);have du:=ae K c0;have dv:=ae K c1;have d0:=ae K c2;have d1:=ae K c3;have d2:=ae K c4;have eC:=ae K a1;have hh:=gQq K;have b6:=gQq (ab.trans (K.mono ab.size));have X:I (∀w',N w.1.size w w'->Calls Tryz.prog 169 #[.agg #[C F k,O b4 b3 b2],.agg #[C F ct,C F cs,.float .f64 cb,.string cw,O cv cu b9]] w' fun e hf=>e=.returned (C F (Rw.vErr s[j].ty vs[j]:Nat))∧N w'.1.size w' hf):=fun w' hb=>nO _ _ w' _ _ (em.on hb) (cq.on hb)
   have ai:I (Rw.vErr s[j].ty vs[j]=0->(Sch.vB vs[j]).length<=20000000000∧∀w',N w.1.size w w'->Wtr w' (w1.1.size+2) (w1.1.size+1) 1024 zs->Calls Tryz.prog 170 #[.pointer (Y ⟨w1.1.size+1,0,U⟩),.agg #[C F ct,C F cs,.float .f64 cb,.string cw,O cv cu b9]] w' (WrA w' (w1.1.size+2) (w1.1.size+1) 1024 zs (Sch.vB vs[j]))):=fun h=>by
    have ea:=(Rw.vErr_zero h).2.1;have g2:=Sch.vB_small ea (by omega);exact⟨g2,fun w' hb gz=>xM _ 1 ea (f0.out _ (Aw b0)) w w' _ _ _ _ zs cq hb (by have:=c9.out.2;omega) gz (by omega)⟩
   have a5:=gQq (J.out.2.2.2.trans (lT s vs j el b0));have aj:=gQq J.out.1;have ds:=gQq (J.out.2.1.on K);have fi:I (AsW (w1.1.size+1) Q ah):=J.out.2.2.1.trans (AsW.new J.out.2.1.lt K);have df:I (Rw.bytes (vs.take (j+1))=Rw.bytes (vs.take j)++Sch.vB vs[j]):=by
    show _=_;unfold Rw.bytes;rw[Sch.flatten_take Sch.vB vs j b0]
   obtain⟨z,ez⟩:∃z,z=Rw.vErr s[j].ty vs[j]:=⟨_,rfl⟩;rw[<-ez] at X a5 ai;obtain⟨full,ec⟩:∃l,l=Sch.vB vs[j]:=⟨_,rfl⟩;rw[<-ec] at ai df;generalize s[j].name=hy at *
   generalize s[j].has=hu at *
   have c8:=gQq bk;clear ci em ab J ez cq eg bk K ec cp bT;go_wp2_with fail;rw[<-c8.out];clear c8 f4 f5 f6 f7 f8 f9 gb gd gh c0 c1 c2 c3 c4 a1
   go_region_held3 (fun w'=>w'.cell? ⟨wr.1.size,1,U⟩=Y (C F k)∧w'.cell? ⟨wr.1.size,2,U⟩=Y (O b4 b3 b2)∧w'.cell? ⟨ak,a4+j*5,U⟩=Y (C F ct)∧w'.cell? ⟨ak,a4+j*5+1,U⟩=Y (C F cs)∧w'.cell? ⟨ak,a4+j*5+2,U⟩=Y (.float .f64 cb)∧w'.cell? ⟨ak,a4+j*5+3,U⟩=Y (.string cw)∧w'.cell? ⟨ak,a4+j*5+4,U⟩=Y (O cv cu b9)∧w'.cell? ⟨w.1.size+1,0,U⟩=Y (O (Y ⟨ak,a4,U⟩) vs.length aw)) (go_keep) (first|(go_at_call 169;refine(X.out _ (below_drewN b6.out _)).mono ?_;rintro e w4 ⟨rfl,d8⟩;have hb5:=ee (w:=ah) d8 (by rfl) (by rfl) (by rfl) (by rfl);have z1:=ae hb5 e0;have z2:=ae hb5 e3;have e4:=ae hb5 du;have e5:=ae hb5 dv;have e6:=ae hb5 d0;have e7:=ae hb5 d1;have e8:=ae hb5 d2;have e9:=ae hb5 eC;have a8:=gQq hb5;clear d8 hb5))
   clear z1 z2 e0 e3 du dv d0 d1 d2 eC;have f2:=gQq (ds.out.on a8.out);have fc:I (AsW (w1.1.size+1) Q w4):=fi.out.trans (AsW.new ds.out.lt a8.out);have c6:=gQq (b6.out.trans (a8.out.mono b6.out.size));by_cases S:z=0
   ·have bl:((z:Int) != 0)=false:=(by rw[S];rfl);have hn:=(ai.out S).1;have c7:=gQq ((ai.out S).2 w4 c6.out f2.out);have fv:I (Rw.colsErr s vs=Rw.colsErr (s.drop (j+1)) (vs.drop (j+1))):=(by show _=_;rw[a5.out,AG S]);clear a8 X S a5 ai;go_wp2_with fail;refine c7.out.mono ?_;rintro e w5 ⟨b5,bj,rfl,ew,d6⟩;have fx:I (iw 1024 [] (Rw.bytes (vs.take (j+1))) b5∧Wtr w5 (w1.1.size+2) (w1.1.size+1) 1024 b5∧AsW (w1.1.size+1) Q w5∧Rw.colsErr s vs=Rw.colsErr (s.drop (j+1)) (vs.drop (j+1))):=by
     refine⟨?_,ew,fc.out.trans d6,fv.out⟩;rw[df.out];have gs:=aj.out.len;have hk:=bj.len;have ci:(Rw.bytes (vs.take j)++full).length=(Rw.bytes (vs.take j)).length+full.length:=AH;have hj:(zs++full).length=zs.length+full.length:=AH;simp only[List.length_nil,Nat.zero_add] at gs;refine⟨?_,by simp only[List.length_nil,Nat.zero_add];omega⟩;rw[List.nil_append];rcases aj.out.eq with cc | cc
     ·rw[List.nil_append] at cc;rw[<-cc];exact bj.eq
     ·refine .inr ⟨?_,?_⟩
      ·rcases bj.eq with cd | cd
       ·rw[cd];omega
       ·exact cd.1
      ·omega
    have g3:b5.length<=(j+1)*20000000000:=(by have:=bj.len;omega);clear bj ew d6 c7 e4 e5 e6 e7 e8 e9;go_wp2;go_roundw;case rel=>exact⟨j+1,b5,by omega,by go_num,g3,fx.out⟩
    case measure=>simp[intOf];omega
   ·have bl:((z:Int) != 0)=true:=(by rw[bne_iff_ne];omega);have D:I (R=z):=by
     show _=_;have e:Rw.colsErr s vs=z:=(by rw[a5.out,AF S]);rw[bq.out,AG (by rw[e];exact S),e]
    have y:I (Z=[]):=(by show _=_;rw[E.out,D.out,AF S]);clear a8 X S a5 bq E e4 e5 e6 e7 e8 e9 ai;go_wp2;go_ret2;exact⟨U,0,by rw[y.out,D.out];rfl,by rw[y.out];exact .inl rfl,by rw[y.out];exact gQx,c6.out⟩
  ·have hr:¬(j:Int)<(s.length:Int):=(by omega);have d9:Rw.colsErr s vs=0:=(by rw[J.out.2.2.2,List.drop_eq_nil_of_le (by omega),List.drop_eq_nil_of_le (by have:=bs.out;omega)];rfl);have bb:=gQq (bq.out.trans (AF (by rw[d9];simp)));have b1:=J.out.1;rw[List.take_of_length_le (by have:=bs.out;omega)] at b1;have hx:zs.length<=320000000000:=(by omega);obtain⟨T,g4,gl,A,-,d3,-,-⟩:=J.out.2.1.out;have hB:wr.cell? ⟨w1.1.size+1,1,U⟩=Y (O g4 zs.length gl):=aa A 1;have fs:=gQq d3;have cy:=gQq ab;obtain⟨L,d4⟩:∃L,L=Rw.bytes vs:=⟨_,rfl⟩;rw[<-d4] at bb b1 E;have aj:=gQq b1;clear J ab d4 d9 bq A d3 cp bT a1 b1;by_cases bX:1024<zs.length
   ·have gq:(1024:Int)<(zs.length:Int):=(by omega);have d5:1024<L.length:=by
     rcases aj.out.eq with A | A
     ·rw[List.nil_append] at A;rw[<-A];exact bX
     ·have:=A.2;rw[List.nil_append] at this;omega
    have D:I (R=2):=(by show _=_;rw[bb.out,AG d5]);have y:I (Z=[]):=(by show _=_;rw[E.out,D.out,AF (by decide)]);clear bb bX d5 E;go_wp2;go_ret2;exact⟨U,0,by rw[y.out,D.out];rfl,by rw[y.out];exact .inl rfl,by rw[y.out];exact gQx,cy.out⟩
   ·have gq:¬(1024:Int)<(zs.length:Int):=(by omega);have bl:zs=L:=by
     rcases aj.out.eq with A | A
     ·rw[List.nil_append] at A;exact A
     ·exact absurd A.1 (by omega)
    have D:I (R=0):=(by show _=_;rw[bb.out,AF (by rw[<-bl];exact bX)]);have y:I (Z=zs):=(by show _=_;rw[E.out,D.out,AG rfl,bl]);obtain⟨hA,hi,gN,d7,gL⟩:=fs.out.at;injection gN with e1 _ e2;subst e1 e2;have fo:=gQq d7;clear bb bX bl E d7 aj;go_wp2;go_ret2;rw[y.out,D.out];exact⟨_,_,rfl,fo.out,gL,cy.out⟩
end
end Go.Proofs.YtngmnfdaedlodaaGreatDoor
