import Derived.Test.YtngmnfdaedlodaaGreatDoorB28
import Derived.Test.YtngmnfdaedlodaaGreatDoorB27
set_option maxRecDepth 100000
set_option maxHeartbeats 1000000
namespace Go.Proofs.YtngmnfdaedlodaaGreatDoor
open Go.RowKit renaming Hid->I,Below->N
open Option renaming none->U,some->Y
open Go.Value renaming slice->O,int->C
open Go.IntKind renaming i64->F
section
open Go.RowKit
attribute [local go_sem] ai
theorem nE(y:Ty)(x:V)(w:World)(u v:AV)(a0:aL w u y)(aw:aJ w v x):Calls Tryz.prog 169 #[.agg u,.agg v] w fun e w'=>e=.returned (C F (Rw.vErr y x:Nat))∧N w.1.size w w':=by
 obtain⟨k,i,b,t,xs⟩:=x;obtain⟨k',K⟩:=y;obtain⟨p,c,rfl,-⟩:=aw.open;obtain⟨q,e,rfl,-⟩:=a0.open;obtain⟨W0,Z⟩:∃W0,W0=(w.alloc (.cells (ar k' q K.length e) 99)).alloc (.cells (cells5 k i b t p xs.length c) 102):=⟨_,rfl⟩;have A:I (N w.1.size w W0):=by rw[Z];exact gQy.alloc (by simp) _
 have ab:=gQq (aw.on A.out);have a3:=gQq (a0.on A.out);have M:=gQq (pz _ W0 _ ab.out);have S:=gQq (fun w' (hb:N W0.1.size W0 w')=>isK _ _ w' _ _ (ab.out.on hb) (a3.out.on hb));have ah:I (W0.cell? ⟨w.1.size+1,0,U⟩=Y (C F k)∧W0.cell? ⟨w.1.size+1,1,U⟩=Y (C F i)∧W0.cell? ⟨w.1.size+1,2,U⟩=Y (.float .f64 b)∧W0.cell? ⟨w.1.size+1,3,U⟩=Y (.string t)∧W0.cell? ⟨w.1.size+1,4,U⟩=Y (O p xs.length c)∧W0.cell? ⟨w.1.size,0,U⟩=Y (C F k')∧W0.cell? ⟨w.1.size,1,U⟩=Y (O q K.length e)):=by rw[Z];exact⟨by simp[cells5],by simp[cells5],by simp[cells5],by simp[cells5],by simp[cells5],by simp[ar],by simp[ar]⟩
 have a4:=gQq Z;obtain⟨R,ak⟩:∃R,R=Rw.vErr (.mk k' K) (.mk k i b t xs):=⟨_,rfl⟩;have D:=gQq (ak.trans (by rw[Rw.vErr]:Rw.vErr (.mk k' K) (.mk k i b t xs)=_));rw[<-ak];obtain⟨E,a8⟩:∃E,E=chk 1 (.mk k i b t xs):=⟨_,rfl⟩;rw[<-a8] at M D;obtain⟨X,a7⟩:∃X,X=Sch.is (.mk k i b t xs) (.mk k' K):=⟨_,rfl⟩;rw[<-a7] at D S;clear Z aw a0 ak a8 a7 ab a3;unfold cells5 ar at *
 go_enter Tryz.func169,Tryz.ntmps169;go_wp2_with fail;rw[<-a4.out];clear a4;refine M.out.mono ?_;rintro e w1 ⟨rfl,a5⟩;have o:=gQq a5;clear a5;by_cases aj:E=0
 ·have bp:((E:Int) != 0)=false:=bZ (by omega);obtain⟨a9,bb,bc,be,bi,bj,bk⟩:=ah.out;have c0:=ae o.out a9;have c1:=ae o.out bb;have c2:=ae o.out bc;have c3:=ae o.out be;have c4:=ae o.out bi;have bl:=ae o.out bj;have bn:=ae o.out bk;have Q:I (R=if X then 0 else 80):=by show _=_;rw[D.out,AJ (by omega)]
  have a2:=gQq (S.out w1 o.out);clear a9 bb bc be bi bj bk aj D S ah M;go_wp2_with fail;refine a2.out.mono ?_;rintro e bq ⟨rfl,a6⟩;have L:=gQq ((A.out.trans (o.out.mono A.out.size)).trans (a6.mono (A.out.trans (o.out.mono A.out.size)).size));clear a6 c0 c1 c2 c3 c4 bl bn o a2;cases X with
  |true=>
   have J:I (R=0):=(by show _=_;rw[Q.out];rfl);clear Q;go_wp2;go_ret;exact⟨by rw[J.out];rfl,L.out⟩
  |false=>
   have J:I (R=80):=(by show _=_;rw[Q.out];rfl);clear Q;go_wp2;go_ret;exact⟨by rw[J.out];rfl,L.out⟩
 ·have bp:((E:Int) != 0)=true:=cE (by omega);have J:I (R=E):=by show _=_;rw[D.out,AK aj]
  have L:=gQq (A.out.trans (o.out.mono A.out.size));clear aj D S ah M o;go_wp2;go_ret;exact⟨by rw[J.out];rfl,L.out⟩
end
section
open Go.RowKit
attribute [local go_sem] ai
theorem uw(s:List Col)(p:OA)(be:Nat)(vs:List V)(q:OA)(a0:Nat)(w:World)(gz:dZ w p be s)(co:dK w q a0 vs):
  Calls Tryz.prog 137 #[.agg #[O p s.length be],.agg #[O q vs.length a0]] w (Told w (Rw.err s vs) (Rw.out s vs)):=by
 obtain⟨g1,hn,cs,ev⟩:=gz;obtain⟨hw,-,ep⟩:=co.items;have er:=co.2;obtain⟨M,bj⟩:∃M,M=(w.alloc (.cells #[O p s.length be] 35)).alloc (.cells #[O q vs.length a0] 64):=⟨_,rfl⟩;have a7:I (N w.1.size w M):=by rw[bj];exact gQy.alloc (by simp) _
 have b9:I (M.cell? ⟨w.1.size,0,U⟩=Y (O p s.length be)∧M.cell? ⟨w.1.size+1,0,U⟩=Y (O q vs.length a0)):=by rw[bj];exact⟨by simp,by simp⟩
 have g2:w.1.size+2<=M.1.size:=by rw[bj];simp
 have dr:=gQq bj;have X:=gQq (ja s p be M g1 (cs.on a7.out) ev);have bp:=gQq (fun h=>Sch.err_open (s:=s) h);obtain⟨R,bO⟩:∃R,R=Rw.err s vs:=⟨_,rfl⟩;have bb:=gQq (bO.trans (by rw[Rw.err]:Rw.err s vs=_));obtain⟨Z,cn⟩:∃Z,Z=Rw.out s vs:=⟨_,rfl⟩;have E:=gQq (cn.trans (by rw[Rw.out]:Rw.out s vs=_));rw[<-bO] at E;rw[<-bO,<-cn];obtain⟨a1,ec⟩:∃a1,a1=Sch.err s:=⟨_,rfl⟩;rw[<-ec] at X bb bp;have f4:=gQq cs;have f0:=gQq ep;have f2:=gQq er;clear bj bO cn cs ev ec ep er co;go_enter Tryz.func137,Tryz.ntmps137;go_wp2_with fail;rw[<-dr.out];clear dr;refine X.out.mono ?_;rintro e w1 ⟨rfl,cp⟩;have a8:=gQq cp;have c6:=gQq (a7.out.trans (cp.mono a7.out.size));clear cp X;by_cases bi:¬a1=0
 ·have gn:((a1:Int) != 0)=true:=cE (by omega);have D:I (R=a1):=by show _=_;rw[bb.out,AK bi]
  have y:I (Z=[]):=by show _=_;rw[E.out,D.out,AJ bi]
  clear bb bi bp E;go_wp2;go_ret2;exact⟨U,0,by rw[y.out,D.out];rfl,by rw[y.out];exact .inl rfl,by rw[y.out];exact gQx,c6.out⟩
 have gn:((a1:Int) != 0)=false:=bZ (by omega);have bq:=gQq (bb.out.trans (AJ bi));have ht:s.length<=16:=(bp.out (by omega)).2.1;clear bb bp bi;have e0:=ae a8.out b9.out.1;have a2:=ae a8.out b9.out.2;by_cases A:¬vs.length=s.length
 ·have gq:((vs.length:Int) != (s.length:Int))=true:=cE (by omega);have D:I (R=80):=by show _=_;rw[bq.out,AK A]
  have y:I (Z=[]):=by show _=_;rw[E.out,D.out,AJ (by decide)]
  clear bq A E;go_wp2;go_ret2;exact⟨U,0,by rw[y.out,D.out];rfl,by rw[y.out];exact .inl rfl,by rw[y.out];exact gQx,c6.out⟩
 have gq:((vs.length:Int) != (s.length:Int))=false:=bZ (by omega);have bs:=gQq (bq.out.trans (AJ A));have bv:I (vs.length=s.length):=by show _=_;omega
 have hu:vs.length<=16:=by have:=bv.out;omega
 clear bq A;obtain⟨Q,bT⟩:∃Q,Q=(w1.alloc (.cells jd 288)).alloc (.cells #[O (Y ⟨w1.1.size,0,U⟩) 8 8,O U 0 0,C F 1024] 269):=⟨_,rfl⟩;have fs:I (N w1.1.size w1 Q):=by rw[bT];exact gQy.alloc (by simp) _
 have b8:I (Wtr Q (w1.1.size+2) (w1.1.size+1) 1024 []):=by rw[bT];exact qF _ _
 have ck:∀o a4,N w1.1.size w1 ((w1.alloc o).alloc a4):=fun o a4=>gQy.alloc (by simp) _;have z0:=fun o a4=>ae (ck o a4) e0;have z1:=fun o a4=>ae (ck o a4) a2;have ds:=gQq bT;clear ck bT;go_wp2_with fail;refine(kY _).mono ?_;rintro e hh ⟨rfl,ew⟩;rw[ew];clear ew hh;go_wp2_with fail;rw[<-ds.out];clear ds z0 z1;have df:I (N w1.1.size w1 Q∧w.1.size+2<=w1.1.size):=⟨fs.out,AG g2 a8.out.size⟩;go_loopw [28] (fun cy wr=>∃(j:Nat) (zs:L8),j<=s.length∧cy=C F j∧zs.length<=j*20000000000∧I (iq 1024 [] (Rw.bytes (vs.take j)) zs∧Wtr wr (w1.1.size+2) (w1.1.size+1) 1024 zs∧AsW (w1.1.size+1) Q wr∧Rw.colsErr s vs=Rw.colsErr (s.drop j) (vs.drop j))) (fun cy _=>s.length-(intOf cy).toNat);case atStart=>exact⟨0,[],by omega,rfl,by simp,⟨.inl rfl,by simp⟩,b8.out,AsW.new b8.out.lt gQz,rfl⟩
 case round=>
  clear e0 a2;obtain⟨j,zs,hp,rfl,hx,J⟩:=hrel;have cq:N w1.1.size w1 wr:=df.out.1.trans (J.out.2.2.1.below b8.out (by omega));have bX:N M.1.size M wr:=a8.out.trans (cq.mono a8.out.size);have ab:N w.1.size w wr:=a7.out.trans (bX.mono a7.out.size);have a2:wr.cell? ⟨w.1.size+1,0,U⟩=Y (O q vs.length a0):=ae bX b9.out.2;by_cases em:j<s.length
  ·have b1:j<vs.length:=(by have:=bv.out;omega);have hq:(j:Int)<(vs.length:Int):=(by omega);have hr:(j:Int)<(s.length:Int):=(by omega);obtain⟨bx,hA,k,b5,b4,b3,ha,g8,g6,hf,he,hc,g7,rfl,hm,cj,en,-⟩:=f4.out.at j em;obtain⟨f5,f6,f7,f8,f9,gb,gd,gh,gl⟩:=cj.on ab;obtain⟨hD,cr,el⟩:=f0.out j b1;obtain⟨aw,a5,cu,ct,cc,cx,cw,cv,cb,rfl,_,rfl,c0,c1,c2,c3,c4⟩:=(el.on ab).lies;obtain⟨ah,bl⟩:∃ah,ah=wr.alloc (.cells #[.string s[j].name,C F k,O b5 b4 b3,.bool s[j].has,C F ha,C F g8,.float .f64 g6,.string hf,O he hc g7] 104):=⟨_,rfl⟩;have K:N wr.1.size wr ah:=(by rw[bl];exact gQy);have e3:ah.cell? ⟨wr.1.size,1,U⟩=Y (C F k):=(by rw[bl];simp);have e4:ah.cell? ⟨wr.1.size,2,U⟩=Y (O b5 b4 b3):=(by rw[bl];simp);have dv:=ae K c0;have d0:=ae K c1;have d1:=ae K c2;have d2:=ae K c3;have d3:=ae K c4;have eL:=ae K a2;have hi:=gQq K;have b7:=gQq (ab.trans (K.mono ab.size));have X:I (∀w',N w.1.size w w'->Calls Tryz.prog 169 #[.agg #[C F k,O b5 b4 b3],.agg #[C F cu,C F ct,.float .f64 cc,.string cx,O cw cv cb]] w' fun e hg=>e=.returned (C F (Rw.vErr s[j].ty vs[j]:Nat))∧N w'.1.size w' hg):=fun w' hb=>nE _ _ w' _ _ (en.on hb) (cr.on hb)
   have aj:I (Rw.vErr s[j].ty vs[j]=0->(Sch.vB vs[j]).length<=20000000000∧∀w',N w.1.size w w'->Wtr w' (w1.1.size+2) (w1.1.size+1) 1024 zs->Calls Tryz.prog 170 #[.pointer (Y ⟨w1.1.size+1,0,U⟩),.agg #[C F cu,C F ct,.float .f64 cc,.string cx,O cw cv cb]] w' (WrA w' (w1.1.size+2) (w1.1.size+1) 1024 zs (Sch.vB vs[j]))):=fun h=>by
    have eb:=(Rw.vErr_zero h).2.1;have g3:=Sch.vB_small eb (by omega);exact⟨g3,fun w' hb gL=>xA _ 1 eb (f2.out _ (AL b1)) w w' _ _ _ _ zs cr hb (by have:=df.out.2;omega) gL (by omega)⟩
   have a6:=gQq (J.out.2.2.2.trans (lL s vs j em b1));have ak:=gQq J.out.1;have du:=gQq (J.out.2.1.on K);have fo:I (AsW (w1.1.size+1) Q ah):=J.out.2.2.1.trans (AsW.new J.out.2.1.lt K);have dj:I (Rw.bytes (vs.take (j+1))=Rw.bytes (vs.take j)++Sch.vB vs[j]):=by
    show _=_;unfold Rw.bytes;rw[Sch.flatten_take Sch.vB vs j b1]
   obtain⟨z,eC⟩:∃z,z=Rw.vErr s[j].ty vs[j]:=⟨_,rfl⟩;rw[<-eC] at X a6 aj;obtain⟨full,eg⟩:∃l,l=Sch.vB vs[j]:=⟨_,rfl⟩;rw[<-eg] at aj dj;generalize s[j].name=hz at *
   generalize s[j].has=hv at *
   have c9:=gQq bl;clear cj en ab J eC cr el bl K eg cq bX;go_wp2_with fail;rw[<-c9.out];clear c9 f5 f6 f7 f8 f9 gb gd gh gl c0 c1 c2 c3 c4 a2
   go_region_held3 (fun w'=>w'.cell? ⟨wr.1.size,1,U⟩=Y (C F k)∧w'.cell? ⟨wr.1.size,2,U⟩=Y (O b5 b4 b3)∧w'.cell? ⟨aw,a5+j*5,U⟩=Y (C F cu)∧w'.cell? ⟨aw,a5+j*5+1,U⟩=Y (C F ct)∧w'.cell? ⟨aw,a5+j*5+2,U⟩=Y (.float .f64 cc)∧w'.cell? ⟨aw,a5+j*5+3,U⟩=Y (.string cx)∧w'.cell? ⟨aw,a5+j*5+4,U⟩=Y (O cw cv cb)∧w'.cell? ⟨w.1.size+1,0,U⟩=Y (O (Y ⟨aw,a5,U⟩) vs.length a0)) (go_keep) (first|(go_at_call 169;refine(X.out _ (below_drewN b7.out _)).mono ?_;rintro e w4 ⟨rfl,d9⟩;have hb5:=dY (w:=ah) d9 (by rfl) (by rfl) (by rfl) (by rfl);have z1:=ae hb5 e3;have z2:=ae hb5 e4;have e5:=ae hb5 dv;have e6:=ae hb5 d0;have e7:=ae hb5 d1;have e8:=ae hb5 d2;have e9:=ae hb5 d3;have fc:=ae hb5 eL;have a9:=gQq hb5;clear d9 hb5))
   clear z1 z2 e3 e4 dv d0 d1 d2 d3 eL;have f3:=gQq (du.out.on a9.out);have fi:I (AsW (w1.1.size+1) Q w4):=fo.out.trans (AsW.new du.out.lt a9.out);have c7:=gQq (b7.out.trans (a9.out.mono b7.out.size));by_cases S:z=0
   ·have bn:((z:Int) != 0)=false:=(by rw[S];rfl);have ho:=(aj.out S).1;have c8:=gQq ((aj.out S).2 w4 c7.out f3.out);have fx:I (Rw.colsErr s vs=Rw.colsErr (s.drop (j+1)) (vs.drop (j+1))):=(by show _=_;rw[a6.out,AK S]);clear a9 X S a6 aj;go_wp2_with fail;refine c8.out.mono ?_;rintro e w5 ⟨b6,bk,rfl,ez,d7⟩;have fy:I (iq 1024 [] (Rw.bytes (vs.take (j+1))) b6∧Wtr w5 (w1.1.size+2) (w1.1.size+1) 1024 b6∧AsW (w1.1.size+1) Q w5∧Rw.colsErr s vs=Rw.colsErr (s.drop (j+1)) (vs.drop (j+1))):=by
     refine⟨?_,ez,fi.out.trans d7,fx.out⟩;rw[dj.out];have gt:=ak.out.len;have hl:=bk.len;have cj:(Rw.bytes (vs.take j)++full).length=(Rw.bytes (vs.take j)).length+full.length:=AU;have hk:(zs++full).length=zs.length+full.length:=AU;simp only[List.length_nil,Nat.zero_add] at gt;refine⟨?_,by simp only[List.length_nil,Nat.zero_add];omega⟩;rw[List.nil_append];rcases ak.out.eq with cd | cd
     ·rw[List.nil_append] at cd;rw[<-cd];exact bk.eq
     ·refine .inr ⟨?_,?_⟩
      ·rcases bk.eq with ci | ci
       ·rw[ci];omega
       ·exact ci.1
      ·omega
    have g4:b6.length<=(j+1)*20000000000:=(by have:=bk.len;omega);clear bk ez d7 c8 e5 e6 e7 e8 e9 fc;go_wp2;go_roundw;case rel=>exact⟨j+1,b6,by omega,by go_num,g4,fy.out⟩
    case measure=>simp[intOf];omega
   ·have bn:((z:Int) != 0)=true:=(by rw[bne_iff_ne];omega);have D:I (R=z):=by
     show _=_;have e:Rw.colsErr s vs=z:=(by rw[a6.out,AJ S]);rw[bs.out,AK (by rw[e];exact S),e]
    have y:I (Z=[]):=(by show _=_;rw[E.out,D.out,AJ S]);clear a9 X S a6 bs E e5 e6 e7 e8 e9 fc aj;go_wp2;go_ret2;exact⟨U,0,by rw[y.out,D.out];rfl,by rw[y.out];exact .inl rfl,by rw[y.out];exact gQx,c7.out⟩
  ·have hs:¬(j:Int)<(s.length:Int):=(by omega);have ea:Rw.colsErr s vs=0:=(by rw[J.out.2.2.2,List.drop_eq_nil_of_le (by omega),List.drop_eq_nil_of_le (by have:=bv.out;omega)];rfl);have bc:=gQq (bs.out.trans (AJ (by rw[ea];simp)));have b2:=J.out.1;rw[List.take_of_length_le (by have:=bv.out;omega)] at b2;have hy:zs.length<=320000000000:=(by omega);obtain⟨T,g5,gm,A,-,d4,-,-⟩:=J.out.2.1.out;have hC:wr.cell? ⟨w1.1.size+1,1,U⟩=Y (O g5 zs.length gm):=aa A 1;have fv:=gQq d4;have c5:=gQq ab;obtain⟨L,d5⟩:∃L,L=Rw.bytes vs:=⟨_,rfl⟩;rw[<-d5] at bc b2 E;have ak:=gQq b2;clear J ab d5 ea bs A d4 cq bX a2 b2;by_cases b0:1024<zs.length
   ·have gs:(1024:Int)<(zs.length:Int):=(by omega);have d6:1024<L.length:=by
     rcases ak.out.eq with A | A
     ·rw[List.nil_append] at A;rw[<-A];exact b0
     ·have:=A.2;rw[List.nil_append] at this;omega
    have D:I (R=2):=(by show _=_;rw[bc.out,AK d6]);have y:I (Z=[]):=(by show _=_;rw[E.out,D.out,AJ (by decide)]);clear bc b0 d6 E;go_wp2;go_ret2;exact⟨U,0,by rw[y.out,D.out];rfl,by rw[y.out];exact .inl rfl,by rw[y.out];exact gQx,c5.out⟩
   ·have gs:¬(1024:Int)<(zs.length:Int):=(by omega);have bn:zs=L:=by
     rcases ak.out.eq with A | A
     ·rw[List.nil_append] at A;exact A
     ·exact absurd A.1 (by omega)
    have D:I (R=0):=(by show _=_;rw[bc.out,AJ (by rw[<-bn];exact b0)]);have y:I (Z=zs):=(by show _=_;rw[E.out,D.out,AK rfl,bn]);obtain⟨hB,hj,g0,d8,gN⟩:=fv.out.at;injection g0 with e1 _ e2;subst e1 e2;have fq:=gQq d8;clear bc b0 bn E d8 ak;go_wp2;go_ret2;rw[y.out,D.out];exact⟨_,_,rfl,fq.out,gN,c5.out⟩
end
end Go.Proofs.YtngmnfdaedlodaaGreatDoor
