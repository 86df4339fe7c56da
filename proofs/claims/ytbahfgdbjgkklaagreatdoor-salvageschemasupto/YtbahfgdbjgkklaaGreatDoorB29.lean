import Derived.Test.YtbahfgdbjgkklaaGreatDoorB28
import Derived.Test.YtbahfgdbjgkklaaGreatDoorB27
set_option maxRecDepth 100000
set_option maxHeartbeats 1000000
namespace Go.Proofs.YtbahfgdbjgkklaaGreatDoor
section
open Go.RowKit
attribute [local go_sem] af
theorem oH(y:Ty)(x:V)(w:World)(u v:AV)(ab:aH w u y)(Z:aJ w v x):Calls Tryz.prog 197 #[.agg u,.agg v] w fun e w'=>e=.returned (.int .i64 (Rw.vErr y x:Nat))∧Below w.1.size w w':=by
 obtain⟨k,i,b,t,xs⟩:=x;obtain⟨k',J⟩:=y;obtain⟨p,c,rfl,-⟩:=Z.open;obtain⟨q,e,rfl,-⟩:=ab.open;obtain⟨W0,S⟩:∃W0,W0=(w.alloc (.cells (an k' q J.length e) 34)).alloc (.cells (cells5 k i b t p xs.length c) 38):=⟨_,rfl⟩;have z:Hid (Below w.1.size w W0):=by rw[S];exact gQy.alloc (by simp) _
 have U:=gQq (Z.on z.out);have ak:=gQq (ab.on z.out);have L:=gQq (qm _ W0 _ U.out);have O:=gQq (fun w' (hb:Below W0.1.size W0 w')=>isK _ _ w' _ _ (U.out.on hb) (ak.out.on hb));have W:Hid (W0.cell? ⟨w.1.size+1,0,none⟩=some (.int .i64 k)∧W0.cell? ⟨w.1.size+1,1,none⟩=some (.int .i64 i)∧W0.cell? ⟨w.1.size+1,2,none⟩=some (.float .f64 b)∧W0.cell? ⟨w.1.size+1,3,none⟩=some (.string t)∧W0.cell? ⟨w.1.size+1,4,none⟩=some (.slice p xs.length c)∧W0.cell? ⟨w.1.size,0,none⟩=some (.int .i64 k')∧W0.cell? ⟨w.1.size,1,none⟩=some (.slice q J.length e)):=by rw[S];exact⟨by simp[cells5],by simp[cells5],by simp[cells5],by simp[cells5],by simp[cells5],by simp[an],by simp[an]⟩
 have a0:=gQq S;obtain⟨R,Y⟩:∃R,R=Rw.vErr (.mk k' J) (.mk k i b t xs):=⟨_,rfl⟩;have D:=gQq (Y.trans (by rw[Rw.vErr]:Rw.vErr (.mk k' J) (.mk k i b t xs)=_));rw[<-Y];obtain⟨E,a4⟩:∃E,E=chk 1 (.mk k i b t xs):=⟨_,rfl⟩;rw[<-a4] at L D;obtain⟨Q,a3⟩:∃Q,Q=Sch.is (.mk k i b t xs) (.mk k' J):=⟨_,rfl⟩;rw[<-a3] at D O;clear S Z ab Y a4 a3 U ak;unfold cells5 an at *
 go_enter Tryz.func197,Tryz.ntmps197;go_wp2_with fail;rw[<-a0.out];clear a0;refine L.out.mono ?_;rintro e w1 ⟨rfl,a1⟩;have o:=gQq a1;clear a1;by_cases X:E=0
 ·have bj:((E:Int) != 0)=false:=bo (by omega);obtain⟨a5,a6,a7,a8,a9,bb,bc⟩:=W.out;have c0:=ae o.out a5;have c1:=ae o.out a6;have c2:=ae o.out a7;have c3:=ae o.out a8;have c4:=ae o.out a9;have be:=ae o.out bb;have bi:=ae o.out bc;have M:Hid (R=if Q then 0 else 80):=by show _=_;rw[D.out,if_neg (by omega)]
  have aj:=gQq (O.out w1 o.out);clear a5 a6 a7 a8 a9 bb bc X D O W L;go_wp2_with fail;refine aj.out.mono ?_;rintro e bk ⟨rfl,a2⟩;have K:=gQq ((z.out.trans (o.out.mono z.out.size)).trans (a2.mono (z.out.trans (o.out.mono z.out.size)).size));clear a2 c0 c1 c2 c3 c4 be bi o aj;cases Q with
  |true=>
   have I:Hid (R=0):=(by show _=_;rw[M.out];rfl);clear M;go_wp2;go_ret;exact⟨by rw[I.out];rfl,K.out⟩
  |false=>
   have I:Hid (R=80):=(by show _=_;rw[M.out];rfl);clear M;go_wp2;go_ret;exact⟨by rw[I.out];rfl,K.out⟩
 ·have bj:((E:Int) != 0)=true:=aQ (by omega);have I:Hid (R=E):=by show _=_;rw[D.out,if_pos X]
  have K:=gQq (z.out.trans (o.out.mono z.out.size));clear X D O W L o;go_wp2;go_ret;exact⟨by rw[I.out];rfl,K.out⟩
end
section
open Go.RowKit
attribute [local go_sem] af
theorem vm(s:List Col)(p:OA)(a9:Nat)(vs:List V)(q:OA)(ah:Nat)(w:World)(fi:bB w p a9 s)(cf:fN w q ah vs):
  Calls Tryz.prog 144 #[.agg #[.slice p s.length a9],.agg #[.slice q vs.length ah]] w (Told w (Rw.err s vs) (Rw.out s vs)):=by
 obtain⟨f0,gz,ck,d4⟩:=fi;obtain⟨g6,-,d2⟩:=cf.items;have d3:=cf.2;obtain⟨W0,bc⟩:∃W0,W0=(w.alloc (.cells #[.slice p s.length a9] 29)).alloc (.cells #[.slice q vs.length ah] 82):=⟨_,rfl⟩;have a4:Hid (Below w.1.size w W0):=by rw[bc];exact gQy.alloc (by simp) _
 have b7:Hid (W0.cell? ⟨w.1.size,0,none⟩=some (.slice p s.length a9)∧W0.cell? ⟨w.1.size+1,0,none⟩=some (.slice q vs.length ah)):=by rw[bc];exact⟨by simp,by simp⟩
 have f2:w.1.size+2<=W0.1.size:=by rw[bc];simp
 have c6:=gQq bc;have Q:=gQq (rm s p a9 W0 f0 (ck.on a4.out) d4);have bk:=gQq (fun h=>Sch.err_open (s:=s) h);obtain⟨R,bs⟩:∃R,R=Rw.err s vs:=⟨_,rfl⟩;have a7:=gQq (bs.trans (by rw[Rw.err]:Rw.err s vs=_));obtain⟨S,ce⟩:∃S,S=Rw.out s vs:=⟨_,rfl⟩;have E:=gQq (ce.trans (by rw[Rw.out]:Rw.out s vs=_));rw[<-bs] at E;rw[<-bs,<-ce];obtain⟨aj,dr⟩:∃aj,aj=Sch.err s:=⟨_,rfl⟩;rw[<-dr] at Q a7 bk;have e0:=gQq ck;have ew:=gQq d2;have ez:=gQq d3;clear bc bs ce ck d4 dr d2 d3 cf;go_enter Tryz.func144,Tryz.ntmps144;go_wp2_with fail;rw[<-c6.out];clear c6;refine Q.out.mono ?_;rintro e w1 ⟨rfl,cg⟩;have a5:=gQq cg;have cu:=gQq (a4.out.trans (cg.mono a4.out.size));clear cg Q;by_cases bb:¬aj=0
 ·have fe:((aj:Int) != 0)=true:=aQ (by omega);have D:Hid (R=aj):=by show _=_;rw[a7.out,if_pos bb]
  have y:Hid (S=[]):=by show _=_;rw[E.out,D.out,if_neg bb]
  clear a7 bb bk E;go_wp2;go_ret2;exact⟨none,0,by rw[y.out,D.out];rfl,by rw[y.out];exact .inl rfl,by rw[y.out];exact gQx,cu.out⟩
 have fe:((aj:Int) != 0)=false:=bo (by omega);have bn:=gQq (a7.out.trans (if_neg bb));have g3:s.length<=16:=(bk.out (by omega)).2.1;clear a7 bk bb;have d9:=ae a5.out b7.out.1;have ak:=ae a5.out b7.out.2;by_cases z:¬vs.length=s.length
 ·have ff:((vs.length:Int) != (s.length:Int))=true:=aQ (by omega);have D:Hid (R=80):=by show _=_;rw[bn.out,if_pos z]
  have y:Hid (S=[]):=by show _=_;rw[E.out,D.out,if_neg (by decide)]
  clear bn z E;go_wp2;go_ret2;exact⟨none,0,by rw[y.out,D.out];rfl,by rw[y.out];exact .inl rfl,by rw[y.out];exact gQx,cu.out⟩
 have ff:((vs.length:Int) != (s.length:Int))=false:=bo (by omega);have bp:=gQq (bn.out.trans (if_neg z));have bq:Hid (vs.length=s.length):=by show _=_;omega
 have g4:vs.length<=16:=by have:=bq.out;omega
 clear bn z;obtain⟨M,bN⟩:∃M,M=(w1.alloc (.cells jD 294)).alloc (.cells #[.slice (some ⟨w1.1.size,0,none⟩) 8 8,.slice none 0 0,.int .i64 1024] 272):=⟨_,rfl⟩;have en:Hid (Below w1.1.size w1 M):=by rw[bN];exact gQy.alloc (by simp) _
 have b6:Hid (Wtr M (w1.1.size+2) (w1.1.size+1) 1024 []):=by rw[bN];exact rH _ _
 have cd:∀o a1,Below w1.1.size w1 ((w1.alloc o).alloc a1):=fun o a1=>gQy.alloc (by simp) _;have z0:=fun o a1=>ae (cd o a1) d9;have z1:=fun o a1=>ae (cd o a1) ak;have c7:=gQq bN;clear cd bN;go_wp2_with fail;refine(l4 _).mono ?_;rintro e gm ⟨rfl,d5⟩;rw[d5];clear d5 gm;go_wp2_with fail;rw[<-c7.out];clear c7 z0 z1;have cy:Hid (Below w1.1.size w1 M∧w.1.size+2<=w1.1.size):=⟨en.out,Nat.le_trans f2 a5.out.size⟩;go_loopw [28] (fun cs wr=>∃(j:Nat) (zs:L8),j<=s.length∧cs=.int .i64 j∧zs.length<=j*20000000000∧Hid (iL 1024 [] (Rw.bytes (vs.take j)) zs∧Wtr wr (w1.1.size+2) (w1.1.size+1) 1024 zs∧AsW (w1.1.size+1) M wr∧Rw.colsErr s vs=Rw.colsErr (s.drop j) (vs.drop j))) (fun cs _=>s.length-(intOf cs).toNat);case atStart=>exact⟨0,[],by omega,rfl,by simp,⟨.inl rfl,by simp⟩,b6.out,AsW.new b6.out.lt gQz,rfl⟩
 case round=>
  clear d9 ak;obtain⟨j,zs,gN,rfl,g7,I⟩:=hrel;have ci:Below w1.1.size w1 wr:=cy.out.1.trans (I.out.2.2.1.below b6.out (by omega));have bO:Below W0.1.size W0 wr:=a5.out.trans (ci.mono a5.out.size);have U:Below w.1.size w wr:=a4.out.trans (bO.mono a4.out.size);have ak:wr.cell? ⟨w.1.size+1,0,none⟩=some (.slice q vs.length ah):=ae bO b7.out.2;by_cases d0:j<s.length
  ·have bX:j<vs.length:=(by have:=bq.out;omega);have g0:(j:Int)<(vs.length:Int):=(by omega);have g1:(j:Int)<(s.length:Int):=(by omega);obtain⟨bx,hc,k,b3,b2,b1,gd,gb,f6,gh,gg,ge,f8,rfl,gu,cc,d1,-⟩:=e0.out.at j d0;obtain⟨e3,e4,e5,e6,e7,e8,e9,fa,fb⟩:=cc.on U;obtain⟨hg,cj,dv⟩:=ew.out j bX;obtain⟨ab,a2,co,cn,b9,cr,cq,cp,b8,rfl,_,rfl,c0,c1,c2,c3,c4⟩:=(dv.on U).lies;obtain⟨W,bi⟩:∃W,W=wr.alloc (.cells #[.string s[j].name,.int .i64 k,.slice b3 b2 b1,.bool s[j].has,.int .i64 gd,.int .i64 gb,.float .f64 f6,.string gh,.slice gg ge f8] 40):=⟨_,rfl⟩;have J:Below wr.1.size wr W:=(by rw[bi];exact gQy);have ea:W.cell? ⟨wr.1.size,1,none⟩=some (.int .i64 k):=(by rw[bi];simp);have eb:W.cell? ⟨wr.1.size,2,none⟩=some (.slice b3 b2 b1):=(by rw[bi];simp);have c9:=ae J c0;have da:=ae J c1;have db:=ae J c2;have dc:=ae J c3;have dd:=ae J c4;have d8:=ae J ak;have gn:=gQq J;have b5:=gQq (U.trans (J.mono U.size));have Q:Hid (∀w',Below w.1.size w w'->Calls Tryz.prog 197 #[.agg #[.int .i64 k,.slice b3 b2 b1],.agg #[.int .i64 co,.int .i64 cn,.float .f64 b9,.string cr,.slice cq cp b8]] w' fun e gl=>e=.returned (.int .i64 (Rw.vErr s[j].ty vs[j]:Nat))∧Below w'.1.size w' gl):=fun w' hb=>oH _ _ w' _ _ (d1.on hb) (cj.on hb)
   have Y:Hid (Rw.vErr s[j].ty vs[j]=0->(Sch.vB vs[j]).length<=20000000000∧∀w',Below w.1.size w w'->Wtr w' (w1.1.size+2) (w1.1.size+1) 1024 zs->Calls Tryz.prog 198 #[.pointer (some ⟨w1.1.size+1,0,none⟩),.agg #[.int .i64 co,.int .i64 cn,.float .f64 b9,.string cr,.slice cq cp b8]] w' (WrA w' (w1.1.size+2) (w1.1.size+1) 1024 zs (Sch.vB vs[j]))):=fun h=>by
    have dp:=(Rw.vErr_zero h).2.1;have f3:=Sch.vB_small dp (by omega);exact⟨f3,fun w' hb fs=>xZ _ 1 dp (ez.out _ (List.getElem_mem bX)) w w' _ _ _ _ zs cj hb (by have:=cy.out.2;omega) fs (by omega)⟩
   have a3:=gQq (I.out.2.2.2.trans (mK s vs j d0 bX));have Z:=gQq I.out.1;have c8:=gQq (I.out.2.1.on J);have el:Hid (AsW (w1.1.size+1) M W):=I.out.2.2.1.trans (AsW.new I.out.2.1.lt J);have c5:Hid (Rw.bytes (vs.take (j+1))=Rw.bytes (vs.take j)++Sch.vB vs[j]):=by
    show _=_;unfold Rw.bytes;rw[Sch.flatten_take Sch.vB vs j bX]
   obtain⟨X,d7⟩:∃X,X=Rw.vErr s[j].ty vs[j]:=⟨_,rfl⟩;rw[<-d7] at Q a3 Y;obtain⟨full,ds⟩:∃l,l=Sch.vB vs[j]:=⟨_,rfl⟩;rw[<-ds] at Y c5;generalize s[j].name=ha at *
   generalize s[j].has=g5 at *
   have cx:=gQq bi;clear cc d1 U I d7 cj dv bi J ds ci bO;go_wp2_with fail;rw[<-cx.out];clear cx e3 e4 e5 e6 e7 e8 e9 fa fb c0 c1 c2 c3 c4 ak
   go_region_held3 (fun w'=>w'.cell? ⟨wr.1.size,1,none⟩=some (.int .i64 k)∧w'.cell? ⟨wr.1.size,2,none⟩=some (.slice b3 b2 b1)∧w'.cell? ⟨ab,a2+j*5,none⟩=some (.int .i64 co)∧w'.cell? ⟨ab,a2+j*5+1,none⟩=some (.int .i64 cn)∧w'.cell? ⟨ab,a2+j*5+2,none⟩=some (.float .f64 b9)∧w'.cell? ⟨ab,a2+j*5+3,none⟩=some (.string cr)∧w'.cell? ⟨ab,a2+j*5+4,none⟩=some (.slice cq cp b8)∧w'.cell? ⟨w.1.size+1,0,none⟩=some (.slice (some ⟨ab,a2,none⟩) vs.length ah)) (go_keep) (first|(go_at_call 197;refine(Q.out _ (below_drewN b5.out _)).mono ?_;rintro e w4 ⟨rfl,dk⟩;have K:=dz (w:=W) dk (by rfl) (by rfl) (by rfl) (by rfl);have z1:=ae K ea;have z2:=ae K eb;have ec:=ae K c9;have ed:=ae K da;have ee:=ae K db;have ef:=ae K dc;have eg:=ae K dd;have eh:=ae K d8;have a6:=gQq K;clear dk K))
   clear z1 z2 ea eb c9 da db dc dd d8;have eC:=gQq (c8.out.on a6.out);have ei:Hid (AsW (w1.1.size+1) M w4):=el.out.trans (AsW.new c8.out.lt a6.out);have cv:=gQq (b5.out.trans (a6.out.mono b5.out.size));by_cases O:X=0
   ·have bj:((X:Int) != 0)=false:=(by rw[O];rfl);have gL:=(Y.out O).1;have cw:=gQq ((Y.out O).2 w4 cv.out eC.out);have er:Hid (Rw.colsErr s vs=Rw.colsErr (s.drop (j+1)) (vs.drop (j+1))):=(by show _=_;rw[a3.out,if_pos O]);clear a6 Q O a3 Y;go_wp2_with fail;refine cw.out.mono ?_;rintro e w5 ⟨b4,be,rfl,d6,di⟩;have eu:Hid (iL 1024 [] (Rw.bytes (vs.take (j+1))) b4∧Wtr w5 (w1.1.size+2) (w1.1.size+1) 1024 b4∧AsW (w1.1.size+1) M w5∧Rw.colsErr s vs=Rw.colsErr (s.drop (j+1)) (vs.drop (j+1))):=by
     refine⟨?_,d6,ei.out.trans di,er.out⟩;rw[c5.out];have fh:=Z.out.len;have gt:=be.len;have cc:(Rw.bytes (vs.take j)++full).length=(Rw.bytes (vs.take j)).length+full.length:=List.length_append;have gs:(zs++full).length=zs.length+full.length:=List.length_append;simp only[List.length_nil,Nat.zero_add] at fh;refine⟨?_,by simp only[List.length_nil,Nat.zero_add];omega⟩;rw[List.nil_append];rcases Z.out.eq with ca | ca
     ·rw[List.nil_append] at ca;rw[<-ca];exact be.eq
     ·refine .inr ⟨?_,?_⟩
      ·rcases be.eq with cb | cb
       ·rw[cb];omega
       ·exact cb.1
      ·omega
    have f4:b4.length<=(j+1)*20000000000:=(by have:=be.len;omega);clear be d6 di cw ec ed ee ef eg eh;go_wp2;go_roundw;case rel=>exact⟨j+1,b4,by omega,by go_num,f4,eu.out⟩
    case measure=>simp[intOf];omega
   ·have bj:((X:Int) != 0)=true:=(by rw[bne_iff_ne];omega);have D:Hid (R=X):=by
     show _=_;have e:Rw.colsErr s vs=X:=(by rw[a3.out,if_neg O]);rw[bp.out,if_pos (by rw[e];exact O),e]
    have y:Hid (S=[]):=(by show _=_;rw[E.out,D.out,if_neg O]);clear a6 Q O a3 bp E ec ed ee ef eg eh Y;go_wp2;go_ret2;exact⟨none,0,by rw[y.out,D.out];rfl,by rw[y.out];exact .inl rfl,by rw[y.out];exact gQx,cv.out⟩
  ·have g2:¬(j:Int)<(s.length:Int):=(by omega);have dn:Rw.colsErr s vs=0:=(by rw[I.out.2.2.2,List.drop_eq_nil_of_le (by omega),List.drop_eq_nil_of_le (by have:=bq.out;omega)];rfl);have a8:=gQq (bp.out.trans (if_neg (by rw[dn];simp)));have b0:=I.out.1;rw[List.take_of_length_le (by have:=bq.out;omega)] at b0;have g8:zs.length<=320000000000:=(by omega);obtain⟨T,f5,fc,z,-,de,-,-⟩:=I.out.2.1.out;have hf:wr.cell? ⟨w1.1.size+1,1,none⟩=some (.slice f5 zs.length fc):=aa z 1;have ep:=gQq de;have ct:=gQq U;obtain⟨L,df⟩:∃L,L=Rw.bytes vs:=⟨_,rfl⟩;rw[<-df] at a8 b0 E;have Z:=gQq b0;clear I U df dn bp z de ci bO ak b0;by_cases bT:1024<zs.length
   ·have fg:(1024:Int)<(zs.length:Int):=(by omega);have dh:1024<L.length:=by
     rcases Z.out.eq with z | z
     ·rw[List.nil_append] at z;rw[<-z];exact bT
     ·have:=z.2;rw[List.nil_append] at this;omega
    have D:Hid (R=2):=(by show _=_;rw[a8.out,if_pos dh]);have y:Hid (S=[]):=(by show _=_;rw[E.out,D.out,if_neg (by decide)]);clear a8 bT dh E;go_wp2;go_ret2;exact⟨none,0,by rw[y.out,D.out];rfl,by rw[y.out];exact .inl rfl,by rw[y.out];exact gQx,ct.out⟩
   ·have fg:¬(1024:Int)<(zs.length:Int):=(by omega);have bj:zs=L:=by
     rcases Z.out.eq with z | z
     ·rw[List.nil_append] at z;exact z
     ·exact absurd z.1 (by omega)
    have D:Hid (R=0):=(by show _=_;rw[a8.out,if_neg (by rw[<-bj];exact bT)]);have y:Hid (S=zs):=(by show _=_;rw[E.out,D.out,if_pos rfl,bj]);obtain⟨he,gp,fy,dj,fx⟩:=ep.out.at;injection fy with e1 _ e2;subst e1 e2;have em:=gQq dj;clear a8 bT bj E dj Z;go_wp2;go_ret2;rw[y.out,D.out];exact⟨_,_,rfl,em.out,fx,ct.out⟩
end
end Go.Proofs.YtbahfgdbjgkklaaGreatDoor
