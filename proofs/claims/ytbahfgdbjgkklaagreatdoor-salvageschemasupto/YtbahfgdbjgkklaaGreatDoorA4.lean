import Derived.Test.YtbahfgdbjgkklaaGreatDoorA2
import Derived.Test.YtbahfgdbjgkklaaGreatDoorB13
import Derived.Test.YtbahfgdbjgkklaaGreatDoorB44
import Derived.Test.YtbahfgdbjgkklaaGreatDoorB43
set_option maxRecDepth 100000
set_option maxHeartbeats 4000000
namespace Go.Proofs.YtbahfgdbjgkklaaGreatDoor
variable{B:Nat}{w w':World}{q:OA}
section
open Go.RowKit
def qK(w:World)(x:Int×List Col)(u:List Value)(_:World):Prop:=∃p d,u=[.int .i64 x.1,.slice p x.2.length d]∧bB w p d x.2
theorem Lot.clears{v:Value}{xs:List (Int×List Col)}(h:Lot 31 2 (qK w) w' B v xs)(hb:Below w.1.size w w'):∃q c,v=.slice q xs.length c∧eV w' q xs:=by
 obtain⟨q,c,z,_⟩:=h.form;refine⟨q,c,z,fun j J=>?_⟩;obtain⟨g,cap,u,o,_,_,D,_,y,p,d,E,I⟩:=h.cell j J;rw[z] at o;injection o with o _ _;have c0:=y 0 (by omega);have c1:=y 1 (by omega);rw[E] at c0 c1;exact⟨g,0,p,d,o,D,by rw[Nat.zero_add];exact c0,by rw[Nat.zero_add];exact c1,I.on hb⟩
structure C17(w wr:World)(l:List (Int×List Col))(m:Int)(v:Value)(o:List (Int×List Col)):Prop where
 upto:Sv.Upto l m o
 rows:Lot 31 2 (qK w) wr w.1.size v o
 below:Below w.1.size w wr
theorem C17.on{wr W:World}{l:List (Int×List Col)}{m:Int}{v:Value}{o:List (Int×List Col)}(h:C17 w wr l m v o)(hb:Below wr.1.size wr W):C17 w W l m v o:=⟨h.upto,h.rows.on hb,h.below.trans (hb.mono h.below.size)⟩
theorem xt(l:List (Int×List Col))(q:OA)(c:Nat)(w:World)(d2:l.length<=2000000)(cf:eV w q l)(a2:∀p∈l,Fr.i64 p.1∧0<=p.1):
  Calls Tryz.prog 34 #[.slice q l.length c] w (rC w (Sv.sure l)):=by
 have bp:=gQq cf;have cb:Hid (C17 w w l (-1) (.slice none 0 0) []):=⟨Sv.upto_nil (fun p da=>(a2 p da).2),fU _ _,gQz⟩;have cu:=gQq a2;clear cf a2;go_enter Tryz.func34,Tryz.ntmps34;go_wp2_with fail;go_loopw [3,4] (fun dj b6 wr=>∃(J:List (Int×List Col)) (m:Int),b6=.int .i64 m∧-1<=m∧Hid (C17 w wr l m dj J)) (fun _ b6 _=>Sv.beyond l (intOf b6));case atStart=>exact⟨[],-1,rfl,by omega,cb⟩
 case round=>
  obtain⟨J,m,rfl,d3,ca⟩:=hrel;clear cb;have b9:=gQq (Sv.best_none l m);go_wp2_with fail;go_loopw [5,13] (fun dk b5 wr=>∃(i:Nat) (b:Int),i<=l.length∧dk=.int .i64 b∧b5=.int .i64 i∧Hid (Sv.Best l m i b)∧Hid (C17 w wr l m u3 J)) (fun _ b5 _=>l.length-(intOf b5).toNat);case atStart=>exact⟨0,-1,by omega,rfl,rfl,b9,ca⟩
  case round=>
   obtain⟨i,b,a2,rfl,rfl,bk,I⟩:=hrel;clear ca b9;by_cases a3:i<l.length
   ·have c5:(i:Int)<(l.length:Int):=(by omega);obtain⟨bs,bX,p,d,rfl,c7,bi,bj,-⟩:=(bp.out.on I.out.below) i a3;obtain⟨z,E,a4⟩:∃z E,l[i]=(z,E):=⟨_,_,rfl⟩;rw[a4] at bi bj;simp only at bi bj;have a8:Hid (l[i].1=z):=(by show _=_;rw[a4]);have S:Hid (∀n,C17 w ((wr.alloc (.cells #[.int .i64 z,.slice p E.length d] 31)).drewN n) l m u3 J):=fun n=>I.out.on (below_drewN gQy n);clear a4;by_cases a9:m<z
    ·rcases bk.out with ⟨rfl,bc⟩ | ⟨k,Z,rfl,c9,Y,ah,a0⟩
     ·have L:=gQq (Sv.best_new bc a3 (by rw[a8.out];exact a9));clear bc;go_wp2_with fail;go_quiet (fail);go_wp2;go_roundw;case rel=>exact⟨i+1,_,by omega,rfl,by go_num,L,S.out _⟩
      case measure=>simp[intOf];omega
     ·obtain⟨cx,dh,pk,U,ak,-,ab,-,-⟩:=(bp.out.on I.out.below) k Z;injection ak with ak;injection ak with e1 e2 _;subst e1 e2;obtain⟨o,y,K⟩:∃o y,l[k]=(o,y):=⟨_,_,rfl⟩;rw[K] at ab;simp only at ab;have b1:Hid (l[k].1=o):=(by show _=_;rw[K]);have b0:∀cq,(wr.alloc cq).cell? ⟨bs,bX+k*2,none⟩=some (.int .i64 o):=fun cq=>ae gQy ab;have de:(0:Int)<=(k:Int):=(by omega);have df:(k:Int)<(l.length:Int):=(by omega);by_cases ce:z<o
      ·have L:=gQq (Sv.best_less Z ah a3 (by rw[a8.out];exact a9) (by rw[a8.out,b1.out];exact ce));clear Y ah a0 K;go_wp2_with fail;go_quiet (fail);go_wp2;go_roundw;case rel=>exact⟨i+1,_,by omega,rfl,by go_num,L,S.out _⟩
       case measure=>simp[intOf];omega
      ·have L:=gQq (Sv.best_keep Z c9 Y ah a0 a3 (by rw[a8.out,b1.out];exact ce));clear Y ah a0 K;go_wp2_with fail;go_quiet (fail);go_wp2;go_roundw;case rel=>exact⟨i+1,_,by omega,rfl,by go_num,L,S.out _⟩
       case measure=>simp[intOf];omega
    ·have L:=gQq (Sv.best_skip bk.out a3 (by rw[a8.out];omega));have dv:decide (m<z)=false:=decide_eq_false a9;go_wp2_with fail;go_quiet (fail);go_wp2;go_roundw;case rel=>exact⟨i+1,_,by omega,rfl,by go_num,L,S.out _⟩
     case measure=>simp[intOf];omega
   ·have c5:¬(i:Int)<(l.length:Int):=(by omega);obtain rfl:i=l.length:=by omega
    clear a3 a2;rcases bk.out with ⟨rfl,bc⟩ | ⟨k,Z,rfl,-,Y,ah,a0⟩
    ·have ct:=gQq (Sv.upto_end I.out.upto bc);obtain⟨di,c3,dc,co⟩:=I.out.rows.clears I.out.below;have cv:=gQq co;subst dc;clear bc co;go_wp2;go_ret;refine⟨J,di,c3,rfl,cv.out,I.out.upto.rises,ct.out,?_,I.out.below⟩;have:=I.out.upto.room;omega
    ·obtain⟨bs,bX,pk,U,rfl,c7,ab,b8,bO⟩:=bp.out k Z;obtain⟨o,y,K⟩:∃o y,l[k]=(o,y):=⟨_,_,rfl⟩;rw[K] at ab b8 bO;simp only at ab b8 bO;have b1:Hid (l[k]=(o,y)):=K;have br:=Sv.upto_more I.out.upto Z Y ah a0;rw[K] at br Y;simp only at br Y;have a6:=gQq br;have bN:=Sv.beyond_lt Z (show m<l[k].1 by rw[K];exact Y);rw[K] at bN;simp only at bN;have cc:=gQq bN;have b2:=gQq bO;have ck:=cu.out l[k] (List.getElem_mem Z);rw[K] at ck;simp only at ck;have de:(0:Int)<=(k:Int):=(by omega);have df:(k:Int)<(l.length:Int):=(by omega);have b0:=ae I.out.below ab;clear ah a0 K br bN bO bk;go_wp2_with fail;go_loopw [8,48] (fun dn b7 wr=>∃t:Nat,t<=l.length∧dn=.bool (Sv.One l o y t)∧b7=.int .i64 t∧Hid (C17 w wr l m u3 J)) (fun _ b7 _=>l.length-(intOf b7).toNat);case atStart=>exact⟨0,by omega,rfl,rfl,I⟩
     case round=>
      obtain⟨t,db,rfl,rfl,D⟩:=hrel;clear I b0;have b0:=ae D.out.below ab;have cr:=ae D.out.below b8;by_cases b4:t<l.length
      ·have c6:(t:Int)<(l.length:Int):=(by omega);obtain⟨cx,dh,p,d,ak,-,bi,bj,be⟩:=(bp.out.on D.out.below) t b4;injection ak with ak;injection ak with e1 e2 _;subst e1 e2;obtain⟨z,E,a4⟩:∃z E,l[t]=(z,E):=⟨_,_,rfl⟩;have bb:=Sv.one_succ l o y t b4;rw[a4] at bi bj be bb;simp only at bi bj be bb;obtain⟨X,a1⟩:∃X,X=Sv.One l o y t:=⟨_,rfl⟩;rw[<-a1] at bb ⊢;have bn:=gQq bb;have bq:Hid (∀w',Below wr.1.size wr w'->Calls Tryz.prog 29 #[.agg #[.slice p E.length d],.agg #[.slice pk y.length U]] w' fun e dp=>e=.returned (.bool (Sch.same E y))∧Below w'.1.size w' dp):=fun w' hb=>
        iE E y p pk d U w' be.len (be.on hb).cols (b2.out.on (D.out.below.trans (hb.mono D.out.below.size))).cols
       obtain⟨sm,cp⟩:∃sm,sm=Sch.same E y:=⟨_,rfl⟩;rw[<-cp] at bq bn;clear a4 be bb a1 cp;obtain⟨V,M⟩:∃W,W=wr.alloc (.cells #[.int .i64 z,.slice p E.length d] 31):=⟨_,rfl⟩;have aj:Below wr.1.size wr V:=(by rw[M];exact gQy);have z0:V.cell? ⟨wr.1.size,0,none⟩=some (.int .i64 z):=(by rw[M];exact aa (am wr _) 0);have z1:V.cell? ⟨wr.1.size,1,none⟩=some (.slice p E.length d):=(by rw[M];exact aa (am wr _) 1);have z2:=ae aj cr;have Q:=gQq aj;have a7:=gQq M.symm;clear M aj b0 cr;by_cases bT:z=o
       ·subst bT;cases sm with
        |true=>
         have a5:Hid (Sv.One l z y (t+1)=X):=(by show _=_;rw[bn.out];simp);go_wp2_with fail;rw[a7.out]
         go_region_held3 (fun w'=>w'.cell? ⟨wr.1.size,0,none⟩=some (.int .i64 z)∧w'.cell? ⟨wr.1.size,1,none⟩=some (.slice p E.length d)∧w'.cell? ⟨bs,bX+k*2+1,none⟩=some (.slice pk y.length U)) (go_keep) (first|(go_at_call 29;refine(bq.out _ Q.out.drew).mono ?_;rintro e dr ⟨rfl,O⟩;have z0:=ae O z0;have z1:=ae O z1;have z2:=ae O z2;have L:=gQq O;clear O)|fail)
         go_wp2;go_roundw;case rel=>exact⟨t+1,by omega,by rw[a5.out],by go_num,D.out.on (Q.out.drew.trans (L.out.mono Q.out.drew.size))⟩
         case measure=>simp[intOf];omega
        |false=>
         have a5:Hid (Sv.One l z y (t+1)=false):=(by show _=_;rw[bn.out];simp);go_wp2_with fail;rw[a7.out]
         go_region_held3 (fun w'=>w'.cell? ⟨wr.1.size,0,none⟩=some (.int .i64 z)∧w'.cell? ⟨wr.1.size,1,none⟩=some (.slice p E.length d)∧w'.cell? ⟨bs,bX+k*2+1,none⟩=some (.slice pk y.length U)) (go_keep) (first|(go_at_call 29;refine(bq.out _ Q.out.drew).mono ?_;rintro e dr ⟨rfl,O⟩;have z0:=ae O z0;have z1:=ae O z1;have z2:=ae O z2;have L:=gQq O;clear O)|fail)
         go_wp2;go_roundw;case rel=>exact⟨t+1,by omega,by rw[a5.out],by go_num,D.out.on (Q.out.drew.trans (L.out.mono Q.out.drew.size))⟩
         case measure=>simp[intOf];omega
       ·have a5:Hid (Sv.One l o y (t+1)=X):=(by show _=_;rw[bn.out];simp[bT]);have d0:(z==o)=false:=bd bT;have d1:decide (z=o)=false:=decide_eq_false bT;have S:Hid (∀n,C17 w (V.drewN n) l m u3 J):=fun n=>D.out.on (below_drewN Q.out n);clear bq;go_wp2_with fail;rw[a7.out];go_quiet (fail);go_wp2;go_roundw;case rel=>exact⟨t+1,by omega,by rw[a5.out],by go_num,S.out _⟩
        case measure=>simp[intOf];omega
      ·have c6:¬(t:Int)<(l.length:Int):=(by omega);obtain rfl:t=l.length:=by omega
       clear b4 db;have ds:=gQq (bB.on b2.out D.out.below);obtain⟨X,a1⟩:∃X,X=Sv.One l o y l.length:=⟨_,rfl⟩;rw[<-a1] at a6 ⊢;cases X with
       |true=>
        have b3:Hid (Sv.Upto l o (J++[(o,y)])):=a6.out;have d4:=D.out.upto.room;obtain⟨V,M⟩:∃W,W=wr.alloc (.cells #[.int .i64 o,.slice pk y.length U] 31):=⟨_,rfl⟩;have aj:Below wr.1.size wr V:=(by rw[M];exact gQy);have cj:V.1[wr.1.size]?=some (.cells #[.int .i64 o,.slice pk y.length U] 31):=(by rw[M];exact am wr _);have dd:V.1.size=wr.1.size+1:=(by rw[M];simp);have cd:=gQq (D.out.rows.on aj);have cs:=gQq cj;have Q:=gQq aj;have a7:=gQq M.symm;have cw:Hid (dZ (fun i=>u3.ownBlock=some i) V (qK w (o,y) [.int .i64 o,.slice pk y.length U])):=fun _ _=>⟨pk,U,rfl,b2.out⟩;clear M aj cj a1 a6
        go_wp2_with (first|(at_builtin;rw[a7.out];refine iw (P:=qK w) jy Tryz.underlying24 rfl (by decide) cd.out (o,y) #[.int .i64 o,.slice pk y.length U] rfl (by intro a cg;simp at cg;rcases cg with rfl | rfl <;> rfl) cw.out cs.out (by omega) (by omega) (by have:=D.out.below.size;omega) dd rfl rfl rfl rfl ?_;(intro a9 cy w5 cn ci _);(have S:Hid (C17 w w5 l o (.slice (some ⟨a9,0,none⟩) (J.length+1) cy) (J++[(o,y)])):=⟨b3.out,cn,(D.out.below.trans (Q.out.mono D.out.below.size)).trans (ci.below (Nat.le_trans D.out.below.size Q.out.size) (fun i a2 c8=>by have:=(cd.out.lt i c8).1;omega))⟩);(clear cn ci))|fail)
        go_roundw;case rel=>exact⟨_,o,rfl,by omega,S⟩
        case measure=>simp only[intOf];exact cc.out
       |false=>
        have b3:Hid (Sv.Upto l o J):=a6.out;have S:Hid (C17 w wr l o u3 J):=⟨b3.out,D.out.rows,D.out.below⟩;clear a1 a6;go_wp2;go_roundw;case rel=>exact⟨J,o,rfl,by omega,S⟩
        case measure=>simp only[intOf];exact cc.out
end
section
open Go.RowKit
theorem mh(b:L8)(p:OA)(c:Nat)(w:World)(c7:b.length<=1100000)(b2:b.length<=c)(bO:At w p b):
  Calls Tryz.prog 10 #[.slice p b.length c] w (rC w (Sv.sure (Sv.said (Sp.of b).out))):=by
 have V:=gQq (rX w p c b bO b2 (by omega));have cn:=Sp.out_len b;have a8:=gQq (Sp.row_all b).stand;obtain⟨rs,b8⟩:∃rs,rs=(Sp.of b).out:=⟨_,rfl⟩;rw[<-b8] at V cn a8 ⊢;clear bO b8 b2;go_enter Tryz.func10,Tryz.ntmps10;go_wp2_with fail;refine V.out.mono ?_;rintro e w1 ⟨q,cap,cv,rfl,b7,b1⟩;have cf:=gQq b7;have a5:=gQq b1;clear b7 b1 V;go_wp2_with fail;go_loopw [3,11] (fun ct a2 wr=>∃t:Nat,t<=rs.length∧a2=.int .i64 t∧Hid (S17 w1 wr ct (rs.take t))) (fun _ a2 _=>rs.length-(intOf a2).toNat);case atStart=>exact⟨0,by omega,rfl,fU _ _,gQz⟩
 case round=>
  obtain⟨t,c9,rfl,y⟩:=hrel;by_cases Q:t<rs.length
  ·have da:(t:Int)<(rs.length:Int):=(by omega);obtain⟨cu,cx,ca,bi,ah,c5,a3,a4,M,b3⟩:=(cf.out.on y.out.below).cell t Q;injection ah with ah hq2 hq3;clear hq2;subst hq3;subst ah;have b6:=(a8.out _ (List.getElem_mem Q)).most;obtain⟨k,o,aj⟩:∃k o,rs[t]=(k,o):=⟨_,_,rfl⟩;have X:Hid (rs.take (t+1)=rs.take t++[(k,o)]):=(by show _=_;rw[List.take_succ_eq_append_getElem Q,aj]);rw[aj] at a3 a4 M b3 b6;simp only at a3 a4 M b3 b6;obtain⟨cb,a1⟩:∃W,W=wr.alloc (.cells #[.int .i64 (k:Int),.slice ca o.length bi] 62):=⟨_,rfl⟩;have Z:Below wr.1.size wr cb:=(by rw[a1];exact gQy);have a7:=gQq (nO ca bi o (by omega) cb (M.on Z));have I:=gQq Z;have bb:=gQq a1;clear aj M a1 Z;go_wp2_with fail;rw[<-bb.out];clear bb a3 a4;refine a7.out.mono ?_;clear a7;cases hd:Fr.dec o with
   |error er=>
    rintro e E ⟨rfl,z⟩;have ck:=kv hd;have cy:((er:Int)==0)=false:=bd (by omega);have J:=gQq (y.out.skip (r:=(k,o)) (I.out.trans ((z.alloc z.size (.cells #[.int .i64 0,.int .i64 0,.slice none 0 0,.int .i64 0,.int .i64 0,.int .i64 0,.slice none 0 0,.int .i64 0,.int .i64 0,.int .i64 0,.slice none 0 0] 67)).mono I.out.size)) (nG hd));clear z hd ck;go_wp2;go_roundw;case rel=>exact⟨t+1,by omega,by go_num,by rw[X.out];exact J⟩
    case measure=>simp[intOf];omega
   |ok f=>
    rintro e E ⟨u,rfl,ab,z⟩;obtain⟨sp,S,be,bc,bk,bj,cp,a0,-⟩:=ab.out;subst cp;unfold bJ;have L:Hid (Below wr.1.size wr E):=I.out.trans (z.mono I.out.size);have cc:Hid (Below E.1.size E (E.alloc (.cells #[.int .i64 f.kind,.int .i64 f.number,.slice sp f.cols.length S,.int .i64 f.seq,.int .i64 f.first,.int .i64 f.rows,.slice be f.block.length bc,.int .i64 f.index.at_,.int .i64 f.index.frames,.int .i64 f.index.rows,.slice bk f.index.entries.length bj] 67))):=gQy;by_cases D:f.kind=1
    ·have bn:(f.kind==1)=true:=cZ D;have b4:=Sv.dec_good hd D;obtain⟨-,bT,Y,-⟩:=al2 E (.cells #[.int .i64 f.kind,.int .i64 f.number,.slice sp f.cols.length S,.int .i64 f.seq,.int .i64 f.first,.int .i64 f.rows,.slice be f.block.length bc,.int .i64 f.index.at_,.int .i64 f.index.frames,.int .i64 f.index.rows,.slice bk f.index.entries.length bj] 67) (.cells #[.int .i64 f.number,.slice sp f.cols.length S] 31);have cd:=gQq bT;have U:=gQq (L.out.trans (Y.mono L.out.size));have ci:=gQq (y.out.still a0 I.out.size b4.2.2.2 Y f.number);have ce:=gQq (y.out.rows.on U.out);have cg:=gQq (nE (rs:=rs.take t) (r:=(k,o)) hd D);have ak:=Sv.said_le (rs.take t);have c8:(Sv.said (rs.take t)).length<=1100000:=(by rw[List.length_take] at ak;omega);clear hd D b4 a0 ab z bT Y ak;go_wp2_with (first | (at_builtin;refine iw (P:=lu w1.1.size) jy Tryz.underlying24 rfl (by decide) ce.out (f.number,f.cols) #[.int .i64 f.number,.slice sp f.cols.length S] rfl (by intro a bX;simp at bX;rcases bX with rfl | rfl <;> rfl) ci.out cd.out (by omega) (by omega) (by have:=y.out.below.size;have:=U.out.size;omega) rfl rfl rfl rfl rfl ?_;(intro bn cw w5 b5 b0 _);(have J:=gQq (y.out.more U.out cg.out b5 b0));(clear b5 b0)) | fail);go_roundw;case rel=>exact⟨t+1,by omega,by go_num,by rw[X.out];exact J⟩
     case measure=>simp[intOf];omega
    ·have bn:(f.kind==1)=false:=bd D;have J:=gQq (y.out.skip (r:=(k,o)) (L.out.trans (cc.out.mono L.out.size)) (nF hd D));clear hd D a0 ab z;go_wp2;go_roundw;case rel=>exact⟨t+1,by omega,by go_num,by rw[X.out];exact J⟩
     case measure=>simp[intOf];omega
  ·have c6:¬(t:Int)<(rs.length:Int):=(by omega);obtain rfl:t=rs.length:=by omega
   have O:=y.out;rw[List.take_length] at O;obtain⟨cr,c2,cq,b9⟩:=O.rows.schs;subst cq;have ak:=Sv.said_le rs;have a9:=gQq (xt (Sv.said rs) cr c2 wr (by omega) b9.schs (fun p co=>by have:=(Sv.said_good rs p co).1;exact⟨⟨by omega,by omega⟩,this.1⟩));have a6:=gQq (a5.out.trans (O.below.mono a5.out.size));clear Q O b9;go_wp2_with fail;refine a9.out.mono ?_;rintro e E ⟨l,cs,cj,rfl,bp,bq,br,bs,bN⟩;have K:=gQq (And.intro bp (And.intro bq (And.intro br (And.intro bs (a6.out.trans (bN.mono a6.out.size))))));clear bp bq br bs bN a9;go_wp2;go_ret;exact⟨l,cs,cj,rfl,K.out.1,K.out.2.1,K.out.2.2.1,K.out.2.2.2.1,K.out.2.2.2.2⟩
end
section
open Go.RowKit
theorem j5(l:List (Int×List Col))(p q:OA)(c d:Nat)(w:World)(bb:l.length<=2000000)(I:eV w p l)(Z:eV w q l):Calls Tryz.prog 9 #[.slice p l.length c,.slice q l.length d] w fun e w'=>e=.returned (.bool true)∧Below w.1.size w w':=by
 have a0:=gQq I;have a1:=gQq Z;clear I Z;go_enter Tryz.func9,Tryz.ntmps9;go_wp2;go_loopw [13] (fun X wr=>∃i:Nat,i<=l.length∧X=.int .i64 i∧Hid (Below w.1.size w wr)) (fun X _=>l.length-(intOf X).toNat);case atStart=>exact⟨0,by omega,rfl,gQz⟩
 case round=>
  obtain⟨i,a9,rfl,D⟩:=hrel;by_cases U:i<l.length
  ·have a2:(i:Int)<(l.length:Int):=(by omega);obtain⟨bx,ab,V,Q,a5,-,K,L,E⟩:=(a0.out.on D.out) i U;obtain⟨Y,ah,W,S,a6,-,M,O,J⟩:=(a1.out.on D.out) i U;subst a5;subst a6;obtain⟨z,o,I⟩:∃z o,l[i]=(z,o):=⟨_,_,rfl⟩;rw[I] at K L M O E J;simp only at K L M O E J;have ak:Hid (∀w',Below wr.1.size wr w'->Calls Tryz.prog 29 #[.agg #[.slice V o.length Q],.agg #[.slice W o.length S]] w' fun e a7=>e=.returned (.bool true)∧Below wr.1.size wr a7):=fun w' hb=>by
    have h:=iE o o V W Q S w' E.len (E.on hb).cols (J.on hb).cols;rw[Fr.sameS_refl] at h;exact h.mono fun _ _ ⟨a3,a4⟩=>⟨a3,hb.trans (a4.mono hb.size)⟩
   have a8:(z != z)=false:=bo rfl;clear I E J;go_wp2_with fail
   go_region_held3 (fun w'=>w'.cell? ⟨bx,ab+i*2,none⟩=some (.int .i64 z)∧w'.cell? ⟨bx,ab+i*2+1,none⟩=some (.slice V o.length Q)∧w'.cell? ⟨Y,ah+i*2,none⟩=some (.int .i64 z)∧w'.cell? ⟨Y,ah+i*2+1,none⟩=some (.slice W o.length S)) (go_keep) (first|(go_at_call 29;refine(ak.out _ gQz.drew).mono ?_;rintro e bc ⟨rfl,y⟩;have K:=ae y K;have L:=ae y L;have M:=ae y M;have O:=ae y O;have aj:=gQq y;clear y)|fail)
   go_wp2;go_roundw;case rel=>exact⟨i+1,by omega,by go_num,D.out.trans (aj.out.mono D.out.size)⟩
   case measure=>simp[intOf];omega
  ·have a2:¬(i:Int)<(l.length:Int):=(by omega);clear U;go_wp2;go_ret;exact⟨rfl,D.out⟩
def Spo(w:World)(B:Nat)(q:OA)(ns:List Nat):Prop:=∀j (_:j<ns.length),∃b o p d,q=some ⟨b,o,none⟩∧w.cell? ⟨b,o+j*2+1,none⟩=some (.slice p ns[j] d)∧ns[j]<=10000000000000∧∀i,i<ns[j]->∃g s,p=some ⟨g,0,none⟩∧B<=g∧w.cell? ⟨g,i*9,none⟩=some (.string s)∧w.frozen? ⟨g,i*9,none⟩=false
theorem Spo.set{K:List Nat}(h:Spo w B q K){g m:Nat}{W:ByteArray}(o:w.cell? ⟨g,m,none⟩=some (.string W))(M:ByteArray):Spo (w.setCell ⟨g,m,none⟩ (.string M)) B q K:=fun j U=>by
 obtain⟨b,L,p,d,O,J,V,Q⟩:=h j U;refine⟨b,L,p,d,O,?_,V,fun i S=>?_⟩
 ·have e:(⟨g,m,none⟩:Addr)≠⟨b,L+j*2+1,none⟩:=fun e=>by rw[e,J] at o;cases o
  rw[World.cell?_setCell_other (h:=by first | exact e | exact fun o=>e o.symm)];exact J
 ·obtain⟨y,s,z,D,E,I⟩:=Q i S;by_cases e:(⟨g,m,none⟩:Addr)=⟨y,i*9,none⟩
  ·refine⟨y,M,z,D,?_,by rw[World.frozen?_setCell];exact I⟩;rw[e,World.cell?_setCell_same (h:=E)]
  ·refine⟨y,s,z,D,?_,by rw[World.frozen?_setCell];exact I⟩;rw[World.cell?_setCell_other (h:=by first | exact e | exact fun o=>e o.symm)];exact E
theorem Spo.on{y:List Nat}(h:Spo w B q y)(hb:Below w.1.size w w'):Spo w' B q y:=fun j Q=>by
 obtain⟨b,z,p,d,J,K,S,L⟩:=h j Q;refine⟨b,z,p,d,J,ae hb K,S,fun i O=>?_⟩;obtain⟨g,s,D,E,o,I⟩:=L i O;have M:g<w.1.size:=by
  unfold World.cell? at o;cases hk:w.1[g]? with
  |none=>simp[hk] at o
  |some z=>exact(Array.getElem?_eq_some_iff.1 hk).1
 exact⟨g,s,D,E,ae hb o,by rw[World.frozen?_of_block (a:=⟨g,i*9,none⟩) (hb.block g M)];exact I⟩
theorem im.spo{l:List (Int×List Col)}(h:im (fun p _ c=>dl w B p c.length 9) w q l):Spo w B q (l.map (·.2.length)):=fun j E=>by
 rw[List.length_map] at E;obtain⟨b,S,p,d,M,W,X,O,D,Q⟩:=h j E;refine⟨b,S,p,d,M,by rw[List.getElem_map];exact O,by rw[List.getElem_map];have:=D.len;omega,fun i o=>?_⟩;rw[List.getElem_map] at o;obtain⟨g,y,I,U,J⟩:=Q i o;have K:=(J 0 (by omega)).2;obtain⟨blk,off,k,ab,Z,Y,a0,ak,ah,a3,a2,a1,aj,f1,V,L,-⟩:=D.cols.at i o;rw[y] at f1;injection f1 with f1;injection f1 with f4 f5 _;subst f4 f5;have z:=L.1;rw[Nat.zero_add] at z;exact⟨g,_,y,I,z,K⟩
theorem iD{K:World->Prop}(a8:jA K)(bc:∀{w w':World},K w->Below w.1.size w w'->K w')(bb:∀w,K w->Calls Tryz.prog 7 #[] w fun e w'=>e=.returned (.bool true)∧Below w.1.size w w')(b:L8)(p:OA)(c:Nat)(w:World)(bO:b.length<=1100000)(bs:b.length<=c)(Z:At w p b)(ab:K w):
  Calls Tryz.prog 3 #[.slice p b.length c] w fun e w'=>e=.returned (.bool true)∧Below w.1.size w w':=by
 have a9:=gQq (bb w ab);obtain⟨S,ah⟩:∃S,S=Sv.sure (Sv.said (Sp.of b).out):=⟨_,rfl⟩;have bj:Hid (∀w',Below w.1.size w w'->Calls Tryz.prog 8 #[.slice p b.length c] w' (zP w' S)):=fun w' hb=>by rw[ah];exact a8 b p c w' bO bs (Z.on hb) (bc ab hb)
 have bi:Hid (∀w',Below w.1.size w w'->Calls Tryz.prog 10 #[.slice p b.length c] w' (rC w' S)):=fun w' hb=>by rw[ah];exact mh b p c w' bO bs (Z.on hb)
 clear Z ab bb a8 bc ah;go_enter Tryz.func3,Tryz.ntmps3;go_wp2_with fail;refine a9.out.mono ?_;rintro e w1 ⟨rfl,bn⟩;have D:=gQq bn;clear a9 bn;go_wp2_with fail;refine(bj.out _ D.out).mono ?_;rintro e di ⟨l,cf,ck,rfl,b9,b5,bX,bT,bp⟩;have M:=gQq (D.out.trans (bp.mono D.out.size));have J:=gQq (And.intro b9 (And.intro b5 bX));clear b9 b5 bX bp;go_wp2_with fail;refine(bi.out _ M.out).mono ?_;rintro e cy ⟨V,cv,cn,rfl,ca,b6,b0,-,U⟩;obtain rfl:V=l:=Sv.rises_eq b6 J.out.2.1 (fun n c=>(b0 n c).trans (J.out.2.2 n c).symm);have X:=gQq (M.out.trans (U.mono M.out.size));have E:=gQq (j5 V cf cv ck cn cy bT (J.out.1.schs.on U) ca);have be:=gQq (J.out.1.spo.on U);clear ca b6 b0 U J;go_wp2_with fail;refine E.out.mono ?_;rintro e w4 ⟨rfl,aj⟩;have a5:=gQq (X.out.trans (aj.mono X.out.size));have Y:=gQq (be.out.on aj);have cj:=gQq D.out.size;obtain⟨o,a2⟩:∃o,o=V.map (fun x=>x.2.length):=⟨_,rfl⟩;rw[<-a2] at Y;have b4:V.length=o.length:=by rw[a2,List.length_map]
 rw[b4] at bT ⊢;clear aj E be a2 b4 D M X;go_wp2_with fail;go_loopw [17] (fun a3 wr=>∃i:Nat,i<=o.length∧a3=.int .i64 i∧Hid (Below w.1.size w wr)∧Hid (Spo wr w1.1.size cf o)) (fun a3 _=>o.length-(intOf a3).toNat);case atStart=>exact⟨0,by omega,rfl,a5,Y⟩
 case round=>
  obtain⟨i,dc,rfl,z,I⟩:=hrel;clear a5 Y;by_cases a1:i<o.length
  ·have cq:(i:Int)<(o.length:Int):=(by omega);obtain⟨bk,ce,df,c9,rfl,cg,cu,L⟩:=I.out i a1;obtain⟨n,b3⟩:∃n,n=o[i]:=⟨_,rfl⟩;rw[<-b3] at cg cu;clear L;go_wp2_with fail;go_loopw [27] (fun a4 wr=>∃k:Nat,k<=n∧a4=.int .i64 k∧Hid (Below w.1.size w wr)∧Hid (Spo wr w1.1.size (some ⟨bk,ce,none⟩) o)) (fun a4 _=>n-(intOf a4).toNat);case atStart=>exact⟨0,by omega,rfl,z,I⟩
   case round=>
    obtain⟨k,dd,rfl,y,O⟩:=hrel;clear cg;by_cases bN:k<n
    ·have cr:(k:Int)<(n:Int):=(by omega);obtain⟨c8,de,dh,da,a0,c6,-,L⟩:=O.out i a1;injection a0 with a0;injection a0 with e1 e2 _;subst e1 e2;rw[<-b3] at c6 L;obtain⟨g,s,rfl,cs,c7,db⟩:=L k bN;have a7:Hid (∀W,Below w.1.size w (wr.setCell ⟨g,k*9,none⟩ (.string W))∧Spo (wr.setCell ⟨g,k*9,none⟩ (.string W)) w1.1.size (some ⟨bk,ce,none⟩) o):=fun W=>⟨oL y.out (Nat.le_trans cj.out cs) _,O.out.set c7 W⟩;clear L y O z I;go_wp2;go_roundw;case rel=>exact⟨k+1,by omega,by go_num,(a7.out _).1,(a7.out _).2⟩
     case measure=>simp[intOf];omega
    ·have cr:¬(k:Int)<(n:Int):=(by omega);clear bN z I;go_wp2;go_roundw;case rel=>exact⟨i+1,by omega,by go_num,y,O⟩
     case measure=>simp[intOf];omega
  ·have cq:¬(i:Int)<(o.length:Int):=(by omega);clear a1 I;go_wp2_with fail;refine(bj.out _ z.out).mono ?_;rintro e w5 ⟨l,cw,co,rfl,cb,b7,b1,ct,bq⟩;have y:=gQq (z.out.trans (bq.mono z.out.size));have Q:=gQq (And.intro cb (And.intro b7 b1));clear cb b7 b1 bq;go_wp2_with fail;refine(bi.out _ y.out).mono ?_;rintro e c5 ⟨cd,cx,cp,rfl,cc,b8,b2,-,ak⟩;obtain rfl:cd=l:=Sv.rises_eq b8 Q.out.2.1 (fun n c=>(b2 n c).trans (Q.out.2.2 n c).symm);have a6:=gQq (y.out.trans (ak.mono y.out.size));have E:=gQq (j5 cd cw cx co cp c5 ct (Q.out.1.schs.on ak) cc);clear cc b8 b2 ak Q;go_wp2_with fail;refine E.out.mono ?_;rintro e dj ⟨rfl,br⟩;have ci:=gQq (a6.out.trans (br.mono a6.out.size));clear br E;go_wp2;go_ret;exact⟨rfl,ci.out⟩
end
end Go.Proofs.YtbahfgdbjgkklaaGreatDoor
