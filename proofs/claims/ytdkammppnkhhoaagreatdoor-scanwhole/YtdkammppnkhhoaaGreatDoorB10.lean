import Derived.Test.YtdkammppnkhhoaaGreatDoorB07
set_option maxRecDepth 100000
set_option maxHeartbeats 2000000
namespace Go.Proofs.YtdkammppnkhhoaaGreatDoor
variable{B a z:Nat}{W W' w w2:World}{v:Value}{q:OA}{n:ByteArray}{l:List Col}
section
open Go.RowKit
theorem wQ(h:∀m (o:m<l.length),¬l[m].name=n):l.any (fun x=>decide (x.name=n))=false:=by
 rw[List.any_eq_false];intro x y;obtain⟨m,o,rfl⟩:=List.getElem_of_mem y;simpa using h m o
theorem uR(m:Nat)(o:m<l.length)(h:l[m].name=n):l.any (fun x=>decide (x.name=n))=true:=by
 rw[List.any_eq_true];exact⟨l[m],List.getElem_mem o,by simpa using h⟩
theorem tS(w:World)(p:OA)(c:Nat):aC w (cells5 0 0 0 ⟨#[]⟩ p 0 c) V0 :=
 aC.mk (xs:=[]) (fun _=>#[]) (by simp) (by simp) (fun o=>absurd rfl o) (fun j y=>by simp at y)
theorem nI(l:List Col)(c:Col)(p:OA)(d0:Nat)(u:AV)(w:World)(eq:l.length*120<=140737488351232)(ck:bw w p l)(b6:fl w u c):
  Calls Tryz.prog 149 #[.slice p l.length d0,.agg u] w fun e w'=>e=.returned (.int .i64 (Sch.colErr l c:Nat))∧Below w.1.size w w':=by
 obtain⟨k,cp,co,cn,cv,ct,cq,cy,cx,cw,cs,rfl,bq,bs⟩:=b6.out;obtain⟨E,X,has,L⟩:=c;simp only at bq bs ⊢;unfold av;obtain⟨y,a6⟩:∃y,y=w.alloc (.cells #[.string E,.int .i64 k,.slice cp co cn,.bool has,.int .i64 cv,.int .i64 ct,.float .f64 cq,.string cy,.slice cx cw cs] 79):=⟨_,rfl⟩;have M:Hid (Below w.1.size w y):=by rw[a6];exact xV
 have dr:Hid (At9 y w.1.size 0 E k cp co cn has cv ct cq cy cx cw cs):=by rw[a6];exact⟨by simp,by simp,by simp,by simp,by simp,by simp,by simp,by simp,by simp⟩
 have b2:=xX a6;have b3:=xX (ck.on M.out);have bb:=xX (bq.on M.out);have a5:=xX (bs.on M.out);have a9:=xX (lW E);obtain⟨I,bp⟩:∃I,I=Sch.colErr l ⟨E,X,has,L⟩:=⟨_,rfl⟩;have ah:=xX (bp.trans (by rw[Sch.colErr]:Sch.colErr l ⟨E,X,has,L⟩=_));rw[<-bp];obtain⟨bN,ci⟩:∃bN,bN=Sch.name E:=⟨_,rfl⟩;rw[<-ci] at a9 ah;clear a6 ck bq bs bp ci b6;go_enter Tryz.func149,Tryz.ntmps149;go_wp2_with fail;rw[<-b2.out];clear b2;refine(a9.out _).mono ?_;rintro e w1 ⟨rfl,cj⟩;rw[cj];clear cj w1 a9;cases bN with
 |false=>
  have o:Hid (I=70):=by show _=_;rw[ah.out,if_pos rfl]
  clear ah;go_wp2;go_ret;exact⟨by rw[o.out];rfl,M.out⟩
 |true=>
  have aj:=xX (ah.out.trans (if_neg (by decide)));clear ah;obtain⟨ec,c5,c6,c7,c8,c9,dd,df,dp⟩:=dr.out;go_wp2_with fail;go_loopw [6] (fun bO wr=>∃j n:Nat,j<=l.length∧bO=.int .i64 j∧wr=y.drewN n∧Hid (∀m (a1:m<l.length),m<j->¬l[m].name=E)) (fun bO _=>l.length-(intOf bO).toNat);case atStart=>exact⟨0,0,by omega,rfl,rfl,fun m _ h=>by omega⟩
  case round=>
   obtain⟨j,n,em,rfl,rfl,Z⟩:=hrel;by_cases cc:j<l.length
   ·obtain⟨bx,ew,eu,eL,eC,ez,e1,e0,eS,e4,e3,e2,eU,rfl,_,bn,-⟩:=b3.out.at j cc;have el:=bn.1;have en:(j:Int)<(l.length:Int):=(by omega);by_cases U:l[j].name=E
    ·have g:(l[j].name.toList==E.toList)=true:=(by rw[cr,decide_eq_true U]);have o:Hid (I=71):=(by show _=_;rw[aj.out,if_pos (uR j cc U)]);generalize l[j].name=eb at *
     clear Z aj bn U;go_wp2;go_quiet (fail);go_wp2;go_ret;exact⟨by rw[o.out];rfl,below_drewN (below_drewN M.out _) _⟩
    ·have g:(l[j].name.toList==E.toList)=false:=(by rw[cr,decide_eq_false U]);have dv:Hid (∀m (a1:m<l.length),m<j+1->¬l[m].name=E):=fun m a1 er=>by
      by_cases ea:m=j
      ·subst ea;exact U
      ·exact Z.out m a1 (by omega)
     generalize l[j].name=eb at *
     clear Z aj bn U;go_wp2;go_quiet (fail);go_wp2;go_roundw;case rel=>exact⟨j+1,_,by omega,by go_num,rfl,dv⟩
     case measure=>simp[intOf];omega
   ·have ep:¬(j:Int)<(l.length:Int):=(by omega);have K:=xX (aj.out.trans (if_neg (by rw[wQ (fun m a1=>Z.out m a1 (by omega))];decide)));have a8:=xX (fe X (y.drewN n) _ (bb.out.on (below_drewN xY n)));have bX:=xX (fun w' (hb:Below y.1.size y w')=>jW L w' _ (a5.out.on hb));have b0:=xX (fun w' (hb:Below y.1.size y w')=>vJ L X w' _ _ (a5.out.on hb) (bb.out.on hb));have b1:=xX (fun w' (hb:Below y.1.size y w')=>lV L V0 w' _ _ (a5.out.on hb) (tS w' none 0));have ds:Hid (Below y.1.size y (y.drewN n)):=below_drewN xY n;obtain⟨O,b9⟩:∃O,O=Ty.check 1 X:=⟨_,rfl⟩;obtain⟨R,cb⟩:∃R,R=chk 1 L:=⟨_,rfl⟩;obtain⟨bk,b7⟩:∃bk,bk=Sch.is L X:=⟨_,rfl⟩;obtain⟨bl,b8⟩:∃bl,bl=V.same L V0:=⟨_,rfl⟩;rw[<-b9] at a8 K;rw[<-cb] at bX K;rw[<-b7] at b0 K;rw[<-b8] at b1 K;clear Z aj b9 cb b7 b8 b3 bb a5;unfold al cells5 at *
    go_wp2_with fail;refine a8.out.mono ?_;rintro e w1 ⟨rfl,b4⟩;have A:=xX (ds.out.trans (b4.mono (by simp[World.drewN])));have Y:=xX (M.out.trans (A.out.mono M.out.size));have c1:=ac A.out c5;have c2:=ac A.out c6;have c3:=ac A.out c7;have c4:=ac A.out c8;have bc:=ac A.out c9;have bd:=ac A.out dd;have be:=ac A.out df;have bj:=ac A.out dp;clear b4 a8 ec c5 c6 c7 c8 c9 dd df dp;by_cases ak:O=0
    ·have d8:((O:Int) != 0)=false:=(by rw[ak];rfl);have a3:=xX (K.out.trans (if_neg (by simp[ak])));clear K ak;cases has with
     |false=>
      have J:=xX (a3.out.trans (if_pos rfl));clear a3;go_wp2_with fail;refine(b1.out w1 A.out).mono ?_;rintro e w2 ⟨rfl,D⟩;have a2:=xX (Y.out.trans (D.mono Y.out.size));clear D c1 c2 c3 c4 bc bd be bj;cases bl with
      |false=>
       have o:Hid (I=80):=J.out;clear J;go_wp2;go_ret;exact⟨by rw[o.out];rfl,a2.out⟩
      |true=>
       have o:Hid (I=0):=J.out;clear J;go_wp2;go_ret;exact⟨by rw[o.out];rfl,a2.out⟩
     |true=>
      have J:=xX (a3.out.trans (if_neg (by decide)));clear a3;go_wp2_with fail;refine(bX.out w1 A.out).mono ?_;rintro e w2 ⟨rfl,D⟩;have a2:=xX (A.out.trans (D.mono A.out.size));have a7:=xX (Y.out.trans (D.mono Y.out.size));have d1:=ac D c1;have d2:=ac D c2;have d3:=ac D c4;have d4:=ac D bc;have d5:=ac D bd;have d6:=ac D be;have d7:=ac D bj;clear D c1 c2 c3 c4 bc bd be bj;by_cases a0:R=0
      ·have d9:((R:Int) != 0)=false:=(by rw[a0];rfl);have a4:=xX (J.out.trans (if_neg (by simp[a0])));clear J a0;go_wp2_with fail;refine(b0.out w2 a2.out).mono ?_;rintro e e5 ⟨rfl,b5⟩;have bT:=xX (a7.out.trans (b5.mono a7.out.size));clear b5 d1 d2 d3 d4 d5 d6 d7;cases bk with
       |false=>
        have o:Hid (I=80):=a4.out;clear a4;go_wp2;go_ret;exact⟨by rw[o.out];rfl,bT.out⟩
       |true=>
        have o:Hid (I=0):=a4.out;clear a4;go_wp2;go_ret;exact⟨by rw[o.out];rfl,bT.out⟩
      ·have d9:((R:Int) != 0)=true:=(by rw[bne_iff_ne];omega);have o:Hid (I=R):=(by show _=_;rw[J.out,if_pos a0]);clear J a0;go_wp2;go_ret;exact⟨by rw[o.out];rfl,a7.out⟩
    ·have d8:((O:Int) != 0)=true:=(by rw[bne_iff_ne];omega);have o:Hid (I=O):=(by show _=_;rw[K.out,if_pos ak]);clear K ak;go_wp2;go_ret;exact⟨by rw[o.out];rfl,Y.out⟩
end
section
open Go.RowKit
def dc(w:World)(l:L8)(e:Ending)(w':World):Prop:=∃q cap,e=.returned (.slice q l.length cap)∧Has w' w.1.size (.slice q l.length cap) l∧Below w.1.size w w'
theorem fI(b:Bool)(w:World):Calls Tryz.prog 174 #[.bool b] w fun e w'=>e=.returned (.int .u8 (if b then 1 else 0))∧w'=w:=by
 cases b
 all_goals
  go_enter Tryz.func174,Tryz.ntmps174;go_wp2;go_ret;exact⟨rfl,rfl⟩
theorem jy:∀(x:Ty) (d:Nat) (w:World) (u:AV),Ty.check d x=0->aD w u x->Calls Tryz.prog 173 #[.agg u] w (dc w (Sch.tyB x)):=by
  intro x;refine Ty.ind (P:=fun x=>∀(d:Nat) (w:World) (u:AV),Ty.check d x=0->aD w u x->Calls Tryz.prog 173 #[.agg u] w (dc w (Sch.tyB x))) ?_ x;rintro k xs A d w u hd hx;obtain⟨p,c,rfl,ck,cj,ak⟩:=hx.open;unfold al;have a7:Below w.1.size w (w.alloc (.cells #[.int .i64 k,.slice p xs.length c] 73)):=xV;have D:=xX a7;clear a7 hx;obtain⟨cc,b1,b2⟩:=Sch.ty_open hd;have b0:=Sch.kind_byte b1;obtain⟨c0,Y⟩:∃c0,c0=UInt8.ofNat k.toNat:=⟨_,rfl⟩;have a9:k=(c0.toNat:Int):=by rw[Y,b0];omega
  have a2:Hid (∀(w:World),Has (w.alloc (.cells #[.int .u8 k] 5)) w.1.size (.slice (some ⟨w.1.size,0,none⟩) 1 1) [c0]):=fun w=>bP [c0] (by rw[a9];rfl) xZ (by simp);have O:Hid (∀o,Below w.1.size w ((w.alloc (.cells #[.int .i64 k,.slice p xs.length c] 73)).alloc o)):=fun o=>D.out.alloc D.out.size o;clear a9;rcases b2 with ⟨J,rfl⟩ | ⟨J,x,rfl,hx⟩
  · have a6:(k==6)=false:=aK (by omega);have bN:(k==7)=false:=aK (by omega);have V:Hid (Sch.tyB (.mk k [])=[c0]):=(by show _=_;rw[Sch.tyB_mk,if_neg J,Y]);clear A ak hd;go_enter Tryz.func173,Tryz.ntmps173;go_wp2;go_ret;rw[V.out];have ah:=a2.out (w.alloc (.cells #[.int .i64 k,.slice p 0 c] 73));exact⟨_,_,rfl,by have:=ah.lower D.out.size;simpa using this,O.out _⟩
  · obtain⟨cn,bb,a8⟩:=ak 0 (by simp);obtain⟨bx,bc,b4,b7,b5,bs,rfl,_,rfl,a4,a5⟩:=(a8.on (O.out (.cells #[.int .u8 k] 5))).lies;rw[Nat.zero_mul,Nat.add_zero] at a4 a5;simp only[List.length_singleton] at a4 a5;have V:Hid (Sch.tyB (.mk k [x])=[c0]++Sch.tyB x):=(by show _=_;rw[Sch.tyB_mk,if_pos J,Y];rfl);have bd:Hid (∀w',Below w.1.size w w'->Calls Tryz.prog 173 #[.agg #[.int .i64 b4,.slice b7 b5 bs]] w' (dc w' (Sch.tyB x))):=fun w' hb=>A x (by simp) (d+1) w' _ hx (bb.on hb);have bk:Hid ((Sch.tyB x).length<=4):=by
      have key:∀(x:Ty) (d:Nat),Ty.check d x=0->(Sch.tyB x).length+d<=5:=by
        refine Ty.ind ?_;intro k xs A d h;obtain⟨b8,b9,h3⟩:=Sch.ty_open h;rcases h3 with ⟨h3,rfl⟩ | ⟨h3,y,rfl,b3⟩
        · rw[Sch.tyB_mk,if_neg h3,List.length_singleton];omega
        · have:=A y (by simp) (d+1) b3;rw[Sch.tyB_mk,if_pos h3,List.length_cons];have e:([y].map Sch.tyB).headD []=Sch.tyB y:=rfl;rw[e];omega
      have:=key x (d+1) hx;show _<=_;omega
    clear A ak hd bb a8;obtain⟨E,K⟩:∃E,E=(w.alloc (.cells #[.int .i64 k,.slice (some ⟨bx,bc,none⟩) 1 c] 73)).alloc (.cells #[.int .u8 k] 5):=⟨_,rfl⟩;have bn:=xX K;have U:Hid (Below w.1.size w E):=(by rw[K];exact O.out _);have bj:Hid (Has E w.1.size (.slice (some ⟨w.1.size+1,0,none⟩) 1 1) [c0]):=by
      show Has _ _ _ _;have ah:=a2.out (w.alloc (.cells #[.int .i64 k,.slice (some ⟨bx,bc,none⟩) 1 c] 73));rw[K];have:=ah.lower D.out.size;simpa using this
    clear K;rcases J with I | I
    all_goals
      first
        |have a6:(k==6)=true:=bQ I
        | (have a6:(k==6)=false:=aK (by omega);have bN:(k==7)=true:=bQ I)
      clear I;go_enter Tryz.func173,Tryz.ntmps173;go_wp2_with fail;rw[<-bn.out];refine(bd.out _ U.out).mono ?_;rintro e w2 ⟨q,cap,rfl,aj,X⟩;obtain⟨M,L⟩:∃M,M=Sch.tyB x:=⟨_,rfl⟩;rw[<-L] at aj ⊢;have bl:=xX aj;have a3:=xX (bj.out.on X);have R:=xX (U.out.trans (X.mono U.out.size));have ci:M.length<=4:=(by rw[L];exact bk.out);have be:Hid (Sch.tyB (.mk k [x])=[c0]++M):=(by rw[L];exact V.out);clear X aj L;go_wp2_with (at_builtin;obtain⟨p2,c2,Z,bX,-⟩:=bl.out.at;injection Z with Z;refine aw (B:=w.1.size) (p:=q) a3.out (by rw[Z];exact bX) (by simp;omega) R.out.size rfl rfl rfl rfl rfl ?_;intro co b6 bq W bp bO bT cb);go_ret;rw[be.out,<-bp.out];exact⟨b6,bq,rfl,bO,R.out.trans (au bT a3.out R.out.size)⟩
end
section
def kr(m:Nat)(xs:L8)(n:Nat):Prop:=xs.length<=8∧n<18446744073709551616∧Sch.le 8 m=xs++Sch.le (8-xs.length) n
theorem jh{m n:Nat}{xs:L8}(h:kr m xs n)(D:xs.length<8):kr m (xs++[UInt8.ofNat (n % 256)]) (n / 256):=by
 obtain⟨y,A,o⟩:=h;refine⟨by rw[List.length_append,List.length_singleton];omega,by omega,?_⟩;rw[o,List.append_assoc,List.length_append,List.length_singleton,show 8-xs.length=(8-(xs.length+1))+1 by omega,Sch.le];rfl
end
section
open Go.RowKit
theorem pF(i:Int)(L:i=0∨i=1)(b:Nat)(t:ByteArray)(p:OA)(n c:Nat)(w:World):Calls Tryz.prog 175 #[.agg #[.int .i64 1,.int .i64 i,.float .f64 b,.string t,.slice p n c]] w (dc w [UInt8.ofNat i.toNat]):=by
 have y:∀D E,Below w.1.size w ((w.alloc D).alloc E):=fun D E=>xV.alloc (by simp) _;have I:=xX y;obtain⟨c0,o⟩:∃c0,c0=UInt8.ofNat i.toNat:=⟨_,rfl⟩;have A:i=(c0.toNat:Int):=by rw[o,UInt8.toNat_ofNat'];omega
 have J:Hid (∀(w:World),Has (w.alloc (.cells #[.int .u8 i] 5)) w.1.size (.slice (some ⟨w.1.size,0,none⟩) 1 1) [c0]):=fun w=>bP [c0] (by rw[A];rfl) xZ (by simp);have M:0<=i:=by omega
 have O:i<=1:=by omega
 rw[<-o];clear y A o L;go_enter Tryz.func175,Tryz.ntmps175;go_wp2;go_ret;have K:=J.out (w.alloc (.cells #[.int .i64 1,.int .i64 i,.float .f64 b,.string t,.slice p n c] 77));exact⟨_,_,rfl,by have:=K.lower (B':=w.1.size) (by simp);simpa using this,I.out _ _⟩
theorem pE(i:Int)(o:-9223372036854775808<=i∧i<=9223372036854775807)(b:Nat)(t:ByteArray)(p:OA)(n c:Nat)(w:World):Calls Tryz.prog 175 #[.agg #[.int .i64 2,.int .i64 i,.float .f64 b,.string t,.slice p n c]] w (dc w (Leb.put (Leb.zig i))):=by
 have y:Hid (∀I,Below w.1.size w (w.alloc I)):=fun I=>xV;have E:Leb.zig i<18446744073709551616:=by unfold Leb.zig;split <;> omega
 have M:=xX (nd i o.1 o.2);have L:=xX (cN (Leb.zig i) E);generalize Leb.zig i=z at *
 clear o E;go_enter Tryz.func175,Tryz.ntmps175;go_wp2_with fail;refine(M.out _).mono ?_;rintro e w1 ⟨rfl,D⟩;rw[D];clear D w1;go_wp2_with fail;refine(L.out _).mono ?_;rintro e w1 ⟨g,cap,rfl,A,hb⟩;have K:=xX A;have J:=xX ((y.out _).trans (hb.mono (y.out _).size));clear A hb;go_wp2;go_ret;exact⟨_,_,rfl,K.out.has.lower (by simp),J.out⟩
theorem np(k i:Int)(V:k=4∨k=5)(b:Nat)(t:ByteArray)(ah:t.size<=1024)(p:OA)(n c:Nat)(w:World):Calls Tryz.prog 175 #[.agg #[.int .i64 k,.int .i64 i,.float .f64 b,.string t,.slice p n c]] w (dc w (Leb.put t.size++t.data.toList)):=by
 have y:Hid (∀K,Below w.1.size w (w.alloc K)):=fun K=>xV;have D:=xX (cN t.size (by omega));have X:=Leb.put_length_le t.size;obtain⟨J,E⟩:∃J,J=Leb.put t.size:=⟨_,rfl⟩;rw[<-E] at D X ⊢;clear E;have aj:(t.size:Int)<=1024:=by omega
 have L:Hid (∀k,(w.alloc (.cells #[.int .i64 k,.int .i64 i,.float .f64 b,.string t,.slice p n c] 77)).cell? ⟨w.1.size,3,none⟩=some (.string t)):=fun k=>by simp
 rcases V with rfl | rfl
 all_goals
  go_enter Tryz.func175,Tryz.ntmps175;go_wp2_with fail;refine(D.out _).mono ?_;rintro e w1 ⟨g,cap,rfl,I,hb⟩;have A:=xX (I.has.lower (B':=w.1.size) (by simp));have o:=xX ((y.out _).trans (hb.mono (y.out _).size));have c3:=ac hb (L.out _);clear I hb;go_wp2_with (at_builtin;refine fD (B:=w.1.size) (t:=t) A.out (by omega) o.out.size rfl rfl rfl rfl rfl ?_;intro ak Y O W M R U Z);go_ret;rw[<-M.out];exact⟨Y,O,rfl,R,o.out.trans (au U A.out o.out.size)⟩
theorem pD(i:Int)(b:Nat)(I:b<18446744073709551616)(t:ByteArray)(p:OA)(n c:Nat)(w:World):Calls Tryz.prog 175 #[.agg #[.int .i64 3,.int .i64 i,.float .f64 b,.string t,.slice p n c]] w (dc w (Sch.le 8 (aE b))):=by
 have O:Hid (∀M,Below w.1.size w (w.alloc M)):=fun M=>xV;have K:=Sch.fixB_lt I;have R:=xX (aX b);generalize aE b=m at *
 have E:Hid (kr m [] m):=⟨by simp,K,rfl⟩;clear K I;go_enter Tryz.func175,Tryz.ntmps175;go_wp2_with fail;refine(R.out _).mono ?_;rintro e w1 ⟨rfl,L⟩;rw[L];clear L w1;go_wp2_with fail;go_loopw [3,5,6] (fun ak a0 A wr=>∃(n:Nat) (xs:L8),a0=.int .u64 n∧A=.int .i64 xs.length∧xs.length<=8∧n<18446744073709551616∧Hid (kr m xs n∧Has wr w.1.size ak xs∧Below w.1.size w wr)) (fun _ _ A _=>8-(intOf A).toNat);case atStart=>exact⟨m,[],rfl,rfl,by simp,E.out.2.1,E.out,aI _ _,O.out _⟩
 case round=>
  obtain⟨z,xs,rfl,rfl,a3,a4,o⟩:=hrel;have y:=xX o.out.2.1;have X:=o.out.2.2.size;by_cases Z:xs.length<8
  ·have a2:(xs.length:Int)<8:=(by omega);have D:=xX (jh o.out.1 Z);have Y:(UInt8.ofNat (z % 256)).toNat=z % 256:=(by rw[UInt8.toNat_ofNat'];omega);generalize UInt8.ofNat (z % 256)=c1 at Y D;go_wp2_with (at_builtin;refine aW y.out c1 (by omega) X (by omega) rfl rfl rfl rfl rfl ?_;intro g cap W ah hb);go_roundw;case rel=>exact⟨z / 256,xs++[c1],by go_num,by simp,by simp;omega,by omega,D.out,by have:=ah.has;simpa using this,o.out.2.2.trans hb⟩
   case measure=>simp[intOf];omega
  ·have a1:¬(xs.length:Int)<8:=(by omega);have J:Sch.le 8 m=xs:=by
    rw[o.out.1.2.2,show 8-xs.length=0 by omega];simp[Sch.le]
   have U:=xX J;obtain⟨q,cap,aj,-,-⟩:=y.out.at;subst aj;have V:=xX o.out.2.2;clear o J;go_wp2;go_ret;rw[U.out];exact⟨q,cap,rfl,y.out,V.out⟩
theorem no(k i:Int)(c9:k=6∨k=7)(b:Nat)(t:ByteArray)(xs:List V)(d2:xs.length<=256)(cy:∀x∈xs,∀(w:World) (u:AV),aC w u x->Calls Tryz.prog 175 #[.agg u] w (dc w (Sch.vB x)))(d1:(xs.map Sch.vB).flatten.length<=20000000000)(p:OA)(c:Nat)(w:World)(cx:dG w p xs):
  Calls Tryz.prog 175 #[.agg #[.int .i64 k,.int .i64 i,.float .f64 b,.string t,.slice p xs.length c]] w (dc w (Sch.vH k i b t xs.length++(xs.map Sch.vB).flatten)):=by
 have bp:Hid (∀o,Below w.1.size w (w.alloc o)):=fun o=>xV;have cq:=xX cx;have co:=xX cy;clear cx cy;have b0:Hid (∀k,(w.alloc (.cells #[.int .i64 k,.int .i64 i,.float .f64 b,.string t,.slice p xs.length c] 77)).cell? ⟨w.1.size,4,none⟩=some (.slice p xs.length c)):=fun k=>by simp
 rcases c9 with rfl | rfl
 ·by_cases cs:0<xs.length
  ·have c8:(0:Int)<(xs.length:Int):=(by omega);obtain⟨l0,E⟩:∃l0:L8,l0=[1]:=⟨_,rfl⟩;have a2:Hid (Sch.vH 6 i b t xs.length=l0):=by
    show _=_;rw[E,Sch.vH,if_neg (by decide),if_neg (by decide),if_neg (by decide),if_neg (by decide),if_pos rfl,if_pos cs]
   have cb:l0.length<=10:=(by rw[E];simp);have bN:=xX (fI true);go_enter Tryz.func175,Tryz.ntmps175;go_wp2_with fail;refine(bN.out _).mono ?_;rintro e w1 ⟨rfl,bl⟩;rw[bl];clear bl w1;simp only[if_true];go_wp2_with (at_builtin;refine lz (B:=w.1.size+1) (H:=w.1.size+1) (by simp) (aI _ _) 1 (by simp) (by simp) (by rfl) rfl rfl rfl rfl rfl ?_;intro g cap W bc hb);have a5:Hid (Has W (w.1.size+1) (.slice (some ⟨g,0,none⟩) 1 cap) l0):=by
    show Has _ _ _ _;rw[E];exact bc.has
   have a1:=xX hb;clear bc hb E;go_loopw [3,7] (fun bn K wr=>∃j:Nat,j<=xs.length∧K=.int .i64 j∧Hid (Has wr (w.1.size+1) bn (l0++((xs.take j).map Sch.vB).flatten)∧Below (w.1.size+1) (w.alloc (.cells #[.int .i64 6,.int .i64 i,.float .f64 b,.string t,.slice p xs.length c] 77)) wr)) (fun _ K _=>xs.length-(intOf K).toNat);case atStart=>exact⟨0,by omega,rfl,by simpa using a5.out,a1.out⟩
   case round=>
    obtain⟨j,ct,rfl,A⟩:=hrel;have n4:wr.cell? ⟨w.1.size,4,none⟩=some (.slice p xs.length c):=(by rw[A.out.2.cell (p:=⟨w.1.size,4,none⟩) (by show w.1.size<_;omega)];exact b0.out _);have D:Below w.1.size w wr:=(bp.out _).trans (A.out.2.mono (by omega));by_cases I:j<xs.length
    ·obtain⟨d0,bk,a8⟩:=cq.out j I;obtain⟨bx,cj,dp,df,c7,dv,ds,dr,c6,rfl,_,rfl,b2,b3,b4,b5,b6⟩:=(a8.on D).lies;have L:=xX (co.out _ (List.getElem_mem I) wr _ (bk.on D));have dd:(j:Int)<(xs.length:Int):=(by omega);have y:=xX A.out.1;have bs:=xX A.out.2;have ci:w.1.size+1<=wr.1.size:=(by have:=A.out.2.size;simp at this;omega);have aj:=Sch.flatten_take_le Sch.vB xs (j+1);rw[Sch.flatten_take Sch.vB xs j I,List.length_append] at aj;have M:=xX (Sch.flatten_take Sch.vB xs j I);obtain⟨R,a9⟩:∃R,R=((xs.take j).map Sch.vB).flatten:=⟨_,rfl⟩;obtain⟨ak,bb⟩:∃ak,ak=Sch.vB xs[j]:=⟨_,rfl⟩;rw[<-a9] at y aj M;rw[<-bb] at L aj M;clear bk a8 D A a9 bb;unfold cells5 at L;go_wp2_with fail;refine L.out.mono ?_;rintro e w2 ⟨q,cap,rfl,bd,O⟩;have bT:=xX bd;have Y:=xX (y.out.on O);have bq:=xX (bs.out.trans (O.mono ci));have be:w.1.size+1<=w2.1.size:=(by have:=O.size;omega);have cc:(l0++R).length<=20000000100:=(by rw[List.length_append];omega);obtain⟨a0,ah⟩:∃a0,a0=l0++R:=⟨_,rfl⟩;have bO:Hid (l0++((xs.take (j+1)).map Sch.vB).flatten=a0++ak):=by
      show _=_;rw[M.out,<-List.append_assoc,<-ah]
     rw[<-ah] at Y cc;clear O bd b2 b3 b4 b5 b6 L y ah M;go_wp2_with (at_builtin;obtain⟨p2,c2,Z,b8,-⟩:=bT.out.at;injection Z with Z;refine aw (B:=w.1.size+1) (p:=q) Y.out (by rw[Z];exact b8) (by omega) be rfl rfl rfl rfl rfl ?_;intro cn ck b7 W b1 a6 a7 b9);have bX:Hid (Has W (w.1.size+1) (.slice ck cn.length b7) (l0++((xs.take (j+1)).map Sch.vB).flatten)∧Below (w.1.size+1) (w.alloc (.cells #[.int .i64 6,.int .i64 i,.float .f64 b,.string t,.slice (some ⟨bx,cj,none⟩) xs.length c] 77)) W):=by
      refine⟨?_,bq.out.trans (au a7 Y.out be)⟩;rw[bO.out,<-b1.out];exact a6
     clear a6 a7 b9;go_roundw;case rel=>exact⟨j+1,by omega,by go_num,bX⟩
     case measure=>simp[intOf];omega
    ·have cv:¬(j:Int)<(xs.length:Int):=(by omega);have X:((xs.take j).map Sch.vB).flatten=(xs.map Sch.vB).flatten:=(by rw[List.take_of_length_le (by omega)]);have y:=A.out.1;rw[X] at y;obtain⟨U,J⟩:∃U,U=l0++(xs.map Sch.vB).flatten:=⟨_,rfl⟩;rw[<-J] at y;have a4:=xX J;obtain⟨q,cap,bj,-,-⟩:=y.at;subst bj
     replace y:=xX (y.lower (B':=w.1.size) (by omega))
     have a3:=xX D;clear A X D I J;go_wp2;go_ret;rw[a2.out,<-a4.out];exact⟨q,cap,rfl,y.out,a3.out⟩
  ·have c8:¬(0:Int)<(xs.length:Int):=(by omega);obtain⟨l0,E⟩:∃l0:L8,l0=[0]:=⟨_,rfl⟩;have a2:Hid (Sch.vH 6 i b t xs.length=l0):=by
    show _=_;rw[E,Sch.vH,if_neg (by decide),if_neg (by decide),if_neg (by decide),if_neg (by decide),if_pos rfl,if_neg cs]
   have cb:l0.length<=10:=(by rw[E];simp);have bN:=xX (fI false);go_enter Tryz.func175,Tryz.ntmps175;go_wp2_with fail;refine(bN.out _).mono ?_;rintro e w1 ⟨rfl,bl⟩;rw[bl];clear bl w1;simp only[Bool.false_eq_true,if_false];go_wp2_with (at_builtin;refine lz (B:=w.1.size+1) (H:=w.1.size+1) (by simp) (aI _ _) 0 (by simp) (by simp) (by rfl) rfl rfl rfl rfl rfl ?_;intro g cap W bc hb);have a5:Hid (Has W (w.1.size+1) (.slice (some ⟨g,0,none⟩) 1 cap) l0):=by
    show Has _ _ _ _;rw[E];exact bc.has
   have a1:=xX hb;clear bc hb E;go_loopw [3,7] (fun bn K wr=>∃j:Nat,j<=xs.length∧K=.int .i64 j∧Hid (Has wr (w.1.size+1) bn (l0++((xs.take j).map Sch.vB).flatten)∧Below (w.1.size+1) (w.alloc (.cells #[.int .i64 6,.int .i64 i,.float .f64 b,.string t,.slice p xs.length c] 77)) wr)) (fun _ K _=>xs.length-(intOf K).toNat);case atStart=>exact⟨0,by omega,rfl,by simpa using a5.out,a1.out⟩
   case round=>
    obtain⟨j,ct,rfl,A⟩:=hrel;have n4:wr.cell? ⟨w.1.size,4,none⟩=some (.slice p xs.length c):=(by rw[A.out.2.cell (p:=⟨w.1.size,4,none⟩) (by show w.1.size<_;omega)];exact b0.out _);have D:Below w.1.size w wr:=(bp.out _).trans (A.out.2.mono (by omega));by_cases I:j<xs.length
    ·omega
    ·have cv:¬(j:Int)<(xs.length:Int):=(by omega);have X:((xs.take j).map Sch.vB).flatten=(xs.map Sch.vB).flatten:=(by rw[List.take_of_length_le (by omega)]);have y:=A.out.1;rw[X] at y;obtain⟨U,J⟩:∃U,U=l0++(xs.map Sch.vB).flatten:=⟨_,rfl⟩;rw[<-J] at y;have a4:=xX J;obtain⟨q,cap,bj,-,-⟩:=y.at;subst bj
     replace y:=xX (y.lower (B':=w.1.size) (by omega))
     have a3:=xX D;clear A X D I J;go_wp2;go_ret;rw[a2.out,<-a4.out];exact⟨q,cap,rfl,y.out,a3.out⟩
 ·have cp:=xX (cN xs.length (by omega));have cb:=Leb.put_length_le xs.length;obtain⟨l0,E⟩:∃l0,l0=Leb.put xs.length:=⟨_,rfl⟩;have a2:Hid (Sch.vH 7 i b t xs.length=l0):=by
   show _=_;rw[E,Sch.vH,if_neg (by decide),if_neg (by decide),if_neg (by decide),if_neg (by decide),if_neg (by decide),if_pos rfl]
  rw[<-E] at cp cb;clear E;have d3:(xs.length:Int)<=256:=by omega
  go_enter Tryz.func175,Tryz.ntmps175;go_wp2_with fail;refine(cp.out _).mono ?_;rintro e w1 ⟨g,cap,rfl,cw,hb⟩;have a5:Hid (Has w1 (w.1.size+1) (.slice (some ⟨g,0,none⟩) l0.length cap) l0):=by
   show Has _ _ _ _;have:=cw.has;simpa using this
  have a1:Hid (Below (w.1.size+1) (w.alloc (.cells #[.int .i64 7,.int .i64 i,.float .f64 b,.string t,.slice p xs.length c] 77)) w1):=by
   show Below _ _ _;simpa using hb
  clear cw hb;go_wp2_with fail;go_loopw [3,7] (fun bn K wr=>∃j:Nat,j<=xs.length∧K=.int .i64 j∧Hid (Has wr (w.1.size+1) bn (l0++((xs.take j).map Sch.vB).flatten)∧Below (w.1.size+1) (w.alloc (.cells #[.int .i64 7,.int .i64 i,.float .f64 b,.string t,.slice p xs.length c] 77)) wr)) (fun _ K _=>xs.length-(intOf K).toNat);case atStart=>exact⟨0,by omega,rfl,by simpa using a5.out,a1.out⟩
  case round=>
   obtain⟨j,ct,rfl,A⟩:=hrel;have n4:wr.cell? ⟨w.1.size,4,none⟩=some (.slice p xs.length c):=(by rw[A.out.2.cell (p:=⟨w.1.size,4,none⟩) (by show w.1.size<_;omega)];exact b0.out _);have D:Below w.1.size w wr:=(bp.out _).trans (A.out.2.mono (by omega));by_cases I:j<xs.length
   ·obtain⟨d0,bk,a8⟩:=cq.out j I;obtain⟨bx,cj,dp,df,c7,dv,ds,dr,c6,rfl,_,rfl,b2,b3,b4,b5,b6⟩:=(a8.on D).lies;have L:=xX (co.out _ (List.getElem_mem I) wr _ (bk.on D));have dd:(j:Int)<(xs.length:Int):=(by omega);have y:=xX A.out.1;have bs:=xX A.out.2;have ci:w.1.size+1<=wr.1.size:=(by have:=A.out.2.size;simp at this;omega);have aj:=Sch.flatten_take_le Sch.vB xs (j+1);rw[Sch.flatten_take Sch.vB xs j I,List.length_append] at aj;have M:=xX (Sch.flatten_take Sch.vB xs j I);obtain⟨R,a9⟩:∃R,R=((xs.take j).map Sch.vB).flatten:=⟨_,rfl⟩;obtain⟨ak,bb⟩:∃ak,ak=Sch.vB xs[j]:=⟨_,rfl⟩;rw[<-a9] at y aj M;rw[<-bb] at L aj M;clear bk a8 D A a9 bb;unfold cells5 at L;go_wp2_with fail;refine L.out.mono ?_;rintro e w2 ⟨q,cap,rfl,bd,O⟩;have bT:=xX bd;have Y:=xX (y.out.on O);have bq:=xX (bs.out.trans (O.mono ci));have be:w.1.size+1<=w2.1.size:=(by have:=O.size;omega);have cc:(l0++R).length<=20000000100:=(by rw[List.length_append];omega);obtain⟨a0,ah⟩:∃a0,a0=l0++R:=⟨_,rfl⟩;have bO:Hid (l0++((xs.take (j+1)).map Sch.vB).flatten=a0++ak):=by
     show _=_;rw[M.out,<-List.append_assoc,<-ah]
    rw[<-ah] at Y cc;clear O bd b2 b3 b4 b5 b6 L y ah M;go_wp2_with (at_builtin;obtain⟨p2,c2,Z,b8,-⟩:=bT.out.at;injection Z with Z;refine aw (B:=w.1.size+1) (p:=q) Y.out (by rw[Z];exact b8) (by omega) be rfl rfl rfl rfl rfl ?_;intro cn ck b7 W b1 a6 a7 b9);have bX:Hid (Has W (w.1.size+1) (.slice ck cn.length b7) (l0++((xs.take (j+1)).map Sch.vB).flatten)∧Below (w.1.size+1) (w.alloc (.cells #[.int .i64 7,.int .i64 i,.float .f64 b,.string t,.slice (some ⟨bx,cj,none⟩) xs.length c] 77)) W):=by
     refine⟨?_,bq.out.trans (au a7 Y.out be)⟩;rw[bO.out,<-b1.out];exact a6
    clear a6 a7 b9;go_roundw;case rel=>exact⟨j+1,by omega,by go_num,bX⟩
    case measure=>simp[intOf];omega
   ·have cv:¬(j:Int)<(xs.length:Int):=(by omega);have X:((xs.take j).map Sch.vB).flatten=(xs.map Sch.vB).flatten:=(by rw[List.take_of_length_le (by omega)]);have y:=A.out.1;rw[X] at y;obtain⟨U,J⟩:∃U,U=l0++(xs.map Sch.vB).flatten:=⟨_,rfl⟩;rw[<-J] at y;have a4:=xX J;obtain⟨q,cap,bj,-,-⟩:=y.at;subst bj
    replace y:=xX (y.lower (B':=w.1.size) (by omega))
    have a3:=xX D;clear A X D I J;go_wp2;go_ret;rw[a2.out,<-a4.out];exact⟨q,cap,rfl,y.out,a3.out⟩
theorem iR:∀(x:V) (d:Nat) (w:World) (u:AV),1<=d->chk d x=0->x.wf->aC w u x->Calls Tryz.prog 175 #[.agg u] w (dc w (Sch.vB x)):=by
 intro x;refine V.ind (P:=fun x=>∀(d:Nat) (w:World) (u:AV),1<=d->chk d x=0->x.wf->aC w u x->Calls Tryz.prog 175 #[.agg u] w (dc w (Sch.vB x))) ?_ x;intro k i b t xs X d w u I A O R;obtain⟨p,c,rfl,a1,a0,U⟩:=R.open;unfold cells5;obtain⟨hd,L,M,K,-,E⟩:=Sch.chk_open A;obtain⟨a2,-,-,-,-,Y,-⟩:=Sch.own_open L;obtain⟨-,aj,ah,-,ak⟩:=V.wf_mk.1 O;have D:=Sch.vB_small A I;rcases(show k=1∨k=2∨k=3∨(k=4∨k=5)∨(k=6∨k=7) by omega) with rfl | rfl | rfl | hk | hk
 ·rw[Sch.vB_leaf xs (by omega),Sch.vH,if_pos rfl];exact pF i (Y rfl) b t p _ c w
 ·rw[Sch.vB_leaf xs (by omega),Sch.vH,if_neg (by decide),if_pos rfl];exact pE i aj b t p _ c w
 ·rw[Sch.vB_leaf xs (by omega),Sch.vH,if_neg (by decide),if_neg (by decide),if_pos rfl];exact pD i b ah t p _ c w
 ·rw[Sch.vB_leaf xs (by omega),Sch.vH,if_neg (by omega),if_neg (by omega),if_neg (by omega),if_pos hk];exact np k i hk b t M p _ c w
 ·rw[Sch.vB_items xs hk] at D ⊢;rw[List.length_append] at D;exact no k i hk b t xs K (fun y o w' Z J=>X y o (d+1) w' Z (by omega) (E y o) (ak y o) J) (by omega) p c w U
end
section
open Go.RowKit
attribute [local go_sem] am
structure Apart(a z:Nat)(w2 W:World)(v:Value):Prop where
 own:∀k,v.ownBlock=some k->k<a∨z<=k
 keep:∀k,a<=k->k<z->W.1[k]?=w2.1[k]?
 size:z<=W.1.size
theorem Apart.step{A:Value}(h:Apart a z w2 W v)(y:Aside (fun k=>v.ownBlock=some k) W W')(hb:∀k,A.ownBlock=some k->v.ownBlock=some k∨W.1.size<=k):Apart a z w2 W' A:=by
 have J:=h.size;refine⟨fun k I=>?_,fun k o D=>?_,Nat.le_trans h.size y.size⟩
 ·rcases hb k I with o | o
  ·exact h.own k o
  ·exact .inr (by omega)
 ·rw[y.block k (by omega) (fun E=>by have:=h.own k E;omega)];exact h.keep k o D
theorem Apart.on(h:Apart a z w2 W v)(hb:Below W.1.size W W'):Apart a z w2 W' v:=by
 have A:=h.size;exact⟨h.own,fun k o y=>by rw[hb.block k (by omega)];exact h.keep k o y,Nat.le_trans h.size hb.size⟩
theorem Apart.cell(h:Apart a z w2 W v){g o:Nat}{x:Value}(y:a<=g)(A:g<z)(D:w2.cell? ⟨g,o,none⟩=some x):W.cell? ⟨g,o,none⟩=some x:=by
 rw[World.cell?_of_block (w:=w2) (h.keep g y A)];exact D
theorem Apart.at(h:Apart a z w2 W v){p:OA}{l:L8}(K:∀b o,p=some ⟨b,o,none⟩->a<=b∧b<z)(J:At w2 p l):At W p l:=by
 rcases J with rfl | ⟨b,o,y,L,A⟩
 ·exact .inl rfl
 ·obtain⟨D,E⟩:=K b o y;have M:=h.size;exact .inr ⟨b,o,y,by omega,fun j I=>by rw[World.cell?_of_block (w:=w2) (h.keep b D E)];exact A j I⟩
theorem Has.place{n cap:Nat}{l:L8}(h:Has w B (.slice q n cap) l):∀b o,q=some ⟨b,o,none⟩->B<=b∧b<w.1.size:=by
 intro b o y;subst y;exact h.lt b rfl
theorem Has.here{cap:Nat}{l:L8}(h:Has w B (.slice q l.length cap) l):At w q l:=by
 obtain⟨p,c,o,y,-⟩:=h.at;injection o with o;rw[o];exact y
theorem sf(w:World)(z:Int)(c:UInt8)(o:z=(c.toNat:Int)):At (w.alloc (.cells #[.int .u8 z] 5)) (some ⟨w.1.size,0,none⟩) [c] :=
 (bP (B:=0) (w:=w) [c] (by rw[o];rfl) (Nat.zero_le _) (by simp)).here
theorem gP(s:List Col)(p:OA)(cy:Nat)(w:World)(hQ:s.length<=16)(g6:bw w p s)(a9:Sch.colsErr [] s=0)(g5:∀c∈s,c.wf):
    Calls Tryz.prog 150 #[.agg #[.slice p s.length cy]] w (dc w (Sch.bytes s)):=by
  have ih:=Sch.flat_small a9 hQ;have hi:Hid (∀c∈s,∃l,Sch.colErr l c=0):=Sch.colsErr_mem s [] a9;have hn:=xX g5;have ho:=xX g6;obtain⟨I,b7⟩:∃I,I=w.alloc (.cells #[.slice p s.length cy] 41):=⟨_,rfl⟩;have f4:Hid (Below w.1.size w I):=by rw[b7];exact xV
  have hc:I.cell? ⟨w.1.size,0,none⟩=some (.slice p s.length cy):=by rw[b7];simp
  have hT:I.1.size=w.1.size+1:=by rw[b7];simp
  have hq:=xX hc;have gh:=xX b7;have d0:=xX (cN s.length (by omega) I);have hP:=Leb.put_length_le s.length;obtain⟨J,eL⟩:∃J,J=Leb.put s.length:=⟨_,rfl⟩;have hj:Hid (Sch.bytes s=J++(s.map Sch.cB).flatten):=by show _=_;rw[eL];rfl
  rw[<-eL] at d0 hP;have i3:(s.length:Int)<=16:=by omega
  clear eL b7 g6 a9 g5 hc;go_enter Tryz.func150,Tryz.ntmps150;go_wp2_with fail;rw[<-gh.out];clear gh;refine d0.out.mono ?_;rintro e w1 ⟨g,cap,rfl,eS,hb⟩;rw[hT] at eS hb;have hm:=xX eS.has;have hg:=xX hb;clear eS hb d0;go_wp2_with fail;go_loopw [3,4] (fun h7 e9 wr=>∃j:Nat,j<=s.length∧e9=.int .i64 j∧Hid (Has wr (w.1.size+1) h7 (J++((s.take j).map Sch.cB).flatten)∧Below (w.1.size+1) I wr)) (fun _ e9 _=>s.length-(intOf e9).toNat);case atStart=>exact⟨0,by omega,rfl,by simpa using hm.out,hg.out⟩
  case round=>
    obtain⟨j,it,rfl,U⟩:=hrel;have j2:wr.cell? ⟨w.1.size,0,none⟩=some (.slice p s.length cy):=(by rw[U.out.2.cell (p:=⟨w.1.size,0,none⟩) (by show w.1.size<_;omega)];exact hq.out);have a8:Below w.1.size w wr:=f4.out.trans (U.out.2.mono (by omega));by_cases ck:j<s.length
    · have ix:(j:Int)<(s.length:Int):=(by omega);obtain⟨bx,j3,k,e8,e7,e6,fs,fr,fi,fy,fx,fv,fo,rfl,ic,gq,df,c7⟩:=ho.out.at j ck;have hM:=gq.on a8;obtain⟨d4,hr,hs,d5,ht,hu,hv,hw,hx⟩:=hM;obtain⟨nm,a2,has,K,c6⟩:∃nm a2 has K,s[j]=⟨nm,a2,has,K⟩:=⟨_,_,_,_,rfl⟩;rw[c6] at d4 d5 df c7;simp only at d4 d5 df c7;obtain⟨l',eu⟩:=hi.out s[j] (List.getElem_mem ck);have e2:=hn.out s[j] (List.getElem_mem ck);rw[c6] at eu e2;obtain⟨eU,-,dd,-,ew⟩:=Sch.col_open eu;simp only at eU dd ew;have i2:=(Sch.name_size eU).2;have hW:=Sch.tyB_len a2 1 dd;have f8:Hid (has=true->chk 1 K=0):=fun h=>(ew h).1;have c8:=Sch.flatten_take Sch.cB s j ck;have id:=Sch.flatten_take_le Sch.cB s j;rw[c6] at c8
      -- the column's own block,and the calls' answers
      obtain⟨a4,cn⟩:∃a4,a4=wr.alloc (.cells #[.string nm,.int .i64 k,.slice e8 e7 e6,.bool has,.int .i64 fs,.int .i64 fr,.float .f64 fi,.string fy,.slice fx fv fo] 79):=⟨_,rfl⟩;have cv:Hid (Below wr.1.size wr a4):=(by rw[cn];exact xV);have i5:a4.1.size=wr.1.size+1:=(by rw[cn];simp);have dr:Hid (At9 a4 wr.1.size 0 nm k e8 e7 e6 has fs fr fi fy fx fv fo):=(by rw[cn];exact⟨by simp,by simp,by simp,by simp,by simp,by simp,by simp,by simp,by simp⟩);have gl:=xX cn;have gL:Below w.1.size w a4:=a8.trans (cv.out.mono a8.size);have ds:=xX gL;have d1:=xX (cN nm.size (by omega) a4);have cx:=xX (fun w' (hb:Below w.1.size w w')=>jy a2 1 w' _ dd (df.on hb));have d3:=xX (fun w' (hb:Below w.1.size w w') ep=>iR K 1 w' _ (by omega) ep e2.2.2 (c7.on hb));have gf:=xX (fun ep=>Sch.vB_small (v:=K) (d:=1) ep (by omega));have hR:=Leb.put_length_le nm.size;have cj:Sch.cB ⟨nm,a2,has,K⟩=Leb.put nm.size++(nm.data.toList++(Sch.tyB a2++(if has then 1 else 0)::(if has then Sch.vB K else []))):=rfl;obtain⟨e4,g0⟩:∃e4,e4=Leb.put nm.size:=⟨_,rfl⟩;rw[<-g0] at d1 hR cj;obtain⟨lt,g1⟩:∃lt,lt=Sch.tyB a2:=⟨_,rfl⟩;rw[<-g1] at cx hW cj;obtain⟨g7,g2⟩:∃g7,g7=Sch.vB K:=⟨_,rfl⟩;rw[<-g2] at d3 gf cj;rw[cj] at c8;have f7:=xX c8;have D:=xX U.out.1;have f5:=xX U.out.2;obtain⟨e3,c9⟩:∃e3,e3=J++((s.take j).map Sch.cB).flatten:=⟨_,rfl⟩;have i0:e3.length<=320000000650:=(by rw[c9,List.length_append];omega);rw[<-c9] at D;have f9:=xX c9;have hV:w.1.size+1<=wr.1.size:=(by have:=U.out.2.size;omega);have i4:(nm.size:Int)<=16:=by omega
      clear gq cn g0 g1 g2 c8 cj c9 U eu e2 eU dd ew c6 df c7 gL a8;go_wp2_with fail;rw[<-gl.out];clear gl;refine d1.out.mono ?_;rintro e w2 ⟨en,h9,rfl,g3,er⟩;have gb:=xX g3.has;have bl:=xX er;obtain⟨hy,hz,hA,hB,hC,hD,hE,hF,hG⟩:=dr.out.on er;clear g3 er d1 d4 hr hs d5 ht hu hv hw hx;unfold al at cx;unfold cells5 at d3;go_wp2_with fail;refine(cx.out w2 (ds.out.trans (bl.out.mono ds.out.size))).mono ?_;rintro e E ⟨dp,ia,rfl,eC,ci⟩;have j0:wr.1.size+1<=w2.1.size:=(by have:=bl.out.size;omega);have j1:w2.1.size<=E.1.size:=ci.size
      -- all lies apart from the slice's own block
      have f6:Hid (Below wr.1.size wr E):=(cv.out.trans (bl.out.mono cv.out.size)).trans (ci.mono (by omega));have a7:=xX (D.out.on f6.out);have cs:Hid (Apart wr.1.size E.1.size E E u3):=⟨fun k hO=>.inl (D.out.lt k hO).2,fun _ _ _=>rfl,xZ⟩;have cq:Hid (At E (some ⟨en,0,none⟩) e4):=gb.out.here.on ci;have a6:Hid (At E dp lt∧∀b o,dp=some ⟨b,o,none⟩->wr.1.size<=b∧b<E.1.size):=⟨eC.here,fun b o hS=>by have:=eC.place b o hS;omega⟩;have a5:Hid (At9 E wr.1.size 0 nm k e8 e7 e6 has fs fr fi fy fx fv fo):=(dr.out.on bl.out).on ci;have ct:Hid (Below (w.1.size+1) I E):=f5.out.trans (f6.out.mono hV);have bb:w.1.size+1<=E.1.size:=(by omega);clear eC ci cx hy hz hA hB hC hD hE hF hG dr gb bl cv ds D f5;cases has with
      |false=>
        have dv:=xX (fI false)
        go_wp2_with (first
          | (at_builtin
             first
               | (refine aw (B:=w.1.size+1) (p:=some ⟨en,0,none⟩) a7.out cq.out (by omega) bb rfl rfl rfl rfl rfl ?_;intro f0 h2 hI w4 bn b3 ha4 b8;have Z:=xX b3;have V:=xX (cs.out.step ha4 b8);have bd:=xX (ct.out.trans (au ha4 a7.out bb));have a0:w.1.size+1<=w4.1.size:=Nat.le_trans bb ha4.size;have hY:f0.length<=320000000660:=(by rw[bn.out,List.length_append];omega);have d6:=V.out.cell xZ (by omega) a5.out.1;clear b3 ha4 b8 a7 cq cs ct)
               | (refine fD (B:=w.1.size+1) (t:=nm) Z.out (by omega) a0 rfl rfl rfl rfl rfl ?_;intro f2 h3 hJ w5 bp b4 M b9;have ah:=xX b4;have X:=xX (V.out.step M b9);have be:=xX (bd.out.trans (au M Z.out a0));have a1:w.1.size+1<=w5.1.size:=Nat.le_trans a0 M.size;have hZ:f2.length<=320000000680:=(by rw[bp.out,List.length_append];simp only[Array.length_toList];have:nm.data.size=nm.size:=rfl;omega);have bc:=xX (X.out.at a6.out.2 a6.out.1);clear b4 M b9 Z V bd a6 d6)
               | (refine aw (B:=w.1.size+1) (p:=dp) ah.out bc.out (by omega) a1 rfl rfl rfl rfl rfl ?_;intro f3 h4 hK A bq b5 O cb;have aj:=xX b5;have Y:=xX (X.out.step O cb);have bj:=xX (be.out.trans (au O ah.out a1));have e0:w.1.size+1<=A.1.size:=Nat.le_trans a1 O.size;have h0:f3.length<=320000000690:=(by rw[bq.out,List.length_append];omega);have bN:=Y.out.cell xZ (by omega) a5.out.2.2.2.1;clear b5 O cb ah X be bc)
               | (refine aw (B:=w.1.size+1) (p:=some ⟨A.1.size,0,none⟩) (l:=[0]) (aj.out.alloc _) (sf A _ 0 rfl) (by simp;omega) (by simp;omega) rfl rfl rfl rfl rfl ?_;intro cp g8 gn a3 bs b6 R cc;have ak:Below A.1.size A (A.alloc (.cells #[.int .u8 0] 5)):=xV;have cw:=xX b6;have y:=xX ((Y.out.on ak).step R cc);have bk:=xX ((bj.out.trans (ak.mono e0)).trans (au R (aj.out.alloc _) (by simp;omega)));have e1:w.1.size+1<=a3.1.size:=(by have:=R.size;simp at this;omega);have h1:cp.length<=320000000700:=(by rw[bs.out,List.length_append];simp;omega);obtain⟨ec,el,em,bO,bT,bX,b0,b1,b2⟩:=a5.out;have bN:=y.out.cell xZ (by omega) bO;have d7:=y.out.cell xZ (by omega) bT;have d8:=y.out.cell xZ (by omega) bX;have d9:=y.out.cell xZ (by omega) b0;have ea:=y.out.cell xZ (by omega) b1;have eb:=y.out.cell xZ (by omega) b2;clear b6 R cc aj Y bj ak ec el em bO bT bX b0 b1 b2))
          | (go_at_call 174;refine(dv.out _).mono ?_;rintro e wf ⟨rfl,co⟩;rw[co];clear co wf;simp only[Bool.false_eq_true,if_false]))
        have d2:Hid (Has a3 (w.1.size+1) (.slice g8 cp.length gn) (J++((s.take (j+1)).map Sch.cB).flatten)∧Below (w.1.size+1) I a3):=by
          refine⟨?_,bk.out⟩;have e:J++((s.take (j+1)).map Sch.cB).flatten=cp:=by
            rw[f7.out,bs.out,bq.out,bp.out,bn.out,f9.out];simp[List.append_assoc]
          rw[e];exact cw.out
        clear bN d7 d8 d9 ea eb;go_roundw;case rel=>exact⟨j+1,by omega,by go_num,d2⟩
        case measure=>simp[intOf];omega
      |true=>
        have dv:=xX (fI true)
        go_wp2_with (first
          | (at_builtin
             first
               | (refine aw (B:=w.1.size+1) (p:=some ⟨en,0,none⟩) a7.out cq.out (by omega) bb rfl rfl rfl rfl rfl ?_;intro f0 h2 hI w4 bn b3 ha4 b8;have Z:=xX b3;have V:=xX (cs.out.step ha4 b8);have bd:=xX (ct.out.trans (au ha4 a7.out bb));have a0:w.1.size+1<=w4.1.size:=Nat.le_trans bb ha4.size;have hY:f0.length<=320000000660:=(by rw[bn.out,List.length_append];omega);have d6:=V.out.cell xZ (by omega) a5.out.1;clear b3 ha4 b8 a7 cq cs ct)
               | (refine fD (B:=w.1.size+1) (t:=nm) Z.out (by omega) a0 rfl rfl rfl rfl rfl ?_;intro f2 h3 hJ w5 bp b4 M b9;have ah:=xX b4;have X:=xX (V.out.step M b9);have be:=xX (bd.out.trans (au M Z.out a0));have a1:w.1.size+1<=w5.1.size:=Nat.le_trans a0 M.size;have hZ:f2.length<=320000000680:=(by rw[bp.out,List.length_append];simp only[Array.length_toList];have:nm.data.size=nm.size:=rfl;omega);have bc:=xX (X.out.at a6.out.2 a6.out.1);clear b4 M b9 Z V bd a6 d6)
               | (refine aw (B:=w.1.size+1) (p:=dp) ah.out bc.out (by omega) a1 rfl rfl rfl rfl rfl ?_;intro f3 h4 hK A bq b5 O cb;have aj:=xX b5;have Y:=xX (X.out.step O cb);have bj:=xX (be.out.trans (au O ah.out a1));have e0:w.1.size+1<=A.1.size:=Nat.le_trans a1 O.size;have h0:f3.length<=320000000690:=(by rw[bq.out,List.length_append];omega);have bN:=Y.out.cell xZ (by omega) a5.out.2.2.2.1;clear b5 O cb ah X be bc)
               | (refine aw (B:=w.1.size+1) (p:=some ⟨A.1.size,0,none⟩) (l:=[1]) (aj.out.alloc _) (sf A _ 1 rfl) (by simp;omega) (by simp;omega) rfl rfl rfl rfl rfl ?_;intro cp g8 gn a3 bs b6 R cc;have ak:Below A.1.size A (A.alloc (.cells #[.int .u8 1] 5)):=xV;have cw:=xX b6;have y:=xX ((Y.out.on ak).step R cc);have bk:=xX ((bj.out.trans (ak.mono e0)).trans (au R (aj.out.alloc _) (by simp;omega)));have e1:w.1.size+1<=a3.1.size:=(by have:=R.size;simp at this;omega);have h1:cp.length<=320000000700:=(by rw[bs.out,List.length_append];simp;omega);obtain⟨ec,el,em,bO,bT,bX,b0,b1,b2⟩:=a5.out;have bN:=y.out.cell xZ (by omega) bO;have d7:=y.out.cell xZ (by omega) bT;have d8:=y.out.cell xZ (by omega) bX;have d9:=y.out.cell xZ (by omega) b0;have ea:=y.out.cell xZ (by omega) b1;have eb:=y.out.cell xZ (by omega) b2;clear b6 R cc aj Y bj ak ec el em bO bT bX b0 b1 b2))
          | (go_at_call 174;refine(dv.out _).mono ?_;rintro e wf ⟨rfl,co⟩;rw[co];clear co wf;simp only[if_true]))
        have gz:Below w.1.size w a3:=f4.out.trans (bk.out.mono (by omega));have ez:chk 1 K=0:=(by first | exact f8.out rfl | exact f8.out trivial);have i1:=gf.out ez;refine(d3.out a3 gz ez).mono ?_;rintro e h8 ⟨h6,ib,rfl,gN,c5⟩;have gd:=xX (cw.out.on c5);have hh:=xX (bk.out.trans (c5.mono e1));have g4:w.1.size+1<=h8.1.size:=Nat.le_trans e1 c5.size;have hf:=xX gN.here;clear bN d7 d8 d9 ea eb gN c5 gz ez cw bk y;go_wp2_with (at_builtin;refine aw (B:=w.1.size+1) (p:=h6) gd.out hf.out (by omega) g4 rfl rfl rfl rfl rfl ?_;intro he h5 hL ha hp gs gt hN);have d2:Hid (Has ha (w.1.size+1) (.slice h5 he.length hL) (J++((s.take (j+1)).map Sch.cB).flatten)∧Below (w.1.size+1) I ha):=by
          refine⟨?_,hh.out.trans (au gt gd.out g4)⟩;have e:J++((s.take (j+1)).map Sch.cB).flatten=he:=by
            rw[f7.out,hp.out,bs.out,bq.out,bp.out,bn.out,f9.out];simp[List.append_assoc]
          rw[e];exact gs
        clear gs gt hN;go_roundw;case rel=>exact⟨j+1,by omega,by go_num,d2⟩
        case measure=>simp[intOf];omega
    · have iy:¬(j:Int)<(s.length:Int):=(by omega);have a9:((s.take j).map Sch.cB).flatten=(s.map Sch.cB).flatten:=(by rw[List.take_of_length_le (by omega)]);have D:=U.out.1;rw[a9] at D;obtain⟨L,eq⟩:∃L,L=J++(s.map Sch.cB).flatten:=⟨_,rfl⟩;rw[<-eq] at D;have hl:=xX eq;obtain⟨q,hH,hX,-,-⟩:=D.at;subst hX
      replace D:=xX (D.lower (B':=w.1.size) (by omega))
      have hk:=xX a8;clear U a9 a8 ck eq;go_wp2;go_ret;rw[hj.out,<-hl.out];exact⟨q,hH,rfl,D.out,hk.out⟩
theorem ow(s:List Col)(j:Nat)(h:j<s.length):Sch.colsErr (s.take j) (s.drop j)=if Sch.colErr (s.take j) s[j]=0 then Sch.colsErr (s.take (j+1)) (s.drop (j+1)) else Sch.colErr (s.take j) s[j]:=by
 rw[List.drop_eq_getElem_cons h,Sch.colsErr,List.take_succ_eq_append_getElem h]
theorem jV(s:List Col)(p:OA)(A:Nat)(w:World)(d9:s.length*120<=140737488351232)(d4:s.length<=A)(cj:bw w p s)(ci:∀c∈s,c.wf):
  Calls Tryz.prog 116 #[.agg #[.slice p s.length A]] w fun e w'=>e=.returned (.int .i64 (Sch.err s:Nat))∧Below w.1.size w w':=by
 obtain⟨E,a3⟩:∃E,E=w.alloc (.cells #[.slice p s.length A] 41):=⟨_,rfl⟩;have Z:Hid (Below w.1.size w E):=by rw[a3];exact xV
 have co:E.cell? ⟨w.1.size,0,none⟩=some (.slice p s.length A):=by rw[a3];simp
 have ct:=xX co;have a1:=xX a3;obtain⟨K,bn⟩:∃K,K=Sch.err s:=⟨_,rfl⟩;have aj:=xX (bn.trans (by rw[Sch.err]:Sch.err s=_));rw[<-bn];have bk:=xX cj;have cs:=xX ci;clear a3 bn cj ci co;by_cases X:s.length=0
 ·have cv:((s.length:Int)==0)=true:=bQ (by omega);have D:Hid (K=4):=by show _=_;rw[aj.out,if_pos X]
  clear aj X;go_enter Tryz.func116,Tryz.ntmps116;go_wp2;rw[<-a1.out];go_ret;exact⟨by rw[D.out];rfl,Z.out⟩
 have cv:((s.length:Int)==0)=false:=aK (by omega);have ak:=xX (aj.out.trans (if_neg X));clear aj;by_cases a2:16<s.length
 ·have cw:(16:Int)<(s.length:Int):=by omega
  have D:Hid (K=3):=by show _=_;rw[ak.out,if_pos a2]
  clear ak X a2;go_enter Tryz.func116,Tryz.ntmps116;go_wp2;rw[<-a1.out];go_ret;exact⟨by rw[D.out];rfl,Z.out⟩
 have cw:¬(16:Int)<(s.length:Int):=by omega
 have a0:=xX (ak.out.trans (if_neg a2));clear ak X;go_enter Tryz.func116,Tryz.ntmps116;go_wp2_with fail;rw[<-a1.out];clear a1;go_loopw [3,4] (fun bp _ wr=>∃j:Nat,j<=s.length∧bp=.int .i64 j∧Hid (Below E.1.size E wr∧Sch.colsErr [] s=Sch.colsErr (s.take j) (s.drop j))) (fun bp _ _=>s.length-(intOf bp).toNat);case atStart=>exact⟨0,by omega,rfl,xY,rfl⟩
 case round=>
  obtain⟨j,d5,rfl,J⟩:=hrel;have O:Below w.1.size w wr:=Z.out.trans (J.out.1.mono Z.out.size);have cn:wr.cell? ⟨w.1.size,0,none⟩=some (.slice p s.length A):=ac J.out.1 ct.out;by_cases cb:j<s.length
  ·have d6:(j:Int)<(s.length:Int):=(by omega);have d7:(j:Int)<=(A:Int):=(by omega);obtain⟨bx,y,k,a7,a6,a5,bc,bb,a8,bj,be,bd,a9,rfl,d3,b5,cc,b8⟩:=bk.out.at j cb;have I:Hid (∀w',Below w.1.size w w'->Calls Tryz.prog 149 #[.slice (some ⟨bx,y,none⟩) j A,.agg #[.string s[j].name,.int .i64 k,.slice a7 a6 a5,.bool s[j].has,.int .i64 bc,.int .i64 bb,.float .f64 a8,.string bj,.slice be bd a9]] w' fun e c7=>e=.returned (.int .i64 (Sch.colErr (s.take j) s[j]:Nat))∧Below w'.1.size w' c7):=fun w' hb=>by
    have b9:(s.take j).length=j:=(by rw[List.length_take];omega);have h:=nI (s.take j) s[j] (some ⟨bx,y,none⟩) A (av s[j].name k a7 a6 a5 s[j].has bc bb a8 bj be bd a9) w' (by rw[b9];omega) ((bk.out.take j).on hb) ⟨k,a7,a6,a5,bc,bb,a8,bj,be,bd,a9,rfl,cc.on hb,b8.on hb⟩;rw[b9] at h;exact h
   obtain⟨bN,bO,bT,bX,b0,b1,b2,b3,b4⟩:=b5.on O;have U:=xX (J.out.2.trans (ow s j cb));have L:=xX O;have bs:=xX J.out.1;obtain⟨z,ck⟩:∃z,z=Sch.colErr (s.take j) s[j]:=⟨_,rfl⟩;rw[<-ck] at I U;generalize s[j].name=c6 at *
   generalize s[j].has=has at *
   clear b5 cc b8 O J ck;go_wp2_with fail
   go_region_held3 (fun w'=>w'.cell? ⟨bx,y+j*9,none⟩=some (.string c6)∧w'.cell? ⟨bx,y+j*9+1,none⟩=some (.int .i64 k)∧w'.cell? ⟨bx,y+j*9+2,none⟩=some (.slice a7 a6 a5)∧w'.cell? ⟨bx,y+j*9+3,none⟩=some (.bool has)∧w'.cell? ⟨bx,y+j*9+4,none⟩=some (.int .i64 bc)∧w'.cell? ⟨bx,y+j*9+5,none⟩=some (.int .i64 bb)∧w'.cell? ⟨bx,y+j*9+6,none⟩=some (.float .f64 a8)∧w'.cell? ⟨bx,y+j*9+7,none⟩=some (.string bj)∧w'.cell? ⟨bx,y+j*9+8,none⟩=some (.slice be bd a9)∧w'.cell? ⟨w.1.size,0,none⟩=some (.slice (some ⟨bx,y,none⟩) s.length A)) (go_keep) (first|(go_at_call 149;refine(I.out _ (below_drewN L.out _)).mono ?_;rintro e w4 ⟨rfl,b7⟩;have o:=cF (w:=wr) b7 (by rfl) (by rfl) (by rfl) (by rfl);have c8:=ac o bN;have c9:=ac o bO;have dd:=ac o bT;have df:=ac o bX;have dp:=ac o b0;have dr:=ac o b1;have ds:=ac o b2;have dv:=ac o b3;have d0:=ac o b4;have d1:=ac o cn;have ah:=xX o;clear b7 o))
   clear c8 c9 dd df dp dr ds dv d0 d1 bN bO bT bX b0 b1 b2 b3 b4 cn;by_cases R:z=0
   ·have c5:((z:Int) != 0)=false:=(by rw[R];rfl);have cq:Hid (Below E.1.size E w4∧Sch.colsErr [] s=Sch.colsErr (s.take (j+1)) (s.drop (j+1))):=⟨bs.out.trans (ah.out.mono bs.out.size),by rw[U.out,if_pos R]⟩;clear ah I R U;go_wp2;go_roundw;case rel=>exact⟨j+1,by omega,by go_num,cq⟩
    case measure=>simp[intOf];omega
   ·have c5:((z:Int) != 0)=true:=(by rw[bne_iff_ne];omega);have D:Hid (K=z):=by
     show _=_;have e:Sch.colsErr [] s=z:=(by rw[U.out,if_neg R]);rw[a0.out,if_pos (by rw[e];exact R),e]
    have cp:=xX (L.out.trans (ah.out.mono L.out.size));clear ah I R U a0;go_wp2;go_ret;exact⟨by rw[D.out];rfl,cp.out⟩
  ·have d8:¬(j:Int)<(s.length:Int):=(by omega);have a4:Sch.colsErr [] s=0:=(by rw[J.out.2,List.drop_eq_nil_of_le (by omega)];rfl);have V:=xX (a0.out.trans (if_neg (by rw[a4];simp)));have I:=xX (gP s p A wr (by omega) (bk.out.on O) a4 cs.out);have L:=xX O;obtain⟨M,bl⟩:∃M,M=Sch.bytes s:=⟨_,rfl⟩;rw[<-bl] at I V;have d2:M.length<=320000000650:=by
    have a2:=Sch.flat_small a4 (by omega);have Y:=Leb.put_length_le s.length;rw[bl,Sch.bytes,List.length_append];omega
   clear J O bl a4 a0;go_wp2_with fail;refine I.out.mono ?_;rintro e w2 ⟨q,cap,rfl,cy,b6⟩;have bq:=xX (L.out.trans (b6.mono L.out.size));clear cy b6;by_cases Y:1024<M.length
   ·have cx:(1024:Int)<(M.length:Int):=(by omega);have D:Hid (K=2):=(by show _=_;rw[V.out,if_pos Y]);clear V Y;go_wp2;go_ret;exact⟨by rw[D.out];rfl,bq.out⟩
   ·have cx:¬(1024:Int)<(M.length:Int):=(by omega);have D:Hid (K=0):=(by show _=_;rw[V.out,if_neg Y]);clear V Y;go_wp2;go_ret;exact⟨by rw[D.out];rfl,bq.out⟩
def xM(w:World)(s:List Col)(e:Ending)(w':World):Prop :=
 (Sch.err s=0∧∃q cap,e=.returned (.tuple #[.slice q (Sch.bytes s).length cap,.int .i64 0])∧Has w' w.1.size (.slice q (Sch.bytes s).length cap) (Sch.bytes s)∧Below w.1.size w w') ∨
 (Sch.err s≠0∧e=.returned (.tuple #[.slice none 0 0,.int .i64 (Sch.err s:Nat)])∧Below w.1.size w w')
theorem nE(s:List Col)(p:OA)(o:Nat)(w:World)(bc:s.length*120<=140737488351232)(bb:s.length<=o)(Y:bw w p s)(X:∀c∈s,c.wf):
  Calls Tryz.prog 119 #[.agg #[.slice p s.length o]] w (xM w s):=by
 obtain⟨E,K⟩:∃E,E=w.alloc (.cells #[.slice p s.length o] 41):=⟨_,rfl⟩;have HB0:Hid (Below w.1.size w E):=by rw[K];exact xV
 have a3:E.cell? ⟨w.1.size,0,none⟩=some (.slice p s.length o):=by rw[K];simp
 have a6:=xX a3;have ah:=xX K;have M:=xX (jV s p o E bc bb (Y.on HB0.out) X);have I:=xX (fun w' (hb:Below w.1.size w w') a8 a9=>gP s p o w' a8 (Y.on hb) a9 X);have J:=xX (fun h=>Sch.err_open (s:=s) h);obtain⟨D,U⟩:∃D,D=Sch.err s:=⟨_,rfl⟩;obtain⟨L,R⟩:∃L,L=Sch.bytes s:=⟨_,rfl⟩;unfold xM;rw[<-U,<-R];rw[<-U] at M J;rw[<-R] at I;clear K Y X a3 U R;go_enter Tryz.func119,Tryz.ntmps119;go_wp2_with fail;rw[<-ah.out];clear ah;refine M.out.mono ?_;rintro e w1 ⟨rfl,V⟩;have bd:w1.cell? ⟨w.1.size,0,none⟩=some (.slice p s.length o):=ac V a6.out;have A:=xX (HB0.out.trans (V.mono HB0.out.size));clear V M;by_cases y:D=0
 ·have a7:((D:Int) != 0)=false:=by rw[y];rfl
  obtain⟨be,a1,a2,bj⟩:=J.out y;have Z:=xX (I.out w1 A.out a1 a2);have O:=xX y;clear y be a1 a2 bj I J;go_wp2_with fail;refine Z.out.mono ?_;rintro e w2 ⟨q,cap,rfl,a0,ak⟩;have a5:=xX (a0.lower A.out.size);have a4:=xX (A.out.trans (ak.mono A.out.size));clear a0 ak Z bd;go_wp2;go_ret2;exact .inl ⟨O.out,q,cap,rfl,a5.out,a4.out⟩
 ·have a7:((D:Int) != 0)=true:=by rw[bne_iff_ne];omega
  have O:=xX y;clear y I J;go_wp2;go_ret2;exact .inr ⟨O.out,rfl,A.out⟩
end
end Go.Proofs.YtdkammppnkhhoaaGreatDoor
