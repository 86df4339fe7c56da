import Derived.Test.YtdkammppnkhhoaaGreatDoorB10
import Derived.Deep.RegionLaw
import Derived.Test.YtdkammppnkhhoaaGreatDoorB14
set_option maxRecDepth 100000
set_option maxHeartbeats 4000000
namespace Go.Proofs.YtdkammppnkhhoaaGreatDoor
variable{B H:Nat}{w w1 w2:World}{l l0 xs:L8}{v v1:Value}
section
open Go.RowKit
structure bI(w:World)(B:Nat)(v:Value)(w':World)(v':Value)(l:L8):Prop where
 has:Has w' B v' l
 aside:Aside (fun k=>v.ownBlock=some k) w w'
 fresh:∀k,v'.ownBlock=some k->v.ownBlock=some k∨w.1.size<=k
theorem bI.refl(h:Has w B v l):bI w B v w v l:=⟨h,Aside.refl _ _,fun _ o=>.inl o⟩
theorem bI.trans{D:Value}{I A:L8}(h:bI w B v w1 v1 I)(k:bI w1 B v1 w2 D A):bI w B v w2 D A:=by
 have J:=h.aside.size;refine⟨k.has,h.aside.trans k.aside (fun i z E=>?_),fun i z=>?_⟩
 ·rcases h.fresh i E with o | o
  ·exact o
  ·omega
 ·rcases k.fresh i z with o | o
  ·rcases h.fresh i o with y | y
   ·exact .inl y
   ·exact .inr y
  ·exact .inr (by omega)
theorem bI.on(h:bI w B v w1 v1 l)(hb:Below w1.1.size w1 w2):bI w B v w2 v1 l :=
 ⟨h.has.on hb,h.aside.trans (ae hb (fun _=>False)) (fun _ _ o=>o.elim),h.fresh⟩
theorem bI.from{w0:World}(h:bI w0 B v w1 v1 l)(hb:Below w.1.size w w0)(_:Has w B v l0):bI w B v w1 v1 l:=by
 have A:=hb.size;refine⟨h.has,(ae hb (fun k=>v.ownBlock=some k)).trans h.aside (fun _ _ y=>y),fun k z=>?_⟩;rcases h.fresh k z with o | o
 ·exact .inl o
 ·exact .inr (by omega)
theorem bI.low(h:bI w B v w1 v1 l)(o:Has w B v l0)(y:B<=w.1.size):Below B w w1:=au h.aside o y
def gi(w:World)(B:Nat)(v:Value)(l:L8)(e:Ending)(w':World):Prop:=∃q cap,e=.returned (.slice q l.length cap)∧bI w B v w' (.slice q l.length cap) l
theorem gY(v:Value)(xs:L8)(t:ByteArray)(B:Nat)(w:World)(hv:Has w B v xs)(a4:B<=w.1.size)(bb:xs.length<=1000000)(a8:t.size<=1024):
    Calls Tryz.prog 127 #[v,.string t] w (gi w B v (xs++(Leb.put t.size++t.data.toList))):=by
  have o:=xX (fN t.size (by omega));have hlen:=Leb.put_length_le t.size;obtain⟨l0,U⟩:∃l0,l0=Leb.put t.size:=⟨_,rfl⟩;rw[<-U] at o hlen ⊢;have a9:(t.size:Int)<=1024:=by omega
  have D:=xX hv;clear U hv;go_enter Tryz.func127,Tryz.ntmps127;go_wp2_with fail;refine(o.out _).mono ?_;rintro e w1 ⟨g,cap,rfl,V,hb⟩;have a0:=xX V;have a1:=xX (D.out.on hb);have Z:=xX ((bI.refl D.out).on hb);have K:B<=w1.1.size:=Nat.le_trans a4 hb.size;clear V hb o
  go_wp2_with (first
    | (at_builtin;refine aw (B:=B) a1.out a0.out.at (by omega) K rfl rfl rfl rfl rfl ?_;intro A a6 a3 W E y z O;have a7:A.length<=1000010:=by(rw[E.out,List.length_append];omega)
       have ak:=xX y;have ah:Hid (bI w B v W (.slice a6 A.length a3) A):=Z.out.trans ⟨y,z,O⟩;have a5:B<=W.1.size:=Nat.le_trans K z.size;clear y z O)
    | (at_builtin;refine fD (B:=B) (t:=t) ak.out (by omega) a5 rfl rfl rfl rfl rfl ?_;intro Y X J a2 I L M R;have aj:Hid (bI w B v a2 (.slice X Y.length J) Y):=ah.out.trans ⟨L,M,R⟩;clear L M R))
  go_ret;rw[E.out,List.append_assoc] at I;rw[<-I.out];exact⟨X,J,rfl,aj.out⟩
theorem rk{x:Ty}{d:Nat}(h:Ty.check d x=0):(Sch.tyB x).length<=5:=by have:=Sch.tyB_len x d h;omega
theorem kH(w:World)(y:Int)(c:UInt8)(A:y=(c.toNat:Int)):At (w.alloc (.cells #[.int .u8 y] 5)) (some ⟨w.1.size,0,none⟩) [c]:=by
 obtain⟨p,D,o,z,-⟩:=(bP (B:=0) (w:=w) [c] (C:=#[.int .u8 y]) (by rw[A];rfl) (Nat.zero_le _) (by simp)).at;injection o with o;rw[o];exact z
theorem iD(K:w.1.size=H)(A:Has w B v xs)(c:UInt8)(hlen:xs.length+1<=140737488355328)(J:B<=w.1.size){z:Int}{ops:Array Oper}{rest:List Oper}{y:Oper}{a:Act}{Q:Exit->Act->World->Prop}{s x:Operand}(Y:z=(c.toNat:Int))(U:y.type=22)(M:y.guard=none)(O:y.op=Op.call { callee:=Callee.builtin Builtin.append,args:=#[s,x],argTypes:=#[22,22] })(R:a.eval s=v)(V:a.eval x=.slice (some ⟨H,0,none⟩) 1 1)(L:∀q cap W o,Hid (o=xs++[c])->bI w B v W (.slice q o.length cap) o->wpList Tryz.prog ops Q rest (a.put y.dst (.slice q o.length cap)) W):
  wpList Tryz.prog ops Q (y::rest) a (w.alloc (.cells #[.int .u8 z] 5)):=by
 subst K;have hb:Below w.1.size w (w.alloc (.cells #[.int .u8 z] 5)):=xV;refine aw (A.alloc _) (kH w z c Y) (by simpa using hlen) (Nat.le_trans J hb.size) U M O R V ?_;intro o q cap W X D E I;exact L q cap W o X (bI.from ⟨D,E,I⟩ hb A)
theorem mJ:∀(x:Ty) (d:Nat) (w0 w:World) (u:AV) (v:Value) (xs:L8),Ty.check d x=0->aD w0 u x->Below w0.1.size w0 w->Has w w0.1.size v xs->xs.length+5*(5-d)<=1000000->Calls Tryz.prog 128 #[v,.agg u] w (gi w w0.1.size v (xs++Sch.tyB x)):=by
  intro x;refine Ty.ind (P:=fun x=>∀(d:Nat) (w0 w:World) (u:AV) (v:Value) (xs:L8),Ty.check d x=0->aD w0 u x->Below w0.1.size w0 w->Has w w0.1.size v xs->xs.length+5*(5-d)<=1000000->Calls Tryz.prog 128 #[v,.agg u] w (gi w w0.1.size v (xs++Sch.tyB x))) ?_ x;rintro k o bq d w0 w u v xs hd bl hb0 hv hlen;obtain⟨p,c,rfl,c7,c6,bn⟩:=bl.open;unfold al;have a5:=hb0.size;have a4:Below w.1.size w (w.alloc (.cells #[.int .i64 k,.slice p o.length c] 73)):=xV;have A:=xX a4;have bO:=xX hb0;have E:=xX hv;clear a4 bl hb0 hv;obtain⟨cx,cj,bj⟩:=Sch.ty_open hd;obtain⟨ck,cn⟩:=cj;have a8:=Sch.kind_byte ⟨ck,cn⟩;obtain⟨c0,I⟩:∃c0,c0=UInt8.ofNat k.toNat:=⟨_,rfl⟩;have bd:k=(c0.toNat:Int):=by rw[I,a8];omega
  have b3:=xX bd;have ak:=xX (E.out.on A.out);have cb:w0.1.size<=(w.alloc (.cells #[.int .i64 k,.slice p o.length c] 73)).1.size:=Nat.le_trans a5 A.out.size;have O:Hid (Sch.tyB (.mk k o)=[c0]++(o.map Sch.tyB).flatten∧o.length<=1∧∀Z∈o,Ty.check (d+1) Z=0):=by
    show _∧_∧_;rcases bj with ⟨R,rfl⟩ | ⟨R,Z,rfl,X⟩
    · exact⟨by rw[Sch.tyB_mk,if_neg R,I];rfl,by simp,fun Z X=>by cases X⟩
    · refine⟨by rw[Sch.tyB_mk,if_pos R,I];simp,by simp,fun z bp=>?_⟩;rw[List.mem_singleton] at bp;rw[bp];exact X
  have b4:Hid (∀j (ci:j<o.length),∃bN,aD w0 bN o[j]∧dH w0 p j bN):=bn;have b2:=xX bq;have ah:Hid (At ((w.alloc (.cells #[.int .i64 k,.slice p o.length c] 73)).alloc (.cells #[.int .u8 k] 5)) (some ⟨w.1.size+1,0,none⟩) [c0]):=by
    show At _ _ _;have:=kH (w.alloc (.cells #[.int .i64 k,.slice p o.length c] 73)) k c0 b3.out;simpa using this
  clear bq bn hd bd a8 I bj;go_enter Tryz.func128,Tryz.ntmps128
  go_wp2_with (first
    | (at_builtin;refine aw (B:=w0.1.size) (l:=[c0]) (ak.out.alloc _) ah.out (by simp;omega) (Nat.le_trans cb (by simp)) rfl rfl rfl rfl rfl ?_;intro L bs a3 W a1 a6 U a7;have b0:Hid (bI w w0.1.size v W (.slice bs L.length a3) L):=by
         refine bI.from (w0:=(w.alloc (.cells #[.int .i64 k,.slice p o.length c] 73)).alloc (.cells #[.int .u8 k] 5)) ⟨a6,U,a7⟩ ?_ E.out;exact A.out.alloc A.out.size _
       have c1:W.cell? ⟨w.1.size,1,none⟩=some (.slice p o.length c):=by
         rw[U.cell (by simp;omega) (fun cc=>by have:=(E.out.lt _ cc).2;simp at this)];simp
       clear a6 U a7))
  have b5:Hid (L=xs++([c0]++((o.take 0).map Sch.tyB).flatten)):=by show _=_;rw[a1.out];simp
  clear a1 ah ak c1;go_loopw [0,16] (fun cw Y wr=>∃(j:Nat) (zs:L8) (q:OA) (cap:Nat),j<=o.length∧Y=.int .i64 j∧cw=.slice q zs.length cap∧Hid (zs=xs++([c0]++((o.take j).map Sch.tyB).flatten)∧bI w w0.1.size v wr (.slice q zs.length cap) zs)) (fun _ Y _=>o.length-(intOf Y).toNat);case atStart=>exact⟨0,L,bs,a3,by omega,rfl,rfl,b5.out,b0.out⟩
  case round=>
    obtain⟨j,zs,q,cap,ci,rfl,rfl,y⟩:=hrel;have hbr:Below w0.1.size w0 wr:=bO.out.trans (y.out.2.low E.out a5);by_cases J:j<o.length
    · obtain⟨c9,bk,bb⟩:=b4.out j J;obtain⟨bx,c8,cp,cv,cs,b9,rfl,_,rfl,b6,b7⟩:=(bb.on hbr).lies;have cy:(j:Int)<(o.length:Int):=(by omega);have bc:j=0:=(by have:=O.out.2.1;omega);have co:zs.length=xs.length+1:=(by rw[y.out.1,bc];simp);obtain⟨K,V⟩:∃K,K=wr.alloc (.cells #[.int .i64 cp,.slice cv cs b9] 73):=⟨_,rfl⟩;have M:Hid (Below wr.1.size wr K):=(by rw[V];exact xV);have D:=xX (b2.out _ (List.getElem_mem J) (d+1) w0 K _ (.slice q zs.length cap) zs (O.out.2.2 _ (List.getElem_mem J)) bk (hbr.trans (M.out.mono hbr.size)) (y.out.2.has.on M.out) (by omega));have aj:=xX (y.out.2.on M.out);have a2:Hid (zs++Sch.tyB o[j]=xs++([c0]++((o.take (j+1)).map Sch.tyB).flatten)):=by
        show _=_;rw[y.out.1,Sch.flatten_take Sch.tyB o j J];simp
      obtain⟨cq,be⟩:∃l,l=zs++Sch.tyB o[j]:=⟨_,rfl⟩;rw[<-be] at D a2;unfold al at D;have a0:=xX V;clear bk bb hbr y V be bc co;go_wp2_with fail;rw[<-a0.out];clear a0 b6 b7;refine D.out.mono ?_;rintro e w2 ⟨ct,b8,rfl,a9⟩;have b1:=xX (aj.out.trans a9);clear a9 D aj;go_wp2;go_roundw;case rel=>exact⟨j+1,cq,ct,b8,by omega,by go_num,rfl,a2.out,b1.out⟩
      case measure=>simp[intOf];omega
    · have c5:¬(j:Int)<(o.length:Int):=(by omega);have bT:Hid (xs++Sch.tyB (.mk k o)=zs):=by
        show _=_;rw[y.out.1,O.out.1,List.take_of_length_le (by omega)]
      have bX:=xX y.out.2;clear y hbr;go_wp2;go_ret;rw[bT.out];exact⟨q,cap,rfl,bX.out⟩
theorem lm(v:Value)(xs:L8)(b:Nat)(I:b<18446744073709551616)(B:Nat)(w:World)(hv:Has w B v xs)(a0:B<=w.1.size)(bc:xs.length<=1000000):
    Calls Tryz.prog 160 #[v,.float .f64 b] w (gi w B v (xs++Sch.le 8 (aE b))):=by
  have K:=Sch.fixB_lt I;have R:=xX (dT b);generalize aE b=m at *
  have D:Hid (kr m [] m):=⟨by simp,K,rfl⟩;have Z:=xX hv;obtain⟨O,E,rfl,-,-⟩:=hv.at;clear K I hv;go_enter Tryz.func160,Tryz.ntmps160;go_wp2_with fail;refine(R.out _).mono ?_;rintro e w1 ⟨rfl,M⟩;rw[M];clear M w1;go_wp2_with fail;go_loopw [0,5,8] (fun a5 a6 z wr=>∃(n:Nat) (es zs:L8) (q:OA) (cap:Nat),a5=.slice q zs.length cap∧a6=.int .u64 n∧z=.int .i64 es.length∧es.length<=8∧n<18446744073709551616∧Hid (kr m es n∧zs=xs++es∧bI w B (.slice O xs.length E) wr (.slice q zs.length cap) zs)) (fun _ _ z _=>8-(intOf z).toNat);case atStart=>exact⟨m,[],xs,O,E,rfl,rfl,rfl,by simp,D.out.2.1,D.out,by simp,bI.refl Z.out⟩
  case round=>
    obtain⟨y,es,zs,q,cap,rfl,rfl,rfl,a8,bd,o⟩:=hrel;have a1:B<=wr.1.size:=Nat.le_trans a0 o.out.2.2.aside.size;have aj:Hid (zs.length=xs.length+es.length):=(by show _=_;rw[o.out.2.1,List.length_append]);by_cases a3:es.length<8
    · have bb:(es.length:Int)<8:=(by omega);have A:=xX (jh o.out.1 a3);have a2:(UInt8.ofNat (y % 256)).toNat=y % 256:=(by rw[UInt8.toNat_ofNat'];omega);generalize UInt8.ofNat (y % 256)=c1 at a2 A;have Y:=xX o.out.2.2.has
      go_wp2_with (first|(at_builtin;refine iD rfl Y.out c1 (by have:=aj.out;omega) a1 (by omega) rfl rfl rfl rfl rfl ?_;intro a4 ak W a7 ah L;have X:=xX (o.out.2.2.trans L);clear L))
      go_roundw;case rel=>exact⟨y / 256,es++[c1],a7,a4,ak,rfl,by go_num,by simp,by simp;omega,by omega,A.out,by rw[ah.out,o.out.2.1,List.append_assoc],X.out⟩
      case measure=>simp[intOf];omega
    · have a9:¬(es.length:Int)<8:=(by omega);have J:Sch.le 8 m=es:=by
        rw[o.out.1.2.2,show 8-es.length=0 by omega];simp[Sch.le]
      have U:Hid (xs++Sch.le 8 m=zs):=(by show _=_;rw[J,o.out.2.1]);have V:=xX o.out.2.2;clear o J;go_wp2;go_ret;rw[U.out];exact⟨q,cap,rfl,V.out⟩
end
section
open Go.RowKit
attribute [local go_sem] am
structure qP(xs full ys:L8):Prop where
 eq:ys=xs++full∨(1024<ys.length∧1024<(xs++full).length)
 len:ys.length<=max xs.length 1024+1034
theorem qP.all{full:L8}(h:full.length<=1034):qP xs full (xs++full):=⟨.inl rfl,by rw[List.length_append];omega⟩
def qQ(w:World)(B:Nat)(v:Value)(xs full:L8)(e:Ending)(w':World):Prop:=∃ys q cap,qP xs full ys∧e=.returned (.slice q ys.length cap)∧bI w B v w' (.slice q ys.length cap) ys
theorem ir{w':World}{full:L8}{e:Ending}(h:gi w B v (xs++full) e w')(z:full.length<=1034):qQ w B v xs full e w':=by
 obtain⟨q,cap,o,y⟩:=h;exact⟨_,q,cap,qP.all z,o,y⟩
def pn(items:List V):Prop:=∀x∈items,∀(w0 w:World) (u:AV) (v:Value) (xs:L8),aC w0 u x->Below w0.1.size w0 w->Has w w0.1.size v xs->xs.length<=100000->Calls Tryz.prog 129 #[v,.agg u] w (qQ w w0.1.size v xs (Sch.vB x))
theorem ll(o:List V)(dd:o.length<=256)(bX:pn o)(p:OA)(c:Nat)(w0 w:World)(v:Value)(xs:L8)(bT:dG w0 p o)(hb0:Below w0.1.size w0 w)(hv:Has w w0.1.size v xs)(hlen:xs.length<=100000):
    Calls Tryz.prog 161 #[v,.slice p o.length c] w (qQ w w0.1.size v xs (Leb.put o.length++(o.map Sch.vB).flatten)):=by
  have U:=xX (fN o.length (by omega));have cx:=Leb.put_length_le o.length;obtain⟨l0,bN⟩:∃l0,l0=Leb.put o.length:=⟨_,rfl⟩;rw[<-bN] at U cx ⊢;have df:(o.length:Int)<=256:=by omega
  have Z:=xX hv;have ci:=xX bT;have cc:=xX bX;have b7:=xX hb0;have bk:=hb0.size;obtain⟨b3,bc,rfl,-,-⟩:=hv.at;clear bN hv bT bX hb0;go_enter Tryz.func161,Tryz.ntmps161;go_wp2_with fail;refine(U.out _).mono ?_;rintro e w1 ⟨g,cap,rfl,bO,hb⟩;have a6:=xX bO;have a7:=xX (Z.out.on hb);have a5:=xX ((bI.refl Z.out).on hb);have cw:w0.1.size<=w1.1.size:=Nat.le_trans bk hb.size;clear bO hb U
  go_wp2_with (first|(at_builtin;refine aw (B:=w0.1.size) a7.out a6.out.at (by omega) cw rfl rfl rfl rfl rfl ?_;intro E b4 bd W aj bl bn bp;have b9:Hid (bI w w0.1.size (.slice b3 xs.length bc) W (.slice b4 E.length bd) E):=a5.out.trans ⟨bl,bn,bp⟩;clear bl bn bp))
  have a8:Hid ((E=xs++(l0++((o.take 0).map Sch.vB).flatten)∨(1024<E.length∧1024<(xs++(l0++((o.take 0).map Sch.vB).flatten)).length))∧E.length<=max xs.length 1024+1034):=by
    refine⟨.inl ?_,?_⟩
    · rw[aj.out];simp
    · rw[aj.out,List.length_append];omega
  clear aj a6 a7 a5;go_loopw [0,15] (fun c6 a3 wr=>∃(j:Nat) (zs:L8) (q:OA) (cap:Nat),j<=o.length∧a3=.int .i64 j∧c6=.slice q zs.length cap∧zs.length<=200000∧Hid (((zs=xs++(l0++((o.take j).map Sch.vB).flatten)∨(1024<zs.length∧1024<(xs++(l0++((o.take j).map Sch.vB).flatten)).length))∧zs.length<=max xs.length 1024+1034)∧bI w w0.1.size (.slice b3 xs.length bc) wr (.slice q zs.length cap) zs)) (fun _ a3 _=>o.length-(intOf a3).toNat);case atStart=>exact⟨0,E,b4,bd,by omega,rfl,rfl,by have:=a8.out.2;omega,a8.out,b9.out⟩
  case round=>
    obtain⟨j,zs,q,cap,c7,rfl,rfl,dp,y⟩:=hrel;have D:Below w0.1.size w0 wr:=b7.out.trans (y.out.2.low Z.out bk);by_cases a0:j<o.length
    · obtain⟨dv,a2,ak⟩:=ci.out j a0;obtain⟨bx,ds,b1,b0,bj,b6,b5,b2,be,rfl,_,rfl,cj,ck,cn,co,cp⟩:=(ak.on D).lies;have c8:(j:Int)<(o.length:Int):=(by omega);obtain⟨z,J⟩:∃z,z=wr.alloc (.cells #[.int .i64 b1,.int .i64 b0,.float .f64 bj,.string b6,.slice b5 b2 be] 77):=⟨_,rfl⟩;have O:Hid (Below wr.1.size wr z):=(by rw[J];exact xV);have a4:Hid (z.cell? ⟨wr.1.size,0,none⟩=some (.int .i64 b1)∧z.cell? ⟨wr.1.size,1,none⟩=some (.int .i64 b0)∧z.cell? ⟨wr.1.size,2,none⟩=some (.float .f64 bj)∧z.cell? ⟨wr.1.size,3,none⟩=some (.string b6)∧z.cell? ⟨wr.1.size,4,none⟩=some (.slice b5 b2 be)):=(by rw[J];exact⟨by simp,by simp,by simp,by simp,by simp⟩);have R:=xX (y.out.2.on O.out);have ah:=xX J;by_cases I:1024<zs.length
      · have ct:(1024:Int)<(zs.length:Int):=(by omega);have X:Hid (qP xs (l0++(o.map Sch.vB).flatten) zs):=by
          refine⟨.inr ⟨I,?_⟩,y.out.1.2⟩;have M:=Sch.flatten_take_le Sch.vB o j;rw[List.length_append,List.length_append];rcases y.out.1.1 with A | A
          · rw[A,List.length_append,List.length_append] at I;omega
          · have cv:=A.2;rw[List.length_append,List.length_append] at cv;omega
        clear a2 ak D y J a4 I;go_wp2;go_ret;rw[<-ah.out];exact⟨zs,q,cap,X.out,rfl,R.out⟩
      · have ct:¬(1024:Int)<(zs.length:Int):=(by omega);have L:=xX (cc.out _ (List.getElem_mem a0) w0 z _ (.slice q zs.length cap) zs a2 (D.trans (O.out.mono D.size)) (y.out.2.has.on O.out) (by omega));unfold cells5 at L;have a9:Hid (zs=xs++(l0++((o.take j).map Sch.vB).flatten)):=by
          rcases y.out.1.1 with A | A
          · exact A
          · exact absurd A.1 I
        have Y:=xX (Sch.flatten_take Sch.vB o j a0);have dr:zs.length<=1024:=(by omega);obtain⟨full,bq⟩:∃l,l=Sch.vB o[j]:=⟨_,rfl⟩;rw[<-bq] at L Y;clear a2 ak D y J I bq;go_wp2_with fail;rw[<-ah.out];clear ah cj ck cn co cp a4;refine L.out.mono ?_;rintro e w2 ⟨K,c5,cq,a1,rfl,bs⟩;have cb:=xX (R.out.trans bs);have bb:Hid ((K=xs++(l0++((o.take (j+1)).map Sch.vB).flatten)∨(1024<K.length∧1024<(xs++(l0++((o.take (j+1)).map Sch.vB).flatten)).length))∧K.length<=max xs.length 1024+1034):=by
          have cs:xs++(l0++((o.take (j+1)).map Sch.vB).flatten)=zs++full:=(by rw[Y.out,a9.out];simp);rw[cs];refine⟨a1.eq,?_⟩;have:=a1.len;omega
        have cy:K.length<=200000:=(by have:=bb.out.2;omega);clear bs L R a1 Y a9;go_wp2;go_roundw;case rel=>exact⟨j+1,K,c5,cq,by omega,by go_num,rfl,cy,bb.out,cb.out⟩
        case measure=>simp[intOf];omega
    · have c9:¬(j:Int)<(o.length:Int):=(by omega);have X:Hid (qP xs (l0++(o.map Sch.vB).flatten) zs):=by
        have M:=y.out.1;rw[List.take_of_length_le (by omega)] at M;exact⟨M.1,M.2⟩
      have b8:=xX y.out.2;clear y D;go_wp2;go_ret;exact⟨zs,q,cap,X.out,rfl,b8.out⟩
end
section
open Go.RowKit
attribute [local go_sem] am
theorem xk:Leb.put 0=[0]:=by kernel_rfl
theorem xi:Leb.put 1=[1]:=by kernel_rfl
section
variable {w w0:World} {v:Value} {xs:L8} (hb0:Below w0.1.size w0 w) (hv:Has w w0.1.size v xs) (hlen:xs.length<=100000)
include hb0 hv hlen
theorem jK(i:Int)(R:i=0∨i=1)(b:Nat)(t:ByteArray)(p:OA)(n c:Nat):Calls Tryz.prog 129 #[v,.agg #[.int .i64 1,.int .i64 i,.float .f64 b,.string t,.slice p n c]] w (gi w w0.1.size v (xs++[UInt8.ofNat i.toNat])):=by
  obtain⟨c0,y⟩:∃c0,c0=UInt8.ofNat i.toNat:=⟨_,rfl⟩;have A:i=(c0.toNat:Int):=by rw[y,UInt8.toNat_ofNat'];omega
  have E:=xX A;have V:0<=i:=by omega
  have X:i<=1:=by omega
  rw[<-y];have I:=xX hv;have M:=hb0.size;have o:Hid (Below w.1.size w (w.alloc (.cells #[.int .i64 1,.int .i64 i,.float .f64 b,.string t,.slice p n c] 77))):=xV;have J:=xX (hv.on o.out);have O:w0.1.size<=(w.alloc (.cells #[.int .i64 1,.int .i64 i,.float .f64 b,.string t,.slice p n c] 77)).1.size:=Nat.le_trans M o.out.size;clear A y R hv hb0;go_enter Tryz.func129,Tryz.ntmps129
  go_wp2_with (first|(at_builtin;refine iD (H:=w.1.size+1) (by simp) J.out c0 (by omega) O E.out rfl rfl rfl rfl rfl ?_;intro U L W Y K z;have D:=xX (z.from o.out I.out);clear z))
  go_ret;rw[<-K.out];exact⟨U,L,rfl,D.out⟩
theorem jJ(i:Int)(z:-9223372036854775808<=i∧i<=9223372036854775807)(b:Nat)(t:ByteArray)(p:OA)(n c:Nat):Calls Tryz.prog 129 #[v,.agg #[.int .i64 2,.int .i64 i,.float .f64 b,.string t,.slice p n c]] w (gi w w0.1.size v (xs++Leb.put (Leb.zig i))):=by
  have X:Leb.zig i<18446744073709551616:=by unfold Leb.zig;split <;> omega
  have I:=xX (tH i z.1 z.2);have o:=xX (fN (Leb.zig i) X);have U:=Leb.put_length_le (Leb.zig i);obtain⟨A,Y⟩:∃A,A=Leb.zig i:=⟨_,rfl⟩;rw[<-Y] at I o U ⊢;obtain⟨l0,O⟩:∃l0,l0=Leb.put A:=⟨_,rfl⟩;rw[<-O] at o U ⊢;have E:=xX hv;have a3:=hb0.size;have D:Hid (Below w.1.size w (w.alloc (.cells #[.int .i64 2,.int .i64 i,.float .f64 b,.string t,.slice p n c] 77))):=xV;clear z X hv hb0 Y O;go_enter Tryz.func129,Tryz.ntmps129;go_wp2_with fail;refine(I.out _).mono ?_;rintro e w1 ⟨rfl,V⟩;rw[V];clear V w1;go_wp2_with fail;refine(o.out _).mono ?_;rintro e w1 ⟨g,cap,rfl,R,hb⟩;have ak:=xX R;have y:=xX (D.out.trans (hb.mono D.out.size));have a0:=xX (E.out.on y.out);have a2:w0.1.size<=w1.1.size:=Nat.le_trans a3 y.out.size;clear R hb o
  go_wp2_with (first|(at_builtin;refine aw (B:=w0.1.size) a0.out ak.out.at (by omega) a2 rfl rfl rfl rfl rfl ?_;intro ah Z J W a1 K L M;have aj:Hid (bI w w0.1.size v W (.slice Z ah.length J) ah):=bI.from ⟨K,L,M⟩ y.out E.out;clear K L M))
  go_ret;rw[<-a1.out];exact⟨Z,J,rfl,aj.out⟩
theorem jI(i:Int)(b:Nat)(K:b<18446744073709551616)(t:ByteArray)(p:OA)(n c:Nat):Calls Tryz.prog 129 #[v,.agg #[.int .i64 3,.int .i64 i,.float .f64 b,.string t,.slice p n c]] w (gi w w0.1.size v (xs++Sch.le 8 (aE b))):=by
 have E:=xX hv;have J:=hb0.size;have o:Hid (Below w.1.size w (w.alloc (.cells #[.int .i64 3,.int .i64 i,.float .f64 b,.string t,.slice p n c] 77))):=xV;have y:=xX (lm v xs b K w0.1.size _ (hv.on o.out) (Nat.le_trans J o.out.size) (by omega));obtain⟨l0,A⟩:∃l0,l0=xs++Sch.le 8 (aE b):=⟨_,rfl⟩;rw[<-A] at y ⊢;clear hv hb0 A;go_enter Tryz.func129,Tryz.ntmps129;go_wp2_with fail;refine y.out.mono ?_;rintro e w1 ⟨L,I,rfl,z⟩;have D:=xX (z.from o.out E.out);clear z y;go_wp2;go_ret;exact⟨L,I,rfl,D.out⟩
theorem jp(k i:Int)(K:k=4∨k=5)(b:Nat)(t:ByteArray)(L:t.size<=1024)(p:OA)(n c:Nat):Calls Tryz.prog 129 #[v,.agg #[.int .i64 k,.int .i64 i,.float .f64 b,.string t,.slice p n c]] w (gi w w0.1.size v (xs++(Leb.put t.size++t.data.toList))):=by
 have E:=xX hv;have J:=hb0.size;have o:Hid (Below w.1.size w (w.alloc (.cells #[.int .i64 k,.int .i64 i,.float .f64 b,.string t,.slice p n c] 77))):=xV;have y:=xX (gY v xs t w0.1.size _ (hv.on o.out) (Nat.le_trans J o.out.size) (by omega) L);obtain⟨l0,A⟩:∃l0,l0=xs++(Leb.put t.size++t.data.toList):=⟨_,rfl⟩;rw[<-A] at y ⊢;clear hv hb0 A;rcases K with rfl | rfl
 all_goals
  go_enter Tryz.func129,Tryz.ntmps129;go_wp2_with fail;refine y.out.mono ?_;rintro e w1 ⟨M,I,rfl,z⟩;have D:=xX (z.from o.out E.out);clear z y;go_wp2;go_ret;exact⟨M,I,rfl,D.out⟩
theorem jo(k i:Int)(U:k=6∨k=7)(b:Nat)(t:ByteArray)(o:List V)(W:o.length<=256)(J:pn o)(p:OA)(c:Nat)(I:dG w0 p o):Calls Tryz.prog 129 #[v,.agg #[.int .i64 k,.int .i64 i,.float .f64 b,.string t,.slice p o.length c]] w (qQ w w0.1.size v xs (Leb.put o.length++(o.map Sch.vB).flatten)):=by
 have M:=xX hv;have R:=hb0.size;have y:Hid (Below w.1.size w (w.alloc (.cells #[.int .i64 k,.int .i64 i,.float .f64 b,.string t,.slice p o.length c] 77))):=xV;have z:=xX (ll o W J p c w0 _ v xs I (hb0.trans (y.out.mono R)) (hv.on y.out) hlen);obtain⟨l0,D⟩:∃l0,l0=Leb.put o.length++(o.map Sch.vB).flatten:=⟨_,rfl⟩;rw[<-D] at z ⊢;clear hv hb0 D I J;rcases U with rfl | rfl
 all_goals
  go_enter Tryz.func129,Tryz.ntmps129;go_wp2_with fail;refine z.out.mono ?_;rintro e w1 ⟨Y,X,O,E,rfl,A⟩;have L:=xX E;have K:=xX (A.from y.out M.out);clear A z E;go_wp2;go_ret;exact⟨Y,X,O,L.out,rfl,K.out⟩
end
theorem lk:∀(x:V) (d:Nat) (w0 w:World) (u:AV) (v:Value) (xs:L8),chk d x=0->x.wf->aC w0 u x->Below w0.1.size w0 w->Has w w0.1.size v xs->xs.length<=100000->Calls Tryz.prog 129 #[v,.agg u] w (qQ w w0.1.size v xs (Sch.vB x)):=by
 intro x;refine V.ind (P:=fun x=>∀(d:Nat) (w0 w:World) (u:AV) (v:Value) (xs:L8),chk d x=0->x.wf->aC w0 u x->Below w0.1.size w0 w->Has w w0.1.size v xs->xs.length<=100000->Calls Tryz.prog 129 #[v,.agg u] w (qQ w w0.1.size v xs (Sch.vB x))) ?_ x;rintro k i b t o Y d w0 w u v xs K U W hb0 hv hlen;obtain⟨p,c,rfl,a6,a5,X⟩:=W.open;obtain⟨a8,ak,aj,a9,a0⟩:=V.wf_mk.1 U;obtain⟨a1,R,E,O,-,M⟩:=Sch.chk_open K;obtain⟨a2,-,-,-,a7,Z,ah⟩:=Sch.own_open R;unfold cells5;have a4:(Sch.vH k i b t o.length).length<=1034:=Sch.vH_len E;have L:k=1∨k=2∨k=3∨(k=4∨k=5)∨(k=6∨k=7):=by omega
 rcases L with h | h | h | h | h
 ·have e:Sch.vB (.mk k i b t o)=[UInt8.ofNat i.toNat]:=by rw[Sch.vB_mk,Sch.vH,if_pos h,if_pos (.inl h),List.append_nil]
  rw[e];subst h;exact(jK hb0 hv hlen i (Z rfl) b t p o.length c).mono fun _ _ h=>ir h (by simp)
 ·have e:Sch.vB (.mk k i b t o)=Leb.put (Leb.zig i):=by rw[Sch.vB_mk,Sch.vH,if_neg (by omega),if_pos h,if_pos (.inr (.inl h)),List.append_nil]
  rw[e];subst h;exact(jJ hb0 hv hlen i ak b t p o.length c).mono fun _ _ h=>ir h (by have:=Leb.put_length_le (Leb.zig i);omega)
 ·have e:Sch.vB (.mk k i b t o)=Sch.le 8 (aE b):=by rw[Sch.vB_mk,Sch.vH,if_neg (by omega),if_neg (by omega),if_pos h,if_pos (.inr (.inr (.inl h))),List.append_nil]
  rw[e];subst h;exact(jI hb0 hv hlen i b aj t p o.length c).mono fun _ _ h=>ir h (by rw[Sch.le_len];omega)
 ·have e:Sch.vB (.mk k i b t o)=Leb.put t.size++t.data.toList:=by rw[Sch.vB_mk,Sch.vH,if_neg (by omega),if_neg (by omega),if_neg (by omega),if_pos h,if_pos (by omega),List.append_nil]
  rw[e];exact(jp hb0 hv hlen k i h b t E p o.length c).mono fun _ _ h=>ir h (by
   have:=Leb.put_length_le t.size;have a3:t.data.toList.length=t.size:=(by rw[Array.length_toList];rfl);rw[List.length_append];omega)
 ·have e:Sch.vB (.mk k i b t o)=Leb.put o.length++(o.map Sch.vB).flatten:=by
   rw[Sch.vB_mk,Sch.vH,if_neg (by omega),if_neg (by omega),if_neg (by omega),if_neg (by omega),if_neg (c:=k=1∨k=2∨k=3∨k=4∨k=5) (by omega)];congr 1;rcases h with h | h
   ·rw[if_pos h];have D:=ah h;have y:o.length=0∨o.length=1:=(by omega);rcases y with y | y
    ·rw[y,xk];rfl
    ·rw[y,xi];rfl
   ·rw[if_neg (by omega),if_pos h]
  rw[e];exact jo hb0 hv hlen k i h b t o O (fun A z w0 w u v xs I D y J=>Y A z (d+1) w0 w u v xs (M A z) (a0 A z) I D y J) p c X
end
section
open Go.RowKit
attribute [local go_sem] am
theorem mW{ops:Array Oper}{o:Oper}{a:Act}{z:Act->World->Prop}{Q:Exit->Act->World->Prop}{E:Prop}{f:FuncId}{fn:Func}{code:Code}{u:Value}{A:Ending->World->Prop}(x D:Operand)(t aj:TypeId)(R:o.guard=none)(W:o.op=Op.call { callee:=.value (.func f),args:=#[x,D],argTypes:=#[t,aj] })(Z:a.eval x=u)(ah:a.eval D=v)(O : Tryz.prog.funcs[f]?=some fn)(V : (fn.name== "runtime.NumGoroutine")=false)(hb : fn.body=some code)(K:Calls Tryz.prog f #[u,v] w A)(J:∀e w',A e w'->∃y,e=.returned y∧z (a.put o.dst y) w'):
  if Region.wanted o (yielded ops a.tmps)=true then Oper.wp Tryz.prog o a w z Q else E:=by
 have Y:Region.wanted o (yielded ops a.tmps)=true:=by simp[Region.wanted,R]
 rw[if_pos Y];have I : fn.name≠ "runtime.NumGoroutine" := by simpa using V
 unfold Oper.wp;have L:(execOp a.eval o).run Tryz.prog w=.ok (.enter f #[u,v]) w:=by
  have M:a.eval (.func f)=.func (.func f) #[] #[]:=rfl;simp[execOp,W,resolve,invoke,Z,ah,M,Deferred.ofValue,callFunc,O,I,hb]
 rw[L,Oper.upon_enter];refine K.mono ?_;intro e w' X;obtain⟨y,rfl,U⟩:=J e w' X;exact U
theorem mS(K:w.1.size=H)(D:Has w B v xs)(c:UInt8)(hlen:xs.length+1<=140737488355328)(J:B<=w.1.size){y:Int}{ops:Array Oper}{o:Oper}{a:Act}{A:Act->World->Prop}{Q:Exit->Act->World->Prop}{I:Prop}(s x:Operand)(a0:y=(c.toNat:Int))(ah:o.type=22)(U:o.guard=none)(Y:o.op=Op.call { callee:=Callee.builtin Builtin.append,args:=#[s,x],argTypes:=#[22,22] })(Z:a.eval s=v)(ak:a.eval x=.slice (some ⟨H,0,none⟩) 1 1)(L:∀q cap W z,Hid (z=xs++[c])->bI w B v W (.slice q z.length cap) z->A (a.put o.dst (.slice q z.length cap)) W):
  if Region.wanted o (yielded ops a.tmps)=true then Oper.wp Tryz.prog o a (w.alloc (.cells #[.int .u8 y] 5)) A Q else I:=by
 have aj:Region.wanted o (yielded ops a.tmps)=true:=by simp[Region.wanted,U]
 rw[if_pos aj];subst K;have hb:Below w.1.size w (w.alloc (.cells #[.int .u8 y] 5)):=xV;obtain⟨q,cap,W,⟨E⟩,X,M,-,O⟩:=i8 B v xs [c] (some ⟨w.1.size,0,none⟩) 1 _ (D.alloc _) (kH w y c a0) (by simpa using hlen) (Nat.le_trans J hb.size);unfold Oper.wp;have V:[c].length=1:=rfl;rw[V] at E;have R:(execOp a.eval o).run Tryz.prog (w.alloc (.cells #[.int .u8 y] 5))=.ok (.value (.slice q (xs++[c]).length cap)) W:=by
  simp only[execOp,Y,resolve,invoke,builtin];simp[Z,ak,ah,E,Result.andThen]
 rw[R];exact L q cap W (xs++[c]) (xX rfl) (bI.from ⟨X,M,O⟩ hb D)
theorem jL(x:Col)(w0 w:World)(u:AV)(v:Value)(xs:L8)(cv:fl w0 u x)(d0:x.wf)(dr:x.name.size<=16)(bl:Ty.check 1 x.ty=0)(b2:x.has=true->chk 1 x.dflt=0)(hb0:Below w0.1.size w0 w)(hv:Has w w0.1.size v xs)(hlen:xs.length<=90000):
    Calls Tryz.prog 95 #[v,.agg u] w fun e w'=>∃z q cap,(z=xs++Sch.cB x∨(1024<z.length∧1024<(xs++Sch.cB x).length))∧z.length<=xs.length+3000∧e=.returned (.slice q z.length cap)∧bI w w0.1.size v w' (.slice q z.length cap) z:=by
  obtain⟨k,a4,a3,a2,O,M,K,V,U,R,L,rfl,b6,hd⟩:=cv.out;obtain⟨y,a5,has,Y⟩:=x;obtain⟨cx,cy,b7⟩:=d0;dsimp only at b6 hd bl dr cx cy b7 b2;unfold av;have bX:=hb0.size;obtain⟨I,be⟩:∃I,I=w.alloc (.cells #[.string y,.int .i64 k,.slice a4 a3 a2,.bool has,.int .i64 O,.int .i64 M,.float .f64 K,.string V,.slice U R L] 79):=⟨_,rfl⟩;have X:Hid (Below w.1.size w I):=by rw[be];exact xV
  have b8:Hid (I.1[w.1.size]?=some (.cells #[.string y,.int .i64 k,.slice a4 a3 a2,.bool has,.int .i64 O,.int .i64 M,.float .f64 K,.string V,.slice U R L] 79 (0,0))):=by rw[be];exact ag w _
  have ci:=xX be;have bT:=xX hv;have d3:=xX hb0
  -- whatever grows out of v's own block leaves the copy alone
  have aj:Hid (∀W E l,bI I w0.1.size v W E l->W.1[w.1.size]?=some (.cells #[.string y,.int .i64 k,.slice a4 a3 a2,.bool has,.int .i64 O,.int .i64 M,.float .f64 K,.string V,.slice U R L] 79 (0,0))∧Below w0.1.size w0 W):=fun W E l a1=>by
    refine⟨?_,(hb0.trans (X.out.mono bX)).trans (a1.low (bT.out.on X.out) (Nat.le_trans bX X.out.size))⟩;rw[a1.aside.block _ (by have:=az b8.out;exact this) (fun df=>by have:=(bT.out.lt _ df).2;omega)];exact b8.out
  have bq:=xX (gY v xs y w0.1.size I (hv.on X.out) (Nat.le_trans bX X.out.size) (by omega) (by omega));have bs:=xX (fun w' E l (a1:bI I w0.1.size v w' E l) (b5:l.length+20<=1000000)=>mJ a5 1 w0 w' _ E l bl b6 (aj.out w' E l a1).2 a1.has b5);have a6:=xX (fun w' E l (hb:Below w0.1.size w0 w') (dp:Has w' w0.1.size E l) (b5:l.length<=100000) (dd:has=true)=>lk Y 1 w0 w' _ E l (b2 dd) b7 hd hb dp b5);have ds:y.data.toList.length=y.size:=by rw[Array.length_toList];rfl
  have dv:=Leb.put_length_le y.size;have ep:=rk bl;have a0:Hid (Sch.cB ⟨y,a5,has,Y⟩=Leb.put y.size++(y.data.toList++(Sch.tyB a5++(if has then 1 else 0)::(if has then Sch.vB Y else [])))):=rfl;obtain⟨bn,bj⟩:∃l,l=xs++(Leb.put y.size++y.data.toList):=⟨_,rfl⟩;have em:bn.length<=xs.length+26:=by rw[bj,List.length_append,List.length_append];omega
  rw[<-bj] at bq;unfold al at bs;unfold cells5 at a6;obtain⟨ck,co⟩:∃l,l=Sch.cB ⟨y,a5,has,Y⟩:=⟨_,rfl⟩;rw[<-co] at a0 ⊢;have bb:=xX bj;clear be cv b6 hd bl b2 hv hb0 bj co cx cy b7 ds dv;go_enter Tryz.func95,Tryz.ntmps95;go_wp2_with fail;rw[<-ci.out];clear ci;refine bq.out.mono ?_;rintro e w1 ⟨d1,c8,rfl,b3⟩;have bO:=xX b3;obtain⟨b0,-⟩:=aj.out _ _ _ b3;have c1:w1.cell? ⟨w.1.size,1,none⟩=some (.int .i64 k):=aa b0 1;have c2:w1.cell? ⟨w.1.size,2,none⟩=some (.slice a4 a3 a2):=aa b0 2;obtain⟨ah,bk⟩:∃l,l=bn++Sch.tyB a5:=⟨_,rfl⟩;have bN:=xX (bs.out w1 (.slice d1 bn.length c8) bn bO.out (by omega));rw[<-bk] at bN;have en:ah.length<=xs.length+31:=by rw[bk,List.length_append];omega
  have bc:=xX bk;clear b3 b0 bq bs bk;go_wp2_with fail;refine bN.out.mono ?_;rintro e w2 ⟨cw,cj,rfl,cq⟩;have a8:=xX (bO.out.trans cq);obtain⟨D,b1⟩:=aj.out _ _ _ a8.out;have c3:w2.cell? ⟨w.1.size,3,none⟩=some (.bool has):=aa D 3;have d4:=xX b1;have cn:=b1.size;have cb:=xX a8.out.has;have b9:=xX (a8.out.from X.out bT.out);clear cq c1 c2 bN bO b1;cases has with
  |false=>
    have a7:Hid (xs++ck=ah++[0]):=by
      show _=_;rw[a0.out,bc.out,bb.out];simp
    clear a6 a0 bb bc aj D
    go_wp2_with (first|(at_builtin;refine iD (B:=w0.1.size) rfl cb.out 0 (by omega) cn (by rfl) rfl rfl rfl rfl rfl ?_;intro bp bd W z ak A;have a9:=xX (b9.out.trans A);clear A))
    go_ret;refine⟨z,bp,bd,.inl ?_,?_,rfl,a9.out⟩
    · rw[a7.out,ak.out]
    · rw[ak.out,List.length_append,List.length_singleton];omega
  |true=>
    have c4:w2.cell? ⟨w.1.size,4,none⟩=some (.int .i64 O):=aa D 4;have d5:w2.cell? ⟨w.1.size,5,none⟩=some (.int .i64 M):=aa D 5;have d6:w2.cell? ⟨w.1.size,6,none⟩=some (.float .f64 K):=aa D 6;have d7:w2.cell? ⟨w.1.size,7,none⟩=some (.string V):=aa D 7;have d8:w2.cell? ⟨w.1.size,8,none⟩=some (.slice U R L):=aa D 8;have Z:∀o,(w2.alloc o).1[w.1.size]?=some (.cells #[.string y,.int .i64 k,.slice a4 a3 a2,.bool true,.int .i64 O,.int .i64 M,.float .f64 K,.string V,.slice U R L] 79 (0,0)):=fun o=>(aG w2 o (az D)).trans D;have eu:∀o,(w2.alloc o).cell? ⟨w.1.size,4,none⟩=some (.int .i64 O):=fun o=>aa (Z o) 4;have ew:∀o,(w2.alloc o).cell? ⟨w.1.size,5,none⟩=some (.int .i64 M):=fun o=>aa (Z o) 5;have ez:∀o,(w2.alloc o).cell? ⟨w.1.size,6,none⟩=some (.float .f64 K):=fun o=>aa (Z o) 6;have eC:∀o,(w2.alloc o).cell? ⟨w.1.size,7,none⟩=some (.string V):=fun o=>aa (Z o) 7;have eL:∀o,(w2.alloc o).cell? ⟨w.1.size,8,none⟩=some (.slice U R L):=fun o=>aa (Z o) 8;clear Z;have a7:Hid (xs++ck=ah++[1]++Sch.vB Y):=by
      show _=_;rw[a0.out,bc.out,bb.out];simp
    obtain⟨full,cp⟩:∃l,l=Sch.vB Y:=⟨_,rfl⟩;rw[<-cp] at a7 a6;clear a0 bb bc cp;go_wp2_with fail
    go_region_law (first
      | (refine mS (B:=w0.1.size) (xs:=ah) (v:=.slice cw ah.length cj) (w:=w2.drew) (H:=w2.1.size) (by rfl) cb.out.drew 1 (by omega) cn (.tmp 19) (.tmp 20) (by rfl) (by rfl) (by rfl) (by rfl) (by rfl) (by rfl) ?_;intro bp bd W z ak A;have b4:bI w2 w0.1.size (.slice cw ah.length cj) W (.slice bp z.length bd) z:=⟨A.has,⟨A.aside.os,A.aside.tape,A.aside.output,A.aside.size,A.aside.block⟩,A.fresh⟩;have a9:=xX (a8.out.trans b4);have c7:=xX (b9.out.trans b4);have J:=aj.out _ _ _ a9.out;have d9:W.cell? ⟨w.1.size,4,none⟩=some (.int .i64 O):=aa J.1 4;have ea:W.cell? ⟨w.1.size,5,none⟩=some (.int .i64 M):=aa J.1 5;have eb:W.cell? ⟨w.1.size,6,none⟩=some (.float .f64 K):=aa J.1 6;have ec:W.cell? ⟨w.1.size,7,none⟩=some (.string V):=aa J.1 7;have el:W.cell? ⟨w.1.size,8,none⟩=some (.slice U R L):=aa J.1 8;have c5:=xX J.2;have er:z.length<=xs.length+32:=by(rw[ak.out,List.length_append,List.length_singleton];omega)
         clear A b4 J)
      | (refine mW (.tmp 21) (.tmp 23) 22 77 (by rfl) (by rfl) (by rfl) (by rfl) Tryz.func129 (by kernel_rfl) (by rfl) (a6.out W (.slice bp z.length bd) z c5.out a9.out.has (by omega) (by first | rfl | trivial)) ?_;rintro e w4 ⟨zs,d2,c9,ct,rfl,cs⟩;refine⟨_,rfl,?_⟩;have c6:=xX (c7.out.trans cs);have cc:=xX ct;clear cs ct))
    all_goals
      go_wp2;go_ret;refine⟨zs,d2,c9,?_,?_,rfl,c6.out⟩
      · rw[a7.out,<-ak.out];exact cc.out.eq
      · have:=cc.out.len;omega
end
section
open Go.RowKit
attribute [local go_sem] am
def kR(s:List Col):L8:=if Sch.err s=0 then Sch.bytes s else []
theorem qE(s:List Col):Sch.err s=if gV s≠0 then gV s else if 1024<(Sch.bytes s).length then 2 else 0:=by
 unfold Sch.err gV;by_cases o:s.length=0
 ·rw[if_pos o,if_pos o,if_pos (by decide)]
 ·rw[if_neg o,if_neg o];by_cases y:16<s.length
  ·rw[if_pos y,if_pos y,if_pos (by decide)]
  ·rw[if_neg y,if_neg y]
theorem pe(s:List Col)(p:OA)(c:Nat)(w:World)(e7:s.length*120<=140737488351232)(bk:bw w p s)(bj:∀x∈s,x.wf):
  Calls Tryz.prog 70 #[.agg #[.slice p s.length c]] w fun e w'=>∃q cap,e=.returned (.tuple #[.slice q (kR s).length cap,.int .i64 (Sch.err s:Nat)])∧At w' q (kR s)∧(kR s).length<=cap∧Below w.1.size w w':=by
 obtain⟨R,aj⟩:∃R,R=w.alloc (.cells #[.slice p s.length c] 41):=⟨_,rfl⟩;have a1:Hid (Below w.1.size w R):=by rw[aj];exact xV
 have bX:Hid (R.cell? ⟨w.1.size,0,none⟩=some (.slice p s.length c)):=by show _=_;rw[aj];simp
 have bO:=xX aj;have d4:=xX bk;have d3:=xX bj;have J:=xX (qE s);have a4:=xX (jG s p c R (bk.on a1.out) bj);have z:Hid (kR s=if Sch.err s=0 then Sch.bytes s else []):=rfl;have Z:Hid (gV s=0->s.length<=16∧Sch.colsErr [] s=0):=fun h=>by
  unfold gV at h;split at h
  ·omega
  ·split at h
   ·omega
   ·exact⟨by omega,h⟩
 obtain⟨O,b3⟩:∃O,O=kR s:=⟨_,rfl⟩;obtain⟨K,b4⟩:∃K,K=Sch.err s:=⟨_,rfl⟩;rw[<-b3] at z ⊢;rw[<-b4] at J z ⊢;obtain⟨U,b9⟩:∃n,n=gV s:=⟨_,rfl⟩;rw[<-b9] at a4 J Z;clear aj bk bj b3 b4 b9;go_enter Tryz.func70,Tryz.ntmps70;go_wp2_with fail;rw[<-bO.out];clear bO;refine a4.out.mono ?_;rintro e w1 ⟨rfl,a9⟩;have dd:=ac a9 bX.out;have I:=xX (a1.out.trans (a9.mono a1.out.size));clear a9 a4 bX;by_cases E:¬U=0
 ·have ep:((U:Int) != 0)=true:=bz (by omega);have HR2:Hid (K=U):=by show _=_;rw[J.out,if_pos E]
  have d0:Hid (O=[]):=by show _=_;rw[z.out,HR2.out,if_neg E]
  clear E J z Z;go_wp2;go_ret2;rw[d0.out,HR2.out];exact⟨none,0,rfl,.inl rfl,xZ,I.out⟩
 replace E:U=0:=Classical.not_not.1 E
 have ep:((U:Int) != 0)=false:=cd (by omega);obtain⟨e9,W⟩:=Z.out E;have HR2:Hid (K=if 1024<(Sch.bytes s).length then 2 else 0):=by show _=_;rw[J.out,if_neg (by omega)]
 have dr:=xX W;have a6:=xX (fN s.length (by omega));have ez:=Leb.put_length_le s.length;have a3:Hid (Sch.bytes s=Leb.put s.length++(s.map Sch.cB).flatten):=rfl;obtain⟨l0,cb⟩:∃l0,l0=Leb.put s.length:=⟨_,rfl⟩;rw[<-cb] at a6 ez a3;obtain⟨ah,b6⟩:∃l,l=Sch.bytes s:=⟨_,rfl⟩;rw[<-b6] at a3 HR2 z;have fi:(s.length:Int)<=16:=by omega
 clear E J Z W cb b6;go_wp2_with fail;refine(a6.out _).mono ?_;rintro e w2 ⟨g,en,rfl,cc,bc⟩;have fx:=ac bc dd;have dv:=xX cc.has;have dp:=xX bc;clear cc bc a6 dd;have d5:Hid (l0=l0++((s.take 0).map Sch.cB).flatten):=by show _=_;simp
 go_wp2_with fail;go_loopw [5,22] (fun eU bn wr=>∃(j:Nat) (zs:L8) (q:OA) (cap:Nat),j<=s.length∧bn=.int .i64 j∧eU=.slice q zs.length cap∧zs.length<=10+j*3000∧Hid ((zs=l0++((s.take j).map Sch.cB).flatten∨(1024<zs.length∧1024<(l0++((s.take j).map Sch.cB).flatten).length))∧Has wr w1.1.size (.slice q zs.length cap) zs∧Below w1.1.size w1 wr)) (fun _ bn _=>s.length-(intOf bn).toNat);case atStart=>exact⟨0,l0,some ⟨g,0,none⟩,en,by omega,rfl,rfl,by omega,.inl d5.out,dv.out,dp.out⟩
 case round=>
  obtain⟨j,zs,q,cap,e4,rfl,rfl,fo,y⟩:=hrel;by_cases ak:j<s.length
  ·have er:Below w.1.size w wr:=I.out.trans (y.out.2.2.mono I.out.size);obtain⟨bx,fs,k,cv,ct,cs,c5,cy,cw,c8,c7,c6,cx,rfl,_,b2,cj,ck⟩:=(d4.out.on I.out).at j ak;obtain⟨d6,d7,d8,d9,ea,eb,ec,el,em⟩:=b2.on y.out.2.2;have e5:(j:Int)<(s.length:Int):=(by omega);obtain⟨l',W⟩:=Sch.colsErr_mem s [] dr.out s[j] (List.getElem_mem ak);obtain⟨cn,-,co,-,cp⟩:=Sch.col_open W;have ci:=(Sch.name_size cn).2;obtain⟨X,be⟩:∃X,X=wr.alloc (.cells #[.string s[j].name,.int .i64 k,.slice cv ct cs,.bool s[j].has,.int .i64 c5,.int .i64 cy,.float .f64 cw,.string c8,.slice c7 c6 cx] 79):=⟨_,rfl⟩;have a2:Hid (Below wr.1.size wr X):=(by rw[be];exact xV);have eC:=y.out.2.2.size;have bb:Below w1.1.size w1 X:=y.out.2.2.trans (a2.out.mono eC);have bp:=xX bb;have Y:=xX (jL s[j] w1 X _ (.slice q zs.length cap) zs ⟨k,cv,ct,cs,c5,cy,cw,c8,c7,c6,cx,rfl,cj,ck⟩ (d3.out _ (List.getElem_mem ak)) ci co (fun h=>(cp h).1) bb (y.out.2.1.on a2.out) (by omega));have bs:=xX (y.out.2.1.on a2.out);have a7:=xX (Sch.flatten_take Sch.cB s j ak);have d2:=xX (Sch.flatten_take_le Sch.cB s j);have bN:=xX y.out.1;unfold av at Y;obtain⟨b1,b8⟩:∃l,l=Sch.cB s[j]:=⟨_,rfl⟩;rw[<-b8] at Y a7;generalize s[j].name=fr at *
   generalize s[j].has=e8 at *
   have bT:=xX be;clear b2 cj ck W cn co cp ci be bb y er b8;go_wp2_with fail;rw[<-bT.out];clear bT d6 d7 d8 d9 ea eb ec el em;refine Y.out.mono ?_;rintro e c9 ⟨L,cq,b0,D,eL,rfl,bd⟩;have d1:Hid ((L=l0++((s.take (j+1)).map Sch.cB).flatten∨(1024<L.length∧1024<(l0++((s.take (j+1)).map Sch.cB).flatten).length))∧Has c9 w1.1.size (.slice cq L.length b0) L∧Below w1.1.size w1 c9):=by
    refine⟨?_,bd.has,bp.out.trans (bd.low bs.out bp.out.size)⟩;have e3:∀(A:L8),(A++b1).length=A.length+b1.length:=fun A=>List.length_append;rw[a7.out,<-List.append_assoc];rcases bN.out with o | o
    ·rw[<-o];exact D
    ·refine .inr ⟨?_,?_⟩
     ·rcases D with a8 | a8
      ·rw[a8,List.length_append];omega
      ·exact a8.1
     ·rw[List.length_append];omega
   have eS:L.length<=10+(j+1)*3000:=(by omega);clear D bd eL Y bs a7 d2 bN;go_wp2;go_roundw;case rel=>exact⟨j+1,L,cq,b0,by omega,by go_num,rfl,eS,d1.out⟩
   case measure=>simp[intOf];omega
  ·have e6:¬(j:Int)<(s.length:Int):=(by omega);have bq:Hid (Below w.1.size w wr):=I.out.trans (y.out.2.2.mono I.out.size);have D:(zs=ah∨(1024<zs.length∧1024<ah.length)):=by
    have o:=y.out.1;rw[List.take_of_length_le (by omega),<-a3.out] at o;exact o
   have ds:=xX y.out.2.1;clear y;by_cases V:1024<zs.length
   ·have eq:(1024:Int)<(zs.length:Int):=(by omega);have b7:1024<ah.length:=by
     rcases D with o | o
     ·rw[<-o];exact V
     ·exact o.2
    have M:Hid (K=2):=(by show _=_;rw[HR2.out,if_pos b7]);have a5:Hid (O=[]):=(by show _=_;rw[z.out,M.out,if_neg (by decide)]);clear D V b7 HR2 z;go_wp2;go_ret2;rw[a5.out,M.out];exact⟨none,0,rfl,.inl rfl,xZ,bq.out⟩
   ·have eq:¬(1024:Int)<(zs.length:Int):=(by omega);have bl:zs=ah:=by
     rcases D with o | o
     ·exact o
     ·exact absurd o.1 V
    have M:Hid (K=0):=(by show _=_;rw[HR2.out,if_neg (by rw[<-bl];exact V)]);have a5:Hid (O=zs):=(by show _=_;rw[z.out,M.out,if_pos rfl,bl]);obtain⟨fv,e0,ew,b5,eu⟩:=ds.out.at;injection ew with e1 _ e2;subst e1 e2;have df:=xX b5;clear D V bl HR2 z b5;go_wp2;go_ret2;rw[a5.out,M.out];exact⟨_,_,rfl,df.out,eu,bq.out⟩
end
end Go.Proofs.YtdkammppnkhhoaaGreatDoor
