import Derived.Test.YtbahfgdbjgkklaaGreatDoorB10
import Derived.Deep.RegionLaw
import Derived.Test.YtbahfgdbjgkklaaGreatDoorB14
set_option maxRecDepth 100000
set_option maxHeartbeats 4000000
namespace Go.Proofs.YtbahfgdbjgkklaaGreatDoor
variable{B H:Nat}{w w1 w2:World}{l l0 xs:L8}{v v1:Value}
section
open Go.RowKit
structure bA(w:World)(B:Nat)(v:Value)(w':World)(v':Value)(l:L8):Prop where
 has:Has w' B v' l
 aside:Aside (fun k=>v.ownBlock=some k) w w'
 fresh:∀k,v'.ownBlock=some k->v.ownBlock=some k∨w.1.size<=k
theorem bA.refl(h:Has w B v l):bA w B v w v l:=⟨h,Aside.refl _ _,fun _ o=>.inl o⟩
theorem bA.trans{E:Value}{J D:L8}(h:bA w B v w1 v1 J)(k:bA w1 B v1 w2 E D):bA w B v w2 E D:=by
 have K:=h.aside.size;refine⟨k.has,h.aside.trans k.aside (fun i z I=>?_),fun i z=>?_⟩
 ·rcases h.fresh i I with o | o
  ·exact o
  ·omega
 ·rcases k.fresh i z with o | o
  ·rcases h.fresh i o with y | y
   ·exact .inl y
   ·exact .inr y
  ·exact .inr (by omega)
theorem bA.on(h:bA w B v w1 v1 l)(hb:Below w1.1.size w1 w2):bA w B v w2 v1 l :=
 ⟨h.has.on hb,h.aside.trans (al hb (fun _=>False)) (fun _ _ o=>o.elim),h.fresh⟩
theorem bA.from{w0:World}(h:bA w0 B v w1 v1 l)(hb:Below w.1.size w w0)(_:Has w B v l0):bA w B v w1 v1 l:=by
 have D:=hb.size;refine⟨h.has,(al hb (fun k=>v.ownBlock=some k)).trans h.aside (fun _ _ y=>y),fun k z=>?_⟩;rcases h.fresh k z with o | o
 ·exact .inl o
 ·exact .inr (by omega)
theorem bA.low(h:bA w B v w1 v1 l)(o:Has w B v l0)(y:B<=w.1.size):Below B w w1:=aB h.aside o y
def ir(w:World)(B:Nat)(v:Value)(l:L8)(e:Ending)(w':World):Prop:=∃q cap,e=.returned (.slice q l.length cap)∧bA w B v w' (.slice q l.length cap) l
theorem jd(v:Value)(xs:L8)(t:ByteArray)(B:Nat)(w:World)(hv:Has w B v xs)(a3:B<=w.1.size)(a9:xs.length<=1000000)(a7:t.size<=1024):
    Calls Tryz.prog 178 #[v,.string t] w (ir w B v (xs++(Leb.put t.size++t.data.toList))):=by
  have o:=gQq (dT t.size (by omega));have hlen:=Leb.put_length_le t.size;obtain⟨l0,U⟩:∃l0,l0=Leb.put t.size:=⟨_,rfl⟩;rw[<-U] at o hlen ⊢;have a8:(t.size:Int)<=1024:=by omega
  have E:=gQq hv;clear U hv;go_enter Tryz.func178,Tryz.ntmps178;go_wp2_with fail;refine(o.out _).mono ?_;rintro e w1 ⟨g,cap,rfl,V,hb⟩;have ak:=gQq V;have a0:=gQq (E.out.on hb);have Z:=gQq ((bA.refl E.out).on hb);have L:B<=w1.1.size:=Nat.le_trans a3 hb.size;clear V hb o
  go_wp2_with (first
    | (at_builtin;refine aE (B:=B) a0.out ak.out.at (by omega) L rfl rfl rfl rfl rfl ?_;intro D a5 a2 W I y z Q;have a6:D.length<=1000010:=by(rw[I.out,List.length_append];omega)
       have aj:=gQq y;have ab:Hid (bA w B v W (.slice a5 D.length a2) D):=Z.out.trans ⟨y,z,Q⟩;have a4:B<=W.1.size:=Nat.le_trans L z.size;clear y z Q)
    | (at_builtin;refine tv (B:=B) (t:=t) aj.out (by omega) a4 rfl rfl rfl rfl rfl ?_;intro Y X K a1 J M O S;have ah:Hid (bA w B v a1 (.slice X Y.length K) Y):=ab.out.trans ⟨M,O,S⟩;clear M O S))
  go_ret;rw[I.out,List.append_assoc] at J;rw[<-J.out];exact⟨X,K,rfl,ah.out⟩
theorem tD{x:Ty}{d:Nat}(h:Ty.check d x=0):(Sch.tyB x).length<=5:=by have:=Sch.tyB_len x d h;omega
theorem mw(w:World)(y:Int)(c:UInt8)(D:y=(c.toNat:Int)):At (w.alloc (.cells #[.int .u8 y] 5)) (some ⟨w.1.size,0,none⟩) [c]:=by
 obtain⟨p,E,o,z,-⟩:=(dC (B:=0) (w:=w) [c] (C:=#[.int .u8 y]) (by rw[D];rfl) (Nat.zero_le _) (by simp)).at;injection o with o;rw[o];exact z
theorem gI(O:w.1.size=H)(E:Has w B v xs)(c:UInt8)(hlen:xs.length+1<=140737488355328)(M:B<=w.1.size){z:Int}{I:Array Oper}{rest:List Oper}{y:Oper}{a:Act}{D:Exit->Act->World->Prop}{s x:Operand}(ab:z=(c.toNat:Int))(X:y.type=22)(S:y.guard=none)(U:y.op=Op.call { callee:=Callee.builtin Builtin.append,args:=#[s,x],argTypes:=#[22,22] })(V:a.eval s=v)(Y:a.eval x=.slice (some ⟨H,0,none⟩) 1 1)(Q:∀q cap W o,Hid (o=xs++[c])->bA w B v W (.slice q o.length cap) o->wpList Tryz.prog I D rest (a.put y.dst (.slice q o.length cap)) W):
  wpList Tryz.prog I D (y::rest) a (w.alloc (.cells #[.int .u8 z] 5)):=by
 subst O;have hb:Below w.1.size w (w.alloc (.cells #[.int .u8 z] 5)):=gQy;refine aE (E.alloc _) (mw w z c ab) (by simpa using hlen) (Nat.le_trans M hb.size) X S U V Y ?_;intro o q cap W Z J K L;exact Q q cap W o Z (bA.from ⟨J,K,L⟩ hb E)
theorem oM:∀(x:Ty) (d:Nat) (w0 w:World) (u:AV) (v:Value) (xs:L8),Ty.check d x=0->aH w0 u x->Below w0.1.size w0 w->Has w w0.1.size v xs->xs.length+5*(5-d)<=1000000->Calls Tryz.prog 179 #[v,.agg u] w (ir w w0.1.size v (xs++Sch.tyB x)):=by
  intro x;refine Ty.ind (P:=fun x=>∀(d:Nat) (w0 w:World) (u:AV) (v:Value) (xs:L8),Ty.check d x=0->aH w0 u x->Below w0.1.size w0 w->Has w w0.1.size v xs->xs.length+5*(5-d)<=1000000->Calls Tryz.prog 179 #[v,.agg u] w (ir w w0.1.size v (xs++Sch.tyB x))) ?_ x;rintro k o bq d w0 w u v xs hd bk hb0 hv hlen;obtain⟨p,c,rfl,ct,cs,bn⟩:=bk.open;unfold an;have a4:=hb0.size;have a3:Below w.1.size w (w.alloc (.cells #[.int .i64 k,.slice p o.length c] 34)):=gQy;have D:=gQq a3;have bN:=gQq hb0;have I:=gQq hv;clear a3 bk hb0 hv;obtain⟨cp,cc,bi⟩:=Sch.ty_open hd;obtain⟨cd,ce⟩:=cc;have a7:=Sch.kind_byte ⟨cd,ce⟩;obtain⟨c0,J⟩:∃c0,c0=UInt8.ofNat k.toNat:=⟨_,rfl⟩;have bc:k=(c0.toNat:Int):=by rw[J,a7];omega
  have b2:=gQq bc;have aj:=gQq (I.out.on D.out);have b9:w0.1.size<=(w.alloc (.cells #[.int .i64 k,.slice p o.length c] 34)).1.size:=Nat.le_trans a4 D.out.size;have Q:Hid (Sch.tyB (.mk k o)=[c0]++(o.map Sch.tyB).flatten∧o.length<=1∧∀Z∈o,Ty.check (d+1) Z=0):=by
    show _∧_∧_;rcases bi with ⟨S,rfl⟩ | ⟨S,Z,rfl,X⟩
    · exact⟨by rw[Sch.tyB_mk,if_neg S,J];rfl,by simp,fun Z X=>by cases X⟩
    · refine⟨by rw[Sch.tyB_mk,if_pos S,J];simp,by simp,fun z bp=>?_⟩;rw[List.mem_singleton] at bp;rw[bp];exact X
  have b3:Hid (∀j (cb:j<o.length),∃bs,aH w0 bs o[j]∧fz w0 p j bs):=bn;have b1:=gQq bq;have ab:Hid (At ((w.alloc (.cells #[.int .i64 k,.slice p o.length c] 34)).alloc (.cells #[.int .u8 k] 5)) (some ⟨w.1.size+1,0,none⟩) [c0]):=by
    show At _ _ _;have:=mw (w.alloc (.cells #[.int .i64 k,.slice p o.length c] 34)) k c0 b2.out;simpa using this
  clear bq bn hd bc a7 J bi;go_enter Tryz.func179,Tryz.ntmps179
  go_wp2_with (first
    | (at_builtin;refine aE (B:=w0.1.size) (l:=[c0]) (aj.out.alloc _) ab.out (by simp;omega) (Nat.le_trans b9 (by simp)) rfl rfl rfl rfl rfl ?_;intro M br a2 W a0 a5 U a6;have bX:Hid (bA w w0.1.size v W (.slice br M.length a2) M):=by
         refine bA.from (w0:=(w.alloc (.cells #[.int .i64 k,.slice p o.length c] 34)).alloc (.cells #[.int .u8 k] 5)) ⟨a5,U,a6⟩ ?_ I.out;exact D.out.alloc D.out.size _
       have c1:W.cell? ⟨w.1.size,1,none⟩=some (.slice p o.length c):=by
         rw[U.cell (by simp;omega) (fun ca=>by have:=(I.out.lt _ ca).2;simp at this)];simp
       clear a5 U a6))
  have b4:Hid (M=xs++([c0]++((o.take 0).map Sch.tyB).flatten)):=by show _=_;rw[a0.out];simp
  clear a0 ab aj c1;go_loopw [0,16] (fun co Y wr=>∃(j:Nat) (zs:L8) (q:OA) (cap:Nat),j<=o.length∧Y=.int .i64 j∧co=.slice q zs.length cap∧Hid (zs=xs++([c0]++((o.take j).map Sch.tyB).flatten)∧bA w w0.1.size v wr (.slice q zs.length cap) zs)) (fun _ Y _=>o.length-(intOf Y).toNat);case atStart=>exact⟨0,M,br,a2,by omega,rfl,rfl,b4.out,bX.out⟩
  case round=>
    obtain⟨j,zs,q,cap,cb,rfl,rfl,y⟩:=hrel;have hbr:Below w0.1.size w0 wr:=bN.out.trans (y.out.2.low I.out a4);by_cases K:j<o.length
    · obtain⟨cv,bj,a9⟩:=b3.out j K;obtain⟨bx,cu,cg,cn,cj,b8,rfl,_,rfl,b5,b6⟩:=(a9.on hbr).lies;have cq:(j:Int)<(o.length:Int):=(by omega);have bb:j=0:=(by have:=Q.out.2.1;omega);have cf:zs.length=xs.length+1:=(by rw[y.out.1,bb];simp);obtain⟨L,V⟩:∃L,L=wr.alloc (.cells #[.int .i64 cg,.slice cn cj b8] 34):=⟨_,rfl⟩;have O:Hid (Below wr.1.size wr L):=(by rw[V];exact gQy);have E:=gQq (b1.out _ (List.getElem_mem K) (d+1) w0 L _ (.slice q zs.length cap) zs (Q.out.2.2 _ (List.getElem_mem K)) bj (hbr.trans (O.out.mono hbr.size)) (y.out.2.has.on O.out) (by omega));have ah:=gQq (y.out.2.on O.out);have a1:Hid (zs++Sch.tyB o[j]=xs++([c0]++((o.take (j+1)).map Sch.tyB).flatten)):=by
        show _=_;rw[y.out.1,Sch.flatten_take Sch.tyB o j K];simp
      obtain⟨ci,be⟩:∃l,l=zs++Sch.tyB o[j]:=⟨_,rfl⟩;rw[<-be] at E a1;unfold an at E;have ak:=gQq V;clear bj a9 hbr y V be bb cf;go_wp2_with fail;rw[<-ak.out];clear ak b5 b6;refine E.out.mono ?_;rintro e w2 ⟨ck,b7,rfl,a8⟩;have b0:=gQq (ah.out.trans a8);clear a8 E ah;go_wp2;go_roundw;case rel=>exact⟨j+1,ci,ck,b7,by omega,by go_num,rfl,a1.out,b0.out⟩
      case measure=>simp[intOf];omega
    · have cr:¬(j:Int)<(o.length:Int):=(by omega);have bO:Hid (xs++Sch.tyB (.mk k o)=zs):=by
        show _=_;rw[y.out.1,Q.out.1,List.take_of_length_le (by omega)]
      have bT:=gQq y.out.2;clear y hbr;go_wp2;go_ret;rw[bO.out];exact⟨q,cap,rfl,bT.out⟩
theorem mW(v:Value)(xs:L8)(b:Nat)(J:b<18446744073709551616)(B:Nat)(w:World)(hv:Has w B v xs)(ak:B<=w.1.size)(bb:xs.length<=1000000):
    Calls Tryz.prog 216 #[v,.float .f64 b] w (ir w B v (xs++Sch.le 8 (ay b))):=by
  have L:=Sch.fixB_lt J;have S:=gQq (cS b);generalize ay b=m at *
  have E:Hid (lY m [] m):=⟨by simp,L,rfl⟩;have Z:=gQq hv;obtain⟨Q,I,rfl,-,-⟩:=hv.at;clear L J hv;go_enter Tryz.func216,Tryz.ntmps216;go_wp2_with fail;refine(S.out _).mono ?_;rintro e w1 ⟨rfl,O⟩;rw[O];clear O w1;go_wp2_with fail;go_loopw [0,5,8] (fun a4 a5 z wr=>∃(n:Nat) (es zs:L8) (q:OA) (cap:Nat),a4=.slice q zs.length cap∧a5=.int .u64 n∧z=.int .i64 es.length∧es.length<=8∧n<18446744073709551616∧Hid (lY m es n∧zs=xs++es∧bA w B (.slice Q xs.length I) wr (.slice q zs.length cap) zs)) (fun _ _ z _=>8-(intOf z).toNat);case atStart=>exact⟨m,[],xs,Q,I,rfl,rfl,rfl,by simp,E.out.2.1,E.out,by simp,bA.refl Z.out⟩
  case round=>
    obtain⟨y,es,zs,q,cap,rfl,rfl,rfl,a7,bc,o⟩:=hrel;have a0:B<=wr.1.size:=Nat.le_trans ak o.out.2.2.aside.size;have ah:Hid (zs.length=xs.length+es.length):=(by show _=_;rw[o.out.2.1,List.length_append]);by_cases a2:es.length<8
    · have a9:(es.length:Int)<8:=(by omega);have D:=gQq (kr o.out.1 a2);have a1:(UInt8.ofNat (y % 256)).toNat=y % 256:=(by rw[UInt8.toNat_ofNat'];omega);generalize UInt8.ofNat (y % 256)=c1 at a1 D;have Y:=gQq o.out.2.2.has
      go_wp2_with (first|(at_builtin;refine gI rfl Y.out c1 (by have:=ah.out;omega) a0 (by omega) rfl rfl rfl rfl rfl ?_;intro a3 aj W a6 ab M;have X:=gQq (o.out.2.2.trans M);clear M))
      go_roundw;case rel=>exact⟨y / 256,es++[c1],a6,a3,aj,rfl,by go_num,by simp,by simp;omega,by omega,D.out,by rw[ab.out,o.out.2.1,List.append_assoc],X.out⟩
      case measure=>simp[intOf];omega
    · have a8:¬(es.length:Int)<8:=(by omega);have K:Sch.le 8 m=es:=by
        rw[o.out.1.2.2,show 8-es.length=0 by omega];simp[Sch.le]
      have U:Hid (xs++Sch.le 8 m=zs):=(by show _=_;rw[K,o.out.2.1]);have V:=gQq o.out.2.2;clear o K;go_wp2;go_ret;rw[U.out];exact⟨q,cap,rfl,V.out⟩
end
section
open Go.RowKit
attribute [local go_sem] af
structure ti(xs full ys:L8):Prop where
 eq:ys=xs++full∨(1024<ys.length∧1024<(xs++full).length)
 len:ys.length<=max xs.length 1024+1034
theorem ti.all{full:L8}(h:full.length<=1034):ti xs full (xs++full):=⟨.inl rfl,by rw[List.length_append];omega⟩
def tl(w:World)(B:Nat)(v:Value)(xs full:L8)(e:Ending)(w':World):Prop:=∃ys q cap,ti xs full ys∧e=.returned (.slice q ys.length cap)∧bA w B v w' (.slice q ys.length cap) ys
theorem js{w':World}{full:L8}{e:Ending}(h:ir w B v (xs++full) e w')(z:full.length<=1034):tl w B v xs full e w':=by
 obtain⟨q,cap,o,y⟩:=h;exact⟨_,q,cap,ti.all z,o,y⟩
def rE(items:List V):Prop:=∀x∈items,∀(w0 w:World) (u:AV) (v:Value) (xs:L8),aJ w0 u x->Below w0.1.size w0 w->Has w w0.1.size v xs->xs.length<=100000->Calls Tryz.prog 180 #[v,.agg u] w (tl w w0.1.size v xs (Sch.vB x))
theorem mV(items:List V)(cv:items.length<=256)(bO:rE items)(p:OA)(c:Nat)(w0 w:World)(v:Value)(xs:L8)(bN:dm w0 p items)(hb0:Below w0.1.size w0 w)(hv:Has w w0.1.size v xs)(hlen:xs.length<=100000):
    Calls Tryz.prog 217 #[v,.slice p items.length c] w (tl w w0.1.size v xs (Leb.put items.length++(items.map Sch.vB).flatten)):=by
  have S:=gQq (dT items.length (by omega));have co:=Leb.put_length_le items.length;obtain⟨l0,br⟩:∃l0,l0=Leb.put items.length:=⟨_,rfl⟩;rw[<-br] at S co ⊢;have cw:(items.length:Int)<=256:=by omega
  have Y:=gQq hv;have ca:=gQq bN;have b9:=gQq bO;have b5:=gQq hb0;have bi:=hb0.size;obtain⟨b1,a9,rfl,-,-⟩:=hv.at;clear br hv bN bO hb0;go_enter Tryz.func217,Tryz.ntmps217;go_wp2_with fail;refine(S.out _).mono ?_;rintro e w1 ⟨g,cap,rfl,bs,hb⟩;have a4:=gQq bs;have a5:=gQq (Y.out.on hb);have a3:=gQq ((bA.refl Y.out).on hb);have cn:w0.1.size<=w1.1.size:=Nat.le_trans bi hb.size;clear bs hb S
  go_wp2_with (first|(at_builtin;refine aE (B:=w0.1.size) a5.out a4.out.at (by omega) cn rfl rfl rfl rfl rfl ?_;intro E b2 bb W ab bj bk bn;have b7:Hid (bA w w0.1.size (.slice b1 xs.length a9) W (.slice b2 E.length bb) E):=a3.out.trans ⟨bj,bk,bn⟩;clear bj bk bn))
  have a6:Hid ((E=xs++(l0++((items.take 0).map Sch.vB).flatten)∨(1024<E.length∧1024<(xs++(l0++((items.take 0).map Sch.vB).flatten)).length))∧E.length<=max xs.length 1024+1034):=by
    refine⟨.inl ?_,?_⟩
    · rw[ab.out];simp
    · rw[ab.out,List.length_append];omega
  clear ab a4 a5 a3;go_loopw [0,15] (fun cr a1 wr=>∃(j:Nat) (zs:L8) (q:OA) (cap:Nat),j<=items.length∧a1=.int .i64 j∧cr=.slice q zs.length cap∧zs.length<=200000∧Hid (((zs=xs++(l0++((items.take j).map Sch.vB).flatten)∨(1024<zs.length∧1024<(xs++(l0++((items.take j).map Sch.vB).flatten)).length))∧zs.length<=max xs.length 1024+1034)∧bA w w0.1.size (.slice b1 xs.length a9) wr (.slice q zs.length cap) zs)) (fun _ a1 _=>items.length-(intOf a1).toNat);case atStart=>exact⟨0,E,b2,bb,by omega,rfl,rfl,by have:=a6.out.2;omega,a6.out,b7.out⟩
  case round=>
    obtain⟨j,zs,q,cap,cs,rfl,rfl,cx,o⟩:=hrel;have D:Below w0.1.size w0 wr:=b5.out.trans (o.out.2.low Y.out bi);by_cases aj:j<items.length
    · obtain⟨c6,a0,ah⟩:=ca.out j aj;obtain⟨bx,c5,bX,bT,be,b4,b3,b0,bc,rfl,_,rfl,cb,cc,cd,ce,cf⟩:=(ah.on D).lies;have ct:(j:Int)<(items.length:Int):=(by omega);obtain⟨y,J⟩:∃y,y=wr.alloc (.cells #[.int .i64 bX,.int .i64 bT,.float .f64 be,.string b4,.slice b3 b0 bc] 38):=⟨_,rfl⟩;have O:Hid (Below wr.1.size wr y):=(by rw[J];exact gQy);have a2:Hid (y.cell? ⟨wr.1.size,0,none⟩=some (.int .i64 bX)∧y.cell? ⟨wr.1.size,1,none⟩=some (.int .i64 bT)∧y.cell? ⟨wr.1.size,2,none⟩=some (.float .f64 be)∧y.cell? ⟨wr.1.size,3,none⟩=some (.string b4)∧y.cell? ⟨wr.1.size,4,none⟩=some (.slice b3 b0 bc)):=(by rw[J];exact⟨by simp,by simp,by simp,by simp,by simp⟩);have Q:=gQq (o.out.2.on O.out);have Z:=gQq J;by_cases I:1024<zs.length
      · have cj:(1024:Int)<(zs.length:Int):=(by omega);have U:Hid (ti xs (l0++(items.map Sch.vB).flatten) zs):=by
          refine⟨.inr ⟨I,?_⟩,o.out.1.2⟩;have M:=Sch.flatten_take_le Sch.vB items j;rw[List.length_append,List.length_append];rcases o.out.1.1 with z | z
          · rw[z,List.length_append,List.length_append] at I;omega
          · have ck:=z.2;rw[List.length_append,List.length_append] at ck;omega
        clear a0 ah D o J a2 I;go_wp2;go_ret;rw[<-Z.out];exact⟨zs,q,cap,U.out,rfl,Q.out⟩
      · have cj:¬(1024:Int)<(zs.length:Int):=(by omega);have L:=gQq (b9.out _ (List.getElem_mem aj) w0 y _ (.slice q zs.length cap) zs a0 (D.trans (O.out.mono D.size)) (o.out.2.has.on O.out) (by omega));unfold cells5 at L;have a7:Hid (zs=xs++(l0++((items.take j).map Sch.vB).flatten)):=by
          rcases o.out.1.1 with z | z
          · exact z
          · exact absurd z.1 I
        have X:=gQq (Sch.flatten_take Sch.vB items j aj);have cy:zs.length<=1024:=(by omega);obtain⟨full,bp⟩:∃l,l=Sch.vB items[j]:=⟨_,rfl⟩;rw[<-bp] at L X;clear a0 ah D o J I bp;go_wp2_with fail;rw[<-Z.out];clear Z cb cc cd ce cf a2;refine L.out.mono ?_;rintro e w2 ⟨K,cq,cg,ak,rfl,bq⟩;have b8:=gQq (Q.out.trans bq);have a8:Hid ((K=xs++(l0++((items.take (j+1)).map Sch.vB).flatten)∨(1024<K.length∧1024<(xs++(l0++((items.take (j+1)).map Sch.vB).flatten)).length))∧K.length<=max xs.length 1024+1034):=by
          have ci:xs++(l0++((items.take (j+1)).map Sch.vB).flatten)=zs++full:=(by rw[X.out,a7.out];simp);rw[ci];refine⟨ak.eq,?_⟩;have:=ak.len;omega
        have cp:K.length<=200000:=(by have:=a8.out.2;omega);clear bq L Q ak X a7;go_wp2;go_roundw;case rel=>exact⟨j+1,K,cq,cg,by omega,by go_num,rfl,cp,a8.out,b8.out⟩
        case measure=>simp[intOf];omega
    · have cu:¬(j:Int)<(items.length:Int):=(by omega);have U:Hid (ti xs (l0++(items.map Sch.vB).flatten) zs):=by
        have M:=o.out.1;rw[List.take_of_length_le (by omega)] at M;exact⟨M.1,M.2⟩
      have b6:=gQq o.out.2;clear o D;go_wp2;go_ret;exact⟨zs,q,cap,U.out,rfl,b6.out⟩
end
section
open Go.RowKit
attribute [local go_sem] af
theorem xI:Leb.put 0=[0]:=by kernel_rfl
theorem xH:Leb.put 1=[1]:=by kernel_rfl
section
variable {w w0:World} {v:Value} {xs:L8} (hb0:Below w0.1.size w0 w) (hv:Has w w0.1.size v xs) (hlen:xs.length<=100000)
include hb0 hv hlen
theorem k6(i:Int)(S:i=0∨i=1)(b:Nat)(t:ByteArray)(p:OA)(n c:Nat):Calls Tryz.prog 180 #[v,.agg #[.int .i64 1,.int .i64 i,.float .f64 b,.string t,.slice p n c]] w (ir w w0.1.size v (xs++[UInt8.ofNat i.toNat])):=by
  obtain⟨c0,y⟩:∃c0,c0=UInt8.ofNat i.toNat:=⟨_,rfl⟩;have D:i=(c0.toNat:Int):=by rw[y,UInt8.toNat_ofNat'];omega
  have I:=gQq D;have V:0<=i:=by omega
  have X:i<=1:=by omega
  rw[<-y];have J:=gQq hv;have O:=hb0.size;have o:Hid (Below w.1.size w (w.alloc (.cells #[.int .i64 1,.int .i64 i,.float .f64 b,.string t,.slice p n c] 38))):=gQy;have K:=gQq (hv.on o.out);have Q:w0.1.size<=(w.alloc (.cells #[.int .i64 1,.int .i64 i,.float .f64 b,.string t,.slice p n c] 38)).1.size:=Nat.le_trans O o.out.size;clear D y S hv hb0;go_enter Tryz.func180,Tryz.ntmps180
  go_wp2_with (first|(at_builtin;refine gI (H:=w.1.size+1) (by simp) K.out c0 (by omega) Q I.out rfl rfl rfl rfl rfl ?_;intro U M W Y L z;have E:=gQq (z.from o.out J.out);clear z))
  go_ret;rw[<-L.out];exact⟨U,M,rfl,E.out⟩
theorem kZ(i:Int)(z:-9223372036854775808<=i∧i<=9223372036854775807)(b:Nat)(t:ByteArray)(p:OA)(n c:Nat):Calls Tryz.prog 180 #[v,.agg #[.int .i64 2,.int .i64 i,.float .f64 b,.string t,.slice p n c]] w (ir w w0.1.size v (xs++Leb.put (Leb.zig i))):=by
  have X:Leb.zig i<18446744073709551616:=by unfold Leb.zig;split <;> omega
  have J:=gQq (qA i z.1 z.2);have o:=gQq (dT (Leb.zig i) X);have U:=Leb.put_length_le (Leb.zig i);obtain⟨D,Y⟩:∃D,D=Leb.zig i:=⟨_,rfl⟩;rw[<-Y] at J o U ⊢;obtain⟨l0,Q⟩:∃l0,l0=Leb.put D:=⟨_,rfl⟩;rw[<-Q] at o U ⊢;have I:=gQq hv;have a2:=hb0.size;have E:Hid (Below w.1.size w (w.alloc (.cells #[.int .i64 2,.int .i64 i,.float .f64 b,.string t,.slice p n c] 38))):=gQy;clear z X hv hb0 Y Q;go_enter Tryz.func180,Tryz.ntmps180;go_wp2_with fail;refine(J.out _).mono ?_;rintro e w1 ⟨rfl,V⟩;rw[V];clear V w1;go_wp2_with fail;refine(o.out _).mono ?_;rintro e w1 ⟨g,cap,rfl,S,hb⟩;have aj:=gQq S;have y:=gQq (E.out.trans (hb.mono E.out.size));have ak:=gQq (I.out.on y.out);have a1:w0.1.size<=w1.1.size:=Nat.le_trans a2 y.out.size;clear S hb o
  go_wp2_with (first|(at_builtin;refine aE (B:=w0.1.size) ak.out aj.out.at (by omega) a1 rfl rfl rfl rfl rfl ?_;intro ab Z K W a0 L M O;have ah:Hid (bA w w0.1.size v W (.slice Z ab.length K) ab):=bA.from ⟨L,M,O⟩ y.out I.out;clear L M O))
  go_ret;rw[<-a0.out];exact⟨Z,K,rfl,ah.out⟩
theorem kY(i:Int)(b:Nat)(L:b<18446744073709551616)(t:ByteArray)(p:OA)(n c:Nat):Calls Tryz.prog 180 #[v,.agg #[.int .i64 3,.int .i64 i,.float .f64 b,.string t,.slice p n c]] w (ir w w0.1.size v (xs++Sch.le 8 (ay b))):=by
 have I:=gQq hv;have K:=hb0.size;have o:Hid (Below w.1.size w (w.alloc (.cells #[.int .i64 3,.int .i64 i,.float .f64 b,.string t,.slice p n c] 38))):=gQy;have y:=gQq (mW v xs b L w0.1.size _ (hv.on o.out) (Nat.le_trans K o.out.size) (by omega));obtain⟨l0,D⟩:∃l0,l0=xs++Sch.le 8 (ay b):=⟨_,rfl⟩;rw[<-D] at y ⊢;clear hv hb0 D;go_enter Tryz.func180,Tryz.ntmps180;go_wp2_with fail;refine y.out.mono ?_;rintro e w1 ⟨M,J,rfl,z⟩;have E:=gQq (z.from o.out I.out);clear z y;go_wp2;go_ret;exact⟨M,J,rfl,E.out⟩
theorem kF(k i:Int)(L:k=4∨k=5)(b:Nat)(t:ByteArray)(M:t.size<=1024)(p:OA)(n c:Nat):Calls Tryz.prog 180 #[v,.agg #[.int .i64 k,.int .i64 i,.float .f64 b,.string t,.slice p n c]] w (ir w w0.1.size v (xs++(Leb.put t.size++t.data.toList))):=by
 have I:=gQq hv;have K:=hb0.size;have o:Hid (Below w.1.size w (w.alloc (.cells #[.int .i64 k,.int .i64 i,.float .f64 b,.string t,.slice p n c] 38))):=gQy;have y:=gQq (jd v xs t w0.1.size _ (hv.on o.out) (Nat.le_trans K o.out.size) (by omega) M);obtain⟨l0,D⟩:∃l0,l0=xs++(Leb.put t.size++t.data.toList):=⟨_,rfl⟩;rw[<-D] at y ⊢;clear hv hb0 D;rcases L with rfl | rfl
 all_goals
  go_enter Tryz.func180,Tryz.ntmps180;go_wp2_with fail;refine y.out.mono ?_;rintro e w1 ⟨O,J,rfl,z⟩;have E:=gQq (z.from o.out I.out);clear z y;go_wp2;go_ret;exact⟨O,J,rfl,E.out⟩
theorem kE(k i:Int)(S:k=6∨k=7)(b:Nat)(t:ByteArray)(items:List V)(U:items.length<=256)(J:rE items)(p:OA)(c:Nat)(I:dm w0 p items):Calls Tryz.prog 180 #[v,.agg #[.int .i64 k,.int .i64 i,.float .f64 b,.string t,.slice p items.length c]] w (tl w w0.1.size v xs (Leb.put items.length++(items.map Sch.vB).flatten)):=by
 have M:=gQq hv;have Q:=hb0.size;have o:Hid (Below w.1.size w (w.alloc (.cells #[.int .i64 k,.int .i64 i,.float .f64 b,.string t,.slice p items.length c] 38))):=gQy;have y:=gQq (mV items U J p c w0 _ v xs I (hb0.trans (o.out.mono Q)) (hv.on o.out) hlen);obtain⟨l0,D⟩:∃l0,l0=Leb.put items.length++(items.map Sch.vB).flatten:=⟨_,rfl⟩;rw[<-D] at y ⊢;clear hv hb0 D I J;rcases S with rfl | rfl
 all_goals
  go_enter Tryz.func180,Tryz.ntmps180;go_wp2_with fail;refine y.out.mono ?_;rintro e w1 ⟨X,W,O,E,rfl,z⟩;have L:=gQq E;have K:=gQq (z.from o.out M.out);clear z y E;go_wp2;go_ret;exact⟨X,W,O,L.out,rfl,K.out⟩
end
theorem mU:∀(x:V) (d:Nat) (w0 w:World) (u:AV) (v:Value) (xs:L8),chk d x=0->x.wf->aJ w0 u x->Below w0.1.size w0 w->Has w w0.1.size v xs->xs.length<=100000->Calls Tryz.prog 180 #[v,.agg u] w (tl w w0.1.size v xs (Sch.vB x)):=by
 intro x;refine V.ind (P:=fun x=>∀(d:Nat) (w0 w:World) (u:AV) (v:Value) (xs:L8),chk d x=0->x.wf->aJ w0 u x->Below w0.1.size w0 w->Has w w0.1.size v xs->xs.length<=100000->Calls Tryz.prog 180 #[v,.agg u] w (tl w w0.1.size v xs (Sch.vB x))) ?_ x;rintro k i b t items X d w0 w u v xs K S U hb0 hv hlen;obtain⟨p,c,rfl,a4,a3,W⟩:=U.open;obtain⟨a6,ah,ab,a7,aj⟩:=V.wf_mk.1 S;obtain⟨ak,Q,E,O,-,M⟩:=Sch.chk_open K;obtain⟨a0,-,-,-,a5,Y,Z⟩:=Sch.own_open Q;unfold cells5;have a2:(Sch.vH k i b t items.length).length<=1034:=Sch.vH_len E;have L:k=1∨k=2∨k=3∨(k=4∨k=5)∨(k=6∨k=7):=by omega
 rcases L with h | h | h | h | h
 ·have e:Sch.vB (.mk k i b t items)=[UInt8.ofNat i.toNat]:=by rw[Sch.vB_mk,Sch.vH,if_pos h,if_pos (.inl h),List.append_nil]
  rw[e];subst h;exact(k6 hb0 hv hlen i (Y rfl) b t p items.length c).mono fun _ _ h=>js h (by simp)
 ·have e:Sch.vB (.mk k i b t items)=Leb.put (Leb.zig i):=by rw[Sch.vB_mk,Sch.vH,if_neg (by omega),if_pos h,if_pos (.inr (.inl h)),List.append_nil]
  rw[e];subst h;exact(kZ hb0 hv hlen i ah b t p items.length c).mono fun _ _ h=>js h (by have:=Leb.put_length_le (Leb.zig i);omega)
 ·have e:Sch.vB (.mk k i b t items)=Sch.le 8 (ay b):=by rw[Sch.vB_mk,Sch.vH,if_neg (by omega),if_neg (by omega),if_pos h,if_pos (.inr (.inr (.inl h))),List.append_nil]
  rw[e];subst h;exact(kY hb0 hv hlen i b ab t p items.length c).mono fun _ _ h=>js h (by rw[Sch.le_len];omega)
 ·have e:Sch.vB (.mk k i b t items)=Leb.put t.size++t.data.toList:=by rw[Sch.vB_mk,Sch.vH,if_neg (by omega),if_neg (by omega),if_neg (by omega),if_pos h,if_pos (by omega),List.append_nil]
  rw[e];exact(kF hb0 hv hlen k i h b t E p items.length c).mono fun _ _ h=>js h (by
   have:=Leb.put_length_le t.size;have a1:t.data.toList.length=t.size:=(by rw[Array.length_toList];rfl);rw[List.length_append];omega)
 ·have e:Sch.vB (.mk k i b t items)=Leb.put items.length++(items.map Sch.vB).flatten:=by
   rw[Sch.vB_mk,Sch.vH,if_neg (by omega),if_neg (by omega),if_neg (by omega),if_neg (by omega),if_neg (c:=k=1∨k=2∨k=3∨k=4∨k=5) (by omega)];congr 1;rcases h with h | h
   ·rw[if_pos h];have D:=Z h;have o:items.length=0∨items.length=1:=(by omega);rcases o with o | o
    ·rw[o,xI];rfl
    ·rw[o,xH];rfl
   ·rw[if_neg (by omega),if_pos h]
  rw[e];exact kE hb0 hv hlen k i h b t items O (fun z y w0 w u v xs I D o J=>X z y (d+1) w0 w u v xs (M z y) (aj z y) I D o J) p c W
end
section
open Go.RowKit
attribute [local go_sem] af
theorem pq{D:Array Oper}{o:Oper}{a:Act}{z:Act->World->Prop}{J:Exit->Act->World->Prop}{I:Prop}{f:FuncId}{fn:Func}{code:Code}{u:Value}{R:Ending->World->Prop}(x E:Operand)(t aj:TypeId)(U:o.guard=none)(X:o.op=Op.call { callee:=.value (.func f),args:=#[x,E],argTypes:=#[t,aj] })(ab:a.eval x=u)(ah:a.eval E=v)(S : Tryz.prog.funcs[f]?=some fn)(W : (fn.name== "runtime.NumGoroutine")=false)(hb : fn.body=some code)(M:Calls Tryz.prog f #[u,v] w R)(L:∀e w',R e w'->∃y,e=.returned y∧z (a.put o.dst y) w'):
  if Region.wanted o (yielded D a.tmps)=true then Oper.wp Tryz.prog o a w z J else I:=by
 have Z:Region.wanted o (yielded D a.tmps)=true:=by simp[Region.wanted,U]
 rw[if_pos Z];have K : fn.name≠ "runtime.NumGoroutine" := by simpa using W
 unfold Oper.wp;have O:(execOp a.eval o).run Tryz.prog w=.ok (.enter f #[u,v]) w:=by
  have Q:a.eval (.func f)=.func (.func f) #[] #[]:=rfl;simp[execOp,X,resolve,invoke,ab,ah,Q,Deferred.ofValue,callFunc,S,K,hb]
 rw[O,Oper.upon_enter];refine M.mono ?_;intro e w' Y;obtain⟨y,rfl,V⟩:=L e w' Y;exact V
theorem jI(O:w.1.size=H)(E:Has w B v xs)(c:UInt8)(hlen:xs.length+1<=140737488355328)(M:B<=w.1.size){y:Int}{J:Array Oper}{o:Oper}{a:Act}{D:Act->World->Prop}{L:Exit->Act->World->Prop}{K:Prop}(s x:Operand)(a1:y=(c.toNat:Int))(aj:o.type=22)(X:o.guard=none)(ab:o.op=Op.call { callee:=Callee.builtin Builtin.append,args:=#[s,x],argTypes:=#[22,22] })(ah:a.eval s=v)(a0:a.eval x=.slice (some ⟨H,0,none⟩) 1 1)(Q:∀q cap W z,Hid (z=xs++[c])->bA w B v W (.slice q z.length cap) z->D (a.put o.dst (.slice q z.length cap)) W):
  if Region.wanted o (yielded J a.tmps)=true then Oper.wp Tryz.prog o a (w.alloc (.cells #[.int .u8 y] 5)) D L else K:=by
 have ak:Region.wanted o (yielded J a.tmps)=true:=by simp[Region.wanted,X]
 rw[if_pos ak];subst O;have hb:Below w.1.size w (w.alloc (.cells #[.int .u8 y] 5)):=gQy;obtain⟨q,cap,W,⟨I⟩,Z,S,-,U⟩:=eL B v xs [c] (some ⟨w.1.size,0,none⟩) 1 _ (E.alloc _) (mw w y c a1) (by simpa using hlen) (Nat.le_trans M hb.size);unfold Oper.wp;have Y:[c].length=1:=rfl;rw[Y] at I;have V:(execOp a.eval o).run Tryz.prog (w.alloc (.cells #[.int .u8 y] 5))=.ok (.value (.slice q (xs++[c]).length cap)) W:=by
  simp only[execOp,ab,resolve,invoke,builtin];simp[ah,a0,aj,I,Result.andThen]
 rw[V];exact Q q cap W (xs++[c]) (gQq rfl) (bA.from ⟨Z,S,U⟩ hb E)
theorem k7(x:Col)(w0 w:World)(u:AV)(v:Value)(xs:L8)(ck:iv w0 u x)(c7:x.wf)(cy:x.name.size<=16)(bj:Ty.check 1 x.ty=0)(b0:x.has=true->chk 1 x.dflt=0)(hb0:Below w0.1.size w0 w)(hv:Has w w0.1.size v xs)(hlen:xs.length<=90000):
    Calls Tryz.prog 108 #[v,.agg u] w fun e w'=>∃z q cap,(z=xs++Sch.cB x∨(1024<z.length∧1024<(xs++Sch.cB x).length))∧z.length<=xs.length+3000∧e=.returned (.slice q z.length cap)∧bA w w0.1.size v w' (.slice q z.length cap) z:=by
  obtain⟨k,a2,a1,a0,O,M,K,U,S,Q,L,rfl,b4,hd⟩:=ck.out;obtain⟨y,a3,has,X⟩:=x;obtain⟨co,cp,b5⟩:=c7;dsimp only at b4 hd bj cy co cp b5 b0;unfold av;have bO:=hb0.size;obtain⟨I,bc⟩:∃I,I=w.alloc (.cells #[.string y,.int .i64 k,.slice a2 a1 a0,.bool has,.int .i64 O,.int .i64 M,.float .f64 K,.string U,.slice S Q L] 40):=⟨_,rfl⟩;have V:Hid (Below w.1.size w I):=by rw[bc];exact gQy
  have b6:Hid (I.1[w.1.size]?=some (.cells #[.string y,.int .i64 k,.slice a2 a1 a0,.bool has,.int .i64 O,.int .i64 M,.float .f64 K,.string U,.slice S Q L] 40 (0,0))):=by rw[bc];exact am w _
  have ca:=gQq bc;have bN:=gQq hv;have da:=gQq hb0
  -- whatever grows out of v's own block leaves the copy alone
  have ab:Hid (∀W v' l,bA I w0.1.size v W v' l->W.1[w.1.size]?=some (.cells #[.string y,.int .i64 k,.slice a2 a1 a0,.bool has,.int .i64 O,.int .i64 M,.float .f64 K,.string U,.slice S Q L] 40 (0,0))∧Below w0.1.size w0 W):=fun W v' l ak=>by
    refine⟨?_,(hb0.trans (V.out.mono bO)).trans (ak.low (bN.out.on V.out) (Nat.le_trans bO V.out.size))⟩;rw[ak.aside.block _ (by have:=au b6.out;exact this) (fun cw=>by have:=(bN.out.lt _ cw).2;omega)];exact b6.out
  have bp:=gQq (jd v xs y w0.1.size I (hv.on V.out) (Nat.le_trans bO V.out.size) (by omega) (by omega));have bq:=gQq (fun w' v' l (ak:bA I w0.1.size v w' v' l) (b3:l.length+20<=1000000)=>oM a3 1 w0 w' _ v' l bj b4 (ab.out w' v' l ak).2 ak.has b3);have a4:=gQq (fun w' v' l (hb:Below w0.1.size w0 w') (cx:Has w' w0.1.size v' l) (b3:l.length<=100000) (cv:has=true)=>mU X 1 w0 w' _ v' l (b0 cv) b5 hd hb cx b3);have c5:y.data.toList.length=y.size:=by rw[Array.length_toList];rfl
  have c6:=Leb.put_length_le y.size;have ds:=tD bj;have aj:Hid (Sch.cB ⟨y,a3,has,X⟩=Leb.put y.size++(y.data.toList++(Sch.tyB a3++(if has then 1 else 0)::(if has then Sch.vB X else [])))):=rfl;obtain⟨bk,be⟩:∃l,l=xs++(Leb.put y.size++y.data.toList):=⟨_,rfl⟩;have dp:bk.length<=xs.length+26:=by rw[be,List.length_append,List.length_append];omega
  rw[<-be] at bp;unfold an at bq;unfold cells5 at a4;obtain⟨cc,ce⟩:∃l,l=Sch.cB ⟨y,a3,has,X⟩:=⟨_,rfl⟩;rw[<-ce] at aj ⊢;have a8:=gQq be;clear bc ck b4 hd bj b0 hv hb0 be ce co cp b5 c5 c6;go_enter Tryz.func108,Tryz.ntmps108;go_wp2_with fail;rw[<-ca.out];clear ca;refine bp.out.mono ?_;rintro e w1 ⟨c8,ct,rfl,b1⟩;have bs:=gQq b1;obtain⟨bT,-⟩:=ab.out _ _ _ b1;have c1:w1.cell? ⟨w.1.size,1,none⟩=some (.int .i64 k):=aa bT 1;have c2:w1.cell? ⟨w.1.size,2,none⟩=some (.slice a2 a1 a0):=aa bT 2;obtain⟨Z,bi⟩:∃l,l=bk++Sch.tyB a3:=⟨_,rfl⟩;have br:=gQq (bq.out w1 (.slice c8 bk.length ct) bk bs.out (by omega));rw[<-bi] at br;have dr:Z.length<=xs.length+31:=by rw[bi,List.length_append];omega
  have a9:=gQq bi;clear b1 bT bp bq bi;go_wp2_with fail;refine br.out.mono ?_;rintro e w2 ⟨cn,cb,rfl,cg⟩;have a6:=gQq (bs.out.trans cg);obtain⟨E,bX⟩:=ab.out _ _ _ a6.out;have c3:w2.cell? ⟨w.1.size,3,none⟩=some (.bool has):=aa E 3;have db:=gQq bX;have cd:=bX.size;have b8:=gQq a6.out.has;have b7:=gQq (a6.out.from V.out bN.out);clear cg c1 c2 br bs bX;cases has with
  |false=>
    have a5:Hid (xs++cc=Z++[0]):=by
      show _=_;rw[aj.out,a9.out,a8.out];simp
    clear a4 aj a8 a9 ab E
    go_wp2_with (first|(at_builtin;refine gI (B:=w0.1.size) rfl b8.out 0 (by omega) cd (by rfl) rfl rfl rfl rfl rfl ?_;intro bn bb W z ah D;have a7:=gQq (b7.out.trans D);clear D))
    go_ret;refine⟨z,bn,bb,.inl ?_,?_,rfl,a7.out⟩
    · rw[a5.out,ah.out]
    · rw[ah.out,List.length_append,List.length_singleton];omega
  |true=>
    have c4:w2.cell? ⟨w.1.size,4,none⟩=some (.int .i64 O):=aa E 4;have dc:w2.cell? ⟨w.1.size,5,none⟩=some (.int .i64 M):=aa E 5;have dd:w2.cell? ⟨w.1.size,6,none⟩=some (.float .f64 K):=aa E 6;have de:w2.cell? ⟨w.1.size,7,none⟩=some (.string U):=aa E 7;have df:w2.cell? ⟨w.1.size,8,none⟩=some (.slice S Q L):=aa E 8;have Y:∀o,(w2.alloc o).1[w.1.size]?=some (.cells #[.string y,.int .i64 k,.slice a2 a1 a0,.bool true,.int .i64 O,.int .i64 M,.float .f64 K,.string U,.slice S Q L] 40 (0,0)):=fun o=>(aG w2 o (au E)).trans E;have d0:∀o,(w2.alloc o).cell? ⟨w.1.size,4,none⟩=some (.int .i64 O):=fun o=>aa (Y o) 4;have d1:∀o,(w2.alloc o).cell? ⟨w.1.size,5,none⟩=some (.int .i64 M):=fun o=>aa (Y o) 5;have d2:∀o,(w2.alloc o).cell? ⟨w.1.size,6,none⟩=some (.float .f64 K):=fun o=>aa (Y o) 6;have d3:∀o,(w2.alloc o).cell? ⟨w.1.size,7,none⟩=some (.string U):=fun o=>aa (Y o) 7;have d4:∀o,(w2.alloc o).cell? ⟨w.1.size,8,none⟩=some (.slice S Q L):=fun o=>aa (Y o) 8;clear Y;have a5:Hid (xs++cc=Z++[1]++Sch.vB X):=by
      show _=_;rw[aj.out,a9.out,a8.out];simp
    obtain⟨full,cf⟩:∃l,l=Sch.vB X:=⟨_,rfl⟩;rw[<-cf] at a5 a4;clear aj a8 a9 cf;go_wp2_with fail
    go_region_law (first
      | (refine jI (B:=w0.1.size) (xs:=Z) (v:=.slice cn Z.length cb) (w:=w2.drew) (H:=w2.1.size) (by rfl) b8.out.drew 1 (by omega) cd (.tmp 19) (.tmp 20) (by rfl) (by rfl) (by rfl) (by rfl) (by rfl) (by rfl) ?_;intro bn bb W z ah D;have b2:bA w2 w0.1.size (.slice cn Z.length cb) W (.slice bn z.length bb) z:=⟨D.has,⟨D.aside.os,D.aside.tape,D.aside.output,D.aside.size,D.aside.block⟩,D.fresh⟩;have a7:=gQq (a6.out.trans b2);have cs:=gQq (b7.out.trans b2);have J:=ab.out _ _ _ a7.out;have dh:W.cell? ⟨w.1.size,4,none⟩=some (.int .i64 O):=aa J.1 4;have di:W.cell? ⟨w.1.size,5,none⟩=some (.int .i64 M):=aa J.1 5;have dj:W.cell? ⟨w.1.size,6,none⟩=some (.float .f64 K):=aa J.1 6;have dk:W.cell? ⟨w.1.size,7,none⟩=some (.string U):=aa J.1 7;have dn:W.cell? ⟨w.1.size,8,none⟩=some (.slice S Q L):=aa J.1 8;have cq:=gQq J.2;have dv:z.length<=xs.length+32:=by(rw[ah.out,List.length_append,List.length_singleton];omega)
         clear D b2 J)
      | (refine pq (.tmp 21) (.tmp 23) 22 38 (by rfl) (by rfl) (by rfl) (by rfl) Tryz.func180 (by kernel_rfl) (by rfl) (a4.out W (.slice bn z.length bb) z cq.out a7.out.has (by omega) (by first | rfl | trivial)) ?_;rintro e w4 ⟨zs,c9,cu,cj,rfl,ci⟩;refine⟨_,rfl,?_⟩;have cr:=gQq (cs.out.trans ci);have b9:=gQq cj;clear ci cj))
    all_goals
      go_wp2;go_ret;refine⟨zs,c9,cu,?_,?_,rfl,cr.out⟩
      · rw[a5.out,<-ah.out];exact b9.out.eq
      · have:=b9.out.len;omega
end
section
open Go.RowKit
attribute [local go_sem] af
def encB(s:List Col):L8:=if Sch.err s=0 then Sch.bytes s else []
theorem lT(s:List Col):Sch.err s=if jb s≠0 then jb s else if 1024<(Sch.bytes s).length then 2 else 0:=by
 unfold Sch.err jb;by_cases o:s.length=0
 ·rw[if_pos o,if_pos o,if_pos (by decide)]
 ·rw[if_neg o,if_neg o];by_cases y:16<s.length
  ·rw[if_pos y,if_pos y,if_pos (by decide)]
  ·rw[if_neg y,if_neg y]
theorem mE(s:List Col)(p:OA)(c:Nat)(w:World)(ec:s.length*120<=140737488351232)(be:et w p s)(bc:∀x∈s,x.wf):
  Calls Tryz.prog 70 #[.agg #[.slice p s.length c]] w fun e w'=>∃q cap,e=.returned (.tuple #[.slice q (encB s).length cap,.int .i64 (Sch.err s:Nat)])∧At w' q (encB s)∧(encB s).length<=cap∧Below w.1.size w w':=by
 obtain⟨Q,ab⟩:∃Q,Q=w.alloc (.cells #[.slice p s.length c] 29):=⟨_,rfl⟩;have aj:Hid (Below w.1.size w Q):=by rw[ab];exact gQy
 have bN:Hid (Q.cell? ⟨w.1.size,0,none⟩=some (.slice p s.length c)):=by show _=_;rw[ab];simp
 have br:=gQq ab;have da:=gQq be;have c9:=gQq bc;have K:=gQq (lT s);have a1:=gQq (kW s p c Q (be.on aj.out) bc);have z:Hid (encB s=if Sch.err s=0 then Sch.bytes s else []):=rfl;have Y:Hid (jb s=0->s.length<=16∧Sch.colsErr [] s=0):=fun h=>by
  unfold jb at h;split at h
  ·omega
  ·split at h
   ·omega
   ·exact⟨by omega,h⟩
 obtain⟨O,b0⟩:∃O,O=encB s:=⟨_,rfl⟩;obtain⟨R,b1⟩:∃R,R=Sch.err s:=⟨_,rfl⟩;rw[<-b0] at z ⊢;rw[<-b1] at K z ⊢;obtain⟨S,b6⟩:∃n,n=jb s:=⟨_,rfl⟩;rw[<-b6] at a1 K Y;clear ab be bc b0 b1 b6;go_enter Tryz.func70,Tryz.ntmps70;go_wp2_with fail;rw[<-br.out];clear br;refine a1.out.mono ?_;rintro e w1 ⟨rfl,a6⟩;have cu:=ae a6 bN.out;have J:=gQq (aj.out.trans (a6.mono aj.out.size));clear a6 a1 bN;by_cases I:¬S=0
 ·have dr:((S:Int) != 0)=true:=aQ (by omega);have D:Hid (R=S):=by show _=_;rw[K.out,if_pos I]
  have c6:Hid (O=[]):=by show _=_;rw[z.out,D.out,if_neg I]
  clear I K z Y;go_wp2;go_ret2;rw[c6.out,D.out];exact⟨none,0,rfl,.inl rfl,gQx,J.out⟩
 replace I:S=0:=Classical.not_not.1 I
 have dr:((S:Int) != 0)=false:=bo (by omega);obtain⟨ee,V⟩:=Y.out I;have D:Hid (R=if 1024<(Sch.bytes s).length then 2 else 0):=by show _=_;rw[K.out,if_neg (by omega)]
 have cx:=gQq V;have a3:=gQq (dT s.length (by omega));have d2:=Leb.put_length_le s.length;have a0:Hid (Sch.bytes s=Leb.put s.length++(s.map Sch.cB).flatten):=rfl;obtain⟨l0,b7⟩:∃l0,l0=Leb.put s.length:=⟨_,rfl⟩;rw[<-b7] at a3 d2 a0;obtain⟨Z,b3⟩:∃l,l=Sch.bytes s:=⟨_,rfl⟩;rw[<-b3] at a0 D z;have ef:(s.length:Int)<=16:=by omega
 clear I K Y V b7 b3;go_wp2_with fail;refine(a3.out _).mono ?_;rintro e w2 ⟨g,dp,rfl,b8,a8⟩;have em:=ae a8 cu;have c5:=gQq b8.has;have cw:=gQq a8;clear b8 a8 a3 cu;have db:Hid (l0=l0++((s.take 0).map Sch.cB).flatten):=by show _=_;simp
 go_wp2_with fail;go_loopw [5,22] (fun d6 bj wr=>∃(j:Nat) (zs:L8) (q:OA) (cap:Nat),j<=s.length∧bj=.int .i64 j∧d6=.slice q zs.length cap∧zs.length<=10+j*3000∧Hid ((zs=l0++((s.take j).map Sch.cB).flatten∨(1024<zs.length∧1024<(l0++((s.take j).map Sch.cB).flatten).length))∧Has wr w1.1.size (.slice q zs.length cap) zs∧Below w1.1.size w1 wr)) (fun _ bj _=>s.length-(intOf bj).toNat);case atStart=>exact⟨0,l0,some ⟨g,0,none⟩,dp,by omega,rfl,rfl,by omega,.inl db.out,c5.out,cw.out⟩
 case round=>
  obtain⟨j,zs,q,cap,d9,rfl,rfl,eg,y⟩:=hrel;by_cases ah:j<s.length
  ·have dv:Below w.1.size w wr:=J.out.trans (y.out.2.2.mono J.out.size);obtain⟨bx,ei,k,cj,ci,cg,cp,co,ck,cs,cr,cq,cn,rfl,_,bX,ca,cb⟩:=(da.out.on J.out).at j ah;obtain⟨dc,dd,de,df,dh,di,dj,dk,dn⟩:=bX.on y.out.2.2;have ea:(j:Int)<(s.length:Int):=(by omega);obtain⟨l',V⟩:=Sch.colsErr_mem s [] cx.out s[j] (List.getElem_mem ah);obtain⟨cc,-,cd,-,ce⟩:=Sch.col_open V;have b9:=(Sch.name_size cc).2;obtain⟨W,bb⟩:∃W,W=wr.alloc (.cells #[.string s[j].name,.int .i64 k,.slice cj ci cg,.bool s[j].has,.int .i64 cp,.int .i64 co,.float .f64 ck,.string cs,.slice cr cq cn] 40):=⟨_,rfl⟩;have ak:Hid (Below wr.1.size wr W):=(by rw[bb];exact gQy);have d3:=y.out.2.2.size;have a7:Below w1.1.size w1 W:=y.out.2.2.trans (ak.out.mono d3);have bk:=gQq a7;have X:=gQq (k7 s[j] w1 W _ (.slice q zs.length cap) zs ⟨k,cj,ci,cg,cp,co,ck,cs,cr,cq,cn,rfl,ca,cb⟩ (c9.out _ (List.getElem_mem ah)) b9 cd (fun h=>(ce h).1) a7 (y.out.2.1.on ak.out) (by omega));have bp:=gQq (y.out.2.1.on ak.out);have a4:=gQq (Sch.flatten_take Sch.cB s j ah);have c8:=gQq (Sch.flatten_take_le Sch.cB s j);have bq:=gQq y.out.1;unfold av at X;obtain⟨bT,b5⟩:∃l,l=Sch.cB s[j]:=⟨_,rfl⟩;rw[<-b5] at X a4;generalize s[j].name=eh at *
   generalize s[j].has=ed at *
   have bs:=gQq bb;clear bX ca cb V cc cd ce b9 bb a7 y dv b5;go_wp2_with fail;rw[<-bs.out];clear bs dc dd de df dh di dj dk dn;refine X.out.mono ?_;rintro e ct ⟨L,cf,bO,E,d4,rfl,a9⟩;have c7:Hid ((L=l0++((s.take (j+1)).map Sch.cB).flatten∨(1024<L.length∧1024<(l0++((s.take (j+1)).map Sch.cB).flatten).length))∧Has ct w1.1.size (.slice cf L.length bO) L∧Below w1.1.size w1 ct):=by
    refine⟨?_,a9.has,bk.out.trans (a9.low bp.out bk.out.size)⟩;have d8:∀(A:L8),(A++bT).length=A.length+bT.length:=fun A=>List.length_append;rw[a4.out,<-List.append_assoc];rcases bq.out with o | o
    ·rw[<-o];exact E
    ·refine .inr ⟨?_,?_⟩
     ·rcases E with a5 | a5
      ·rw[a5,List.length_append];omega
      ·exact a5.1
     ·rw[List.length_append];omega
   have d5:L.length<=10+(j+1)*3000:=(by omega);clear E a9 d4 X bp a4 c8 bq;go_wp2;go_roundw;case rel=>exact⟨j+1,L,cf,bO,by omega,by go_num,rfl,d5,c7.out⟩
   case measure=>simp[intOf];omega
  ·have eb:¬(j:Int)<(s.length:Int):=(by omega);have bn:Hid (Below w.1.size w wr):=J.out.trans (y.out.2.2.mono J.out.size);have E:(zs=Z∨(1024<zs.length∧1024<Z.length)):=by
    have o:=y.out.1;rw[List.take_of_length_le (by omega),<-a0.out] at o;exact o
   have cy:=gQq y.out.2.1;clear y;by_cases U:1024<zs.length
   ·have ds:(1024:Int)<(zs.length:Int):=(by omega);have b4:1024<Z.length:=by
     rcases E with o | o
     ·rw[<-o];exact U
     ·exact o.2
    have M:Hid (R=2):=(by show _=_;rw[D.out,if_pos b4]);have a2:Hid (O=[]):=(by show _=_;rw[z.out,M.out,if_neg (by decide)]);clear E U b4 D z;go_wp2;go_ret2;rw[a2.out,M.out];exact⟨none,0,rfl,.inl rfl,gQx,bn.out⟩
   ·have ds:¬(1024:Int)<(zs.length:Int):=(by omega);have bi:zs=Z:=by
     rcases E with o | o
     ·exact o
     ·exact absurd o.1 U
    have M:Hid (R=0):=(by show _=_;rw[D.out,if_neg (by rw[<-bi];exact U)]);have a2:Hid (O=zs):=(by show _=_;rw[z.out,M.out,if_pos rfl,bi]);obtain⟨el,d7,d1,b2,d0⟩:=cy.out.at;injection d1 with e1 _ e2;subst e1 e2;have cv:=gQq b2;clear E U bi D z b2;go_wp2;go_ret2;rw[a2.out,M.out];exact⟨_,_,rfl,cv.out,d0,bn.out⟩
theorem rm(s:List Col)(p:OA)(c:Nat)(w:World)(L:s.length*120<=140737488351232)(J:et w p s)(I:∀x∈s,x.wf):
  Calls Tryz.prog 138 #[.agg #[.slice p s.length c]] w fun e w'=>e=.returned (.int .i64 (Sch.err s:Nat))∧Below w.1.size w w':=by
 have y:Hid (Below w.1.size w (w.alloc (.cells #[.slice p s.length c] 29))):=gQy;have o:=gQq (mE s p c _ L (J.on y.out) I);obtain⟨R,D⟩:∃R,R=Sch.err s:=⟨_,rfl⟩;rw[<-D] at o ⊢;obtain⟨M,z⟩:∃R,R=encB s:=⟨_,rfl⟩;rw[<-z] at o;clear D z J I;go_enter Tryz.func138,Tryz.ntmps138;go_wp2_with fail;refine o.out.mono ?_;rintro e w2 ⟨q,cap,rfl,-,-,E⟩;have K:=gQq (y.out.trans (E.mono y.out.size));clear E o;go_wp2;go_ret;exact⟨rfl,K.out⟩
end
end Go.Proofs.YtbahfgdbjgkklaaGreatDoor
