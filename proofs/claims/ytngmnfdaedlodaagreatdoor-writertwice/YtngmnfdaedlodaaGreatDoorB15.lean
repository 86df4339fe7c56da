import Derived.Test.YtngmnfdaedlodaaGreatDoorC2
import Derived.Deep.RegionLaw
import Derived.Test.YtngmnfdaedlodaaGreatDoorB14
set_option maxRecDepth 100000
set_option maxHeartbeats 4000000
namespace Go.Proofs.YtngmnfdaedlodaaGreatDoor
open Go.Proofs.Tryz
open Go.Value renaming slice->I,int->U,string->mI,float->ox
open Go.IntKind renaming i64->Y
open Go.RowKit renaming Hid->O,Below->AX
open Option renaming some->F,none->N
open Go.Obj renaming cells->qj
open Go renaming World->wv,Value->AQ,Calls->AZ
open Go.Proofs.Tryz renaming prog->AW
open Go.FloatKind renaming f64->qq
open Go.Ending renaming returned->qz
variable{B H:Nat}{w w1 w2:wv}{l l0 xs:L8}{v v1:AQ}
section
open Go.RowKit
structure bD(w:wv)(B:Nat)(v:AQ)(w':wv)(v':AQ)(l:L8):Prop where
 has:Has w' B v' l
 aside:Aside (fun k=>v.ownBlock=F k) w w'
 fresh:∀k,v'.ownBlock=F k->v.ownBlock=F k∨w.1.size<=k
theorem bD.refl(h:Has w B v l):bD w B v w v l:=⟨h,Aside.refl _ _,fun _ o=>.inl o⟩
theorem bD.trans{E:AQ}{K D:L8}(h:bD w B v w1 v1 K)(k:bD w1 B v1 w2 E D):bD w B v w2 E D:=by
 have L:=h.aside.size;refine⟨k.has,h.aside.trans k.aside (fun i A J=>?_),fun i A=>?_⟩
 ·rcases h.fresh i J with o | o
  ·exact o
  ·omega
 ·rcases k.fresh i A with o | o
  ·rcases h.fresh i o with y | y
   ·exact .inl y
   ·exact .inr y
  ·exact .inr (by omega)
theorem bD.on(h:bD w B v w1 v1 l)(hb:AX w1.1.size w1 w2):bD w B v w2 v1 l :=
 ⟨h.has.on hb,h.aside.trans (af hb (fun _=>False)) (fun _ _ o=>o.elim),h.fresh⟩
theorem bD.from{w0:wv}(h:bD w0 B v w1 v1 l)(hb:AX w.1.size w w0)(_:Has w B v l0):bD w B v w1 v1 l:=by
 have D:=hb.size;refine⟨h.has,(af hb (fun k=>v.ownBlock=F k)).trans h.aside (fun _ _ y=>y),fun k A=>?_⟩;rcases h.fresh k A with o | o
 ·exact .inl o
 ·exact .inr (by omega)
theorem bD.low(h:bD w B v w1 v1 l)(o:Has w B v l0)(y:B<=w.1.size):AX B w w1:=aB h.aside o y
def gR(w:wv)(B:Nat)(v:AQ)(l:L8)(e:Ending)(w':wv):Prop:=∃q cap,e=qz (I q l.length cap)∧bD w B v w' (I q l.length cap) l
theorem iK(v:AQ)(xs:L8)(t:ByteArray)(B:Nat)(w:wv)(hv:Has w B v xs)(a6:B<=w.1.size)(be:xs.length<=1000000)(bb:t.size<=1024):
    AZ AW 115 #[v,mI t] w (gR w B v (xs++(Leb.put t.size++t.data.toList))):=by
  have o:=gQq (dA t.size (by omega));have hlen:=Leb.put_length_le t.size;obtain⟨l0,Z⟩:∃l0,l0=Leb.put t.size:=⟨_,rfl⟩;rw[<-Z] at o hlen ⊢;have bc:(t.size:Int)<=1024:=by omega
  have E:=gQq hv;clear Z hv;go_enter func115,ntmps115;go_wp2_with fail;refine(o.out _).mono ?_;rintro e w1 ⟨g,cap,rfl,ab,hb⟩;have a2:=gQq ab;have a3:=gQq (E.out.on hb);have ak:=gQq ((bD.refl E.out).on hb);have M:B<=w1.1.size:=AG a6 hb.size;clear ab hb o
  go_wp2_with (first
    | (at_builtin;refine aC (B:=B) a3.out a2.out.at (by omega) M rfl rfl rfl rfl rfl ?_;intro D a8 a5 W J y A V;have a9:D.length<=1000010:=by(rw[J.out,AU];omega)
       have a1:=gQq y;have aw:O (bD w B v W (I a8 D.length a5) D):=ak.out.trans ⟨y,A,V⟩;have a7:B<=W.1.size:=AG M A.size;clear y A V)
    | (at_builtin;refine sK (B:=B) (t:=t) a1.out (by omega) a7 rfl rfl rfl rfl rfl ?_;intro aj ah L a4 K Q S X;have a0:O (bD w B v a4 (I ah aj.length L) aj):=aw.out.trans ⟨Q,S,X⟩;clear Q S X))
  go_ret;rw[J.out,AB] at K;rw[<-K.out];exact⟨ah,L,rfl,a0.out⟩
theorem sS{x:Ty}{d:Nat}(h:Ty.check d x=0):(Sch.tyB x).length<=5:=by have:=Sch.tyB_len x d h;omega
theorem ll(w:wv)(z:Int)(c:UInt8)(A:z=(c.toNat:Int)):At (w.alloc (qj #[U .u8 z] 5)) (F ⟨w.1.size,0,N⟩) [c]:=by
 obtain⟨p,D,o,y,-⟩:=(dB (B:=0) (w:=w) [c] (C:=#[U .u8 z]) (by rw[A];rfl) (Nat.zero_le _) (by simp)).at;injection o with o;rw[o];exact y
theorem ga(Q:w.1.size=H)(D:Has w B v xs)(c:UInt8)(hlen:xs.length+1<=140737488355328)(M:B<=w.1.size){z:Int}{E:Array Oper}{rest:List Oper}{y:Oper}{a:Act}{A:Exit->Act->wv->Prop}{s x:Operand}(ak:z=(c.toNat:Int))(ab:y.type=40)(V:y.guard=N)(X:y.op=Op.call { callee:=Callee.builtin Builtin.append,args:=#[s,x],argTypes:=#[40,40] })(Z:a.eval s=v)(ah:a.eval x=I (F ⟨H,0,N⟩) 1 1)(S:∀q cap W o,O (o=xs++[c])->bD w B v W (I q o.length cap) o->wpList AW E A rest (a.put y.dst (I q o.length cap)) W):
  wpList AW E A (y::rest) a (w.alloc (qj #[U .u8 z] 5)):=by
 subst Q;have hb:AX w.1.size w (w.alloc (qj #[U .u8 z] 5)):=gQy;refine aC (D.alloc _) (ll w z c ak) (by simpa using hlen) (AG M hb.size) ab V X Z ah ?_;intro o q cap W aj J K L;exact S q cap W o aj (bD.from ⟨J,K,L⟩ hb D)
theorem nI:∀(x:Ty) (d:Nat) (w0 w:wv) (u:AV) (v:AQ) (xs:L8),Ty.check d x=0->aL w0 u x->AX w0.1.size w0 w->Has w w0.1.size v xs->xs.length+5*(5-d)<=1000000->AZ AW 116 #[v,.agg u] w (gR w w0.1.size v (xs++Sch.tyB x)):=by
  intro x;refine Ty.ind (P:=fun x=>∀(d:Nat) (w0 w:wv) (u:AV) (v:AQ) (xs:L8),Ty.check d x=0->aL w0 u x->AX w0.1.size w0 w->Has w w0.1.size v xs->xs.length+5*(5-d)<=1000000->AZ AW 116 #[v,.agg u] w (gR w w0.1.size v (xs++Sch.tyB x))) ?_ x;rintro k o bv d w0 w u v xs hd bp hb0 hv hlen;obtain⟨p,c,rfl,c5,cy,bq⟩:=bp.open;unfold ar;have a7:=hb0.size;have a6:AX w.1.size w (w.alloc (qj #[U Y k,I p o.length c] 99)):=gQy;have D:=gQq a6;have bT:=gQq hb0;have J:=gQq hv;clear a6 bp hb0 hv;obtain⟨cv,cj,bl⟩:=Sch.ty_open hd;obtain⟨ck,cn⟩:=cj;have bb:=Sch.kind_byte ⟨ck,cn⟩;obtain⟨c0,K⟩:∃c0,c0=UInt8.ofNat k.toNat:=⟨_,rfl⟩;have bj:k=(c0.toNat:Int):=by rw[K,bb];omega
  have b4:=gQq bj;have a1:=gQq (J.out.on D.out);have cc:w0.1.size<=(w.alloc (qj #[U Y k,I p o.length c] 99)).1.size:=AG a7 D.out.size;have V:O (Sch.tyB (.mk k o)=[c0]++(o.map Sch.tyB).flatten∧o.length<=1∧∀y∈o,Ty.check (d+1) y=0):=by
    show _∧_∧_;rcases bl with ⟨X,rfl⟩ | ⟨X,y,rfl,ah⟩
    · exact⟨by rw[Sch.tyB_mk,AJ X,K];rfl,by simp,fun y ah=>by cases ah⟩
    · refine⟨by rw[Sch.tyB_mk,AK X,K];simp,by simp,fun z bs=>?_⟩;rw[List.mem_singleton] at bs;rw[bs];exact ah
  have b5:O (∀j (ci:j<o.length),∃bO,aL w0 bO o[j]∧gQ w0 p j bO):=bq;have b3:=gQq bv;have aw:O (At ((w.alloc (qj #[U Y k,I p o.length c] 99)).alloc (qj #[U .u8 k] 5)) (F ⟨w.1.size+1,0,N⟩) [c0]):=by
    show At _ _ _;have:=ll (w.alloc (qj #[U Y k,I p o.length c] 99)) k c0 b4.out;simpa using this
  clear bv bq hd bj bb K bl;go_enter func116,ntmps116
  go_wp2_with (first
    | (at_builtin;refine aC (B:=w0.1.size) (l:=[c0]) (a1.out.alloc _) aw.out (by simp;omega) (AG cc (by simp)) rfl rfl rfl rfl rfl ?_;intro Q bN a5 W a3 a8 Z a9;have b1:O (bD w w0.1.size v W (I bN Q.length a5) Q):=by
         refine bD.from (w0:=(w.alloc (qj #[U Y k,I p o.length c] 99)).alloc (qj #[U .u8 k] 5)) ⟨a8,Z,a9⟩ ?_ J.out;exact D.out.alloc D.out.size _
       have c1:W.cell? ⟨w.1.size,1,N⟩=F (I p o.length c):=by
         rw[Z.cell (by simp;omega) (fun cd=>by have:=(J.out.lt _ cd).2;simp at this)];simp
       clear a8 Z a9))
  have b6:O (Q=xs++([c0]++((o.take 0).map Sch.tyB).flatten)):=by show _=_;rw[a3.out];simp
  clear a3 aw a1 c1;go_loopw [0,16] (fun cu aj wr=>∃(j:Nat) (zs:L8) (q:OA) (cap:Nat),j<=o.length∧aj=U Y j∧cu=I q zs.length cap∧O (zs=xs++([c0]++((o.take j).map Sch.tyB).flatten)∧bD w w0.1.size v wr (I q zs.length cap) zs)) (fun _ aj _=>o.length-(intOf aj).toNat);case atStart=>exact⟨0,Q,bN,a5,by omega,rfl,rfl,b6.out,b1.out⟩
  case round=>
    obtain⟨j,zs,q,cap,ci,rfl,rfl,HL⟩:=hrel;have A:AX w0.1.size w0 wr:=bT.out.trans (HL.out.2.low J.out a7);by_cases L:j<o.length
    · obtain⟨c7,bn,be⟩:=b5.out j L;obtain⟨bx,c6,cp,ct,cr,cb,rfl,_,rfl,b7,b8⟩:=(be.on A).lies;have cw:(j:Int)<(o.length:Int):=(by omega);have bi:j=0:=(by have:=V.out.2.1;omega);have co:zs.length=xs.length+1:=(by rw[HL.out.1,bi];simp);obtain⟨M,ab⟩:∃M,M=wr.alloc (qj #[U Y cp,I ct cr cb] 99):=⟨_,rfl⟩;have S:O (AX wr.1.size wr M):=(by rw[ab];exact gQy);have E:=gQq (b3.out _ (AL L) (d+1) w0 M _ (I q zs.length cap) zs (V.out.2.2 _ (AL L)) bn (A.trans (S.out.mono A.size)) (HL.out.2.has.on S.out) (by omega));have a0:=gQq (HL.out.2.on S.out);have a4:O (zs++Sch.tyB o[j]=xs++([c0]++((o.take (j+1)).map Sch.tyB).flatten)):=by
        show _=_;rw[HL.out.1,Sch.flatten_take Sch.tyB o j L];simp
      obtain⟨cq,bk⟩:∃l,l=zs++Sch.tyB o[j]:=⟨_,rfl⟩;rw[<-bk] at E a4;unfold ar at E;have a2:=gQq ab;clear bn be A HL ab bk bi co;go_wp2_with fail;rw[<-a2.out];clear a2 b7 b8;refine E.out.mono ?_;rintro e w2 ⟨cs,b9,rfl,bc⟩;have b2:=gQq (a0.out.trans bc);clear bc E a0;go_wp2;go_roundw;case rel=>exact⟨j+1,cq,cs,b9,by omega,by go_num,rfl,a4.out,b2.out⟩
      case measure=>simp[intOf];omega
    · have cx:¬(j:Int)<(o.length:Int):=(by omega);have bX:O (xs++Sch.tyB (.mk k o)=zs):=by
        show _=_;rw[HL.out.1,V.out.1,List.take_of_length_le (by omega)]
      have b0:=gQq HL.out.2;clear HL A;go_wp2;go_ret;rw[bX.out];exact⟨q,cap,rfl,b0.out⟩
theorem lW(v:AQ)(xs:L8)(b:Nat)(J:b<18446744073709551616)(B:Nat)(w:wv)(hv:Has w B v xs)(a1:B<=w.1.size)(be:xs.length<=1000000):
    AZ AW 150 #[v,ox qq b] w (gR w B v (xs++Sch.le 8 (aF b))):=by
  have L:=Sch.fixB_lt J;have V:=gQq (cN b);generalize aF b=m at *
  have D:O (kX m [] m):=⟨by simp,L,rfl⟩;have aj:=gQq hv;obtain⟨S,E,rfl,-,-⟩:=hv.at;clear L J hv;go_enter func150,ntmps150;go_wp2_with fail;refine(V.out _).mono ?_;rintro e w1 ⟨rfl,Q⟩;rw[Q];clear Q w1;go_wp2_with fail;go_loopw [0,5,8] (fun a6 a7 y wr=>∃(n:Nat) (es zs:L8) (q:OA) (cap:Nat),a6=I q zs.length cap∧a7=U .u64 n∧y=U Y es.length∧es.length<=8∧n<18446744073709551616∧O (kX m es n∧zs=xs++es∧bD w B (I S xs.length E) wr (I q zs.length cap) zs)) (fun _ _ y _=>8-(intOf y).toNat);case atStart=>exact⟨m,[],xs,S,E,rfl,rfl,rfl,by simp,D.out.2.1,D.out,by simp,bD.refl aj.out⟩
  case round=>
    obtain⟨z,es,zs,q,cap,rfl,rfl,rfl,a9,bi,o⟩:=hrel;have a2:B<=wr.1.size:=AG a1 o.out.2.2.aside.size;have aw:O (zs.length=xs.length+es.length):=(by show _=_;rw[o.out.2.1,AU]);by_cases a4:es.length<8
    · have bc:(es.length:Int)<8:=(by omega);have A:=gQq (jB o.out.1 a4);have a3:(UInt8.ofNat (z % 256)).toNat=z % 256:=(by rw[UInt8.toNat_ofNat'];omega);generalize UInt8.ofNat (z % 256)=c1 at a3 A;have ah:=gQq o.out.2.2.has
      go_wp2_with (first|(at_builtin;refine ga rfl ah.out c1 (by have:=aw.out;omega) a2 (by omega) rfl rfl rfl rfl rfl ?_;intro a5 a0 W a8 ak M;have ab:=gQq (o.out.2.2.trans M);clear M))
      go_roundw;case rel=>exact⟨z / 256,es++[c1],a8,a5,a0,rfl,by go_num,by simp,by simp;omega,by omega,A.out,by rw[ak.out,o.out.2.1,AB],ab.out⟩
      case measure=>simp[intOf];omega
    · have bb:¬(es.length:Int)<8:=(by omega);have K:Sch.le 8 m=es:=by
        rw[o.out.1.2.2,show 8-es.length=0 by omega];simp[Sch.le]
      have X:O (xs++Sch.le 8 m=zs):=(by show _=_;rw[K,o.out.2.1]);have Z:=gQq o.out.2.2;clear o K;go_wp2;go_ret;rw[X.out];exact⟨q,cap,rfl,Z.out⟩
end
section
open Go.RowKit
attribute [local go_sem] ai
structure sD(xs full ys:L8):Prop where
 eq:ys=xs++full∨(1024<ys.length∧1024<(xs++full).length)
 len:ys.length<=max xs.length 1024+1034
theorem sD.all{full:L8}(h:full.length<=1034):sD xs full (xs++full):=⟨.inl rfl,by rw[AU];omega⟩
def sE(w:wv)(B:Nat)(v:AQ)(xs full:L8)(e:Ending)(w':wv):Prop:=∃ys q cap,sD xs full ys∧e=qz (I q ys.length cap)∧bD w B v w' (I q ys.length cap) ys
theorem iT{w':wv}{full:L8}{e:Ending}(h:gR w B v (xs++full) e w')(A:full.length<=1034):sE w B v xs full e w':=by
 obtain⟨q,cap,o,y⟩:=h;exact⟨_,q,cap,sD.all A,o,y⟩
def qC(items:List V):Prop:=∀x∈items,∀(w0 w:wv) (u:AV) (v:AQ) (xs:L8),aJ w0 u x->AX w0.1.size w0 w->Has w w0.1.size v xs->xs.length<=100000->AZ AW 117 #[v,.agg u] w (sE w w0.1.size v xs (Sch.vB x))
theorem lV(items:List V)(c7:items.length<=256)(bX:qC items)(p:OA)(c:Nat)(w0 w:wv)(v:AQ)(xs:L8)(bT:fK w0 p items)(hb0:AX w0.1.size w0 w)(hv:Has w w0.1.size v xs)(hlen:xs.length<=100000):
    AZ AW 151 #[v,I p items.length c] w (sE w w0.1.size v xs (Leb.put items.length++(items.map Sch.vB).flatten)):=by
  have Z:=gQq (dA items.length (by omega));have cu:=Leb.put_length_le items.length;obtain⟨l0,bN⟩:∃l0,l0=Leb.put items.length:=⟨_,rfl⟩;rw[<-bN] at Z cu ⊢;have c8:(items.length:Int)<=256:=by omega
  have aj:=gQq hv;have cd:=gQq bT;have cc:=gQq bX;have b7:=gQq hb0;have bl:=hb0.size;obtain⟨b3,be,rfl,-,-⟩:=hv.at;clear bN hv bT bX hb0;go_enter func151,ntmps151;go_wp2_with fail;refine(Z.out _).mono ?_;rintro e w1 ⟨g,cap,rfl,bO,hb⟩;have a7:=gQq bO;have a8:=gQq (aj.out.on hb);have a6:=gQq ((bD.refl aj.out).on hb);have ct:w0.1.size<=w1.1.size:=AG bl hb.size;clear bO hb Z
  go_wp2_with (first|(at_builtin;refine aC (B:=w0.1.size) a8.out a7.out.at (by omega) ct rfl rfl rfl rfl rfl ?_;intro E b4 bi W aw bn bp bq;have b9:O (bD w w0.1.size (I b3 xs.length be) W (I b4 E.length bi) E):=a6.out.trans ⟨bn,bp,bq⟩;clear bn bp bq))
  have a9:O ((E=xs++(l0++((items.take 0).map Sch.vB).flatten)∨(1024<E.length∧1024<(xs++(l0++((items.take 0).map Sch.vB).flatten)).length))∧E.length<=max xs.length 1024+1034):=by
    refine⟨.inl ?_,?_⟩
    · rw[aw.out];simp
    · rw[aw.out,AU];omega
  clear aw a7 a8 a6;go_loopw [0,15] (fun cx a4 wr=>∃(j:Nat) (zs:L8) (q:OA) (cap:Nat),j<=items.length∧a4=U Y j∧cx=I q zs.length cap∧zs.length<=200000∧O (((zs=xs++(l0++((items.take j).map Sch.vB).flatten)∨(1024<zs.length∧1024<(xs++(l0++((items.take j).map Sch.vB).flatten)).length))∧zs.length<=max xs.length 1024+1034)∧bD w w0.1.size (I b3 xs.length be) wr (I q zs.length cap) zs)) (fun _ a4 _=>items.length-(intOf a4).toNat);case atStart=>exact⟨0,E,b4,bi,by omega,rfl,rfl,by have:=a9.out.2;omega,a9.out,b9.out⟩
  case round=>
    obtain⟨j,zs,q,cap,cy,rfl,rfl,c9,o⟩:=hrel;have D:AX w0.1.size w0 wr:=b7.out.trans (o.out.2.low aj.out bl);by_cases a1:j<items.length
    · obtain⟨dr,a3,a0⟩:=cd.out j a1;obtain⟨bx,dj,b1,b0,bk,b6,b5,b2,bj,rfl,_,rfl,ci,cj,ck,cn,co⟩:=(a0.on D).lies;have c5:(j:Int)<(items.length:Int):=(by omega);obtain⟨y,K⟩:∃y,y=wr.alloc (qj #[U Y b1,U Y b0,ox qq bk,mI b6,I b5 b2 bj] 102):=⟨_,rfl⟩;have S:O (AX wr.1.size wr y):=(by rw[K];exact gQy);have a5:O (y.cell? ⟨wr.1.size,0,N⟩=F (U Y b1)∧y.cell? ⟨wr.1.size,1,N⟩=F (U Y b0)∧y.cell? ⟨wr.1.size,2,N⟩=F (ox qq bk)∧y.cell? ⟨wr.1.size,3,N⟩=F (mI b6)∧y.cell? ⟨wr.1.size,4,N⟩=F (I b5 b2 bj)):=(by rw[K];exact⟨by simp,by simp,by simp,by simp,by simp⟩);have X:=gQq (o.out.2.on S.out);have ak:=gQq K;by_cases J:1024<zs.length
      · have cr:(1024:Int)<(zs.length:Int):=(by omega);have ab:O (sD xs (l0++(items.map Sch.vB).flatten) zs):=by
          refine⟨.inr ⟨J,?_⟩,o.out.1.2⟩;have Q:=Sch.flatten_take_le Sch.vB items j;rw[AU,AU];rcases o.out.1.1 with A | A
          · rw[A,AU,AU] at J;omega
          · have cs:=A.2;rw[AU,AU] at cs;omega
        clear a3 a0 D o K a5 J;go_wp2;go_ret;rw[<-ak.out];exact⟨zs,q,cap,ab.out,rfl,X.out⟩
      · have cr:¬(1024:Int)<(zs.length:Int):=(by omega);have M:=gQq (cc.out _ (AL a1) w0 y _ (I q zs.length cap) zs a3 (D.trans (S.out.mono D.size)) (o.out.2.has.on S.out) (by omega));unfold cells5 at M;have bb:O (zs=xs++(l0++((items.take j).map Sch.vB).flatten)):=by
          rcases o.out.1.1 with A | A
          · exact A
          · exact absurd A.1 J
        have ah:=gQq (Sch.flatten_take Sch.vB items j a1);have df:zs.length<=1024:=(by omega);obtain⟨full,bs⟩:∃l,l=Sch.vB items[j]:=⟨_,rfl⟩;rw[<-bs] at M ah;clear a3 a0 D o K J bs;go_wp2_with fail;rw[<-ak.out];clear ak ci cj ck cn co a5;refine M.out.mono ?_;rintro e w2 ⟨L,cw,cp,a2,rfl,bv⟩;have cb:=gQq (X.out.trans bv);have bc:O ((L=xs++(l0++((items.take (j+1)).map Sch.vB).flatten)∨(1024<L.length∧1024<(xs++(l0++((items.take (j+1)).map Sch.vB).flatten)).length))∧L.length<=max xs.length 1024+1034):=by
          have cq:xs++(l0++((items.take (j+1)).map Sch.vB).flatten)=zs++full:=(by rw[ah.out,bb.out];simp);rw[cq];refine⟨a2.eq,?_⟩;have:=a2.len;omega
        have cv:L.length<=200000:=(by have:=bc.out.2;omega);clear bv M X a2 ah bb;go_wp2;go_roundw;case rel=>exact⟨j+1,L,cw,cp,by omega,by go_num,rfl,cv,bc.out,cb.out⟩
        case measure=>simp[intOf];omega
    · have c6:¬(j:Int)<(items.length:Int):=(by omega);have ab:O (sD xs (l0++(items.map Sch.vB).flatten) zs):=by
        have Q:=o.out.1;rw[List.take_of_length_le (by omega)] at Q;exact⟨Q.1,Q.2⟩
      have b8:=gQq o.out.2;clear o D;go_wp2;go_ret;exact⟨zs,q,cap,ab.out,rfl,b8.out⟩
end
section
open Go.RowKit
attribute [local go_sem] ai
theorem xe:Leb.put 0=[0]:=by kernel_rfl
theorem xd:Leb.put 1=[1]:=by kernel_rfl
section
variable {w w0:wv} {v:AQ} {xs:L8} (hb0:AX w0.1.size w0 w) (hv:Has w w0.1.size v xs) (hlen:xs.length<=100000)
include hb0 hv hlen
theorem kk(i:Int)(X:i=0∨i=1)(b:Nat)(t:ByteArray)(p:OA)(n c:Nat):AZ AW 117 #[v,.agg #[U Y 1,U Y i,ox qq b,mI t,I p n c]] w (gR w w0.1.size v (xs++[UInt8.ofNat i.toNat])):=by
  obtain⟨c0,y⟩:∃c0,c0=UInt8.ofNat i.toNat:=⟨_,rfl⟩;have D:i=(c0.toNat:Int):=by rw[y,UInt8.toNat_ofNat'];omega
  have J:=gQq D;have ab:0<=i:=by omega
  have ah:i<=1:=by omega
  rw[<-y];have K:=gQq hv;have S:=hb0.size;have o:O (AX w.1.size w (w.alloc (qj #[U Y 1,U Y i,ox qq b,mI t,I p n c] 102))):=gQy;have L:=gQq (hv.on o.out);have V:w0.1.size<=(w.alloc (qj #[U Y 1,U Y i,ox qq b,mI t,I p n c] 102)).1.size:=AG S o.out.size;clear D y X hv hb0;go_enter func117,ntmps117
  go_wp2_with (first|(at_builtin;refine ga (H:=w.1.size+1) (by simp) L.out c0 (by omega) V J.out rfl rfl rfl rfl rfl ?_;intro Z Q W aj M A;have E:=gQq (A.from o.out K.out);clear A))
  go_ret;rw[<-M.out];exact⟨Z,Q,rfl,E.out⟩
theorem kj(i:Int)(A:-9223372036854775808<=i∧i<=9223372036854775807)(b:Nat)(t:ByteArray)(p:OA)(n c:Nat):AZ AW 117 #[v,.agg #[U Y 2,U Y i,ox qq b,mI t,I p n c]] w (gR w w0.1.size v (xs++Leb.put (Leb.zig i))):=by
  have ab:Leb.zig i<18446744073709551616:=by unfold Leb.zig;split <;> omega
  have J:=gQq (pJ i A.1 A.2);have o:=gQq (dA (Leb.zig i) ab);have X:=Leb.put_length_le (Leb.zig i);obtain⟨z,ah⟩:∃z,z=Leb.zig i:=⟨_,rfl⟩;rw[<-ah] at J o X ⊢;obtain⟨l0,S⟩:∃l0,l0=Leb.put z:=⟨_,rfl⟩;rw[<-S] at o X ⊢;have E:=gQq hv;have a4:=hb0.size;have D:O (AX w.1.size w (w.alloc (qj #[U Y 2,U Y i,ox qq b,mI t,I p n c] 102))):=gQy;clear A ab hv hb0 ah S;go_enter func117,ntmps117;go_wp2_with fail;refine(J.out _).mono ?_;rintro e w1 ⟨rfl,Z⟩;rw[Z];clear Z w1;go_wp2_with fail;refine(o.out _).mono ?_;rintro e w1 ⟨g,cap,rfl,V,hb⟩;have a0:=gQq V;have y:=gQq (D.out.trans (hb.mono D.out.size));have a1:=gQq (E.out.on y.out);have a3:w0.1.size<=w1.1.size:=AG a4 y.out.size;clear V hb o
  go_wp2_with (first|(at_builtin;refine aC (B:=w0.1.size) a1.out a0.out.at (by omega) a3 rfl rfl rfl rfl rfl ?_;intro ak aj K W a2 L M Q;have aw:O (bD w w0.1.size v W (I aj ak.length K) ak):=bD.from ⟨L,M,Q⟩ y.out E.out;clear L M Q))
  go_ret;rw[<-a2.out];exact⟨aj,K,rfl,aw.out⟩
theorem ki(i:Int)(b:Nat)(M:b<18446744073709551616)(t:ByteArray)(p:OA)(n c:Nat):AZ AW 117 #[v,.agg #[U Y 3,U Y i,ox qq b,mI t,I p n c]] w (gR w w0.1.size v (xs++Sch.le 8 (aF b))):=by
 have J:=gQq hv;have L:=hb0.size;have o:O (AX w.1.size w (w.alloc (qj #[U Y 3,U Y i,ox qq b,mI t,I p n c] 102))):=gQy;have y:=gQq (lW v xs b M w0.1.size _ (hv.on o.out) (AG L o.out.size) (by omega));obtain⟨l0,D⟩:∃l0,l0=xs++Sch.le 8 (aF b):=⟨_,rfl⟩;rw[<-D] at y ⊢;clear hv hb0 D;go_enter func117,ntmps117;go_wp2_with fail;refine y.out.mono ?_;rintro e w1 ⟨Q,K,rfl,A⟩;have E:=gQq (A.from o.out J.out);clear A y;go_wp2;go_ret;exact⟨Q,K,rfl,E.out⟩
theorem jQ(k i:Int)(M:k=4∨k=5)(b:Nat)(t:ByteArray)(Q:t.size<=1024)(p:OA)(n c:Nat):AZ AW 117 #[v,.agg #[U Y k,U Y i,ox qq b,mI t,I p n c]] w (gR w w0.1.size v (xs++(Leb.put t.size++t.data.toList))):=by
 have J:=gQq hv;have L:=hb0.size;have o:O (AX w.1.size w (w.alloc (qj #[U Y k,U Y i,ox qq b,mI t,I p n c] 102))):=gQy;have y:=gQq (iK v xs t w0.1.size _ (hv.on o.out) (AG L o.out.size) (by omega) Q);obtain⟨l0,D⟩:∃l0,l0=xs++(Leb.put t.size++t.data.toList):=⟨_,rfl⟩;rw[<-D] at y ⊢;clear hv hb0 D;rcases M with rfl | rfl
 all_goals
  go_enter func117,ntmps117;go_wp2_with fail;refine y.out.mono ?_;rintro e w1 ⟨S,K,rfl,A⟩;have E:=gQq (A.from o.out J.out);clear A y;go_wp2;go_ret;exact⟨S,K,rfl,E.out⟩
theorem jP(k i:Int)(Z:k=6∨k=7)(b:Nat)(t:ByteArray)(items:List V)(ab:items.length<=256)(K:qC items)(p:OA)(c:Nat)(J:fK w0 p items):AZ AW 117 #[v,.agg #[U Y k,U Y i,ox qq b,mI t,I p items.length c]] w (sE w w0.1.size v xs (Leb.put items.length++(items.map Sch.vB).flatten)):=by
 have Q:=gQq hv;have X:=hb0.size;have o:O (AX w.1.size w (w.alloc (qj #[U Y k,U Y i,ox qq b,mI t,I p items.length c] 102))):=gQy;have y:=gQq (lV items ab K p c w0 _ v xs J (hb0.trans (o.out.mono X)) (hv.on o.out) hlen);obtain⟨l0,D⟩:∃l0,l0=Leb.put items.length++(items.map Sch.vB).flatten:=⟨_,rfl⟩;rw[<-D] at y ⊢;clear hv hb0 D J K;rcases Z with rfl | rfl
 all_goals
  go_enter func117,ntmps117;go_wp2_with fail;refine y.out.mono ?_;rintro e w1 ⟨aj,ah,S,E,rfl,A⟩;have M:=gQq E;have L:=gQq (A.from o.out Q.out);clear A y E;go_wp2;go_ret;exact⟨aj,ah,S,M.out,rfl,L.out⟩
end
theorem lU:∀(x:V) (d:Nat) (w0 w:wv) (u:AV) (v:AQ) (xs:L8),chk d x=0->x.wf->aJ w0 u x->AX w0.1.size w0 w->Has w w0.1.size v xs->xs.length<=100000->AZ AW 117 #[v,.agg u] w (sE w w0.1.size v xs (Sch.vB x)):=by
 intro x;refine V.ind (P:=fun x=>∀(d:Nat) (w0 w:wv) (u:AV) (v:AQ) (xs:L8),chk d x=0->x.wf->aJ w0 u x->AX w0.1.size w0 w->Has w w0.1.size v xs->xs.length<=100000->AZ AW 117 #[v,.agg u] w (sE w w0.1.size v xs (Sch.vB x))) ?_ x;rintro k i b t items aj d w0 w u v xs L Z ab hb0 hv hlen;obtain⟨p,c,rfl,a8,a7,ah⟩:=ab.open;obtain⟨bb,a1,a0,bc,a2⟩:=V.wf_mk.1 Z;obtain⟨a3,X,E,S,-,Q⟩:=Sch.chk_open L;obtain⟨a4,-,-,-,a9,ak,aw⟩:=Sch.own_open X;unfold cells5;have a6:(Sch.vH k i b t items.length).length<=1034:=Sch.vH_len E;have M:k=1∨k=2∨k=3∨(k=4∨k=5)∨(k=6∨k=7):=by omega
 rcases M with h | h | h | h | h
 ·have e:Sch.vB (.mk k i b t items)=[UInt8.ofNat i.toNat]:=by rw[Sch.vB_mk,Sch.vH,AK h,AK (.inl h),AH]
  rw[e];subst h;exact(kk hb0 hv hlen i (ak rfl) b t p items.length c).mono fun _ _ h=>iT h (by simp)
 ·have e:Sch.vB (.mk k i b t items)=Leb.put (Leb.zig i):=by rw[Sch.vB_mk,Sch.vH,AJ (by omega),AK h,AK (.inr (.inl h)),AH]
  rw[e];subst h;exact(kj hb0 hv hlen i a1 b t p items.length c).mono fun _ _ h=>iT h (by have:=Leb.put_length_le (Leb.zig i);omega)
 ·have e:Sch.vB (.mk k i b t items)=Sch.le 8 (aF b):=by rw[Sch.vB_mk,Sch.vH,AJ (by omega),AJ (by omega),AK h,AK (.inr (.inr (.inl h))),AH]
  rw[e];subst h;exact(ki hb0 hv hlen i b a0 t p items.length c).mono fun _ _ h=>iT h (by rw[Sch.le_len];omega)
 ·have e:Sch.vB (.mk k i b t items)=Leb.put t.size++t.data.toList:=by rw[Sch.vB_mk,Sch.vH,AJ (by omega),AJ (by omega),AJ (by omega),AK h,AK (by omega),AH]
  rw[e];exact(jQ hb0 hv hlen k i h b t E p items.length c).mono fun _ _ h=>iT h (by
   have:=Leb.put_length_le t.size;have a5:t.data.toList.length=t.size:=(by rw[Array.length_toList];rfl);rw[AU];omega)
 ·have e:Sch.vB (.mk k i b t items)=Leb.put items.length++(items.map Sch.vB).flatten:=by
   rw[Sch.vB_mk,Sch.vH,AJ (by omega),AJ (by omega),AJ (by omega),AJ (by omega),AJ (c:=k=1∨k=2∨k=3∨k=4∨k=5) (by omega)];congr 1;rcases h with h | h
   ·rw[AK h];have D:=aw h;have o:items.length=0∨items.length=1:=(by omega);rcases o with o | o
    ·rw[o,xe];rfl
    ·rw[o,xd];rfl
   ·rw[AJ (by omega),AK h]
  rw[e];exact jP hb0 hv hlen k i h b t items S (fun A y w0 w u v xs J D o K=>aj A y (d+1) w0 w u v xs (Q A y) (a2 A y) J D o K) p c ah
end
section
open Go.RowKit
attribute [local go_sem] ai
theorem oe{A:Array Oper}{o:Oper}{a:Act}{y:Act->wv->Prop}{J:Exit->Act->wv->Prop}{E:Prop}{f:FuncId}{fn:Func}{code:Code}{u:AQ}{R:Ending->wv->Prop}(x D:Operand)(t a1:TypeId)(X:o.guard=N)(ah:o.op=Op.call { callee:=.value (.func f),args:=#[x,D],argTypes:=#[t,a1] })(aw:a.eval x=u)(a0:a.eval D=v)(V : Tryz.prog.funcs[f]?=F fn)(ab : (fn.name== "runtime.NumGoroutine")=false)(hb : fn.body=F code)(M:AZ AW f #[u,v] w R)(L:∀e w',R e w'->∃z,e=qz z∧y (a.put o.dst z) w'):
  if Region.wanted o (yielded A a.tmps)=true then Oper.wp AW o a w y J else E:=by
 have ak:Region.wanted o (yielded A a.tmps)=true:=by simp[Region.wanted,X]
 rw[AK ak];have K : fn.name≠ "runtime.NumGoroutine" := by simpa using ab
 unfold Oper.wp;have Q:(execOp a.eval o).run AW w=.ok (.enter f #[u,v]) w:=by
  have S:a.eval (.func f)=.func (.func f) #[] #[]:=rfl;simp[execOp,ah,resolve,invoke,aw,a0,S,Deferred.ofValue,callFunc,V,K,hb]
 rw[Q,Oper.upon_enter];refine M.mono ?_;intro e w' aj;obtain⟨z,rfl,Z⟩:=L e w' aj;exact Z
theorem jf(Q:w.1.size=H)(D:Has w B v xs)(c:UInt8)(hlen:xs.length+1<=140737488355328)(M:B<=w.1.size){z:Int}{J:Array Oper}{o:Oper}{a:Act}{A:Act->wv->Prop}{L:Exit->Act->wv->Prop}{K:Prop}(s x:Operand)(a3:z=(c.toNat:Int))(a0:o.type=40)(ab:o.guard=N)(ak:o.op=Op.call { callee:=Callee.builtin Builtin.append,args:=#[s,x],argTypes:=#[40,40] })(aw:a.eval s=v)(a2:a.eval x=I (F ⟨H,0,N⟩) 1 1)(S:∀q cap W y,O (y=xs++[c])->bD w B v W (I q y.length cap) y->A (a.put o.dst (I q y.length cap)) W):
  if Region.wanted o (yielded J a.tmps)=true then Oper.wp AW o a (w.alloc (qj #[U .u8 z] 5)) A L else K:=by
 have a1:Region.wanted o (yielded J a.tmps)=true:=by simp[Region.wanted,ab]
 rw[AK a1];subst Q;have hb:AX w.1.size w (w.alloc (qj #[U .u8 z] 5)):=gQy;obtain⟨q,cap,W,⟨E⟩,aj,V,-,X⟩:=eU B v xs [c] (F ⟨w.1.size,0,N⟩) 1 _ (D.alloc _) (ll w z c a3) (by simpa using hlen) (AG M hb.size);unfold Oper.wp;have ah:[c].length=1:=rfl;rw[ah] at E;have Z:(execOp a.eval o).run AW (w.alloc (qj #[U .u8 z] 5))=.ok (.value (I q (xs++[c]).length cap)) W:=by
  simp only[execOp,ak,resolve,invoke,builtin];simp[aw,a2,a0,E,Result.andThen]
 rw[Z];exact S q cap W (xs++[c]) (gQq rfl) (bD.from ⟨aj,V,X⟩ hb D)
theorem kl(x:Col)(w0 w:wv)(u:AV)(v:AQ)(xs:L8)(cs:fg w0 u x)(ds:x.wf)(df:x.name.size<=16)(bn:Ty.check 1 x.ty=0)(b2:x.has=true->chk 1 x.dflt=0)(hb0:AX w0.1.size w0 w)(hv:Has w w0.1.size v xs)(hlen:xs.length<=90000):
    AZ AW 87 #[v,.agg u] w fun e w'=>∃A q cap,(A=xs++Sch.cB x∨(1024<A.length∧1024<(xs++Sch.cB x).length))∧A.length<=xs.length+3000∧e=qz (I q A.length cap)∧bD w w0.1.size v w' (I q A.length cap) A:=by
  obtain⟨k,a5,a4,a3,S,Q,L,Z,X,V,M,rfl,b6,hd⟩:=cs.out;obtain⟨y,a6,has,ah⟩:=x;obtain⟨cu,cv,b7⟩:=ds;dsimp only at b6 hd bn df cu cv b7 b2;unfold aA;have bX:=hb0.size;obtain⟨J,bj⟩:∃J,J=w.alloc (qj #[mI y,U Y k,I a5 a4 a3,.bool has,U Y S,U Y Q,ox qq L,mI Z,I X V M] 104):=⟨_,rfl⟩;have ab:O (AX w.1.size w J):=by rw[bj];exact gQy
  have b8:O (J.1[w.1.size]?=F (qj #[mI y,U Y k,I a5 a4 a3,.bool has,U Y S,U Y Q,ox qq L,mI Z,I X V M] 104 (0,0))):=by rw[bj];exact am w _
  have cd:=gQq bj;have bT:=gQq hv;have d0:=gQq hb0
  -- whatever grows out of v's own block leaves the copy alone
  have aw:O (∀W v' l,bD J w0.1.size v W v' l->W.1[w.1.size]?=F (qj #[mI y,U Y k,I a5 a4 a3,.bool has,U Y S,U Y Q,ox qq L,mI Z,I X V M] 104 (0,0))∧AX w0.1.size w0 W):=fun W v' l a2=>by
    refine⟨?_,(hb0.trans (ab.out.mono bX)).trans (a2.low (bT.out.on ab.out) (AG bX ab.out.size))⟩;rw[a2.aside.block _ (by have:=ao b8.out;exact this) (fun c8=>by have:=(bT.out.lt _ c8).2;omega)];exact b8.out
  have bs:=gQq (iK v xs y w0.1.size J (hv.on ab.out) (AG bX ab.out.size) (by omega) (by omega));have bv:=gQq (fun w' v' l (a2:bD J w0.1.size v w' v' l) (b5:l.length+20<=1000000)=>nI a6 1 w0 w' _ v' l bn b6 (aw.out w' v' l a2).2 a2.has b5);have a7:=gQq (fun w' v' l (hb:AX w0.1.size w0 w') (c9:Has w' w0.1.size v' l) (b5:l.length<=100000) (c7:has=true)=>lU ah 1 w0 w' _ v' l (b2 c7) b7 hd hb c9 b5);have dj:y.data.toList.length=y.size:=by rw[Array.length_toList];rfl
  have dr:=Leb.put_length_le y.size;have eg:=sS bn;have a1:O (Sch.cB ⟨y,a6,has,ah⟩=Leb.put y.size++(y.data.toList++(Sch.tyB a6++(if has then 1 else 0)::(if has then Sch.vB ah else [])))):=rfl;obtain⟨bp,bk⟩:∃l,l=xs++(Leb.put y.size++y.data.toList):=⟨_,rfl⟩;have eb:bp.length<=xs.length+26:=by rw[bk,AU,AU];omega
  rw[<-bk] at bs;unfold ar at bv;unfold cells5 at a7;obtain⟨cj,cn⟩:∃l,l=Sch.cB ⟨y,a6,has,ah⟩:=⟨_,rfl⟩;rw[<-cn] at a1 ⊢;have bc:=gQq bk;clear bj cs b6 hd bn b2 hv hb0 bk cn cu cv b7 dj dr;go_enter func87,ntmps87;go_wp2_with fail;rw[<-cd.out];clear cd;refine bs.out.mono ?_;rintro e w1 ⟨du,c5,rfl,b3⟩;have bO:=gQq b3;obtain⟨b0,-⟩:=aw.out _ _ _ b3;have c1:w1.cell? ⟨w.1.size,1,N⟩=F (U Y k):=aa b0 1;have c2:w1.cell? ⟨w.1.size,2,N⟩=F (I a5 a4 a3):=aa b0 2;obtain⟨ak,bl⟩:∃l,l=bp++Sch.tyB a6:=⟨_,rfl⟩;have bN:=gQq (bv.out w1 (I du bp.length c5) bp bO.out (by omega));rw[<-bl] at bN;have ec:ak.length<=xs.length+31:=by rw[bl,AU];omega
  have be:=gQq bl;clear b3 b0 bs bv bl;go_wp2_with fail;refine bN.out.mono ?_;rintro e w2 ⟨ct,ci,rfl,cp⟩;have a9:=gQq (bO.out.trans cp);obtain⟨E,b1⟩:=aw.out _ _ _ a9.out;have c3:w2.cell? ⟨w.1.size,3,N⟩=F (.bool has):=aa E 3;have d1:=gQq b1;have ck:=b1.size;have cb:=gQq a9.out.has;have b9:=gQq (a9.out.from ab.out bT.out);clear cp c1 c2 bN bO b1;cases has with
  |false=>
    have a8:O (xs++cj=ak++[0]):=by
      show _=_;rw[a1.out,be.out,bc.out];simp
    clear a7 a1 bc be aw E
    go_wp2_with (first|(at_builtin;refine ga (B:=w0.1.size) rfl cb.out 0 (by omega) ck (by rfl) rfl rfl rfl rfl rfl ?_;intro bq bi W A a0 D;have bb:=gQq (b9.out.trans D);clear D))
    go_ret;refine⟨A,bq,bi,.inl ?_,?_,rfl,bb.out⟩
    · rw[a8.out,a0.out]
    · rw[a0.out,AU,AC];omega
  |true=>
    have c4:w2.cell? ⟨w.1.size,4,N⟩=F (U Y S):=aa E 4;have d2:w2.cell? ⟨w.1.size,5,N⟩=F (U Y Q):=aa E 5;have d3:w2.cell? ⟨w.1.size,6,N⟩=F (ox qq L):=aa E 6;have d4:w2.cell? ⟨w.1.size,7,N⟩=F (mI Z):=aa E 7;have d5:w2.cell? ⟨w.1.size,8,N⟩=F (I X V M):=aa E 8;have aj:∀o,(w2.alloc o).1[w.1.size]?=F (qj #[mI y,U Y k,I a5 a4 a3,.bool true,U Y S,U Y Q,ox qq L,mI Z,I X V M] 104 (0,0)):=fun o=>(ax w2 o (ao E)).trans E;have em:∀o,(w2.alloc o).cell? ⟨w.1.size,4,N⟩=F (U Y S):=fun o=>aa (aj o) 4;have en:∀o,(w2.alloc o).cell? ⟨w.1.size,5,N⟩=F (U Y Q):=fun o=>aa (aj o) 5;have ep:∀o,(w2.alloc o).cell? ⟨w.1.size,6,N⟩=F (ox qq L):=fun o=>aa (aj o) 6;have er:∀o,(w2.alloc o).cell? ⟨w.1.size,7,N⟩=F (mI Z):=fun o=>aa (aj o) 7;have ev:∀o,(w2.alloc o).cell? ⟨w.1.size,8,N⟩=F (I X V M):=fun o=>aa (aj o) 8;clear aj;have a8:O (xs++cj=ak++[1]++Sch.vB ah):=by
      show _=_;rw[a1.out,be.out,bc.out];simp
    obtain⟨full,co⟩:∃l,l=Sch.vB ah:=⟨_,rfl⟩;rw[<-co] at a8 a7;clear a1 bc be co;go_wp2_with fail
    go_region_law (first
      | (refine jf (B:=w0.1.size) (xs:=ak) (v:=I ct ak.length ci) (w:=w2.drew) (H:=w2.1.size) (by rfl) cb.out.drew 1 (by omega) ck (.tmp 19) (.tmp 20) (by rfl) (by rfl) (by rfl) (by rfl) (by rfl) (by rfl) ?_;intro bq bi W A a0 D;have b4:bD w2 w0.1.size (I ct ak.length ci) W (I bq A.length bi) A:=⟨D.has,⟨D.aside.os,D.aside.tape,D.aside.output,D.aside.size,D.aside.block⟩,D.fresh⟩;have bb:=gQq (a9.out.trans b4);have cy:=gQq (b9.out.trans b4);have K:=aw.out _ _ _ bb.out;have d6:W.cell? ⟨w.1.size,4,N⟩=F (U Y S):=aa K.1 4;have d7:W.cell? ⟨w.1.size,5,N⟩=F (U Y Q):=aa K.1 5;have d8:W.cell? ⟨w.1.size,6,N⟩=F (ox qq L):=aa K.1 6;have d9:W.cell? ⟨w.1.size,7,N⟩=F (mI Z):=aa K.1 7;have ea:W.cell? ⟨w.1.size,8,N⟩=F (I X V M):=aa K.1 8;have cw:=gQq K.2;have el:A.length<=xs.length+32:=by(rw[a0.out,AU,AC];omega)
         clear D b4 K)
      | (refine oe (.tmp 21) (.tmp 23) 40 102 (by rfl) (by rfl) (by rfl) (by rfl) func117 (by kernel_rfl) (by rfl) (a7.out W (I bq A.length bi) A cw.out bb.out.has (by omega) (by first | rfl | trivial)) ?_;rintro e w4 ⟨zs,dv,c6,cr,rfl,cq⟩;refine⟨_,rfl,?_⟩;have cx:=gQq (cy.out.trans cq);have cc:=gQq cr;clear cq cr))
    all_goals
      go_wp2;go_ret;refine⟨zs,dv,c6,?_,?_,rfl,cx.out⟩
      · rw[a8.out,<-a0.out];exact cc.out.eq
      · have:=cc.out.len;omega
end
section
open Go.RowKit
attribute [local go_sem] ai
def encB(s:List Col):L8:=if Sch.err s=0 then Sch.bytes s else []
theorem r9(s:List Col):Sch.err s=if iH s≠0 then iH s else if 1024<(Sch.bytes s).length then 2 else 0:=by
 unfold Sch.err iH;by_cases o:s.length=0
 ·rw[AK o,AK o,AK (by decide)]
 ·rw[AJ o,AJ o];by_cases y:16<s.length
  ·rw[AK y,AK y,AK (by decide)]
  ·rw[AJ y,AJ y]
theorem i8(s:List Col)(p:OA)(c:Nat)(w:wv)(e6:s.length*120<=140737488351232)(bn:cT w p s)(bl:∀x∈s,x.wf):
  AZ AW 60 #[.agg #[I p s.length c]] w fun e w'=>∃q cap,e=qz (.tuple #[I q (encB s).length cap,U Y (Sch.err s:Nat)])∧At w' q (encB s)∧(encB s).length<=cap∧AX w.1.size w w':=by
 obtain⟨V,a0⟩:∃V,V=w.alloc (qj #[I p s.length c] 35):=⟨_,rfl⟩;have a3:O (AX w.1.size w V):=by rw[a0];exact gQy
 have b0:O (V.cell? ⟨w.1.size,0,N⟩=F (I p s.length c)):=by show _=_;rw[a0];simp
 have bT:=gQq a0;have d2:=gQq bn;have d1:=gQq bl;have L:=gQq (r9 s);have a6:=gQq (kg s p c V (bn.on a3.out) bl);have HEnc:O (encB s=if Sch.err s=0 then Sch.bytes s else []):=rfl;have ak:O (iH s=0->s.length<=16∧Sch.colsErr [] s=0):=fun h=>by
  unfold iH at h;split at h
  ·omega
  ·split at h
   ·omega
   ·exact⟨by omega,h⟩
 obtain⟨S,b4⟩:∃S,S=encB s:=⟨_,rfl⟩;obtain⟨R,b5⟩:∃R,R=Sch.err s:=⟨_,rfl⟩;rw[<-b4] at HEnc ⊢;rw[<-b5] at L HEnc ⊢;obtain⟨X,cb⟩:∃n,n=iH s:=⟨_,rfl⟩;rw[<-cb] at a6 L ak;clear a0 bn bl b4 b5 cb;go_enter func60,ntmps60;go_wp2_with fail;rw[<-bT.out];clear bT;refine a6.out.mono ?_;rintro e w1 ⟨rfl,bc⟩;have c8:=ae bc b0.out;have K:=gQq (a3.out.trans (bc.mono a3.out.size));clear bc a6 b0;by_cases J:¬X=0
 ·have el:((X:Int) != 0)=true:=cE (by omega);have D:O (R=X):=by show _=_;rw[L.out,AK J]
  have du:O (S=[]):=by show _=_;rw[HEnc.out,D.out,AJ J]
  clear J L HEnc ak;go_wp2;go_ret2;rw[du.out,D.out];exact⟨N,0,rfl,.inl rfl,gQx,K.out⟩
 replace J:X=0:=Classical.not_not.1 J
 have el:((X:Int) != 0)=false:=bZ (by omega);obtain⟨e8,ab⟩:=ak.out J;have D:O (R=if 1024<(Sch.bytes s).length then 2 else 0):=by show _=_;rw[L.out,AJ (by omega)]
 have dj:=gQq ab;have a8:=gQq (dA s.length (by omega));have er:=Leb.put_length_le s.length;have a5:O (Sch.bytes s=Leb.put s.length++(s.map Sch.cB).flatten):=rfl;obtain⟨l0,cc⟩:∃l0,l0=Leb.put s.length:=⟨_,rfl⟩;rw[<-cc] at a8 er a5;obtain⟨aw,b7⟩:∃l,l=Sch.bytes s:=⟨_,rfl⟩;rw[<-b7] at a5 D HEnc;have e9:(s.length:Int)<=16:=by omega
 clear J L ak ab cc b7;go_wp2_with fail;refine(a8.out _).mono ?_;rintro e w2 ⟨g,eg,rfl,cd,bi⟩;have fs:=ae bi c8;have ds:=gQq cd.has;have df:=gQq bi;clear cd bi a8 c8;have d3:O (l0=l0++((s.take 0).map Sch.cB).flatten):=by show _=_;simp
 go_wp2_with fail;go_loopw [5,22] (fun eC bq wr=>∃(j:Nat) (zs:L8) (q:OA) (cap:Nat),j<=s.length∧bq=U Y j∧eC=I q zs.length cap∧zs.length<=10+j*3000∧O ((zs=l0++((s.take j).map Sch.cB).flatten∨(1024<zs.length∧1024<(l0++((s.take j).map Sch.cB).flatten).length))∧Has wr w1.1.size (I q zs.length cap) zs∧AX w1.1.size w1 wr)) (fun _ bq _=>s.length-(intOf bq).toNat);case atStart=>exact⟨0,l0,F ⟨g,0,N⟩,eg,by omega,rfl,rfl,by omega,.inl d3.out,ds.out,df.out⟩
 case round=>
  obtain⟨j,zs,q,cap,e3,rfl,rfl,fc,y⟩:=hrel;by_cases a1:j<s.length
  ·have en:AX w.1.size w wr:=K.out.trans (y.out.2.2.mono K.out.size);obtain⟨bx,fo,k,ct,cs,cr,cx,cw,cu,c6,c5,cy,cv,rfl,_,b3,cj,ck⟩:=(d2.out.on K.out).at j a1;obtain⟨d4,d5,d6,d7,d8,d9,ea,eb,ec⟩:=b3.on y.out.2.2;have e4:(j:Int)<(s.length:Int):=(by omega);obtain⟨l',ab⟩:=Sch.colsErr_mem s [] dj.out s[j] (AL a1);obtain⟨cn,-,co,-,cp⟩:=Sch.col_open ab;have ci:=(Sch.name_size cn).2;obtain⟨ah,bk⟩:∃ah,ah=wr.alloc (qj #[mI s[j].name,U Y k,I ct cs cr,.bool s[j].has,U Y cx,U Y cw,ox qq cu,mI c6,I c5 cy cv] 104):=⟨_,rfl⟩;have a4:O (AX wr.1.size wr ah):=(by rw[bk];exact gQy);have ev:=y.out.2.2.size;have be:AX w1.1.size w1 ah:=y.out.2.2.trans (a4.out.mono ev);have bs:=gQq be;have aj:=gQq (kl s[j] w1 ah _ (I q zs.length cap) zs ⟨k,ct,cs,cr,cx,cw,cu,c6,c5,cy,cv,rfl,cj,ck⟩ (d1.out _ (AL a1)) ci co (fun h=>(cp h).1) be (y.out.2.1.on a4.out) (by omega));have bN:=gQq (y.out.2.1.on a4.out);have a9:=gQq (Sch.flatten_take Sch.cB s j a1);have d0:=gQq (Sch.flatten_take_le Sch.cB s j);have bO:=gQq y.out.1;unfold aA at aj;obtain⟨b2,b9⟩:∃l,l=Sch.cB s[j]:=⟨_,rfl⟩;rw[<-b9] at aj a9;generalize s[j].name=fi at *
   generalize s[j].has=e7 at *
   have bX:=gQq bk;clear b3 cj ck ab cn co cp ci bk be y en b9;go_wp2_with fail;rw[<-bX.out];clear bX d4 d5 d6 d7 d8 d9 ea eb ec;refine aj.out.mono ?_;rintro e c7 ⟨M,cq,b1,E,ew,rfl,bj⟩;have dv:O ((M=l0++((s.take (j+1)).map Sch.cB).flatten∨(1024<M.length∧1024<(l0++((s.take (j+1)).map Sch.cB).flatten).length))∧Has c7 w1.1.size (I cq M.length b1) M∧AX w1.1.size w1 c7):=by
    refine⟨?_,bj.has,bs.out.trans (bj.low bN.out bs.out.size)⟩;have e0:∀(A:L8),(A++b2).length=A.length+b2.length:=fun A=>AU;rw[a9.out,<-AB];rcases bO.out with o | o
    ·rw[<-o];exact E
    ·refine .inr ⟨?_,?_⟩
     ·rcases E with bb | bb
      ·rw[bb,AU];omega
      ·exact bb.1
     ·rw[AU];omega
   have ez:M.length<=10+(j+1)*3000:=(by omega);clear E bj ew aj bN a9 d0 bO;go_wp2;go_roundw;case rel=>exact⟨j+1,M,cq,b1,by omega,by go_num,rfl,ez,dv.out⟩
   case measure=>simp[intOf];omega
  ·have e5:¬(j:Int)<(s.length:Int):=(by omega);have bv:O (AX w.1.size w wr):=K.out.trans (y.out.2.2.mono K.out.size);have E:(zs=aw∨(1024<zs.length∧1024<aw.length)):=by
    have o:=y.out.1;rw[List.take_of_length_le (by omega),<-a5.out] at o;exact o
   have dr:=gQq y.out.2.1;clear y;by_cases Z:1024<zs.length
   ·have em:(1024:Int)<(zs.length:Int):=(by omega);have b8:1024<aw.length:=by
     rcases E with o | o
     ·rw[<-o];exact Z
     ·exact o.2
    have Q:O (R=2):=(by show _=_;rw[D.out,AK b8]);have a7:O (S=[]):=(by show _=_;rw[HEnc.out,Q.out,AJ (by decide)]);clear E Z b8 D HEnc;go_wp2;go_ret2;rw[a7.out,Q.out];exact⟨N,0,rfl,.inl rfl,gQx,bv.out⟩
   ·have em:¬(1024:Int)<(zs.length:Int):=(by omega);have bp:zs=aw:=by
     rcases E with o | o
     ·exact o
     ·exact absurd o.1 Z
    have Q:O (R=0):=(by show _=_;rw[D.out,AJ (by rw[<-bp];exact Z)]);have a7:O (S=zs):=(by show _=_;rw[HEnc.out,Q.out,AK rfl,bp]);obtain⟨fq,eL,eq,b6,ep⟩:=dr.out.at;injection eq with e1 _ e2;subst e1 e2;have c9:=gQq b6;clear E Z bp D HEnc b6;go_wp2;go_ret2;rw[a7.out,Q.out];exact⟨_,_,rfl,c9.out,ep,bv.out⟩
theorem ja(s:List Col)(p:OA)(c:Nat)(w:wv)(M:s.length*120<=140737488351232)(K:cT w p s)(J:∀x∈s,x.wf):
  AZ AW 38 #[.agg #[I p s.length c]] w fun e w'=>e=qz (U Y (Sch.err s:Nat))∧AX w.1.size w w':=by
 have y:O (AX w.1.size w (w.alloc (qj #[I p s.length c] 35))):=gQy;have o:=gQq (i8 s p c _ M (K.on y.out) J);obtain⟨R,D⟩:∃R,R=Sch.err s:=⟨_,rfl⟩;rw[<-D] at o ⊢;obtain⟨Q,A⟩:∃R,R=encB s:=⟨_,rfl⟩;rw[<-A] at o;clear D A K J;go_enter func38,ntmps38;go_wp2_with fail;refine o.out.mono ?_;rintro e w2 ⟨q,cap,rfl,-,-,E⟩;have L:=gQq (y.out.trans (E.mono y.out.size));clear E o;go_wp2;go_ret;exact⟨rfl,L.out⟩
end
end Go.Proofs.YtngmnfdaedlodaaGreatDoor
