import Derived.Test.YtngmnfdaedlodaaGreatDoorC2
import Derived.Deep.RegionLaw
import Derived.Test.YtngmnfdaedlodaaGreatDoorB14
set_option maxRecDepth 100000
set_option maxHeartbeats 4000000
namespace Go.Proofs.YtngmnfdaedlodaaGreatDoor
open Go.Proofs.Tryz
open Go.Value renaming slice->I,int->U,string->qj,float->sq
open Go.IntKind renaming i64->Y
open Go.RowKit renaming Hid->O,Below->AC
open Option renaming some->F,none->N
open Go.Obj renaming cells->wx
open Go renaming World->AU,Value->AA,Calls->AB
open Go.Proofs.Tryz renaming prog->AE
open Go.FloatKind renaming f64->ux
open Go.Ending renaming returned->wv
variable{B H:Nat}{w w1 w2:AU}{l l0 xs:L8}{v v1:AA}
section
open Go.RowKit
structure bE(w:AU)(B:Nat)(v:AA)(w':AU)(v':AA)(l:L8):Prop where
 has:Has w' B v' l
 aside:Aside (fun k=>v.ownBlock=F k) w w'
 fresh:∀k,v'.ownBlock=F k->v.ownBlock=F k∨w.1.size<=k
theorem bE.refl(h:Has w B v l):bE w B v w v l:=⟨h,Aside.refl _ _,fun _ o=>.inl o⟩
theorem bE.trans{E:AA}{K D:L8}(h:bE w B v w1 v1 K)(k:bE w1 B v1 w2 E D):bE w B v w2 E D:=by
 have L:=h.aside.size;refine⟨k.has,h.aside.trans k.aside (fun i A J=>?_),fun i A=>?_⟩
 ·rcases h.fresh i J with o | o
  ·exact o
  ·omega
 ·rcases k.fresh i A with o | o
  ·rcases h.fresh i o with y | y
   ·exact .inl y
   ·exact .inr y
  ·exact .inr (by omega)
theorem bE.on(h:bE w B v w1 v1 l)(hb:AC w1.1.size w1 w2):bE w B v w2 v1 l :=
 ⟨h.has.on hb,h.aside.trans (af hb (fun _=>False)) (fun _ _ o=>o.elim),h.fresh⟩
theorem bE.from{w0:AU}(h:bE w0 B v w1 v1 l)(hb:AC w.1.size w w0)(_:Has w B v l0):bE w B v w1 v1 l:=by
 have D:=hb.size;refine⟨h.has,(af hb (fun k=>v.ownBlock=F k)).trans h.aside (fun _ _ y=>y),fun k A=>?_⟩;rcases h.fresh k A with o | o
 ·exact .inl o
 ·exact .inr (by omega)
theorem bE.low(h:bE w B v w1 v1 l)(o:Has w B v l0)(y:B<=w.1.size):AC B w w1:=aC h.aside o y
def gU(w:AU)(B:Nat)(v:AA)(l:L8)(e:Ending)(w':AU):Prop:=∃q cap,e=wv (I q l.length cap)∧bE w B v w' (I q l.length cap) l
theorem iO(v:AA)(xs:L8)(t:ByteArray)(B:Nat)(w:AU)(hv:Has w B v xs)(a5:B<=w.1.size)(bc:xs.length<=1000000)(a9:t.size<=1024):
    AB AE 115 #[v,qj t] w (gU w B v (xs++(Leb.put t.size++t.data.toList))):=by
  have o:=gQq (dA t.size (by omega));have hlen:=Leb.put_length_le t.size;obtain⟨l0,Z⟩:∃l0,l0=Leb.put t.size:=⟨_,rfl⟩;rw[<-Z] at o hlen ⊢;have bb:(t.size:Int)<=1024:=by omega
  have E:=gQq hv;clear Z hv;go_enter func115,ntmps115;go_wp2_with fail;refine(o.out _).mono ?_;rintro e w1 ⟨g,cap,rfl,ab,hb⟩;have a1:=gQq ab;have a2:=gQq (E.out.on hb);have aj:=gQq ((bE.refl E.out).on hb);have M:B<=w1.1.size:=AT a5 hb.size;clear ab hb o
  go_wp2_with (first
    | (at_builtin;refine aD (B:=B) a2.out a1.out.at (by omega) M rfl rfl rfl rfl rfl ?_;intro D a7 a4 W J y A V;have a8:D.length<=1000010:=by(rw[J.out,AH];omega)
       have a0:=gQq y;have ak:O (bE w B v W (I a7 D.length a4) D):=aj.out.trans ⟨y,A,V⟩;have a6:B<=W.1.size:=AT M A.size;clear y A V)
    | (at_builtin;refine sR (B:=B) (t:=t) a0.out (by omega) a6 rfl rfl rfl rfl rfl ?_;intro ai ah L a3 K Q S X;have aw:O (bE w B v a3 (I ah ai.length L) ai):=ak.out.trans ⟨Q,S,X⟩;clear Q S X))
  go_ret;rw[J.out,AN] at K;rw[<-K.out];exact⟨ah,L,rfl,aw.out⟩
theorem sZ{x:Ty}{d:Nat}(h:Ty.check d x=0):(Sch.tyB x).length<=5:=by have:=Sch.tyB_len x d h;omega
theorem lx(w:AU)(z:Int)(c:UInt8)(A:z=(c.toNat:Int)):At (w.alloc (wx #[U .u8 z] 5)) (F ⟨w.1.size,0,N⟩) [c]:=by
 obtain⟨p,D,o,y,-⟩:=(dB (B:=0) (w:=w) [c] (C:=#[U .u8 z]) (by rw[A];rfl) (Nat.zero_le _) (by simp)).at;injection o with o;rw[o];exact y
theorem gj(Q:w.1.size=H)(D:Has w B v xs)(c:UInt8)(hlen:xs.length+1<=140737488355328)(M:B<=w.1.size){z:Int}{E:Array Oper}{rest:List Oper}{y:Oper}{a:Act}{A:Exit->Act->AU->Prop}{s x:Operand}(aj:z=(c.toNat:Int))(ab:y.type=40)(V:y.guard=N)(X:y.op=Op.call { callee:=Callee.builtin Builtin.append,args:=#[s,x],argTypes:=#[40,40] })(Z:a.eval s=v)(ah:a.eval x=I (F ⟨H,0,N⟩) 1 1)(S:∀q cap W o,O (o=xs++[c])->bE w B v W (I q o.length cap) o->wpList AE E A rest (a.put y.dst (I q o.length cap)) W):
  wpList AE E A (y::rest) a (w.alloc (wx #[U .u8 z] 5)):=by
 subst Q;have hb:AC w.1.size w (w.alloc (wx #[U .u8 z] 5)):=gQy;refine aD (D.alloc _) (lx w z c aj) (by simpa using hlen) (AT M hb.size) ab V X Z ah ?_;intro o q cap W ai J K L;exact S q cap W o ai (bE.from ⟨J,K,L⟩ hb D)
theorem nS:∀(x:Ty) (d:Nat) (w0 w:AU) (u:AV) (v:AA) (xs:L8),Ty.check d x=0->aN w0 u x->AC w0.1.size w0 w->Has w w0.1.size v xs->xs.length+5*(5-d)<=1000000->AB AE 116 #[v,.agg u] w (gU w w0.1.size v (xs++Sch.tyB x)):=by
  intro x;refine Ty.ind (P:=fun x=>∀(d:Nat) (w0 w:AU) (u:AV) (v:AA) (xs:L8),Ty.check d x=0->aN w0 u x->AC w0.1.size w0 w->Has w w0.1.size v xs->xs.length+5*(5-d)<=1000000->AB AE 116 #[v,.agg u] w (gU w w0.1.size v (xs++Sch.tyB x))) ?_ x;rintro k o bs d w0 w u v xs hd bn hb0 hv hlen;obtain⟨p,c,rfl,cy,cx,bp⟩:=bn.open;unfold au;have a6:=hb0.size;have a5:AC w.1.size w (w.alloc (wx #[U Y k,I p o.length c] 99)):=gQy;have D:=gQq a5;have bO:=gQq hb0;have J:=gQq hv;clear a5 bn hb0 hv;obtain⟨cu,ci,bk⟩:=Sch.ty_open hd;obtain⟨cj,ck⟩:=ci;have a9:=Sch.kind_byte ⟨cj,ck⟩;obtain⟨c0,K⟩:∃c0,c0=UInt8.ofNat k.toNat:=⟨_,rfl⟩;have bi:k=(c0.toNat:Int):=by rw[K,a9];omega
  have b3:=gQq bi;have a0:=gQq (J.out.on D.out);have cb:w0.1.size<=(w.alloc (wx #[U Y k,I p o.length c] 99)).1.size:=AT a6 D.out.size;have V:O (Sch.tyB (.mk k o)=[c0]++(o.map Sch.tyB).flatten∧o.length<=1∧∀y∈o,Ty.check (d+1) y=0):=by
    show _∧_∧_;rcases bk with ⟨X,rfl⟩ | ⟨X,y,rfl,ah⟩
    · exact⟨by rw[Sch.tyB_mk,AF X,K];rfl,by simp,fun y ah=>by cases ah⟩
    · refine⟨by rw[Sch.tyB_mk,AG X,K];simp,by simp,fun z bq=>?_⟩;rw[List.mem_singleton] at bq;rw[bq];exact ah
  have b4:O (∀j (cd:j<o.length),∃bN,aN w0 bN o[j]∧gT w0 p j bN):=bp;have b2:=gQq bs;have ak:O (At ((w.alloc (wx #[U Y k,I p o.length c] 99)).alloc (wx #[U .u8 k] 5)) (F ⟨w.1.size+1,0,N⟩) [c0]):=by
    show At _ _ _;have:=lx (w.alloc (wx #[U Y k,I p o.length c] 99)) k c0 b3.out;simpa using this
  clear bs bp hd bi a9 K bk;go_enter func116,ntmps116
  go_wp2_with (first
    | (at_builtin;refine aD (B:=w0.1.size) (l:=[c0]) (a0.out.alloc _) ak.out (by simp;omega) (AT cb (by simp)) rfl rfl rfl rfl rfl ?_;intro Q bv a4 W a2 a7 Z a8;have b0:O (bE w w0.1.size v W (I bv Q.length a4) Q):=by
         refine bE.from (w0:=(w.alloc (wx #[U Y k,I p o.length c] 99)).alloc (wx #[U .u8 k] 5)) ⟨a7,Z,a8⟩ ?_ J.out;exact D.out.alloc D.out.size _
       have c1:W.cell? ⟨w.1.size,1,N⟩=F (I p o.length c):=by
         rw[Z.cell (by simp;omega) (fun cc=>by have:=(J.out.lt _ cc).2;simp at this)];simp
       clear a7 Z a8))
  have b5:O (Q=xs++([c0]++((o.take 0).map Sch.tyB).flatten)):=by show _=_;rw[a2.out];simp
  clear a2 ak a0 c1;go_loopw [0,16] (fun ct ai wr=>∃(j:Nat) (zs:L8) (q:OA) (cap:Nat),j<=o.length∧ai=U Y j∧ct=I q zs.length cap∧O (zs=xs++([c0]++((o.take j).map Sch.tyB).flatten)∧bE w w0.1.size v wr (I q zs.length cap) zs)) (fun _ ai _=>o.length-(intOf ai).toNat);case atStart=>exact⟨0,Q,bv,a4,by omega,rfl,rfl,b5.out,b0.out⟩
  case round=>
    obtain⟨j,zs,q,cap,cd,rfl,rfl,HL⟩:=hrel;have A:AC w0.1.size w0 wr:=bO.out.trans (HL.out.2.low J.out a6);by_cases L:j<o.length
    · obtain⟨c6,bl,bc⟩:=b4.out j L;obtain⟨bx,c5,co,cs,cq,b9,rfl,_,rfl,b6,b7⟩:=(bc.on A).lies;have cv:(j:Int)<(o.length:Int):=(by omega);have be:j=0:=(by have:=V.out.2.1;omega);have cn:zs.length=xs.length+1:=(by rw[HL.out.1,be];simp);obtain⟨M,ab⟩:∃M,M=wr.alloc (wx #[U Y co,I cs cq b9] 99):=⟨_,rfl⟩;have S:O (AC wr.1.size wr M):=(by rw[ab];exact gQy);have E:=gQq (b2.out _ (Aw L) (d+1) w0 M _ (I q zs.length cap) zs (V.out.2.2 _ (Aw L)) bl (A.trans (S.out.mono A.size)) (HL.out.2.has.on S.out) (by omega));have aw:=gQq (HL.out.2.on S.out);have a3:O (zs++Sch.tyB o[j]=xs++([c0]++((o.take (j+1)).map Sch.tyB).flatten)):=by
        show _=_;rw[HL.out.1,Sch.flatten_take Sch.tyB o j L];simp
      obtain⟨cp,bj⟩:∃l,l=zs++Sch.tyB o[j]:=⟨_,rfl⟩;rw[<-bj] at E a3;unfold au at E;have a1:=gQq ab;clear bl bc A HL ab bj be cn;go_wp2_with fail;rw[<-a1.out];clear a1 b6 b7;refine E.out.mono ?_;rintro e w2 ⟨cr,b8,rfl,bb⟩;have b1:=gQq (aw.out.trans bb);clear bb E aw;go_wp2;go_roundw;case rel=>exact⟨j+1,cp,cr,b8,by omega,by go_num,rfl,a3.out,b1.out⟩
      case measure=>simp[intOf];omega
    · have cw:¬(j:Int)<(o.length:Int):=(by omega);have bT:O (xs++Sch.tyB (.mk k o)=zs):=by
        show _=_;rw[HL.out.1,V.out.1,List.take_of_length_le (by omega)]
      have bX:=gQq HL.out.2;clear HL A;go_wp2;go_ret;rw[bT.out];exact⟨q,cap,rfl,bX.out⟩
theorem md(v:AA)(xs:L8)(b:Nat)(J:b<18446744073709551616)(B:Nat)(w:AU)(hv:Has w B v xs)(a0:B<=w.1.size)(bc:xs.length<=1000000):
    AB AE 150 #[v,sq ux b] w (gU w B v (xs++Sch.le 8 (aH b))):=by
  have L:=Sch.fixB_lt J;have V:=gQq (cN b);generalize aH b=m at *
  have D:O (lh m [] m):=⟨by simp,L,rfl⟩;have ai:=gQq hv;obtain⟨S,E,rfl,-,-⟩:=hv.at;clear L J hv;go_enter func150,ntmps150;go_wp2_with fail;refine(V.out _).mono ?_;rintro e w1 ⟨rfl,Q⟩;rw[Q];clear Q w1;go_wp2_with fail;go_loopw [0,5,8] (fun a5 a6 y wr=>∃(n:Nat) (es zs:L8) (q:OA) (cap:Nat),a5=I q zs.length cap∧a6=U .u64 n∧y=U Y es.length∧es.length<=8∧n<18446744073709551616∧O (lh m es n∧zs=xs++es∧bE w B (I S xs.length E) wr (I q zs.length cap) zs)) (fun _ _ y _=>8-(intOf y).toNat);case atStart=>exact⟨m,[],xs,S,E,rfl,rfl,rfl,by simp,D.out.2.1,D.out,by simp,bE.refl ai.out⟩
  case round=>
    obtain⟨z,es,zs,q,cap,rfl,rfl,rfl,a8,be,o⟩:=hrel;have a1:B<=wr.1.size:=AT a0 o.out.2.2.aside.size;have ak:O (zs.length=xs.length+es.length):=(by show _=_;rw[o.out.2.1,AH]);by_cases a3:es.length<8
    · have bb:(es.length:Int)<8:=(by omega);have A:=gQq (jF o.out.1 a3);have a2:(UInt8.ofNat (z % 256)).toNat=z % 256:=(by rw[UInt8.toNat_ofNat'];omega);generalize UInt8.ofNat (z % 256)=c1 at a2 A;have ah:=gQq o.out.2.2.has
      go_wp2_with (first|(at_builtin;refine gj rfl ah.out c1 (by have:=ak.out;omega) a1 (by omega) rfl rfl rfl rfl rfl ?_;intro a4 aw W a7 aj M;have ab:=gQq (o.out.2.2.trans M);clear M))
      go_roundw;case rel=>exact⟨z / 256,es++[c1],a7,a4,aw,rfl,by go_num,by simp,by simp;omega,by omega,A.out,by rw[aj.out,o.out.2.1,AN],ab.out⟩
      case measure=>simp[intOf];omega
    · have a9:¬(es.length:Int)<8:=(by omega);have K:Sch.le 8 m=es:=by
        rw[o.out.1.2.2,show 8-es.length=0 by omega];simp[Sch.le]
      have X:O (xs++Sch.le 8 m=zs):=(by show _=_;rw[K,o.out.2.1]);have Z:=gQq o.out.2.2;clear o K;go_wp2;go_ret;rw[X.out];exact⟨q,cap,rfl,Z.out⟩
end
section
open Go.RowKit
attribute [local go_sem] al
structure sK(xs full ys:L8):Prop where
 eq:ys=xs++full∨(1024<ys.length∧1024<(xs++full).length)
 len:ys.length<=max xs.length 1024+1034
theorem sK.all{full:L8}(h:full.length<=1034):sK xs full (xs++full):=⟨.inl rfl,by rw[AH];omega⟩
def sL(w:AU)(B:Nat)(v:AA)(xs full:L8)(e:Ending)(w':AU):Prop:=∃ys q cap,sK xs full ys∧e=wv (I q ys.length cap)∧bE w B v w' (I q ys.length cap) ys
theorem iY{w':AU}{full:L8}{e:Ending}(h:gU w B v (xs++full) e w')(A:full.length<=1034):sL w B v xs full e w':=by
 obtain⟨q,cap,o,y⟩:=h;exact⟨_,q,cap,sK.all A,o,y⟩
def qJ(items:List V):Prop:=∀x∈items,∀(w0 w:AU) (u:AV) (v:AA) (xs:L8),aK w0 u x->AC w0.1.size w0 w->Has w w0.1.size v xs->xs.length<=100000->AB AE 117 #[v,.agg u] w (sL w w0.1.size v xs (Sch.vB x))
theorem ma(items:List V)(c6:items.length<=256)(bT:qJ items)(p:OA)(c:Nat)(w0 w:AU)(v:AA)(xs:L8)(bO:fN w0 p items)(hb0:AC w0.1.size w0 w)(hv:Has w w0.1.size v xs)(hlen:xs.length<=100000):
    AB AE 151 #[v,I p items.length c] w (sL w w0.1.size v xs (Leb.put items.length++(items.map Sch.vB).flatten)):=by
  have Z:=gQq (dA items.length (by omega));have ct:=Leb.put_length_le items.length;obtain⟨l0,bv⟩:∃l0,l0=Leb.put items.length:=⟨_,rfl⟩;rw[<-bv] at Z ct ⊢;have c7:(items.length:Int)<=256:=by omega
  have ai:=gQq hv;have cc:=gQq bO;have cb:=gQq bT;have b6:=gQq hb0;have bk:=hb0.size;obtain⟨b2,bc,rfl,-,-⟩:=hv.at;clear bv hv bO bT hb0;go_enter func151,ntmps151;go_wp2_with fail;refine(Z.out _).mono ?_;rintro e w1 ⟨g,cap,rfl,bN,hb⟩;have a6:=gQq bN;have a7:=gQq (ai.out.on hb);have a5:=gQq ((bE.refl ai.out).on hb);have cs:w0.1.size<=w1.1.size:=AT bk hb.size;clear bN hb Z
  go_wp2_with (first|(at_builtin;refine aD (B:=w0.1.size) a7.out a6.out.at (by omega) cs rfl rfl rfl rfl rfl ?_;intro E b3 be W ak bl bn bp;have b8:O (bE w w0.1.size (I b2 xs.length bc) W (I b3 E.length be) E):=a5.out.trans ⟨bl,bn,bp⟩;clear bl bn bp))
  have a8:O ((E=xs++(l0++((items.take 0).map Sch.vB).flatten)∨(1024<E.length∧1024<(xs++(l0++((items.take 0).map Sch.vB).flatten)).length))∧E.length<=max xs.length 1024+1034):=by
    refine⟨.inl ?_,?_⟩
    · rw[ak.out];simp
    · rw[ak.out,AH];omega
  clear ak a6 a7 a5;go_loopw [0,15] (fun cw a3 wr=>∃(j:Nat) (zs:L8) (q:OA) (cap:Nat),j<=items.length∧a3=U Y j∧cw=I q zs.length cap∧zs.length<=200000∧O (((zs=xs++(l0++((items.take j).map Sch.vB).flatten)∨(1024<zs.length∧1024<(xs++(l0++((items.take j).map Sch.vB).flatten)).length))∧zs.length<=max xs.length 1024+1034)∧bE w w0.1.size (I b2 xs.length bc) wr (I q zs.length cap) zs)) (fun _ a3 _=>items.length-(intOf a3).toNat);case atStart=>exact⟨0,E,b3,be,by omega,rfl,rfl,by have:=a8.out.2;omega,a8.out,b8.out⟩
  case round=>
    obtain⟨j,zs,q,cap,cx,rfl,rfl,c8,o⟩:=hrel;have D:AC w0.1.size w0 wr:=b6.out.trans (o.out.2.low ai.out bk);by_cases a0:j<items.length
    · obtain⟨dj,a2,aw⟩:=cc.out j a0;obtain⟨bx,df,b0,bX,bj,b5,b4,b1,bi,rfl,_,rfl,cd,ci,cj,ck,cn⟩:=(aw.on D).lies;have cy:(j:Int)<(items.length:Int):=(by omega);obtain⟨y,K⟩:∃y,y=wr.alloc (wx #[U Y b0,U Y bX,sq ux bj,qj b5,I b4 b1 bi] 102):=⟨_,rfl⟩;have S:O (AC wr.1.size wr y):=(by rw[K];exact gQy);have a4:O (y.cell? ⟨wr.1.size,0,N⟩=F (U Y b0)∧y.cell? ⟨wr.1.size,1,N⟩=F (U Y bX)∧y.cell? ⟨wr.1.size,2,N⟩=F (sq ux bj)∧y.cell? ⟨wr.1.size,3,N⟩=F (qj b5)∧y.cell? ⟨wr.1.size,4,N⟩=F (I b4 b1 bi)):=(by rw[K];exact⟨by simp,by simp,by simp,by simp,by simp⟩);have X:=gQq (o.out.2.on S.out);have aj:=gQq K;by_cases J:1024<zs.length
      · have cq:(1024:Int)<(zs.length:Int):=(by omega);have ab:O (sK xs (l0++(items.map Sch.vB).flatten) zs):=by
          refine⟨.inr ⟨J,?_⟩,o.out.1.2⟩;have Q:=Sch.flatten_take_le Sch.vB items j;rw[AH,AH];rcases o.out.1.1 with A | A
          · rw[A,AH,AH] at J;omega
          · have cr:=A.2;rw[AH,AH] at cr;omega
        clear a2 aw D o K a4 J;go_wp2;go_ret;rw[<-aj.out];exact⟨zs,q,cap,ab.out,rfl,X.out⟩
      · have cq:¬(1024:Int)<(zs.length:Int):=(by omega);have M:=gQq (cb.out _ (Aw a0) w0 y _ (I q zs.length cap) zs a2 (D.trans (S.out.mono D.size)) (o.out.2.has.on S.out) (by omega));unfold cells5 at M;have a9:O (zs=xs++(l0++((items.take j).map Sch.vB).flatten)):=by
          rcases o.out.1.1 with A | A
          · exact A
          · exact absurd A.1 J
        have ah:=gQq (Sch.flatten_take Sch.vB items j a0);have c9:zs.length<=1024:=(by omega);obtain⟨full,bq⟩:∃l,l=Sch.vB items[j]:=⟨_,rfl⟩;rw[<-bq] at M ah;clear a2 aw D o K J bq;go_wp2_with fail;rw[<-aj.out];clear aj cd ci cj ck cn a4;refine M.out.mono ?_;rintro e w2 ⟨L,cv,co,a1,rfl,bs⟩;have b9:=gQq (X.out.trans bs);have bb:O ((L=xs++(l0++((items.take (j+1)).map Sch.vB).flatten)∨(1024<L.length∧1024<(xs++(l0++((items.take (j+1)).map Sch.vB).flatten)).length))∧L.length<=max xs.length 1024+1034):=by
          have cp:xs++(l0++((items.take (j+1)).map Sch.vB).flatten)=zs++full:=(by rw[ah.out,a9.out];simp);rw[cp];refine⟨a1.eq,?_⟩;have:=a1.len;omega
        have cu:L.length<=200000:=(by have:=bb.out.2;omega);clear bs M X a1 ah a9;go_wp2;go_roundw;case rel=>exact⟨j+1,L,cv,co,by omega,by go_num,rfl,cu,bb.out,b9.out⟩
        case measure=>simp[intOf];omega
    · have c5:¬(j:Int)<(items.length:Int):=(by omega);have ab:O (sK xs (l0++(items.map Sch.vB).flatten) zs):=by
        have Q:=o.out.1;rw[List.take_of_length_le (by omega)] at Q;exact⟨Q.1,Q.2⟩
      have b7:=gQq o.out.2;clear o D;go_wp2;go_ret;exact⟨zs,q,cap,ab.out,rfl,b7.out⟩
end
section
open Go.RowKit
attribute [local go_sem] al
theorem xr:Leb.put 0=[0]:=by kernel_rfl
theorem xq:Leb.put 1=[1]:=by kernel_rfl
section
variable {w w0:AU} {v:AA} {xs:L8} (hb0:AC w0.1.size w0 w) (hv:Has w w0.1.size v xs) (hlen:xs.length<=100000)
include hb0 hv hlen
theorem ko(i:Int)(X:i=0∨i=1)(b:Nat)(t:ByteArray)(p:OA)(n c:Nat):AB AE 117 #[v,.agg #[U Y 1,U Y i,sq ux b,qj t,I p n c]] w (gU w w0.1.size v (xs++[UInt8.ofNat i.toNat])):=by
  obtain⟨c0,y⟩:∃c0,c0=UInt8.ofNat i.toNat:=⟨_,rfl⟩;have D:i=(c0.toNat:Int):=by rw[y,UInt8.toNat_ofNat'];omega
  have J:=gQq D;have ab:0<=i:=by omega
  have ah:i<=1:=by omega
  rw[<-y];have K:=gQq hv;have S:=hb0.size;have o:O (AC w.1.size w (w.alloc (wx #[U Y 1,U Y i,sq ux b,qj t,I p n c] 102))):=gQy;have L:=gQq (hv.on o.out);have V:w0.1.size<=(w.alloc (wx #[U Y 1,U Y i,sq ux b,qj t,I p n c] 102)).1.size:=AT S o.out.size;clear D y X hv hb0;go_enter func117,ntmps117
  go_wp2_with (first|(at_builtin;refine gj (H:=w.1.size+1) (by simp) L.out c0 (by omega) V J.out rfl rfl rfl rfl rfl ?_;intro Z Q W ai M A;have E:=gQq (A.from o.out K.out);clear A))
  go_ret;rw[<-M.out];exact⟨Z,Q,rfl,E.out⟩
theorem kn(i:Int)(A:-9223372036854775808<=i∧i<=9223372036854775807)(b:Nat)(t:ByteArray)(p:OA)(n c:Nat):AB AE 117 #[v,.agg #[U Y 2,U Y i,sq ux b,qj t,I p n c]] w (gU w w0.1.size v (xs++Leb.put (Leb.zig i))):=by
  have ab:Leb.zig i<18446744073709551616:=by unfold Leb.zig;split <;> omega
  have J:=gQq (pT i A.1 A.2);have o:=gQq (dA (Leb.zig i) ab);have X:=Leb.put_length_le (Leb.zig i);obtain⟨z,ah⟩:∃z,z=Leb.zig i:=⟨_,rfl⟩;rw[<-ah] at J o X ⊢;obtain⟨l0,S⟩:∃l0,l0=Leb.put z:=⟨_,rfl⟩;rw[<-S] at o X ⊢;have E:=gQq hv;have a3:=hb0.size;have D:O (AC w.1.size w (w.alloc (wx #[U Y 2,U Y i,sq ux b,qj t,I p n c] 102))):=gQy;clear A ab hv hb0 ah S;go_enter func117,ntmps117;go_wp2_with fail;refine(J.out _).mono ?_;rintro e w1 ⟨rfl,Z⟩;rw[Z];clear Z w1;go_wp2_with fail;refine(o.out _).mono ?_;rintro e w1 ⟨g,cap,rfl,V,hb⟩;have aw:=gQq V;have y:=gQq (D.out.trans (hb.mono D.out.size));have a0:=gQq (E.out.on y.out);have a2:w0.1.size<=w1.1.size:=AT a3 y.out.size;clear V hb o
  go_wp2_with (first|(at_builtin;refine aD (B:=w0.1.size) a0.out aw.out.at (by omega) a2 rfl rfl rfl rfl rfl ?_;intro aj ai K W a1 L M Q;have ak:O (bE w w0.1.size v W (I ai aj.length K) aj):=bE.from ⟨L,M,Q⟩ y.out E.out;clear L M Q))
  go_ret;rw[<-a1.out];exact⟨ai,K,rfl,ak.out⟩
theorem km(i:Int)(b:Nat)(M:b<18446744073709551616)(t:ByteArray)(p:OA)(n c:Nat):AB AE 117 #[v,.agg #[U Y 3,U Y i,sq ux b,qj t,I p n c]] w (gU w w0.1.size v (xs++Sch.le 8 (aH b))):=by
 have J:=gQq hv;have L:=hb0.size;have o:O (AC w.1.size w (w.alloc (wx #[U Y 3,U Y i,sq ux b,qj t,I p n c] 102))):=gQy;have y:=gQq (md v xs b M w0.1.size _ (hv.on o.out) (AT L o.out.size) (by omega));obtain⟨l0,D⟩:∃l0,l0=xs++Sch.le 8 (aH b):=⟨_,rfl⟩;rw[<-D] at y ⊢;clear hv hb0 D;go_enter func117,ntmps117;go_wp2_with fail;refine y.out.mono ?_;rintro e w1 ⟨Q,K,rfl,A⟩;have E:=gQq (A.from o.out J.out);clear A y;go_wp2;go_ret;exact⟨Q,K,rfl,E.out⟩
theorem jU(k i:Int)(M:k=4∨k=5)(b:Nat)(t:ByteArray)(Q:t.size<=1024)(p:OA)(n c:Nat):AB AE 117 #[v,.agg #[U Y k,U Y i,sq ux b,qj t,I p n c]] w (gU w w0.1.size v (xs++(Leb.put t.size++t.data.toList))):=by
 have J:=gQq hv;have L:=hb0.size;have o:O (AC w.1.size w (w.alloc (wx #[U Y k,U Y i,sq ux b,qj t,I p n c] 102))):=gQy;have y:=gQq (iO v xs t w0.1.size _ (hv.on o.out) (AT L o.out.size) (by omega) Q);obtain⟨l0,D⟩:∃l0,l0=xs++(Leb.put t.size++t.data.toList):=⟨_,rfl⟩;rw[<-D] at y ⊢;clear hv hb0 D;rcases M with rfl | rfl
 all_goals
  go_enter func117,ntmps117;go_wp2_with fail;refine y.out.mono ?_;rintro e w1 ⟨S,K,rfl,A⟩;have E:=gQq (A.from o.out J.out);clear A y;go_wp2;go_ret;exact⟨S,K,rfl,E.out⟩
theorem jT(k i:Int)(Z:k=6∨k=7)(b:Nat)(t:ByteArray)(items:List V)(ab:items.length<=256)(K:qJ items)(p:OA)(c:Nat)(J:fN w0 p items):AB AE 117 #[v,.agg #[U Y k,U Y i,sq ux b,qj t,I p items.length c]] w (sL w w0.1.size v xs (Leb.put items.length++(items.map Sch.vB).flatten)):=by
 have Q:=gQq hv;have X:=hb0.size;have o:O (AC w.1.size w (w.alloc (wx #[U Y k,U Y i,sq ux b,qj t,I p items.length c] 102))):=gQy;have y:=gQq (ma items ab K p c w0 _ v xs J (hb0.trans (o.out.mono X)) (hv.on o.out) hlen);obtain⟨l0,D⟩:∃l0,l0=Leb.put items.length++(items.map Sch.vB).flatten:=⟨_,rfl⟩;rw[<-D] at y ⊢;clear hv hb0 D J K;rcases Z with rfl | rfl
 all_goals
  go_enter func117,ntmps117;go_wp2_with fail;refine y.out.mono ?_;rintro e w1 ⟨ai,ah,S,E,rfl,A⟩;have M:=gQq E;have L:=gQq (A.from o.out Q.out);clear A y E;go_wp2;go_ret;exact⟨ai,ah,S,M.out,rfl,L.out⟩
end
theorem l9:∀(x:V) (d:Nat) (w0 w:AU) (u:AV) (v:AA) (xs:L8),chk d x=0->x.wf->aK w0 u x->AC w0.1.size w0 w->Has w w0.1.size v xs->xs.length<=100000->AB AE 117 #[v,.agg u] w (sL w w0.1.size v xs (Sch.vB x)):=by
 intro x;refine V.ind (P:=fun x=>∀(d:Nat) (w0 w:AU) (u:AV) (v:AA) (xs:L8),chk d x=0->x.wf->aK w0 u x->AC w0.1.size w0 w->Has w w0.1.size v xs->xs.length<=100000->AB AE 117 #[v,.agg u] w (sL w w0.1.size v xs (Sch.vB x))) ?_ x;rintro k i b t items ai d w0 w u v xs L Z ab hb0 hv hlen;obtain⟨p,c,rfl,a7,a6,ah⟩:=ab.open;obtain⟨a9,a0,aw,bb,a1⟩:=V.wf_mk.1 Z;obtain⟨a2,X,E,S,-,Q⟩:=Sch.chk_open L;obtain⟨a3,-,-,-,a8,aj,ak⟩:=Sch.own_open X;unfold cells5;have a5:(Sch.vH k i b t items.length).length<=1034:=Sch.vH_len E;have M:k=1∨k=2∨k=3∨(k=4∨k=5)∨(k=6∨k=7):=by omega
 rcases M with h | h | h | h | h
 ·have e:Sch.vB (.mk k i b t items)=[UInt8.ofNat i.toNat]:=by rw[Sch.vB_mk,Sch.vH,AG h,AG (.inl h),Az]
  rw[e];subst h;exact(ko hb0 hv hlen i (aj rfl) b t p items.length c).mono fun _ _ h=>iY h (by simp)
 ·have e:Sch.vB (.mk k i b t items)=Leb.put (Leb.zig i):=by rw[Sch.vB_mk,Sch.vH,AF (by omega),AG h,AG (.inr (.inl h)),Az]
  rw[e];subst h;exact(kn hb0 hv hlen i a0 b t p items.length c).mono fun _ _ h=>iY h (by have:=Leb.put_length_le (Leb.zig i);omega)
 ·have e:Sch.vB (.mk k i b t items)=Sch.le 8 (aH b):=by rw[Sch.vB_mk,Sch.vH,AF (by omega),AF (by omega),AG h,AG (.inr (.inr (.inl h))),Az]
  rw[e];subst h;exact(km hb0 hv hlen i b aw t p items.length c).mono fun _ _ h=>iY h (by rw[Sch.le_len];omega)
 ·have e:Sch.vB (.mk k i b t items)=Leb.put t.size++t.data.toList:=by rw[Sch.vB_mk,Sch.vH,AF (by omega),AF (by omega),AF (by omega),AG h,AG (by omega),Az]
  rw[e];exact(jU hb0 hv hlen k i h b t E p items.length c).mono fun _ _ h=>iY h (by
   have:=Leb.put_length_le t.size;have a4:t.data.toList.length=t.size:=(by rw[Array.length_toList];rfl);rw[AH];omega)
 ·have e:Sch.vB (.mk k i b t items)=Leb.put items.length++(items.map Sch.vB).flatten:=by
   rw[Sch.vB_mk,Sch.vH,AF (by omega),AF (by omega),AF (by omega),AF (by omega),AF (c:=k=1∨k=2∨k=3∨k=4∨k=5) (by omega)];congr 1;rcases h with h | h
   ·rw[AG h];have D:=ak h;have o:items.length=0∨items.length=1:=(by omega);rcases o with o | o
    ·rw[o,xr];rfl
    ·rw[o,xq];rfl
   ·rw[AF (by omega),AG h]
  rw[e];exact jT hb0 hv hlen k i h b t items S (fun A y w0 w u v xs J D o K=>ai A y (d+1) w0 w u v xs (Q A y) (a1 A y) J D o K) p c ah
end
section
open Go.RowKit
attribute [local go_sem] al
theorem oz{A:Array Oper}{o:Oper}{a:Act}{y:Act->AU->Prop}{J:Exit->Act->AU->Prop}{E:Prop}{f:FuncId}{fn:Func}{code:Code}{u:AA}{R:Ending->AU->Prop}(x D:Operand)(t t':TypeId)(X:o.guard=N)(ah:o.op=Op.call { callee:=.value (.func f),args:=#[x,D],argTypes:=#[t,t'] })(ak:a.eval x=u)(aw:a.eval D=v)(V : Tryz.prog.funcs[f]?=F fn)(ab : (fn.name== "runtime.NumGoroutine")=false)(hb : fn.body=F code)(M:AB AE f #[u,v] w R)(L:∀e w',R e w'->∃z,e=wv z∧y (a.put o.dst z) w'):
  if Region.wanted o (yielded A a.tmps)=true then Oper.wp AE o a w y J else E:=by
 have aj:Region.wanted o (yielded A a.tmps)=true:=by simp[Region.wanted,X]
 rw[AG aj];have K : fn.name≠ "runtime.NumGoroutine" := by simpa using ab
 unfold Oper.wp;have Q:(execOp a.eval o).run AE w=.ok (.enter f #[u,v]) w:=by
  have S:a.eval (.func f)=.func (.func f) #[] #[]:=rfl;simp[execOp,ah,resolve,invoke,ak,aw,S,Deferred.ofValue,callFunc,V,K,hb]
 rw[Q,Oper.upon_enter];refine M.mono ?_;intro e w' ai;obtain⟨z,rfl,Z⟩:=L e w' ai;exact Z
theorem jj(Q:w.1.size=H)(D:Has w B v xs)(c:UInt8)(hlen:xs.length+1<=140737488355328)(M:B<=w.1.size){z:Int}{J:Array Oper}{o:Oper}{a:Act}{A:Act->AU->Prop}{L:Exit->Act->AU->Prop}{K:Prop}(s x:Operand)(a2:z=(c.toNat:Int))(aw:o.type=40)(ab:o.guard=N)(aj:o.op=Op.call { callee:=Callee.builtin Builtin.append,args:=#[s,x],argTypes:=#[40,40] })(ak:a.eval s=v)(a1:a.eval x=I (F ⟨H,0,N⟩) 1 1)(S:∀q cap W y,O (y=xs++[c])->bE w B v W (I q y.length cap) y->A (a.put o.dst (I q y.length cap)) W):
  if Region.wanted o (yielded J a.tmps)=true then Oper.wp AE o a (w.alloc (wx #[U .u8 z] 5)) A L else K:=by
 have a0:Region.wanted o (yielded J a.tmps)=true:=by simp[Region.wanted,ab]
 rw[AG a0];subst Q;have hb:AC w.1.size w (w.alloc (wx #[U .u8 z] 5)):=gQy;obtain⟨q,cap,W,⟨E⟩,ai,V,-,X⟩:=eW B v xs [c] (F ⟨w.1.size,0,N⟩) 1 _ (D.alloc _) (lx w z c a2) (by simpa using hlen) (AT M hb.size);unfold Oper.wp;have ah:[c].length=1:=rfl;rw[ah] at E;have Z:(execOp a.eval o).run AE (w.alloc (wx #[U .u8 z] 5))=.ok (.value (I q (xs++[c]).length cap)) W:=by
  simp only[execOp,aj,resolve,invoke,builtin];simp[ak,a1,aw,E,Result.andThen]
 rw[Z];exact S q cap W (xs++[c]) (gQq rfl) (bE.from ⟨ai,V,X⟩ hb D)
theorem kp(x:Col)(w0 w:AU)(u:AV)(v:AA)(xs:L8)(cr:fk w0 u x)(dr:x.wf)(c9:x.name.size<=16)(bl:Ty.check 1 x.ty=0)(b1:x.has=true->chk 1 x.dflt=0)(hb0:AC w0.1.size w0 w)(hv:Has w w0.1.size v xs)(hlen:xs.length<=90000):
    AB AE 87 #[v,.agg u] w fun e w'=>∃A q cap,(A=xs++Sch.cB x∨(1024<A.length∧1024<(xs++Sch.cB x).length))∧A.length<=xs.length+3000∧e=wv (I q A.length cap)∧bE w w0.1.size v w' (I q A.length cap) A:=by
  obtain⟨k,a4,a3,a2,S,Q,L,Z,X,V,M,rfl,b5,hd⟩:=cr.out;obtain⟨y,a5,has,ah⟩:=x;obtain⟨ct,cu,b6⟩:=dr;dsimp only at b5 hd bl c9 ct cu b6 b1;unfold aB;have bT:=hb0.size;obtain⟨J,bi⟩:∃J,J=w.alloc (wx #[qj y,U Y k,I a4 a3 a2,.bool has,U Y S,U Y Q,sq ux L,qj Z,I X V M] 104):=⟨_,rfl⟩;have ab:O (AC w.1.size w J):=by rw[bi];exact gQy
  have b7:O (J.1[w.1.size]?=F (wx #[qj y,U Y k,I a4 a3 a2,.bool has,U Y S,U Y Q,sq ux L,qj Z,I X V M] 104 (0,0))):=by rw[bi];exact an w _
  have cc:=gQq bi;have bO:=gQq hv;have dv:=gQq hb0
  -- whatever grows out of v's own block leaves the copy alone
  have ak:O (∀W v' l,bE J w0.1.size v W v' l->W.1[w.1.size]?=F (wx #[qj y,U Y k,I a4 a3 a2,.bool has,U Y S,U Y Q,sq ux L,qj Z,I X V M] 104 (0,0))∧AC w0.1.size w0 W):=fun W v' l a1=>by
    refine⟨?_,(hb0.trans (ab.out.mono bT)).trans (a1.low (bO.out.on ab.out) (AT bT ab.out.size))⟩;rw[a1.aside.block _ (by have:=ap b7.out;exact this) (fun c7=>by have:=(bO.out.lt _ c7).2;omega)];exact b7.out
  have bq:=gQq (iO v xs y w0.1.size J (hv.on ab.out) (AT bT ab.out.size) (by omega) (by omega));have bs:=gQq (fun w' v' l (a1:bE J w0.1.size v w' v' l) (b4:l.length+20<=1000000)=>nS a5 1 w0 w' _ v' l bl b5 (ak.out w' v' l a1).2 a1.has b4);have a6:=gQq (fun w' v' l (hb:AC w0.1.size w0 w') (c8:Has w' w0.1.size v' l) (b4:l.length<=100000) (c6:has=true)=>l9 ah 1 w0 w' _ v' l (b1 c6) b6 hd hb c8 b4);have df:y.data.toList.length=y.size:=by rw[Array.length_toList];rfl
  have dj:=Leb.put_length_le y.size;have ec:=sZ bl;have a0:O (Sch.cB ⟨y,a5,has,ah⟩=Leb.put y.size++(y.data.toList++(Sch.tyB a5++(if has then 1 else 0)::(if has then Sch.vB ah else [])))):=rfl;obtain⟨bn,bj⟩:∃l,l=xs++(Leb.put y.size++y.data.toList):=⟨_,rfl⟩;have ea:bn.length<=xs.length+26:=by rw[bj,AH,AH];omega
  rw[<-bj] at bq;unfold au at bs;unfold cells5 at a6;obtain⟨ci,ck⟩:∃l,l=Sch.cB ⟨y,a5,has,ah⟩:=⟨_,rfl⟩;rw[<-ck] at a0 ⊢;have bb:=gQq bj;clear bi cr b5 hd bl b1 hv hb0 bj ck ct cu b6 df dj;go_enter func87,ntmps87;go_wp2_with fail;rw[<-cc.out];clear cc;refine bq.out.mono ?_;rintro e w1 ⟨ds,cy,rfl,b2⟩;have bN:=gQq b2;obtain⟨bX,-⟩:=ak.out _ _ _ b2;have c1:w1.cell? ⟨w.1.size,1,N⟩=F (U Y k):=aa bX 1;have c2:w1.cell? ⟨w.1.size,2,N⟩=F (I a4 a3 a2):=aa bX 2;obtain⟨aj,bk⟩:∃l,l=bn++Sch.tyB a5:=⟨_,rfl⟩;have bv:=gQq (bs.out w1 (I ds bn.length cy) bn bN.out (by omega));rw[<-bk] at bv;have eb:aj.length<=xs.length+31:=by rw[bk,AH];omega
  have bc:=gQq bk;clear b2 bX bq bs bk;go_wp2_with fail;refine bv.out.mono ?_;rintro e w2 ⟨cs,cd,rfl,co⟩;have a8:=gQq (bN.out.trans co);obtain⟨E,b0⟩:=ak.out _ _ _ a8.out;have c3:w2.cell? ⟨w.1.size,3,N⟩=F (.bool has):=aa E 3;have d0:=gQq b0;have cj:=b0.size;have b9:=gQq a8.out.has;have b8:=gQq (a8.out.from ab.out bO.out);clear co c1 c2 bv bN b0;cases has with
  |false=>
    have a7:O (xs++ci=aj++[0]):=by
      show _=_;rw[a0.out,bc.out,bb.out];simp
    clear a6 a0 bb bc ak E
    go_wp2_with (first|(at_builtin;refine gj (B:=w0.1.size) rfl b9.out 0 (by omega) cj (by rfl) rfl rfl rfl rfl rfl ?_;intro bp be W A aw D;have a9:=gQq (b8.out.trans D);clear D))
    go_ret;refine⟨A,bp,be,.inl ?_,?_,rfl,a9.out⟩
    · rw[a7.out,aw.out]
    · rw[aw.out,AH,AO];omega
  |true=>
    have c4:w2.cell? ⟨w.1.size,4,N⟩=F (U Y S):=aa E 4;have d1:w2.cell? ⟨w.1.size,5,N⟩=F (U Y Q):=aa E 5;have d2:w2.cell? ⟨w.1.size,6,N⟩=F (sq ux L):=aa E 6;have d3:w2.cell? ⟨w.1.size,7,N⟩=F (qj Z):=aa E 7;have d4:w2.cell? ⟨w.1.size,8,N⟩=F (I X V M):=aa E 8;have ai:∀o,(w2.alloc o).1[w.1.size]?=F (wx #[qj y,U Y k,I a4 a3 a2,.bool true,U Y S,U Y Q,sq ux L,qj Z,I X V M] 104 (0,0)):=fun o=>(ay w2 o (ap E)).trans E;have el:∀o,(w2.alloc o).cell? ⟨w.1.size,4,N⟩=F (U Y S):=fun o=>aa (ai o) 4;have em:∀o,(w2.alloc o).cell? ⟨w.1.size,5,N⟩=F (U Y Q):=fun o=>aa (ai o) 5;have en:∀o,(w2.alloc o).cell? ⟨w.1.size,6,N⟩=F (sq ux L):=fun o=>aa (ai o) 6;have ep:∀o,(w2.alloc o).cell? ⟨w.1.size,7,N⟩=F (qj Z):=fun o=>aa (ai o) 7;have er:∀o,(w2.alloc o).cell? ⟨w.1.size,8,N⟩=F (I X V M):=fun o=>aa (ai o) 8;clear ai;have a7:O (xs++ci=aj++[1]++Sch.vB ah):=by
      show _=_;rw[a0.out,bc.out,bb.out];simp
    obtain⟨full,cn⟩:∃l,l=Sch.vB ah:=⟨_,rfl⟩;rw[<-cn] at a7 a6;clear a0 bb bc cn;go_wp2_with fail
    go_region_law (first
      | (refine jj (B:=w0.1.size) (xs:=aj) (v:=I cs aj.length cd) (w:=w2.drew) (H:=w2.1.size) (by rfl) b9.out.drew 1 (by omega) cj (.tmp 19) (.tmp 20) (by rfl) (by rfl) (by rfl) (by rfl) (by rfl) (by rfl) ?_;intro bp be W A aw D;have b3:bE w2 w0.1.size (I cs aj.length cd) W (I bp A.length be) A:=⟨D.has,⟨D.aside.os,D.aside.tape,D.aside.output,D.aside.size,D.aside.block⟩,D.fresh⟩;have a9:=gQq (a8.out.trans b3);have cx:=gQq (b8.out.trans b3);have K:=ak.out _ _ _ a9.out;have d5:W.cell? ⟨w.1.size,4,N⟩=F (U Y S):=aa K.1 4;have d6:W.cell? ⟨w.1.size,5,N⟩=F (U Y Q):=aa K.1 5;have d7:W.cell? ⟨w.1.size,6,N⟩=F (sq ux L):=aa K.1 6;have d8:W.cell? ⟨w.1.size,7,N⟩=F (qj Z):=aa K.1 7;have d9:W.cell? ⟨w.1.size,8,N⟩=F (I X V M):=aa K.1 8;have cv:=gQq K.2;have eg:A.length<=xs.length+32:=by(rw[aw.out,AH,AO];omega)
         clear D b3 K)
      | (refine oz (.tmp 21) (.tmp 23) 40 102 (by rfl) (by rfl) (by rfl) (by rfl) func117 (by kernel_rfl) (by rfl) (a6.out W (I bp A.length be) A cv.out a9.out.has (by omega) (by first | rfl | trivial)) ?_;rintro e w4 ⟨zs,du,c5,cq,rfl,cp⟩;refine⟨_,rfl,?_⟩;have cw:=gQq (cx.out.trans cp);have cb:=gQq cq;clear cp cq))
    all_goals
      go_wp2;go_ret;refine⟨zs,du,c5,?_,?_,rfl,cw.out⟩
      · rw[a7.out,<-aw.out];exact cb.out.eq
      · have:=cb.out.len;omega
end
section
open Go.RowKit
attribute [local go_sem] al
def encB(s:List Col):L8:=if Sch.err s=0 then Sch.bytes s else []
theorem sl(s:List Col):Sch.err s=if iL s≠0 then iL s else if 1024<(Sch.bytes s).length then 2 else 0:=by
 unfold Sch.err iL;by_cases o:s.length=0
 ·rw[AG o,AG o,AG (by decide)]
 ·rw[AF o,AF o];by_cases y:16<s.length
  ·rw[AG y,AG y,AG (by decide)]
  ·rw[AF y,AF y]
theorem jd(s:List Col)(p:OA)(c:Nat)(w:AU)(e5:s.length*120<=140737488351232)(bl:cU w p s)(bk:∀x∈s,x.wf):
  AB AE 60 #[.agg #[I p s.length c]] w fun e w'=>∃q cap,e=wv (.tuple #[I q (encB s).length cap,U Y (Sch.err s:Nat)])∧At w' q (encB s)∧(encB s).length<=cap∧AC w.1.size w w':=by
 obtain⟨V,aw⟩:∃V,V=w.alloc (wx #[I p s.length c] 35):=⟨_,rfl⟩;have a2:O (AC w.1.size w V):=by rw[aw];exact gQy
 have bX:O (V.cell? ⟨w.1.size,0,N⟩=F (I p s.length c)):=by show _=_;rw[aw];simp
 have bO:=gQq aw;have d1:=gQq bl;have d0:=gQq bk;have L:=gQq (sl s);have a5:=gQq (kj s p c V (bl.on a2.out) bk);have HEnc:O (encB s=if Sch.err s=0 then Sch.bytes s else []):=rfl;have aj:O (iL s=0->s.length<=16∧Sch.colsErr [] s=0):=fun h=>by
  unfold iL at h;split at h
  ·omega
  ·split at h
   ·omega
   ·exact⟨by omega,h⟩
 obtain⟨S,b3⟩:∃S,S=encB s:=⟨_,rfl⟩;obtain⟨R,b4⟩:∃R,R=Sch.err s:=⟨_,rfl⟩;rw[<-b3] at HEnc ⊢;rw[<-b4] at L HEnc ⊢;obtain⟨X,b9⟩:∃n,n=iL s:=⟨_,rfl⟩;rw[<-b9] at a5 L aj;clear aw bl bk b3 b4 b9;go_enter func60,ntmps60;go_wp2_with fail;rw[<-bO.out];clear bO;refine a5.out.mono ?_;rintro e w1 ⟨rfl,bb⟩;have c7:=ae bb bX.out;have K:=gQq (a2.out.trans (bb.mono a2.out.size));clear bb a5 bX;by_cases J:¬X=0
 ·have eg:((X:Int) != 0)=true:=cE (by omega);have D:O (R=X):=by show _=_;rw[L.out,AG J]
  have ds:O (S=[]):=by show _=_;rw[HEnc.out,D.out,AF J]
  clear J L HEnc aj;go_wp2;go_ret2;rw[ds.out,D.out];exact⟨N,0,rfl,.inl rfl,gQx,K.out⟩
 replace J:X=0:=Classical.not_not.1 J
 have eg:((X:Int) != 0)=false:=ca (by omega);obtain⟨e7,ab⟩:=aj.out J;have D:O (R=if 1024<(Sch.bytes s).length then 2 else 0):=by show _=_;rw[L.out,AF (by omega)]
 have df:=gQq ab;have a7:=gQq (dA s.length (by omega));have eq:=Leb.put_length_le s.length;have a4:O (Sch.bytes s=Leb.put s.length++(s.map Sch.cB).flatten):=rfl;obtain⟨l0,cb⟩:∃l0,l0=Leb.put s.length:=⟨_,rfl⟩;rw[<-cb] at a7 eq a4;obtain⟨ak,b6⟩:∃l,l=Sch.bytes s:=⟨_,rfl⟩;rw[<-b6] at a4 D HEnc;have e8:(s.length:Int)<=16:=by omega
 clear J L aj ab cb b6;go_wp2_with fail;refine(a7.out _).mono ?_;rintro e w2 ⟨g,ec,rfl,cc,be⟩;have fq:=ae be c7;have dr:=gQq cc.has;have c9:=gQq be;clear cc be a7 c7;have d2:O (l0=l0++((s.take 0).map Sch.cB).flatten):=by show _=_;simp
 go_wp2_with fail;go_loopw [5,22] (fun ez bp wr=>∃(j:Nat) (zs:L8) (q:OA) (cap:Nat),j<=s.length∧bp=U Y j∧ez=I q zs.length cap∧zs.length<=10+j*3000∧O ((zs=l0++((s.take j).map Sch.cB).flatten∨(1024<zs.length∧1024<(l0++((s.take j).map Sch.cB).flatten).length))∧Has wr w1.1.size (I q zs.length cap) zs∧AC w1.1.size w1 wr)) (fun _ bp _=>s.length-(intOf bp).toNat);case atStart=>exact⟨0,l0,F ⟨g,0,N⟩,ec,by omega,rfl,rfl,by omega,.inl d2.out,dr.out,c9.out⟩
 case round=>
  obtain⟨j,zs,q,cap,e0,rfl,rfl,e9,y⟩:=hrel;by_cases a0:j<s.length
  ·have em:AC w.1.size w wr:=K.out.trans (y.out.2.2.mono K.out.size);obtain⟨bx,fi,k,cs,cr,cq,cw,cv,ct,c5,cy,cx,cu,rfl,_,b2,ci,cj⟩:=(d1.out.on K.out).at j a0;obtain⟨d3,d4,d5,d6,d7,d8,d9,ea,eb⟩:=b2.on y.out.2.2;have e3:(j:Int)<(s.length:Int):=(by omega);obtain⟨l',ab⟩:=Sch.colsErr_mem s [] df.out s[j] (Aw a0);obtain⟨ck,-,cn,-,co⟩:=Sch.col_open ab;have cd:=(Sch.name_size ck).2;obtain⟨ah,bj⟩:∃ah,ah=wr.alloc (wx #[qj s[j].name,U Y k,I cs cr cq,.bool s[j].has,U Y cw,U Y cv,sq ux ct,qj c5,I cy cx cu] 104):=⟨_,rfl⟩;have a3:O (AC wr.1.size wr ah):=(by rw[bj];exact gQy);have er:=y.out.2.2.size;have bc:AC w1.1.size w1 ah:=y.out.2.2.trans (a3.out.mono er);have bq:=gQq bc;have ai:=gQq (kp s[j] w1 ah _ (I q zs.length cap) zs ⟨k,cs,cr,cq,cw,cv,ct,c5,cy,cx,cu,rfl,ci,cj⟩ (d0.out _ (Aw a0)) cd cn (fun h=>(co h).1) bc (y.out.2.1.on a3.out) (by omega));have bv:=gQq (y.out.2.1.on a3.out);have a8:=gQq (Sch.flatten_take Sch.cB s j a0);have dv:=gQq (Sch.flatten_take_le Sch.cB s j);have bN:=gQq y.out.1;unfold aB at ai;obtain⟨b1,b8⟩:∃l,l=Sch.cB s[j]:=⟨_,rfl⟩;rw[<-b8] at ai a8;generalize s[j].name=fc at *
   generalize s[j].has=e6 at *
   have bT:=gQq bj;clear b2 ci cj ab ck cn co cd bj bc y em b8;go_wp2_with fail;rw[<-bT.out];clear bT d3 d4 d5 d6 d7 d8 d9 ea eb;refine ai.out.mono ?_;rintro e c6 ⟨M,cp,b0,E,ev,rfl,bi⟩;have du:O ((M=l0++((s.take (j+1)).map Sch.cB).flatten∨(1024<M.length∧1024<(l0++((s.take (j+1)).map Sch.cB).flatten).length))∧Has c6 w1.1.size (I cp M.length b0) M∧AC w1.1.size w1 c6):=by
    refine⟨?_,bi.has,bq.out.trans (bi.low bv.out bq.out.size)⟩;have eL:∀(A:L8),(A++b1).length=A.length+b1.length:=fun A=>AH;rw[a8.out,<-AN];rcases bN.out with o | o
    ·rw[<-o];exact E
    ·refine .inr ⟨?_,?_⟩
     ·rcases E with a9 | a9
      ·rw[a9,AH];omega
      ·exact a9.1
     ·rw[AH];omega
   have ew:M.length<=10+(j+1)*3000:=(by omega);clear E bi ev ai bv a8 dv bN;go_wp2;go_roundw;case rel=>exact⟨j+1,M,cp,b0,by omega,by go_num,rfl,ew,du.out⟩
   case measure=>simp[intOf];omega
  ·have e4:¬(j:Int)<(s.length:Int):=(by omega);have bs:O (AC w.1.size w wr):=K.out.trans (y.out.2.2.mono K.out.size);have E:(zs=ak∨(1024<zs.length∧1024<ak.length)):=by
    have o:=y.out.1;rw[List.take_of_length_le (by omega),<-a4.out] at o;exact o
   have dj:=gQq y.out.2.1;clear y;by_cases Z:1024<zs.length
   ·have el:(1024:Int)<(zs.length:Int):=(by omega);have b7:1024<ak.length:=by
     rcases E with o | o
     ·rw[<-o];exact Z
     ·exact o.2
    have Q:O (R=2):=(by show _=_;rw[D.out,AG b7]);have a6:O (S=[]):=(by show _=_;rw[HEnc.out,Q.out,AF (by decide)]);clear E Z b7 D HEnc;go_wp2;go_ret2;rw[a6.out,Q.out];exact⟨N,0,rfl,.inl rfl,gQx,bs.out⟩
   ·have el:¬(1024:Int)<(zs.length:Int):=(by omega);have bn:zs=ak:=by
     rcases E with o | o
     ·exact o
     ·exact absurd o.1 Z
    have Q:O (R=0):=(by show _=_;rw[D.out,AF (by rw[<-bn];exact Z)]);have a6:O (S=zs):=(by show _=_;rw[HEnc.out,Q.out,AG rfl,bn]);obtain⟨fo,eC,ep,b5,en⟩:=dj.out.at;injection ep with e1 _ e2;subst e1 e2;have c8:=gQq b5;clear E Z bn D HEnc b5;go_wp2;go_ret2;rw[a6.out,Q.out];exact⟨_,_,rfl,c8.out,en,bs.out⟩
theorem je(s:List Col)(p:OA)(c:Nat)(w:AU)(M:s.length*120<=140737488351232)(K:cU w p s)(J:∀x∈s,x.wf):
  AB AE 38 #[.agg #[I p s.length c]] w fun e w'=>e=wv (U Y (Sch.err s:Nat))∧AC w.1.size w w':=by
 have y:O (AC w.1.size w (w.alloc (wx #[I p s.length c] 35))):=gQy;have o:=gQq (jd s p c _ M (K.on y.out) J);obtain⟨R,D⟩:∃R,R=Sch.err s:=⟨_,rfl⟩;rw[<-D] at o ⊢;obtain⟨Q,A⟩:∃R,R=encB s:=⟨_,rfl⟩;rw[<-A] at o;clear D A K J;go_enter func38,ntmps38;go_wp2_with fail;refine o.out.mono ?_;rintro e w2 ⟨q,cap,rfl,-,-,E⟩;have L:=gQq (y.out.trans (E.mono y.out.size));clear E o;go_wp2;go_ret;exact⟨rfl,L.out⟩
end
end Go.Proofs.YtngmnfdaedlodaaGreatDoor
