import Derived.Test.YtdkammppnkhhoaaGreatDoorA7
import Derived.Test.YtdkammppnkhhoaaGreatDoorB19
set_option maxRecDepth 100000
set_option maxHeartbeats 4000000
namespace Go.Proofs.YtdkammppnkhhoaaGreatDoor
variable{A B R:Nat}{w w':World}{l:L8}{u:AV}{s:List Col}
section
open Go.RowKit
structure cf(w:World)(A R:Nat)(l:L8):Prop where
 out:∃p c,w.1[R]?=some (.cells #[.slice p l.length c] 129 (0,0))∧At w p l∧l.length<=c∧(l≠[]->∀a,p=some a->a.block<A)
 small:l.length<=2200
 low:A<=R
theorem cf.lt(h:cf w A R l):R<w.1.size:=by
 obtain⟨p,c,o,_⟩:=h.out;exact az o
theorem cf.keep(h:cf w A R l)(y:∀k,k<=R->w'.1[k]?=w.1[k]?)(I:w.1.size<=w'.1.size):cf w' A R l:=by
 obtain⟨p,c,z,D,E,o⟩:=h.out;have K:=h.low;exact⟨⟨p,c,(y R xZ).trans z,D.keep o (fun k J=>y k (by omega)) I,E,o⟩,h.small,h.low⟩
theorem cf.on(h:cf w A R l)(hb:Below w.1.size w w'):cf w' A R l:=h.keep (fun k o=>hb.block k (by have:=h.lt;omega)) hb.size
theorem cf.aside{F:Nat->Prop}(h:cf w A R l)(o:Aside F w w')(y:∀k,F k->R<k):cf w' A R l :=
 h.keep (fun k D=>o.block k (by have:=h.lt;omega) (fun z=>by have:=y k z;omega)) o.size
theorem cf.drew(h:cf w A R l):cf w.drew A R l:=h.keep (fun _ _=>rfl) xZ
theorem cf.cut{p:OA}{c:Nat}(h:cf w A R l)(y:w.1[R]?=some (.cells #[.slice p l.length c] 129 (0,0)))(z:At w p l)(D:l.length<=c)(E:l≠[]->∀a,p=some a->a.block<A)(n:Nat)(M:n<=l.length):
  cf (w.setCell ⟨R,0,none⟩ (.slice (dI p n c) (l.length-n) (c-n))) A R (l.drop n):=by
 have J:=h.low;have o:l.drop n≠[]->∀a,dI p n c=some a->a.block<A:=fun K=>fA (E (fun I=>K (by rw[I];simp)));refine⟨⟨dI p n c,c-n,?_,?_,by rw[List.length_drop];omega,o⟩,by rw[List.length_drop];have:=h.small;omega,J⟩
 ·rw[an y 0,List.length_drop];rfl
 ·refine(z.cut n c D).keep o (fun k L=>?_) (by simp[World.setCell]);exact Below.heap_setCell _ _ _ _ (by show k≠R;omega)
def RdB{α:Type}(w:World)(A R:Nat)(l:L8)(r:Except Nat (α×Nat))(V:α->Value->World->Prop)(e:Ending)(w':World):Prop:=match r with
 |.error k=>e=.panicked (ei k)∧Aside (fun i=>i=R) w w'
 |.ok (a,j)=>∃v,e=.returned v∧V a v w'∧cf w' A R (l.drop j)∧Aside (fun i=>i=R) w w'
theorem RdB.good{o:Type}{w w':World}{A R:Nat}{l:L8}{a:o}{j:Nat}{V:o->Value->World->Prop}{e:Ending}(h:RdB w A R l (.ok (a,j)) V e w'):∃v,e=.returned v∧V a v w'∧cf w' A R (l.drop j)∧Aside (fun i=>i=R) w w':=h
theorem RdB.bad{o:Type}{w w':World}{A R:Nat}{l:L8}{k:Nat}{V:o->Value->World->Prop}{e:Ending}(h:RdB w A R l (.error k) V e w'):e=.panicked (ei k)∧Aside (fun i=>i=R) w w':=h
theorem iu(a:Value)(k:Int)(w:World):Calls Tryz.prog 139 #[a,.bool true,.int .i64 k] w fun e w'=>e=.returned (.tuple #[])∧w'=w:=by
 go_enter Tryz.func139,Tryz.ntmps139;go_wp2;go_end0;exact⟨rfl,rfl⟩
theorem fQ(a:Value)(k:Nat)(w:World):Calls Tryz.prog 139 #[a,.bool false,.int .i64 k] w fun e w'=>e=.panicked (ei k)∧w'=w:=by
 go_enter Tryz.func139,Tryz.ntmps139;go_wp2;exact⟨rfl,rfl,rfl⟩
theorem fP(z:Nat)(a0:z<=1099511627776)(l:L8)(A R:Nat)(w:World)(h:cf w A R l):Calls Tryz.prog 138 #[.pointer (some ⟨R,0,none⟩),.int .u64 z] w (RdB w A R l (Fr.nb z l) isI):=by
 obtain⟨p,c,E,J,K,L⟩:=h.out;have a2:=h.small;have c0:w.cell? ⟨R,0,none⟩=some (.slice p l.length c):=aa E 0;have ah:=ab E 0;have y:=xX (pd p c l 0 (by omega) K w J);obtain⟨r,O⟩:∃r,r=Fr.nb z l:=⟨_,rfl⟩;have D:=xX O;rw[<-O];clear O;cases hm:Sch.num l with
 |error er=>
  have I:Hid (r=.error 5):=by show _=_;rw[D.out,Fr.nb,hm]
  obtain⟨Y,m,V⟩:=ke hm;rw[V] at y;have aj:((er:Int)==0)=false:=aK (by omega);clear hm D V E J K L h Y;go_enter Tryz.func138,Tryz.ntmps138;go_wp2_with fail;refine y.out.mono ?_;rintro e w1 ⟨rfl,o⟩;rw[o];clear o w1 y;go_wp2_with fail;refine(fQ _ 5 _).mono ?_;rintro e w1 ⟨rfl,o⟩;rw[o];clear o w1;go_wp2;rw[I.out];exact⟨rfl,rfl,Aside.refl _ _⟩
 |ok nk=>
  obtain⟨n,k⟩:=nk;rw[mB hm] at y;obtain⟨M,a1⟩:=i9 hm;have Z:=dj p l.length c k M w;have U:=xX (h.cut E J K L k M);by_cases W:n<z
  ·have I:Hid (r=.ok (n,k)):=(by show _=_;rw[D.out,Fr.nb,hm];exact if_pos W);have X:(n:Int)<(z:Int):=(by omega);have ak:(n:Int)<=1099511627776:=(by omega);clear hm D E J K L h M;go_enter Tryz.func138,Tryz.ntmps138;go_wp2_with fail;refine y.out.mono ?_;rintro e w1 ⟨rfl,o⟩;rw[o];clear o w1 y;go_wp2_with fail;refine(iu _ 5 _).mono ?_;rintro e w1 ⟨rfl,o⟩;rw[o];clear o w1;go_wp2;go_ret;rw[I.out];exact⟨_,rfl,rfl,U.out,ai _ _ _ _⟩
  ·have I:Hid (r=.error 5):=(by show _=_;rw[D.out,Fr.nb,hm];exact if_neg W);have X:¬(n:Int)<(z:Int):=(by omega);clear hm D E J K L h M Z U;go_enter Tryz.func138,Tryz.ntmps138;go_wp2_with fail;refine y.out.mono ?_;rintro e w1 ⟨rfl,o⟩;rw[o];clear o w1 y;go_wp2_with fail;refine(fQ _ 5 _).mono ?_;rintro e w1 ⟨rfl,o⟩;rw[o];clear o w1;go_wp2;rw[I.out];exact⟨rfl,rfl,Aside.refl _ _⟩
theorem eD(l:L8)(A R:Nat)(w:World)(h:cf w A R l):Calls Tryz.prog 140 #[.pointer (some ⟨R,0,none⟩)] w (RdB w A R l (Fr.nb 1099511627776 l) isI):=by
 have o:=xX (fP 1099511627776 (by omega) l A R w h);clear h;obtain⟨r,J⟩:∃r,r=Fr.nb 1099511627776 l:=⟨_,rfl⟩;rw[<-J] at o ⊢;clear J;cases r with
 |error er=>
  go_enter Tryz.func140,Tryz.ntmps140;go_wp2_with fail;refine o.out.mono ?_;intro e w1 z;obtain⟨E,y⟩:=z.bad;subst E;have D:=xX y;clear z y o;go_wp2;exact⟨rfl,rfl,D.out⟩
 |ok nk=>
  obtain⟨n,k⟩:=nk;go_enter Tryz.func140,Tryz.ntmps140;go_wp2_with fail;refine o.out.mono ?_;intro e w1 z;obtain⟨v,E,I,K,y⟩:=z.good
  replace I:v=.int .i64 (n:Nat):=I
  subst I;subst E;have D:=xX y;have L:=xX K;clear z y K o;go_wp2;go_ret;exact⟨_,rfl,rfl,L.out,D.out⟩
end
section
open Go.RowKit
def fC(w:World)(R:Nat)(r:Except Nat Fr)(V:Fr->Value->World->Prop)(e:Ending)(w':World):Prop:=match r with
 |.error k=>e=.panicked (ei k)∧Aside (fun i=>i=R) w w'
 |.ok f=>∃v,e=.returned v∧V f v w'∧Aside (fun i=>i=R) w w'
def xw(B:Nat)(f:Fr)(v:Value)(w:World):Prop:=∃sp sc,v=.agg #[.int .i64 f.number,.slice sp f.cols.length sc]∧cS w B #[.slice sp f.cols.length sc] f.cols
def xy(B:Nat)(f:Fr)(v:Value)(w:World):Prop:=∃bp bc,v=.agg #[.int .i64 f.number,.int .i64 f.seq,.int .i64 f.first,.int .i64 f.rows,.slice bp f.block.length bc]∧Has w B (.slice bp f.block.length bc) f.block
def sQ(B:Nat)(f:Fr)(v:Value)(w:World):Prop:=∃ep ec,v=.agg #[.int .i64 f.index.at_,.int .i64 f.index.frames,.int .i64 f.index.rows,.slice ep f.index.entries.length ec]∧bv w B (.slice ep f.index.entries.length ec) f.index.entries
theorem gw{W:World}{G:Nat->Prop}(h:cS w B u s)(L:Aside G w W)(y:∀k,B<=k->k<w.1.size->¬G k):cS W B u s:=by
 obtain⟨v,us,I,J,o,K⟩:=h.out;exact⟨v,us,I,J,o.aside L (fun g z=>y g (o.lt g z).1 (o.lt g z).2) (fun j D k E=>y k (o.range j D k E).1 (o.range j D k E).2),K⟩
theorem fF{B':Nat}(h:cS w B u s)(E:B'<=B):cS w B' u s:=by
 obtain⟨v,us,o,y,z,D⟩:=h.out;exact⟨v,us,o,y,z.low E,D⟩
theorem ju(l:L8)(A R:Nat)(w:World)(h:cf w A R l):Calls Tryz.prog 108 #[.pointer (some ⟨R,0,none⟩)] w (fC w R (Fr.rdS l) (xw w.1.size)):=by
 obtain⟨w0,O⟩:∃w0,w0=w.alloc (.cells #[.int .i64 0,.slice none 0 0] 122):=⟨_,rfl⟩;have ci:w0.1.size=w.1.size+1:=by rw[O];simp
 have a5:Hid (Below w.1.size w w0):=by rw[O];exact xV
 have bq:Hid (w0.1[w.1.size]?=some (.cells #[.int .i64 0,.slice none 0 0] 122 (0,0))):=by show _=_;rw[O];exact ag w _
 have a6:Hid (w.alloc (.cells #[.int .i64 0,.slice none 0 0] 122)=w0):=by rw[O];exact rfl
 have bT:=xX (h.on a5.out);have b7:=h.lt;have K:=xX (fP 2147483648 (by omega) l A R w0 bT.out);obtain⟨r,ah⟩:∃r,r=Fr.rdS l:=⟨_,rfl⟩
 have V:Hid (r=match Fr.nb 2147483648 l with
  |.error e=>.error e
  |.ok (n,k)=>match Sch.read (l.drop k) with
   |.error e=>.error e
   |.ok s=>.ok { Fr0 with kind:=1,number:=n,cols:=s }):=ah
 rw[<-ah];have a4:Hid (Aside (fun i=>i=R) w w0):=ae a5.out _;clear ah h O;cases hm:Fr.nb 2147483648 l with
 |error er=>
  rw[hm] at K;have D:Hid (r=.error er):=by show _=_;rw[V.out,hm]
  clear hm V;go_enter Tryz.func108,Tryz.ntmps108;go_wp2_with fail;rw[a6.out];refine K.out.mono ?_;intro e w1 M;obtain⟨Z,E⟩:=M.bad;subst Z;have U:=xX (a4.out.trans E (fun _ _ h=>h));clear M E K;go_wp2;rw[D.out];exact⟨rfl,rfl,U.out⟩
 |ok nk=>
  obtain⟨n,k⟩:=nk;rw[hm] at K
  have D:Hid (r=match Sch.read (l.drop k) with
   |.error e=>.error e
   |.ok s=>.ok { Fr0 with kind:=1,number:=n,cols:=s }):=by show _=_;rw[V.out,hm]
  clear hm V;go_enter Tryz.func108,Tryz.ntmps108;go_wp2_with fail;rw[a6.out];refine K.out.mono ?_;intro e w1 M;obtain⟨v,Z,a1,aj,E⟩:=M.good
  replace a1:v=.int .i64 (n:Nat):=a1
  subst a1;subst Z;have U:=xX (a4.out.trans E (fun _ _ h=>h));obtain⟨bk,c1,bd,bc,be,-⟩:=aj.out;have b2:w1.cell? ⟨R,0,none⟩=some (.slice bk (l.drop k).length c1):=aa bd 0;have cc:=aj.small;have bs:Hid (w1.1[w.1.size]?=some (.cells #[.int .i64 0,.slice none 0 0] 122 (0,0))):=(E.block _ (by omega) (by omega)).trans bq.out;have b9:w.1.size+1<=w1.1.size:=by have:=E.size;omega
  have J:=xX (pg bk (l.drop k) c1 (by omega) be w1 bc);clear M E aj K bd bc be;obtain⟨L,bb⟩:∃L,L=(l.drop k).length:=⟨_,rfl⟩;rw[<-bb] at J b2;clear bb;obtain⟨a3,a0⟩:∃a3,a3=Sch.read (l.drop k):=⟨_,rfl⟩;rw[<-a0] at J D;have Y:=xX a0;clear a0;cases a3 with
  |error er=>
   have X:Hid (r=.error er):=D.out;have b1:er≠0:=Sch.read_ne Y.out.symm;have b3:((er:Int)==0)=false:=aK (by omega);go_wp2_with fail;refine J.out.mono ?_;rintro e I ⟨rfl,hb⟩;have bp:=xX hb;have W:Hid (∀o,Aside (fun i=>i=R) w (I.alloc o)):=fun o=>(U.out.trans (ae hb (fun i=>i=R)) (fun _ _ h=>h)).alloc o;clear hb J D b1 Y;go_wp2_with fail;refine(fQ _ er _).mono ?_;rintro e w3 ⟨rfl,y⟩;rw[y];clear y w3;go_wp2;rw[X.out];exact⟨rfl,rfl,W.out _⟩
  |ok s=>
   have X:Hid (r=.ok { Fr0 with kind:=1,number:=n,cols:=s }):=D.out;go_wp2_with fail;refine J.out.mono ?_;rintro e I ⟨u,rfl,ak,hb⟩;have a9:I.1[w.1.size]?=some (.cells #[.int .i64 0,.slice none 0 0] 122 (0,0)):=(hb.block _ (by omega)).trans bs.out;obtain⟨sp,z,rfl,-,-,-⟩:=ak.lies.out;have bX:=xX ak;have bp:=xX hb;have cb:=hb.size;have W:=xX (U.out.trans (ae hb (fun i=>i=R)) (fun _ _ h=>h));obtain⟨w3,y⟩:∃w3,w3=I.alloc (.cells #[.slice sp s.length z] 41):=⟨_,rfl⟩;have hK3:w3.1[w.1.size]?=some (.cells #[.int .i64 0,.slice none 0 0] 122 (0,0)):=(by rw[y,aG _ _ (by omega)];exact a9);have bN:=xX hK3;have cj:w3.cell? ⟨w.1.size,0,none⟩=some (.int .i64 0):=aa hK3 0;have ck:w3.cell? ⟨w.1.size,1,none⟩=some (.slice none 0 0):=aa hK3 1;have cn:=ab hK3 0;have co:=ab hK3 1;have cp:w3.cell? ⟨I.1.size,0,none⟩=some (.slice sp s.length z):=(by rw[y];simp);have bn:Hid (Aside (fun i=>i=R) w w3):=(by rw[y];exact W.out.alloc _);have bl:Hid (Aside (fun i=>i=w.1.size) I w3):=(by rw[y];exact(Aside.refl _ _).alloc _);have b0:Hid (I.alloc (.cells #[.slice sp s.length z] 41)=w3):=(by rw[y];exact rfl);clear hb J D Y ak a9 hK3 y;go_wp2_with fail;rw[b0.out];refine(iu _ _ _).mono ?_;rintro e w4 ⟨rfl,bj⟩;rw[bj];clear bj w4;go_wp2;have bO:Hid (((w3.setCell ⟨w.1.size,0,none⟩ (.int .i64 n)).setCell ⟨w.1.size,1,none⟩ (.slice sp s.length z)).1[w.1.size]?=some (.cells #[.int .i64 n,.slice sp s.length z] 122 (0,0))):=an (an bN.out 0 _) 1 _
   have a8:Aside (fun i=>i=w.1.size) w3 ((w3.setCell ⟨w.1.size,0,none⟩ (.int .i64 n)).setCell ⟨w.1.size,1,none⟩ (.slice sp s.length z)):=(ai w3 w.1.size 0 _).trans (ai _ w.1.size 1 _) (fun _ _ h=>h);refine bodyPost_ret (v:=.agg #[.int .i64 n,.slice sp s.length z]) (results_cell_row rfl _ _ w.1.size _ _ _ _ rfl bO.out Tryz.underlying122 rfl (by kernel_rfl)) rfl ?_;rw[X.out];refine⟨_,rfl,⟨sp,z,rfl,?_⟩,?_⟩
   ·exact fF (gw bX.out (bl.out.trans a8 (fun _ _ h=>h)) (fun k b4 b5 b6=>by omega)) (by omega)
   ·exact bn.out.trans a8 (fun i b8 h=>by omega)
end
section
open Go.RowKit
theorem xm(a b c d:Nat)(l:L8):Fr.nbs [a,b,c,d] l=ao (Fr.nb a l) fun x k=>ao (Fr.nb b (l.drop k)) fun z o=>ao (Fr.nb c ((l.drop k).drop o)) fun D y=>ao (Fr.nb d (((l.drop k).drop o).drop y)) fun t E=>.ok ([x,z,D,t],k+(o+(y+(E+0)))):=by
 unfold Fr.nbs;cases Fr.nb a l with
 |error e=>rfl
 |ok p=>
  obtain⟨x,k⟩:=p;dsimp only[ao];unfold Fr.nbs;cases Fr.nb b (l.drop k) with
  |error e=>rfl
  |ok p=>
   obtain⟨z,o⟩:=p;dsimp only[ao];unfold Fr.nbs;cases Fr.nb c ((l.drop k).drop o) with
   |error e=>rfl
   |ok p=>
    obtain⟨D,y⟩:=p;dsimp only[ao];unfold Fr.nbs;cases Fr.nb d (((l.drop k).drop o).drop y) with
    |error e=>rfl
    |ok p=>rfl
theorem vA(l:L8)(k o y z:Nat):l.drop (k+(o+(y+(z+0))))=(((l.drop k).drop o).drop y).drop z:=by
 rw[List.drop_drop,List.drop_drop,List.drop_drop,Nat.add_zero]
def xD(n q f r:Nat)(b:L8):Fr:={ Fr0 with kind:=2,number:=n,seq:=q,first:=f,rows:=r,block:=b }
theorem vN(l:L8):Fr.rdD l=ao (Fr.nb 2147483648 l) fun n k=>ao (Fr.nb 1099511627776 (l.drop k)) fun q o=>ao (Fr.nb 1099511627776 ((l.drop k).drop o)) fun f y=>ao (Fr.nb 65 (((l.drop k).drop o).drop y)) fun r z=>if r<1 then .error 5 else .ok (xD n q f r ((((l.drop k).drop o).drop y).drop z)):=by
 unfold Fr.rdD;rw[xm];cases Fr.nb 2147483648 l with
 |error e=>rfl
 |ok p=>
  obtain⟨x,k⟩:=p;dsimp only[ao];cases Fr.nb 1099511627776 (l.drop k) with
  |error e=>rfl
  |ok p=>
   obtain⟨D,o⟩:=p;dsimp only[ao];cases Fr.nb 1099511627776 ((l.drop k).drop o) with
   |error e=>rfl
   |ok p=>
    obtain⟨E,y⟩:=p;dsimp only[ao];cases Fr.nb 65 (((l.drop k).drop o).drop y) with
    |error e=>rfl
    |ok p=>
     obtain⟨t,z⟩:=p;dsimp only[ao];rw[vA];rfl
theorem mI(l:L8)(A R:Nat)(w:World)(h:cf w A R l):Calls Tryz.prog 109 #[.pointer (some ⟨R,0,none⟩)] w (fC w R (Fr.rdD l) (xy w.1.size)):=by
 obtain⟨w0,aj⟩:∃w0,w0=w.alloc (.cells #[.int .i64 0,.int .i64 0,.int .i64 0,.int .i64 0,.slice none 0 0] 124):=⟨_,rfl⟩;have d6:w0.1.size=w.1.size+1:=by rw[aj];simp
 have be:Hid (Below w.1.size w w0):=by rw[aj];exact xV
 have bl:Hid (w0.1[w.1.size]?=some (.cells #[.int .i64 0,.int .i64 0,.int .i64 0,.int .i64 0,.slice none 0 0] 124 (0,0))):=by show _=_;rw[aj];exact ag w _
 have cs:Hid (w.alloc (.cells #[.int .i64 0,.int .i64 0,.int .i64 0,.int .i64 0,.slice none 0 0] 124)=w0):=by rw[aj];exact rfl
 have bs:=xX (h.on be.out);have d2:=h.lt;obtain⟨r,a9⟩:∃r,r=Fr.rdD l:=⟨_,rfl⟩;have Y:=xX (a9.trans (vN l));rw[<-a9];have a2:Hid (Aside (fun i=>i=R) w w0):=ae be.out _;obtain⟨Z,bT⟩:∃Z,Z=l:=⟨_,rfl⟩;rw[<-bT] at bs Y;clear a9 h aj bT;go_enter Tryz.func109,Tryz.ntmps109;have z:=xX (fP 2147483648 (by omega) Z A R w0 bs.out);obtain⟨dr,b5⟩:∃m,m=Fr.nb 2147483648 Z:=⟨_,rfl⟩;rw[<-b5] at z Y;clear b5;go_wp2_with fail;rw[cs.out];refine z.out.mono ?_;intro e w1 y;cases dr with
 |error er=>
  have J:Hid (r=.error er):=Y.out;obtain⟨D,o⟩:=y.bad;subst D;have L:=xX (a2.out.trans o (fun _ _ h=>h));clear y o z;go_wp2;rw[J.out];exact⟨rfl,rfl,L.out⟩
 |ok nk=>
  obtain⟨n,c9⟩:=nk;obtain⟨v,D,I,E,o⟩:=y.good
  replace I:v=.int .i64 (n:Nat):=I
  subst I;subst D;have a3:=xX (a2.out.trans o (fun _ _ h=>h));have bn:Hid (w1.1[w.1.size]?=some (.cells #[.int .i64 0,.int .i64 0,.int .i64 0,.int .i64 0,.slice none 0 0] 124 (0,0))):=(o.block _ (by omega) (by omega)).trans bl.out;have d7:w.1.size+1<=w1.1.size:=by have:=o.size;omega
  have U:=xX (show r=_ from Y.out);dsimp only[ao] at U;obtain⟨a6,bX⟩:∃M,M=Z.drop c9:=⟨_,rfl⟩;rw[<-bX] at U E;have cn:=xX E;clear y o E z bX Y a2 bl;have z:=xX (eD a6 A R w1 cn.out);obtain⟨ds,b6⟩:∃m,m=Fr.nb 1099511627776 a6:=⟨_,rfl⟩;rw[<-b6] at z U;clear b6;go_wp2_with fail;refine z.out.mono ?_;intro e bb y;cases ds with
  |error er=>
   have J:Hid (r=.error er):=U.out;obtain⟨D,o⟩:=y.bad;subst D;have L:=xX (a3.out.trans o (fun _ _ h=>h));clear y o z;go_wp2;rw[J.out];exact⟨rfl,rfl,L.out⟩
  |ok nk=>
   obtain⟨q,dd⟩:=nk;obtain⟨v,D,I,E,o⟩:=y.good
   replace I:v=.int .i64 (q:Nat):=I
   subst I;subst D;have a4:=xX (a3.out.trans o (fun _ _ h=>h));have bp:Hid (bb.1[w.1.size]?=some (.cells #[.int .i64 0,.int .i64 0,.int .i64 0,.int .i64 0,.slice none 0 0] 124 (0,0))):=(o.block _ (by omega) (by omega)).trans bn.out;have d8:w.1.size+1<=bb.1.size:=(by have:=o.size;omega);have V:=xX (show r=_ from U.out);dsimp only[ao] at V;obtain⟨a7,b0⟩:∃M,M=a6.drop dd:=⟨_,rfl⟩;rw[<-b0] at V E;have co:=xX E;clear y o E z b0 U a3 bn;have z:=xX (eD a7 A R bb co.out);obtain⟨dv,b7⟩:∃m,m=Fr.nb 1099511627776 a7:=⟨_,rfl⟩;rw[<-b7] at z V;clear b7;go_wp2_with fail;refine z.out.mono ?_;intro e bc y;cases dv with
   |error er=>
    have J:Hid (r=.error er):=V.out;obtain⟨D,o⟩:=y.bad;subst D;have L:=xX (a4.out.trans o (fun _ _ h=>h));clear y o z;go_wp2;rw[J.out];exact⟨rfl,rfl,L.out⟩
   |ok nk=>
    obtain⟨f,df⟩:=nk;obtain⟨v,D,I,E,o⟩:=y.good
    replace I:v=.int .i64 (f:Nat):=I
    subst I;subst D;have a5:=xX (a4.out.trans o (fun _ _ h=>h));have bq:Hid (bc.1[w.1.size]?=some (.cells #[.int .i64 0,.int .i64 0,.int .i64 0,.int .i64 0,.slice none 0 0] 124 (0,0))):=(o.block _ (by omega) (by omega)).trans bp.out;have d9:w.1.size+1<=bc.1.size:=(by have:=o.size;omega);have W:=xX (show r=_ from V.out);dsimp only[ao] at W;obtain⟨a8,b1⟩:∃M,M=a7.drop df:=⟨_,rfl⟩;rw[<-b1] at W E;have cp:=xX E;clear y o E z b1 V a4 bp;have z:=xX (fP 65 (by omega) a8 A R bc cp.out);obtain⟨d0,b8⟩:∃m,m=Fr.nb 65 a8:=⟨_,rfl⟩;rw[<-b8] at z W;clear b8;go_wp2_with fail;refine z.out.mono ?_;intro e w4 y;cases d0 with
    |error er=>
     have J:Hid (r=.error er):=W.out;obtain⟨D,o⟩:=y.bad;subst D;have L:=xX (a5.out.trans o (fun _ _ h=>h));clear y o z;go_wp2;rw[J.out];exact⟨rfl,rfl,L.out⟩
    |ok nk=>
     obtain⟨t,dp⟩:=nk;obtain⟨v,D,I,E,o⟩:=y.good
     replace I:v=.int .i64 (t:Nat):=I
     subst I;subst D;have bd:=xX (a5.out.trans o (fun _ _ h=>h));have ci:Hid (w4.1[w.1.size]?=some (.cells #[.int .i64 0,.int .i64 0,.int .i64 0,.int .i64 0,.slice none 0 0] 124 (0,0))):=(o.block _ (by omega) (by omega)).trans bq.out;have ea:w.1.size+1<=w4.1.size:=(by have:=o.size;omega);have X:=xX (show r=_ from W.out);dsimp only[ao] at X;obtain⟨O,b2⟩:∃M,M=a8.drop dp:=⟨_,rfl⟩;rw[<-b2] at X E;have bN:=xX E;clear y o E z b2 W a5 bq;obtain⟨b9,c1,b4,b3,c7,-⟩:=bN.out.out;have eb:w4.cell? ⟨R,0,none⟩=some (.slice b9 O.length c1):=aa b4 0;have d5:=bN.out.small;have cc:=xX b3;clear b4 b3 c7;by_cases a1:t<1
     ·have J:Hid (r=.error 5):=X.out.trans (if_pos a1);have c6:t=0:=(by omega);subst c6;clear X a1;go_wp2_with fail;refine(fQ _ 5 _).mono ?_;rintro e w5 ⟨rfl,ak⟩;rw[ak];clear ak w5;go_wp2;rw[J.out];exact⟨rfl,rfl,bd.out⟩
     ·have cq:Hid (r=.ok (xD n q f t O)):=X.out.trans (if_neg a1);have c5:0<t:=(by omega);have d1:decide (0<t)=true:=decide_eq_true c5;have bj:=xX (wM b9 c1 O (by omega) w4 cc.out);clear X a1;go_wp2_with fail;refine(iu _ 5 _).mono ?_;rintro e w5 ⟨rfl,ak⟩;rw[ak];clear ak w5;go_wp2_with fail;refine bj.out.mono ?_;rintro e w5 ⟨a0,ah,rfl,y,hb⟩;have K:w5.1[w.1.size]?=some (.cells #[.int .i64 0,.int .i64 0,.int .i64 0,.int .i64 0,.slice none 0 0] 124 (0,0)):=(hb.block _ (by omega)).trans ci.out;have cj:=xX K;obtain⟨ec,el,em,en,ep⟩:=cQ5 K;have eq:=ab K 0;have eu:=ab K 1;have ew:=ab K 2;have ez:=ab K 3;have eC:=ab K 4;have bk:=xX y;have cb:=xX (bd.out.trans (ae hb (fun i=>i=R)) (fun _ _ h=>h));clear K y hb bj;go_wp2;have ct:(w5.setCell ⟨w.1.size,0,none⟩ (.int .i64 n)).1[w.1.size]?=some (.cells #[.int .i64 n,.int .i64 0,.int .i64 0,.int .i64 0,.slice none 0 0] 124 (0,0)):=an cj.out 0 _;have cv:((w5.setCell ⟨w.1.size,0,none⟩ (.int .i64 n)).setCell ⟨w.1.size,1,none⟩ (.int .i64 q)).1[w.1.size]?=some (.cells #[.int .i64 n,.int .i64 q,.int .i64 0,.int .i64 0,.slice none 0 0] 124 (0,0)):=an ct 1 _;have cw:(((w5.setCell ⟨w.1.size,0,none⟩ (.int .i64 n)).setCell ⟨w.1.size,1,none⟩ (.int .i64 q)).setCell ⟨w.1.size,2,none⟩ (.int .i64 f)).1[w.1.size]?=some (.cells #[.int .i64 n,.int .i64 q,.int .i64 f,.int .i64 0,.slice none 0 0] 124 (0,0)):=an cv 2 _
      have cx:((((w5.setCell ⟨w.1.size,0,none⟩ (.int .i64 n)).setCell ⟨w.1.size,1,none⟩ (.int .i64 q)).setCell ⟨w.1.size,2,none⟩ (.int .i64 f)).setCell ⟨w.1.size,3,none⟩ (.int .i64 t)).1[w.1.size]?=some (.cells #[.int .i64 n,.int .i64 q,.int .i64 f,.int .i64 t,.slice none 0 0] 124 (0,0)):=an cw 3 _;have cy:(((((w5.setCell ⟨w.1.size,0,none⟩ (.int .i64 n)).setCell ⟨w.1.size,1,none⟩ (.int .i64 q)).setCell ⟨w.1.size,2,none⟩ (.int .i64 f)).setCell ⟨w.1.size,3,none⟩ (.int .i64 t)).setCell ⟨w.1.size,4,none⟩ (.slice a0 O.length ah)).1[w.1.size]?=some (.cells #[.int .i64 n,.int .i64 q,.int .i64 f,.int .i64 t,.slice a0 O.length ah] 124 (0,0)):=an cx 4 _;have ck:=xX cy;have bO:Aside (fun i=>i=w.1.size) w5 (((((w5.setCell ⟨w.1.size,0,none⟩ (.int .i64 n)).setCell ⟨w.1.size,1,none⟩ (.int .i64 q)).setCell ⟨w.1.size,2,none⟩ (.int .i64 f)).setCell ⟨w.1.size,3,none⟩ (.int .i64 t)).setCell ⟨w.1.size,4,none⟩ (.slice a0 O.length ah)):=((((ai w5 w.1.size 0 _).trans (ai _ w.1.size 1 _) (fun _ _ h=>h)).trans (ai _ w.1.size 2 _) (fun _ _ h=>h)).trans (ai _ w.1.size 3 _) (fun _ _ h=>h)).trans (ai _ w.1.size 4 _) (fun _ _ h=>h);refine bodyPost_ret (v:=.agg #[.int .i64 n,.int .i64 q,.int .i64 f,.int .i64 t,.slice a0 O.length ah]) (results_cell_row rfl _ _ w.1.size _ _ _ _ rfl ck.out Tryz.underlying124 rfl (by kernel_rfl)) rfl ?_;rw[cq.out];refine⟨_,rfl,⟨a0,ah,rfl,?_⟩,?_⟩
      ·exact(bk.out.aside bO (fun k c8 d3=>by have:=(bk.out.lt k c8).1;omega)).lower (by omega)
      ·exact cb.out.trans bO (fun i d4 h=>by omega)
end
end Go.Proofs.YtdkammppnkhhoaaGreatDoor
