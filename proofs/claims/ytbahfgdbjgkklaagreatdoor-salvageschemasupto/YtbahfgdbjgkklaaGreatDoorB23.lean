import Derived.Test.YtbahfgdbjgkklaaGreatDoorB21
import Derived.Test.YtbahfgdbjgkklaaGreatDoorB19
set_option maxRecDepth 100000
set_option maxHeartbeats 4000000
namespace Go.Proofs.YtbahfgdbjgkklaaGreatDoor
variable{A B R:Nat}{w w':World}{l:L8}{u:AV}{s:List Col}
section
open Go.RowKit
structure cH(w:World)(A R:Nat)(l:L8):Prop where
 out:∃p c,w.1[R]?=some (.cells #[.slice p l.length c] 131 (0,0))∧At w p l∧l.length<=c∧(l≠[]->∀a,p=some a->a.block<A)
 small:l.length<=2200
 low:A<=R
theorem cH.lt(h:cH w A R l):R<w.1.size:=by
 obtain⟨p,c,o,_⟩:=h.out;exact au o
theorem cH.keep(h:cH w A R l)(y:∀k,k<=R->w'.1[k]?=w.1[k]?)(I:w.1.size<=w'.1.size):cH w' A R l:=by
 obtain⟨p,c,z,D,E,o⟩:=h.out;have K:=h.low;exact⟨⟨p,c,(y R gQx).trans z,D.keep o (fun k J=>y k (by omega)) I,E,o⟩,h.small,h.low⟩
theorem cH.on(h:cH w A R l)(hb:Below w.1.size w w'):cH w' A R l:=h.keep (fun k o=>hb.block k (by have:=h.lt;omega)) hb.size
theorem cH.aside{F:Nat->Prop}(h:cH w A R l)(o:Aside F w w')(y:∀k,F k->R<k):cH w' A R l :=
 h.keep (fun k D=>o.block k (by have:=h.lt;omega) (fun z=>by have:=y k z;omega)) o.size
theorem cH.drew(h:cH w A R l):cH w.drew A R l:=h.keep (fun _ _=>rfl) gQx
theorem cH.cut{p:OA}{c:Nat}(h:cH w A R l)(y:w.1[R]?=some (.cells #[.slice p l.length c] 131 (0,0)))(z:At w p l)(D:l.length<=c)(E:l≠[]->∀a,p=some a->a.block<A)(n:Nat)(M:n<=l.length):
  cH (w.setCell ⟨R,0,none⟩ (.slice (dN p n c) (l.length-n) (c-n))) A R (l.drop n):=by
 have J:=h.low;have o:l.drop n≠[]->∀a,dN p n c=some a->a.block<A:=fun K=>gF (E (fun I=>K (by rw[I];simp)));refine⟨⟨dN p n c,c-n,?_,?_,by rw[List.length_drop];omega,o⟩,by rw[List.length_drop];have:=h.small;omega,J⟩
 ·rw[ai y 0,List.length_drop];rfl
 ·refine(z.cut n c D).keep o (fun k L=>?_) (by simp[World.setCell]);exact Below.heap_setCell _ _ _ _ (by show k≠R;omega)
def RdB{α:Type}(w:World)(A R:Nat)(l:L8)(r:Except Nat (α×Nat))(V:α->Value->World->Prop)(e:Ending)(w':World):Prop:=match r with
 |.error k=>e=.panicked (dK k)∧Aside (fun i=>i=R) w w'
 |.ok (a,j)=>∃v,e=.returned v∧V a v w'∧cH w' A R (l.drop j)∧Aside (fun i=>i=R) w w'
theorem RdB.good{o:Type}{w w':World}{A R:Nat}{l:L8}{a:o}{j:Nat}{V:o->Value->World->Prop}{e:Ending}(h:RdB w A R l (.ok (a,j)) V e w'):∃v,e=.returned v∧V a v w'∧cH w' A R (l.drop j)∧Aside (fun i=>i=R) w w':=h
theorem RdB.bad{o:Type}{w w':World}{A R:Nat}{l:L8}{k:Nat}{V:o->Value->World->Prop}{e:Ending}(h:RdB w A R l (.error k) V e w'):e=.panicked (dK k)∧Aside (fun i=>i=R) w w':=h
theorem ju(a:Value)(k:Int)(w:World):Calls Tryz.prog 158 #[a,.bool true,.int .i64 k] w fun e w'=>e=.returned (.tuple #[])∧w'=w:=by
 go_enter Tryz.func158,Tryz.ntmps158;go_wp2;go_end0;exact⟨rfl,rfl⟩
theorem gV(a:Value)(k:Nat)(w:World):Calls Tryz.prog 158 #[a,.bool false,.int .i64 k] w fun e w'=>e=.panicked (dK k)∧w'=w:=by
 go_enter Tryz.func158,Tryz.ntmps158;go_wp2;exact⟨rfl,rfl,rfl⟩
theorem gU(z:Nat)(ah:z<=1099511627776)(l:L8)(A R:Nat)(w:World)(h:cH w A R l):Calls Tryz.prog 157 #[.pointer (some ⟨R,0,none⟩),.int .u64 z] w (RdB w A R l (Fr.nb z l) isI):=by
 obtain⟨p,c,E,J,K,L⟩:=h.out;have ak:=h.small;have c0:w.cell? ⟨R,0,none⟩=some (.slice p l.length c):=aa E 0;have Y:=ac E 0;have y:=gQq (g9 p c l 0 (by omega) K w J);obtain⟨r,O⟩:∃r,r=Fr.nb z l:=⟨_,rfl⟩;have D:=gQq O;rw[<-O];clear O;cases hm:Sch.num l with
 |error er=>
  have I:Hid (r=.error 5):=by show _=_;rw[D.out,Fr.nb,hm]
  obtain⟨W,m,S⟩:=lL hm;rw[S] at y;have Z:((er:Int)==0)=false:=bd (by omega);clear hm D S E J K L h W;go_enter Tryz.func157,Tryz.ntmps157;go_wp2_with fail;refine y.out.mono ?_;rintro e w1 ⟨rfl,o⟩;rw[o];clear o w1 y;go_wp2_with fail;refine(gV _ 5 _).mono ?_;rintro e w1 ⟨rfl,o⟩;rw[o];clear o w1;go_wp2;rw[I.out];exact⟨rfl,rfl,Aside.refl _ _⟩
 |ok nk=>
  obtain⟨n,k⟩:=nk;rw[ov hm] at y;obtain⟨M,aj⟩:=fH hm;have X:=eI p l.length c k M w;have Q:=gQq (h.cut E J K L k M);by_cases U:n<z
  ·have I:Hid (r=.ok (n,k)):=(by show _=_;rw[D.out,Fr.nb,hm];exact if_pos U);have V:(n:Int)<(z:Int):=(by omega);have ab:(n:Int)<=1099511627776:=(by omega);clear hm D E J K L h M;go_enter Tryz.func157,Tryz.ntmps157;go_wp2_with fail;refine y.out.mono ?_;rintro e w1 ⟨rfl,o⟩;rw[o];clear o w1 y;go_wp2_with fail;refine(ju _ 5 _).mono ?_;rintro e w1 ⟨rfl,o⟩;rw[o];clear o w1;go_wp2;go_ret;rw[I.out];exact⟨_,rfl,rfl,Q.out,ag _ _ _ _⟩
  ·have I:Hid (r=.error 5):=(by show _=_;rw[D.out,Fr.nb,hm];exact if_neg U);have V:¬(n:Int)<(z:Int):=(by omega);clear hm D E J K L h M X Q;go_enter Tryz.func157,Tryz.ntmps157;go_wp2_with fail;refine y.out.mono ?_;rintro e w1 ⟨rfl,o⟩;rw[o];clear o w1 y;go_wp2_with fail;refine(gV _ 5 _).mono ?_;rintro e w1 ⟨rfl,o⟩;rw[o];clear o w1;go_wp2;rw[I.out];exact⟨rfl,rfl,Aside.refl _ _⟩
theorem fJ(l:L8)(A R:Nat)(w:World)(h:cH w A R l):Calls Tryz.prog 159 #[.pointer (some ⟨R,0,none⟩)] w (RdB w A R l (Fr.nb 1099511627776 l) isI):=by
 have o:=gQq (gU 1099511627776 (by omega) l A R w h);clear h;obtain⟨r,J⟩:∃r,r=Fr.nb 1099511627776 l:=⟨_,rfl⟩;rw[<-J] at o ⊢;clear J;cases r with
 |error er=>
  go_enter Tryz.func159,Tryz.ntmps159;go_wp2_with fail;refine o.out.mono ?_;intro e w1 z;obtain⟨E,y⟩:=z.bad;subst E;have D:=gQq y;clear z y o;go_wp2;exact⟨rfl,rfl,D.out⟩
 |ok nk=>
  obtain⟨n,k⟩:=nk;go_enter Tryz.func159,Tryz.ntmps159;go_wp2_with fail;refine o.out.mono ?_;intro e w1 z;obtain⟨v,E,I,K,y⟩:=z.good
  replace I:v=.int .i64 (n:Nat):=I
  subst I;subst E;have D:=gQq y;have L:=gQq K;clear z y K o;go_wp2;go_ret;exact⟨_,rfl,rfl,L.out,D.out⟩
end
section
open Go.RowKit
def gH(w:World)(R:Nat)(r:Except Nat Fr)(V:Fr->Value->World->Prop)(e:Ending)(w':World):Prop:=match r with
 |.error k=>e=.panicked (dK k)∧Aside (fun i=>i=R) w w'
 |.ok f=>∃v,e=.returned v∧V f v w'∧Aside (fun i=>i=R) w w'
def zw(B:Nat)(f:Fr)(v:Value)(w:World):Prop:=∃sp sc,v=.agg #[.int .i64 f.number,.slice sp f.cols.length sc]∧fv w B #[.slice sp f.cols.length sc] f.cols
def zx(B:Nat)(f:Fr)(v:Value)(w:World):Prop:=∃bp bc,v=.agg #[.int .i64 f.number,.int .i64 f.seq,.int .i64 f.first,.int .i64 f.rows,.slice bp f.block.length bc]∧Has w B (.slice bp f.block.length bc) f.block
def uQ(B:Nat)(f:Fr)(v:Value)(w:World):Prop:=∃ep ec,v=.agg #[.int .i64 f.index.at_,.int .i64 f.index.frames,.int .i64 f.index.rows,.slice ep f.index.entries.length ec]∧dO w B (.slice ep f.index.entries.length ec) f.index.entries
theorem iB{W:World}{G:Nat->Prop}(h:fv w B u s)(L:Aside G w W)(y:∀k,B<=k->k<w.1.size->¬G k):fv W B u s:=by
 obtain⟨v,us,I,J,o,K⟩:=h.out;exact⟨v,us,I,J,o.aside L (fun g z=>y g (o.lt g z).1 (o.lt g z).2) (fun j D k E=>y k (o.range j D k E).1 (o.range j D k E).2),K⟩
theorem jL{B':Nat}(h:fv w B u s)(E:B'<=B):fv w B' u s:=by
 obtain⟨v,us,o,y,z,D⟩:=h.out;exact⟨v,us,o,y,z.low E,D⟩
theorem kO(l:L8)(A R:Nat)(w:World)(h:cH w A R l):Calls Tryz.prog 97 #[.pointer (some ⟨R,0,none⟩)] w (gH w R (Fr.rdS l) (zw w.1.size)):=by
 obtain⟨w0,O⟩:∃w0,w0=w.alloc (.cells #[.int .i64 0,.slice none 0 0] 165):=⟨_,rfl⟩;have b9:w0.1.size=w.1.size+1:=by rw[O];simp
 have a2:Hid (Below w.1.size w w0):=by rw[O];exact gQy
 have bn:Hid (w0.1[w.1.size]?=some (.cells #[.int .i64 0,.slice none 0 0] 165 (0,0))):=by show _=_;rw[O];exact am w _
 have a3:Hid (w.alloc (.cells #[.int .i64 0,.slice none 0 0] 165)=w0):=by rw[O];exact rfl
 have bs:=gQq (h.on a2.out);have b4:=h.lt;have K:=gQq (gU 2147483648 (by omega) l A R w0 bs.out);obtain⟨r,Y⟩:∃r,r=Fr.rdS l:=⟨_,rfl⟩
 have S:Hid (r=match Fr.nb 2147483648 l with
  |.error e=>.error e
  |.ok (n,k)=>match Sch.read (l.drop k) with
   |.error e=>.error e
   |.ok s=>.ok { Fr0 with kind:=1,number:=n,cols:=s }):=Y
 rw[<-Y];have a1:Hid (Aside (fun i=>i=R) w w0):=al a2.out _;clear Y h O;cases hm:Fr.nb 2147483648 l with
 |error er=>
  rw[hm] at K;have D:Hid (r=.error er):=by show _=_;rw[S.out,hm]
  clear hm S;go_enter Tryz.func97,Tryz.ntmps97;go_wp2_with fail;rw[a3.out];refine K.out.mono ?_;intro e w1 M;obtain⟨X,E⟩:=M.bad;subst X;have Q:=gQq (a1.out.trans E (fun _ _ h=>h));clear M E K;go_wp2;rw[D.out];exact⟨rfl,rfl,Q.out⟩
 |ok nk=>
  obtain⟨n,k⟩:=nk;rw[hm] at K
  have D:Hid (r=match Sch.read (l.drop k) with
   |.error e=>.error e
   |.ok s=>.ok { Fr0 with kind:=1,number:=n,cols:=s }):=by show _=_;rw[S.out,hm]
  clear hm S;go_enter Tryz.func97,Tryz.ntmps97;go_wp2_with fail;rw[a3.out];refine K.out.mono ?_;intro e w1 M;obtain⟨v,X,aj,Z,E⟩:=M.good
  replace aj:v=.int .i64 (n:Nat):=aj
  subst aj;subst X;have Q:=gQq (a1.out.trans E (fun _ _ h=>h));obtain⟨be,c1,a9,a8,bb,-⟩:=Z.out;have bX:w1.cell? ⟨R,0,none⟩=some (.slice be (l.drop k).length c1):=aa a9 0;have b8:=Z.small;have bp:Hid (w1.1[w.1.size]?=some (.cells #[.int .i64 0,.slice none 0 0] 165 (0,0))):=(E.block _ (by omega) (by omega)).trans bn.out;have b6:w.1.size+1<=w1.1.size:=by have:=E.size;omega
  have J:=gQq (ri be (l.drop k) c1 (by omega) bb w1 a8);clear M E Z K a9 a8 bb;obtain⟨L,a7⟩:∃L,L=(l.drop k).length:=⟨_,rfl⟩;rw[<-a7] at J bX;clear a7;obtain⟨a0,ah⟩:∃a0,a0=Sch.read (l.drop k):=⟨_,rfl⟩;rw[<-ah] at J D;have W:=gQq ah;clear ah;cases a0 with
  |error er=>
   have V:Hid (r=.error er):=D.out;have bT:er≠0:=Sch.read_ne W.out.symm;have b0:((er:Int)==0)=false:=bd (by omega);go_wp2_with fail;refine J.out.mono ?_;rintro e I ⟨rfl,hb⟩;have bk:=gQq hb;have U:Hid (∀o,Aside (fun i=>i=R) w (I.alloc o)):=fun o=>(Q.out.trans (al hb (fun i=>i=R)) (fun _ _ h=>h)).alloc o;clear hb J D bT W;go_wp2_with fail;refine(gV _ er _).mono ?_;rintro e w3 ⟨rfl,y⟩;rw[y];clear y w3;go_wp2;rw[V.out];exact⟨rfl,rfl,U.out _⟩
  |ok s=>
   have V:Hid (r=.ok { Fr0 with kind:=1,number:=n,cols:=s }):=D.out;go_wp2_with fail;refine J.out.mono ?_;rintro e I ⟨u,rfl,ab,hb⟩;have a6:I.1[w.1.size]?=some (.cells #[.int .i64 0,.slice none 0 0] 165 (0,0)):=(hb.block _ (by omega)).trans bp.out;obtain⟨sp,z,rfl,-,-,-⟩:=ab.lies.out;have bN:=gQq ab;have bk:=gQq hb;have b7:=hb.size;have U:=gQq (Q.out.trans (al hb (fun i=>i=R)) (fun _ _ h=>h));obtain⟨w3,y⟩:∃w3,w3=I.alloc (.cells #[.slice sp s.length z] 29):=⟨_,rfl⟩;have hK3:w3.1[w.1.size]?=some (.cells #[.int .i64 0,.slice none 0 0] 165 (0,0)):=(by rw[y,aG _ _ (by omega)];exact a6);have bq:=gQq hK3;have ca:w3.cell? ⟨w.1.size,0,none⟩=some (.int .i64 0):=aa hK3 0;have cb:w3.cell? ⟨w.1.size,1,none⟩=some (.slice none 0 0):=aa hK3 1;have cc:=ac hK3 0;have cd:=ac hK3 1;have ce:w3.cell? ⟨I.1.size,0,none⟩=some (.slice sp s.length z):=(by rw[y];simp);have bj:Hid (Aside (fun i=>i=R) w w3):=(by rw[y];exact U.out.alloc _);have bi:Hid (Aside (fun i=>i=w.1.size) I w3):=(by rw[y];exact(Aside.refl _ _).alloc _);have bO:Hid (I.alloc (.cells #[.slice sp s.length z] 29)=w3):=(by rw[y];exact rfl);clear hb J D W ab a6 hK3 y;go_wp2_with fail;rw[bO.out];refine(ju _ _ _).mono ?_;rintro e w4 ⟨rfl,bc⟩;rw[bc];clear bc w4;go_wp2;have br:Hid (((w3.setCell ⟨w.1.size,0,none⟩ (.int .i64 n)).setCell ⟨w.1.size,1,none⟩ (.slice sp s.length z)).1[w.1.size]?=some (.cells #[.int .i64 n,.slice sp s.length z] 165 (0,0))):=ai (ai bq.out 0 _) 1 _
   have a5:Aside (fun i=>i=w.1.size) w3 ((w3.setCell ⟨w.1.size,0,none⟩ (.int .i64 n)).setCell ⟨w.1.size,1,none⟩ (.slice sp s.length z)):=(ag w3 w.1.size 0 _).trans (ag _ w.1.size 1 _) (fun _ _ h=>h);refine bodyPost_ret (v:=.agg #[.int .i64 n,.slice sp s.length z]) (results_cell_row rfl _ _ w.1.size _ _ _ _ rfl br.out Tryz.underlying165 rfl (by kernel_rfl)) rfl ?_;rw[V.out];refine⟨_,rfl,⟨sp,z,rfl,?_⟩,?_⟩
   ·exact jL (iB bN.out (bi.out.trans a5 (fun _ _ h=>h)) (fun k b1 b2 b3=>by omega)) (by omega)
   ·exact bj.out.trans a5 (fun i b5 h=>by omega)
end
section
open Go.RowKit
theorem zn(a b c d:Nat)(l:L8):Fr.nbs [a,b,c,d] l=ar (Fr.nb a l) fun x k=>ar (Fr.nb b (l.drop k)) fun z o=>ar (Fr.nb c ((l.drop k).drop o)) fun D y=>ar (Fr.nb d (((l.drop k).drop o).drop y)) fun t E=>.ok ([x,z,D,t],k+(o+(y+(E+0)))):=by
 unfold Fr.nbs;cases Fr.nb a l with
 |error e=>rfl
 |ok p=>
  obtain⟨x,k⟩:=p;dsimp only[ar];unfold Fr.nbs;cases Fr.nb b (l.drop k) with
  |error e=>rfl
  |ok p=>
   obtain⟨z,o⟩:=p;dsimp only[ar];unfold Fr.nbs;cases Fr.nb c ((l.drop k).drop o) with
   |error e=>rfl
   |ok p=>
    obtain⟨D,y⟩:=p;dsimp only[ar];unfold Fr.nbs;cases Fr.nb d (((l.drop k).drop o).drop y) with
    |error e=>rfl
    |ok p=>rfl
theorem xT(l:L8)(k o y z:Nat):l.drop (k+(o+(y+(z+0))))=(((l.drop k).drop o).drop y).drop z:=by
 rw[List.drop_drop,List.drop_drop,List.drop_drop,Nat.add_zero]
def zI(n q f r:Nat)(b:L8):Fr:={ Fr0 with kind:=2,number:=n,seq:=q,first:=f,rows:=r,block:=b }
theorem yi(l:L8):Fr.rdD l=ar (Fr.nb 2147483648 l) fun n k=>ar (Fr.nb 1099511627776 (l.drop k)) fun q o=>ar (Fr.nb 1099511627776 ((l.drop k).drop o)) fun f y=>ar (Fr.nb 65 (((l.drop k).drop o).drop y)) fun r z=>if r<1 then .error 5 else .ok (zI n q f r ((((l.drop k).drop o).drop y).drop z)):=by
 unfold Fr.rdD;rw[zn];cases Fr.nb 2147483648 l with
 |error e=>rfl
 |ok p=>
  obtain⟨x,k⟩:=p;dsimp only[ar];cases Fr.nb 1099511627776 (l.drop k) with
  |error e=>rfl
  |ok p=>
   obtain⟨D,o⟩:=p;dsimp only[ar];cases Fr.nb 1099511627776 ((l.drop k).drop o) with
   |error e=>rfl
   |ok p=>
    obtain⟨E,y⟩:=p;dsimp only[ar];cases Fr.nb 65 (((l.drop k).drop o).drop y) with
    |error e=>rfl
    |ok p=>
     obtain⟨t,z⟩:=p;dsimp only[ar];rw[xT];rfl
theorem oF(l:L8)(A R:Nat)(w:World)(h:cH w A R l):Calls Tryz.prog 98 #[.pointer (some ⟨R,0,none⟩)] w (gH w R (Fr.rdD l) (zx w.1.size)):=by
 obtain⟨w0,Z⟩:∃w0,w0=w.alloc (.cells #[.int .i64 0,.int .i64 0,.int .i64 0,.int .i64 0,.slice none 0 0] 167):=⟨_,rfl⟩;have dc:w0.1.size=w.1.size+1:=by rw[Z];simp
 have bb:Hid (Below w.1.size w w0):=by rw[Z];exact gQy
 have bi:Hid (w0.1[w.1.size]?=some (.cells #[.int .i64 0,.int .i64 0,.int .i64 0,.int .i64 0,.slice none 0 0] 167 (0,0))):=by show _=_;rw[Z];exact am w _
 have cg:Hid (w.alloc (.cells #[.int .i64 0,.int .i64 0,.int .i64 0,.int .i64 0,.slice none 0 0] 167)=w0):=by rw[Z];exact rfl
 have bp:=gQq (h.on bb.out);have c8:=h.lt;obtain⟨r,a6⟩:∃r,r=Fr.rdD l:=⟨_,rfl⟩;have W:=gQq (a6.trans (yi l));rw[<-a6];have ak:Hid (Aside (fun i=>i=R) w w0):=al bb.out _;obtain⟨X,bs⟩:∃X,X=l:=⟨_,rfl⟩;rw[<-bs] at bp W;clear a6 h Z bs;go_enter Tryz.func98,Tryz.ntmps98;have z:=gQq (gU 2147483648 (by omega) X A R w0 bp.out);obtain⟨cx,b2⟩:∃m,m=Fr.nb 2147483648 X:=⟨_,rfl⟩;rw[<-b2] at z W;clear b2;go_wp2_with fail;rw[cg.out];refine z.out.mono ?_;intro e w1 y;cases cx with
 |error er=>
  have J:Hid (r=.error er):=W.out;obtain⟨D,o⟩:=y.bad;subst D;have L:=gQq (ak.out.trans o (fun _ _ h=>h));clear y o z;go_wp2;rw[J.out];exact⟨rfl,rfl,L.out⟩
 |ok nk=>
  obtain⟨n,ct⟩:=nk;obtain⟨v,D,I,E,o⟩:=y.good
  replace I:v=.int .i64 (n:Nat):=I
  subst I;subst D;have a0:=gQq (ak.out.trans o (fun _ _ h=>h));have bj:Hid (w1.1[w.1.size]?=some (.cells #[.int .i64 0,.int .i64 0,.int .i64 0,.int .i64 0,.slice none 0 0] 167 (0,0))):=(o.block _ (by omega) (by omega)).trans bi.out;have dd:w.1.size+1<=w1.1.size:=by have:=o.size;omega
  have Q:=gQq (show r=_ from W.out);dsimp only[ar] at Q;obtain⟨a3,bN⟩:∃M,M=X.drop ct:=⟨_,rfl⟩;rw[<-bN] at Q E;have cc:=gQq E;clear y o E z bN W ak bi;have z:=gQq (fJ a3 A R w1 cc.out);obtain⟨cy,b3⟩:∃m,m=Fr.nb 1099511627776 a3:=⟨_,rfl⟩;rw[<-b3] at z Q;clear b3;go_wp2_with fail;refine z.out.mono ?_;intro e a7 y;cases cy with
  |error er=>
   have J:Hid (r=.error er):=Q.out;obtain⟨D,o⟩:=y.bad;subst D;have L:=gQq (a0.out.trans o (fun _ _ h=>h));clear y o z;go_wp2;rw[J.out];exact⟨rfl,rfl,L.out⟩
  |ok nk=>
   obtain⟨q,cu⟩:=nk;obtain⟨v,D,I,E,o⟩:=y.good
   replace I:v=.int .i64 (q:Nat):=I
   subst I;subst D;have a1:=gQq (a0.out.trans o (fun _ _ h=>h));have bk:Hid (a7.1[w.1.size]?=some (.cells #[.int .i64 0,.int .i64 0,.int .i64 0,.int .i64 0,.slice none 0 0] 167 (0,0))):=(o.block _ (by omega) (by omega)).trans bj.out;have de:w.1.size+1<=a7.1.size:=(by have:=o.size;omega);have S:=gQq (show r=_ from Q.out);dsimp only[ar] at S;obtain⟨a4,bO⟩:∃M,M=a3.drop cu:=⟨_,rfl⟩;rw[<-bO] at S E;have cd:=gQq E;clear y o E z bO Q a0 bj;have z:=gQq (fJ a4 A R a7 cd.out);obtain⟨c5,b4⟩:∃m,m=Fr.nb 1099511627776 a4:=⟨_,rfl⟩;rw[<-b4] at z S;clear b4;go_wp2_with fail;refine z.out.mono ?_;intro e a8 y;cases c5 with
   |error er=>
    have J:Hid (r=.error er):=S.out;obtain⟨D,o⟩:=y.bad;subst D;have L:=gQq (a1.out.trans o (fun _ _ h=>h));clear y o z;go_wp2;rw[J.out];exact⟨rfl,rfl,L.out⟩
   |ok nk=>
    obtain⟨f,cv⟩:=nk;obtain⟨v,D,I,E,o⟩:=y.good
    replace I:v=.int .i64 (f:Nat):=I
    subst I;subst D;have a2:=gQq (a1.out.trans o (fun _ _ h=>h));have bn:Hid (a8.1[w.1.size]?=some (.cells #[.int .i64 0,.int .i64 0,.int .i64 0,.int .i64 0,.slice none 0 0] 167 (0,0))):=(o.block _ (by omega) (by omega)).trans bk.out;have df:w.1.size+1<=a8.1.size:=(by have:=o.size;omega);have U:=gQq (show r=_ from S.out);dsimp only[ar] at U;obtain⟨a5,bT⟩:∃M,M=a4.drop cv:=⟨_,rfl⟩;rw[<-bT] at U E;have ce:=gQq E;clear y o E z bT S a1 bk;have z:=gQq (gU 65 (by omega) a5 A R a8 ce.out);obtain⟨c6,b5⟩:∃m,m=Fr.nb 65 a5:=⟨_,rfl⟩;rw[<-b5] at z U;clear b5;go_wp2_with fail;refine z.out.mono ?_;intro e w4 y;cases c6 with
    |error er=>
     have J:Hid (r=.error er):=U.out;obtain⟨D,o⟩:=y.bad;subst D;have L:=gQq (a2.out.trans o (fun _ _ h=>h));clear y o z;go_wp2;rw[J.out];exact⟨rfl,rfl,L.out⟩
    |ok nk=>
     obtain⟨t,cw⟩:=nk;obtain⟨v,D,I,E,o⟩:=y.good
     replace I:v=.int .i64 (t:Nat):=I
     subst I;subst D;have a9:=gQq (a2.out.trans o (fun _ _ h=>h));have b9:Hid (w4.1[w.1.size]?=some (.cells #[.int .i64 0,.int .i64 0,.int .i64 0,.int .i64 0,.slice none 0 0] 167 (0,0))):=(o.block _ (by omega) (by omega)).trans bn.out;have dh:w.1.size+1<=w4.1.size:=(by have:=o.size;omega);have V:=gQq (show r=_ from U.out);dsimp only[ar] at V;obtain⟨O,bX⟩:∃M,M=a5.drop cw:=⟨_,rfl⟩;rw[<-bX] at V E;have bq:=gQq E;clear y o E z bX U a2 bn;obtain⟨b6,c1,b1,b0,cr,-⟩:=bq.out.out;have di:w4.cell? ⟨R,0,none⟩=some (.slice b6 O.length c1):=aa b1 0;have db:=bq.out.small;have b8:=gQq b0;clear b1 b0 cr;by_cases aj:t<1
     ·have J:Hid (r=.error 5):=V.out.trans (if_pos aj);have cq:t=0:=(by omega);subst cq;clear V aj;go_wp2_with fail;refine(gV _ 5 _).mono ?_;rintro e w5 ⟨rfl,ab⟩;rw[ab];clear ab w5;go_wp2;rw[J.out];exact⟨rfl,rfl,a9.out⟩
     ·have cf:Hid (r=.ok (zI n q f t O)):=V.out.trans (if_neg aj);have cp:0<t:=(by omega);have c7:decide (0<t)=true:=decide_eq_true cp;have bc:=gQq (yK b6 c1 O (by omega) w4 b8.out);clear V aj;go_wp2_with fail;refine(ju _ 5 _).mono ?_;rintro e w5 ⟨rfl,ab⟩;rw[ab];clear ab w5;go_wp2_with fail;refine bc.out.mono ?_;rintro e w5 ⟨ah,Y,rfl,y,hb⟩;have K:w5.1[w.1.size]?=some (.cells #[.int .i64 0,.int .i64 0,.int .i64 0,.int .i64 0,.slice none 0 0] 167 (0,0)):=(hb.block _ (by omega)).trans b9.out;have ca:=gQq K;obtain⟨dj,dk,dn,dp,dr⟩:=cQ5 K;have ds:=ac K 0;have dv:=ac K 1;have d0:=ac K 2;have d1:=ac K 3;have d2:=ac K 4;have be:=gQq y;have b7:=gQq (a9.out.trans (al hb (fun i=>i=R)) (fun _ _ h=>h));clear K y hb bc;go_wp2;have ci:(w5.setCell ⟨w.1.size,0,none⟩ (.int .i64 n)).1[w.1.size]?=some (.cells #[.int .i64 n,.int .i64 0,.int .i64 0,.int .i64 0,.slice none 0 0] 167 (0,0)):=ai ca.out 0 _;have cj:((w5.setCell ⟨w.1.size,0,none⟩ (.int .i64 n)).setCell ⟨w.1.size,1,none⟩ (.int .i64 q)).1[w.1.size]?=some (.cells #[.int .i64 n,.int .i64 q,.int .i64 0,.int .i64 0,.slice none 0 0] 167 (0,0)):=ai ci 1 _;have ck:(((w5.setCell ⟨w.1.size,0,none⟩ (.int .i64 n)).setCell ⟨w.1.size,1,none⟩ (.int .i64 q)).setCell ⟨w.1.size,2,none⟩ (.int .i64 f)).1[w.1.size]?=some (.cells #[.int .i64 n,.int .i64 q,.int .i64 f,.int .i64 0,.slice none 0 0] 167 (0,0)):=ai cj 2 _
      have cn:((((w5.setCell ⟨w.1.size,0,none⟩ (.int .i64 n)).setCell ⟨w.1.size,1,none⟩ (.int .i64 q)).setCell ⟨w.1.size,2,none⟩ (.int .i64 f)).setCell ⟨w.1.size,3,none⟩ (.int .i64 t)).1[w.1.size]?=some (.cells #[.int .i64 n,.int .i64 q,.int .i64 f,.int .i64 t,.slice none 0 0] 167 (0,0)):=ai ck 3 _;have co:(((((w5.setCell ⟨w.1.size,0,none⟩ (.int .i64 n)).setCell ⟨w.1.size,1,none⟩ (.int .i64 q)).setCell ⟨w.1.size,2,none⟩ (.int .i64 f)).setCell ⟨w.1.size,3,none⟩ (.int .i64 t)).setCell ⟨w.1.size,4,none⟩ (.slice ah O.length Y)).1[w.1.size]?=some (.cells #[.int .i64 n,.int .i64 q,.int .i64 f,.int .i64 t,.slice ah O.length Y] 167 (0,0)):=ai cn 4 _;have cb:=gQq co;have br:Aside (fun i=>i=w.1.size) w5 (((((w5.setCell ⟨w.1.size,0,none⟩ (.int .i64 n)).setCell ⟨w.1.size,1,none⟩ (.int .i64 q)).setCell ⟨w.1.size,2,none⟩ (.int .i64 f)).setCell ⟨w.1.size,3,none⟩ (.int .i64 t)).setCell ⟨w.1.size,4,none⟩ (.slice ah O.length Y)):=((((ag w5 w.1.size 0 _).trans (ag _ w.1.size 1 _) (fun _ _ h=>h)).trans (ag _ w.1.size 2 _) (fun _ _ h=>h)).trans (ag _ w.1.size 3 _) (fun _ _ h=>h)).trans (ag _ w.1.size 4 _) (fun _ _ h=>h);refine bodyPost_ret (v:=.agg #[.int .i64 n,.int .i64 q,.int .i64 f,.int .i64 t,.slice ah O.length Y]) (results_cell_row rfl _ _ w.1.size _ _ _ _ rfl cb.out Tryz.underlying167 rfl (by kernel_rfl)) rfl ?_;rw[cf.out];refine⟨_,rfl,⟨ah,Y,rfl,?_⟩,?_⟩
      ·exact(be.out.aside br (fun k cs c9=>by have:=(be.out.lt k cs).1;omega)).lower (by omega)
      ·exact b7.out.trans br (fun i da h=>by omega)
end
end Go.Proofs.YtbahfgdbjgkklaaGreatDoor
