import Derived.Test.YtngmnfdaedlodaaGreatDoorB14
set_option maxRecDepth 100000
set_option maxHeartbeats 1000000
namespace Go.Proofs.YtngmnfdaedlodaaGreatDoor
open Go.Proofs.Tryz
open Except renaming error->I
open Go renaming World->U,Value->AA
open Go.Value renaming int->Y,slice->pv,pointer->qq
open Option renaming some->O,none->N
open Go.RowKit renaming Hid->C
open Go.IntKind renaming i64->sw
open Go.Proofs.Tryz renaming prog->AE
variable{A R c k n:Nat}{w w':U}{l:L8}{p:OA}
section
open Go.RowKit
def dm(k:Nat):List PanicEntry:=[{ v:=.iface 25 (Y sw k),recovered:=false }]
def dp(p:OA)(n c:Nat):OA:=if c=n then p else p.map (·.add n)
def io(p:OA)(c:Nat):OA:=if c=0 then p else p.map (·.add 0)
theorem dC(p:OA)(len c n:Nat)(h:n<=len)(w:U):(Instr.slice 40 (pv p len c) (O (Y sw n)) N N).run AE w=.ok (pv (dp p n c) (len-n) (c-n)) w:=by
 have o:(sizeOf (Tryz.prog.elem 40)).run AE w=.ok 1 w:=by kernel_rfl
 rw[run_slice_l w 40 p len c (by kernel_rfl) sw (n:Int) (by omega) (by omega),o];simp[sliced,dp,Result.andThen]
theorem kA(p:OA)(len c n:Nat)(h:n<=c)(w:U):(Instr.slice 40 (pv p len c) N (O (Y sw n)) N).run AE w=.ok (pv (io p c) n c) w:=by
 have o:(sizeOf (Tryz.prog.elem 40)).run AE w=.ok 1 w:=by kernel_rfl
 rw[run_slice_h w 40 p len c (by kernel_rfl) sw (n:Int) (by omega) (by omega),o];simp[sliced,io,Result.andThen]
theorem add_block(a:Addr)(n:Nat):(a.add n).block=a.block:=by
 unfold Addr.add;split <;> rfl
theorem fY(h:∀a,p=O a->a.block<A):∀a,dp p n c=O a->a.block<A:=by
 intro a o;unfold dp at o;split at o
 ·exact h a o
 ·cases p with
  |none=>cases o
  |some b=>
   simp only[Option.map_some,Option.some.injEq] at o;subst o;rw[add_block];exact h b rfl
theorem At.cut(h:At w p l)(n c:Nat)(E:l.length<=c):At w (dp p n c) (l.drop n):=by
 by_cases o:l.length<=n
 ·exact .inl (List.drop_eq_nil_of_le o)
 ·obtain⟨b,D,rfl,hb,y⟩:=aP h (by omega);refine .inr ⟨b,D+n,?_,hb,dL y n⟩;unfold dp;rw[AF (by omega),Option.map_some,Lib.add_plain]
theorem At.head(h:At w p l)(n c:Nat):At w (io p c) (l.take n):=by
 rcases h with rfl | ⟨b,y,rfl,hb,o⟩
 ·exact .inl (by simp)
 ·refine .inr ⟨b,y,?_,hb,cF o n⟩;unfold io;split
  ·rfl
  ·rw[Option.map_some,Lib.add_plain];rfl
structure Rdr(w:U)(A R:Nat)(l:L8):Prop where
 out:∃p c,w.1[R]?=O (.cells #[pv p l.length c] 170 (0,0))∧At w p l∧l.length<=c∧(l≠[]->∀a,p=O a->a.block<A)
 small:l.length<=1024
 low:A<=R
theorem Rdr.lt(h:Rdr w A R l):R<w.1.size:=by
 obtain⟨p,c,o,_⟩:=h.out;exact ap o
theorem At.keep{w:U}(h:At w p l)(E:l≠[]->∀a,p=O a->a.block<A)(D:∀k,k<A->w'.1[k]?=w.1[k]?)(K:w.1.size<=w'.1.size):At w' p l:=by
 rcases h with rfl | ⟨b,J,rfl,hb,o⟩
 ·exact .inl rfl
 ·refine .inr ⟨b,J,rfl,by omega,fun j y=>?_⟩;rw[World.cell?_of_block (w:=w) (D b (E (List.ne_nil_of_length_pos (by omega)) _ rfl))];exact o j y
theorem Rdr.keep(h:Rdr w A R l)(y:∀k,k<=R->w'.1[k]?=w.1[k]?)(K:w.1.size<=w'.1.size):Rdr w' A R l:=by
 obtain⟨p,c,D,E,J,o⟩:=h.out;have M:=h.low;exact⟨⟨p,c,(y R gQx).trans D,E.keep o (fun k L=>y k (by omega)) K,J,o⟩,h.small,h.low⟩
theorem Rdr.on(h:Rdr w A R l)(hb:Below w.1.size w w'):Rdr w' A R l:=h.keep (fun k o=>hb.block k (by have:=h.lt;omega)) hb.size
theorem Rdr.aside{F:Nat->Prop}(h:Rdr w A R l)(o:Aside F w w')(y:∀k,F k->R<k):Rdr w' A R l :=
 h.keep (fun k E=>o.block k (by have:=h.lt;omega) (fun D=>by have:=y k D;omega)) o.size
theorem Rdr.cut(h:Rdr w A R l)(y:w.1[R]?=O (.cells #[pv p l.length c] 170 (0,0)))(D:At w p l)(E:l.length<=c)(J:l≠[]->∀a,p=O a->a.block<A)(n:Nat)(S:n<=l.length):
  Rdr (w.setCell ⟨R,0,N⟩ (pv (dp p n c) (l.length-n) (c-n))) A R (l.drop n):=by
 have L:=h.low;have o:l.drop n≠[]->∀a,dp p n c=O a->a.block<A:=fun M=>fY (J (fun K=>M (by rw[K];simp)));refine⟨⟨dp p n c,c-n,?_,?_,by rw[AL];omega,o⟩,by rw[AL];have:=h.small;omega,L⟩
 ·rw[ao y 0,AL];rfl
 ·refine(D.cut n c E).keep o (fun k Q=>?_) (by simp[World.setCell]);exact Below.heap_setCell _ _ _ _ (by show k≠R;omega)
theorem am(w:U)(R m:Nat)(u:AA):Aside (fun i=>i=R) w (w.setCell ⟨R,m,N⟩ u):=(Aside.refl (fun i=>i=R) w).setCell (p:=⟨R,m,N⟩) (.inl rfl) u
def RdA{α:Type}(w:U)(A R:Nat)(l:L8)(r:Except Nat (α×Nat))(V:α->AA->U->Prop)(e:Ending)(w':U):Prop:=match r with
 |I k=>e=.panicked (dm k)∧Aside (fun i=>i=R) w w'
 |.ok (a,j)=>∃v,e=.returned v∧V a v w'∧Rdr w' A R (l.drop j)∧Aside (fun i=>i=R) w w'
def isI(n:Nat)(v:AA)(_:U):Prop:=v=Y sw n
def isU(n:Nat)(v:AA)(_:U):Prop:=v=Y .u64 n
def isT(t:ByteArray)(v:AA)(_:U):Prop:=v=.string t
def isB(b:L8)(v:AA)(w:U):Prop:=∃q c,v=pv q b.length c∧At w q b∧b.length<=c
theorem cY(a:AA)(k:Int)(w:U):Calls AE 93 #[a,.bool true,Y sw k] w fun e w'=>e=.returned (.tuple #[])∧w'=w:=by
 go_enter func93,ntmps93;go_wp2;go_end0;exact⟨rfl,rfl⟩
theorem cZ(a:AA)(k:Nat)(w:U):Calls AE 93 #[a,.bool false,Y sw k] w fun e w'=>e=.panicked (dm k)∧w'=w:=by
 go_enter func93,ntmps93;go_wp2;exact⟨rfl,rfl,rfl⟩
end
section
open Go.RowKit
def aT(n:Nat)(l:L8):Except Nat (L8×Nat):=if l.length<n then I 30 else .ok (l.take n,n)
def aR(most er:Nat)(l:L8):Except Nat (Nat×Nat):=match Sch.num l with
 |I e=>I e
 |.ok (n,k)=>if most<n then I er else .ok (n,k)
def iH(l:L8):Except Nat (ByteArray×Nat):=match Sch.text 16 70 l with
 |I e=>I e
 |.ok (t,k)=>if Sch.name t=false then I 70 else .ok (t,k)
theorem mB(n:Nat)(l:L8)(A R:Nat)(w:U)(h:Rdr w A R l):Calls AE 159 #[qq (O ⟨R,0,N⟩),Y sw n] w (RdA w A R l (aT n l) isB):=by
 obtain⟨p,c,D,K,Q,o⟩:=h.out;have c0:w.cell? ⟨R,0,N⟩=O (pv p l.length c):=aa D 0;have aj:=ac D 0;obtain⟨r,E⟩:∃r,r=aT n l:=⟨_,rfl⟩;rw[<-E];by_cases L:l.length<n
 ·have Z:¬(n:Int)<=(l.length:Int):=by omega
  have M:C (r=I 30):=by show _=_;rw[E,aT,AG L]
  clear E L D K Q o h;go_enter func159,ntmps159;go_wp2_with fail;refine(cZ _ 30 _).mono ?_;rintro e w1 ⟨rfl,J⟩;rw[J];clear J w1;go_wp2;rw[M.out];exact⟨rfl,rfl,Aside.refl _ _⟩
 ·have Z:(n:Int)<=(l.length:Int):=by omega
  have M:C (r=.ok (l.take n,n)):=by show _=_;rw[E,aT,AF L]
  have a0:=kA p l.length c n (by omega) w;have a1:=dC p l.length c n (by omega) w;have S:=gQq (h.cut D K Q o n (by omega));have V:C (isB (l.take n) (pv (io p c) n c) (w.setCell ⟨R,0,N⟩ (pv (dp p n c) (l.length-n) (c-n)))):=by
   have X:(l.take n).length=n:=(by rw[AM];omega);refine⟨io p c,c,by rw[X],?_,by omega⟩;have aw:=h.low;have ai:l.take n≠[]->∀a,io p c=O a->a.block<A:=fun ah a y=>by
    have o:=o (fun ab=>ah (by rw[ab];simp));unfold io at y;split at y
    ·exact o a y
    ·cases p with
     |none=>cases y
     |some b=>
      simp only[Option.map_some,Option.some.injEq] at y;subst y;rw[add_block];exact o b rfl
   exact(K.head n c).keep ai (fun k ak=>Below.heap_setCell _ _ _ _ (by show k≠R;omega)) (by simp[World.setCell])
  clear E L D K Q o h;go_enter func159,ntmps159;go_wp2_with fail;refine(cY _ 30 _).mono ?_;rintro e w1 ⟨rfl,J⟩;rw[J];clear J w1;go_wp2;go_ret;rw[M.out];exact⟨_,rfl,V.out,S.out,am _ _ _ _⟩
theorem RdA.good{o:Type}{w w':U}{A R:Nat}{l:L8}{a:o}{j:Nat}{V:o->AA->U->Prop}{e:Ending}(h:RdA w A R l (.ok (a,j)) V e w'):∃v,e=.returned v∧V a v w'∧Rdr w' A R (l.drop j)∧Aside (fun i=>i=R) w w':=h
theorem RdA.bad{o:Type}{w w':U}{A R:Nat}{l:L8}{k:Nat}{V:o->AA->U->Prop}{e:Ending}(h:RdA w A R l (I k) V e w'):e=.panicked (dm k)∧Aside (fun i=>i=R) w w':=h
theorem isB.open{b:L8}{v:AA}(h:isB b v w):∃q c,v=pv q b.length c∧At w q b∧b.length<=c:=h
theorem nE(h:Sch.num l=.ok (n,k)):ik l 0=.tuple #[Y .u64 n,Y sw k,Y sw 0]:=by
 unfold Sch.num at h;split at h
 ·next h0=>
  injection h with h;injection h with h1 h2;have e:Leb.getAt l 0=Leb.get l:=by unfold Leb.getAt;rw[AF (by decide)];rfl
  unfold ik Leb.nextAt;rw[e,AG h0,h0,h1,h2];simp
 ·cases h
theorem kP{o:Nat}(h:Sch.num l=I o):o≠0∧∃m:Nat,ik l 0=.tuple #[Y .u64 m,Y sw 0,Y sw o]:=by
 unfold Sch.num at h;split at h
 ·cases h
 ·next h0=>
  injection h with h;have e:Leb.getAt l 0=Leb.get l:=by unfold Leb.getAt;rw[AF (by decide)];rfl
  refine⟨by rw[<-h];exact h0,(Leb.get l).n,?_⟩;unfold ik Leb.nextAt;rw[e,AF h0,h]
theorem eY(h:Sch.num l=.ok (n,k)):k<=l.length∧n<18446744073709551616:=by
 obtain⟨o,r,y,D⟩:=Sch.num_ok h;refine⟨?_,o⟩;rw[D,y,AH];omega
theorem ql(l:L8)(A R:Nat)(w:U)(h:Rdr w A R l):Calls AE 158 #[qq (O ⟨R,0,N⟩)] w (RdA w A R l (Sch.num l) isU):=by
 obtain⟨p,c,E,J,K,L⟩:=h.out;have ab:=h.small;have c0:w.cell? ⟨R,0,N⟩=O (pv p l.length c):=aa E 0;have X:=ac E 0;have y:=gQq (lJ p c l 0 (by omega) K w J);obtain⟨r,D⟩:∃r,r=Sch.num l:=⟨_,rfl⟩;rw[<-D];cases r with
 |error er=>
  obtain⟨V,m,Q⟩:=kP D.symm;rw[Q] at y;have Z:((er:Int)==0)=false:=bg (by omega);clear D Q E J K L h V;go_enter func158,ntmps158;go_wp2_with fail;refine y.out.mono ?_;rintro e w1 ⟨rfl,o⟩;rw[o];clear o w1 y;go_wp2_with fail;refine(cZ _ er _).mono ?_;rintro e w1 ⟨rfl,o⟩;rw[o];clear o w1;go_wp2;exact⟨rfl,rfl,Aside.refl _ _⟩
 |ok nk=>
  obtain⟨n,k⟩:=nk;rw[nE D.symm] at y;obtain⟨M,-⟩:=eY D.symm;have ah:=dC p l.length c k M w;have S:=gQq (h.cut E J K L k M);clear D E J K L h M;go_enter func158,ntmps158;go_wp2_with fail;refine y.out.mono ?_;rintro e w1 ⟨rfl,o⟩;rw[o];clear o w1 y;go_wp2_with fail;refine(cY _ 0 _).mono ?_;rintro e w1 ⟨rfl,o⟩;rw[o];clear o w1;go_wp2;go_ret;exact⟨_,rfl,rfl,S.out,am _ _ _ _⟩
theorem lQ(D J:Nat)(a1:D<=1024)(l:L8)(A R:Nat)(w:U)(h:Rdr w A R l):Calls AE 125 #[qq (O ⟨R,0,N⟩),Y .u64 D,Y sw J] w (RdA w A R l (aR D J l) isI):=by
 have E:=gQq (ql l A R w h);obtain⟨r,ab⟩:∃r,r=aR D J l:=⟨_,rfl⟩
 have L:C (r=match Sch.num l with
  |I e=>I e
  |.ok (n,k)=>if D<n then I J else .ok (n,k)):=ab
 rw[<-ab];clear h ab;obtain⟨m,Z⟩:∃m,m=Sch.num l:=⟨_,rfl⟩;rw[<-Z] at E L;have aj:=gQq Z;clear Z;cases m with
 |error e0=>
  go_enter func125,ntmps125;go_wp2_with fail;refine E.out.mono ?_;intro e w1 y;obtain⟨Q,o⟩:=y.bad;subst Q;clear y;have M:=gQq o;clear o E;go_wp2;rw[L.out];exact⟨rfl,rfl,M.out⟩
 |ok nk=>
  obtain⟨n,k⟩:=nk;have a2:=(eY aj.out.symm).2;by_cases V:D<n
  ·have X:C (r=I J):=(by show _=_;rw[L.out];exact AG V);have aw:¬n<=D:=(by omega);clear L V;go_enter func125,ntmps125;go_wp2_with fail;refine E.out.mono ?_;intro e w1 y;obtain⟨v,Q,K,-,o⟩:=y.good;clear y
   replace K:v=Y .u64 (n:Nat):=K
   subst K;subst Q;have M:=gQq o;clear o E;go_wp2_with fail;refine(cZ _ J _).mono ?_;rintro e ah ⟨rfl,S⟩;rw[S];clear S ah;go_wp2;rw[X.out];exact⟨rfl,rfl,M.out⟩
  ·have X:C (r=.ok (n,k)):=(by show _=_;rw[L.out];exact AF V);have aw:n<=D:=(by omega);have a0:(n:Int)<=1024:=(by omega);clear L V;go_enter func125,ntmps125;go_wp2_with fail;refine E.out.mono ?_;intro e w1 y;obtain⟨v,Q,K,ai,o⟩:=y.good;clear y
   replace K:v=Y .u64 (n:Nat):=K
   subst K;subst Q;have M:=gQq o;have ak:=gQq ai;clear o E ai;go_wp2_with fail;refine(cY _ J _).mono ?_;rintro e ah ⟨rfl,S⟩;rw[S];clear S ah;go_wp2;go_ret;rw[X.out];exact⟨_,rfl,rfl,ak.out,M.out⟩
theorem uA(l:L8)(A R:Nat)(w:U)(h:Rdr w A R l):Calls AE 161 #[qq (O ⟨R,0,N⟩)] w (RdA w A R l (Sch.bit l) isI):=by
 have o:=gQq (mB 1 l A R w h);clear h;cases l with
 |nil=>
  have K:aT 1 []=I 30:=rfl;rw[K] at o;go_enter func161,ntmps161;go_wp2_with fail;refine o.out.mono ?_;intro e w1 D;obtain⟨S,y⟩:=D.bad;subst S;clear D;have J:=gQq y;clear y o;go_wp2;exact⟨rfl,rfl,J.out⟩
 |cons b t=>
  have K:aT 1 (b::t)=.ok ([b],1):=by
   unfold aT;rw[AF (by simp)];rfl
  rw[K] at o;have hb:=b.toNat_lt;by_cases ah:1<b.toNat
  ·have L:Sch.bit (b::t)=I 5:=(by rw[Sch.bit,AG ah]);have aw:decide ((b.toNat:Int)<=1)=false:=AP (by omega);rw[L];clear K L;go_enter func161,ntmps161;go_wp2_with fail;refine o.out.mono ?_;intro e w1 D;obtain⟨v,S,E,-,y⟩:=D.good;obtain⟨q,c,E,M,-⟩:=E.open;clear D;subst E;subst S;obtain⟨X,Z,rfl,-,Q⟩:=aP M (by simp);have ak:w1.cell? ⟨X,Z,N⟩=O (Y .u8 (b.toNat:Int)):=Q 0 (by simp);have J:=gQq y;clear y o M Q;go_wp2_with fail;refine(cZ _ 5 _).mono ?_;rintro e ab ⟨rfl,V⟩;rw[V];clear V ab;go_wp2;exact⟨rfl,rfl,J.out⟩
  ·have L:Sch.bit (b::t)=.ok (b.toNat,1):=(by rw[Sch.bit,AF ah]);have aw:decide ((b.toNat:Int)<=1)=true:=AR (by omega);rw[L];clear K L;go_enter func161,ntmps161;go_wp2_with fail;refine o.out.mono ?_;intro e w1 D;obtain⟨v,S,E,ai,y⟩:=D.good;obtain⟨q,c,E,M,-⟩:=E.open;clear D;subst E;subst S;obtain⟨X,Z,rfl,-,Q⟩:=aP M (by simp);have ak:w1.cell? ⟨X,Z,N⟩=O (Y .u8 (b.toNat:Int)):=Q 0 (by simp);have J:=gQq y;have aj:=gQq ai;clear y o M Q ai;go_wp2_with fail;refine(cY _ 5 _).mono ?_;rintro e ab ⟨rfl,V⟩;rw[V];clear V ab;go_wp2;go_ret;exact⟨_,rfl,rfl,aj.out,J.out⟩
def ar{α β:Type}(r:Except Nat (α×Nat))(f:α->Nat->Except Nat β):Except Nat β:=match r with
 |I e=>I e
 |.ok (a,k)=>f a k
theorem aI{o y:Type}(a:o)(k:Nat)(f:o->Nat->Except Nat y):ar (.ok (a,k)) f=f a k:=rfl
theorem mz{o y:Type}(e:Nat)(f:o->Nat->Except Nat y):ar (I e) f=I e:=rfl
theorem fR(y D:Nat)(l:L8):Sch.text y D l=ar (aR y D l) fun n k=>ar (aT n (l.drop k)) fun b j=>.ok (textOf b,k+j):=by
 unfold Sch.text aR;cases Sch.num l with
 |error e=>rfl
 |ok nk=>
  obtain⟨n,k⟩:=nk;dsimp only;by_cases h:y<n
  ·rw[AG h,AG h];rfl
  ·rw[AF h,AF h,aI];unfold aT;rw[AL];by_cases o:l.length-k<n
   ·rw[AG o,AG o];rfl
   ·rw[AF o,AF o];rfl
theorem na(l:L8):iH l=ar (aR 16 70 l) fun n k=>ar (aT n (l.drop k)) fun b j=>if Sch.name (textOf b)=false then I 70 else .ok (textOf b,k+j):=by
 unfold iH;rw[fR];cases aR 16 70 l with
 |error e=>rfl
 |ok nk=>
  obtain⟨n,k⟩:=nk;rw[aI,aI];cases aT n (l.drop k) with
  |error e=>rfl
  |ok bj=>rfl
theorem xn(l:L8)(A R:Nat)(w:U)(h:Rdr w A R l):Calls AE 181 #[qq (O ⟨R,0,N⟩)] w (RdA w A R l (Sch.text 1024 2 l) isT):=by
 have J:=gQq (lQ 1024 2 (by omega) l A R w h);obtain⟨r,Z⟩:∃r,r=Sch.text 1024 2 l:=⟨_,rfl⟩;have S:=gQq (Z.trans (fR 1024 2 l));rw[<-Z];obtain⟨m,L⟩:∃m,m=aR 1024 2 l:=⟨_,rfl⟩;rw[<-L] at J S;clear h Z L;cases m with
 |error e0=>
  go_enter func181,ntmps181;go_wp2_with fail;refine J.out.mono ?_;intro e w1 y;obtain⟨D,o⟩:=y.bad;subst D;clear y;have Q:=gQq o;clear o J;go_wp2;rw[S.out];exact⟨rfl,rfl,Q.out⟩
 |ok nk=>
  obtain⟨n,k⟩:=nk;go_enter func181,ntmps181;go_wp2_with fail;refine J.out.mono ?_;intro e w1 y;obtain⟨v,D,E,M,o⟩:=y.good;clear y
  replace E:v=Y sw (n:Nat):=E
  subst E;subst D;have Q:=gQq o;have K:=gQq (mB n (l.drop k) A R w1 M);obtain⟨m,L⟩:∃m,m=aT n (l.drop k):=⟨_,rfl⟩;have X:C (r=ar (aT n (l.drop k)) fun b j=>.ok (textOf b,k+j)):=S.out;rw[<-L] at K X;clear o J M L S;cases m with
  |error e0=>
   go_wp2_with fail;refine K.out.mono ?_;intro e ah y;obtain⟨D,o⟩:=y.bad;subst D;clear y;have V:=gQq (Q.out.trans o (fun _ _ h=>h));clear o K;go_wp2;rw[X.out];exact⟨rfl,rfl,V.out⟩
  |ok bj=>
   obtain⟨b,j⟩:=bj;go_wp2_with fail;refine K.out.mono ?_;intro e ah y;obtain⟨v,D,E,M,o⟩:=y.good;obtain⟨q,c,E,ab,-⟩:=E.open;clear y;subst E;subst D;have V:=gQq (Q.out.trans o (fun _ _ h=>h));have aj:=cP ab c;have ai:C (Rdr ah A R (l.drop (k+j))):=by
    show Rdr _ _ _ _;rw[<-Ax];exact M
   clear o K ab M;go_wp2;go_ret;rw[X.out];exact⟨_,rfl,rfl,ai.out,V.out⟩
theorem ya(l:L8)(A R:Nat)(w:U)(h:Rdr w A R l):Calls AE 126 #[qq (O ⟨R,0,N⟩)] w (RdA w A R l (iH l) isT):=by
 have L:=gQq (lQ 16 70 (by omega) l A R w h);obtain⟨r,ak⟩:∃r,r=iH l:=⟨_,rfl⟩;have ah:=gQq (ak.trans (na l));rw[<-ak];obtain⟨m,Q⟩:∃m,m=aR 16 70 l:=⟨_,rfl⟩;rw[<-Q] at L ah;clear h ak Q;cases m with
 |error e0=>
  go_enter func126,ntmps126;go_wp2_with fail;refine L.out.mono ?_;intro e w1 y;obtain⟨E,o⟩:=y.bad;subst E;clear y;have X:=gQq o;clear o L;go_wp2;rw[ah.out];exact⟨rfl,rfl,X.out⟩
 |ok nk=>
  obtain⟨n,k⟩:=nk;go_enter func126,ntmps126;go_wp2_with fail;refine L.out.mono ?_;intro e w1 y;obtain⟨v,E,J,S,o⟩:=y.good;clear y
  replace J:v=Y sw (n:Nat):=J
  subst J;subst E;have X:=gQq o;have M:=gQq (mB n (l.drop k) A R w1 S);obtain⟨m,Q⟩:∃m,m=aT n (l.drop k):=⟨_,rfl⟩;have ai:C (r=ar (aT n (l.drop k)) fun b j=>if Sch.name (textOf b)=false then I 70 else .ok (textOf b,k+j)):=ah.out;rw[<-Q] at M ai;clear o L S Q ah;cases m with
  |error e0=>
   go_wp2_with fail;refine M.out.mono ?_;intro e aw y;obtain⟨E,o⟩:=y.bad;subst E;clear y;have Z:=gQq (X.out.trans o (fun _ _ h=>h));clear o M;go_wp2;rw[ai.out];exact⟨rfl,rfl,Z.out⟩
  |ok bj=>
   obtain⟨b,j⟩:=bj;go_wp2_with fail;refine M.out.mono ?_;intro e aw y;obtain⟨v,E,J,S,o⟩:=y.good;obtain⟨q,c,J,a0,-⟩:=J.open;clear y;subst J;subst E;have Z:=gQq (X.out.trans o (fun _ _ h=>h));have a4:=cP a0 c;have a3:C (Rdr aw A R (l.drop (k+j))):=by
    show Rdr _ _ _ _;rw[<-Ax];exact S
   have ab:=gQq (xv (textOf b) aw);have K:C (r=if Sch.name (textOf b)=false then I 70 else .ok (textOf b,k+j)):=ai.out;obtain⟨t,a2⟩:∃t,t=textOf b:=⟨_,rfl⟩;rw[<-a2] at a4 ab K;obtain⟨a5,a1⟩:∃b,b=Sch.name t:=⟨_,rfl⟩;rw[<-a1] at ab K;clear o M a0 S ai a1 a2;go_wp2_with fail;refine ab.out.mono ?_;rintro e V ⟨rfl,D⟩;rw[D];clear D V ab;cases a5 with
   |false=>
    have aj:C (r=I 70):=K.out.trans (AG (by first | rfl | trivial));clear K;go_wp2_with fail;refine(cZ _ 70 _).mono ?_;rintro e V ⟨rfl,D⟩;rw[D];clear D V;go_wp2;rw[aj.out];exact⟨rfl,rfl,Z.out⟩
   |true=>
    have aj:C (r=.ok (t,k+j)):=K.out.trans (AF (by first | decide | simp));clear K;go_wp2_with fail;refine(cY _ 70 _).mono ?_;rintro e V ⟨rfl,D⟩;rw[D];clear D V;go_wp2;go_ret;rw[aj.out];exact⟨_,rfl,rfl,a3.out,Z.out⟩
end
section
open Go.RowKit
theorem mY(m x k:Nat)(o:m<256 ^ k)(E:m+x*256 ^ k<18446744073709551616):bits .or .u64 (m:Int) (IntKind.u64.wrap ((x:Int)*2 ^ (8*k)))=((m+x*256 ^ k:Nat):Int):=by
 have e:(2:Nat) ^ (8*k)=256 ^ k:=by rw[Nat.pow_mul]
 have y:((x:Int)*2 ^ (8*k))=((x*256 ^ k:Nat):Int):=by
  rw[<-e];push_cast;rfl
 have D:IntKind.u64.wrap (((x*256 ^ k:Nat):Int))=((x*256 ^ k:Nat):Int):=by
  rw[IntKind.wrap_u64];omega
 rw[y,D,bits_join_low .u64 64 (by decide) wraps_u64 (8*k) (m:Int) _ (by omega) (by rw[<-e] at o;exact_mod_cast o) (by omega) (by omega) (by rw[<-e];push_cast;exact Int.mul_emod_left _ _) (by omega)];omega
theorem gp(r:L8)(k:Nat)(h:k<r.length):Sch.un (r.take (k+1))=Sch.un (r.take k)+r[k].toNat*256 ^ k:=by
 induction r generalizing k with
 |nil=>simp at h
 |cons c r ih=>
  cases k with
  |zero=>simp[Sch.un]
  |succ k=>
   have o:k<r.length:=(by simpa using h);have:=ih k o;simp only[List.take_succ_cons,Sch.un,List.getElem_cons_succ,this,Nat.pow_succ];generalize (256:Nat) ^ k=P;generalize r[k].toNat=x;rw[Nat.add_mul,Nat.mul_assoc];omega
theorem ei(r:L8)(k:Nat)(h:k<=r.length):Sch.un (r.take k)<256 ^ k:=by
 have:=Sch.un_lt (r.take k);rw[AM,Nat.min_eq_left h] at this;exact this
def isF(n:Nat)(v:AA)(_:U):Prop:=v=.float .f64 n
theorem yA(l:L8)(A R:Nat)(w:U)(h:Rdr w A R l):Calls AE 180 #[qq (O ⟨R,0,N⟩)] w (RdA w A R l (Sch.float l) isF):=by
 have HT:=gQq (mB 8 l A R w h);obtain⟨r,V⟩:∃r,r=Sch.float l:=⟨_,rfl⟩;rw[<-V];clear h;by_cases J:l.length<8
 ·have M:aT 8 l=I 30:=by rw[aT,AG J]
  have L:C (r=I 30):=by show _=_;rw[V,Sch.float,AG J]
  rw[M] at HT;clear M J V;go_enter func180,ntmps180;go_wp2_with fail;refine HT.out.mono ?_;intro e w1 S;obtain⟨ak,Q⟩:=S.bad;subst ak;clear S;have X:=gQq Q;clear Q HT;go_wp2;rw[L.out];exact⟨rfl,rfl,X.out⟩
 ·have M:aT 8 l=.ok (l.take 8,8):=by rw[aT,AF J]
  have L:C (r=if aH (Sch.un (l.take 8))=Sch.un (l.take 8) then .ok (Sch.un (l.take 8),8) else I 5):=by show _=_;rw[V,Sch.float,AF J]
  rw[M] at HT;have aj:(l.take 8).length=8:=by rw[AM];omega
  obtain⟨b,hb⟩:∃b,b=l.take 8:=⟨_,rfl⟩;rw[<-hb] at HT L aj;have Z:=gQq aj;have bk:C (Sch.un (b.take 0)=0):=by show _=_;simp[Sch.un]
  clear M J V hb aj;go_enter func180,ntmps180;go_wp2_with fail;refine HT.out.mono ?_;intro e w1 S;obtain⟨v,ak,bc,bb,Q⟩:=S.good;obtain⟨q,c,bN,a8,-⟩:=bc.open;clear S bc;subst bN;subst ak;rw[Z.out];have X:=gQq Q;have bj:=gQq bb;obtain⟨bT,b6,bv,-,a9⟩:=aP a8 (by rw[Z.out];decide);subst bv;have bi:=gQq a9;clear Q HT a8 bb a9;go_wp2_with fail;go_loop [3,10] (fun bO a3=>∃(k m:Nat),k<=8∧a3=Y sw k∧bO=Y .u64 m∧m<18446744073709551616∧C (m=Sch.un (b.take k))) (fun _ a3=>8-(intOf a3).toNat);case atStart=>exact⟨0,0,by omega,rfl,rfl,by omega,bk.out.symm⟩
  case round=>
   obtain⟨k,m,b1,rfl,rfl,b4,E⟩:=hrel;by_cases bn:k<8
   ·have b2:(k:Int)<8:=(by omega);have a0:k<b.length:=(by rw[Z.out];exact bn);have bl:=bi.out k a0;have ah:=gp b k a0;have bq:=ei b (k+1) (by omega);obtain⟨x,a2⟩:∃x,x=b[k].toNat:=⟨_,rfl⟩;rw[<-a2] at bl ah;have b5:x<256:=(by rw[a2];exact b[k].toNat_lt);have a1:m+x*256 ^ k<18446744073709551616:=by
     rw[E.out,<-ah];have e:(256:Nat) ^ (k+1)<=256 ^ 8:=Nat.pow_le_pow_right (by decide) (by omega);have bX:(256:Nat) ^ 8=18446744073709551616:=(by decide);omega
    have bs:=mY m x k (by rw[E.out];exact ei b k (by omega)) a1;have K:C (m+x*256 ^ k=Sch.un (b.take (k+1))):=(by show _=_;rw[ah,E.out]);clear ah bq a2 E a0;obtain⟨y,be⟩:∃y,y=m+x*256 ^ k:=⟨_,rfl⟩;rw[<-be] at bs K a1;clear be;go_wp2;go_round;case rel=>exact⟨k+1,y,by omega,by go_num,rfl,a1,K.out⟩
    case measure=>simp[intOf];omega
   ·have b3:¬(k:Int)<8:=(by omega);have bp:k=8:=(by omega);subst bp;have K:C (m=Sch.un b):=by
     show _=_;rw[E.out,List.take_of_length_le (by rw[Z.out];exact gQx)]
    clear E;have a6:=gQq (jq (m:Int));have a7:((m:Int)).toNat=m:=(by omega);rw[a7] at a6;have a5:=gQq (cN (aH m));rw[fu] at a5;have ab:C (r=if aH m=m then .ok (m,8) else I 5):=(by show _=_;rw[L.out,K.out]);clear L K a7;go_wp2_with fail;refine(a6.out _).mono ?_;rintro e D ⟨rfl,o⟩;rw[o];clear o D;go_wp2_with fail;refine(a5.out _).mono ?_;rintro e D ⟨rfl,o⟩;rw[o];clear o D;by_cases aw:aH m=m
    ·have ai:C (r=.ok (m,8)):=ab.out.trans (AG aw);rw[aw];clear ab;go_wp2_with fail;refine(cY _ 5 _).mono ?_;rintro e D ⟨rfl,o⟩;rw[o];clear o D;go_wp2;go_ret;rw[ai.out];exact⟨_,rfl,rfl,bj.out,X.out⟩
    ·have ai:C (r=I 5):=ab.out.trans (AF aw);have b0:((aH m:Int)==(m:Int))=false:=bg (by omega);clear ab;go_wp2_with fail;refine(cZ _ 5 _).mono ?_;rintro e D ⟨rfl,o⟩;rw[o];clear o D;go_wp2;rw[ai.out];exact⟨rfl,rfl,X.out⟩
end
end Go.Proofs.YtngmnfdaedlodaaGreatDoor
