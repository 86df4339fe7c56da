import Derived.Test.YtbahfgdbjgkklaaGreatDoorB14
set_option maxRecDepth 100000
set_option maxHeartbeats 1000000
namespace Go.Proofs.YtbahfgdbjgkklaaGreatDoor
variable{A R c k n:Nat}{w w':World}{l:L8}
section
open Go.RowKit
def dK(k:Nat):List PanicEntry:=[{ v:=.iface 68 (.int .i64 k),recovered:=false }]
def dN(p:OA)(n c:Nat):OA:=if c=n then p else p.map (·.add n)
def fX(p:OA)(c:Nat):OA:=if c=0 then p else p.map (·.add 0)
theorem eI(p:OA)(len c n:Nat)(h:n<=len)(w:World):(Instr.slice 22 (.slice p len c) (some (.int .i64 n)) none none).run Tryz.prog w=.ok (.slice (dN p n c) (len-n) (c-n)) w:=by
 have o:(sizeOf (Tryz.prog.elem 22)).run Tryz.prog w=.ok 1 w:=by kernel_rfl
 rw[run_slice_l w 22 p len c (by kernel_rfl) .i64 (n:Int) (by omega) (by omega),o];simp[sliced,dN,Result.andThen]
theorem lx(p:OA)(len c n:Nat)(h:n<=c)(w:World):(Instr.slice 22 (.slice p len c) none (some (.int .i64 n)) none).run Tryz.prog w=.ok (.slice (fX p c) n c) w:=by
 have o:(sizeOf (Tryz.prog.elem 22)).run Tryz.prog w=.ok 1 w:=by kernel_rfl
 rw[run_slice_h w 22 p len c (by kernel_rfl) .i64 (n:Int) (by omega) (by omega),o];simp[sliced,fX,Result.andThen]
theorem add_block(a:Addr)(n:Nat):(a.add n).block=a.block:=by
 unfold Addr.add;split <;> rfl
theorem gF{p:OA}(h:∀a,p=some a->a.block<A):∀a,dN p n c=some a->a.block<A:=by
 intro a o;unfold dN at o;split at o
 ·exact h a o
 ·cases p with
  |none=>cases o
  |some b=>
   simp only[Option.map_some,Option.some.injEq] at o;subst o;rw[add_block];exact h b rfl
theorem At.cut{p:OA}(h:At w p l)(n c:Nat)(D:l.length<=c):At w (dN p n c) (l.drop n):=by
 by_cases o:l.length<=n
 ·exact .inl (List.drop_eq_nil_of_le o)
 ·obtain⟨b,z,rfl,hb,y⟩:=aC h (by omega);refine .inr ⟨b,z+n,?_,hb,cF y n⟩;unfold dN;rw[if_neg (by omega),Option.map_some,Lib.add_plain]
theorem At.head{p:OA}(h:At w p l)(n c:Nat):At w (fX p c) (l.take n):=by
 rcases h with rfl | ⟨b,y,rfl,hb,o⟩
 ·exact .inl (by simp)
 ·refine .inr ⟨b,y,?_,hb,cE o n⟩;unfold fX;split
  ·rfl
  ·rw[Option.map_some,Lib.add_plain];rfl
structure Rdr(w:World)(A R:Nat)(l:L8):Prop where
 out:∃p c,w.1[R]?=some (.cells #[.slice p l.length c] 184 (0,0))∧At w p l∧l.length<=c∧(l≠[]->∀a,p=some a->a.block<A)
 small:l.length<=1024
 low:A<=R
theorem Rdr.lt(h:Rdr w A R l):R<w.1.size:=by
 obtain⟨p,c,o,_⟩:=h.out;exact au o
theorem At.keep{p:OA}(h:At w p l)(D:l≠[]->∀a,p=some a->a.block<A)(z:∀k,k<A->w'.1[k]?=w.1[k]?)(I:w.1.size<=w'.1.size):At w' p l:=by
 rcases h with rfl | ⟨b,E,rfl,hb,o⟩
 ·exact .inl rfl
 ·refine .inr ⟨b,E,rfl,by omega,fun j y=>?_⟩;rw[World.cell?_of_block (w:=w) (z b (D (List.ne_nil_of_length_pos (by omega)) _ rfl))];exact o j y
theorem Rdr.keep(h:Rdr w A R l)(y:∀k,k<=R->w'.1[k]?=w.1[k]?)(I:w.1.size<=w'.1.size):Rdr w' A R l:=by
 obtain⟨p,c,z,D,E,o⟩:=h.out;have K:=h.low;exact⟨⟨p,c,(y R gQx).trans z,D.keep o (fun k J=>y k (by omega)) I,E,o⟩,h.small,h.low⟩
theorem Rdr.on(h:Rdr w A R l)(hb:Below w.1.size w w'):Rdr w' A R l:=h.keep (fun k o=>hb.block k (by have:=h.lt;omega)) hb.size
theorem Rdr.aside{F:Nat->Prop}(h:Rdr w A R l)(o:Aside F w w')(y:∀k,F k->R<k):Rdr w' A R l :=
 h.keep (fun k D=>o.block k (by have:=h.lt;omega) (fun z=>by have:=y k z;omega)) o.size
theorem Rdr.cut{p:OA}(h:Rdr w A R l)(y:w.1[R]?=some (.cells #[.slice p l.length c] 184 (0,0)))(z:At w p l)(D:l.length<=c)(E:l≠[]->∀a,p=some a->a.block<A)(n:Nat)(M:n<=l.length):
  Rdr (w.setCell ⟨R,0,none⟩ (.slice (dN p n c) (l.length-n) (c-n))) A R (l.drop n):=by
 have J:=h.low;have o:l.drop n≠[]->∀a,dN p n c=some a->a.block<A:=fun K=>gF (E (fun I=>K (by rw[I];simp)));refine⟨⟨dN p n c,c-n,?_,?_,by rw[List.length_drop];omega,o⟩,by rw[List.length_drop];have:=h.small;omega,J⟩
 ·rw[ai y 0,List.length_drop];rfl
 ·refine(z.cut n c D).keep o (fun k L=>?_) (by simp[World.setCell]);exact Below.heap_setCell _ _ _ _ (by show k≠R;omega)
theorem ag(w:World)(R m:Nat)(u:Value):Aside (fun i=>i=R) w (w.setCell ⟨R,m,none⟩ u):=(Aside.refl (fun i=>i=R) w).setCell (p:=⟨R,m,none⟩) (.inl rfl) u
def RdA{α:Type}(w:World)(A R:Nat)(l:L8)(r:Except Nat (α×Nat))(V:α->Value->World->Prop)(e:Ending)(w':World):Prop:=match r with
 |.error k=>e=.panicked (dK k)∧Aside (fun i=>i=R) w w'
 |.ok (a,j)=>∃v,e=.returned v∧V a v w'∧Rdr w' A R (l.drop j)∧Aside (fun i=>i=R) w w'
def isI(n:Nat)(v:Value)(_:World):Prop:=v=.int .i64 n
def isU(n:Nat)(v:Value)(_:World):Prop:=v=.int .u64 n
def isT(t:ByteArray)(v:Value)(_:World):Prop:=v=.string t
def isB(b:L8)(v:Value)(w:World):Prop:=∃q c,v=.slice q b.length c∧At w q b∧b.length<=c
theorem du(a:Value)(k:Int)(w:World):Calls Tryz.prog 111 #[a,.bool true,.int .i64 k] w fun e w'=>e=.returned (.tuple #[])∧w'=w:=by
 go_enter Tryz.func111,Tryz.ntmps111;go_wp2;go_end0;exact⟨rfl,rfl⟩
theorem dw(a:Value)(k:Nat)(w:World):Calls Tryz.prog 111 #[a,.bool false,.int .i64 k] w fun e w'=>e=.panicked (dK k)∧w'=w:=by
 go_enter Tryz.func111,Tryz.ntmps111;go_wp2;exact⟨rfl,rfl,rfl⟩
end
section
open Go.RowKit
def aU(n:Nat)(l:L8):Except Nat (L8×Nat):=if l.length<n then .error 30 else .ok (l.take n,n)
def aS(most er:Nat)(l:L8):Except Nat (Nat×Nat):=match Sch.num l with
 |.error e=>.error e
 |.ok (n,k)=>if most<n then .error er else .ok (n,k)
def i7(l:L8):Except Nat (ByteArray×Nat):=match Sch.text 16 70 l with
 |.error e=>.error e
 |.ok (t,k)=>if Sch.name t=false then .error 70 else .ok (t,k)
theorem nl(n:Nat)(l:L8)(A R:Nat)(w:World)(h:Rdr w A R l):Calls Tryz.prog 219 #[.pointer (some ⟨R,0,none⟩),.int .i64 n] w (RdA w A R l (aU n l) isB):=by
 obtain⟨p,c,z,I,L,o⟩:=h.out;have c0:w.cell? ⟨R,0,none⟩=some (.slice p l.length c):=aa z 0;have X:=ac z 0;obtain⟨r,D⟩:∃r,r=aU n l:=⟨_,rfl⟩;rw[<-D];by_cases J:l.length<n
 ·have S:¬(n:Int)<=(l.length:Int):=by omega
  have K:Hid (r=.error 30):=by show _=_;rw[D,aU,if_pos J]
  clear D J z I L o h;go_enter Tryz.func219,Tryz.ntmps219;go_wp2_with fail;refine(dw _ 30 _).mono ?_;rintro e w1 ⟨rfl,E⟩;rw[E];clear E w1;go_wp2;rw[K.out];exact⟨rfl,rfl,Aside.refl _ _⟩
 ·have S:(n:Int)<=(l.length:Int):=by omega
  have K:Hid (r=.ok (l.take n,n)):=by show _=_;rw[D,aU,if_neg J]
  have ab:=lx p l.length c n (by omega) w;have ah:=eI p l.length c n (by omega) w;have M:=gQq (h.cut z I L o n (by omega));have O:Hid (isB (l.take n) (.slice (fX p c) n c) (w.setCell ⟨R,0,none⟩ (.slice (dN p n c) (l.length-n) (c-n)))):=by
   have Q:(l.take n).length=n:=(by rw[List.length_take];omega);refine⟨fX p c,c,by rw[Q],?_,by omega⟩;have Z:=h.low;have W:l.take n≠[]->∀a,fX p c=some a->a.block<A:=fun V a y=>by
    have o:=o (fun U=>V (by rw[U];simp));unfold fX at y;split at y
    ·exact o a y
    ·cases p with
     |none=>cases y
     |some b=>
      simp only[Option.map_some,Option.some.injEq] at y;subst y;rw[add_block];exact o b rfl
   exact(I.head n c).keep W (fun k Y=>Below.heap_setCell _ _ _ _ (by show k≠R;omega)) (by simp[World.setCell])
  clear D J z I L o h;go_enter Tryz.func219,Tryz.ntmps219;go_wp2_with fail;refine(du _ 30 _).mono ?_;rintro e w1 ⟨rfl,E⟩;rw[E];clear E w1;go_wp2;go_ret;rw[K.out];exact⟨_,rfl,O.out,M.out,ag _ _ _ _⟩
theorem RdA.good{o:Type}{w w':World}{A R:Nat}{l:L8}{a:o}{j:Nat}{V:o->Value->World->Prop}{e:Ending}(h:RdA w A R l (.ok (a,j)) V e w'):∃v,e=.returned v∧V a v w'∧Rdr w' A R (l.drop j)∧Aside (fun i=>i=R) w w':=h
theorem RdA.bad{o:Type}{w w':World}{A R:Nat}{l:L8}{k:Nat}{V:o->Value->World->Prop}{e:Ending}(h:RdA w A R l (.error k) V e w'):e=.panicked (dK k)∧Aside (fun i=>i=R) w w':=h
theorem isB.open{b:L8}{v:Value}(h:isB b v w):∃q c,v=.slice q b.length c∧At w q b∧b.length<=c:=h
theorem ov(h:Sch.num l=.ok (n,k)):eF l 0=.tuple #[.int .u64 n,.int .i64 k,.int .i64 0]:=by
 unfold Sch.num at h;split at h
 ·next h0=>
  injection h with h;injection h with h1 h2;have e:Leb.getAt l 0=Leb.get l:=by unfold Leb.getAt;rw[if_neg (by decide)];rfl
  unfold eF Leb.nextAt;rw[e,if_pos h0,h0,h1,h2];simp
 ·cases h
theorem lL{o:Nat}(h:Sch.num l=.error o):o≠0∧∃m:Nat,eF l 0=.tuple #[.int .u64 m,.int .i64 0,.int .i64 o]:=by
 unfold Sch.num at h;split at h
 ·cases h
 ·next h0=>
  injection h with h;have e:Leb.getAt l 0=Leb.get l:=by unfold Leb.getAt;rw[if_neg (by decide)];rfl
  refine⟨by rw[<-h];exact h0,(Leb.get l).n,?_⟩;unfold eF Leb.nextAt;rw[e,if_neg h0,h]
theorem fH(h:Sch.num l=.ok (n,k)):k<=l.length∧n<18446744073709551616:=by
 obtain⟨o,r,y,z⟩:=Sch.num_ok h;refine⟨?_,o⟩;rw[z,y,List.length_append];omega
theorem qS(l:L8)(A R:Nat)(w:World)(h:Rdr w A R l):Calls Tryz.prog 218 #[.pointer (some ⟨R,0,none⟩)] w (RdA w A R l (Sch.num l) isU):=by
 obtain⟨p,c,D,E,I,J⟩:=h.out;have U:=h.small;have c0:w.cell? ⟨R,0,none⟩=some (.slice p l.length c):=aa D 0;have Q:=ac D 0;have y:=gQq (g9 p c l 0 (by omega) I w E);obtain⟨r,z⟩:∃r,r=Sch.num l:=⟨_,rfl⟩;rw[<-z];cases r with
 |error er=>
  obtain⟨O,m,L⟩:=lL z.symm;rw[L] at y;have S:((er:Int)==0)=false:=bd (by omega);clear z L D E I J h O;go_enter Tryz.func218,Tryz.ntmps218;go_wp2_with fail;refine y.out.mono ?_;rintro e w1 ⟨rfl,o⟩;rw[o];clear o w1 y;go_wp2_with fail;refine(dw _ er _).mono ?_;rintro e w1 ⟨rfl,o⟩;rw[o];clear o w1;go_wp2;exact⟨rfl,rfl,Aside.refl _ _⟩
 |ok nk=>
  obtain⟨n,k⟩:=nk;rw[ov z.symm] at y;obtain⟨K,-⟩:=fH z.symm;have V:=eI p l.length c k K w;have M:=gQq (h.cut D E I J k K);clear z D E I J h K;go_enter Tryz.func218,Tryz.ntmps218;go_wp2_with fail;refine y.out.mono ?_;rintro e w1 ⟨rfl,o⟩;rw[o];clear o w1 y;go_wp2_with fail;refine(du _ 0 _).mono ?_;rintro e w1 ⟨rfl,o⟩;rw[o];clear o w1;go_wp2;go_ret;exact⟨_,rfl,rfl,M.out,ag _ _ _ _⟩
theorem mH(z E:Nat)(ah:z<=1024)(l:L8)(A R:Nat)(w:World)(h:Rdr w A R l):Calls Tryz.prog 181 #[.pointer (some ⟨R,0,none⟩),.int .u64 z,.int .i64 E] w (RdA w A R l (aS z E l) isI):=by
 have D:=gQq (qS l A R w h);obtain⟨r,U⟩:∃r,r=aS z E l:=⟨_,rfl⟩
 have J:Hid (r=match Sch.num l with
  |.error e=>.error e
  |.ok (n,k)=>if z<n then .error E else .ok (n,k)):=U
 rw[<-U];clear h U;obtain⟨m,S⟩:∃m,m=Sch.num l:=⟨_,rfl⟩;rw[<-S] at D J;have X:=gQq S;clear S;cases m with
 |error e0=>
  go_enter Tryz.func181,Tryz.ntmps181;go_wp2_with fail;refine D.out.mono ?_;intro e w1 y;obtain⟨L,o⟩:=y.bad;subst L;clear y;have K:=gQq o;clear o D;go_wp2;rw[J.out];exact⟨rfl,rfl,K.out⟩
 |ok nk=>
  obtain⟨n,k⟩:=nk;have aj:=(fH X.out.symm).2;by_cases O:z<n
  ·have Q:Hid (r=.error E):=(by show _=_;rw[J.out];exact if_pos O);have Z:¬n<=z:=(by omega);clear J O;go_enter Tryz.func181,Tryz.ntmps181;go_wp2_with fail;refine D.out.mono ?_;intro e w1 y;obtain⟨v,L,I,-,o⟩:=y.good;clear y
   replace I:v=.int .u64 (n:Nat):=I
   subst I;subst L;have K:=gQq o;clear o D;go_wp2_with fail;refine(dw _ E _).mono ?_;rintro e V ⟨rfl,M⟩;rw[M];clear M V;go_wp2;rw[Q.out];exact⟨rfl,rfl,K.out⟩
  ·have Q:Hid (r=.ok (n,k)):=(by show _=_;rw[J.out];exact if_neg O);have Z:n<=z:=(by omega);have ab:(n:Int)<=1024:=(by omega);clear J O;go_enter Tryz.func181,Tryz.ntmps181;go_wp2_with fail;refine D.out.mono ?_;intro e w1 y;obtain⟨v,L,I,W,o⟩:=y.good;clear y
   replace I:v=.int .u64 (n:Nat):=I
   subst I;subst L;have K:=gQq o;have Y:=gQq W;clear o D W;go_wp2_with fail;refine(du _ E _).mono ?_;rintro e V ⟨rfl,M⟩;rw[M];clear M V;go_wp2;go_ret;rw[Q.out];exact⟨_,rfl,rfl,Y.out,K.out⟩
theorem va(l:L8)(A R:Nat)(w:World)(h:Rdr w A R l):Calls Tryz.prog 221 #[.pointer (some ⟨R,0,none⟩)] w (RdA w A R l (Sch.bit l) isI):=by
 have o:=gQq (nl 1 l A R w h);clear h;cases l with
 |nil=>
  have I:aU 1 []=.error 30:=rfl;rw[I] at o;go_enter Tryz.func221,Tryz.ntmps221;go_wp2_with fail;refine o.out.mono ?_;intro e w1 z;obtain⟨M,y⟩:=z.bad;subst M;clear z;have E:=gQq y;clear y o;go_wp2;exact⟨rfl,rfl,E.out⟩
 |cons b t=>
  have I:aU 1 (b::t)=.ok ([b],1):=by
   unfold aU;rw[if_neg (by simp)];rfl
  rw[I] at o;have hb:=b.toNat_lt;by_cases V:1<b.toNat
  ·have J:Sch.bit (b::t)=.error 5:=(by rw[Sch.bit,if_pos V]);have Z:decide ((b.toNat:Int)<=1)=false:=decide_eq_false (by omega);rw[J];clear I J;go_enter Tryz.func221,Tryz.ntmps221;go_wp2_with fail;refine o.out.mono ?_;intro e w1 z;obtain⟨v,M,D,-,y⟩:=z.good;obtain⟨q,c,D,K,-⟩:=D.open;clear z;subst D;subst M;obtain⟨Q,S,rfl,-,L⟩:=aC K (by simp);have Y:w1.cell? ⟨Q,S,none⟩=some (.int .u8 (b.toNat:Int)):=L 0 (by simp);have E:=gQq y;clear y o K L;go_wp2_with fail;refine(dw _ 5 _).mono ?_;rintro e U ⟨rfl,O⟩;rw[O];clear O U;go_wp2;exact⟨rfl,rfl,E.out⟩
  ·have J:Sch.bit (b::t)=.ok (b.toNat,1):=(by rw[Sch.bit,if_neg V]);have Z:decide ((b.toNat:Int)<=1)=true:=decide_eq_true (by omega);rw[J];clear I J;go_enter Tryz.func221,Tryz.ntmps221;go_wp2_with fail;refine o.out.mono ?_;intro e w1 z;obtain⟨v,M,D,W,y⟩:=z.good;obtain⟨q,c,D,K,-⟩:=D.open;clear z;subst D;subst M;obtain⟨Q,S,rfl,-,L⟩:=aC K (by simp);have Y:w1.cell? ⟨Q,S,none⟩=some (.int .u8 (b.toNat:Int)):=L 0 (by simp);have E:=gQq y;have X:=gQq W;clear y o K L W;go_wp2_with fail;refine(du _ 5 _).mono ?_;rintro e U ⟨rfl,O⟩;rw[O];clear O U;go_wp2;go_ret;exact⟨_,rfl,rfl,X.out,E.out⟩
def ar{α β:Type}(r:Except Nat (α×Nat))(f:α->Nat->Except Nat β):Except Nat β:=match r with
 |.error e=>.error e
 |.ok (a,k)=>f a k
theorem aK{o y:Type}(a:o)(k:Nat)(f:o->Nat->Except Nat y):ar (.ok (a,k)) f=f a k:=rfl
theorem ni{o y:Type}(e:Nat)(f:o->Nat->Except Nat y):ar (.error e) f=.error e:=rfl
theorem gv(y z:Nat)(l:L8):Sch.text y z l=ar (aS y z l) fun n k=>ar (aU n (l.drop k)) fun b j=>.ok (textOf b,k+j):=by
 unfold Sch.text aS;cases Sch.num l with
 |error e=>rfl
 |ok nk=>
  obtain⟨n,k⟩:=nk;dsimp only;by_cases h:y<n
  ·rw[if_pos h,if_pos h];rfl
  ·rw[if_neg h,if_neg h,aK];unfold aU;rw[List.length_drop];by_cases o:l.length-k<n
   ·rw[if_pos o,if_pos o];rfl
   ·rw[if_neg o,if_neg o];rfl
theorem nZ(l:L8):i7 l=ar (aS 16 70 l) fun n k=>ar (aU n (l.drop k)) fun b j=>if Sch.name (textOf b)=false then .error 70 else .ok (textOf b,k+j):=by
 unfold i7;rw[gv];cases aS 16 70 l with
 |error e=>rfl
 |ok nk=>
  obtain⟨n,k⟩:=nk;rw[aK,aK];cases aU n (l.drop k) with
  |error e=>rfl
  |ok bj=>rfl
theorem xD(l:L8)(A R:Nat)(w:World)(h:Rdr w A R l):Calls Tryz.prog 248 #[.pointer (some ⟨R,0,none⟩)] w (RdA w A R l (Sch.text 1024 2 l) isT):=by
 have E:=gQq (mH 1024 2 (by omega) l A R w h);obtain⟨r,S⟩:∃r,r=Sch.text 1024 2 l:=⟨_,rfl⟩;have M:=gQq (S.trans (gv 1024 2 l));rw[<-S];obtain⟨m,J⟩:∃m,m=aS 1024 2 l:=⟨_,rfl⟩;rw[<-J] at E M;clear h S J;cases m with
 |error e0=>
  go_enter Tryz.func248,Tryz.ntmps248;go_wp2_with fail;refine E.out.mono ?_;intro e w1 y;obtain⟨z,o⟩:=y.bad;subst z;clear y;have L:=gQq o;clear o E;go_wp2;rw[M.out];exact⟨rfl,rfl,L.out⟩
 |ok nk=>
  obtain⟨n,k⟩:=nk;go_enter Tryz.func248,Tryz.ntmps248;go_wp2_with fail;refine E.out.mono ?_;intro e w1 y;obtain⟨v,z,D,K,o⟩:=y.good;clear y
  replace D:v=.int .i64 (n:Nat):=D
  subst D;subst z;have L:=gQq o;have I:=gQq (nl n (l.drop k) A R w1 K);obtain⟨m,J⟩:∃m,m=aU n (l.drop k):=⟨_,rfl⟩;have Q:Hid (r=ar (aU n (l.drop k)) fun b j=>.ok (textOf b,k+j)):=M.out;rw[<-J] at I Q;clear o E K J M;cases m with
  |error e0=>
   go_wp2_with fail;refine I.out.mono ?_;intro e V y;obtain⟨z,o⟩:=y.bad;subst z;clear y;have O:=gQq (L.out.trans o (fun _ _ h=>h));clear o I;go_wp2;rw[Q.out];exact⟨rfl,rfl,O.out⟩
  |ok bj=>
   obtain⟨b,j⟩:=bj;go_wp2_with fail;refine I.out.mono ?_;intro e V y;obtain⟨v,z,D,K,o⟩:=y.good;obtain⟨q,c,D,U,-⟩:=D.open;clear y;subst D;subst z;have O:=gQq (L.out.trans o (fun _ _ h=>h));have X:=dL U c;have W:Hid (Rdr V A R (l.drop (k+j))):=by
    show Rdr _ _ _ _;rw[<-List.drop_drop];exact K
   clear o I U K;go_wp2;go_ret;rw[Q.out];exact⟨_,rfl,rfl,W.out,O.out⟩
theorem yo(l:L8)(A R:Nat)(w:World)(h:Rdr w A R l):Calls Tryz.prog 182 #[.pointer (some ⟨R,0,none⟩)] w (RdA w A R l (i7 l) isT):=by
 have J:=gQq (mH 16 70 (by omega) l A R w h);obtain⟨r,Y⟩:∃r,r=i7 l:=⟨_,rfl⟩;have V:=gQq (Y.trans (nZ l));rw[<-Y];obtain⟨m,L⟩:∃m,m=aS 16 70 l:=⟨_,rfl⟩;rw[<-L] at J V;clear h Y L;cases m with
 |error e0=>
  go_enter Tryz.func182,Tryz.ntmps182;go_wp2_with fail;refine J.out.mono ?_;intro e w1 y;obtain⟨D,o⟩:=y.bad;subst D;clear y;have Q:=gQq o;clear o J;go_wp2;rw[V.out];exact⟨rfl,rfl,Q.out⟩
 |ok nk=>
  obtain⟨n,k⟩:=nk;go_enter Tryz.func182,Tryz.ntmps182;go_wp2_with fail;refine J.out.mono ?_;intro e w1 y;obtain⟨v,D,E,M,o⟩:=y.good;clear y
  replace E:v=.int .i64 (n:Nat):=E
  subst E;subst D;have Q:=gQq o;have K:=gQq (nl n (l.drop k) A R w1 M);obtain⟨m,L⟩:∃m,m=aU n (l.drop k):=⟨_,rfl⟩;have W:Hid (r=ar (aU n (l.drop k)) fun b j=>if Sch.name (textOf b)=false then .error 70 else .ok (textOf b,k+j)):=V.out;rw[<-L] at K W;clear o J M L V;cases m with
  |error e0=>
   go_wp2_with fail;refine K.out.mono ?_;intro e Z y;obtain⟨D,o⟩:=y.bad;subst D;clear y;have S:=gQq (Q.out.trans o (fun _ _ h=>h));clear o K;go_wp2;rw[W.out];exact⟨rfl,rfl,S.out⟩
  |ok bj=>
   obtain⟨b,j⟩:=bj;go_wp2_with fail;refine K.out.mono ?_;intro e Z y;obtain⟨v,D,E,M,o⟩:=y.good;obtain⟨q,c,E,ab,-⟩:=E.open;clear y;subst E;subst D;have S:=gQq (Q.out.trans o (fun _ _ h=>h));have a0:=dL ab c;have ak:Hid (Rdr Z A R (l.drop (k+j))):=by
    show Rdr _ _ _ _;rw[<-List.drop_drop];exact M
   have U:=gQq (xK (textOf b) Z);have I:Hid (r=if Sch.name (textOf b)=false then .error 70 else .ok (textOf b,k+j)):=W.out;obtain⟨t,aj⟩:∃t,t=textOf b:=⟨_,rfl⟩;rw[<-aj] at a0 U I;obtain⟨a1,ah⟩:∃b,b=Sch.name t:=⟨_,rfl⟩;rw[<-ah] at U I;clear o K ab M W ah aj;go_wp2_with fail;refine U.out.mono ?_;rintro e O ⟨rfl,z⟩;rw[z];clear z O U;cases a1 with
   |false=>
    have X:Hid (r=.error 70):=I.out.trans (if_pos (by first | rfl | trivial));clear I;go_wp2_with fail;refine(dw _ 70 _).mono ?_;rintro e O ⟨rfl,z⟩;rw[z];clear z O;go_wp2;rw[X.out];exact⟨rfl,rfl,S.out⟩
   |true=>
    have X:Hid (r=.ok (t,k+j)):=I.out.trans (if_neg (by first | decide | simp));clear I;go_wp2_with fail;refine(du _ 70 _).mono ?_;rintro e O ⟨rfl,z⟩;rw[z];clear z O;go_wp2;go_ret;rw[X.out];exact⟨_,rfl,rfl,ak.out,S.out⟩
end
section
open Go.RowKit
theorem nU(m x k:Nat)(o:m<256 ^ k)(D:m+x*256 ^ k<18446744073709551616):bits .or .u64 (m:Int) (IntKind.u64.wrap ((x:Int)*2 ^ (8*k)))=((m+x*256 ^ k:Nat):Int):=by
 have e:(2:Nat) ^ (8*k)=256 ^ k:=by rw[Nat.pow_mul]
 have y:((x:Int)*2 ^ (8*k))=((x*256 ^ k:Nat):Int):=by
  rw[<-e];push_cast;rfl
 have z:IntKind.u64.wrap (((x*256 ^ k:Nat):Int))=((x*256 ^ k:Nat):Int):=by
  rw[IntKind.wrap_u64];omega
 rw[y,z,bits_join_low .u64 64 (by decide) wraps_u64 (8*k) (m:Int) _ (by omega) (by rw[<-e] at o;exact_mod_cast o) (by omega) (by omega) (by rw[<-e];push_cast;exact Int.mul_emod_left _ _) (by omega)];omega
theorem gJ(r:L8)(k:Nat)(h:k<r.length):Sch.un (r.take (k+1))=Sch.un (r.take k)+r[k].toNat*256 ^ k:=by
 induction r generalizing k with
 |nil=>simp at h
 |cons c r ih=>
  cases k with
  |zero=>simp[Sch.un]
  |succ k=>
   have o:k<r.length:=(by simpa using h);have:=ih k o;simp only[List.take_succ_cons,Sch.un,List.getElem_cons_succ,this,Nat.pow_succ];generalize (256:Nat) ^ k=P;generalize r[k].toNat=x;rw[Nat.add_mul,Nat.mul_assoc];omega
theorem eY(r:L8)(k:Nat)(h:k<=r.length):Sch.un (r.take k)<256 ^ k:=by
 have:=Sch.un_lt (r.take k);rw[List.length_take,Nat.min_eq_left h] at this;exact this
def isF(n:Nat)(v:Value)(_:World):Prop:=v=.float .f64 n
theorem yx(l:L8)(A R:Nat)(w:World)(h:Rdr w A R l):Calls Tryz.prog 247 #[.pointer (some ⟨R,0,none⟩)] w (RdA w A R l (Sch.float l) isF):=by
 have HT:=gQq (nl 8 l A R w h);obtain⟨r,O⟩:∃r,r=Sch.float l:=⟨_,rfl⟩;rw[<-O];clear h;by_cases E:l.length<8
 ·have K:aU 8 l=.error 30:=by rw[aU,if_pos E]
  have J:Hid (r=.error 30):=by show _=_;rw[O,Sch.float,if_pos E]
  rw[K] at HT;clear K E O;go_enter Tryz.func247,Tryz.ntmps247;go_wp2_with fail;refine HT.out.mono ?_;intro e w1 M;obtain⟨Y,L⟩:=M.bad;subst Y;clear M;have Q:=gQq L;clear L HT;go_wp2;rw[J.out];exact⟨rfl,rfl,Q.out⟩
 ·have K:aU 8 l=.ok (l.take 8,8):=by rw[aU,if_neg E]
  have J:Hid (r=if ay (Sch.un (l.take 8))=Sch.un (l.take 8) then .ok (Sch.un (l.take 8),8) else .error 5):=by show _=_;rw[O,Sch.float,if_neg E]
  rw[K] at HT;have X:(l.take 8).length=8:=by rw[List.length_take];omega
  obtain⟨b,hb⟩:∃b,b=l.take 8:=⟨_,rfl⟩;rw[<-hb] at HT J X;have S:=gQq X;have bc:Hid (Sch.un (b.take 0)=0):=by show _=_;simp[Sch.un]
  clear K E O hb X;go_enter Tryz.func247,Tryz.ntmps247;go_wp2_with fail;refine HT.out.mono ?_;intro e w1 M;obtain⟨v,Y,a7,a6,L⟩:=M.good;obtain⟨q,c,bq,a4,-⟩:=a7.open;clear M a7;subst bq;subst Y;rw[S.out];have Q:=gQq L;have bb:=gQq a6;obtain⟨bs,b3,bp,-,a5⟩:=aC a4 (by rw[S.out];decide);subst bp;have a9:=gQq a5;clear L HT a4 a6 a5;go_wp2_with fail;go_loop [3,10] (fun br ak=>∃(k m:Nat),k<=8∧ak=.int .i64 k∧br=.int .u64 m∧m<18446744073709551616∧Hid (m=Sch.un (b.take k))) (fun _ ak=>8-(intOf ak).toNat);case atStart=>exact⟨0,0,by omega,rfl,rfl,by omega,bc.out.symm⟩
  case round=>
   obtain⟨k,m,bT,rfl,rfl,b1,D⟩:=hrel;by_cases bi:k<8
   ·have bX:(k:Int)<8:=(by omega);have ab:k<b.length:=(by rw[S.out];exact bi);have be:=a9.out k ab;have V:=gJ b k ab;have bk:=eY b (k+1) (by omega);obtain⟨x,aj⟩:∃x,x=b[k].toNat:=⟨_,rfl⟩;rw[<-aj] at be V;have b2:x<256:=(by rw[aj];exact b[k].toNat_lt);have ah:m+x*256 ^ k<18446744073709551616:=by
     rw[D.out,<-V];have e:(256:Nat) ^ (k+1)<=256 ^ 8:=Nat.pow_le_pow_right (by decide) (by omega);have bN:(256:Nat) ^ 8=18446744073709551616:=(by decide);omega
    have bn:=nU m x k (by rw[D.out];exact eY b k (by omega)) ah;have I:Hid (m+x*256 ^ k=Sch.un (b.take (k+1))):=(by show _=_;rw[V,D.out]);clear V bk aj D ab;obtain⟨y,a8⟩:∃y,y=m+x*256 ^ k:=⟨_,rfl⟩;rw[<-a8] at bn I ah;clear a8;go_wp2;go_round;case rel=>exact⟨k+1,y,by omega,by go_num,rfl,ah,I.out⟩
    case measure=>simp[intOf];omega
   ·have b0:¬(k:Int)<8:=(by omega);have bj:k=8:=(by omega);subst bj;have I:Hid (m=Sch.un b):=by
     show _=_;rw[D.out,List.take_of_length_le (by rw[S.out];exact gQx)]
    clear D;have a2:=gQq (jW (m:Int));have a3:((m:Int)).toNat=m:=(by omega);rw[a3] at a2;have a1:=gQq (cS (ay m));rw[eT] at a1;have U:Hid (r=if ay m=m then .ok (m,8) else .error 5):=(by show _=_;rw[J.out,I.out]);clear J I a3;go_wp2_with fail;refine(a2.out _).mono ?_;rintro e z ⟨rfl,o⟩;rw[o];clear o z;go_wp2_with fail;refine(a1.out _).mono ?_;rintro e z ⟨rfl,o⟩;rw[o];clear o z;by_cases Z:ay m=m
    ·have W:Hid (r=.ok (m,8)):=U.out.trans (if_pos Z);rw[Z];clear U;go_wp2_with fail;refine(du _ 5 _).mono ?_;rintro e z ⟨rfl,o⟩;rw[o];clear o z;go_wp2;go_ret;rw[W.out];exact⟨_,rfl,rfl,bb.out,Q.out⟩
    ·have W:Hid (r=.error 5):=U.out.trans (if_neg Z);have bO:((ay m:Int)==(m:Int))=false:=bd (by omega);clear U;go_wp2_with fail;refine(dw _ 5 _).mono ?_;rintro e z ⟨rfl,o⟩;rw[o];clear o z;go_wp2;rw[W.out];exact⟨rfl,rfl,Q.out⟩
end
end Go.Proofs.YtbahfgdbjgkklaaGreatDoor
