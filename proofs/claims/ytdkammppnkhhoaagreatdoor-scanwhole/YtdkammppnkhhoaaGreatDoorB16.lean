import Derived.Test.YtdkammppnkhhoaaGreatDoorB14
set_option maxRecDepth 100000
set_option maxHeartbeats 1000000
namespace Go.Proofs.YtdkammppnkhhoaaGreatDoor
variable{A R c k n:Nat}{w w':World}{l:L8}{p:OA}
section
open Go.RowKit
def ei(k:Nat):List PanicEntry:=[{ v:=.iface 29 (.int .i64 k),recovered:=false }]
def dI(p:OA)(n c:Nat):OA:=if c=n then p else p.map (·.add n)
def jE(p:OA)(c:Nat):OA:=if c=0 then p else p.map (·.add 0)
theorem dj(p:OA)(len c n:Nat)(h:n<=len)(w:World):(Instr.slice 22 (.slice p len c) (some (.int .i64 n)) none none).run Tryz.prog w=.ok (.slice (dI p n c) (len-n) (c-n)) w:=by
 have o:(sizeOf (Tryz.prog.elem 22)).run Tryz.prog w=.ok 1 w:=by kernel_rfl
 rw[run_slice_l w 22 p len c (by kernel_rfl) .i64 (n:Int) (by omega) (by omega),o];simp[sliced,dI,Result.andThen]
theorem jU(p:OA)(len c n:Nat)(h:n<=c)(w:World):(Instr.slice 22 (.slice p len c) none (some (.int .i64 n)) none).run Tryz.prog w=.ok (.slice (jE p c) n c) w:=by
 have o:(sizeOf (Tryz.prog.elem 22)).run Tryz.prog w=.ok 1 w:=by kernel_rfl
 rw[run_slice_h w 22 p len c (by kernel_rfl) .i64 (n:Int) (by omega) (by omega),o];simp[sliced,jE,Result.andThen]
theorem add_block(a:Addr)(n:Nat):(a.add n).block=a.block:=by
 unfold Addr.add;split <;> rfl
theorem fA(h:∀a,p=some a->a.block<A):∀a,dI p n c=some a->a.block<A:=by
 intro a o;unfold dI at o;split at o
 ·exact h a o
 ·cases p with
  |none=>cases o
  |some b=>
   simp only[Option.map_some,Option.some.injEq] at o;subst o;rw[add_block];exact h b rfl
theorem At.cut(h:At w p l)(n c:Nat)(D:l.length<=c):At w (dI p n c) (l.drop n):=by
 by_cases o:l.length<=n
 ·exact .inl (List.drop_eq_nil_of_le o)
 ·obtain⟨b,z,rfl,hb,y⟩:=aL h (by omega);refine .inr ⟨b,z+n,?_,hb,cu y n⟩;unfold dI;rw[if_neg (by omega),Option.map_some,Lib.add_plain]
theorem At.head(h:At w p l)(n c:Nat):At w (jE p c) (l.take n):=by
 rcases h with rfl | ⟨b,y,rfl,hb,o⟩
 ·exact .inl (by simp)
 ·refine .inr ⟨b,y,?_,hb,dq o n⟩;unfold jE;split
  ·rfl
  ·rw[Option.map_some,Lib.add_plain];rfl
structure Rdr(w:World)(A R:Nat)(l:L8):Prop where
 out:∃p c,w.1[R]?=some (.cells #[.slice p l.length c] 146 (0,0))∧At w p l∧l.length<=c∧(l≠[]->∀a,p=some a->a.block<A)
 small:l.length<=1024
 low:A<=R
theorem Rdr.lt(h:Rdr w A R l):R<w.1.size:=by
 obtain⟨p,c,o,_⟩:=h.out;exact az o
theorem At.keep(h:At w p l)(D:l≠[]->∀a,p=some a->a.block<A)(z:∀k,k<A->w'.1[k]?=w.1[k]?)(I:w.1.size<=w'.1.size):At w' p l:=by
 rcases h with rfl | ⟨b,E,rfl,hb,o⟩
 ·exact .inl rfl
 ·refine .inr ⟨b,E,rfl,by omega,fun j y=>?_⟩;rw[World.cell?_of_block (w:=w) (z b (D (List.ne_nil_of_length_pos (by omega)) _ rfl))];exact o j y
theorem Rdr.keep(h:Rdr w A R l)(y:∀k,k<=R->w'.1[k]?=w.1[k]?)(I:w.1.size<=w'.1.size):Rdr w' A R l:=by
 obtain⟨p,c,z,D,E,o⟩:=h.out;have K:=h.low;exact⟨⟨p,c,(y R xZ).trans z,D.keep o (fun k J=>y k (by omega)) I,E,o⟩,h.small,h.low⟩
theorem Rdr.on(h:Rdr w A R l)(hb:Below w.1.size w w'):Rdr w' A R l:=h.keep (fun k o=>hb.block k (by have:=h.lt;omega)) hb.size
theorem Rdr.aside{F:Nat->Prop}(h:Rdr w A R l)(o:Aside F w w')(y:∀k,F k->R<k):Rdr w' A R l :=
 h.keep (fun k D=>o.block k (by have:=h.lt;omega) (fun z=>by have:=y k z;omega)) o.size
theorem Rdr.cut(h:Rdr w A R l)(y:w.1[R]?=some (.cells #[.slice p l.length c] 146 (0,0)))(z:At w p l)(D:l.length<=c)(E:l≠[]->∀a,p=some a->a.block<A)(n:Nat)(M:n<=l.length):
  Rdr (w.setCell ⟨R,0,none⟩ (.slice (dI p n c) (l.length-n) (c-n))) A R (l.drop n):=by
 have J:=h.low;have o:l.drop n≠[]->∀a,dI p n c=some a->a.block<A:=fun K=>fA (E (fun I=>K (by rw[I];simp)));refine⟨⟨dI p n c,c-n,?_,?_,by rw[List.length_drop];omega,o⟩,by rw[List.length_drop];have:=h.small;omega,J⟩
 ·rw[an y 0,List.length_drop];rfl
 ·refine(z.cut n c D).keep o (fun k L=>?_) (by simp[World.setCell]);exact Below.heap_setCell _ _ _ _ (by show k≠R;omega)
theorem ai(w:World)(R m:Nat)(u:Value):Aside (fun i=>i=R) w (w.setCell ⟨R,m,none⟩ u):=(Aside.refl (fun i=>i=R) w).setCell (p:=⟨R,m,none⟩) (.inl rfl) u
def RdA{α:Type}(w:World)(A R:Nat)(l:L8)(r:Except Nat (α×Nat))(V:α->Value->World->Prop)(e:Ending)(w':World):Prop:=match r with
 |.error k=>e=.panicked (ei k)∧Aside (fun i=>i=R) w w'
 |.ok (a,j)=>∃v,e=.returned v∧V a v w'∧Rdr w' A R (l.drop j)∧Aside (fun i=>i=R) w w'
def isI(n:Nat)(v:Value)(_:World):Prop:=v=.int .i64 n
def isU(n:Nat)(v:Value)(_:World):Prop:=v=.int .u64 n
def isT(t:ByteArray)(v:Value)(_:World):Prop:=v=.string t
def isB(b:L8)(v:Value)(w:World):Prop:=∃q c,v=.slice q b.length c∧At w q b∧b.length<=c
theorem cP(a:Value)(k:Int)(w:World):Calls Tryz.prog 98 #[a,.bool true,.int .i64 k] w fun e w'=>e=.returned (.tuple #[])∧w'=w:=by
 go_enter Tryz.func98,Tryz.ntmps98;go_wp2;go_end0;exact⟨rfl,rfl⟩
theorem cQ(a:Value)(k:Nat)(w:World):Calls Tryz.prog 98 #[a,.bool false,.int .i64 k] w fun e w'=>e=.panicked (ei k)∧w'=w:=by
 go_enter Tryz.func98,Tryz.ntmps98;go_wp2;exact⟨rfl,rfl,rfl⟩
end
section
open Go.RowKit
def ca(n:Nat)(l:L8):Except Nat (L8×Nat):=if l.length<n then .error 30 else .ok (l.take n,n)
def bu(most er:Nat)(l:L8):Except Nat (Nat×Nat):=match Sch.num l with
 |.error e=>.error e
 |.ok (n,k)=>if most<n then .error er else .ok (n,k)
def gS(l:L8):Except Nat (ByteArray×Nat):=match Sch.text 16 70 l with
 |.error e=>.error e
 |.ok (t,k)=>if Sch.name t=false then .error 70 else .ok (t,k)
theorem lH(n:Nat)(l:L8)(A R:Nat)(w:World)(h:Rdr w A R l):Calls Tryz.prog 163 #[.pointer (some ⟨R,0,none⟩),.int .i64 n] w (RdA w A R l (ca n l) isB):=by
 obtain⟨p,c,z,I,L,o⟩:=h.out;have c0:w.cell? ⟨R,0,none⟩=some (.slice p l.length c):=aa z 0;have Z:=ab z 0;obtain⟨r,D⟩:∃r,r=ca n l:=⟨_,rfl⟩;rw[<-D];by_cases J:l.length<n
 ·have V:¬(n:Int)<=(l.length:Int):=by omega
  have K:Hid (r=.error 30):=by show _=_;rw[D,ca,if_pos J]
  clear D J z I L o h;go_enter Tryz.func163,Tryz.ntmps163;go_wp2_with fail;refine(cQ _ 30 _).mono ?_;rintro e w1 ⟨rfl,E⟩;rw[E];clear E w1;go_wp2;rw[K.out];exact⟨rfl,rfl,Aside.refl _ _⟩
 ·have V:(n:Int)<=(l.length:Int):=by omega
  have K:Hid (r=.ok (l.take n,n)):=by show _=_;rw[D,ca,if_neg J]
  have ak:=jU p l.length c n (by omega) w;have a0:=dj p l.length c n (by omega) w;have M:=xX (h.cut z I L o n (by omega));have O:Hid (isB (l.take n) (.slice (jE p c) n c) (w.setCell ⟨R,0,none⟩ (.slice (dI p n c) (l.length-n) (c-n)))):=by
   have U:(l.take n).length=n:=(by rw[List.length_take];omega);refine⟨jE p c,c,by rw[U],?_,by omega⟩;have aj:=h.low;have Y:l.take n≠[]->∀a,jE p c=some a->a.block<A:=fun X a y=>by
    have o:=o (fun W=>X (by rw[W];simp));unfold jE at y;split at y
    ·exact o a y
    ·cases p with
     |none=>cases y
     |some b=>
      simp only[Option.map_some,Option.some.injEq] at y;subst y;rw[add_block];exact o b rfl
   exact(I.head n c).keep Y (fun k ah=>Below.heap_setCell _ _ _ _ (by show k≠R;omega)) (by simp[World.setCell])
  clear D J z I L o h;go_enter Tryz.func163,Tryz.ntmps163;go_wp2_with fail;refine(cP _ 30 _).mono ?_;rintro e w1 ⟨rfl,E⟩;rw[E];clear E w1;go_wp2;go_ret;rw[K.out];exact⟨_,rfl,O.out,M.out,ai _ _ _ _⟩
theorem RdA.good{o:Type}{w w':World}{A R:Nat}{l:L8}{a:o}{j:Nat}{V:o->Value->World->Prop}{e:Ending}(h:RdA w A R l (.ok (a,j)) V e w'):∃v,e=.returned v∧V a v w'∧Rdr w' A R (l.drop j)∧Aside (fun i=>i=R) w w':=h
theorem RdA.bad{o:Type}{w w':World}{A R:Nat}{l:L8}{k:Nat}{V:o->Value->World->Prop}{e:Ending}(h:RdA w A R l (.error k) V e w'):e=.panicked (ei k)∧Aside (fun i=>i=R) w w':=h
theorem isB.open{b:L8}{v:Value}(h:isB b v w):∃q c,v=.slice q b.length c∧At w q b∧b.length<=c:=h
theorem mB(h:Sch.num l=.ok (n,k)):eF l 0=.tuple #[.int .u64 n,.int .i64 k,.int .i64 0]:=by
 unfold Sch.num at h;split at h
 ·next h0=>
  injection h with h;injection h with h1 h2;have e:Leb.getAt l 0=Leb.get l:=by unfold Leb.getAt;rw[if_neg (by decide)];rfl
  unfold eF Leb.nextAt;rw[e,if_pos h0,h0,h1,h2];simp
 ·cases h
theorem ke{o:Nat}(h:Sch.num l=.error o):o≠0∧∃m:Nat,eF l 0=.tuple #[.int .u64 m,.int .i64 0,.int .i64 o]:=by
 unfold Sch.num at h;split at h
 ·cases h
 ·next h0=>
  injection h with h;have e:Leb.getAt l 0=Leb.get l:=by unfold Leb.getAt;rw[if_neg (by decide)];rfl
  refine⟨by rw[<-h];exact h0,(Leb.get l).n,?_⟩;unfold eF Leb.nextAt;rw[e,if_neg h0,h]
theorem i9(h:Sch.num l=.ok (n,k)):k<=l.length∧n<18446744073709551616:=by
 obtain⟨o,r,y,z⟩:=Sch.num_ok h;refine⟨?_,o⟩;rw[z,y,List.length_append];omega
theorem oS(l:L8)(A R:Nat)(w:World)(h:Rdr w A R l):Calls Tryz.prog 162 #[.pointer (some ⟨R,0,none⟩)] w (RdA w A R l (Sch.num l) isU):=by
 obtain⟨p,c,D,E,I,J⟩:=h.out;have W:=h.small;have c0:w.cell? ⟨R,0,none⟩=some (.slice p l.length c):=aa D 0;have U:=ab D 0;have y:=xX (pd p c l 0 (by omega) I w E);obtain⟨r,z⟩:∃r,r=Sch.num l:=⟨_,rfl⟩;rw[<-z];cases r with
 |error er=>
  obtain⟨O,m,L⟩:=ke z.symm;rw[L] at y;have V:((er:Int)==0)=false:=aK (by omega);clear z L D E I J h O;go_enter Tryz.func162,Tryz.ntmps162;go_wp2_with fail;refine y.out.mono ?_;rintro e w1 ⟨rfl,o⟩;rw[o];clear o w1 y;go_wp2_with fail;refine(cQ _ er _).mono ?_;rintro e w1 ⟨rfl,o⟩;rw[o];clear o w1;go_wp2;exact⟨rfl,rfl,Aside.refl _ _⟩
 |ok nk=>
  obtain⟨n,k⟩:=nk;rw[mB z.symm] at y;obtain⟨K,-⟩:=i9 z.symm;have X:=dj p l.length c k K w;have M:=xX (h.cut D E I J k K);clear z D E I J h K;go_enter Tryz.func162,Tryz.ntmps162;go_wp2_with fail;refine y.out.mono ?_;rintro e w1 ⟨rfl,o⟩;rw[o];clear o w1 y;go_wp2_with fail;refine(cP _ 0 _).mono ?_;rintro e w1 ⟨rfl,o⟩;rw[o];clear o w1;go_wp2;go_ret;exact⟨_,rfl,rfl,M.out,ai _ _ _ _⟩
theorem kU(z E:Nat)(a0:z<=1024)(l:L8)(A R:Nat)(w:World)(h:Rdr w A R l):Calls Tryz.prog 130 #[.pointer (some ⟨R,0,none⟩),.int .u64 z,.int .i64 E] w (RdA w A R l (bu z E l) isI):=by
 have D:=xX (oS l A R w h);obtain⟨r,W⟩:∃r,r=bu z E l:=⟨_,rfl⟩
 have J:Hid (r=match Sch.num l with
  |.error e=>.error e
  |.ok (n,k)=>if z<n then .error E else .ok (n,k)):=W
 rw[<-W];clear h W;obtain⟨m,V⟩:∃m,m=Sch.num l:=⟨_,rfl⟩;rw[<-V] at D J;have Z:=xX V;clear V;cases m with
 |error e0=>
  go_enter Tryz.func130,Tryz.ntmps130;go_wp2_with fail;refine D.out.mono ?_;intro e w1 y;obtain⟨L,o⟩:=y.bad;subst L;clear y;have K:=xX o;clear o D;go_wp2;rw[J.out];exact⟨rfl,rfl,K.out⟩
 |ok nk=>
  obtain⟨n,k⟩:=nk;have a1:=(i9 Z.out.symm).2;by_cases O:z<n
  ·have U:Hid (r=.error E):=(by show _=_;rw[J.out];exact if_pos O);have aj:¬n<=z:=(by omega);clear J O;go_enter Tryz.func130,Tryz.ntmps130;go_wp2_with fail;refine D.out.mono ?_;intro e w1 y;obtain⟨v,L,I,-,o⟩:=y.good;clear y
   replace I:v=.int .u64 (n:Nat):=I
   subst I;subst L;have K:=xX o;clear o D;go_wp2_with fail;refine(cQ _ E _).mono ?_;rintro e X ⟨rfl,M⟩;rw[M];clear M X;go_wp2;rw[U.out];exact⟨rfl,rfl,K.out⟩
  ·have U:Hid (r=.ok (n,k)):=(by show _=_;rw[J.out];exact if_neg O);have aj:n<=z:=(by omega);have ak:(n:Int)<=1024:=(by omega);clear J O;go_enter Tryz.func130,Tryz.ntmps130;go_wp2_with fail;refine D.out.mono ?_;intro e w1 y;obtain⟨v,L,I,Y,o⟩:=y.good;clear y
   replace I:v=.int .u64 (n:Nat):=I
   subst I;subst L;have K:=xX o;have ah:=xX Y;clear o D Y;go_wp2_with fail;refine(cP _ E _).mono ?_;rintro e X ⟨rfl,M⟩;rw[M];clear M X;go_wp2;go_ret;rw[U.out];exact⟨_,rfl,rfl,ah.out,K.out⟩
theorem sZ(l:L8)(A R:Nat)(w:World)(h:Rdr w A R l):Calls Tryz.prog 165 #[.pointer (some ⟨R,0,none⟩)] w (RdA w A R l (Sch.bit l) isI):=by
 have o:=xX (lH 1 l A R w h);clear h;cases l with
 |nil=>
  have I:ca 1 []=.error 30:=rfl;rw[I] at o;go_enter Tryz.func165,Tryz.ntmps165;go_wp2_with fail;refine o.out.mono ?_;intro e w1 z;obtain⟨M,y⟩:=z.bad;subst M;clear z;have E:=xX y;clear y o;go_wp2;exact⟨rfl,rfl,E.out⟩
 |cons b t=>
  have I:ca 1 (b::t)=.ok ([b],1):=by
   unfold ca;rw[if_neg (by simp)];rfl
  rw[I] at o;have hb:=b.toNat_lt;by_cases X:1<b.toNat
  ·have J:Sch.bit (b::t)=.error 5:=(by rw[Sch.bit,if_pos X]);have aj:decide ((b.toNat:Int)<=1)=false:=decide_eq_false (by omega);rw[J];clear I J;go_enter Tryz.func165,Tryz.ntmps165;go_wp2_with fail;refine o.out.mono ?_;intro e w1 z;obtain⟨v,M,D,-,y⟩:=z.good;obtain⟨q,c,D,K,-⟩:=D.open;clear z;subst D;subst M;obtain⟨U,V,rfl,-,L⟩:=aL K (by simp);have ah:w1.cell? ⟨U,V,none⟩=some (.int .u8 (b.toNat:Int)):=L 0 (by simp);have E:=xX y;clear y o K L;go_wp2_with fail;refine(cQ _ 5 _).mono ?_;rintro e W ⟨rfl,O⟩;rw[O];clear O W;go_wp2;exact⟨rfl,rfl,E.out⟩
  ·have J:Sch.bit (b::t)=.ok (b.toNat,1):=(by rw[Sch.bit,if_neg X]);have aj:decide ((b.toNat:Int)<=1)=true:=decide_eq_true (by omega);rw[J];clear I J;go_enter Tryz.func165,Tryz.ntmps165;go_wp2_with fail;refine o.out.mono ?_;intro e w1 z;obtain⟨v,M,D,Y,y⟩:=z.good;obtain⟨q,c,D,K,-⟩:=D.open;clear z;subst D;subst M;obtain⟨U,V,rfl,-,L⟩:=aL K (by simp);have ah:w1.cell? ⟨U,V,none⟩=some (.int .u8 (b.toNat:Int)):=L 0 (by simp);have E:=xX y;have Z:=xX Y;clear y o K L Y;go_wp2_with fail;refine(cP _ 5 _).mono ?_;rintro e W ⟨rfl,O⟩;rw[O];clear O W;go_wp2;go_ret;exact⟨_,rfl,rfl,Z.out,E.out⟩
def ao{α β:Type}(r:Except Nat (α×Nat))(f:α->Nat->Except Nat β):Except Nat β:=match r with
 |.error e=>.error e
 |.ok (a,k)=>f a k
theorem aQ{o y:Type}(a:o)(k:Nat)(f:o->Nat->Except Nat y):ao (.ok (a,k)) f=f a k:=rfl
theorem iI(y z:Nat)(l:L8):Sch.text y z l=ao (bu y z l) fun n k=>ao (ca n (l.drop k)) fun b j=>.ok (textOf b,k+j):=by
 unfold Sch.text bu;cases Sch.num l with
 |error e=>rfl
 |ok nk=>
  obtain⟨n,k⟩:=nk;dsimp only;by_cases h:y<n
  ·rw[if_pos h,if_pos h];rfl
  ·rw[if_neg h,if_neg h,aQ];unfold ca;rw[List.length_drop];by_cases o:l.length-k<n
   ·rw[if_pos o,if_pos o];rfl
   ·rw[if_neg o,if_neg o];rfl
theorem mh(l:L8):gS l=ao (bu 16 70 l) fun n k=>ao (ca n (l.drop k)) fun b j=>if Sch.name (textOf b)=false then .error 70 else .ok (textOf b,k+j):=by
 unfold gS;rw[iI];cases bu 16 70 l with
 |error e=>rfl
 |ok nk=>
  obtain⟨n,k⟩:=nk;rw[aQ,aQ];cases ca n (l.drop k) with
  |error e=>rfl
  |ok bj=>rfl
theorem uW(l:L8)(A R:Nat)(w:World)(h:Rdr w A R l):Calls Tryz.prog 181 #[.pointer (some ⟨R,0,none⟩)] w (RdA w A R l (Sch.text 1024 2 l) isT):=by
 have E:=xX (kU 1024 2 (by omega) l A R w h);obtain⟨r,V⟩:∃r,r=Sch.text 1024 2 l:=⟨_,rfl⟩;have M:=xX (V.trans (iI 1024 2 l));rw[<-V];obtain⟨m,J⟩:∃m,m=bu 1024 2 l:=⟨_,rfl⟩;rw[<-J] at E M;clear h V J;cases m with
 |error e0=>
  go_enter Tryz.func181,Tryz.ntmps181;go_wp2_with fail;refine E.out.mono ?_;intro e w1 y;obtain⟨z,o⟩:=y.bad;subst z;clear y;have L:=xX o;clear o E;go_wp2;rw[M.out];exact⟨rfl,rfl,L.out⟩
 |ok nk=>
  obtain⟨n,k⟩:=nk;go_enter Tryz.func181,Tryz.ntmps181;go_wp2_with fail;refine E.out.mono ?_;intro e w1 y;obtain⟨v,z,D,K,o⟩:=y.good;clear y
  replace D:v=.int .i64 (n:Nat):=D
  subst D;subst z;have L:=xX o;have I:=xX (lH n (l.drop k) A R w1 K);obtain⟨m,J⟩:∃m,m=ca n (l.drop k):=⟨_,rfl⟩;have U:Hid (r=ao (ca n (l.drop k)) fun b j=>.ok (textOf b,k+j)):=M.out;rw[<-J] at I U;clear o E K J M;cases m with
  |error e0=>
   go_wp2_with fail;refine I.out.mono ?_;intro e X y;obtain⟨z,o⟩:=y.bad;subst z;clear y;have O:=xX (L.out.trans o (fun _ _ h=>h));clear o I;go_wp2;rw[U.out];exact⟨rfl,rfl,O.out⟩
  |ok bj=>
   obtain⟨b,j⟩:=bj;go_wp2_with fail;refine I.out.mono ?_;intro e X y;obtain⟨v,z,D,K,o⟩:=y.good;obtain⟨q,c,D,W,-⟩:=D.open;clear y;subst D;subst z;have O:=xX (L.out.trans o (fun _ _ h=>h));have Z:=dO W c;have Y:Hid (Rdr X A R (l.drop (k+j))):=by
    show Rdr _ _ _ _;rw[<-List.drop_drop];exact K
   clear o I W K;go_wp2;go_ret;rw[U.out];exact⟨_,rfl,rfl,Y.out,O.out⟩
theorem vQ(l:L8)(A R:Nat)(w:World)(h:Rdr w A R l):Calls Tryz.prog 131 #[.pointer (some ⟨R,0,none⟩)] w (RdA w A R l (gS l) isT):=by
 have J:=xX (kU 16 70 (by omega) l A R w h);obtain⟨r,ah⟩:∃r,r=gS l:=⟨_,rfl⟩;have X:=xX (ah.trans (mh l));rw[<-ah];obtain⟨m,L⟩:∃m,m=bu 16 70 l:=⟨_,rfl⟩;rw[<-L] at J X;clear h ah L;cases m with
 |error e0=>
  go_enter Tryz.func131,Tryz.ntmps131;go_wp2_with fail;refine J.out.mono ?_;intro e w1 y;obtain⟨D,o⟩:=y.bad;subst D;clear y;have U:=xX o;clear o J;go_wp2;rw[X.out];exact⟨rfl,rfl,U.out⟩
 |ok nk=>
  obtain⟨n,k⟩:=nk;go_enter Tryz.func131,Tryz.ntmps131;go_wp2_with fail;refine J.out.mono ?_;intro e w1 y;obtain⟨v,D,E,M,o⟩:=y.good;clear y
  replace E:v=.int .i64 (n:Nat):=E
  subst E;subst D;have U:=xX o;have K:=xX (lH n (l.drop k) A R w1 M);obtain⟨m,L⟩:∃m,m=ca n (l.drop k):=⟨_,rfl⟩;have Y:Hid (r=ao (ca n (l.drop k)) fun b j=>if Sch.name (textOf b)=false then .error 70 else .ok (textOf b,k+j)):=X.out;rw[<-L] at K Y;clear o J M L X;cases m with
  |error e0=>
   go_wp2_with fail;refine K.out.mono ?_;intro e aj y;obtain⟨D,o⟩:=y.bad;subst D;clear y;have V:=xX (U.out.trans o (fun _ _ h=>h));clear o K;go_wp2;rw[Y.out];exact⟨rfl,rfl,V.out⟩
  |ok bj=>
   obtain⟨b,j⟩:=bj;go_wp2_with fail;refine K.out.mono ?_;intro e aj y;obtain⟨v,D,E,M,o⟩:=y.good;obtain⟨q,c,E,ak,-⟩:=E.open;clear y;subst E;subst D;have V:=xX (U.out.trans o (fun _ _ h=>h));have a3:=dO ak c;have a2:Hid (Rdr aj A R (l.drop (k+j))):=by
    show Rdr _ _ _ _;rw[<-List.drop_drop];exact M
   have W:=xX (vd (textOf b) aj);have I:Hid (r=if Sch.name (textOf b)=false then .error 70 else .ok (textOf b,k+j)):=Y.out;obtain⟨t,a1⟩:∃t,t=textOf b:=⟨_,rfl⟩;rw[<-a1] at a3 W I;obtain⟨a4,a0⟩:∃b,b=Sch.name t:=⟨_,rfl⟩;rw[<-a0] at W I;clear o K ak M Y a0 a1;go_wp2_with fail;refine W.out.mono ?_;rintro e O ⟨rfl,z⟩;rw[z];clear z O W;cases a4 with
   |false=>
    have Z:Hid (r=.error 70):=I.out.trans (if_pos (by first | rfl | trivial));clear I;go_wp2_with fail;refine(cQ _ 70 _).mono ?_;rintro e O ⟨rfl,z⟩;rw[z];clear z O;go_wp2;rw[Z.out];exact⟨rfl,rfl,V.out⟩
   |true=>
    have Z:Hid (r=.ok (t,k+j)):=I.out.trans (if_neg (by first | decide | simp));clear I;go_wp2_with fail;refine(cP _ 70 _).mono ?_;rintro e O ⟨rfl,z⟩;rw[z];clear z O;go_wp2;go_ret;rw[Z.out];exact⟨_,rfl,rfl,a2.out,V.out⟩
end
section
open Go.RowKit
theorem rX(m x k:Nat)(o:m<256 ^ k)(D:m+x*256 ^ k<18446744073709551616):bits .or .u64 (m:Int) (IntKind.u64.wrap ((x:Int)*2 ^ (8*k)))=((m+x*256 ^ k:Nat):Int):=by
 have e:(2:Nat) ^ (8*k)=256 ^ k:=by rw[Nat.pow_mul]
 have y:((x:Int)*2 ^ (8*k))=((x*256 ^ k:Nat):Int):=by
  rw[<-e];push_cast;rfl
 have z:IntKind.u64.wrap (((x*256 ^ k:Nat):Int))=((x*256 ^ k:Nat):Int):=by
  rw[IntKind.wrap_u64];omega
 rw[y,z,bits_join_low .u64 64 (by decide) wraps_u64 (8*k) (m:Int) _ (by omega) (by rw[<-e] at o;exact_mod_cast o) (by omega) (by omega) (by rw[<-e];push_cast;exact Int.mul_emod_left _ _) (by omega)];omega
theorem ku(r:L8)(k:Nat)(h:k<r.length):Sch.un (r.take (k+1))=Sch.un (r.take k)+r[k].toNat*256 ^ k:=by
 induction r generalizing k with
 |nil=>simp at h
 |cons c r ih=>
  cases k with
  |zero=>simp[Sch.un]
  |succ k=>
   have o:k<r.length:=(by simpa using h);have:=ih k o;simp only[List.take_succ_cons,Sch.un,List.getElem_cons_succ,this,Nat.pow_succ];generalize (256:Nat) ^ k=P;generalize r[k].toNat=x;rw[Nat.add_mul,Nat.mul_assoc];omega
theorem iH(r:L8)(k:Nat)(h:k<=r.length):Sch.un (r.take k)<256 ^ k:=by
 have:=Sch.un_lt (r.take k);rw[List.length_take,Nat.min_eq_left h] at this;exact this
def isF(n:Nat)(v:Value)(_:World):Prop:=v=.float .f64 n
theorem wC(l:L8)(A R:Nat)(w:World)(h:Rdr w A R l):Calls Tryz.prog 180 #[.pointer (some ⟨R,0,none⟩)] w (RdA w A R l (Sch.float l) isF):=by
 have HT:=xX (lH 8 l A R w h);obtain⟨r,O⟩:∃r,r=Sch.float l:=⟨_,rfl⟩;rw[<-O];clear h;by_cases E:l.length<8
 ·have K:ca 8 l=.error 30:=by rw[ca,if_pos E]
  have J:Hid (r=.error 30):=by show _=_;rw[O,Sch.float,if_pos E]
  rw[K] at HT;clear K E O;go_enter Tryz.func180,Tryz.ntmps180;go_wp2_with fail;refine HT.out.mono ?_;intro e w1 M;obtain⟨ah,L⟩:=M.bad;subst ah;clear M;have U:=xX L;clear L HT;go_wp2;rw[J.out];exact⟨rfl,rfl,U.out⟩
 ·have K:ca 8 l=.ok (l.take 8,8):=by rw[ca,if_neg E]
  have J:Hid (r=if aE (Sch.un (l.take 8))=Sch.un (l.take 8) then .ok (Sch.un (l.take 8),8) else .error 5):=by show _=_;rw[O,Sch.float,if_neg E]
  rw[K] at HT;have Z:(l.take 8).length=8:=by rw[List.length_take];omega
  obtain⟨b,hb⟩:∃b,b=l.take 8:=⟨_,rfl⟩;rw[<-hb] at HT J Z;have V:=xX Z;have bj:Hid (Sch.un (b.take 0)=0):=by show _=_;simp[Sch.un]
  clear K E O hb Z;go_enter Tryz.func180,Tryz.ntmps180;go_wp2_with fail;refine HT.out.mono ?_;intro e w1 M;obtain⟨v,ah,bb,a9,L⟩:=M.good;obtain⟨q,c,bN,a7,-⟩:=bb.open;clear M bb;subst bN;subst ah;rw[V.out];have U:=xX L;have be:=xX a9;obtain⟨bT,b6,bs,-,a8⟩:=aL a7 (by rw[V.out];decide);subst bs;have bd:=xX a8;clear L HT a7 a9 a8;go_wp2_with fail;go_loop [3,10] (fun bO a2=>∃(k m:Nat),k<=8∧a2=.int .i64 k∧bO=.int .u64 m∧m<18446744073709551616∧Hid (m=Sch.un (b.take k))) (fun _ a2=>8-(intOf a2).toNat);case atStart=>exact⟨0,0,by omega,rfl,rfl,by omega,bj.out.symm⟩
  case round=>
   obtain⟨k,m,b1,rfl,rfl,b4,D⟩:=hrel;by_cases bl:k<8
   ·have b2:(k:Int)<8:=(by omega);have ak:k<b.length:=(by rw[V.out];exact bl);have bk:=bd.out k ak;have X:=ku b k ak;have bp:=iH b (k+1) (by omega);obtain⟨x,a1⟩:∃x,x=b[k].toNat:=⟨_,rfl⟩;rw[<-a1] at bk X;have b5:x<256:=(by rw[a1];exact b[k].toNat_lt);have a0:m+x*256 ^ k<18446744073709551616:=by
     rw[D.out,<-X];have e:(256:Nat) ^ (k+1)<=256 ^ 8:=Nat.pow_le_pow_right (by decide) (by omega);have bX:(256:Nat) ^ 8=18446744073709551616:=(by decide);omega
    have bq:=rX m x k (by rw[D.out];exact iH b k (by omega)) a0;have I:Hid (m+x*256 ^ k=Sch.un (b.take (k+1))):=(by show _=_;rw[X,D.out]);clear X bp a1 D ak;obtain⟨y,bc⟩:∃y,y=m+x*256 ^ k:=⟨_,rfl⟩;rw[<-bc] at bq I a0;clear bc;go_wp2;go_round;case rel=>exact⟨k+1,y,by omega,by go_num,rfl,a0,I.out⟩
    case measure=>simp[intOf];omega
   ·have b3:¬(k:Int)<8:=(by omega);have bn:k=8:=(by omega);subst bn;have I:Hid (m=Sch.un b):=by
     show _=_;rw[D.out,List.take_of_length_le (by rw[V.out];exact xZ)]
    clear D;have a5:=xX (nJ (m:Int));have a6:((m:Int)).toNat=m:=(by omega);rw[a6] at a5;have a4:=xX (dT (aE m));rw[eR] at a4;have W:Hid (r=if aE m=m then .ok (m,8) else .error 5):=(by show _=_;rw[J.out,I.out]);clear J I a6;go_wp2_with fail;refine(a5.out _).mono ?_;rintro e z ⟨rfl,o⟩;rw[o];clear o z;go_wp2_with fail;refine(a4.out _).mono ?_;rintro e z ⟨rfl,o⟩;rw[o];clear o z;by_cases aj:aE m=m
    ·have Y:Hid (r=.ok (m,8)):=W.out.trans (if_pos aj);rw[aj];clear W;go_wp2_with fail;refine(cP _ 5 _).mono ?_;rintro e z ⟨rfl,o⟩;rw[o];clear o z;go_wp2;go_ret;rw[Y.out];exact⟨_,rfl,rfl,be.out,U.out⟩
    ·have Y:Hid (r=.error 5):=W.out.trans (if_neg aj);have b0:((aE m:Int)==(m:Int))=false:=aK (by omega);clear W;go_wp2_with fail;refine(cQ _ 5 _).mono ?_;rintro e z ⟨rfl,o⟩;rw[o];clear o z;go_wp2;rw[Y.out];exact⟨rfl,rfl,U.out⟩
end
end Go.Proofs.YtdkammppnkhhoaaGreatDoor
