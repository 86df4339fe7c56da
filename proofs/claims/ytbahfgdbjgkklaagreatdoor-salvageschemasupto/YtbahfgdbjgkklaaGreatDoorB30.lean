import Derived.Test.YtbahfgdbjgkklaaGreatDoorB18
import Derived.Test.YtbahfgdbjgkklaaGreatDoorB28
set_option maxRecDepth 100000
set_option maxHeartbeats 1000000
namespace Go.Proofs.YtbahfgdbjgkklaaGreatDoor
variable{A R T a c:Nat}{W W' w w':World}{l:L8}{C0:AV}{t:ByteArray}
section
open Go.RowKit
end
section
open Go.RowKit
theorem pC(p:OA)(len c m n:Nat)(y:m<=n)(h:n<=c)(w:World):(Instr.slice 22 (.slice p len c) (some (.int .i64 m)) (some (.int .i64 n)) none).run Tryz.prog w=.ok (.slice (dN p m c) (n-m) (c-m)) w:=by
 have o:(sizeOf (Tryz.prog.elem 22)).run Tryz.prog w=.ok 1 w:=by kernel_rfl
 rw[run_slice_lh w 22 p len c (by kernel_rfl) .i64 .i64 (m:Int) (n:Int) (by omega) (by omega) (by omega),o];simp[sliced,dN,Result.andThen]
def li:AV:=#[.nilFunc,.func (.func 228) #[] #[],.func (.func 229) #[] #[],.func (.func 230) #[] #[],.func (.func 231) #[] #[],.func (.func 232) #[] #[],.func (.func 233) #[] #[],.func (.func 234) #[] #[]]
section
variable {L:L8}
structure kJ(L:L8)(w:World)(A R T:Nat)(p:OA)(c a:Nat):Prop where
 b0:w.1[R]?=some (.cells #[.slice (some ⟨T,0,none⟩) 8 8,.slice p L.length c,.int .i64 ((a:Nat):Int)] 224 (0,0))
 b1:w.1[T]?=some (.cells li 268 (0,0))
 lies:At w p L
 cap:L.length<=c
 far:L≠[]->∀d,p=some d->d.block<A
 tab:T<R
 pos:a<=L.length
structure aD(L:L8)(w:World)(A R:Nat)(l:L8):Prop where
 out:∃T p c a,kJ L w A R T p c a∧l=L.drop a
 small:L.length<=140737488351232
 low:A<=R
theorem aD.lt(h:aD L w A R l):R<w.1.size:=by
 obtain⟨T,p,c,a,o,_⟩:=h.out;exact au o.b0
theorem kJ.keep{p:OA}(h:kJ L w A R T p c a)(E:A<=R)(o:∀k,k<=R->w'.1[k]?=w.1[k]?)(y:w.1.size<=w'.1.size):kJ L w' A R T p c a:=by
 have z:=h.tab;exact⟨(o R gQx).trans h.b0,(o T (by omega)).trans h.b1,h.lies.keep h.far (fun k D=>o k (by omega)) y,h.cap,h.far,z,h.pos⟩
theorem aD.keep(h:aD L w A R l)(z:∀k,k<=R->w'.1[k]?=w.1[k]?)(D:w.1.size<=w'.1.size):aD L w' A R l:=by
 obtain⟨T,p,c,a,o,y⟩:=h.out;exact⟨⟨T,p,c,a,o.keep h.low z D,y⟩,h.small,h.low⟩
theorem aD.on(h:aD L w A R l)(hb:Below w.1.size w w'):aD L w' A R l:=h.keep (fun k o=>hb.block k (by have:=h.lt;omega)) hb.size
theorem aD.aside{F:Nat->Prop}(h:aD L w A R l)(o:Aside F w w')(y:∀k,F k->R<k):aD L w' A R l :=
 h.keep (fun k D=>o.block k (by have:=h.lt;omega) (fun z=>by have:=y k z;omega)) o.size
theorem aD.drew(h:aD L w A R l):aD L w.drew A R l:=h.keep (fun _ _=>rfl) gQx
theorem kJ.move{p:OA}(h:kJ L w A R T p c a)(Q:A<=R)(n:Nat)(J:n<=L.length):kJ L (w.setCell ⟨R,2,none⟩ (.int .i64 ((n:Nat):Int))) A R T p c n:=by
 have K:=h.tab;have o:Aside (fun i=>i=R) w (w.setCell ⟨R,2,none⟩ (.int .i64 ((n:Nat):Int))):=ag _ _ _ _;have O:=au h.b0;refine⟨by rw[ai h.b0 2];rfl,(o.block T (by omega) (by omega)).trans h.b1,?_,h.cap,h.far,K,J⟩;rcases h.lies with z | ⟨b,M,rfl,hb,E⟩
 ·exact .inl z
 ·by_cases y:L=[]
  ·exact .inl y
  ·have D:=h.far y _ rfl;refine .inr ⟨b,M,rfl,Nat.lt_of_lt_of_le hb o.size,fun j I=>?_⟩;rw[World.cell?_of_block (w:=w) (o.block b hb (by show ¬b=R;simp only at D;omega))];exact E j I
def bI{α:Type}(L:L8)(w:World)(A R:Nat)(l:L8)(r:Except Nat (α×Nat))(V:α->Value->World->Prop)(e:Ending)(w':World):Prop:=match r with
 |.error k=>e=.panicked (dK k)∧Aside (fun i=>i=R) w w'
 |.ok (a,j)=>∃v,e=.returned v∧V a v w'∧aD L w' A R (l.drop j)∧Aside (fun i=>i=R) w w'
theorem dI(a:Value)(k:Int)(w:World):Calls Tryz.prog 142 #[a,.bool true,.int .i64 k] w fun e w'=>e=.returned (.tuple #[])∧w'=w:=by
 go_enter Tryz.func142,Tryz.ntmps142;go_wp2;go_end0;exact⟨rfl,rfl⟩
theorem cT(a:Value)(k:Nat)(w:World):Calls Tryz.prog 142 #[a,.bool false,.int .i64 k] w fun e w'=>e=.panicked (dK k)∧w'=w:=by
 go_enter Tryz.func142,Tryz.ntmps142;go_wp2;exact⟨rfl,rfl,rfl⟩
end
end
section
open Go.RowKit
section
variable {L:L8}
theorem l5(n:Nat)(l:L8)(A R:Nat)(w:World)(h:aD L w A R l):Calls Tryz.prog 254 #[.pointer (some ⟨R,0,none⟩),.int .i64 n] w (bI L w A R l (aU n l) isB):=by
  obtain⟨T,p,c,a,h1,z⟩:=h.out;have O:=h.small;have M:=h.low;have Y:=h1.pos;have K:=h1.cap;have X:l.length=L.length-a:=by rw[z,List.length_drop]
  have c1:w.cell? ⟨R,1,none⟩=some (.slice p L.length c):=aa h1.b0 1;have c2:w.cell? ⟨R,2,none⟩=some (.int .i64 ((a:Nat):Int)):=aa h1.b0 2;have S:=ac h1.b0 2;obtain⟨r,D⟩:∃r,r=aU n l:=⟨_,rfl⟩;rw[<-D];have a7:(a:Int)<=(L.length:Int):=by omega
  have a8:(L.length:Int)<=140737488351232:=by omega
  have a5:IntKind.i64.wrap ((L.length:Int)-(a:Int))=(L.length:Int)-(a:Int):=by rw[IntKind.wrap_i64];omega
  by_cases E:l.length<n
  · have ak:decide ((n:Int)<=(L.length:Int)-(a:Int))=false:=decide_eq_false (by omega);have I:Hid (r=.error 30):=(by show _=_;rw[D,aU,if_pos E]);clear D E h1 h z X O Y K;go_enter Tryz.func254,Tryz.ntmps254;go_wp2_with fail
    go_region_law (first|(refine cL (.tmp 6) (.tmp 18) (.const (.int .i64 30)) 219 4 68 (by rfl) (by rfl) (by rfl) (by rfl) (by rfl) Tryz.func142 (by kernel_rfl) (by rfl) (cT _ 30 _) (fun e w1 V=>⟨_,V.1,rfl,by rw[I.out,V.2];exact⟨rfl,(Aside.refl _ _).drew⟩⟩) (.tuple #[]) ?_;intro Q)|(refine bl Q (.tuple #[]) ?_)|fail)
    all_goals exact Q.out.elim
  · have ak:decide ((n:Int)<=(L.length:Int)-(a:Int))=true:=decide_eq_true (by omega);have I:Hid (r=.ok (l.take n,n)):=(by show _=_;rw[D,aU,if_neg E]);have a9:(a:Int)+(n:Int)<=140737488351232:=(by omega);have J:(a:Int)+(n:Int)=((a+n:Nat):Int):=(by omega);have a6:IntKind.i64.wrap ((a:Int)+(n:Int))=(a:Int)+(n:Int):=(by rw[IntKind.wrap_i64];omega);have bb:∀w,(Instr.slice 22 (.slice p L.length c) (some (.int .i64 (a:Int))) (some (.int .i64 ((a:Int)+(n:Int)))) none).run Tryz.prog w=.ok (.slice (dN p a c) n (c-a)) w:=fun w=>by
      have:=pC p L.length c a (a+n) (by omega) (by omega) w;rw[Nat.add_sub_cancel_left,<-J] at this;exact this
    have ab:Hid (∀W,Below w.1.size w W->isB (l.take n) (.slice (dN p a c) n (c-a)) (W.setCell ⟨R,2,none⟩ (.int .i64 ((a:Int)+(n:Int))))∧aD L (W.setCell ⟨R,2,none⟩ (.int .i64 ((a:Int)+(n:Int)))) A R (l.drop n)∧Aside (fun i=>i=R) w (W.setCell ⟨R,2,none⟩ (.int .i64 ((a:Int)+(n:Int))))):=by
      intro W hb;have a3:=au h1.b0;have a0:=h1.keep M (w':=W) (fun k a4=>hb.block k (by omega)) hb.size;have U:=a0.move M (a+n) (by omega);rw[J];refine⟨?_,⟨⟨T,p,c,a+n,U,by rw[z,List.drop_drop]⟩,O,M⟩,(al hb _).trans (ag _ _ _ _) (fun _ _ h=>h)⟩;have ah:(l.take n).length=n:=(by rw[List.length_take];omega);refine⟨dN p a c,c-a,by rw[ah],?_,by omega⟩;rw[z];have y:=U.lies.cut a c K;rcases y with y | ⟨b,o,y,hb,a1⟩
      · exact .inl (by rw[y,List.take_nil])
      · exact .inr ⟨b,o,y,hb,cE a1 n⟩
    clear D E h1 h z X O Y K J;go_enter Tryz.func254,Tryz.ntmps254;go_wp2_with fail
    go_region_law (first|(refine bU (.tmp 6) (.tmp 18) (.const (.int .i64 30)) 219 4 68 (by rfl) (by rfl) (by rfl) (by rfl) (by rfl) Tryz.func142 (by kernel_rfl) (by rfl) (dI _ 30 _) ?_;rintro e w1 ⟨rfl,Z⟩;refine⟨_,rfl,?_⟩;rw[Z];clear Z w1)|fail)
    all_goals
      go_wp2_with fail;go_region_law (fail)
      all_goals
        go_wp2;go_ret;obtain⟨f1,S,aj⟩:=ab.out w.drew.drew gQz.drew.drew;rw[I.out];exact⟨_,rfl,f1,S,aj⟩
theorem bI.good{o:Type}{w w':World}{A R:Nat}{l:L8}{a:o}{j:Nat}{V:o->Value->World->Prop}{e:Ending}(h:bI L w A R l (.ok (a,j)) V e w'):∃v,e=.returned v∧V a v w'∧aD L w' A R (l.drop j)∧Aside (fun i=>i=R) w w':=h
theorem bI.bad{o:Type}{w w':World}{A R:Nat}{l:L8}{k:Nat}{V:o->Value->World->Prop}{e:Ending}(h:bI L w A R l (.error k) V e w'):e=.panicked (dK k)∧Aside (fun i=>i=R) w w':=h
theorem lC(l:L8)(A R:Nat)(w:World)(h:aD L w A R l):Calls Tryz.prog 253 #[.pointer (some ⟨R,0,none⟩)] w (bI L w A R l (Sch.num l) isU):=by
  obtain⟨T,p,c,a,y,E⟩:=h.out;have M:=h.small;have K:=h.low;have X:=y.pos;have c1:w.cell? ⟨R,1,none⟩=some (.slice p L.length c):=aa y.b0 1;have c2:w.cell? ⟨R,2,none⟩=some (.int .i64 ((a:Nat):Int)):=aa y.b0 2;have Q:=ac y.b0 2;have z:=gQq (fun w Z=>g9 p c L (a:Int) (by omega) y.cap w Z);have U:At w.drew p L:=y.lies;have S:=gQq U;clear U;rw[ou,<-E] at z;obtain⟨r,I⟩:∃r,r=Sch.num l:=⟨_,rfl⟩;rw[<-I] at z ⊢;cases r with
  |error er=>
    have ab:er≠0:=by
      intro ak;have:=I.symm;unfold Sch.num at this;split at this
      · cases this
      · next h0=>injection this with this;omega
    have ah:((er:Int)==0)=false:=bd (by omega);have D:gC a (.error er)=.tuple #[.int .u64 0,.int .i64 0,.int .i64 (er:Nat)]:=rfl;rw[D] at z;clear D I y h ab E X M;go_enter Tryz.func253,Tryz.ntmps253;go_wp2_with fail
    go_region_law (first|(refine dE (.tmp 10) (.tmp 14) 22 3 (by rfl) (by rfl) (by rfl) (by rfl) Tryz.func135 (by kernel_rfl) (by rfl) (z.out _ S.out) ?_;rintro e w1 ⟨rfl,o⟩;refine⟨_,rfl,?_⟩;rw[o];clear o w1)|fail)
    all_goals
      go_wp2_with fail;refine(cT _ er _).mono ?_;rintro e w1 ⟨rfl,o⟩;rw[o];clear o w1;go_wp2;exact⟨rfl,rfl,(Aside.refl _ _).drew⟩
  |ok nk=>
    obtain⟨n,k⟩:=nk;have D:gC a (.ok (n,k))=.tuple #[.int .u64 (n:Nat),.int .i64 ((a+k:Nat):Int),.int .i64 0]:=rfl;rw[D] at z;clear D;obtain⟨J,-⟩:=fH I.symm;have O:Hid (∀W,Below w.1.size w W->aD L (W.setCell ⟨R,2,none⟩ (.int .i64 ((a+k:Nat):Int))) A R (l.drop k)∧Aside (fun i=>i=R) w (W.setCell ⟨R,2,none⟩ (.int .i64 ((a+k:Nat):Int)))):=by
      intro W hb;have aj:=au y.b0;have Y:=y.keep K (w':=W) (fun k J=>hb.block k (by omega)) hb.size;exact⟨⟨⟨T,p,c,a+k,Y.move K (a+k) (by rw[E,List.length_drop] at J;omega),by rw[E,List.drop_drop]⟩,M,K⟩,(al hb _).trans (ag _ _ _ _) (fun _ _ h=>h)⟩
    obtain⟨m,V⟩:∃m,m=a+k:=⟨_,rfl⟩;rw[<-V] at z O;clear I y h J E X M V;go_enter Tryz.func253,Tryz.ntmps253;go_wp2_with fail
    go_region_law (first|(refine dE (.tmp 10) (.tmp 14) 22 3 (by rfl) (by rfl) (by rfl) (by rfl) Tryz.func135 (by kernel_rfl) (by rfl) (z.out _ S.out) ?_;rintro e w1 ⟨rfl,o⟩;refine⟨_,rfl,?_⟩;rw[o];clear o w1)|fail)
    all_goals
      go_wp2_with fail;refine(dI _ 0 _).mono ?_;rintro e w1 ⟨rfl,o⟩;rw[o];clear o w1;go_wp2;go_ret;obtain⟨f1,Q⟩:=O.out w.drew gQz.drew;exact⟨_,rfl,rfl,f1,Q⟩
theorem oG(z E:Nat)(ak:z<=1024)(l:L8)(A R:Nat)(w:World)(h:aD L w A R l):Calls Tryz.prog 256 #[.pointer (some ⟨R,0,none⟩),.int .u64 z,.int .i64 E] w (bI L w A R l (aS z E l) isI):=by
 have D:=gQq (lC l A R w h);obtain⟨r,V⟩:∃r,r=aS z E l:=⟨_,rfl⟩
 have J:Hid (r=match Sch.num l with
  |.error e=>.error e
  |.ok (n,k)=>if z<n then .error E else .ok (n,k)):=V
 rw[<-V];clear h V;obtain⟨m,U⟩:∃m,m=Sch.num l:=⟨_,rfl⟩;rw[<-U] at D J;have Z:=gQq U;clear U;cases m with
 |error e0=>
  go_enter Tryz.func256,Tryz.ntmps256;go_wp2_with fail;refine D.out.mono ?_;intro e w1 y;obtain⟨M,o⟩:=y.bad;subst M;clear y;have K:=gQq o;clear o D;go_wp2;rw[J.out];exact⟨rfl,rfl,K.out⟩
 |ok nk=>
  obtain⟨n,k⟩:=nk;have a0:=(fH Z.out.symm).2;by_cases Q:z<n
  ·have S:Hid (r=.error E):=(by show _=_;rw[J.out];exact if_pos Q);have ah:¬n<=z:=(by omega);clear J Q;go_enter Tryz.func256,Tryz.ntmps256;go_wp2_with fail;refine D.out.mono ?_;intro e w1 y;obtain⟨v,M,I,-,o⟩:=y.good;clear y
   replace I:v=.int .u64 (n:Nat):=I
   subst I;subst M;have K:=gQq o;clear o D;go_wp2_with fail;refine(cT _ E _).mono ?_;rintro e X ⟨rfl,O⟩;rw[O];clear O X;go_wp2;rw[S.out];exact⟨rfl,rfl,K.out⟩
  ·have S:Hid (r=.ok (n,k)):=(by show _=_;rw[J.out];exact if_neg Q);have ah:n<=z:=(by omega);have aj:(n:Int)<=1024:=(by omega);clear J Q;go_enter Tryz.func256,Tryz.ntmps256;go_wp2_with fail;refine D.out.mono ?_;intro e w1 y;obtain⟨v,M,I,Y,o⟩:=y.good;clear y
   replace I:v=.int .u64 (n:Nat):=I
   subst I;subst M;have K:=gQq o;have ab:=gQq Y;clear o D Y;go_wp2_with fail;refine(dI _ E _).mono ?_;rintro e X ⟨rfl,O⟩;rw[O];clear O X;go_wp2;go_ret;rw[S.out];exact⟨_,rfl,rfl,ab.out,K.out⟩
theorem qZ(l:L8)(A R:Nat)(w:World)(h:aD L w A R l):Calls Tryz.prog 252 #[.pointer (some ⟨R,0,none⟩)] w (bI L w A R l (Sch.bit l) isI):=by
 have o:=gQq (l5 1 l A R w h);clear h;cases l with
 |nil=>
  have I:aU 1 []=.error 30:=rfl;rw[I] at o;go_enter Tryz.func252,Tryz.ntmps252;go_wp2_with fail;refine o.out.mono ?_;intro e w1 z;obtain⟨O,y⟩:=z.bad;subst O;clear z;have E:=gQq y;clear y o;go_wp2;exact⟨rfl,rfl,E.out⟩
 |cons b t=>
  have I:aU 1 (b::t)=.ok ([b],1):=by
   unfold aU;rw[if_neg (by simp)];rfl
  rw[I] at o;have hb:=b.toNat_lt;by_cases X:1<b.toNat
  ·have J:Sch.bit (b::t)=.error 5:=(by rw[Sch.bit,if_pos X]);have ah:decide ((b.toNat:Int)<=1)=false:=decide_eq_false (by omega);rw[J];clear I J;go_enter Tryz.func252,Tryz.ntmps252;go_wp2_with fail;refine o.out.mono ?_;intro e w1 z;obtain⟨v,O,D,-,y⟩:=z.good;obtain⟨q,c,D,K,-⟩:=D.open;clear z;subst D;subst O;obtain⟨S,U,rfl,-,M⟩:=aC K (by simp);have ab:w1.cell? ⟨S,U,none⟩=some (.int .u8 (b.toNat:Int)):=M 0 (by simp);have E:=gQq y;clear y o K M;go_wp2_with fail;refine(cT _ 5 _).mono ?_;rintro e V ⟨rfl,Q⟩;rw[Q];clear Q V;go_wp2;exact⟨rfl,rfl,E.out⟩
  ·have J:Sch.bit (b::t)=.ok (b.toNat,1):=(by rw[Sch.bit,if_neg X]);have ah:decide ((b.toNat:Int)<=1)=true:=decide_eq_true (by omega);rw[J];clear I J;go_enter Tryz.func252,Tryz.ntmps252;go_wp2_with fail;refine o.out.mono ?_;intro e w1 z;obtain⟨v,O,D,Y,y⟩:=z.good;obtain⟨q,c,D,K,-⟩:=D.open;clear z;subst D;subst O;obtain⟨S,U,rfl,-,M⟩:=aC K (by simp);have ab:w1.cell? ⟨S,U,none⟩=some (.int .u8 (b.toNat:Int)):=M 0 (by simp);have E:=gQq y;have Z:=gQq Y;clear y o K M Y;go_wp2_with fail;refine(dI _ 5 _).mono ?_;rintro e V ⟨rfl,Q⟩;rw[Q];clear Q V;go_wp2;go_ret;exact⟨_,rfl,rfl,Z.out,E.out⟩
end
end
section
open Go.RowKit
attribute [local go_sem] af
theorem kp{L:L8}{wr:World}{N:Nat}{k i:Int}{b:Nat}{q:OA}{n:Nat}{x:V}{F:Nat->Prop}(Q:R<w.1.size)(O:w.1.size<=N)(E:wr.1[N]?=some (.cells #[.int .i64 0,.int .i64 0,.float .f64 0,.string ⟨#[]⟩,.slice none 0 0] 38 (0,0)))(J:aO wr F (cells5 k i b t q n c) x)(z:∀j,F j->N<j∧j<wr.1.size)(K:aD L wr A R l)(I:Aside (fun j=>j=R) w wr):
  (eM wr N k i b t (.slice q n c)).1[N]?=some (.cells (cells5 k i b t q n c) 38 (0,0))∧isV w x (.agg (cells5 k i b t q n c)) (eM wr N k i b t (.slice q n c))∧aD L (eM wr N k i b t (.slice q n c)) A R l∧Aside (fun j=>j=R) w (eM wr N k i b t (.slice q n c)):=by
 have y:=j9 wr N k i b t (.slice q n c);have M:=lF wr N k i b t (.slice q n c);refine⟨og E rfl k i b t q n c,⟨_,rfl,?_⟩,K.aside y (fun j o=>by rw[o];omega),I.trans y (fun j o D=>by rw[D] at o;omega)⟩;rw[M];exact(J.aside y (fun j o D=>by have:=z j o;omega)).mono (fun j o=>by have:=z j o;omega)
structure aY(L:L8)(w W:World)(A R:Nat)(C0:AV)(l:L8):Prop where
 b0:W.1[w.1.size]?=some (.cells C0 34 (0,0))
 b1:W.1[w.1.size+1]?=some (.cells #[.int .i64 0,.int .i64 0,.float .f64 0,.string ⟨#[]⟩,.slice none 0 0] 38 (0,0))
 rd:aD L W A R l
 aside:Aside (fun i=>i=R) w W
 size:w.1.size+2<=W.1.size
section
variable {L:L8}
theorem bf(C0:AV){l:L8}(h:aD L w A R l):aY L w ((w.alloc (.cells C0 34)).alloc (.cells #[.int .i64 0,.int .i64 0,.float .f64 0,.string ⟨#[]⟩,.slice none 0 0] 38)) A R C0 l:=by
 have hb:Below w.1.size w ((w.alloc (.cells C0 34)).alloc (.cells #[.int .i64 0,.int .i64 0,.float .f64 0,.string ⟨#[]⟩,.slice none 0 0] 38)):=gQy.alloc (by simp) _;refine⟨?_,?_,h.on hb,al hb _,by simp⟩
 ·rw[aG _ _ (by simp)];exact am w _
 ·have:=am (w.alloc (.cells C0 34)) (.cells #[.int .i64 0,.int .i64 0,.float .f64 0,.string ⟨#[]⟩,.slice none 0 0] 38);simpa using this
theorem aY.drew(h:aY L w W A R C0 l):aY L w W.drew A R C0 l:=⟨h.b0,h.b1,h.rd.drew,h.aside.drew,h.size⟩
theorem aY.on(h:aY L w W A R C0 l)(hb:Below W.1.size W W'):aY L w W' A R C0 l:=by
 have o:=h.size;exact⟨by rw[hb.block _ (by omega)];exact h.b0,by rw[hb.block _ (by omega)];exact h.b1,h.rd.on hb,h.aside.trans (al hb (fun i=>i=R)) (fun _ _ h=>h),Nat.le_trans o hb.size⟩
theorem aY.step{l':L8}(h:aY L w W A R C0 l)(o:Aside (fun i=>i=R) W W')(y:aD L W' A R l')(D:R<w.1.size):aY L w W' A R C0 l':=by
 have z:=h.size;refine⟨?_,?_,y,h.aside.trans o (fun _ _ h=>h),Nat.le_trans z o.size⟩
 ·rw[o.block _ (by omega) (by omega)];exact h.b0
 ·rw[o.block _ (by omega) (by omega)];exact h.b1
theorem aY.fin(h:aY L w W A R C0 l)(o:R<w.1.size)(k i:Int)(b:Nat)(t:ByteArray):
  (eM W (w.1.size+1) k i b t (.slice none 0 0)).1[w.1.size+1]?=some (.cells (cells5 k i b t none 0 0) 38 (0,0))∧isV w (.mk k i b t []) (.agg (cells5 k i b t none 0 0)) (eM W (w.1.size+1) k i b t (.slice none 0 0))∧aD L (eM W (w.1.size+1) k i b t (.slice none 0 0)) A R l∧Aside (fun j=>j=R) w (eM W (w.1.size+1) k i b t (.slice none 0 0)) :=
 kp (F:=fun _=>False) o (by omega) h.b1 .none (fun _ h=>h.elim) h.rd h.aside
theorem sf(l:L8)(A R:Nat)(w:World)(p:OA)(n c:Nat)(h:aD L w A R l):Calls Tryz.prog 228 #[.pointer (some ⟨R,0,none⟩),.agg #[.int .i64 1,.slice p n c]] w (bI L w A R l (Sch.scalar 1 l) (isV w)):=by
  have V:=h.lt;obtain⟨W,K⟩:∃W,W=(w.alloc (.cells #[.int .i64 1,.slice p n c] 34)).alloc (.cells #[.int .i64 0,.int .i64 0,.float .f64 0,.string ⟨#[]⟩,.slice none 0 0] 38):=⟨_,rfl⟩;have o:Hid (aY L w W A R #[.int .i64 1,.slice p n c] l):=by rw[K];exact bf _ h
  have E:=gQq K;obtain⟨r,O⟩:∃r,r=Sch.scalar 1 l:=⟨_,rfl⟩;have z:=gQq (O.trans (nC l));rw[<-O];have I:=gQq (qZ l A R W.drew o.out.rd.drew);obtain⟨m,M⟩:∃m,m=Sch.bit l:=⟨_,rfl⟩;rw[<-M] at z I;have U:=gQq M;have a0:W.cell? ⟨w.1.size,0,none⟩=some (.int .i64 1):=aa o.out.b0 0;have a2:W.cell? ⟨w.1.size+1,0,none⟩=some (.int .i64 0):=aa o.out.b1 0;have a7:W.frozen? ⟨w.1.size+1,0,none⟩=false:=ac o.out.b1 0;have a3:W.cell? ⟨w.1.size+1,1,none⟩=some (.int .i64 0):=aa o.out.b1 1;have a8:W.frozen? ⟨w.1.size+1,1,none⟩=false:=ac o.out.b1 1;have a4:W.cell? ⟨w.1.size+1,2,none⟩=some (.float .f64 0):=aa o.out.b1 2;have a9:W.frozen? ⟨w.1.size+1,2,none⟩=false:=ac o.out.b1 2;have a5:W.cell? ⟨w.1.size+1,3,none⟩=some (.string ⟨#[]⟩):=aa o.out.b1 3;have bb:W.frozen? ⟨w.1.size+1,3,none⟩=false:=ac o.out.b1 3;have a6:W.cell? ⟨w.1.size+1,4,none⟩=some (.slice none 0 0):=aa o.out.b1 4;have bc:W.frozen? ⟨w.1.size+1,4,none⟩=false:=ac o.out.b1 4;clear O M h K;cases m with
  |error er=>
    have J:Hid (r=.error er):=z.out;clear z U;go_enter Tryz.func228,Tryz.ntmps228;go_wp2_with fail;rw[<-E.out];clear E
    go_region_law (first|(refine bV (.tmp 7) 219 (by rfl) (by rfl) (by rfl) Tryz.func252 (by kernel_rfl) (by rfl) I.out (fun e w1 D=>⟨_,D.bad.1,rfl,by rw[J.out];exact⟨rfl,o.out.aside.drew.trans D.bad.2 (fun _ _ h=>h)⟩⟩) (.int .i64 0) ?_;intro S)|(refine bl S (.int .i64 0) ?_)|fail)
    all_goals exact S.out.elim
  |ok xj=>
    obtain⟨x,j⟩:=xj;have J:Hid (r=.ok (.mk 1 (x:Nat) 0 ⟨#[]⟩ [],j)):=z.out;clear z;clear U;go_enter Tryz.func228,Tryz.ntmps228;go_wp2_with fail;rw[<-E.out];clear E
    go_region_law (first
      | (refine aP (.tmp 7) 219 (by rfl) (by rfl) (by rfl) Tryz.func252 (by kernel_rfl) (by rfl) I.out ?_;intro e w1 D;obtain⟨v,Y,Q,Z,X⟩:=D.good;clear D
         replace Q:v=.int .i64 (x:Nat):=Q
         subst Q;refine⟨_,Y,?_⟩;clear Y;have y:=gQq (o.out.drew.step X Z V);clear X Z;have a1:w1.cell? ⟨w.1.size,0,none⟩=some (.int .i64 1):=aa y.out.b0 0;have be:w1.cell? ⟨w.1.size+1,0,none⟩=some (.int .i64 0):=aa y.out.b1 0;have bp:w1.frozen? ⟨w.1.size+1,0,none⟩=false:=ac y.out.b1 0;have bi:w1.cell? ⟨w.1.size+1,1,none⟩=some (.int .i64 0):=aa y.out.b1 1;have bq:w1.frozen? ⟨w.1.size+1,1,none⟩=false:=ac y.out.b1 1;have bj:w1.cell? ⟨w.1.size+1,2,none⟩=some (.float .f64 0):=aa y.out.b1 2;have br:w1.frozen? ⟨w.1.size+1,2,none⟩=false:=ac y.out.b1 2;have bk:w1.cell? ⟨w.1.size+1,3,none⟩=some (.string ⟨#[]⟩):=aa y.out.b1 3;have bs:w1.frozen? ⟨w.1.size+1,3,none⟩=false:=ac y.out.b1 3;have bn:w1.cell? ⟨w.1.size+1,4,none⟩=some (.slice none 0 0):=aa y.out.b1 4;have bN:w1.frozen? ⟨w.1.size+1,4,none⟩=false:=ac y.out.b1 4
         have ab:=gQq (y.out.fin V 1 (x:Nat) 0 ⟨#[]⟩))
      |fail)
    all_goals
      go_wp2;obtain⟨f1,ah,aj,ak⟩:=ab.out;refine bodyPost_ret (v:=.agg (cells5 1 (x:Nat) 0 ⟨#[]⟩ none 0 0)) (results_cell_row rfl _ _ (w.1.size+1) _ _ _ _ rfl f1 Tryz.underlying38 rfl (by kernel_rfl)) rfl ?_;rw[J.out];exact⟨_,rfl,ah,aj,ak⟩
theorem tT(l:L8)(A R:Nat)(w:World)(p:OA)(n c:Nat)(h:aD L w A R l):Calls Tryz.prog 229 #[.pointer (some ⟨R,0,none⟩),.agg #[.int .i64 2,.slice p n c]] w (bI L w A R l (Sch.scalar 2 l) (isV w)):=by
  have Y:=h.lt;obtain⟨W,O⟩:∃W,W=(w.alloc (.cells #[.int .i64 2,.slice p n c] 34)).alloc (.cells #[.int .i64 0,.int .i64 0,.float .f64 0,.string ⟨#[]⟩,.slice none 0 0] 38):=⟨_,rfl⟩;have o:Hid (aY L w W A R #[.int .i64 2,.slice p n c] l):=by rw[O];exact bf _ h
  have I:=gQq O;obtain⟨r,S⟩:∃r,r=Sch.scalar 2 l:=⟨_,rfl⟩;have z:=gQq (S.trans (nB l));rw[<-S];have K:=gQq (lC l A R W.drew o.out.rd.drew);obtain⟨m,Q⟩:∃m,m=Sch.num l:=⟨_,rfl⟩;rw[<-Q] at z K;have M:=gQq Q;have a5:W.cell? ⟨w.1.size,0,none⟩=some (.int .i64 2):=aa o.out.b0 0;have a7:W.cell? ⟨w.1.size+1,0,none⟩=some (.int .i64 0):=aa o.out.b1 0;have be:W.frozen? ⟨w.1.size+1,0,none⟩=false:=ac o.out.b1 0;have a8:W.cell? ⟨w.1.size+1,1,none⟩=some (.int .i64 0):=aa o.out.b1 1;have bi:W.frozen? ⟨w.1.size+1,1,none⟩=false:=ac o.out.b1 1;have a9:W.cell? ⟨w.1.size+1,2,none⟩=some (.float .f64 0):=aa o.out.b1 2;have bj:W.frozen? ⟨w.1.size+1,2,none⟩=false:=ac o.out.b1 2;have bb:W.cell? ⟨w.1.size+1,3,none⟩=some (.string ⟨#[]⟩):=aa o.out.b1 3;have bk:W.frozen? ⟨w.1.size+1,3,none⟩=false:=ac o.out.b1 3;have bc:W.cell? ⟨w.1.size+1,4,none⟩=some (.slice none 0 0):=aa o.out.b1 4;have bn:W.frozen? ⟨w.1.size+1,4,none⟩=false:=ac o.out.b1 4;clear S Q h O;cases m with
  |error er=>
    have E:Hid (r=.error er):=z.out;clear z M;go_enter Tryz.func229,Tryz.ntmps229;go_wp2_with fail;rw[<-I.out];clear I
    go_region_law (first|(refine bV (.tmp 7) 219 (by rfl) (by rfl) (by rfl) Tryz.func253 (by kernel_rfl) (by rfl) K.out (fun e w1 D=>⟨_,D.bad.1,rfl,by rw[E.out];exact⟨rfl,o.out.aside.drew.trans D.bad.2 (fun _ _ h=>h)⟩⟩) (.int .u64 0) ?_;intro V)|(refine bl V (.int .i64 0) ?_)|fail)
    all_goals exact V.out.elim
  |ok xj=>
    obtain⟨x,j⟩:=xj;have E:Hid (r=.ok (.mk 2 (Leb.zag x) 0 ⟨#[]⟩ [],j)):=z.out;clear z;have X:=gQq (qD x (fH M.out.symm).2);obtain⟨J,ak⟩:∃J,J=Leb.zag x:=⟨_,rfl⟩;rw[<-ak] at X E;clear ak M;go_enter Tryz.func229,Tryz.ntmps229;go_wp2_with fail;rw[<-I.out];clear I
    go_region_law (first
      | (refine aP (.tmp 7) 219 (by rfl) (by rfl) (by rfl) Tryz.func253 (by kernel_rfl) (by rfl) K.out ?_;intro e w1 D;obtain⟨v,ab,U,ah,Z⟩:=D.good;clear D
         replace U:v=.int .u64 (x:Nat):=U
         subst U;refine⟨_,ab,?_⟩;clear ab;have y:=gQq (o.out.drew.step Z ah Y);clear Z ah;have a6:w1.cell? ⟨w.1.size,0,none⟩=some (.int .i64 2):=aa y.out.b0 0;have bp:w1.cell? ⟨w.1.size+1,0,none⟩=some (.int .i64 0):=aa y.out.b1 0;have bO:w1.frozen? ⟨w.1.size+1,0,none⟩=false:=ac y.out.b1 0;have bq:w1.cell? ⟨w.1.size+1,1,none⟩=some (.int .i64 0):=aa y.out.b1 1;have bT:w1.frozen? ⟨w.1.size+1,1,none⟩=false:=ac y.out.b1 1;have br:w1.cell? ⟨w.1.size+1,2,none⟩=some (.float .f64 0):=aa y.out.b1 2;have bX:w1.frozen? ⟨w.1.size+1,2,none⟩=false:=ac y.out.b1 2;have bs:w1.cell? ⟨w.1.size+1,3,none⟩=some (.string ⟨#[]⟩):=aa y.out.b1 3;have b2:w1.frozen? ⟨w.1.size+1,3,none⟩=false:=ac y.out.b1 3;have bN:w1.cell? ⟨w.1.size+1,4,none⟩=some (.slice none 0 0):=aa y.out.b1 4;have b3:w1.frozen? ⟨w.1.size+1,4,none⟩=false:=ac y.out.b1 4
         have a0:=gQq (y.out.fin Y 2 J 0 ⟨#[]⟩))
      | (refine aP (.tmp 8) 153 (by rfl) (by rfl) (by rfl) Tryz.func246 (by kernel_rfl) (by rfl) (X.out _) ?_;rintro e a4 ⟨rfl,aj⟩;refine⟨_,rfl,?_⟩;rw[aj];clear aj a4)
      |fail)
    all_goals
      go_wp2;obtain⟨f1,a1,a2,a3⟩:=a0.out;refine bodyPost_ret (v:=.agg (cells5 2 J 0 ⟨#[]⟩ none 0 0)) (results_cell_row rfl _ _ (w.1.size+1) _ _ _ _ rfl f1 Tryz.underlying38 rfl (by kernel_rfl)) rfl ?_;rw[E.out];exact⟨_,rfl,a1,a2,a3⟩
end
end
section
open Go.RowKit
attribute [local go_sem] af
section
variable {L:L8}
def iI(k:Int)(l:L8):Except Nat (V×Nat):=ar (Sch.text 1024 2 l) fun t j=>.ok (.mk k 0 0 t [],j)
theorem mQ(k:Int)(l:L8):iI k l=ar (aS 1024 2 l) fun n j=>ar (aU n (l.drop j)) fun b i=>.ok (.mk k 0 0 (textOf b) [],j+i):=by
 unfold iI;rw[gv];cases aS 1024 2 l with
 |error e=>rfl
 |ok nk=>
  obtain⟨n,k⟩:=nk;rw[aK,aK];cases aU n (l.drop k) with
  |error e=>rfl
  |ok bj=>rfl
theorem jX(k:Int)(l:L8)(A R:Nat)(w:World)(p:OA)(n c:Nat)(h:aD L w A R l):Calls Tryz.prog 232 #[.pointer (some ⟨R,0,none⟩),.agg #[.int .i64 k,.slice p n c]] w (bI L w A R l (iI k l) (isV w)):=by
  have Z:=h.lt;obtain⟨W,ab⟩:∃W,W=(w.alloc (.cells #[.int .i64 k,.slice p n c] 34)).alloc (.cells #[.int .i64 0,.int .i64 0,.float .f64 0,.string ⟨#[]⟩,.slice none 0 0] 38):=⟨_,rfl⟩;have V:Hid (aY L w W A R #[.int .i64 k,.slice p n c] l):=by rw[ab];exact bf _ h
  have Y:=gQq ab;obtain⟨r,ah⟩:∃r,r=iI k l:=⟨_,rfl⟩;have M:=gQq (ah.trans (mQ k l));rw[<-ah];have K:=gQq (oG 1024 2 (by omega) l A R W V.out.rd);obtain⟨m,S⟩:∃m,m=aS 1024 2 l:=⟨_,rfl⟩;rw[<-S] at M K;clear ah S h ab;cases m with
  |error er=>
    have Q:Hid (r=.error er):=M.out;clear M;go_enter Tryz.func232,Tryz.ntmps232;go_wp2_with fail;rw[<-Y.out];refine K.out.mono ?_;intro e w1 D;obtain⟨J,E⟩:=D.bad;subst J;clear D;have a1:=gQq (V.out.aside.trans E (fun _ _ h=>h));clear E K;go_wp2;rw[Q.out];exact⟨rfl,rfl,a1.out⟩
  |ok xj=>
    obtain⟨x,j⟩:=xj;have O:Hid (r=ar (aU x (l.drop j)) fun b i=>.ok (.mk k 0 0 (textOf b) [],j+i)):=M.out;obtain⟨m,S⟩:∃m,m=aU x (l.drop j):=⟨_,rfl⟩;have ak:=gQq S;clear M S;go_enter Tryz.func232,Tryz.ntmps232;go_wp2_with fail;rw[<-Y.out];refine K.out.mono ?_;intro e w1 D;obtain⟨v,J,I,U,E⟩:=D.good;clear D
    replace I:v=.int .i64 (x:Nat):=I
    subst I;subst J;have o:=gQq (V.out.step E U Z);clear E U K Y V;have X:=gQq (l5 x (l.drop j) A R w1.drew o.out.rd.drew);rw[<-ak.out] at X O;have a8:w1.cell? ⟨w.1.size,0,none⟩=some (.int .i64 k):=aa o.out.b0 0;have bb:w1.cell? ⟨w.1.size+1,0,none⟩=some (.int .i64 0):=aa o.out.b1 0;have bn:w1.frozen? ⟨w.1.size+1,0,none⟩=false:=ac o.out.b1 0;have bc:w1.cell? ⟨w.1.size+1,1,none⟩=some (.int .i64 0):=aa o.out.b1 1;have bp:w1.frozen? ⟨w.1.size+1,1,none⟩=false:=ac o.out.b1 1;have be:w1.cell? ⟨w.1.size+1,2,none⟩=some (.float .f64 0):=aa o.out.b1 2;have bq:w1.frozen? ⟨w.1.size+1,2,none⟩=false:=ac o.out.b1 2;have bj:w1.cell? ⟨w.1.size+1,3,none⟩=some (.string ⟨#[]⟩):=aa o.out.b1 3;have br:w1.frozen? ⟨w.1.size+1,3,none⟩=false:=ac o.out.b1 3;have bk:w1.cell? ⟨w.1.size+1,4,none⟩=some (.slice none 0 0):=aa o.out.b1 4;have bs:w1.frozen? ⟨w.1.size+1,4,none⟩=false:=ac o.out.b1 4;clear ak;cases m with
    |error er=>
      have Q:Hid (r=.error er):=O.out;have a6:=dL (w:=w1.drew) (p:=none) (l:=[]) (.inl rfl) 0;simp only[List.length_nil] at a6;clear O;go_wp2_with fail
      go_region_law (first|(refine iS (.tmp 10) (.tmp 11) 219 3 (by rfl) (by rfl) (by rfl) (by rfl) Tryz.func254 (by kernel_rfl) (by rfl) X.out (fun e z D=>⟨_,D.bad.1,rfl,by rw[Q.out];exact⟨rfl,o.out.aside.drew.trans D.bad.2 (fun _ _ h=>h)⟩⟩) (.slice none 0 0) ?_;intro aj)|(refine bl aj (.string ⟨#[]⟩) ?_)|fail)
      all_goals exact aj.out.elim
    |ok bi=>
      obtain⟨b,i⟩:=bi;have Q:Hid (r=.ok (.mk k 0 0 (textOf b) [],j+i)):=O.out;clear O;go_wp2_with fail
      go_region_law (first
        | (refine dE (.tmp 10) (.tmp 11) 219 3 (by rfl) (by rfl) (by rfl) (by rfl) Tryz.func254 (by kernel_rfl) (by rfl) X.out ?_;intro e z D;obtain⟨v,J,I,U,E⟩:=D.good;obtain⟨q,c2,I,a0,-⟩:=I.open;clear D;subst I;refine⟨_,J,?_⟩;clear J;have a7:=dL a0 c2;have y:=gQq (o.out.drew.step E U Z);clear E U a0;have a9:z.cell? ⟨w.1.size,0,none⟩=some (.int .i64 k):=aa y.out.b0 0;have bN:z.cell? ⟨w.1.size+1,0,none⟩=some (.int .i64 0):=aa y.out.b1 0;have b3:z.frozen? ⟨w.1.size+1,0,none⟩=false:=ac y.out.b1 0;have bO:z.cell? ⟨w.1.size+1,1,none⟩=some (.int .i64 0):=aa y.out.b1 1;have b4:z.frozen? ⟨w.1.size+1,1,none⟩=false:=ac y.out.b1 1;have bT:z.cell? ⟨w.1.size+1,2,none⟩=some (.float .f64 0):=aa y.out.b1 2;have b5:z.frozen? ⟨w.1.size+1,2,none⟩=false:=ac y.out.b1 2;have bX:z.cell? ⟨w.1.size+1,3,none⟩=some (.string ⟨#[]⟩):=aa y.out.b1 3;have b6:z.frozen? ⟨w.1.size+1,3,none⟩=false:=ac y.out.b1 3;have b2:z.cell? ⟨w.1.size+1,4,none⟩=some (.slice none 0 0):=aa y.out.b1 4;have b7:z.frozen? ⟨w.1.size+1,4,none⟩=false:=ac y.out.b1 4
           have a2:=gQq (y.out.fin Z k 0 0 (textOf b)))
        |fail)
      all_goals
        go_wp2;obtain⟨f1,a3,a4,a5⟩:=a2.out;refine bodyPost_ret (v:=.agg (cells5 k 0 0 (textOf b) none 0 0)) (results_cell_row rfl _ _ (w.1.size+1) _ _ _ _ rfl f1 Tryz.underlying38 rfl (by kernel_rfl)) rfl ?_;rw[Q.out];exact⟨_,rfl,a3,by rw[<-List.drop_drop];exact a4,a5⟩
theorem rL{j:Nat}(h:Sch.text 1024 2 l=.ok (t,j)):t.size<=1024:=by
 unfold Sch.text at h;split at h
 ·cases h
 ·next n k hn=>
  split at h
  ·cases h
  ·next h0=>
   split at h
   ·cases h
   ·next h1=>
    injection h with h;injection h with h2 h3;subst h2;show(textOf _).size<=1024;have:(textOf ((l.drop k).take n)).size=((l.drop k).take n).length:=(by simp[textOf,ByteArray.size]);rw[this,List.length_take];omega
theorem sa(l:L8)(A R:Nat)(w:World)(p:OA)(n c:Nat)(h:aD L w A R l):Calls Tryz.prog 231 #[.pointer (some ⟨R,0,none⟩),.agg #[.int .i64 4,.slice p n c]] w (bI L w A R l (Sch.scalar 4 l) (isV w)):=by
 have a7:=h.lt;obtain⟨W,aj⟩:∃W,W=(w.alloc (.cells #[.int .i64 4,.slice p n c] 34)).alloc (.cells #[.int .i64 0,.int .i64 0,.float .f64 0,.string ⟨#[]⟩,.slice none 0 0] 38):=⟨_,rfl⟩;have S:Hid (aY L w W A R #[.int .i64 4,.slice p n c] l):=by rw[aj];exact bf _ h
 have ab:=gQq aj;obtain⟨r,a1⟩:∃r,r=Sch.scalar 4 l:=⟨_,rfl⟩;have E:=gQq (a1.trans (nz l));rw[<-a1];have z:=gQq (jX 4 l A R W p n c S.out.rd);unfold iI at z;obtain⟨m,a0⟩:∃m,m=Sch.text 1024 2 l:=⟨_,rfl⟩;have a6:=gQq a0;rw[<-a0] at E z;clear a1 a0 h aj;cases m with
 |error er=>
  have D:Hid (r=.error er):=E.out;rw[ni] at z;clear E;go_enter Tryz.func231,Tryz.ntmps231;go_wp2_with fail;rw[<-ab.out];refine z.out.mono ?_;intro e w1 K;obtain⟨ak,J⟩:=K.bad;subst ak;clear K;have bi:=gQq (S.out.aside.trans J (fun _ _ h=>h));clear J z;go_wp2;rw[D.out];exact⟨rfl,rfl,bi.out⟩
 |ok xj=>
  obtain⟨x,j⟩:=xj;have bT:=rL a6.out.symm;have D:Hid (r=if dM x=false then .error 61 else .ok (.mk 4 0 0 x [],j)):=E.out;rw[aK] at z;clear E;go_enter Tryz.func231,Tryz.ntmps231;go_wp2_with fail;rw[<-ab.out];refine z.out.mono ?_;intro e w1 K;obtain⟨v,ak,a2,bc,J⟩:=K.good;obtain⟨u,a2,bb⟩:=a2.open;clear K;subst a2;subst ak;obtain⟨O,I,bq,-⟩:=bb.lies.open;subst bq;have a5:=gQq (S.out.step J bc a7);obtain⟨Q,V⟩:∃Q,Q=w1.alloc (.cells (cells5 4 0 0 x O 0 I) 38):=⟨_,rfl⟩;have a4:Hid (Below w1.1.size w1 Q):=by rw[V];exact gQy
  have a9:Q.1[w1.1.size]?=some (.cells (cells5 4 0 0 x O 0 I) 38 (0,0)):=by rw[V];exact am w1 _
  have X:=gQq a9;have Z:=gQq (yd x (by omega) Q);have ah:=gQq V;have bO:w.1.size+2<=w1.1.size:=a5.out.size;clear J bc bb V a9 z S ab a6;unfold cells5 at ah X ⊢;obtain⟨br,be⟩:∃b,b=dM x:=⟨_,rfl⟩;rw[<-be] at Z D;clear be;go_wp2_with fail;rw[<-ah.out];refine Z.out.mono ?_;rintro e y ⟨rfl,U⟩;have o:=gQq ((a5.out.on a4.out).on U);have bs:=U.size;have bN:=a4.out.size;have a8:y.1[w1.1.size]?=some (.cells (cells5 4 0 0 x O 0 I) 38 (0,0)):=by
   rw[U.block _ (au X.out)];exact X.out
  obtain⟨ca,cb,cc,cd,ce⟩:=cQ5 a8;have bX:y.cell? ⟨w.1.size+1,0,none⟩=some (.int .i64 0):=aa o.out.b1 0;have b5:y.frozen? ⟨w.1.size+1,0,none⟩=false:=ac o.out.b1 0;have b0:y.cell? ⟨w.1.size+1,1,none⟩=some (.int .i64 0):=aa o.out.b1 1;have b6:y.frozen? ⟨w.1.size+1,1,none⟩=false:=ac o.out.b1 1;have b2:y.cell? ⟨w.1.size+1,2,none⟩=some (.float .f64 0):=aa o.out.b1 2;have b7:y.frozen? ⟨w.1.size+1,2,none⟩=false:=ac o.out.b1 2;have b3:y.cell? ⟨w.1.size+1,3,none⟩=some (.string ⟨#[]⟩):=aa o.out.b1 3;have b8:y.frozen? ⟨w.1.size+1,3,none⟩=false:=ac o.out.b1 3;have b4:y.cell? ⟨w.1.size+1,4,none⟩=some (.slice none 0 0):=aa o.out.b1 4;have b9:y.frozen? ⟨w.1.size+1,4,none⟩=false:=ac o.out.b1 4;have bj:=gQq (kp (F:=fun _=>False) a7 (by omega) o.out.b1 (aO.none (k:=4) (i:=0) (b:=0) (t:=x) (p:=O) (c:=I)) (fun _ h=>h.elim) o.out.rd o.out.aside);clear U a8 ah Z;cases br with
  |false=>
   have Y:Hid (r=.error 61):=D.out.trans (if_pos (by first | rfl | trivial));clear D;go_wp2_with fail;refine(cT _ 61 _).mono ?_;rintro e a3 ⟨rfl,M⟩;rw[M];clear M a3;go_wp2;rw[Y.out];exact⟨rfl,rfl,o.out.aside⟩
  |true=>
   have Y:Hid (r=.ok (.mk 4 0 0 x [],j)):=D.out.trans (if_neg (by first | decide | simp));clear D;go_wp2_with fail;refine(dI _ 61 _).mono ?_;rintro e a3 ⟨rfl,M⟩;rw[M];clear M a3;go_wp2;obtain⟨f1,bk,bn,bp⟩:=bj.out;refine bodyPost_ret (v:=.agg (cells5 4 0 0 x O 0 I)) (results_cell_row rfl _ _ (w.1.size+1) _ _ _ _ rfl f1 Tryz.underlying38 rfl (by kernel_rfl)) rfl ?_;rw[Y.out];exact⟨_,rfl,bk,bn,bp⟩
end
end
end Go.Proofs.YtbahfgdbjgkklaaGreatDoor
