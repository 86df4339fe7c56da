import Derived.Test.YtngmnfdaedlodaaGreatDoorB18
import Derived.Test.YtngmnfdaedlodaaGreatDoorB28
set_option maxRecDepth 100000
set_option maxHeartbeats 1000000
namespace Go.Proofs.YtngmnfdaedlodaaGreatDoor
open Go.Proofs.Tryz
open Option renaming none->I,some->O
open Go.Value renaming int->U,slice->C,string->qj,float->sq,pointer->qq
open Go.IntKind renaming i64->Y
open Go.Obj renaming cells->wx
open Go renaming World->AU
open Except renaming error->AQ
open Go.Proofs.Tryz renaming prog->AE
variable{A R T a c:Nat}{W W' w w':AU}{l:L8}{p:OA}{C0:AV}{t:ByteArray}
section
open Go.RowKit
end
section
open Go.RowKit
theorem oD(p:OA)(len c m n:Nat)(y:m<=n)(h:n<=c)(w:AU):(Instr.slice 40 (C p len c) (O (U Y m)) (O (U Y n)) I).run AE w=.ok (C (dp p m c) (n-m) (c-m)) w:=by
 have o:(sizeOf (Tryz.prog.elem 40)).run AE w=.ok 1 w:=by kernel_rfl
 rw[run_slice_lh w 40 p len c (by kernel_rfl) Y Y (m:Int) (n:Int) (by omega) (by omega) (by omega),o];simp[sliced,dp,Result.andThen]
def ku:AV:=#[.nilFunc,.func (.func 208) #[] #[],.func (.func 209) #[] #[],.func (.func 210) #[] #[],.func (.func 211) #[] #[],.func (.func 212) #[] #[],.func (.func 213) #[] #[],.func (.func 214) #[] #[]]
section
variable {L:L8}
structure jW(L:L8)(w:AU)(A R T:Nat)(p:OA)(c a:Nat):Prop where
 b0:w.1[R]?=O (wx #[C (O ⟨T,0,I⟩) 8 8,C p L.length c,U Y ((a:Nat):Int)] 287 (0,0))
 b1:w.1[T]?=O (wx ku 299 (0,0))
 lies:At w p L
 cap:L.length<=c
 far:L≠[]->∀d,p=O d->d.block<A
 tab:T<R
 pos:a<=L.length
structure aA(L:L8)(w:AU)(A R:Nat)(l:L8):Prop where
 out:∃T p c a,jW L w A R T p c a∧l=L.drop a
 small:L.length<=140737488351232
 low:A<=R
theorem aA.lt(h:aA L w A R l):R<w.1.size:=by
 obtain⟨T,p,c,a,o,_⟩:=h.out;exact ap o.b0
theorem jW.keep(h:jW L w A R T p c a)(J:A<=R)(o:∀k,k<=R->w'.1[k]?=w.1[k]?)(y:w.1.size<=w'.1.size):jW L w' A R T p c a:=by
 have D:=h.tab;exact⟨(o R gQx).trans h.b0,(o T (by omega)).trans h.b1,h.lies.keep h.far (fun k E=>o k (by omega)) y,h.cap,h.far,D,h.pos⟩
theorem aA.keep(h:aA L w A R l)(D:∀k,k<=R->w'.1[k]?=w.1[k]?)(E:w.1.size<=w'.1.size):aA L w' A R l:=by
 obtain⟨T,p,c,a,o,y⟩:=h.out;exact⟨⟨T,p,c,a,o.keep h.low D E,y⟩,h.small,h.low⟩
theorem aA.on(h:aA L w A R l)(hb:Below w.1.size w w'):aA L w' A R l:=h.keep (fun k o=>hb.block k (by have:=h.lt;omega)) hb.size
theorem aA.aside{F:Nat->Prop}(h:aA L w A R l)(o:Aside F w w')(y:∀k,F k->R<k):aA L w' A R l :=
 h.keep (fun k E=>o.block k (by have:=h.lt;omega) (fun D=>by have:=y k D;omega)) o.size
theorem aA.drew(h:aA L w A R l):aA L w.drew A R l:=h.keep (fun _ _=>rfl) gQx
theorem jW.move{w:AU}(h:jW L w A R T p c a)(X:A<=R)(n:Nat)(M:n<=L.length):jW L (w.setCell ⟨R,2,I⟩ (U Y ((n:Nat):Int))) A R T p c n:=by
 have Q:=h.tab;have o:Aside (fun i=>i=R) w (w.setCell ⟨R,2,I⟩ (U Y ((n:Nat):Int))):=am _ _ _ _;have V:=ap h.b0;refine⟨by rw[ao h.b0 2];rfl,(o.block T (by omega) (by omega)).trans h.b1,?_,h.cap,h.far,Q,M⟩;rcases h.lies with D | ⟨b,S,rfl,hb,J⟩
 ·exact .inl D
 ·by_cases y:L=[]
  ·exact .inl y
  ·have E:=h.far y _ rfl;refine .inr ⟨b,S,rfl,AS hb o.size,fun j K=>?_⟩;rw[World.cell?_of_block (w:=w) (o.block b hb (by show ¬b=R;simp only at E;omega))];exact J j K
def bJ{α:Type}(L:L8)(w:AU)(A R:Nat)(l:L8)(r:Except Nat (α×Nat))(V:α->Value->AU->Prop)(e:Ending)(w':AU):Prop:=match r with
 |AQ k=>e=.panicked (dm k)∧Aside (fun i=>i=R) w w'
 |.ok (a,j)=>∃v,e=.returned v∧V a v w'∧aA L w' A R (l.drop j)∧Aside (fun i=>i=R) w w'
theorem dk(a:Value)(k:Int)(w:AU):Calls AE 187 #[a,.bool true,U Y k] w fun e w'=>e=.returned (.tuple #[])∧w'=w:=by
 go_enter func187,ntmps187;go_wp2;go_end0;exact⟨rfl,rfl⟩
theorem cO(a:Value)(k:Nat)(w:AU):Calls AE 187 #[a,.bool false,U Y k] w fun e w'=>e=.panicked (dm k)∧w'=w:=by
 go_enter func187,ntmps187;go_wp2;exact⟨rfl,rfl,rfl⟩
end
end
section
open Go.RowKit
section
variable {L:L8}
theorem lk(n:Nat)(l:L8)(A R:Nat)(w:AU)(h:aA L w A R l):Calls AE 218 #[qq (O ⟨R,0,I⟩),U Y n] w (bJ L w A R l (aT n l) isB):=by
  obtain⟨T,p,c,a,h1,D⟩:=h.out;have V:=h.small;have S:=h.low;have aj:=h1.pos;have Q:=h1.cap;have ai:l.length=L.length-a:=by rw[D,AL]
  have c1:w.cell? ⟨R,1,I⟩=O (C p L.length c):=aa h1.b0 1;have c2:w.cell? ⟨R,2,I⟩=O (U Y ((a:Nat):Int)):=aa h1.b0 2;have Z:=ac h1.b0 2;obtain⟨r,E⟩:∃r,r=aT n l:=⟨_,rfl⟩;rw[<-E];have bb:(a:Int)<=(L.length:Int):=by omega
  have bc:(L.length:Int)<=140737488351232:=by omega
  have a8:IntKind.i64.wrap ((L.length:Int)-(a:Int))=(L.length:Int)-(a:Int):=by rw[IntKind.wrap_i64];omega
  by_cases J:l.length<n
  · have a2:decide ((n:Int)<=(L.length:Int)-(a:Int))=false:=AP (by omega);have K:Hid (r=AQ 30):=(by show _=_;rw[E,aT,AG J]);clear E J h1 h D ai V aj Q;go_enter func218,ntmps218;go_wp2_with fail
    go_region_law (first|(refine cH (.tmp 6) (.tmp 18) (.const (U Y 30)) 283 4 25 (by rfl) (by rfl) (by rfl) (by rfl) (by rfl) func187 (by kernel_rfl) (by rfl) (cO _ 30 _) (fun e w1 ah=>⟨_,ah.1,rfl,by rw[K.out,ah.2];exact⟨rfl,(Aside.refl _ _).drew⟩⟩) (.tuple #[]) ?_;intro X)|(refine bm X (.tuple #[]) ?_)|fail)
    all_goals exact X.out.elim
  · have a2:decide ((n:Int)<=(L.length:Int)-(a:Int))=true:=AR (by omega);have K:Hid (r=.ok (l.take n,n)):=(by show _=_;rw[E,aT,AF J]);have be:(a:Int)+(n:Int)<=140737488351232:=(by omega);have M:(a:Int)+(n:Int)=((a+n:Nat):Int):=(by omega);have a9:IntKind.i64.wrap ((a:Int)+(n:Int))=(a:Int)+(n:Int):=(by rw[IntKind.wrap_i64];omega);have bi:∀w,(Instr.slice 40 (C p L.length c) (O (U Y (a:Int))) (O (U Y ((a:Int)+(n:Int)))) I).run AE w=.ok (C (dp p a c) n (c-a)) w:=fun w=>by
      have:=oD p L.length c a (a+n) (by omega) (by omega) w;rw[Nat.add_sub_cancel_left,<-M] at this;exact this
    have aw:Hid (∀W,Below w.1.size w W->isB (l.take n) (C (dp p a c) n (c-a)) (W.setCell ⟨R,2,I⟩ (U Y ((a:Int)+(n:Int))))∧aA L (W.setCell ⟨R,2,I⟩ (U Y ((a:Int)+(n:Int)))) A R (l.drop n)∧Aside (fun i=>i=R) w (W.setCell ⟨R,2,I⟩ (U Y ((a:Int)+(n:Int))))):=by
      intro W hb;have a6:=ap h1.b0;have a3:=h1.keep S (w':=W) (fun k a7=>hb.block k (by omega)) hb.size;have ab:=a3.move S (a+n) (by omega);rw[M];refine⟨?_,⟨⟨T,p,c,a+n,ab,by rw[D,Ax]⟩,V,S⟩,(af hb _).trans (am _ _ _ _) (fun _ _ h=>h)⟩;have a0:(l.take n).length=n:=(by rw[AM];omega);refine⟨dp p a c,c-a,by rw[a0],?_,by omega⟩;rw[D];have y:=ab.lies.cut a c Q;rcases y with y | ⟨b,o,y,hb,a4⟩
      · exact .inl (by rw[y,List.take_nil])
      · exact .inr ⟨b,o,y,hb,cF a4 n⟩
    clear E J h1 h D ai V aj Q M;go_enter func218,ntmps218;go_wp2_with fail
    go_region_law (first|(refine bS (.tmp 6) (.tmp 18) (.const (U Y 30)) 283 4 25 (by rfl) (by rfl) (by rfl) (by rfl) (by rfl) func187 (by kernel_rfl) (by rfl) (dk _ 30 _) ?_;rintro e w1 ⟨rfl,ak⟩;refine⟨_,rfl,?_⟩;rw[ak];clear ak w1)|fail)
    all_goals
      go_wp2_with fail;go_region_law (fail)
      all_goals
        go_wp2;go_ret;obtain⟨f1,Z,a1⟩:=aw.out w.drew.drew gQz.drew.drew;rw[K.out];exact⟨_,rfl,f1,Z,a1⟩
theorem bJ.good{o:Type}{w w':AU}{A R:Nat}{l:L8}{a:o}{j:Nat}{V:o->Value->AU->Prop}{e:Ending}(h:bJ L w A R l (.ok (a,j)) V e w'):∃v,e=.returned v∧V a v w'∧aA L w' A R (l.drop j)∧Aside (fun i=>i=R) w w':=h
theorem bJ.bad{o:Type}{w w':AU}{A R:Nat}{l:L8}{k:Nat}{V:o->Value->AU->Prop}{e:Ending}(h:bJ L w A R l (AQ k) V e w'):e=.panicked (dm k)∧Aside (fun i=>i=R) w w':=h
theorem kH(l:L8)(A R:Nat)(w:AU)(h:aA L w A R l):Calls AE 217 #[qq (O ⟨R,0,I⟩)] w (bJ L w A R l (Sch.num l) isU):=by
  obtain⟨T,p,c,a,y,J⟩:=h.out;have S:=h.small;have Q:=h.low;have ai:=y.pos;have c1:w.cell? ⟨R,1,I⟩=O (C p L.length c):=aa y.b0 1;have c2:w.cell? ⟨R,2,I⟩=O (U Y ((a:Nat):Int)):=aa y.b0 2;have X:=ac y.b0 2;have D:=gQq (fun w ak=>lJ p c L (a:Int) (by omega) y.cap w ak);have ab:At w.drew p L:=y.lies;have Z:=gQq ab;clear ab;rw[uu,<-J] at D;obtain⟨r,K⟩:∃r,r=Sch.num l:=⟨_,rfl⟩;rw[<-K] at D ⊢;cases r with
  |error er=>
    have aw:er≠0:=by
      intro a2;have:=K.symm;unfold Sch.num at this;split at this
      · cases this
      · next h0=>injection this with this;omega
    have a0:((er:Int)==0)=false:=bg (by omega);have E:wc a (AQ er)=.tuple #[U .u64 0,U Y 0,U Y (er:Nat)]:=rfl;rw[E] at D;clear E K y h aw J ai S;go_enter func217,ntmps217;go_wp2_with fail
    go_region_law (first|(refine de (.tmp 10) (.tmp 14) 40 3 (by rfl) (by rfl) (by rfl) (by rfl) func134 (by kernel_rfl) (by rfl) (D.out _ Z.out) ?_;rintro e w1 ⟨rfl,o⟩;refine⟨_,rfl,?_⟩;rw[o];clear o w1)|fail)
    all_goals
      go_wp2_with fail;refine(cO _ er _).mono ?_;rintro e w1 ⟨rfl,o⟩;rw[o];clear o w1;go_wp2;exact⟨rfl,rfl,(Aside.refl _ _).drew⟩
  |ok nk=>
    obtain⟨n,k⟩:=nk;have E:wc a (.ok (n,k))=.tuple #[U .u64 (n:Nat),U Y ((a+k:Nat):Int),U Y 0]:=rfl;rw[E] at D;clear E;obtain⟨M,-⟩:=eY K.symm;have V:Hid (∀W,Below w.1.size w W->aA L (W.setCell ⟨R,2,I⟩ (U Y ((a+k:Nat):Int))) A R (l.drop k)∧Aside (fun i=>i=R) w (W.setCell ⟨R,2,I⟩ (U Y ((a+k:Nat):Int)))):=by
      intro W hb;have a1:=ap y.b0;have aj:=y.keep Q (w':=W) (fun k M=>hb.block k (by omega)) hb.size;exact⟨⟨⟨T,p,c,a+k,aj.move Q (a+k) (by rw[J,AL] at M;omega),by rw[J,Ax]⟩,S,Q⟩,(af hb _).trans (am _ _ _ _) (fun _ _ h=>h)⟩
    obtain⟨m,ah⟩:∃m,m=a+k:=⟨_,rfl⟩;rw[<-ah] at D V;clear K y h M J ai S ah;go_enter func217,ntmps217;go_wp2_with fail
    go_region_law (first|(refine de (.tmp 10) (.tmp 14) 40 3 (by rfl) (by rfl) (by rfl) (by rfl) func134 (by kernel_rfl) (by rfl) (D.out _ Z.out) ?_;rintro e w1 ⟨rfl,o⟩;refine⟨_,rfl,?_⟩;rw[o];clear o w1)|fail)
    all_goals
      go_wp2_with fail;refine(dk _ 0 _).mono ?_;rintro e w1 ⟨rfl,o⟩;rw[o];clear o w1;go_wp2;go_ret;obtain⟨f1,X⟩:=V.out w.drew gQz.drew;exact⟨_,rfl,rfl,f1,X⟩
theorem nM(D J:Nat)(a2:D<=1024)(l:L8)(A R:Nat)(w:AU)(h:aA L w A R l):Calls AE 219 #[qq (O ⟨R,0,I⟩),U .u64 D,U Y J] w (bJ L w A R l (aR D J l) isI):=by
 have E:=gQq (kH l A R w h);obtain⟨r,ah⟩:∃r,r=aR D J l:=⟨_,rfl⟩
 have M:Hid (r=match Sch.num l with
  |AQ e=>AQ e
  |.ok (n,k)=>if D<n then AQ J else .ok (n,k)):=ah
 rw[<-ah];clear h ah;obtain⟨m,ab⟩:∃m,m=Sch.num l:=⟨_,rfl⟩;rw[<-ab] at E M;have ak:=gQq ab;clear ab;cases m with
 |error e0=>
  go_enter func219,ntmps219;go_wp2_with fail;refine E.out.mono ?_;intro e w1 y;obtain⟨S,o⟩:=y.bad;subst S;clear y;have Q:=gQq o;clear o E;go_wp2;rw[M.out];exact⟨rfl,rfl,Q.out⟩
 |ok nk=>
  obtain⟨n,k⟩:=nk;have a3:=(eY ak.out.symm).2;by_cases X:D<n
  ·have Z:Hid (r=AQ J):=(by show _=_;rw[M.out];exact AG X);have a0:¬n<=D:=(by omega);clear M X;go_enter func219,ntmps219;go_wp2_with fail;refine E.out.mono ?_;intro e w1 y;obtain⟨v,S,K,-,o⟩:=y.good;clear y
   replace K:v=U .u64 (n:Nat):=K
   subst K;subst S;have Q:=gQq o;clear o E;go_wp2_with fail;refine(cO _ J _).mono ?_;rintro e ai ⟨rfl,V⟩;rw[V];clear V ai;go_wp2;rw[Z.out];exact⟨rfl,rfl,Q.out⟩
  ·have Z:Hid (r=.ok (n,k)):=(by show _=_;rw[M.out];exact AF X);have a0:n<=D:=(by omega);have a1:(n:Int)<=1024:=(by omega);clear M X;go_enter func219,ntmps219;go_wp2_with fail;refine E.out.mono ?_;intro e w1 y;obtain⟨v,S,K,aj,o⟩:=y.good;clear y
   replace K:v=U .u64 (n:Nat):=K
   subst K;subst S;have Q:=gQq o;have aw:=gQq aj;clear o E aj;go_wp2_with fail;refine(dk _ J _).mono ?_;rintro e ai ⟨rfl,V⟩;rw[V];clear V ai;go_wp2;go_ret;rw[Z.out];exact⟨_,rfl,rfl,aw.out,Q.out⟩
theorem qC(l:L8)(A R:Nat)(w:AU)(h:aA L w A R l):Calls AE 216 #[qq (O ⟨R,0,I⟩)] w (bJ L w A R l (Sch.bit l) isI):=by
 have o:=gQq (lk 1 l A R w h);clear h;cases l with
 |nil=>
  have K:aT 1 []=AQ 30:=rfl;rw[K] at o;go_enter func216,ntmps216;go_wp2_with fail;refine o.out.mono ?_;intro e w1 D;obtain⟨V,y⟩:=D.bad;subst V;clear D;have J:=gQq y;clear y o;go_wp2;exact⟨rfl,rfl,J.out⟩
 |cons b t=>
  have K:aT 1 (b::t)=.ok ([b],1):=by
   unfold aT;rw[AF (by simp)];rfl
  rw[K] at o;have hb:=b.toNat_lt;by_cases ai:1<b.toNat
  ·have M:Sch.bit (b::t)=AQ 5:=(by rw[Sch.bit,AG ai]);have a0:decide ((b.toNat:Int)<=1)=false:=AP (by omega);rw[M];clear K M;go_enter func216,ntmps216;go_wp2_with fail;refine o.out.mono ?_;intro e w1 D;obtain⟨v,V,E,-,y⟩:=D.good;obtain⟨q,c,E,Q,-⟩:=E.open;clear D;subst E;subst V;obtain⟨Z,ab,rfl,-,S⟩:=aP Q (by simp);have aw:w1.cell? ⟨Z,ab,I⟩=O (U .u8 (b.toNat:Int)):=S 0 (by simp);have J:=gQq y;clear y o Q S;go_wp2_with fail;refine(cO _ 5 _).mono ?_;rintro e ah ⟨rfl,X⟩;rw[X];clear X ah;go_wp2;exact⟨rfl,rfl,J.out⟩
  ·have M:Sch.bit (b::t)=.ok (b.toNat,1):=(by rw[Sch.bit,AF ai]);have a0:decide ((b.toNat:Int)<=1)=true:=AR (by omega);rw[M];clear K M;go_enter func216,ntmps216;go_wp2_with fail;refine o.out.mono ?_;intro e w1 D;obtain⟨v,V,E,aj,y⟩:=D.good;obtain⟨q,c,E,Q,-⟩:=E.open;clear D;subst E;subst V;obtain⟨Z,ab,rfl,-,S⟩:=aP Q (by simp);have aw:w1.cell? ⟨Z,ab,I⟩=O (U .u8 (b.toNat:Int)):=S 0 (by simp);have J:=gQq y;have ak:=gQq aj;clear y o Q S aj;go_wp2_with fail;refine(dk _ 5 _).mono ?_;rintro e ah ⟨rfl,X⟩;rw[X];clear X ah;go_wp2;go_ret;exact⟨_,rfl,rfl,ak.out,J.out⟩
end
end
section
open Go.RowKit
attribute [local go_sem] al
theorem jC{L:L8}{wr:AU}{N:Nat}{k i:Int}{b:Nat}{q:OA}{n:Nat}{x:V}{F:Nat->Prop}(Z:R<w.1.size)(X:w.1.size<=N)(J:wr.1[N]?=O (wx #[U Y 0,U Y 0,sq .f64 0,qj ⟨#[]⟩,C I 0 0] 102 (0,0)))(M:aY wr F (cells5 k i b t q n c) x)(D:∀j,F j->N<j∧j<wr.1.size)(Q:aA L wr A R l)(K:Aside (fun j=>j=R) w wr):
  (dX wr N k i b t (C q n c)).1[N]?=O (wx (cells5 k i b t q n c) 102 (0,0))∧isV w x (.agg (cells5 k i b t q n c)) (dX wr N k i b t (C q n c))∧aA L (dX wr N k i b t (C q n c)) A R l∧Aside (fun j=>j=R) w (dX wr N k i b t (C q n c)):=by
 have y:=jx wr N k i b t (C q n c);have S:=kI wr N k i b t (C q n c);refine⟨ni J rfl k i b t q n c,⟨_,rfl,?_⟩,Q.aside y (fun j o=>by rw[o];omega),K.trans y (fun j o E=>by rw[E] at o;omega)⟩;rw[S];exact(M.aside y (fun j o E=>by have:=D j o;omega)).mono (fun j o=>by have:=D j o;omega)
structure ba(L:L8)(w W:AU)(A R:Nat)(C0:AV)(l:L8):Prop where
 b0:W.1[w.1.size]?=O (wx C0 99 (0,0))
 b1:W.1[w.1.size+1]?=O (wx #[U Y 0,U Y 0,sq .f64 0,qj ⟨#[]⟩,C I 0 0] 102 (0,0))
 rd:aA L W A R l
 aside:Aside (fun i=>i=R) w W
 size:w.1.size+2<=W.1.size
section
variable {L:L8}
theorem bh(C0:AV){l:L8}(h:aA L w A R l):ba L w ((w.alloc (wx C0 99)).alloc (wx #[U Y 0,U Y 0,sq .f64 0,qj ⟨#[]⟩,C I 0 0] 102)) A R C0 l:=by
 have hb:Below w.1.size w ((w.alloc (wx C0 99)).alloc (wx #[U Y 0,U Y 0,sq .f64 0,qj ⟨#[]⟩,C I 0 0] 102)):=gQy.alloc (by simp) _;refine⟨?_,?_,h.on hb,af hb _,by simp⟩
 ·rw[ay _ _ (by simp)];exact an w _
 ·have:=an (w.alloc (wx C0 99)) (wx #[U Y 0,U Y 0,sq .f64 0,qj ⟨#[]⟩,C I 0 0] 102);simpa using this
theorem ba.drew(h:ba L w W A R C0 l):ba L w W.drew A R C0 l:=⟨h.b0,h.b1,h.rd.drew,h.aside.drew,h.size⟩
theorem ba.on(h:ba L w W A R C0 l)(hb:Below W.1.size W W'):ba L w W' A R C0 l:=by
 have o:=h.size;exact⟨by rw[hb.block _ (by omega)];exact h.b0,by rw[hb.block _ (by omega)];exact h.b1,h.rd.on hb,h.aside.trans (af hb (fun i=>i=R)) (fun _ _ h=>h),AT o hb.size⟩
theorem ba.step{l':L8}(h:ba L w W A R C0 l)(o:Aside (fun i=>i=R) W W')(y:aA L W' A R l')(E:R<w.1.size):ba L w W' A R C0 l':=by
 have D:=h.size;refine⟨?_,?_,y,h.aside.trans o (fun _ _ h=>h),AT D o.size⟩
 ·rw[o.block _ (by omega) (by omega)];exact h.b0
 ·rw[o.block _ (by omega) (by omega)];exact h.b1
theorem ba.fin(h:ba L w W A R C0 l)(o:R<w.1.size)(k i:Int)(b:Nat)(t:ByteArray):
  (dX W (w.1.size+1) k i b t (C I 0 0)).1[w.1.size+1]?=O (wx (cells5 k i b t I 0 0) 102 (0,0))∧isV w (.mk k i b t []) (.agg (cells5 k i b t I 0 0)) (dX W (w.1.size+1) k i b t (C I 0 0))∧aA L (dX W (w.1.size+1) k i b t (C I 0 0)) A R l∧Aside (fun j=>j=R) w (dX W (w.1.size+1) k i b t (C I 0 0)) :=
 jC (F:=fun _=>False) o (by omega) h.b1 .none (fun _ h=>h.elim) h.rd h.aside
theorem qZ(l:L8)(A R:Nat)(w:AU)(p:OA)(n c:Nat)(h:aA L w A R l):Calls AE 208 #[qq (O ⟨R,0,I⟩),.agg #[U Y 1,C p n c]] w (bJ L w A R l (Sch.scalar 1 l) (isV w)):=by
  have ah:=h.lt;obtain⟨W,Q⟩:∃W,W=(w.alloc (wx #[U Y 1,C p n c] 99)).alloc (wx #[U Y 0,U Y 0,sq .f64 0,qj ⟨#[]⟩,C I 0 0] 102):=⟨_,rfl⟩;have o:Hid (ba L w W A R #[U Y 1,C p n c] l):=by rw[Q];exact bh _ h
  have J:=gQq Q;obtain⟨r,V⟩:∃r,r=Sch.scalar 1 l:=⟨_,rfl⟩;have D:=gQq (V.trans (mN l));rw[<-V];have K:=gQq (qC l A R W.drew o.out.rd.drew);obtain⟨m,S⟩:∃m,m=Sch.bit l:=⟨_,rfl⟩;rw[<-S] at D K;have ab:=gQq S;have a3:W.cell? ⟨w.1.size,0,I⟩=O (U Y 1):=aa o.out.b0 0;have a5:W.cell? ⟨w.1.size+1,0,I⟩=O (U Y 0):=aa o.out.b1 0;have bb:W.frozen? ⟨w.1.size+1,0,I⟩=false:=ac o.out.b1 0;have a6:W.cell? ⟨w.1.size+1,1,I⟩=O (U Y 0):=aa o.out.b1 1;have bc:W.frozen? ⟨w.1.size+1,1,I⟩=false:=ac o.out.b1 1;have a7:W.cell? ⟨w.1.size+1,2,I⟩=O (sq .f64 0):=aa o.out.b1 2;have be:W.frozen? ⟨w.1.size+1,2,I⟩=false:=ac o.out.b1 2;have a8:W.cell? ⟨w.1.size+1,3,I⟩=O (qj ⟨#[]⟩):=aa o.out.b1 3;have bi:W.frozen? ⟨w.1.size+1,3,I⟩=false:=ac o.out.b1 3;have a9:W.cell? ⟨w.1.size+1,4,I⟩=O (C I 0 0):=aa o.out.b1 4;have bj:W.frozen? ⟨w.1.size+1,4,I⟩=false:=ac o.out.b1 4;clear V S h Q;cases m with
  |error er=>
    have M:Hid (r=AQ er):=D.out;clear D ab;go_enter func208,ntmps208;go_wp2_with fail;rw[<-J.out];clear J
    go_region_law (first|(refine bU (.tmp 7) 283 (by rfl) (by rfl) (by rfl) func216 (by kernel_rfl) (by rfl) K.out (fun e w1 E=>⟨_,E.bad.1,rfl,by rw[M.out];exact⟨rfl,o.out.aside.drew.trans E.bad.2 (fun _ _ h=>h)⟩⟩) (U Y 0) ?_;intro Z)|(refine bm Z (U Y 0) ?_)|fail)
    all_goals exact Z.out.elim
  |ok xj=>
    obtain⟨x,j⟩:=xj;have M:Hid (r=.ok (.mk 1 (x:Nat) 0 ⟨#[]⟩ [],j)):=D.out;clear D;clear ab;go_enter func208,ntmps208;go_wp2_with fail;rw[<-J.out];clear J
    go_region_law (first
      | (refine aO (.tmp 7) 283 (by rfl) (by rfl) (by rfl) func216 (by kernel_rfl) (by rfl) K.out ?_;intro e w1 E;obtain⟨v,aj,X,ak,ai⟩:=E.good;clear E
         replace X:v=U Y (x:Nat):=X
         subst X;refine⟨_,aj,?_⟩;clear aj;have y:=gQq (o.out.drew.step ai ak ah);clear ai ak;have a4:w1.cell? ⟨w.1.size,0,I⟩=O (U Y 1):=aa y.out.b0 0;have bk:w1.cell? ⟨w.1.size+1,0,I⟩=O (U Y 0):=aa y.out.b1 0;have bs:w1.frozen? ⟨w.1.size+1,0,I⟩=false:=ac y.out.b1 0;have bl:w1.cell? ⟨w.1.size+1,1,I⟩=O (U Y 0):=aa y.out.b1 1;have bv:w1.frozen? ⟨w.1.size+1,1,I⟩=false:=ac y.out.b1 1;have bn:w1.cell? ⟨w.1.size+1,2,I⟩=O (sq .f64 0):=aa y.out.b1 2;have bN:w1.frozen? ⟨w.1.size+1,2,I⟩=false:=ac y.out.b1 2;have bp:w1.cell? ⟨w.1.size+1,3,I⟩=O (qj ⟨#[]⟩):=aa y.out.b1 3;have bO:w1.frozen? ⟨w.1.size+1,3,I⟩=false:=ac y.out.b1 3;have bq:w1.cell? ⟨w.1.size+1,4,I⟩=O (C I 0 0):=aa y.out.b1 4;have bT:w1.frozen? ⟨w.1.size+1,4,I⟩=false:=ac y.out.b1 4
         have aw:=gQq (y.out.fin ah 1 (x:Nat) 0 ⟨#[]⟩))
      |fail)
    all_goals
      go_wp2;obtain⟨f1,a0,a1,a2⟩:=aw.out;refine bodyPost_ret (v:=.agg (cells5 1 (x:Nat) 0 ⟨#[]⟩ I 0 0)) (results_cell_row rfl _ _ (w.1.size+1) _ _ _ _ rfl f1 underlying102 rfl (by kernel_rfl)) rfl ?_;rw[M.out];exact⟨_,rfl,a0,a1,a2⟩
theorem ti(l:L8)(A R:Nat)(w:AU)(p:OA)(n c:Nat)(h:aA L w A R l):Calls AE 209 #[qq (O ⟨R,0,I⟩),.agg #[U Y 2,C p n c]] w (bJ L w A R l (Sch.scalar 2 l) (isV w)):=by
  have ai:=h.lt;obtain⟨W,S⟩:∃W,W=(w.alloc (wx #[U Y 2,C p n c] 99)).alloc (wx #[U Y 0,U Y 0,sq .f64 0,qj ⟨#[]⟩,C I 0 0] 102):=⟨_,rfl⟩;have o:Hid (ba L w W A R #[U Y 2,C p n c] l):=by rw[S];exact bh _ h
  have K:=gQq S;obtain⟨r,X⟩:∃r,r=Sch.scalar 2 l:=⟨_,rfl⟩;have D:=gQq (X.trans (mM l));rw[<-X];have M:=gQq (kH l A R W.drew o.out.rd.drew);obtain⟨m,V⟩:∃m,m=Sch.num l:=⟨_,rfl⟩;rw[<-V] at D M;have Q:=gQq V;have a7:W.cell? ⟨w.1.size,0,I⟩=O (U Y 2):=aa o.out.b0 0;have a9:W.cell? ⟨w.1.size+1,0,I⟩=O (U Y 0):=aa o.out.b1 0;have bj:W.frozen? ⟨w.1.size+1,0,I⟩=false:=ac o.out.b1 0;have bb:W.cell? ⟨w.1.size+1,1,I⟩=O (U Y 0):=aa o.out.b1 1;have bk:W.frozen? ⟨w.1.size+1,1,I⟩=false:=ac o.out.b1 1;have bc:W.cell? ⟨w.1.size+1,2,I⟩=O (sq .f64 0):=aa o.out.b1 2;have bl:W.frozen? ⟨w.1.size+1,2,I⟩=false:=ac o.out.b1 2;have be:W.cell? ⟨w.1.size+1,3,I⟩=O (qj ⟨#[]⟩):=aa o.out.b1 3;have bn:W.frozen? ⟨w.1.size+1,3,I⟩=false:=ac o.out.b1 3;have bi:W.cell? ⟨w.1.size+1,4,I⟩=O (C I 0 0):=aa o.out.b1 4;have bp:W.frozen? ⟨w.1.size+1,4,I⟩=false:=ac o.out.b1 4;clear X V h S;cases m with
  |error er=>
    have J:Hid (r=AQ er):=D.out;clear D Q;go_enter func209,ntmps209;go_wp2_with fail;rw[<-K.out];clear K
    go_region_law (first|(refine bU (.tmp 7) 283 (by rfl) (by rfl) (by rfl) func217 (by kernel_rfl) (by rfl) M.out (fun e w1 E=>⟨_,E.bad.1,rfl,by rw[J.out];exact⟨rfl,o.out.aside.drew.trans E.bad.2 (fun _ _ h=>h)⟩⟩) (U .u64 0) ?_;intro ab)|(refine bm ab (U Y 0) ?_)|fail)
    all_goals exact ab.out.elim
  |ok xj=>
    obtain⟨x,j⟩:=xj;have J:Hid (r=.ok (.mk 2 (Leb.zag x) 0 ⟨#[]⟩ [],j)):=D.out;clear D;have ah:=gQq (pW x (eY Q.out.symm).2);obtain⟨z,a1⟩:∃z,z=Leb.zag x:=⟨_,rfl⟩;rw[<-a1] at ah J;clear a1 Q;go_enter func209,ntmps209;go_wp2_with fail;rw[<-K.out];clear K
    go_region_law (first
      | (refine aO (.tmp 7) 283 (by rfl) (by rfl) (by rfl) func217 (by kernel_rfl) (by rfl) M.out ?_;intro e w1 E;obtain⟨v,ak,Z,aw,aj⟩:=E.good;clear E
         replace Z:v=U .u64 (x:Nat):=Z
         subst Z;refine⟨_,ak,?_⟩;clear ak;have y:=gQq (o.out.drew.step aj aw ai);clear aj aw;have a8:w1.cell? ⟨w.1.size,0,I⟩=O (U Y 2):=aa y.out.b0 0;have bq:w1.cell? ⟨w.1.size+1,0,I⟩=O (U Y 0):=aa y.out.b1 0;have bT:w1.frozen? ⟨w.1.size+1,0,I⟩=false:=ac y.out.b1 0;have bs:w1.cell? ⟨w.1.size+1,1,I⟩=O (U Y 0):=aa y.out.b1 1;have bX:w1.frozen? ⟨w.1.size+1,1,I⟩=false:=ac y.out.b1 1;have bv:w1.cell? ⟨w.1.size+1,2,I⟩=O (sq .f64 0):=aa y.out.b1 2;have b2:w1.frozen? ⟨w.1.size+1,2,I⟩=false:=ac y.out.b1 2;have bN:w1.cell? ⟨w.1.size+1,3,I⟩=O (qj ⟨#[]⟩):=aa y.out.b1 3;have b3:w1.frozen? ⟨w.1.size+1,3,I⟩=false:=ac y.out.b1 3;have bO:w1.cell? ⟨w.1.size+1,4,I⟩=O (C I 0 0):=aa y.out.b1 4;have b4:w1.frozen? ⟨w.1.size+1,4,I⟩=false:=ac y.out.b1 4
         have a2:=gQq (y.out.fin ai 2 z 0 ⟨#[]⟩))
      | (refine aO (.tmp 8) 160 (by rfl) (by rfl) (by rfl) func179 (by kernel_rfl) (by rfl) (ah.out _) ?_;rintro e a6 ⟨rfl,a0⟩;refine⟨_,rfl,?_⟩;rw[a0];clear a0 a6)
      |fail)
    all_goals
      go_wp2;obtain⟨f1,a3,a4,a5⟩:=a2.out;refine bodyPost_ret (v:=.agg (cells5 2 z 0 ⟨#[]⟩ I 0 0)) (results_cell_row rfl _ _ (w.1.size+1) _ _ _ _ rfl f1 underlying102 rfl (by kernel_rfl)) rfl ?_;rw[J.out];exact⟨_,rfl,a3,a4,a5⟩
end
end
section
open Go.RowKit
attribute [local go_sem] al
section
variable {L:L8}
def iq(k:Int)(l:L8):Except Nat (V×Nat):=ar (Sch.text 1024 2 l) fun t j=>.ok (.mk k 0 0 t [],j)
theorem lZ(k:Int)(l:L8):iq k l=ar (aR 1024 2 l) fun n j=>ar (aT n (l.drop j)) fun b i=>.ok (.mk k 0 0 (textOf b) [],j+i):=by
 unfold iq;rw[fR];cases aR 1024 2 l with
 |error e=>rfl
 |ok nk=>
  obtain⟨n,k⟩:=nk;rw[aI,aI];cases aT n (l.drop k) with
  |error e=>rfl
  |ok bj=>rfl
theorem jr(k:Int)(l:L8)(A R:Nat)(w:AU)(p:OA)(n c:Nat)(h:aA L w A R l):Calls AE 212 #[qq (O ⟨R,0,I⟩),.agg #[U Y k,C p n c]] w (bJ L w A R l (iq k l) (isV w)):=by
  have ak:=h.lt;obtain⟨W,aw⟩:∃W,W=(w.alloc (wx #[U Y k,C p n c] 99)).alloc (wx #[U Y 0,U Y 0,sq .f64 0,qj ⟨#[]⟩,C I 0 0] 102):=⟨_,rfl⟩;have ah:Hid (ba L w W A R #[U Y k,C p n c] l):=by rw[aw];exact bh _ h
  have aj:=gQq aw;obtain⟨r,a0⟩:∃r,r=iq k l:=⟨_,rfl⟩;have S:=gQq (a0.trans (lZ k l));rw[<-a0];have Q:=gQq (nM 1024 2 (by omega) l A R W ah.out.rd);obtain⟨m,Z⟩:∃m,m=aR 1024 2 l:=⟨_,rfl⟩;rw[<-Z] at S Q;clear a0 Z h aw;cases m with
  |error er=>
    have X:Hid (r=AQ er):=S.out;clear S;go_enter func212,ntmps212;go_wp2_with fail;rw[<-aj.out];refine Q.out.mono ?_;intro e w1 E;obtain⟨M,J⟩:=E.bad;subst M;clear E;have a4:=gQq (ah.out.aside.trans J (fun _ _ h=>h));clear J Q;go_wp2;rw[X.out];exact⟨rfl,rfl,a4.out⟩
  |ok xj=>
    obtain⟨x,j⟩:=xj;have V:Hid (r=ar (aT x (l.drop j)) fun b i=>.ok (.mk k 0 0 (textOf b) [],j+i)):=S.out;obtain⟨m,Z⟩:∃m,m=aT x (l.drop j):=⟨_,rfl⟩;have a2:=gQq Z;clear S Z;go_enter func212,ntmps212;go_wp2_with fail;rw[<-aj.out];refine Q.out.mono ?_;intro e w1 E;obtain⟨v,M,K,ab,J⟩:=E.good;clear E
    replace K:v=U Y (x:Nat):=K
    subst K;subst M;have o:=gQq (ah.out.step J ab ak);clear J ab Q aj ah;have ai:=gQq (lk x (l.drop j) A R w1.drew o.out.rd.drew);rw[<-a2.out] at ai V;have bc:w1.cell? ⟨w.1.size,0,I⟩=O (U Y k):=aa o.out.b0 0;have bj:w1.cell? ⟨w.1.size+1,0,I⟩=O (U Y 0):=aa o.out.b1 0;have bq:w1.frozen? ⟨w.1.size+1,0,I⟩=false:=ac o.out.b1 0;have bk:w1.cell? ⟨w.1.size+1,1,I⟩=O (U Y 0):=aa o.out.b1 1;have bs:w1.frozen? ⟨w.1.size+1,1,I⟩=false:=ac o.out.b1 1;have bl:w1.cell? ⟨w.1.size+1,2,I⟩=O (sq .f64 0):=aa o.out.b1 2;have bv:w1.frozen? ⟨w.1.size+1,2,I⟩=false:=ac o.out.b1 2;have bn:w1.cell? ⟨w.1.size+1,3,I⟩=O (qj ⟨#[]⟩):=aa o.out.b1 3;have bN:w1.frozen? ⟨w.1.size+1,3,I⟩=false:=ac o.out.b1 3;have bp:w1.cell? ⟨w.1.size+1,4,I⟩=O (C I 0 0):=aa o.out.b1 4;have bO:w1.frozen? ⟨w.1.size+1,4,I⟩=false:=ac o.out.b1 4;clear a2;cases m with
    |error er=>
      have X:Hid (r=AQ er):=V.out;have a9:=cP (w:=w1.drew) (p:=I) (l:=[]) (.inl rfl) 0;simp only[List.length_nil] at a9;clear V;go_wp2_with fail
      go_region_law (first|(refine iE (.tmp 10) (.tmp 11) 283 3 (by rfl) (by rfl) (by rfl) (by rfl) func218 (by kernel_rfl) (by rfl) ai.out (fun e D E=>⟨_,E.bad.1,rfl,by rw[X.out];exact⟨rfl,o.out.aside.drew.trans E.bad.2 (fun _ _ h=>h)⟩⟩) (C I 0 0) ?_;intro a1)|(refine bm a1 (qj ⟨#[]⟩) ?_)|fail)
      all_goals exact a1.out.elim
    |ok bi=>
      obtain⟨b,i⟩:=bi;have X:Hid (r=.ok (.mk k 0 0 (textOf b) [],j+i)):=V.out;clear V;go_wp2_with fail
      go_region_law (first
        | (refine de (.tmp 10) (.tmp 11) 283 3 (by rfl) (by rfl) (by rfl) (by rfl) func218 (by kernel_rfl) (by rfl) ai.out ?_;intro e D E;obtain⟨v,M,K,ab,J⟩:=E.good;obtain⟨q,c2,K,a3,-⟩:=K.open;clear E;subst K;refine⟨_,M,?_⟩;clear M;have bb:=cP a3 c2;have y:=gQq (o.out.drew.step J ab ak);clear J ab a3;have be:D.cell? ⟨w.1.size,0,I⟩=O (U Y k):=aa y.out.b0 0;have bT:D.cell? ⟨w.1.size+1,0,I⟩=O (U Y 0):=aa y.out.b1 0;have b5:D.frozen? ⟨w.1.size+1,0,I⟩=false:=ac y.out.b1 0;have bX:D.cell? ⟨w.1.size+1,1,I⟩=O (U Y 0):=aa y.out.b1 1;have b6:D.frozen? ⟨w.1.size+1,1,I⟩=false:=ac y.out.b1 1;have b2:D.cell? ⟨w.1.size+1,2,I⟩=O (sq .f64 0):=aa y.out.b1 2;have b7:D.frozen? ⟨w.1.size+1,2,I⟩=false:=ac y.out.b1 2;have b3:D.cell? ⟨w.1.size+1,3,I⟩=O (qj ⟨#[]⟩):=aa y.out.b1 3;have b8:D.frozen? ⟨w.1.size+1,3,I⟩=false:=ac y.out.b1 3;have b4:D.cell? ⟨w.1.size+1,4,I⟩=O (C I 0 0):=aa y.out.b1 4;have b9:D.frozen? ⟨w.1.size+1,4,I⟩=false:=ac y.out.b1 4
           have a5:=gQq (y.out.fin ak k 0 0 (textOf b)))
        |fail)
      all_goals
        go_wp2;obtain⟨f1,a6,a7,a8⟩:=a5.out;refine bodyPost_ret (v:=.agg (cells5 k 0 0 (textOf b) I 0 0)) (results_cell_row rfl _ _ (w.1.size+1) _ _ _ _ rfl f1 underlying102 rfl (by kernel_rfl)) rfl ?_;rw[X.out];exact⟨_,rfl,a6,by rw[<-Ax];exact a7,a8⟩
theorem qP{j:Nat}(h:Sch.text 1024 2 l=.ok (t,j)):t.size<=1024:=by
 unfold Sch.text at h;split at h
 ·cases h
 ·next n k hn=>
  split at h
  ·cases h
  ·next h0=>
   split at h
   ·cases h
   ·next h1=>
    injection h with h;injection h with h2 h3;subst h2;show(textOf _).size<=1024;have:(textOf ((l.drop k).take n)).size=((l.drop k).take n).length:=(by simp[textOf,ByteArray.size]);rw[this,AM];omega
theorem qW(l:L8)(A R:Nat)(w:AU)(p:OA)(n c:Nat)(h:aA L w A R l):Calls AE 211 #[qq (O ⟨R,0,I⟩),.agg #[U Y 4,C p n c]] w (bJ L w A R l (Sch.scalar 4 l) (isV w)):=by
 have bb:=h.lt;obtain⟨W,a1⟩:∃W,W=(w.alloc (wx #[U Y 4,C p n c] 99)).alloc (wx #[U Y 0,U Y 0,sq .f64 0,qj ⟨#[]⟩,C I 0 0] 102):=⟨_,rfl⟩;have Z:Hid (ba L w W A R #[U Y 4,C p n c] l):=by rw[a1];exact bh _ h
 have aw:=gQq a1;obtain⟨r,a4⟩:∃r,r=Sch.scalar 4 l:=⟨_,rfl⟩;have J:=gQq (a4.trans (mJ l));rw[<-a4];have D:=gQq (jr 4 l A R W p n c Z.out.rd);unfold iq at D;obtain⟨m,a3⟩:∃m,m=Sch.text 1024 2 l:=⟨_,rfl⟩;have a9:=gQq a3;rw[<-a3] at J D;clear a4 a3 h a1;cases m with
 |error er=>
  have E:Hid (r=AQ er):=J.out;rw[mz] at D;clear J;go_enter func211,ntmps211;go_wp2_with fail;rw[<-aw.out];refine D.out.mono ?_;intro e w1 Q;obtain⟨a2,M⟩:=Q.bad;subst a2;clear Q;have bl:=gQq (Z.out.aside.trans M (fun _ _ h=>h));clear M D;go_wp2;rw[E.out];exact⟨rfl,rfl,bl.out⟩
 |ok xj=>
  obtain⟨x,j⟩:=xj;have b0:=qP a9.out.symm;have E:Hid (r=if dQ x=false then AQ 61 else .ok (.mk 4 0 0 x [],j)):=J.out;rw[aI] at D;clear J;go_enter func211,ntmps211;go_wp2_with fail;rw[<-aw.out];refine D.out.mono ?_;intro e w1 Q;obtain⟨v,a2,a5,bj,M⟩:=Q.good;obtain⟨u,a5,bi⟩:=a5.open;clear Q;subst a5;subst a2;obtain⟨V,K,bv,-⟩:=bi.lies.open;subst bv;have a8:=gQq (Z.out.step M bj bb);obtain⟨X,ah⟩:∃X,X=w1.alloc (wx (cells5 4 0 0 x V 0 K) 102):=⟨_,rfl⟩;have a7:Hid (Below w1.1.size w1 X):=by rw[ah];exact gQy
  have be:X.1[w1.1.size]?=O (wx (cells5 4 0 0 x V 0 K) 102 (0,0)):=by rw[ah];exact an w1 _
  have ai:=gQq be;have ak:=gQq (xP x (by omega) X);have a0:=gQq ah;have bX:w.1.size+2<=w1.1.size:=a8.out.size;clear M bj bi ah be D Z aw a9;unfold cells5 at a0 ai ⊢;obtain⟨bN,bk⟩:∃b,b=dQ x:=⟨_,rfl⟩;rw[<-bk] at ak E;clear bk;go_wp2_with fail;rw[<-a0.out];refine ak.out.mono ?_;rintro e y ⟨rfl,ab⟩;have o:=gQq ((a8.out.on a7.out).on ab);have bO:=ab.size;have bT:=a7.out.size;have bc:y.1[w1.1.size]?=O (wx (cells5 4 0 0 x V 0 K) 102 (0,0)):=by
   rw[ab.block _ (ap ai.out)];exact ai.out
  obtain⟨cd,ci,cj,ck,cn⟩:=cQ5 bc;have b2:y.cell? ⟨w.1.size+1,0,I⟩=O (U Y 0):=aa o.out.b1 0;have b7:y.frozen? ⟨w.1.size+1,0,I⟩=false:=ac o.out.b1 0;have b3:y.cell? ⟨w.1.size+1,1,I⟩=O (U Y 0):=aa o.out.b1 1;have b8:y.frozen? ⟨w.1.size+1,1,I⟩=false:=ac o.out.b1 1;have b4:y.cell? ⟨w.1.size+1,2,I⟩=O (sq .f64 0):=aa o.out.b1 2;have b9:y.frozen? ⟨w.1.size+1,2,I⟩=false:=ac o.out.b1 2;have b5:y.cell? ⟨w.1.size+1,3,I⟩=O (qj ⟨#[]⟩):=aa o.out.b1 3;have cb:y.frozen? ⟨w.1.size+1,3,I⟩=false:=ac o.out.b1 3;have b6:y.cell? ⟨w.1.size+1,4,I⟩=O (C I 0 0):=aa o.out.b1 4;have cc:y.frozen? ⟨w.1.size+1,4,I⟩=false:=ac o.out.b1 4;have bn:=gQq (jC (F:=fun _=>False) bb (by omega) o.out.b1 (aY.none (k:=4) (i:=0) (b:=0) (t:=x) (p:=V) (c:=K)) (fun _ h=>h.elim) o.out.rd o.out.aside);clear ab bc a0 ak;cases bN with
  |false=>
   have aj:Hid (r=AQ 61):=E.out.trans (AG (by first | rfl | trivial));clear E;go_wp2_with fail;refine(cO _ 61 _).mono ?_;rintro e a6 ⟨rfl,S⟩;rw[S];clear S a6;go_wp2;rw[aj.out];exact⟨rfl,rfl,o.out.aside⟩
  |true=>
   have aj:Hid (r=.ok (.mk 4 0 0 x [],j)):=E.out.trans (AF (by first | decide | simp));clear E;go_wp2_with fail;refine(dk _ 61 _).mono ?_;rintro e a6 ⟨rfl,S⟩;rw[S];clear S a6;go_wp2;obtain⟨f1,bp,bq,bs⟩:=bn.out;refine bodyPost_ret (v:=.agg (cells5 4 0 0 x V 0 K)) (results_cell_row rfl _ _ (w.1.size+1) _ _ _ _ rfl f1 underlying102 rfl (by kernel_rfl)) rfl ?_;rw[aj.out];exact⟨_,rfl,bp,bq,bs⟩
end
end
end Go.Proofs.YtngmnfdaedlodaaGreatDoor
