import Derived.Test.YtngmnfdaedlodaaGreatDoorB25
set_option maxRecDepth 100000
set_option maxHeartbeats 8000000
namespace Go.Proofs.YtngmnfdaedlodaaGreatDoor
open Go.Proofs.Tryz
open Option renaming none->I,some->C
open Go.Value renaming int->U,slice->O,pointer->mE
open Go.IntKind renaming i64->Y
open Go.Obj renaming cells->F
open Go.RowKit renaming Hid->R
open Go renaming World->N
open Except renaming error->qx
open Go.Proofs.Tryz renaming prog->AW
variable{B:Nat}{W w:N}
section
open Go.RowKit
section
variable {P:Program} {Q:Exit->Act->N->Prop}
def uO(Q:Exit->Act->N->Prop):Exit->Act->N->Prop
 |.panic _,_,_=>False
 |e,a,w=>Q e a w
theorem kh(a:Act)(w:N):uO Q .normal a w=Q .normal a w:=rfl
theorem qH{c:Code}{a:Act}(h:c.wp P (uO Q) a w):c.wp P Q a w:=Code.wp_mono (fun e a w o=>by cases e <;> first | exact o | exact o.elim) h
end
def vg(w:N)(r:Except Nat Fr)(e:Ending)(w':N):Prop:=match r with
 |qx k=>e=.returned (.tuple #[.agg #[U Y 0,U Y 0,O I 0 0,U Y 0,U Y 0,U Y 0,O I 0 0,U Y 0,U Y 0,U Y 0,O I 0 0],U Y (k:Nat)])∧Below w.1.size w w'
 |.ok f=>∃u,e=.returned (.tuple #[.agg u,U Y 0])∧eM w' w.1.size u f∧Below w.1.size w w'
theorem pY{l:L8}{e:Nat}(h:Fr.open_ l=qx e):e≠0:=by
 unfold Fr.open_ at h;split at h
 ·injection h with h;omega
 ·split at h
  ·next h1=>injection h with h;rw[<-h];exact h1
  ·split at h
   ·injection h with h;omega
   ·split at h
    ·cases h
    ·injection h with h;omega
theorem uk{f:Fr}{sp:OA}{A:Nat}(M:Fr.norm f=f)(D:f.kind=1)(S:dt W B #[O sp f.cols.length A] f.cols)(L:w.1.size<=B):eM W w.1.size #[U Y 1,U Y f.number,O sp f.cols.length A,U Y 0,U Y 0,U Y 0,O I 0 0,U Y 0,U Y 0,U Y 0,O I 0 0] f:=by
 have e:f={ Fr0 with kind:=1,number:=f.number,cols:=f.cols.map Col.fix }:=by
  have:=M;unfold Fr.norm at this;rw[AK D] at this;exact this.symm
 have E:f.seq=0:=by rw[e];rfl
 have J:f.first=0:=by rw[e];rfl
 have K:f.rows=0:=by rw[e];rfl
 have o:f.block=[]:=by rw[e];rfl
 have y:f.index=jV:=by rw[e];rfl
 refine⟨sp,A,I,0,I,0,?_,jh S L,?_,?_,?_,?_⟩
 ·unfold aG;rw[D,E,J,K,o,y];rfl
 ·rw[o];exact bF _ _
 ·rw[o];decide
 ·rw[y];exact fe _ _
 ·rw[y];decide
theorem um{f:Fr}{y:OA}{o:Nat}(K:Fr.norm f=f)(E:f.kind=2)(M:Has W B (O y f.block.length o) f.block)(L:f.block.length<=2200)(J:w.1.size<=B):eM W w.1.size #[U Y 2,U Y f.number,O I 0 0,U Y f.seq,U Y f.first,U Y f.rows,O y f.block.length o,U Y 0,U Y 0,U Y 0,O I 0 0] f:=by
 have e:f={ Fr0 with kind:=2,number:=f.number,seq:=f.seq,first:=f.first,rows:=f.rows,block:=f.block }:=by
  have:=K;unfold Fr.norm at this;rw[AJ (by omega),AK E] at this;exact this.symm
 have D:f.cols=[]:=by rw[e];rfl
 have A:f.index=jV:=by rw[e];rfl
 refine⟨I,0,y,o,I,0,?_,?_,M.lower J,L,?_,?_⟩
 ·unfold aG;rw[E,D,A];rfl
 ·rw[D];exact mq _ _
 ·rw[A];exact fe _ _
 ·rw[A];decide
theorem ul{f:Fr}{A:OA}{y:Nat}(V:Fr.norm f=f)(M:f.kind=3)(Z:bK W B (O A f.index.entries.length y) f.index.entries)(X:f.index.entries.length<=64)(S:w.1.size<=B):eM W w.1.size #[U Y 3,U Y 0,O I 0 0,U Y 0,U Y 0,U Y 0,O I 0 0,U Y f.index.at_,U Y f.index.frames,U Y f.index.rows,O A f.index.entries.length y] f:=by
 have e:f={ Fr0 with kind:=3,index:=f.index }:=by
  have:=V;unfold Fr.norm at this;rw[AJ (by omega),AJ (by omega)] at this;exact this.symm
 have E:f.number=0:=by rw[e];rfl
 have J:f.seq=0:=by rw[e];rfl
 have K:f.first=0:=by rw[e];rfl
 have L:f.rows=0:=by rw[e];rfl
 have o:f.block=[]:=by rw[e];rfl
 have D:f.cols=[]:=by rw[e];rfl
 refine⟨I,0,I,0,A,y,?_,?_,?_,?_,Z.low S,X⟩
 ·unfold aG;rw[M,E,J,K,L,o,D];rfl
 ·rw[D];exact mq _ _
 ·rw[o];exact bF _ _
 ·rw[o];decide
theorem oN{w4:N}(K:bu w w4 0)(c0 c1 c2 c3 c4 y A D E J o:Value):((((((((((((w4.setCell ⟨w.1.size,0,I⟩ (c0)).setCell ⟨w.1.size,1,I⟩ (c1)).setCell ⟨w.1.size,2,I⟩ (c2)).setCell ⟨w.1.size,3,I⟩ (c3)).setCell ⟨w.1.size,4,I⟩ (c4)).setCell ⟨w.1.size,5,I⟩ (y)).setCell ⟨w.1.size,6,I⟩ (A)).setCell ⟨w.1.size,7,I⟩ (D)).setCell ⟨w.1.size,8,I⟩ (E)).setCell ⟨w.1.size,9,I⟩ (J)).setCell ⟨w.1.size,10,I⟩ (o)).setCell ⟨w.1.size+1,0,I⟩ (U Y 0)).1[w.1.size]?=C (F #[c0,c1,c2,c3,c4,y,A,D,E,J,o] 52 (0,0))∧((((((((((((w4.setCell ⟨w.1.size,0,I⟩ (c0)).setCell ⟨w.1.size,1,I⟩ (c1)).setCell ⟨w.1.size,2,I⟩ (c2)).setCell ⟨w.1.size,3,I⟩ (c3)).setCell ⟨w.1.size,4,I⟩ (c4)).setCell ⟨w.1.size,5,I⟩ (y)).setCell ⟨w.1.size,6,I⟩ (A)).setCell ⟨w.1.size,7,I⟩ (D)).setCell ⟨w.1.size,8,I⟩ (E)).setCell ⟨w.1.size,9,I⟩ (J)).setCell ⟨w.1.size,10,I⟩ (o)).setCell ⟨w.1.size+1,0,I⟩ (U Y 0)).cell? ⟨w.1.size+1,0,I⟩=C (U Y 0)∧Aside (fun i=>i=w.1.size∨i=w.1.size+1) w4 ((((((((((((w4.setCell ⟨w.1.size,0,I⟩ (c0)).setCell ⟨w.1.size,1,I⟩ (c1)).setCell ⟨w.1.size,2,I⟩ (c2)).setCell ⟨w.1.size,3,I⟩ (c3)).setCell ⟨w.1.size,4,I⟩ (c4)).setCell ⟨w.1.size,5,I⟩ (y)).setCell ⟨w.1.size,6,I⟩ (A)).setCell ⟨w.1.size,7,I⟩ (D)).setCell ⟨w.1.size,8,I⟩ (E)).setCell ⟨w.1.size,9,I⟩ (J)).setCell ⟨w.1.size,10,I⟩ (o)).setCell ⟨w.1.size+1,0,I⟩ (U Y 0))∧Below w.1.size w ((((((((((((w4.setCell ⟨w.1.size,0,I⟩ (c0)).setCell ⟨w.1.size,1,I⟩ (c1)).setCell ⟨w.1.size,2,I⟩ (c2)).setCell ⟨w.1.size,3,I⟩ (c3)).setCell ⟨w.1.size,4,I⟩ (c4)).setCell ⟨w.1.size,5,I⟩ (y)).setCell ⟨w.1.size,6,I⟩ (A)).setCell ⟨w.1.size,7,I⟩ (D)).setCell ⟨w.1.size,8,I⟩ (E)).setCell ⟨w.1.size,9,I⟩ (J)).setCell ⟨w.1.size,10,I⟩ (o)).setCell ⟨w.1.size+1,0,I⟩ (U Y 0)):=by
 have ab:=K.size;have L:Aside (fun i=>i=w.1.size) w4 (((((((((((w4.setCell ⟨w.1.size,0,I⟩ (c0)).setCell ⟨w.1.size,1,I⟩ (c1)).setCell ⟨w.1.size,2,I⟩ (c2)).setCell ⟨w.1.size,3,I⟩ (c3)).setCell ⟨w.1.size,4,I⟩ (c4)).setCell ⟨w.1.size,5,I⟩ (y)).setCell ⟨w.1.size,6,I⟩ (A)).setCell ⟨w.1.size,7,I⟩ (D)).setCell ⟨w.1.size,8,I⟩ (E)).setCell ⟨w.1.size,9,I⟩ (J)).setCell ⟨w.1.size,10,I⟩ (o)):=de w4 w.1.size c0 c1 c2 c3 c4 y A D E J o;have V:(((((((((((w4.setCell ⟨w.1.size,0,I⟩ (c0)).setCell ⟨w.1.size,1,I⟩ (c1)).setCell ⟨w.1.size,2,I⟩ (c2)).setCell ⟨w.1.size,3,I⟩ (c3)).setCell ⟨w.1.size,4,I⟩ (c4)).setCell ⟨w.1.size,5,I⟩ (y)).setCell ⟨w.1.size,6,I⟩ (A)).setCell ⟨w.1.size,7,I⟩ (D)).setCell ⟨w.1.size,8,I⟩ (E)).setCell ⟨w.1.size,9,I⟩ (J)).setCell ⟨w.1.size,10,I⟩ (o)).1[w.1.size]?=C (F #[c0,c1,c2,c3,c4,y,A,D,E,J,o] 52 (0,0)):=dO K.b0 c0 c1 c2 c3 c4 y A D E J o;have X:(((((((((((w4.setCell ⟨w.1.size,0,I⟩ (c0)).setCell ⟨w.1.size,1,I⟩ (c1)).setCell ⟨w.1.size,2,I⟩ (c2)).setCell ⟨w.1.size,3,I⟩ (c3)).setCell ⟨w.1.size,4,I⟩ (c4)).setCell ⟨w.1.size,5,I⟩ (y)).setCell ⟨w.1.size,6,I⟩ (A)).setCell ⟨w.1.size,7,I⟩ (D)).setCell ⟨w.1.size,8,I⟩ (E)).setCell ⟨w.1.size,9,I⟩ (J)).setCell ⟨w.1.size,10,I⟩ (o)).1[w.1.size+1]?=C (F #[U Y 0] 25 (0,0)):=(L.block _ (ao K.b1) (by omega)).trans K.b1
 have M:=al (((((((((((w4.setCell ⟨w.1.size,0,I⟩ (c0)).setCell ⟨w.1.size,1,I⟩ (c1)).setCell ⟨w.1.size,2,I⟩ (c2)).setCell ⟨w.1.size,3,I⟩ (c3)).setCell ⟨w.1.size,4,I⟩ (c4)).setCell ⟨w.1.size,5,I⟩ (y)).setCell ⟨w.1.size,6,I⟩ (A)).setCell ⟨w.1.size,7,I⟩ (D)).setCell ⟨w.1.size,8,I⟩ (E)).setCell ⟨w.1.size,9,I⟩ (J)).setCell ⟨w.1.size,10,I⟩ (o)) (w.1.size+1) 0 (U Y 0);have S:=(L.mono (G:=fun i=>i=w.1.size∨i=w.1.size+1) (fun _ _ h=>.inl h)).trans M (fun _ _ h=>.inr h);exact⟨(M.block _ (ao V) (by omega)).trans V,aa (an X 0 _) 0,S,K.below.trans (S.below (by omega) (fun k Z=>by omega))⟩
end
section
open Go.RowKit
theorem nA(y:Nat)(p:OA)(c:Nat)(l:L8)(a6:l.length<=140737488351232)(a7:l.length<=c)(w:N)(aw:Hv w)(h:At w p l)(M:Fr.open_ l=qx y):
  Calls AW 33 #[O p l.length c] w (vg w (Fr.dec l)):=by
 have bc:∀(fn:Fn) (first cap:AV) (w:N),(Instr.makeFunc fn first cap).run AW w=.ok (.func fn first cap) w:=fun _ _ _ _=>rfl;obtain⟨r,L⟩:∃r,r=Fr.dec l:=⟨_,rfl⟩
 have ah:R (r=match Fr.open_ l with
  |qx e=>qx e
  |.ok b=>Fr.rdF (b.headD 0).toNat b.tail):=L
 have a0:=gQq L;rw[<-L];obtain⟨E,ab⟩:∃E,E=(w.alloc (F #[U Y 0,U Y 0,O I 0 0,U Y 0,U Y 0,U Y 0,O I 0 0,U Y 0,U Y 0,U Y 0,O I 0 0] 52)).alloc (F #[U Y 0] 25):=⟨_,rfl⟩;have K:R (bu w E 0):=by rw[ab];exact fG w
 have aj:R ((w.alloc (F #[U Y 0,U Y 0,O I 0 0,U Y 0,U Y 0,U Y 0,O I 0 0,U Y 0,U Y 0,U Y 0,O I 0 0] 52)).alloc (F #[U Y 0] 25)=E):=by rw[ab];exact rfl
 have S:=gQq (xf p c l a6 a7 E (aw.next K.out.below) (h.on K.out.below));clear L ab aw h;rw[M] at S;have a8:=pY M;have a9:((y:Int) != 0)=true:=by rw[bne_iff_ne];omega
 have a4:R (r=qx y):=by show _=_;rw[ah.out,M]
 clear M ah a8 a0
 go_enter_defers func33,ntmps33
 go_wp2_with fail;rw[aj.out];refine S.out.mono ?_;rintro e w1 ⟨rfl,hb⟩;have o:=K.out.on hb;have bi:w1.cell? ⟨w.1.size,0,I⟩=C (U Y 0):=aa o.b0 0;have bT:=ac o.b0 0;have bj:w1.cell? ⟨w.1.size,1,I⟩=C (U Y 0):=aa o.b0 1;have bX:=ac o.b0 1;have bl:w1.cell? ⟨w.1.size,2,I⟩=C (O I 0 0):=aa o.b0 2;have b3:=ac o.b0 2;have bn:w1.cell? ⟨w.1.size,3,I⟩=C (U Y 0):=aa o.b0 3;have b4:=ac o.b0 3;have bp:w1.cell? ⟨w.1.size,4,I⟩=C (U Y 0):=aa o.b0 4;have b5:=ac o.b0 4;have bq:w1.cell? ⟨w.1.size,5,I⟩=C (U Y 0):=aa o.b0 5;have b6:=ac o.b0 5;have bs:w1.cell? ⟨w.1.size,6,I⟩=C (O I 0 0):=aa o.b0 6;have b7:=ac o.b0 6;have bv:w1.cell? ⟨w.1.size,7,I⟩=C (U Y 0):=aa o.b0 7;have b8:=ac o.b0 7;have bN:w1.cell? ⟨w.1.size,8,I⟩=C (U Y 0):=aa o.b0 8;have b9:=ac o.b0 8;have bO:w1.cell? ⟨w.1.size,9,I⟩=C (U Y 0):=aa o.b0 9;have cb:=ac o.b0 9;have bk:w1.cell? ⟨w.1.size,10,I⟩=C (O I 0 0):=aa o.b0 10;have b2:=ac o.b0 10;have cc:w1.cell? ⟨w.1.size+1,0,I⟩=C (U Y 0):=aa o.b1 0;have cd:=ac o.b1 0;have D:=o.setE y
 obtain⟨A,J⟩:∃A,A=(((((((((((((w1.setCell ⟨w.1.size+1,0,I⟩ (U Y y)).setCell ⟨w.1.size,0,I⟩ (U Y 0)).setCell ⟨w.1.size,1,I⟩ (U Y 0)).setCell ⟨w.1.size,2,I⟩ (O I 0 0)).setCell ⟨w.1.size,3,I⟩ (U Y 0)).setCell ⟨w.1.size,4,I⟩ (U Y 0)).setCell ⟨w.1.size,5,I⟩ (U Y 0)).setCell ⟨w.1.size,6,I⟩ (O I 0 0)).setCell ⟨w.1.size,7,I⟩ (U Y 0)).setCell ⟨w.1.size,8,I⟩ (U Y 0)).setCell ⟨w.1.size,9,I⟩ (U Y 0)).setCell ⟨w.1.size,10,I⟩ (O I 0 0)).setCell ⟨w.1.size+1,0,I⟩ (U Y y)).drew:=⟨_,rfl⟩;have V:Aside (fun i=>i=w.1.size) (w1.setCell ⟨w.1.size+1,0,I⟩ (U Y y)) ((((((((((((w1.setCell ⟨w.1.size+1,0,I⟩ (U Y y)).setCell ⟨w.1.size,0,I⟩ (U Y 0)).setCell ⟨w.1.size,1,I⟩ (U Y 0)).setCell ⟨w.1.size,2,I⟩ (O I 0 0)).setCell ⟨w.1.size,3,I⟩ (U Y 0)).setCell ⟨w.1.size,4,I⟩ (U Y 0)).setCell ⟨w.1.size,5,I⟩ (U Y 0)).setCell ⟨w.1.size,6,I⟩ (O I 0 0)).setCell ⟨w.1.size,7,I⟩ (U Y 0)).setCell ⟨w.1.size,8,I⟩ (U Y 0)).setCell ⟨w.1.size,9,I⟩ (U Y 0)).setCell ⟨w.1.size,10,I⟩ (O I 0 0)):=de _ w.1.size (U Y 0) (U Y 0) (O I 0 0) (U Y 0) (U Y 0) (U Y 0) (O I 0 0) (U Y 0) (U Y 0) (U Y 0) (O I 0 0)
 have Z:((((((((((((w1.setCell ⟨w.1.size+1,0,I⟩ (U Y y)).setCell ⟨w.1.size,0,I⟩ (U Y 0)).setCell ⟨w.1.size,1,I⟩ (U Y 0)).setCell ⟨w.1.size,2,I⟩ (O I 0 0)).setCell ⟨w.1.size,3,I⟩ (U Y 0)).setCell ⟨w.1.size,4,I⟩ (U Y 0)).setCell ⟨w.1.size,5,I⟩ (U Y 0)).setCell ⟨w.1.size,6,I⟩ (O I 0 0)).setCell ⟨w.1.size,7,I⟩ (U Y 0)).setCell ⟨w.1.size,8,I⟩ (U Y 0)).setCell ⟨w.1.size,9,I⟩ (U Y 0)).setCell ⟨w.1.size,10,I⟩ (O I 0 0)).1[w.1.size]?=C (F #[U Y 0,U Y 0,O I 0 0,U Y 0,U Y 0,U Y 0,O I 0 0,U Y 0,U Y 0,U Y 0,O I 0 0] 52 (0,0)):=dO D.b0 (U Y 0) (U Y 0) (O I 0 0) (U Y 0) (U Y 0) (U Y 0) (O I 0 0) (U Y 0) (U Y 0) (U Y 0) (O I 0 0);have ak:((((((((((((w1.setCell ⟨w.1.size+1,0,I⟩ (U Y y)).setCell ⟨w.1.size,0,I⟩ (U Y 0)).setCell ⟨w.1.size,1,I⟩ (U Y 0)).setCell ⟨w.1.size,2,I⟩ (O I 0 0)).setCell ⟨w.1.size,3,I⟩ (U Y 0)).setCell ⟨w.1.size,4,I⟩ (U Y 0)).setCell ⟨w.1.size,5,I⟩ (U Y 0)).setCell ⟨w.1.size,6,I⟩ (O I 0 0)).setCell ⟨w.1.size,7,I⟩ (U Y 0)).setCell ⟨w.1.size,8,I⟩ (U Y 0)).setCell ⟨w.1.size,9,I⟩ (U Y 0)).setCell ⟨w.1.size,10,I⟩ (O I 0 0)).1[w.1.size+1]?=C (F #[U Y y] 25 (0,0)):=(V.block _ (ao D.b1) (by omega)).trans D.b1
 have X:=al ((((((((((((w1.setCell ⟨w.1.size+1,0,I⟩ (U Y y)).setCell ⟨w.1.size,0,I⟩ (U Y 0)).setCell ⟨w.1.size,1,I⟩ (U Y 0)).setCell ⟨w.1.size,2,I⟩ (O I 0 0)).setCell ⟨w.1.size,3,I⟩ (U Y 0)).setCell ⟨w.1.size,4,I⟩ (U Y 0)).setCell ⟨w.1.size,5,I⟩ (U Y 0)).setCell ⟨w.1.size,6,I⟩ (O I 0 0)).setCell ⟨w.1.size,7,I⟩ (U Y 0)).setCell ⟨w.1.size,8,I⟩ (U Y 0)).setCell ⟨w.1.size,9,I⟩ (U Y 0)).setCell ⟨w.1.size,10,I⟩ (O I 0 0)) (w.1.size+1) 0 (U Y y);have a1:R (A.1[w.1.size]?=C (F #[U Y 0,U Y 0,O I 0 0,U Y 0,U Y 0,U Y 0,O I 0 0,U Y 0,U Y 0,U Y 0,O I 0 0] 52 (0,0))):=by
  show _=_;rw[J,dR];exact(X.block _ (ao Z) (by omega)).trans Z
 have a2:R (A.cell? ⟨w.1.size+1,0,I⟩=C (U Y y)):=by
  have:A.1[w.1.size+1]?=C (F #[U Y y] 25 (0,0)):=by rw[J,dR];exact an ak 0 _
  exact aa this 0
 have a3:R (Below w.1.size w A):=by
  have be:=D.size;rw[J];exact(D.below.trans (((V.mono (G:=fun i=>i=w.1.size∨i=w.1.size+1) (fun _ _ h=>.inl h)).trans X (fun _ _ h=>.inr h)).below (by omega) (fun k bb=>by omega))).drew
 have a5:R ((((((((((((((w1.setCell ⟨w.1.size+1,0,I⟩ (U Y y)).setCell ⟨w.1.size,0,I⟩ (U Y 0)).setCell ⟨w.1.size,1,I⟩ (U Y 0)).setCell ⟨w.1.size,2,I⟩ (O I 0 0)).setCell ⟨w.1.size,3,I⟩ (U Y 0)).setCell ⟨w.1.size,4,I⟩ (U Y 0)).setCell ⟨w.1.size,5,I⟩ (U Y 0)).setCell ⟨w.1.size,6,I⟩ (O I 0 0)).setCell ⟨w.1.size,7,I⟩ (U Y 0)).setCell ⟨w.1.size,8,I⟩ (U Y 0)).setCell ⟨w.1.size,9,I⟩ (U Y 0)).setCell ⟨w.1.size,10,I⟩ (O I 0 0)).setCell ⟨w.1.size+1,0,I⟩ (U Y y)).drew=A):=by rw[J];exact rfl
 clear o D hb J V Z ak X S K aj;go_wp2_with fail;refine qH ?_;go_region_law (fail)
 all_goals
  rw[kh];rw[a5.out];go_wp2;refine⟨_,bw rfl _ _ w.1.size (w.1.size+1) _ #[U Y 0,U Y 0,O I 0 0,U Y 0,U Y 0,U Y 0,O I 0 0,U Y 0,U Y 0,U Y 0,O I 0 0] _ _ (y:Int) rfl a1.out underlying52 rfl (by kernel_rfl) rfl a2.out underlying25,?_⟩;rw[a4.out];exact⟨rfl,a3.out⟩
end
section
open Go.RowKit
theorem po(b:L8)(p:OA)(c:Nat)(l:L8)(ev:l.length<=140737488351232)(ew:l.length<=c)(w:N)(bn:Hv w)(h:At w p l)(bp:Fr.open_ l=.ok b):
  Calls AW 33 #[O p l.length c] w (vg w (Fr.dec l)):=by
 have e6:∀(fn:Fn) (first cap:AV) (w:N),(Instr.makeFunc fn first cap).run AW w=.ok (.func fn first cap) w:=fun _ _ _ _=>rfl;obtain⟨r,bl⟩:∃r,r=Fr.dec l:=⟨_,rfl⟩
 have cb:R (r=match Fr.open_ l with
  |qx e=>qx e
  |.ok b=>Fr.rdF (b.headD 0).toNat b.tail):=bl
 have e1:=gQq bl;rw[<-bl];obtain⟨a6,bN⟩:∃a6,a6=(w.alloc (F #[U Y 0,U Y 0,O I 0 0,U Y 0,U Y 0,U Y 0,O I 0 0,U Y 0,U Y 0,U Y 0,O I 0 0] 52)).alloc (F #[U Y 0] 25):=⟨_,rfl⟩;have bi:R (bu w a6 0):=by rw[bN];exact fG w
 have eg:R ((w.alloc (F #[U Y 0,U Y 0,O I 0 0,U Y 0,U Y 0,U Y 0,O I 0 0,U Y 0,U Y 0,U Y 0,O I 0 0] 52)).alloc (F #[U Y 0] 25)=a6):=by rw[bN];exact rfl
 have bv:=gQq (xf p c l ev ew a6 (bn.next bi.out.below) (h.on bi.out.below))
 -- a panic that goes through the door
 have b8:R (∀(ab:Nat) (D:N) (y:Int),r=qx ab->bu w D y->∀(tmps:AV) (Z:List Deferred),tmps.getD 2 undef=mE (C ⟨w.1.size,0,I⟩)->tmps.getD 3 undef=mE (C ⟨w.1.size+1,0,I⟩)->Z=[{ target:=.fn (.func 51) #[mE (C ⟨w.1.size,0,I⟩),mE (C ⟨w.1.size+1,0,I⟩)],args:=#[] }]->bodyPostD AW Tryz.f33 (vg w r) (Exit.panic (dl ab)) { tmps:=tmps,defers:=Z } D):=by
  intro ab D y ah bj tmps Z a7 a8 b2;subst b2;refine leaves_cons (f:=51) (args:=#[mE (C ⟨w.1.size,0,I⟩),mE (C ⟨w.1.size+1,0,I⟩)]) (by simp) (by simp[go_sem]) ?_;refine(gF w.1.size (w.1.size+1) ab y D bj.b0 bj.b1 (by omega)).mono ?_;rintro e eL e0 ⟨rfl,rfl,aj,ak,aw⟩;refine⟨_,bw rfl tmps _ w.1.size (w.1.size+1) _ #[U Y 0,U Y 0,O I 0 0,U Y 0,U Y 0,U Y 0,O I 0 0,U Y 0,U Y 0,U Y 0,O I 0 0] _ _ (ab:Int) a7 aj underlying52 rfl (by kernel_rfl) a8 (aa ak 0) underlying25,?_⟩;rw[ah];exact⟨rfl,bj.below.trans (aw.below (by have:=bj.size;omega) (fun k hk=>by omega))⟩
 -- the way out without one
 have bs:R (∀(a0:N) (u:AV) (f:Fr),r=.ok f->a0.1[w.1.size]?=C (F u 52 (0,0))->u.size=11->a0.cell? ⟨w.1.size+1,0,I⟩=C (U Y 0)->eM a0 w.1.size u f->Below w.1.size w a0->∀(tmps:AV) (Z:List Deferred),tmps.getD 2 undef=mE (C ⟨w.1.size,0,I⟩)->tmps.getD 3 undef=mE (C ⟨w.1.size+1,0,I⟩)->Z=[{ target:=.fn (.func 51) #[mE (C ⟨w.1.size,0,I⟩),mE (C ⟨w.1.size+1,0,I⟩)],args:=#[] }]->bodyPostD AW Tryz.f33 (vg w r) Exit.ret { tmps:=tmps,defers:=Z } a0):=by
  intro a0 u f ah eq eC en ep em tmps Z a7 a8 b2;subst b2;refine leaves_cons (f:=51) (args:=#[mE (C ⟨w.1.size,0,I⟩),mE (C ⟨w.1.size+1,0,I⟩)]) (by simp) (by simp[go_sem]) ?_;refine(lQ ⟨w.1.size,0,I⟩ ⟨w.1.size+1,0,I⟩ _).mono ?_;rintro e eL e0 ⟨rfl,rfl,rfl⟩;refine⟨_,bw rfl tmps _ w.1.size (w.1.size+1) _ u _ _ 0 a7 eq underlying52 rfl (by rw[eC];kernel_rfl) a8 en underlying25,?_⟩;rw[ah];exact⟨u,rfl,ep,em⟩
 clear bl bN bn h;rw[bp] at bv;obtain⟨e5,cy,cs⟩:=Fr.open_ok bp;obtain⟨x,t,rfl⟩:∃x t,b=x::t:=by
  cases b with
  |nil=>simp at cs
  |cons x t=>exact⟨x,t,rfl⟩
 have a5:R (r=Fr.rdF x.toNat t):=by show _=_;rw[cb.out,bp];rfl
 have ez:t.length<=2200:=by
  have V:=(Cob.stuff_length (Fr.check (x::t))).1;rw[cy,Fr.check_length,Aq] at V;omega
 have fc:=x.toNat_lt;clear bp cb cy cs
 go_enter_defers func33,ntmps33
 go_wp2_with fail;rw[eg.out];refine bv.out.mono ?_;rintro e w1 ⟨g,J,cap,rfl,bT,ct,e4,hb⟩;have a9:=bi.out.on hb;have e8:=a9.size;have fq:w1.cell? ⟨w.1.size+1,0,I⟩=C (U Y 0):=aa a9.b1 0;have fs:=ac a9.b1 0;have cq:=a9.setE 0;have e9:=bi.out.size;obtain⟨e2,e3,b4,cv,cu⟩:=aO bT (by simp);injection b4 with b4;injection b4 with hgo1 hgo2;subst hgo1 hgo2;have z0:w1.cell? ⟨g,J,I⟩=C (U .u8 (x.toNat:Int)):=cu 0 (by simp);rw[Aq] at ct;have fo:∀w',(Instr.slice 40 (O (C ⟨g,J,I⟩) (t.length+1) cap) (C (U Y 1)) I I).run AW w'=.ok (O (dn (C ⟨g,J,I⟩) 1 cap) t.length (cap-1)) w':=fun w'=>by
  have:=dC (C ⟨g,J,I⟩) (t.length+1) cap 1 (by omega) w';rw[Nat.add_sub_cancel] at this;exact this
 obtain⟨D,bb⟩:∃D,D=(w1.setCell ⟨w.1.size+1,0,I⟩ (U Y 0)).alloc (F #[O (dn (C ⟨g,J,I⟩) 1 cap) t.length (cap-1)] 112):=⟨_,rfl⟩;have cx:(w1.setCell ⟨w.1.size+1,0,I⟩ (U Y 0)).1.size=w1.1.size:=by simp[World.setCell]
 have bX:Below (w1.setCell ⟨w.1.size+1,0,I⟩ (U Y 0)).1.size (w1.setCell ⟨w.1.size+1,0,I⟩ (U Y 0)) D:=by rw[bb];exact gQy
 have b9:R (bu w D 0):=cq.on bX;have fi:D.1.size=w1.1.size+1:=by rw[bb];simp[cx]
 have bO:Aside (fun i=>i=w.1.size+1) w1 D:=by
  have V:=al w1 (w.1.size+1) 0 (U Y 0);exact V.trans (af bX (fun i=>i=w.1.size+1)) (fun _ _ h=>h)
 have z2:D.cell? ⟨g,J,I⟩=C (U .u8 (x.toNat:Int)):=(bO.cell (p:=⟨g,J,I⟩) cv (by show ¬g=_;omega)).trans z0;have cr:At D (C ⟨g,J,I⟩) (x::t):=bT.aside bO (fun b J A=>by injection A with A;injection A with hp1 _;omega);have cc:R (cm D w1.1.size w1.1.size t):=by
  refine⟨⟨dn (C ⟨g,J,I⟩) 1 cap,cap-1,?_,?_,by omega,fun _=>fV (fun a L=>by injection L with L;rw[<-L];exact cv)⟩,ez,gQx⟩
  ·rw[bb];have:=am (w1.setCell ⟨w.1.size+1,0,I⟩ (U Y 0)) (F #[O (dn (C ⟨g,J,I⟩) 1 cap) t.length (cap-1)] 112);rw[cx] at this;exact this
  ·have:=cr.cut 1 cap (by simpa using ct);simpa using this
 have be:=gQq (wz x.toNat t w1.1.size w1.1.size D cc.out);obtain⟨b6,b5⟩:∃b6,b6=Fr.rdF x.toNat t:=⟨_,rfl⟩;rw[<-b5] at be a5;have cd:=gQq b5;have el:R ((w1.setCell ⟨w.1.size+1,0,I⟩ (U Y 0)).alloc (F #[O (dn (C ⟨g,J,I⟩) 1 cap) t.length (cap-1)] 112)=D):=by rw[bb];exact rfl
 rw[Aq];clear a9 cq hb bT cu cr bO bX bb bv b5;go_wp2_with fail;rw[el.out];refine be.out.mono ?_;intro e bq bk;cases b6 with
 |error ab=>
  obtain⟨ah,L⟩:=bk.bad;subst ah;have a2:=gQq (b9.out.step L (by omega));clear bk L be;go_wp2;exact b8.out ab bq _ a5.out a2.out _ _ rfl rfl rfl
 |ok f=>
  obtain⟨v,ah,bn,L⟩:=bk.good;subst ah;obtain⟨-,-,E,M,K,-⟩:=Fr.rdF_ok cd.out.symm;have a2:=gQq (b9.out.step L (by omega));have e7:=L.size;clear bk L be cd b8 cc;rcases bn with ⟨hk,c6,rfl,A⟩ | ⟨hk,c6,rfl,A⟩ | ⟨hk,c6,rfl,A⟩
  ·obtain⟨sp,c5,rfl,A⟩:=A;have X:=gQq A;have S:=gQq (rS f.number sp f.cols.length c5 bq);have a4:=gQq (And.intro hk (And.intro E (And.intro M K)));clear A hk E M K;go_wp2_with fail;refine S.out.mono ?_;rintro e w4 ⟨rfl,hb⟩;have o:=a2.out.on hb;have a1:=gQq hb;have cw:=hb.size;have c7:w4.cell? ⟨w.1.size,0,I⟩=C (U Y 0):=aa o.b0 0;have d2:=ac o.b0 0;have c8:w4.cell? ⟨w.1.size,1,I⟩=C (U Y 0):=aa o.b0 1;have d3:=ac o.b0 1;have df:w4.cell? ⟨w.1.size,2,I⟩=C (O I 0 0):=aa o.b0 2;have d5:=ac o.b0 2;have dj:w4.cell? ⟨w.1.size,3,I⟩=C (U Y 0):=aa o.b0 3;have d6:=ac o.b0 3;have dr:w4.cell? ⟨w.1.size,4,I⟩=C (U Y 0):=aa o.b0 4;have d7:=ac o.b0 4;have ds:w4.cell? ⟨w.1.size,5,I⟩=C (U Y 0):=aa o.b0 5;have d8:=ac o.b0 5;have du:w4.cell? ⟨w.1.size,6,I⟩=C (O I 0 0):=aa o.b0 6;have d9:=ac o.b0 6;have dv:w4.cell? ⟨w.1.size,7,I⟩=C (U Y 0):=aa o.b0 7;have ea:=ac o.b0 7;have d0:w4.cell? ⟨w.1.size,8,I⟩=C (U Y 0):=aa o.b0 8;have eb:=ac o.b0 8;have d1:w4.cell? ⟨w.1.size,9,I⟩=C (U Y 0):=aa o.b0 9;have ec:=ac o.b0 9;have c9:w4.cell? ⟨w.1.size,10,I⟩=C (O I 0 0):=aa o.b0 10;have d4:=ac o.b0 10;have ck:w4.cell? ⟨w.1.size+1,0,I⟩=C (U Y 0):=aa o.b1 0;have co:=ac o.b1 0;have a3:=gQq (oN o (U Y 1) (U Y f.number) (O sp f.cols.length c5) (U Y 0) (U Y 0) (U Y 0) (O I 0 0) (U Y 0) (U Y 0) (U Y 0) (O I 0 0))
   clear hb o S;go_wp2;obtain⟨aj,ak,aw,bc⟩:=a3.out;obtain⟨hk,E,M,K⟩:=a4.out;exact bs.out _ _ f a5.out aj rfl ak (uk K hk (gV (gV X.out (af a1.out (fun i=>i=w.1.size∨i=w.1.size+1)) (fun _ V a7 a8=>by omega)) aw (fun _ V a7 a8=>by omega)) (by omega)) bc _ _ rfl rfl rfl
  ·obtain⟨cj,ci,rfl,A⟩:=A;have X:=gQq A;have S:=gQq (rR f.number f.seq f.first f.rows cj f.block.length ci bq);have a4:=gQq (And.intro hk (And.intro E (And.intro M K)));clear A hk E M K;go_wp2_with fail;refine S.out.mono ?_;rintro e w4 ⟨rfl,hb⟩;have o:=a2.out.on hb;have a1:=gQq hb;have cw:=hb.size;have c7:w4.cell? ⟨w.1.size,0,I⟩=C (U Y 0):=aa o.b0 0;have d2:=ac o.b0 0;have c8:w4.cell? ⟨w.1.size,1,I⟩=C (U Y 0):=aa o.b0 1;have d3:=ac o.b0 1;have df:w4.cell? ⟨w.1.size,2,I⟩=C (O I 0 0):=aa o.b0 2;have d5:=ac o.b0 2;have dj:w4.cell? ⟨w.1.size,3,I⟩=C (U Y 0):=aa o.b0 3;have d6:=ac o.b0 3;have dr:w4.cell? ⟨w.1.size,4,I⟩=C (U Y 0):=aa o.b0 4;have d7:=ac o.b0 4;have ds:w4.cell? ⟨w.1.size,5,I⟩=C (U Y 0):=aa o.b0 5;have d8:=ac o.b0 5;have du:w4.cell? ⟨w.1.size,6,I⟩=C (O I 0 0):=aa o.b0 6;have d9:=ac o.b0 6;have dv:w4.cell? ⟨w.1.size,7,I⟩=C (U Y 0):=aa o.b0 7;have ea:=ac o.b0 7;have d0:w4.cell? ⟨w.1.size,8,I⟩=C (U Y 0):=aa o.b0 8;have eb:=ac o.b0 8;have d1:w4.cell? ⟨w.1.size,9,I⟩=C (U Y 0):=aa o.b0 9;have ec:=ac o.b0 9;have c9:w4.cell? ⟨w.1.size,10,I⟩=C (O I 0 0):=aa o.b0 10;have d4:=ac o.b0 10;have ck:w4.cell? ⟨w.1.size+1,0,I⟩=C (U Y 0):=aa o.b1 0;have co:=ac o.b1 0
   have a3:=gQq (oN o (U Y 2) (U Y f.number) (O I 0 0) (U Y f.seq) (U Y f.first) (U Y f.rows) (O cj f.block.length ci) (U Y 0) (U Y 0) (U Y 0) (O I 0 0));clear hb o S;go_wp2;obtain⟨aj,ak,aw,bc⟩:=a3.out;obtain⟨hk,E,M,K⟩:=a4.out;have b3:f.block.length<=2200:=by
    have V:=congrArg List.length M;unfold Fr.fields at V;rw[AJ (by omega),AK hk,AU] at V;omega
   exact bs.out _ _ f a5.out aj rfl ak (um K hk ((X.out.on a1.out).aside aw (fun k hk er=>by have:=(X.out.lt k hk).1;omega)) b3 (by omega)) bc _ _ rfl rfl rfl
  ·obtain⟨cp,cn,rfl,A⟩:=A;have X:=gQq A;have S:=gQq (rQ f.index.at_ f.index.frames f.index.rows cp f.index.entries.length cn bq);have a4:=gQq (And.intro hk (And.intro E (And.intro M K)));clear A hk E M K;go_wp2_with fail;refine S.out.mono ?_;rintro e w4 ⟨rfl,hb⟩;have o:=a2.out.on hb;have a1:=gQq hb;have cw:=hb.size;have c7:w4.cell? ⟨w.1.size,0,I⟩=C (U Y 0):=aa o.b0 0;have d2:=ac o.b0 0;have c8:w4.cell? ⟨w.1.size,1,I⟩=C (U Y 0):=aa o.b0 1;have d3:=ac o.b0 1;have df:w4.cell? ⟨w.1.size,2,I⟩=C (O I 0 0):=aa o.b0 2;have d5:=ac o.b0 2;have dj:w4.cell? ⟨w.1.size,3,I⟩=C (U Y 0):=aa o.b0 3;have d6:=ac o.b0 3;have dr:w4.cell? ⟨w.1.size,4,I⟩=C (U Y 0):=aa o.b0 4;have d7:=ac o.b0 4;have ds:w4.cell? ⟨w.1.size,5,I⟩=C (U Y 0):=aa o.b0 5;have d8:=ac o.b0 5;have du:w4.cell? ⟨w.1.size,6,I⟩=C (O I 0 0):=aa o.b0 6;have d9:=ac o.b0 6;have dv:w4.cell? ⟨w.1.size,7,I⟩=C (U Y 0):=aa o.b0 7;have ea:=ac o.b0 7;have d0:w4.cell? ⟨w.1.size,8,I⟩=C (U Y 0):=aa o.b0 8;have eb:=ac o.b0 8;have d1:w4.cell? ⟨w.1.size,9,I⟩=C (U Y 0):=aa o.b0 9;have ec:=ac o.b0 9;have c9:w4.cell? ⟨w.1.size,10,I⟩=C (O I 0 0):=aa o.b0 10;have d4:=ac o.b0 10;have ck:w4.cell? ⟨w.1.size+1,0,I⟩=C (U Y 0):=aa o.b1 0;have co:=ac o.b1 0
   have a3:=gQq (oN o (U Y 3) (U Y 0) (O I 0 0) (U Y 0) (U Y 0) (U Y 0) (O I 0 0) (U Y f.index.at_) (U Y f.index.frames) (U Y f.index.rows) (O cp f.index.entries.length cn));clear hb o S;go_wp2;obtain⟨aj,ak,aw,bc⟩:=a3.out;obtain⟨hk,E,M,K⟩:=a4.out;have b3:f.index.entries.length<=64:=by
    unfold Fr.err0 at E;rw[AJ (by omega),AJ (by omega),AK hk] at E;unfold Fr.idxErr at E;split at E
    ·omega
    ·split at E
     ·omega
     ·omega
   exact bs.out _ _ f a5.out aj rfl ak (ul K hk ((X.out.on a1.out).aside aw (fun k hk er=>by have:=(X.out.lt k hk).1;omega)) b3 (by omega)) bc _ _ rfl rfl rfl
theorem qs(p:OA)(c:Nat)(l:L8)(o:l.length<=140737488351232)(y:l.length<=c)(w:N)(A:Hv w)(h:At w p l):
  Calls AW 33 #[O p l.length c] w (vg w (Fr.dec l)):=by
 cases mo:Fr.open_ l with
 |error er=>exact nA er p c l o y w A h mo
 |ok b=>exact po b p c l o y w A h mo
end
end Go.Proofs.YtngmnfdaedlodaaGreatDoor
