import Derived.Test.YtngmnfdaedlodaaGreatDoorB25
set_option maxRecDepth 100000
set_option maxHeartbeats 8000000
namespace Go.Proofs.YtngmnfdaedlodaaGreatDoor
open Go.Proofs.Tryz
open Option renaming none->I,some->C
open Go.Value renaming int->U,slice->O,pointer->qq
open Go.IntKind renaming i64->Y
open Go.Obj renaming cells->F
open Go.RowKit renaming Hid->R
open Go renaming World->N
open Except renaming error->AQ
open Go.Proofs.Tryz renaming prog->AE
variable{B:Nat}{W w:N}
section
open Go.RowKit
section
variable {P:Program} {Q:Exit->Act->N->Prop}
def uV(Q:Exit->Act->N->Prop):Exit->Act->N->Prop
 |.panic _,_,_=>False
 |e,a,w=>Q e a w
theorem kl(a:Act)(w:N):uV Q .normal a w=Q .normal a w:=rfl
theorem qO{c:Code}{a:Act}(h:c.wp P (uV Q) a w):c.wp P Q a w:=Code.wp_mono (fun e a w o=>by cases e <;> first | exact o | exact o.elim) h
end
def vy(w:N)(r:Except Nat Fr)(e:Ending)(w':N):Prop:=match r with
 |AQ k=>e=.returned (.tuple #[.agg #[U Y 0,U Y 0,O I 0 0,U Y 0,U Y 0,U Y 0,O I 0 0,U Y 0,U Y 0,U Y 0,O I 0 0],U Y (k:Nat)])∧Below w.1.size w w'
 |.ok f=>∃u,e=.returned (.tuple #[.agg u,U Y 0])∧eI w' w.1.size u f∧Below w.1.size w w'
theorem qk{l:L8}{e:Nat}(h:Fr.open_ l=AQ e):e≠0:=by
 unfold Fr.open_ at h;split at h
 ·injection h with h;omega
 ·split at h
  ·next h1=>injection h with h;rw[<-h];exact h1
  ·split at h
   ·injection h with h;omega
   ·split at h
    ·cases h
    ·injection h with h;omega
theorem uv{f:Fr}{sp:OA}{A:Nat}(M:Fr.norm f=f)(D:f.kind=1)(S:dt W B #[O sp f.cols.length A] f.cols)(L:w.1.size<=B):eI W w.1.size #[U Y 1,U Y f.number,O sp f.cols.length A,U Y 0,U Y 0,U Y 0,O I 0 0,U Y 0,U Y 0,U Y 0,O I 0 0] f:=by
 have e:f={ Fr0 with kind:=1,number:=f.number,cols:=f.cols.map Col.fix }:=by
  have:=M;unfold Fr.norm at this;rw[AG D] at this;exact this.symm
 have E:f.seq=0:=by rw[e];rfl
 have J:f.first=0:=by rw[e];rfl
 have K:f.rows=0:=by rw[e];rfl
 have o:f.block=[]:=by rw[e];rfl
 have y:f.index=jY:=by rw[e];rfl
 refine⟨sp,A,I,0,I,0,?_,jl S L,?_,?_,?_,?_⟩
 ·unfold aF;rw[D,E,J,K,o,y];rfl
 ·rw[o];exact bG _ _
 ·rw[o];decide
 ·rw[y];exact fg _ _
 ·rw[y];decide
theorem uz{f:Fr}{y:OA}{o:Nat}(K:Fr.norm f=f)(E:f.kind=2)(M:Has W B (O y f.block.length o) f.block)(L:f.block.length<=2200)(J:w.1.size<=B):eI W w.1.size #[U Y 2,U Y f.number,O I 0 0,U Y f.seq,U Y f.first,U Y f.rows,O y f.block.length o,U Y 0,U Y 0,U Y 0,O I 0 0] f:=by
 have e:f={ Fr0 with kind:=2,number:=f.number,seq:=f.seq,first:=f.first,rows:=f.rows,block:=f.block }:=by
  have:=K;unfold Fr.norm at this;rw[AF (by omega),AG E] at this;exact this.symm
 have D:f.cols=[]:=by rw[e];rfl
 have A:f.index=jY:=by rw[e];rfl
 refine⟨I,0,y,o,I,0,?_,?_,M.lower J,L,?_,?_⟩
 ·unfold aF;rw[E,D,A];rfl
 ·rw[D];exact mD _ _
 ·rw[A];exact fg _ _
 ·rw[A];decide
theorem uw{f:Fr}{A:OA}{y:Nat}(V:Fr.norm f=f)(M:f.kind=3)(Z:bL W B (O A f.index.entries.length y) f.index.entries)(X:f.index.entries.length<=64)(S:w.1.size<=B):eI W w.1.size #[U Y 3,U Y 0,O I 0 0,U Y 0,U Y 0,U Y 0,O I 0 0,U Y f.index.at_,U Y f.index.frames,U Y f.index.rows,O A f.index.entries.length y] f:=by
 have e:f={ Fr0 with kind:=3,index:=f.index }:=by
  have:=V;unfold Fr.norm at this;rw[AF (by omega),AF (by omega)] at this;exact this.symm
 have E:f.number=0:=by rw[e];rfl
 have J:f.seq=0:=by rw[e];rfl
 have K:f.first=0:=by rw[e];rfl
 have L:f.rows=0:=by rw[e];rfl
 have o:f.block=[]:=by rw[e];rfl
 have D:f.cols=[]:=by rw[e];rfl
 refine⟨I,0,I,0,A,y,?_,?_,?_,?_,Z.low S,X⟩
 ·unfold aF;rw[M,E,J,K,L,o,D];rfl
 ·rw[D];exact mD _ _
 ·rw[o];exact bG _ _
 ·rw[o];decide
theorem oX{w4:N}(K:bw w w4 0)(c0 c1 c2 c3 c4 y A D E J o:Value):((((((((((((w4.setCell ⟨w.1.size,0,I⟩ (c0)).setCell ⟨w.1.size,1,I⟩ (c1)).setCell ⟨w.1.size,2,I⟩ (c2)).setCell ⟨w.1.size,3,I⟩ (c3)).setCell ⟨w.1.size,4,I⟩ (c4)).setCell ⟨w.1.size,5,I⟩ (y)).setCell ⟨w.1.size,6,I⟩ (A)).setCell ⟨w.1.size,7,I⟩ (D)).setCell ⟨w.1.size,8,I⟩ (E)).setCell ⟨w.1.size,9,I⟩ (J)).setCell ⟨w.1.size,10,I⟩ (o)).setCell ⟨w.1.size+1,0,I⟩ (U Y 0)).1[w.1.size]?=C (F #[c0,c1,c2,c3,c4,y,A,D,E,J,o] 52 (0,0))∧((((((((((((w4.setCell ⟨w.1.size,0,I⟩ (c0)).setCell ⟨w.1.size,1,I⟩ (c1)).setCell ⟨w.1.size,2,I⟩ (c2)).setCell ⟨w.1.size,3,I⟩ (c3)).setCell ⟨w.1.size,4,I⟩ (c4)).setCell ⟨w.1.size,5,I⟩ (y)).setCell ⟨w.1.size,6,I⟩ (A)).setCell ⟨w.1.size,7,I⟩ (D)).setCell ⟨w.1.size,8,I⟩ (E)).setCell ⟨w.1.size,9,I⟩ (J)).setCell ⟨w.1.size,10,I⟩ (o)).setCell ⟨w.1.size+1,0,I⟩ (U Y 0)).cell? ⟨w.1.size+1,0,I⟩=C (U Y 0)∧Aside (fun i=>i=w.1.size∨i=w.1.size+1) w4 ((((((((((((w4.setCell ⟨w.1.size,0,I⟩ (c0)).setCell ⟨w.1.size,1,I⟩ (c1)).setCell ⟨w.1.size,2,I⟩ (c2)).setCell ⟨w.1.size,3,I⟩ (c3)).setCell ⟨w.1.size,4,I⟩ (c4)).setCell ⟨w.1.size,5,I⟩ (y)).setCell ⟨w.1.size,6,I⟩ (A)).setCell ⟨w.1.size,7,I⟩ (D)).setCell ⟨w.1.size,8,I⟩ (E)).setCell ⟨w.1.size,9,I⟩ (J)).setCell ⟨w.1.size,10,I⟩ (o)).setCell ⟨w.1.size+1,0,I⟩ (U Y 0))∧Below w.1.size w ((((((((((((w4.setCell ⟨w.1.size,0,I⟩ (c0)).setCell ⟨w.1.size,1,I⟩ (c1)).setCell ⟨w.1.size,2,I⟩ (c2)).setCell ⟨w.1.size,3,I⟩ (c3)).setCell ⟨w.1.size,4,I⟩ (c4)).setCell ⟨w.1.size,5,I⟩ (y)).setCell ⟨w.1.size,6,I⟩ (A)).setCell ⟨w.1.size,7,I⟩ (D)).setCell ⟨w.1.size,8,I⟩ (E)).setCell ⟨w.1.size,9,I⟩ (J)).setCell ⟨w.1.size,10,I⟩ (o)).setCell ⟨w.1.size+1,0,I⟩ (U Y 0)):=by
 have ab:=K.size;have L:Aside (fun i=>i=w.1.size) w4 (((((((((((w4.setCell ⟨w.1.size,0,I⟩ (c0)).setCell ⟨w.1.size,1,I⟩ (c1)).setCell ⟨w.1.size,2,I⟩ (c2)).setCell ⟨w.1.size,3,I⟩ (c3)).setCell ⟨w.1.size,4,I⟩ (c4)).setCell ⟨w.1.size,5,I⟩ (y)).setCell ⟨w.1.size,6,I⟩ (A)).setCell ⟨w.1.size,7,I⟩ (D)).setCell ⟨w.1.size,8,I⟩ (E)).setCell ⟨w.1.size,9,I⟩ (J)).setCell ⟨w.1.size,10,I⟩ (o)):=dh w4 w.1.size c0 c1 c2 c3 c4 y A D E J o;have V:(((((((((((w4.setCell ⟨w.1.size,0,I⟩ (c0)).setCell ⟨w.1.size,1,I⟩ (c1)).setCell ⟨w.1.size,2,I⟩ (c2)).setCell ⟨w.1.size,3,I⟩ (c3)).setCell ⟨w.1.size,4,I⟩ (c4)).setCell ⟨w.1.size,5,I⟩ (y)).setCell ⟨w.1.size,6,I⟩ (A)).setCell ⟨w.1.size,7,I⟩ (D)).setCell ⟨w.1.size,8,I⟩ (E)).setCell ⟨w.1.size,9,I⟩ (J)).setCell ⟨w.1.size,10,I⟩ (o)).1[w.1.size]?=C (F #[c0,c1,c2,c3,c4,y,A,D,E,J,o] 52 (0,0)):=dR K.b0 c0 c1 c2 c3 c4 y A D E J o;have X:(((((((((((w4.setCell ⟨w.1.size,0,I⟩ (c0)).setCell ⟨w.1.size,1,I⟩ (c1)).setCell ⟨w.1.size,2,I⟩ (c2)).setCell ⟨w.1.size,3,I⟩ (c3)).setCell ⟨w.1.size,4,I⟩ (c4)).setCell ⟨w.1.size,5,I⟩ (y)).setCell ⟨w.1.size,6,I⟩ (A)).setCell ⟨w.1.size,7,I⟩ (D)).setCell ⟨w.1.size,8,I⟩ (E)).setCell ⟨w.1.size,9,I⟩ (J)).setCell ⟨w.1.size,10,I⟩ (o)).1[w.1.size+1]?=C (F #[U Y 0] 25 (0,0)):=(L.block _ (ap K.b1) (by omega)).trans K.b1
 have M:=am (((((((((((w4.setCell ⟨w.1.size,0,I⟩ (c0)).setCell ⟨w.1.size,1,I⟩ (c1)).setCell ⟨w.1.size,2,I⟩ (c2)).setCell ⟨w.1.size,3,I⟩ (c3)).setCell ⟨w.1.size,4,I⟩ (c4)).setCell ⟨w.1.size,5,I⟩ (y)).setCell ⟨w.1.size,6,I⟩ (A)).setCell ⟨w.1.size,7,I⟩ (D)).setCell ⟨w.1.size,8,I⟩ (E)).setCell ⟨w.1.size,9,I⟩ (J)).setCell ⟨w.1.size,10,I⟩ (o)) (w.1.size+1) 0 (U Y 0);have S:=(L.mono (G:=fun i=>i=w.1.size∨i=w.1.size+1) (fun _ _ h=>.inl h)).trans M (fun _ _ h=>.inr h);exact⟨(M.block _ (ap V) (by omega)).trans V,aa (ao X 0 _) 0,S,K.below.trans (S.below (by omega) (fun k Z=>by omega))⟩
end
section
open Go.RowKit
theorem nK(y:Nat)(p:OA)(c:Nat)(l:L8)(a5:l.length<=140737488351232)(a6:l.length<=c)(w:N)(ak:Hv w)(h:At w p l)(M:Fr.open_ l=AQ y):
  Calls AE 33 #[O p l.length c] w (vy w (Fr.dec l)):=by
 have bb:∀(fn:Fn) (first cap:AV) (w:N),(Instr.makeFunc fn first cap).run AE w=.ok (.func fn first cap) w:=fun _ _ _ _=>rfl;obtain⟨r,L⟩:∃r,r=Fr.dec l:=⟨_,rfl⟩
 have ah:R (r=match Fr.open_ l with
  |AQ e=>AQ e
  |.ok b=>Fr.rdF (b.headD 0).toNat b.tail):=L
 have aw:=gQq L;rw[<-L];obtain⟨E,ab⟩:∃E,E=(w.alloc (F #[U Y 0,U Y 0,O I 0 0,U Y 0,U Y 0,U Y 0,O I 0 0,U Y 0,U Y 0,U Y 0,O I 0 0] 52)).alloc (F #[U Y 0] 25):=⟨_,rfl⟩;have K:R (bw w E 0):=by rw[ab];exact fJ w
 have ai:R ((w.alloc (F #[U Y 0,U Y 0,O I 0 0,U Y 0,U Y 0,U Y 0,O I 0 0,U Y 0,U Y 0,U Y 0,O I 0 0] 52)).alloc (F #[U Y 0] 25)=E):=by rw[ab];exact rfl
 have S:=gQq (xt p c l a5 a6 E (ak.next K.out.below) (h.on K.out.below));clear L ab ak h;rw[M] at S;have a7:=qk M;have a8:((y:Int) != 0)=true:=by rw[bne_iff_ne];omega
 have a3:R (r=AQ y):=by show _=_;rw[ah.out,M]
 clear M ah a7 aw
 go_enter_defers func33,ntmps33
 go_wp2_with fail;rw[ai.out];refine S.out.mono ?_;rintro e w1 ⟨rfl,hb⟩;have o:=K.out.on hb;have be:w1.cell? ⟨w.1.size,0,I⟩=C (U Y 0):=aa o.b0 0;have bO:=ac o.b0 0;have bi:w1.cell? ⟨w.1.size,1,I⟩=C (U Y 0):=aa o.b0 1;have bT:=ac o.b0 1;have bk:w1.cell? ⟨w.1.size,2,I⟩=C (O I 0 0):=aa o.b0 2;have b2:=ac o.b0 2;have bl:w1.cell? ⟨w.1.size,3,I⟩=C (U Y 0):=aa o.b0 3;have b3:=ac o.b0 3;have bn:w1.cell? ⟨w.1.size,4,I⟩=C (U Y 0):=aa o.b0 4;have b4:=ac o.b0 4;have bp:w1.cell? ⟨w.1.size,5,I⟩=C (U Y 0):=aa o.b0 5;have b5:=ac o.b0 5;have bq:w1.cell? ⟨w.1.size,6,I⟩=C (O I 0 0):=aa o.b0 6;have b6:=ac o.b0 6;have bs:w1.cell? ⟨w.1.size,7,I⟩=C (U Y 0):=aa o.b0 7;have b7:=ac o.b0 7;have bv:w1.cell? ⟨w.1.size,8,I⟩=C (U Y 0):=aa o.b0 8;have b8:=ac o.b0 8;have bN:w1.cell? ⟨w.1.size,9,I⟩=C (U Y 0):=aa o.b0 9;have b9:=ac o.b0 9;have bj:w1.cell? ⟨w.1.size,10,I⟩=C (O I 0 0):=aa o.b0 10;have bX:=ac o.b0 10;have cb:w1.cell? ⟨w.1.size+1,0,I⟩=C (U Y 0):=aa o.b1 0;have cc:=ac o.b1 0;have D:=o.setE y
 obtain⟨A,J⟩:∃A,A=(((((((((((((w1.setCell ⟨w.1.size+1,0,I⟩ (U Y y)).setCell ⟨w.1.size,0,I⟩ (U Y 0)).setCell ⟨w.1.size,1,I⟩ (U Y 0)).setCell ⟨w.1.size,2,I⟩ (O I 0 0)).setCell ⟨w.1.size,3,I⟩ (U Y 0)).setCell ⟨w.1.size,4,I⟩ (U Y 0)).setCell ⟨w.1.size,5,I⟩ (U Y 0)).setCell ⟨w.1.size,6,I⟩ (O I 0 0)).setCell ⟨w.1.size,7,I⟩ (U Y 0)).setCell ⟨w.1.size,8,I⟩ (U Y 0)).setCell ⟨w.1.size,9,I⟩ (U Y 0)).setCell ⟨w.1.size,10,I⟩ (O I 0 0)).setCell ⟨w.1.size+1,0,I⟩ (U Y y)).drew:=⟨_,rfl⟩;have V:Aside (fun i=>i=w.1.size) (w1.setCell ⟨w.1.size+1,0,I⟩ (U Y y)) ((((((((((((w1.setCell ⟨w.1.size+1,0,I⟩ (U Y y)).setCell ⟨w.1.size,0,I⟩ (U Y 0)).setCell ⟨w.1.size,1,I⟩ (U Y 0)).setCell ⟨w.1.size,2,I⟩ (O I 0 0)).setCell ⟨w.1.size,3,I⟩ (U Y 0)).setCell ⟨w.1.size,4,I⟩ (U Y 0)).setCell ⟨w.1.size,5,I⟩ (U Y 0)).setCell ⟨w.1.size,6,I⟩ (O I 0 0)).setCell ⟨w.1.size,7,I⟩ (U Y 0)).setCell ⟨w.1.size,8,I⟩ (U Y 0)).setCell ⟨w.1.size,9,I⟩ (U Y 0)).setCell ⟨w.1.size,10,I⟩ (O I 0 0)):=dh _ w.1.size (U Y 0) (U Y 0) (O I 0 0) (U Y 0) (U Y 0) (U Y 0) (O I 0 0) (U Y 0) (U Y 0) (U Y 0) (O I 0 0)
 have Z:((((((((((((w1.setCell ⟨w.1.size+1,0,I⟩ (U Y y)).setCell ⟨w.1.size,0,I⟩ (U Y 0)).setCell ⟨w.1.size,1,I⟩ (U Y 0)).setCell ⟨w.1.size,2,I⟩ (O I 0 0)).setCell ⟨w.1.size,3,I⟩ (U Y 0)).setCell ⟨w.1.size,4,I⟩ (U Y 0)).setCell ⟨w.1.size,5,I⟩ (U Y 0)).setCell ⟨w.1.size,6,I⟩ (O I 0 0)).setCell ⟨w.1.size,7,I⟩ (U Y 0)).setCell ⟨w.1.size,8,I⟩ (U Y 0)).setCell ⟨w.1.size,9,I⟩ (U Y 0)).setCell ⟨w.1.size,10,I⟩ (O I 0 0)).1[w.1.size]?=C (F #[U Y 0,U Y 0,O I 0 0,U Y 0,U Y 0,U Y 0,O I 0 0,U Y 0,U Y 0,U Y 0,O I 0 0] 52 (0,0)):=dR D.b0 (U Y 0) (U Y 0) (O I 0 0) (U Y 0) (U Y 0) (U Y 0) (O I 0 0) (U Y 0) (U Y 0) (U Y 0) (O I 0 0);have aj:((((((((((((w1.setCell ⟨w.1.size+1,0,I⟩ (U Y y)).setCell ⟨w.1.size,0,I⟩ (U Y 0)).setCell ⟨w.1.size,1,I⟩ (U Y 0)).setCell ⟨w.1.size,2,I⟩ (O I 0 0)).setCell ⟨w.1.size,3,I⟩ (U Y 0)).setCell ⟨w.1.size,4,I⟩ (U Y 0)).setCell ⟨w.1.size,5,I⟩ (U Y 0)).setCell ⟨w.1.size,6,I⟩ (O I 0 0)).setCell ⟨w.1.size,7,I⟩ (U Y 0)).setCell ⟨w.1.size,8,I⟩ (U Y 0)).setCell ⟨w.1.size,9,I⟩ (U Y 0)).setCell ⟨w.1.size,10,I⟩ (O I 0 0)).1[w.1.size+1]?=C (F #[U Y y] 25 (0,0)):=(V.block _ (ap D.b1) (by omega)).trans D.b1
 have X:=am ((((((((((((w1.setCell ⟨w.1.size+1,0,I⟩ (U Y y)).setCell ⟨w.1.size,0,I⟩ (U Y 0)).setCell ⟨w.1.size,1,I⟩ (U Y 0)).setCell ⟨w.1.size,2,I⟩ (O I 0 0)).setCell ⟨w.1.size,3,I⟩ (U Y 0)).setCell ⟨w.1.size,4,I⟩ (U Y 0)).setCell ⟨w.1.size,5,I⟩ (U Y 0)).setCell ⟨w.1.size,6,I⟩ (O I 0 0)).setCell ⟨w.1.size,7,I⟩ (U Y 0)).setCell ⟨w.1.size,8,I⟩ (U Y 0)).setCell ⟨w.1.size,9,I⟩ (U Y 0)).setCell ⟨w.1.size,10,I⟩ (O I 0 0)) (w.1.size+1) 0 (U Y y);have a0:R (A.1[w.1.size]?=C (F #[U Y 0,U Y 0,O I 0 0,U Y 0,U Y 0,U Y 0,O I 0 0,U Y 0,U Y 0,U Y 0,O I 0 0] 52 (0,0))):=by
  show _=_;rw[J,dU];exact(X.block _ (ap Z) (by omega)).trans Z
 have a1:R (A.cell? ⟨w.1.size+1,0,I⟩=C (U Y y)):=by
  have:A.1[w.1.size+1]?=C (F #[U Y y] 25 (0,0)):=by rw[J,dU];exact ao aj 0 _
  exact aa this 0
 have a2:R (Below w.1.size w A):=by
  have bc:=D.size;rw[J];exact(D.below.trans (((V.mono (G:=fun i=>i=w.1.size∨i=w.1.size+1) (fun _ _ h=>.inl h)).trans X (fun _ _ h=>.inr h)).below (by omega) (fun k a9=>by omega))).drew
 have a4:R ((((((((((((((w1.setCell ⟨w.1.size+1,0,I⟩ (U Y y)).setCell ⟨w.1.size,0,I⟩ (U Y 0)).setCell ⟨w.1.size,1,I⟩ (U Y 0)).setCell ⟨w.1.size,2,I⟩ (O I 0 0)).setCell ⟨w.1.size,3,I⟩ (U Y 0)).setCell ⟨w.1.size,4,I⟩ (U Y 0)).setCell ⟨w.1.size,5,I⟩ (U Y 0)).setCell ⟨w.1.size,6,I⟩ (O I 0 0)).setCell ⟨w.1.size,7,I⟩ (U Y 0)).setCell ⟨w.1.size,8,I⟩ (U Y 0)).setCell ⟨w.1.size,9,I⟩ (U Y 0)).setCell ⟨w.1.size,10,I⟩ (O I 0 0)).setCell ⟨w.1.size+1,0,I⟩ (U Y y)).drew=A):=by rw[J];exact rfl
 clear o D hb J V Z aj X S K ai;go_wp2_with fail;refine qO ?_;go_region_law (fail)
 all_goals
  rw[kl];rw[a4.out];go_wp2;refine⟨_,bz rfl _ _ w.1.size (w.1.size+1) _ #[U Y 0,U Y 0,O I 0 0,U Y 0,U Y 0,U Y 0,O I 0 0,U Y 0,U Y 0,U Y 0,O I 0 0] _ _ (y:Int) rfl a0.out underlying52 rfl (by kernel_rfl) rfl a1.out underlying25,?_⟩;rw[a3.out];exact⟨rfl,a2.out⟩
end
section
open Go.RowKit
theorem pD(b:L8)(p:OA)(c:Nat)(l:L8)(er:l.length<=140737488351232)(ev:l.length<=c)(w:N)(bl:Hv w)(h:At w p l)(bn:Fr.open_ l=.ok b):
  Calls AE 33 #[O p l.length c] w (vy w (Fr.dec l)):=by
 have e5:∀(fn:Fn) (first cap:AV) (w:N),(Instr.makeFunc fn first cap).run AE w=.ok (.func fn first cap) w:=fun _ _ _ _=>rfl;obtain⟨r,bk⟩:∃r,r=Fr.dec l:=⟨_,rfl⟩
 have b9:R (r=match Fr.open_ l with
  |AQ e=>AQ e
  |.ok b=>Fr.rdF (b.headD 0).toNat b.tail):=bk
 have e0:=gQq bk;rw[<-bk];obtain⟨a5,bv⟩:∃a5,a5=(w.alloc (F #[U Y 0,U Y 0,O I 0 0,U Y 0,U Y 0,U Y 0,O I 0 0,U Y 0,U Y 0,U Y 0,O I 0 0] 52)).alloc (F #[U Y 0] 25):=⟨_,rfl⟩;have be:R (bw w a5 0):=by rw[bv];exact fJ w
 have ec:R ((w.alloc (F #[U Y 0,U Y 0,O I 0 0,U Y 0,U Y 0,U Y 0,O I 0 0,U Y 0,U Y 0,U Y 0,O I 0 0] 52)).alloc (F #[U Y 0] 25)=a5):=by rw[bv];exact rfl
 have bs:=gQq (xt p c l er ev a5 (bl.next be.out.below) (h.on be.out.below))
 -- a panic that goes through the door
 have b7:R (∀(ab:Nat) (D:N) (y:Int),r=AQ ab->bw w D y->∀(tmps:AV) (Z:List Deferred),tmps.getD 2 undef=qq (C ⟨w.1.size,0,I⟩)->tmps.getD 3 undef=qq (C ⟨w.1.size+1,0,I⟩)->Z=[{ target:=.fn (.func 51) #[qq (C ⟨w.1.size,0,I⟩),qq (C ⟨w.1.size+1,0,I⟩)],args:=#[] }]->bodyPostD AE Tryz.f33 (vy w r) (Exit.panic (dm ab)) { tmps:=tmps,defers:=Z } D):=by
  intro ab D y ah bi tmps Z a6 a7 bX;subst bX;refine leaves_cons (f:=51) (args:=#[qq (C ⟨w.1.size,0,I⟩),qq (C ⟨w.1.size+1,0,I⟩)]) (by simp) (by simp[go_sem]) ?_;refine(gI w.1.size (w.1.size+1) ab y D bi.b0 bi.b1 (by omega)).mono ?_;rintro e eC eL ⟨rfl,rfl,ai,aj,ak⟩;refine⟨_,bz rfl tmps _ w.1.size (w.1.size+1) _ #[U Y 0,U Y 0,O I 0 0,U Y 0,U Y 0,U Y 0,O I 0 0,U Y 0,U Y 0,U Y 0,O I 0 0] _ _ (ab:Int) a6 ai underlying52 rfl (by kernel_rfl) a7 (aa aj 0) underlying25,?_⟩;rw[ah];exact⟨rfl,bi.below.trans (ak.below (by have:=bi.size;omega) (fun k hk=>by omega))⟩
 -- the way out without one
 have bq:R (∀(aw:N) (u:AV) (f:Fr),r=.ok f->aw.1[w.1.size]?=C (F u 52 (0,0))->u.size=11->aw.cell? ⟨w.1.size+1,0,I⟩=C (U Y 0)->eI aw w.1.size u f->Below w.1.size w aw->∀(tmps:AV) (Z:List Deferred),tmps.getD 2 undef=qq (C ⟨w.1.size,0,I⟩)->tmps.getD 3 undef=qq (C ⟨w.1.size+1,0,I⟩)->Z=[{ target:=.fn (.func 51) #[qq (C ⟨w.1.size,0,I⟩),qq (C ⟨w.1.size+1,0,I⟩)],args:=#[] }]->bodyPostD AE Tryz.f33 (vy w r) Exit.ret { tmps:=tmps,defers:=Z } aw):=by
  intro aw u f ah ep ez em en el tmps Z a6 a7 bX;subst bX;refine leaves_cons (f:=51) (args:=#[qq (C ⟨w.1.size,0,I⟩),qq (C ⟨w.1.size+1,0,I⟩)]) (by simp) (by simp[go_sem]) ?_;refine(lY ⟨w.1.size,0,I⟩ ⟨w.1.size+1,0,I⟩ _).mono ?_;rintro e eC eL ⟨rfl,rfl,rfl⟩;refine⟨_,bz rfl tmps _ w.1.size (w.1.size+1) _ u _ _ 0 a6 ep underlying52 rfl (by rw[ez];kernel_rfl) a7 em underlying25,?_⟩;rw[ah];exact⟨u,rfl,en,el⟩
 clear bk bv bl h;rw[bn] at bs;obtain⟨e4,cx,cr⟩:=Fr.open_ok bn;obtain⟨x,t,rfl⟩:∃x t,b=x::t:=by
  cases b with
  |nil=>simp at cr
  |cons x t=>exact⟨x,t,rfl⟩
 have a4:R (r=Fr.rdF x.toNat t):=by show _=_;rw[b9.out,bn];rfl
 have ew:t.length<=2200:=by
  have V:=(Cob.stuff_length (Fr.check (x::t))).1;rw[cx,Fr.check_length,AI] at V;omega
 have e9:=x.toNat_lt;clear bn b9 cx cr
 go_enter_defers func33,ntmps33
 go_wp2_with fail;rw[ec.out];refine bs.out.mono ?_;rintro e w1 ⟨g,J,cap,rfl,bO,cs,e3,hb⟩;have a8:=be.out.on hb;have e7:=a8.size;have fo:w1.cell? ⟨w.1.size+1,0,I⟩=C (U Y 0):=aa a8.b1 0;have fq:=ac a8.b1 0;have cp:=a8.setE 0;have e8:=be.out.size;obtain⟨e1,e2,b3,cu,ct⟩:=aP bO (by simp);injection b3 with b3;injection b3 with hgo1 hgo2;subst hgo1 hgo2;have z0:w1.cell? ⟨g,J,I⟩=C (U .u8 (x.toNat:Int)):=ct 0 (by simp);rw[AI] at cs;have fi:∀w',(Instr.slice 40 (O (C ⟨g,J,I⟩) (t.length+1) cap) (C (U Y 1)) I I).run AE w'=.ok (O (dp (C ⟨g,J,I⟩) 1 cap) t.length (cap-1)) w':=fun w'=>by
  have:=dC (C ⟨g,J,I⟩) (t.length+1) cap 1 (by omega) w';rw[Nat.add_sub_cancel] at this;exact this
 obtain⟨D,a9⟩:∃D,D=(w1.setCell ⟨w.1.size+1,0,I⟩ (U Y 0)).alloc (F #[O (dp (C ⟨g,J,I⟩) 1 cap) t.length (cap-1)] 112):=⟨_,rfl⟩;have cw:(w1.setCell ⟨w.1.size+1,0,I⟩ (U Y 0)).1.size=w1.1.size:=by simp[World.setCell]
 have bT:Below (w1.setCell ⟨w.1.size+1,0,I⟩ (U Y 0)).1.size (w1.setCell ⟨w.1.size+1,0,I⟩ (U Y 0)) D:=by rw[a9];exact gQy
 have b8:R (bw w D 0):=cp.on bT;have fc:D.1.size=w1.1.size+1:=by rw[a9];simp[cw]
 have bN:Aside (fun i=>i=w.1.size+1) w1 D:=by
  have V:=am w1 (w.1.size+1) 0 (U Y 0);exact V.trans (af bT (fun i=>i=w.1.size+1)) (fun _ _ h=>h)
 have z2:D.cell? ⟨g,J,I⟩=C (U .u8 (x.toNat:Int)):=(bN.cell (p:=⟨g,J,I⟩) cu (by show ¬g=_;omega)).trans z0;have cq:At D (C ⟨g,J,I⟩) (x::t):=bO.aside bN (fun b J A=>by injection A with A;injection A with hp1 _;omega);have cb:R (cz D w1.1.size w1.1.size t):=by
  refine⟨⟨dp (C ⟨g,J,I⟩) 1 cap,cap-1,?_,?_,by omega,fun _=>fY (fun a L=>by injection L with L;rw[<-L];exact cu)⟩,ew,gQx⟩
  ·rw[a9];have:=an (w1.setCell ⟨w.1.size+1,0,I⟩ (U Y 0)) (F #[O (dp (C ⟨g,J,I⟩) 1 cap) t.length (cap-1)] 112);rw[cw] at this;exact this
  ·have:=cq.cut 1 cap (by simpa using cs);simpa using this
 have bc:=gQq (wJ x.toNat t w1.1.size w1.1.size D cb.out);obtain⟨b5,b4⟩:∃b5,b5=Fr.rdF x.toNat t:=⟨_,rfl⟩;rw[<-b4] at bc a4;have cc:=gQq b4;have eg:R ((w1.setCell ⟨w.1.size+1,0,I⟩ (U Y 0)).alloc (F #[O (dp (C ⟨g,J,I⟩) 1 cap) t.length (cap-1)] 112)=D):=by rw[a9];exact rfl
 rw[AI];clear a8 cp hb bO ct cq bN bT a9 bs b4;go_wp2_with fail;rw[eg.out];refine bc.out.mono ?_;intro e bp bj;cases b5 with
 |error ab=>
  obtain⟨ah,L⟩:=bj.bad;subst ah;have a1:=gQq (b8.out.step L (by omega));clear bj L bc;go_wp2;exact b7.out ab bp _ a4.out a1.out _ _ rfl rfl rfl
 |ok f=>
  obtain⟨v,ah,bl,L⟩:=bj.good;subst ah;obtain⟨-,-,E,M,K,-⟩:=Fr.rdF_ok cc.out.symm;have a1:=gQq (b8.out.step L (by omega));have e6:=L.size;clear bj L bc cc b7 cb;rcases bl with ⟨hk,c5,rfl,A⟩ | ⟨hk,c5,rfl,A⟩ | ⟨hk,c5,rfl,A⟩
  ·obtain⟨sp,cy,rfl,A⟩:=A;have X:=gQq A;have S:=gQq (rY f.number sp f.cols.length cy bp);have a3:=gQq (And.intro hk (And.intro E (And.intro M K)));clear A hk E M K;go_wp2_with fail;refine S.out.mono ?_;rintro e w4 ⟨rfl,hb⟩;have o:=a1.out.on hb;have a0:=gQq hb;have cv:=hb.size;have c6:w4.cell? ⟨w.1.size,0,I⟩=C (U Y 0):=aa o.b0 0;have d1:=ac o.b0 0;have c7:w4.cell? ⟨w.1.size,1,I⟩=C (U Y 0):=aa o.b0 1;have d2:=ac o.b0 1;have c9:w4.cell? ⟨w.1.size,2,I⟩=C (O I 0 0):=aa o.b0 2;have d4:=ac o.b0 2;have df:w4.cell? ⟨w.1.size,3,I⟩=C (U Y 0):=aa o.b0 3;have d5:=ac o.b0 3;have dj:w4.cell? ⟨w.1.size,4,I⟩=C (U Y 0):=aa o.b0 4;have d6:=ac o.b0 4;have dr:w4.cell? ⟨w.1.size,5,I⟩=C (U Y 0):=aa o.b0 5;have d7:=ac o.b0 5;have ds:w4.cell? ⟨w.1.size,6,I⟩=C (O I 0 0):=aa o.b0 6;have d8:=ac o.b0 6;have du:w4.cell? ⟨w.1.size,7,I⟩=C (U Y 0):=aa o.b0 7;have d9:=ac o.b0 7;have dv:w4.cell? ⟨w.1.size,8,I⟩=C (U Y 0):=aa o.b0 8;have ea:=ac o.b0 8;have d0:w4.cell? ⟨w.1.size,9,I⟩=C (U Y 0):=aa o.b0 9;have eb:=ac o.b0 9;have c8:w4.cell? ⟨w.1.size,10,I⟩=C (O I 0 0):=aa o.b0 10;have d3:=ac o.b0 10;have cj:w4.cell? ⟨w.1.size+1,0,I⟩=C (U Y 0):=aa o.b1 0;have cn:=ac o.b1 0;have a2:=gQq (oX o (U Y 1) (U Y f.number) (O sp f.cols.length cy) (U Y 0) (U Y 0) (U Y 0) (O I 0 0) (U Y 0) (U Y 0) (U Y 0) (O I 0 0))
   clear hb o S;go_wp2;obtain⟨ai,aj,ak,bb⟩:=a2.out;obtain⟨hk,E,M,K⟩:=a3.out;exact bq.out _ _ f a4.out ai rfl aj (uv K hk (gY (gY X.out (af a0.out (fun i=>i=w.1.size∨i=w.1.size+1)) (fun _ V a6 a7=>by omega)) ak (fun _ V a6 a7=>by omega)) (by omega)) bb _ _ rfl rfl rfl
  ·obtain⟨ci,cd,rfl,A⟩:=A;have X:=gQq A;have S:=gQq (rX f.number f.seq f.first f.rows ci f.block.length cd bp);have a3:=gQq (And.intro hk (And.intro E (And.intro M K)));clear A hk E M K;go_wp2_with fail;refine S.out.mono ?_;rintro e w4 ⟨rfl,hb⟩;have o:=a1.out.on hb;have a0:=gQq hb;have cv:=hb.size;have c6:w4.cell? ⟨w.1.size,0,I⟩=C (U Y 0):=aa o.b0 0;have d1:=ac o.b0 0;have c7:w4.cell? ⟨w.1.size,1,I⟩=C (U Y 0):=aa o.b0 1;have d2:=ac o.b0 1;have c9:w4.cell? ⟨w.1.size,2,I⟩=C (O I 0 0):=aa o.b0 2;have d4:=ac o.b0 2;have df:w4.cell? ⟨w.1.size,3,I⟩=C (U Y 0):=aa o.b0 3;have d5:=ac o.b0 3;have dj:w4.cell? ⟨w.1.size,4,I⟩=C (U Y 0):=aa o.b0 4;have d6:=ac o.b0 4;have dr:w4.cell? ⟨w.1.size,5,I⟩=C (U Y 0):=aa o.b0 5;have d7:=ac o.b0 5;have ds:w4.cell? ⟨w.1.size,6,I⟩=C (O I 0 0):=aa o.b0 6;have d8:=ac o.b0 6;have du:w4.cell? ⟨w.1.size,7,I⟩=C (U Y 0):=aa o.b0 7;have d9:=ac o.b0 7;have dv:w4.cell? ⟨w.1.size,8,I⟩=C (U Y 0):=aa o.b0 8;have ea:=ac o.b0 8;have d0:w4.cell? ⟨w.1.size,9,I⟩=C (U Y 0):=aa o.b0 9;have eb:=ac o.b0 9;have c8:w4.cell? ⟨w.1.size,10,I⟩=C (O I 0 0):=aa o.b0 10;have d3:=ac o.b0 10;have cj:w4.cell? ⟨w.1.size+1,0,I⟩=C (U Y 0):=aa o.b1 0;have cn:=ac o.b1 0
   have a2:=gQq (oX o (U Y 2) (U Y f.number) (O I 0 0) (U Y f.seq) (U Y f.first) (U Y f.rows) (O ci f.block.length cd) (U Y 0) (U Y 0) (U Y 0) (O I 0 0));clear hb o S;go_wp2;obtain⟨ai,aj,ak,bb⟩:=a2.out;obtain⟨hk,E,M,K⟩:=a3.out;have b2:f.block.length<=2200:=by
    have V:=congrArg List.length M;unfold Fr.fields at V;rw[AF (by omega),AG hk,AH] at V;omega
   exact bq.out _ _ f a4.out ai rfl aj (uz K hk ((X.out.on a0.out).aside ak (fun k hk eq=>by have:=(X.out.lt k hk).1;omega)) b2 (by omega)) bb _ _ rfl rfl rfl
  ·obtain⟨co,ck,rfl,A⟩:=A;have X:=gQq A;have S:=gQq (rW f.index.at_ f.index.frames f.index.rows co f.index.entries.length ck bp);have a3:=gQq (And.intro hk (And.intro E (And.intro M K)));clear A hk E M K;go_wp2_with fail;refine S.out.mono ?_;rintro e w4 ⟨rfl,hb⟩;have o:=a1.out.on hb;have a0:=gQq hb;have cv:=hb.size;have c6:w4.cell? ⟨w.1.size,0,I⟩=C (U Y 0):=aa o.b0 0;have d1:=ac o.b0 0;have c7:w4.cell? ⟨w.1.size,1,I⟩=C (U Y 0):=aa o.b0 1;have d2:=ac o.b0 1;have c9:w4.cell? ⟨w.1.size,2,I⟩=C (O I 0 0):=aa o.b0 2;have d4:=ac o.b0 2;have df:w4.cell? ⟨w.1.size,3,I⟩=C (U Y 0):=aa o.b0 3;have d5:=ac o.b0 3;have dj:w4.cell? ⟨w.1.size,4,I⟩=C (U Y 0):=aa o.b0 4;have d6:=ac o.b0 4;have dr:w4.cell? ⟨w.1.size,5,I⟩=C (U Y 0):=aa o.b0 5;have d7:=ac o.b0 5;have ds:w4.cell? ⟨w.1.size,6,I⟩=C (O I 0 0):=aa o.b0 6;have d8:=ac o.b0 6;have du:w4.cell? ⟨w.1.size,7,I⟩=C (U Y 0):=aa o.b0 7;have d9:=ac o.b0 7;have dv:w4.cell? ⟨w.1.size,8,I⟩=C (U Y 0):=aa o.b0 8;have ea:=ac o.b0 8;have d0:w4.cell? ⟨w.1.size,9,I⟩=C (U Y 0):=aa o.b0 9;have eb:=ac o.b0 9;have c8:w4.cell? ⟨w.1.size,10,I⟩=C (O I 0 0):=aa o.b0 10;have d3:=ac o.b0 10;have cj:w4.cell? ⟨w.1.size+1,0,I⟩=C (U Y 0):=aa o.b1 0;have cn:=ac o.b1 0
   have a2:=gQq (oX o (U Y 3) (U Y 0) (O I 0 0) (U Y 0) (U Y 0) (U Y 0) (O I 0 0) (U Y f.index.at_) (U Y f.index.frames) (U Y f.index.rows) (O co f.index.entries.length ck));clear hb o S;go_wp2;obtain⟨ai,aj,ak,bb⟩:=a2.out;obtain⟨hk,E,M,K⟩:=a3.out;have b2:f.index.entries.length<=64:=by
    unfold Fr.err0 at E;rw[AF (by omega),AF (by omega),AG hk] at E;unfold Fr.idxErr at E;split at E
    ·omega
    ·split at E
     ·omega
     ·omega
   exact bq.out _ _ f a4.out ai rfl aj (uw K hk ((X.out.on a0.out).aside ak (fun k hk eq=>by have:=(X.out.lt k hk).1;omega)) b2 (by omega)) bb _ _ rfl rfl rfl
theorem qE(p:OA)(c:Nat)(l:L8)(o:l.length<=140737488351232)(y:l.length<=c)(w:N)(A:Hv w)(h:At w p l):
  Calls AE 33 #[O p l.length c] w (vy w (Fr.dec l)):=by
 cases mo:Fr.open_ l with
 |error er=>exact nK er p c l o y w A h mo
 |ok b=>exact pD b p c l o y w A h mo
end
end Go.Proofs.YtngmnfdaedlodaaGreatDoor
