import Derived.Test.YtbahfgdbjgkklaaGreatDoorB25
set_option maxRecDepth 100000
set_option maxHeartbeats 8000000
namespace Go.Proofs.YtbahfgdbjgkklaaGreatDoor
variable{B:Nat}{W w:World}{f:Fr}
section
open Go.RowKit
section
variable {P:Program} {Q:Exit->Act->World->Prop}
def vI(Q:Exit->Act->World->Prop):Exit->Act->World->Prop
 |.panic _,_,_=>False
 |e,a,w=>Q e a w
theorem kX(a:Act)(w:World):vI Q .normal a w=Q .normal a w:=rfl
theorem rJ{c:Code}{a:Act}(h:c.wp P (vI Q) a w):c.wp P Q a w:=Code.wp_mono (fun e a w o=>by cases e <;> first | exact o | exact o.elim) h
end
def lg(w:World)(r:Except Nat Fr)(e:Ending)(w':World):Prop:=match r with
 |.error k=>e=.returned (.tuple #[.agg #[.int .i64 0,.int .i64 0,.slice none 0 0,.int .i64 0,.int .i64 0,.int .i64 0,.slice none 0 0,.int .i64 0,.int .i64 0,.int .i64 0,.slice none 0 0],.int .i64 (k:Nat)])∧Below w.1.size w w'
 |.ok f=>∃u,e=.returned (.tuple #[.agg u,.int .i64 0])∧iN w' w.1.size u f∧Below w.1.size w w'
theorem qR{l:L8}{e:Nat}(h:Fr.open_ l=.error e):e≠0:=by
 unfold Fr.open_ at h;split at h
 ·injection h with h;omega
 ·split at h
  ·next h1=>injection h with h;rw[<-h];exact h1
  ·split at h
   ·injection h with h;omega
   ·split at h
    ·cases h
    ·injection h with h;omega
theorem oA{sp:OA}{z:Nat}(L:Fr.norm f=f)(D:f.kind=1)(M:fv W B #[.slice sp f.cols.length z] f.cols)(K:w.1.size<=B):iN W w.1.size #[.int .i64 1,.int .i64 f.number,.slice sp f.cols.length z,.int .i64 0,.int .i64 0,.int .i64 0,.slice none 0 0,.int .i64 0,.int .i64 0,.int .i64 0,.slice none 0 0] f:=by
 have e:f={ Fr0 with kind:=1,number:=f.number,cols:=f.cols.map Col.fix }:=by
  have:=L;unfold Fr.norm at this;rw[if_pos D] at this;exact this.symm
 have E:f.seq=0:=by rw[e];rfl
 have I:f.first=0:=by rw[e];rfl
 have J:f.rows=0:=by rw[e];rfl
 have o:f.block=[]:=by rw[e];rfl
 have y:f.index=mX:=by rw[e];rfl
 refine⟨sp,z,none,0,none,0,?_,jL M K,?_,?_,?_,?_⟩
 ·unfold bJ;rw[D,E,I,J,o,y];rfl
 ·rw[o];exact aM _ _
 ·rw[o];decide
 ·rw[y];exact hY _ _
 ·rw[y];decide
theorem oB{y:OA}{o:Nat}(J:Fr.norm f=f)(E:f.kind=2)(L:Has W B (.slice y f.block.length o) f.block)(K:f.block.length<=2200)(I:w.1.size<=B):iN W w.1.size #[.int .i64 2,.int .i64 f.number,.slice none 0 0,.int .i64 f.seq,.int .i64 f.first,.int .i64 f.rows,.slice y f.block.length o,.int .i64 0,.int .i64 0,.int .i64 0,.slice none 0 0] f:=by
 have e:f={ Fr0 with kind:=2,number:=f.number,seq:=f.seq,first:=f.first,rows:=f.rows,block:=f.block }:=by
  have:=J;unfold Fr.norm at this;rw[if_neg (by omega),if_pos E] at this;exact this.symm
 have D:f.cols=[]:=by rw[e];rfl
 have z:f.index=mX:=by rw[e];rfl
 refine⟨none,0,y,o,none,0,?_,?_,L.lower I,K,?_,?_⟩
 ·unfold bJ;rw[E,D,z];rfl
 ·rw[D];exact jK _ _
 ·rw[z];exact hY _ _
 ·rw[z];decide
theorem uZ{z:OA}{y:Nat}(O:Fr.norm f=f)(L:f.kind=3)(U:dO W B (.slice z f.index.entries.length y) f.index.entries)(S:f.index.entries.length<=64)(M:w.1.size<=B):iN W w.1.size #[.int .i64 3,.int .i64 0,.slice none 0 0,.int .i64 0,.int .i64 0,.int .i64 0,.slice none 0 0,.int .i64 f.index.at_,.int .i64 f.index.frames,.int .i64 f.index.rows,.slice z f.index.entries.length y] f:=by
 have e:f={ Fr0 with kind:=3,index:=f.index }:=by
  have:=O;unfold Fr.norm at this;rw[if_neg (by omega),if_neg (by omega)] at this;exact this.symm
 have E:f.number=0:=by rw[e];rfl
 have I:f.seq=0:=by rw[e];rfl
 have J:f.first=0:=by rw[e];rfl
 have K:f.rows=0:=by rw[e];rfl
 have o:f.block=[]:=by rw[e];rfl
 have D:f.cols=[]:=by rw[e];rfl
 refine⟨none,0,none,0,z,y,?_,?_,?_,?_,U.low M,S⟩
 ·unfold bJ;rw[L,E,I,J,K,o,D];rfl
 ·rw[D];exact jK _ _
 ·rw[o];exact aM _ _
 ·rw[o];decide
theorem p6{w4:World}(J:bm w w4 0)(c0 c1 c2 c3 c4 y z D E I o:Value):((((((((((((w4.setCell ⟨w.1.size,0,none⟩ (c0)).setCell ⟨w.1.size,1,none⟩ (c1)).setCell ⟨w.1.size,2,none⟩ (c2)).setCell ⟨w.1.size,3,none⟩ (c3)).setCell ⟨w.1.size,4,none⟩ (c4)).setCell ⟨w.1.size,5,none⟩ (y)).setCell ⟨w.1.size,6,none⟩ (z)).setCell ⟨w.1.size,7,none⟩ (D)).setCell ⟨w.1.size,8,none⟩ (E)).setCell ⟨w.1.size,9,none⟩ (I)).setCell ⟨w.1.size,10,none⟩ (o)).setCell ⟨w.1.size+1,0,none⟩ (.int .i64 0)).1[w.1.size]?=some (.cells #[c0,c1,c2,c3,c4,y,z,D,E,I,o] 67 (0,0))∧((((((((((((w4.setCell ⟨w.1.size,0,none⟩ (c0)).setCell ⟨w.1.size,1,none⟩ (c1)).setCell ⟨w.1.size,2,none⟩ (c2)).setCell ⟨w.1.size,3,none⟩ (c3)).setCell ⟨w.1.size,4,none⟩ (c4)).setCell ⟨w.1.size,5,none⟩ (y)).setCell ⟨w.1.size,6,none⟩ (z)).setCell ⟨w.1.size,7,none⟩ (D)).setCell ⟨w.1.size,8,none⟩ (E)).setCell ⟨w.1.size,9,none⟩ (I)).setCell ⟨w.1.size,10,none⟩ (o)).setCell ⟨w.1.size+1,0,none⟩ (.int .i64 0)).cell? ⟨w.1.size+1,0,none⟩=some (.int .i64 0)∧Aside (fun i=>i=w.1.size∨i=w.1.size+1) w4 ((((((((((((w4.setCell ⟨w.1.size,0,none⟩ (c0)).setCell ⟨w.1.size,1,none⟩ (c1)).setCell ⟨w.1.size,2,none⟩ (c2)).setCell ⟨w.1.size,3,none⟩ (c3)).setCell ⟨w.1.size,4,none⟩ (c4)).setCell ⟨w.1.size,5,none⟩ (y)).setCell ⟨w.1.size,6,none⟩ (z)).setCell ⟨w.1.size,7,none⟩ (D)).setCell ⟨w.1.size,8,none⟩ (E)).setCell ⟨w.1.size,9,none⟩ (I)).setCell ⟨w.1.size,10,none⟩ (o)).setCell ⟨w.1.size+1,0,none⟩ (.int .i64 0))∧Below w.1.size w ((((((((((((w4.setCell ⟨w.1.size,0,none⟩ (c0)).setCell ⟨w.1.size,1,none⟩ (c1)).setCell ⟨w.1.size,2,none⟩ (c2)).setCell ⟨w.1.size,3,none⟩ (c3)).setCell ⟨w.1.size,4,none⟩ (c4)).setCell ⟨w.1.size,5,none⟩ (y)).setCell ⟨w.1.size,6,none⟩ (z)).setCell ⟨w.1.size,7,none⟩ (D)).setCell ⟨w.1.size,8,none⟩ (E)).setCell ⟨w.1.size,9,none⟩ (I)).setCell ⟨w.1.size,10,none⟩ (o)).setCell ⟨w.1.size+1,0,none⟩ (.int .i64 0)):=by
 have V:=J.size;have K:Aside (fun i=>i=w.1.size) w4 (((((((((((w4.setCell ⟨w.1.size,0,none⟩ (c0)).setCell ⟨w.1.size,1,none⟩ (c1)).setCell ⟨w.1.size,2,none⟩ (c2)).setCell ⟨w.1.size,3,none⟩ (c3)).setCell ⟨w.1.size,4,none⟩ (c4)).setCell ⟨w.1.size,5,none⟩ (y)).setCell ⟨w.1.size,6,none⟩ (z)).setCell ⟨w.1.size,7,none⟩ (D)).setCell ⟨w.1.size,8,none⟩ (E)).setCell ⟨w.1.size,9,none⟩ (I)).setCell ⟨w.1.size,10,none⟩ (o)):=aA w4 w.1.size c0 c1 c2 c3 c4 y z D E I o;have O:(((((((((((w4.setCell ⟨w.1.size,0,none⟩ (c0)).setCell ⟨w.1.size,1,none⟩ (c1)).setCell ⟨w.1.size,2,none⟩ (c2)).setCell ⟨w.1.size,3,none⟩ (c3)).setCell ⟨w.1.size,4,none⟩ (c4)).setCell ⟨w.1.size,5,none⟩ (y)).setCell ⟨w.1.size,6,none⟩ (z)).setCell ⟨w.1.size,7,none⟩ (D)).setCell ⟨w.1.size,8,none⟩ (E)).setCell ⟨w.1.size,9,none⟩ (I)).setCell ⟨w.1.size,10,none⟩ (o)).1[w.1.size]?=some (.cells #[c0,c1,c2,c3,c4,y,z,D,E,I,o] 67 (0,0)):=az J.b0 c0 c1 c2 c3 c4 y z D E I o;have S:(((((((((((w4.setCell ⟨w.1.size,0,none⟩ (c0)).setCell ⟨w.1.size,1,none⟩ (c1)).setCell ⟨w.1.size,2,none⟩ (c2)).setCell ⟨w.1.size,3,none⟩ (c3)).setCell ⟨w.1.size,4,none⟩ (c4)).setCell ⟨w.1.size,5,none⟩ (y)).setCell ⟨w.1.size,6,none⟩ (z)).setCell ⟨w.1.size,7,none⟩ (D)).setCell ⟨w.1.size,8,none⟩ (E)).setCell ⟨w.1.size,9,none⟩ (I)).setCell ⟨w.1.size,10,none⟩ (o)).1[w.1.size+1]?=some (.cells #[.int .i64 0] 68 (0,0)):=(K.block _ (au J.b1) (by omega)).trans J.b1
 have L:=ag (((((((((((w4.setCell ⟨w.1.size,0,none⟩ (c0)).setCell ⟨w.1.size,1,none⟩ (c1)).setCell ⟨w.1.size,2,none⟩ (c2)).setCell ⟨w.1.size,3,none⟩ (c3)).setCell ⟨w.1.size,4,none⟩ (c4)).setCell ⟨w.1.size,5,none⟩ (y)).setCell ⟨w.1.size,6,none⟩ (z)).setCell ⟨w.1.size,7,none⟩ (D)).setCell ⟨w.1.size,8,none⟩ (E)).setCell ⟨w.1.size,9,none⟩ (I)).setCell ⟨w.1.size,10,none⟩ (o)) (w.1.size+1) 0 (.int .i64 0);have M:=(K.mono (G:=fun i=>i=w.1.size∨i=w.1.size+1) (fun _ _ h=>.inl h)).trans L (fun _ _ h=>.inr h);exact⟨(L.block _ (au O) (by omega)).trans O,aa (ai S 0 _) 0,M,J.below.trans (M.below (by omega) (fun k U=>by omega))⟩
end
section
open Go.RowKit
theorem oE(y:Nat)(p:OA)(c:Nat)(l:L8)(a3:l.length<=140737488351232)(a4:l.length<=c)(w:World)(ab:Hv w)(h:At w p l)(L:Fr.open_ l=.error y):
  Calls Tryz.prog 31 #[.slice p l.length c] w (lg w (Fr.dec l)):=by
 have a8:∀(fn:Fn) (first cap:AV) (w:World),(Instr.makeFunc fn first cap).run Tryz.prog w=.ok (.func fn first cap) w:=fun _ _ _ _=>rfl;obtain⟨r,K⟩:∃r,r=Fr.dec l:=⟨_,rfl⟩
 have X:Hid (r=match Fr.open_ l with
  |.error e=>.error e
  |.ok b=>Fr.rdF (b.headD 0).toNat b.tail):=K
 have ah:=gQq K;rw[<-K];obtain⟨E,V⟩:∃E,E=(w.alloc (.cells #[.int .i64 0,.int .i64 0,.slice none 0 0,.int .i64 0,.int .i64 0,.int .i64 0,.slice none 0 0,.int .i64 0,.int .i64 0,.int .i64 0,.slice none 0 0] 67)).alloc (.cells #[.int .i64 0] 68):=⟨_,rfl⟩;have J:Hid (bm w E 0):=by rw[V];exact gi w
 have Y:Hid ((w.alloc (.cells #[.int .i64 0,.int .i64 0,.slice none 0 0,.int .i64 0,.int .i64 0,.int .i64 0,.slice none 0 0,.int .i64 0,.int .i64 0,.int .i64 0,.slice none 0 0] 67)).alloc (.cells #[.int .i64 0] 68)=E):=by rw[V];exact rfl
 have M:=gQq (xJ p c l a3 a4 E (ab.next J.out.below) (h.on J.out.below));clear K V ab h;rw[L] at M;have a5:=qR L;have a6:((y:Int) != 0)=true:=by rw[bne_iff_ne];omega
 have a1:Hid (r=.error y):=by show _=_;rw[X.out,L]
 clear L X a5 ah
 go_enter_defers Tryz.func31,Tryz.ntmps31
 go_wp2_with fail;rw[Y.out];refine M.out.mono ?_;rintro e w1 ⟨rfl,hb⟩;have o:=J.out.on hb;have bb:w1.cell? ⟨w.1.size,0,none⟩=some (.int .i64 0):=aa o.b0 0;have bN:=ac o.b0 0;have bc:w1.cell? ⟨w.1.size,1,none⟩=some (.int .i64 0):=aa o.b0 1;have bO:=ac o.b0 1;have bi:w1.cell? ⟨w.1.size,2,none⟩=some (.slice none 0 0):=aa o.b0 2;have bX:=ac o.b0 2;have bj:w1.cell? ⟨w.1.size,3,none⟩=some (.int .i64 0):=aa o.b0 3;have b2:=ac o.b0 3;have bk:w1.cell? ⟨w.1.size,4,none⟩=some (.int .i64 0):=aa o.b0 4;have b3:=ac o.b0 4;have bn:w1.cell? ⟨w.1.size,5,none⟩=some (.int .i64 0):=aa o.b0 5;have b4:=ac o.b0 5;have bp:w1.cell? ⟨w.1.size,6,none⟩=some (.slice none 0 0):=aa o.b0 6;have b5:=ac o.b0 6;have bq:w1.cell? ⟨w.1.size,7,none⟩=some (.int .i64 0):=aa o.b0 7;have b6:=ac o.b0 7;have br:w1.cell? ⟨w.1.size,8,none⟩=some (.int .i64 0):=aa o.b0 8;have b7:=ac o.b0 8;have bs:w1.cell? ⟨w.1.size,9,none⟩=some (.int .i64 0):=aa o.b0 9;have b8:=ac o.b0 9;have be:w1.cell? ⟨w.1.size,10,none⟩=some (.slice none 0 0):=aa o.b0 10;have bT:=ac o.b0 10;have b9:w1.cell? ⟨w.1.size+1,0,none⟩=some (.int .i64 0):=aa o.b1 0;have ca:=ac o.b1 0;have D:=o.setE y
 obtain⟨z,I⟩:∃z,z=(((((((((((((w1.setCell ⟨w.1.size+1,0,none⟩ (.int .i64 y)).setCell ⟨w.1.size,0,none⟩ (.int .i64 0)).setCell ⟨w.1.size,1,none⟩ (.int .i64 0)).setCell ⟨w.1.size,2,none⟩ (.slice none 0 0)).setCell ⟨w.1.size,3,none⟩ (.int .i64 0)).setCell ⟨w.1.size,4,none⟩ (.int .i64 0)).setCell ⟨w.1.size,5,none⟩ (.int .i64 0)).setCell ⟨w.1.size,6,none⟩ (.slice none 0 0)).setCell ⟨w.1.size,7,none⟩ (.int .i64 0)).setCell ⟨w.1.size,8,none⟩ (.int .i64 0)).setCell ⟨w.1.size,9,none⟩ (.int .i64 0)).setCell ⟨w.1.size,10,none⟩ (.slice none 0 0)).setCell ⟨w.1.size+1,0,none⟩ (.int .i64 y)).drew:=⟨_,rfl⟩;have O:Aside (fun i=>i=w.1.size) (w1.setCell ⟨w.1.size+1,0,none⟩ (.int .i64 y)) ((((((((((((w1.setCell ⟨w.1.size+1,0,none⟩ (.int .i64 y)).setCell ⟨w.1.size,0,none⟩ (.int .i64 0)).setCell ⟨w.1.size,1,none⟩ (.int .i64 0)).setCell ⟨w.1.size,2,none⟩ (.slice none 0 0)).setCell ⟨w.1.size,3,none⟩ (.int .i64 0)).setCell ⟨w.1.size,4,none⟩ (.int .i64 0)).setCell ⟨w.1.size,5,none⟩ (.int .i64 0)).setCell ⟨w.1.size,6,none⟩ (.slice none 0 0)).setCell ⟨w.1.size,7,none⟩ (.int .i64 0)).setCell ⟨w.1.size,8,none⟩ (.int .i64 0)).setCell ⟨w.1.size,9,none⟩ (.int .i64 0)).setCell ⟨w.1.size,10,none⟩ (.slice none 0 0)):=aA _ w.1.size (.int .i64 0) (.int .i64 0) (.slice none 0 0) (.int .i64 0) (.int .i64 0) (.int .i64 0) (.slice none 0 0) (.int .i64 0) (.int .i64 0) (.int .i64 0) (.slice none 0 0)
 have U:((((((((((((w1.setCell ⟨w.1.size+1,0,none⟩ (.int .i64 y)).setCell ⟨w.1.size,0,none⟩ (.int .i64 0)).setCell ⟨w.1.size,1,none⟩ (.int .i64 0)).setCell ⟨w.1.size,2,none⟩ (.slice none 0 0)).setCell ⟨w.1.size,3,none⟩ (.int .i64 0)).setCell ⟨w.1.size,4,none⟩ (.int .i64 0)).setCell ⟨w.1.size,5,none⟩ (.int .i64 0)).setCell ⟨w.1.size,6,none⟩ (.slice none 0 0)).setCell ⟨w.1.size,7,none⟩ (.int .i64 0)).setCell ⟨w.1.size,8,none⟩ (.int .i64 0)).setCell ⟨w.1.size,9,none⟩ (.int .i64 0)).setCell ⟨w.1.size,10,none⟩ (.slice none 0 0)).1[w.1.size]?=some (.cells #[.int .i64 0,.int .i64 0,.slice none 0 0,.int .i64 0,.int .i64 0,.int .i64 0,.slice none 0 0,.int .i64 0,.int .i64 0,.int .i64 0,.slice none 0 0] 67 (0,0)):=az D.b0 (.int .i64 0) (.int .i64 0) (.slice none 0 0) (.int .i64 0) (.int .i64 0) (.int .i64 0) (.slice none 0 0) (.int .i64 0) (.int .i64 0) (.int .i64 0) (.slice none 0 0);have Z:((((((((((((w1.setCell ⟨w.1.size+1,0,none⟩ (.int .i64 y)).setCell ⟨w.1.size,0,none⟩ (.int .i64 0)).setCell ⟨w.1.size,1,none⟩ (.int .i64 0)).setCell ⟨w.1.size,2,none⟩ (.slice none 0 0)).setCell ⟨w.1.size,3,none⟩ (.int .i64 0)).setCell ⟨w.1.size,4,none⟩ (.int .i64 0)).setCell ⟨w.1.size,5,none⟩ (.int .i64 0)).setCell ⟨w.1.size,6,none⟩ (.slice none 0 0)).setCell ⟨w.1.size,7,none⟩ (.int .i64 0)).setCell ⟨w.1.size,8,none⟩ (.int .i64 0)).setCell ⟨w.1.size,9,none⟩ (.int .i64 0)).setCell ⟨w.1.size,10,none⟩ (.slice none 0 0)).1[w.1.size+1]?=some (.cells #[.int .i64 y] 68 (0,0)):=(O.block _ (au D.b1) (by omega)).trans D.b1
 have S:=ag ((((((((((((w1.setCell ⟨w.1.size+1,0,none⟩ (.int .i64 y)).setCell ⟨w.1.size,0,none⟩ (.int .i64 0)).setCell ⟨w.1.size,1,none⟩ (.int .i64 0)).setCell ⟨w.1.size,2,none⟩ (.slice none 0 0)).setCell ⟨w.1.size,3,none⟩ (.int .i64 0)).setCell ⟨w.1.size,4,none⟩ (.int .i64 0)).setCell ⟨w.1.size,5,none⟩ (.int .i64 0)).setCell ⟨w.1.size,6,none⟩ (.slice none 0 0)).setCell ⟨w.1.size,7,none⟩ (.int .i64 0)).setCell ⟨w.1.size,8,none⟩ (.int .i64 0)).setCell ⟨w.1.size,9,none⟩ (.int .i64 0)).setCell ⟨w.1.size,10,none⟩ (.slice none 0 0)) (w.1.size+1) 0 (.int .i64 y);have aj:Hid (z.1[w.1.size]?=some (.cells #[.int .i64 0,.int .i64 0,.slice none 0 0,.int .i64 0,.int .i64 0,.int .i64 0,.slice none 0 0,.int .i64 0,.int .i64 0,.int .i64 0,.slice none 0 0] 67 (0,0))):=by
  show _=_;rw[I,cz];exact(S.block _ (au U) (by omega)).trans U
 have ak:Hid (z.cell? ⟨w.1.size+1,0,none⟩=some (.int .i64 y)):=by
  have:z.1[w.1.size+1]?=some (.cells #[.int .i64 y] 68 (0,0)):=by rw[I,cz];exact ai Z 0 _
  exact aa this 0
 have a0:Hid (Below w.1.size w z):=by
  have a9:=D.size;rw[I];exact(D.below.trans (((O.mono (G:=fun i=>i=w.1.size∨i=w.1.size+1) (fun _ _ h=>.inl h)).trans S (fun _ _ h=>.inr h)).below (by omega) (fun k a7=>by omega))).drew
 have a2:Hid ((((((((((((((w1.setCell ⟨w.1.size+1,0,none⟩ (.int .i64 y)).setCell ⟨w.1.size,0,none⟩ (.int .i64 0)).setCell ⟨w.1.size,1,none⟩ (.int .i64 0)).setCell ⟨w.1.size,2,none⟩ (.slice none 0 0)).setCell ⟨w.1.size,3,none⟩ (.int .i64 0)).setCell ⟨w.1.size,4,none⟩ (.int .i64 0)).setCell ⟨w.1.size,5,none⟩ (.int .i64 0)).setCell ⟨w.1.size,6,none⟩ (.slice none 0 0)).setCell ⟨w.1.size,7,none⟩ (.int .i64 0)).setCell ⟨w.1.size,8,none⟩ (.int .i64 0)).setCell ⟨w.1.size,9,none⟩ (.int .i64 0)).setCell ⟨w.1.size,10,none⟩ (.slice none 0 0)).setCell ⟨w.1.size+1,0,none⟩ (.int .i64 y)).drew=z):=by rw[I];exact rfl
 clear o D hb I O U Z S M J Y;go_wp2_with fail;refine rJ ?_;go_region_law (fail)
 all_goals
  rw[kX];rw[a2.out];go_wp2;refine⟨_,bu rfl _ _ w.1.size (w.1.size+1) _ #[.int .i64 0,.int .i64 0,.slice none 0 0,.int .i64 0,.int .i64 0,.int .i64 0,.slice none 0 0,.int .i64 0,.int .i64 0,.int .i64 0,.slice none 0 0] _ _ (y:Int) rfl aj.out Tryz.underlying67 rfl (by kernel_rfl) rfl ak.out Tryz.underlying68,?_⟩;rw[a1.out];exact⟨rfl,a0.out⟩
end
section
open Go.RowKit
theorem qk(b:L8)(p:OA)(c:Nat)(l:L8)(d5:l.length<=140737488351232)(d6:l.length<=c)(w:World)(bj:Hv w)(h:At w p l)(bk:Fr.open_ l=.ok b):
  Calls Tryz.prog 31 #[.slice p l.length c] w (lg w (Fr.dec l)):=by
 have eg:∀(fn:Fn) (first cap:AV) (w:World),(Instr.makeFunc fn first cap).run Tryz.prog w=.ok (.func fn first cap) w:=fun _ _ _ _=>rfl;obtain⟨r,bi⟩:∃r,r=Fr.dec l:=⟨_,rfl⟩
 have b8:Hid (r=match Fr.open_ l with
  |.error e=>.error e
  |.ok b=>Fr.rdF (b.headD 0).toNat b.tail):=bi
 have eb:=gQq bi;rw[<-bi];obtain⟨a3,br⟩:∃a3,a3=(w.alloc (.cells #[.int .i64 0,.int .i64 0,.slice none 0 0,.int .i64 0,.int .i64 0,.int .i64 0,.slice none 0 0,.int .i64 0,.int .i64 0,.int .i64 0,.slice none 0 0] 67)).alloc (.cells #[.int .i64 0] 68):=⟨_,rfl⟩;have bb:Hid (bm w a3 0):=by rw[br];exact gi w
 have ds:Hid ((w.alloc (.cells #[.int .i64 0,.int .i64 0,.slice none 0 0,.int .i64 0,.int .i64 0,.int .i64 0,.slice none 0 0,.int .i64 0,.int .i64 0,.int .i64 0,.slice none 0 0] 67)).alloc (.cells #[.int .i64 0] 68)=a3):=by rw[br];exact rfl
 have bq:=gQq (xJ p c l d5 d6 a3 (bj.next bb.out.below) (h.on bb.out.below))
 -- a panic that goes through the door
 have b6:Hid (∀(V:Nat) (D:World) (y:Int),r=.error V->bm w D y->∀(tmps:AV) (U:List Deferred),tmps.getD 2 undef=.pointer (some ⟨w.1.size,0,none⟩)->tmps.getD 3 undef=.pointer (some ⟨w.1.size+1,0,none⟩)->U=[{ target:=.fn (.func 62) #[.pointer (some ⟨w.1.size,0,none⟩),.pointer (some ⟨w.1.size+1,0,none⟩)],args:=#[] }]->bodyPostD Tryz.prog Tryz.f31 (lg w r) (Exit.panic (dK V)) { tmps:=tmps,defers:=U } D):=by
  intro V D y X bc tmps U a4 a5 bT;subst bT;refine leaves_cons (f:=62) (args:=#[.pointer (some ⟨w.1.size,0,none⟩),.pointer (some ⟨w.1.size+1,0,none⟩)]) (by simp) (by simp[go_sem]) ?_;refine(ig w.1.size (w.1.size+1) V y D bc.b0 bc.b1 (by omega)).mono ?_;rintro e d9 ea ⟨rfl,rfl,Y,Z,ab⟩;refine⟨_,bu rfl tmps _ w.1.size (w.1.size+1) _ #[.int .i64 0,.int .i64 0,.slice none 0 0,.int .i64 0,.int .i64 0,.int .i64 0,.slice none 0 0,.int .i64 0,.int .i64 0,.int .i64 0,.slice none 0 0] _ _ (V:Int) a4 Y Tryz.underlying67 rfl (by kernel_rfl) a5 (aa Z 0) Tryz.underlying68,?_⟩;rw[X];exact⟨rfl,bc.below.trans (ab.below (by have:=bc.size;omega) (fun k hk=>by omega))⟩
 -- the way out without one
 have bp:Hid (∀(ah:World) (u:AV) (f:Fr),r=.ok f->ah.1[w.1.size]?=some (.cells u 67 (0,0))->u.size=11->ah.cell? ⟨w.1.size+1,0,none⟩=some (.int .i64 0)->iN ah w.1.size u f->Below w.1.size w ah->∀(tmps:AV) (U:List Deferred),tmps.getD 2 undef=.pointer (some ⟨w.1.size,0,none⟩)->tmps.getD 3 undef=.pointer (some ⟨w.1.size+1,0,none⟩)->U=[{ target:=.fn (.func 62) #[.pointer (some ⟨w.1.size,0,none⟩),.pointer (some ⟨w.1.size+1,0,none⟩)],args:=#[] }]->bodyPostD Tryz.prog Tryz.f31 (lg w r) Exit.ret { tmps:=tmps,defers:=U } ah):=by
  intro ah u f X d3 d8 d1 d2 d0 tmps U a4 a5 bT;subst bT;refine leaves_cons (f:=62) (args:=#[.pointer (some ⟨w.1.size,0,none⟩),.pointer (some ⟨w.1.size+1,0,none⟩)]) (by simp) (by simp[go_sem]) ?_;refine(mP ⟨w.1.size,0,none⟩ ⟨w.1.size+1,0,none⟩ _).mono ?_;rintro e d9 ea ⟨rfl,rfl,rfl⟩;refine⟨_,bu rfl tmps _ w.1.size (w.1.size+1) _ u _ _ 0 a4 d3 Tryz.underlying67 rfl (by rw[d8];kernel_rfl) a5 d1 Tryz.underlying68,?_⟩;rw[X];exact⟨u,rfl,d2,d0⟩
 clear bi br bj h;rw[bk] at bq;obtain⟨ef,cs,ck⟩:=Fr.open_ok bk;obtain⟨x,t,rfl⟩:∃x t,b=x::t:=by
  cases b with
  |nil=>simp at ck
  |cons x t=>exact⟨x,t,rfl⟩
 have a2:Hid (r=Fr.rdF x.toNat t):=by show _=_;rw[b8.out,bk];rfl
 have d7:t.length<=2200:=by
  have O:=(Cob.stuff_length (Fr.check (x::t))).1;rw[cs,Fr.check_length,List.length_cons] at O;omega
 have em:=x.toNat_lt;clear bk b8 cs ck
 go_enter_defers Tryz.func31,Tryz.ntmps31
 go_wp2_with fail;rw[ds.out];refine bq.out.mono ?_;rintro e w1 ⟨g,I,cap,rfl,bN,cn,ee,hb⟩;have a6:=bb.out.on hb;have ei:=a6.size;have er:w1.cell? ⟨w.1.size+1,0,none⟩=some (.int .i64 0):=aa a6.b1 0;have eu:=ac a6.b1 0;have ci:=a6.setE 0;have el:=bb.out.size;obtain⟨ec,ed,b2,cp,co⟩:=aC bN (by simp);injection b2 with b2;injection b2 with hgo1 hgo2;subst hgo1 hgo2;have z0:w1.cell? ⟨g,I,none⟩=some (.int .u8 (x.toNat:Int)):=co 0 (by simp);rw[List.length_cons] at cn;have ep:∀w',(Instr.slice 22 (.slice (some ⟨g,I,none⟩) (t.length+1) cap) (some (.int .i64 1)) none none).run Tryz.prog w'=.ok (.slice (dN (some ⟨g,I,none⟩) 1 cap) t.length (cap-1)) w':=fun w'=>by
  have:=eI (some ⟨g,I,none⟩) (t.length+1) cap 1 (by omega) w';rw[Nat.add_sub_cancel] at this;exact this
 obtain⟨D,a7⟩:∃D,D=(w1.setCell ⟨w.1.size+1,0,none⟩ (.int .i64 0)).alloc (.cells #[.slice (dN (some ⟨g,I,none⟩) 1 cap) t.length (cap-1)] 131):=⟨_,rfl⟩;have cr:(w1.setCell ⟨w.1.size+1,0,none⟩ (.int .i64 0)).1.size=w1.1.size:=by simp[World.setCell]
 have bO:Below (w1.setCell ⟨w.1.size+1,0,none⟩ (.int .i64 0)).1.size (w1.setCell ⟨w.1.size+1,0,none⟩ (.int .i64 0)) D:=by rw[a7];exact gQy
 have b7:Hid (bm w D 0):=ci.on bO;have en:D.1.size=w1.1.size+1:=by rw[a7];simp[cr]
 have bs:Aside (fun i=>i=w.1.size+1) w1 D:=by
  have O:=ag w1 (w.1.size+1) 0 (.int .i64 0);exact O.trans (al bO (fun i=>i=w.1.size+1)) (fun _ _ h=>h)
 have z2:D.cell? ⟨g,I,none⟩=some (.int .u8 (x.toNat:Int)):=(bs.cell (p:=⟨g,I,none⟩) cp (by show ¬g=_;omega)).trans z0;have cj:At D (some ⟨g,I,none⟩) (x::t):=bN.aside bs (fun b I z=>by injection z with z;injection z with hp1 _;omega);have b9:Hid (cH D w1.1.size w1.1.size t):=by
  refine⟨⟨dN (some ⟨g,I,none⟩) 1 cap,cap-1,?_,?_,by omega,fun _=>gF (fun a K=>by injection K with K;rw[<-K];exact cp)⟩,d7,gQx⟩
  ·rw[a7];have:=am (w1.setCell ⟨w.1.size+1,0,none⟩ (.int .i64 0)) (.cells #[.slice (dN (some ⟨g,I,none⟩) 1 cap) t.length (cap-1)] 131);rw[cr] at this;exact this
  ·have:=cj.cut 1 cap (by simpa using cn);simpa using this
 have a9:=gQq (xk x.toNat t w1.1.size w1.1.size D b9.out);obtain⟨b4,b3⟩:∃b4,b4=Fr.rdF x.toNat t:=⟨_,rfl⟩;rw[<-b3] at a9 a2;have ca:=gQq b3;have dv:Hid ((w1.setCell ⟨w.1.size+1,0,none⟩ (.int .i64 0)).alloc (.cells #[.slice (dN (some ⟨g,I,none⟩) 1 cap) t.length (cap-1)] 131)=D):=by rw[a7];exact rfl
 rw[List.length_cons];clear a6 ci hb bN co cj bs bO a7 bq b3;go_wp2_with fail;rw[dv.out];refine a9.out.mono ?_;intro e bn be;cases b4 with
 |error V=>
  obtain⟨X,K⟩:=be.bad;subst X;have ak:=gQq (b7.out.step K (by omega));clear be K a9;go_wp2;exact b6.out V bn _ a2.out ak.out _ _ rfl rfl rfl
 |ok f=>
  obtain⟨v,X,bj,K⟩:=be.good;subst X;obtain⟨-,-,E,L,J,-⟩:=Fr.rdF_ok ca.out.symm;have ak:=gQq (b7.out.step K (by omega));have eh:=K.size;clear be K a9 ca b6 b9;rcases bj with ⟨hk,cu,rfl,z⟩ | ⟨hk,cu,rfl,z⟩ | ⟨hk,cu,rfl,z⟩
  ·obtain⟨sp,ct,rfl,z⟩:=z;have S:=gQq z;have M:=gQq (sM f.number sp f.cols.length ct bn);have a1:=gQq (And.intro hk (And.intro E (And.intro L J)));clear z hk E L J;go_wp2_with fail;refine M.out.mono ?_;rintro e w4 ⟨rfl,hb⟩;have o:=ak.out.on hb;have aj:=gQq hb;have cq:=hb.size;have cv:w4.cell? ⟨w.1.size,0,none⟩=some (.int .i64 0):=aa o.b0 0;have dc:=ac o.b0 0;have cw:w4.cell? ⟨w.1.size,1,none⟩=some (.int .i64 0):=aa o.b0 1;have dd:=ac o.b0 1;have cy:w4.cell? ⟨w.1.size,2,none⟩=some (.slice none 0 0):=aa o.b0 2;have df:=ac o.b0 2;have c5:w4.cell? ⟨w.1.size,3,none⟩=some (.int .i64 0):=aa o.b0 3;have dh:=ac o.b0 3;have c6:w4.cell? ⟨w.1.size,4,none⟩=some (.int .i64 0):=aa o.b0 4;have di:=ac o.b0 4;have c7:w4.cell? ⟨w.1.size,5,none⟩=some (.int .i64 0):=aa o.b0 5;have dj:=ac o.b0 5;have c8:w4.cell? ⟨w.1.size,6,none⟩=some (.slice none 0 0):=aa o.b0 6;have dk:=ac o.b0 6;have c9:w4.cell? ⟨w.1.size,7,none⟩=some (.int .i64 0):=aa o.b0 7;have dn:=ac o.b0 7;have da:w4.cell? ⟨w.1.size,8,none⟩=some (.int .i64 0):=aa o.b0 8;have dp:=ac o.b0 8;have db:w4.cell? ⟨w.1.size,9,none⟩=some (.int .i64 0):=aa o.b0 9;have dr:=ac o.b0 9;have cx:w4.cell? ⟨w.1.size,10,none⟩=some (.slice none 0 0):=aa o.b0 10;have de:=ac o.b0 10;have cd:w4.cell? ⟨w.1.size+1,0,none⟩=some (.int .i64 0):=aa o.b1 0;have cf:=ac o.b1 0;have a0:=gQq (p6 o (.int .i64 1) (.int .i64 f.number) (.slice sp f.cols.length ct) (.int .i64 0) (.int .i64 0) (.int .i64 0) (.slice none 0 0) (.int .i64 0) (.int .i64 0) (.int .i64 0) (.slice none 0 0))
   clear hb o M;go_wp2;obtain⟨Y,Z,ab,a8⟩:=a0.out;obtain⟨hk,E,L,J⟩:=a1.out;exact bp.out _ _ f a2.out Y rfl Z (oA J hk (iB (iB S.out (al aj.out (fun i=>i=w.1.size∨i=w.1.size+1)) (fun _ O a4 a5=>by omega)) ab (fun _ O a4 a5=>by omega)) (by omega)) a8 _ _ rfl rfl rfl
  ·obtain⟨cc,cb,rfl,z⟩:=z;have S:=gQq z;have M:=gQq (sL f.number f.seq f.first f.rows cc f.block.length cb bn);have a1:=gQq (And.intro hk (And.intro E (And.intro L J)));clear z hk E L J;go_wp2_with fail;refine M.out.mono ?_;rintro e w4 ⟨rfl,hb⟩;have o:=ak.out.on hb;have aj:=gQq hb;have cq:=hb.size;have cv:w4.cell? ⟨w.1.size,0,none⟩=some (.int .i64 0):=aa o.b0 0;have dc:=ac o.b0 0;have cw:w4.cell? ⟨w.1.size,1,none⟩=some (.int .i64 0):=aa o.b0 1;have dd:=ac o.b0 1;have cy:w4.cell? ⟨w.1.size,2,none⟩=some (.slice none 0 0):=aa o.b0 2;have df:=ac o.b0 2;have c5:w4.cell? ⟨w.1.size,3,none⟩=some (.int .i64 0):=aa o.b0 3;have dh:=ac o.b0 3;have c6:w4.cell? ⟨w.1.size,4,none⟩=some (.int .i64 0):=aa o.b0 4;have di:=ac o.b0 4;have c7:w4.cell? ⟨w.1.size,5,none⟩=some (.int .i64 0):=aa o.b0 5;have dj:=ac o.b0 5;have c8:w4.cell? ⟨w.1.size,6,none⟩=some (.slice none 0 0):=aa o.b0 6;have dk:=ac o.b0 6;have c9:w4.cell? ⟨w.1.size,7,none⟩=some (.int .i64 0):=aa o.b0 7;have dn:=ac o.b0 7;have da:w4.cell? ⟨w.1.size,8,none⟩=some (.int .i64 0):=aa o.b0 8;have dp:=ac o.b0 8;have db:w4.cell? ⟨w.1.size,9,none⟩=some (.int .i64 0):=aa o.b0 9;have dr:=ac o.b0 9;have cx:w4.cell? ⟨w.1.size,10,none⟩=some (.slice none 0 0):=aa o.b0 10;have de:=ac o.b0 10;have cd:w4.cell? ⟨w.1.size+1,0,none⟩=some (.int .i64 0):=aa o.b1 0;have cf:=ac o.b1 0
   have a0:=gQq (p6 o (.int .i64 2) (.int .i64 f.number) (.slice none 0 0) (.int .i64 f.seq) (.int .i64 f.first) (.int .i64 f.rows) (.slice cc f.block.length cb) (.int .i64 0) (.int .i64 0) (.int .i64 0) (.slice none 0 0));clear hb o M;go_wp2;obtain⟨Y,Z,ab,a8⟩:=a0.out;obtain⟨hk,E,L,J⟩:=a1.out;have bX:f.block.length<=2200:=by
    have O:=congrArg List.length L;unfold Fr.fields at O;rw[if_neg (by omega),if_pos hk,List.length_append] at O;omega
   exact bp.out _ _ f a2.out Y rfl Z (oB J hk ((S.out.on aj.out).aside ab (fun k hk d4=>by have:=(S.out.lt k hk).1;omega)) bX (by omega)) a8 _ _ rfl rfl rfl
  ·obtain⟨cg,ce,rfl,z⟩:=z;have S:=gQq z;have M:=gQq (sK f.index.at_ f.index.frames f.index.rows cg f.index.entries.length ce bn);have a1:=gQq (And.intro hk (And.intro E (And.intro L J)));clear z hk E L J;go_wp2_with fail;refine M.out.mono ?_;rintro e w4 ⟨rfl,hb⟩;have o:=ak.out.on hb;have aj:=gQq hb;have cq:=hb.size;have cv:w4.cell? ⟨w.1.size,0,none⟩=some (.int .i64 0):=aa o.b0 0;have dc:=ac o.b0 0;have cw:w4.cell? ⟨w.1.size,1,none⟩=some (.int .i64 0):=aa o.b0 1;have dd:=ac o.b0 1;have cy:w4.cell? ⟨w.1.size,2,none⟩=some (.slice none 0 0):=aa o.b0 2;have df:=ac o.b0 2;have c5:w4.cell? ⟨w.1.size,3,none⟩=some (.int .i64 0):=aa o.b0 3;have dh:=ac o.b0 3;have c6:w4.cell? ⟨w.1.size,4,none⟩=some (.int .i64 0):=aa o.b0 4;have di:=ac o.b0 4;have c7:w4.cell? ⟨w.1.size,5,none⟩=some (.int .i64 0):=aa o.b0 5;have dj:=ac o.b0 5;have c8:w4.cell? ⟨w.1.size,6,none⟩=some (.slice none 0 0):=aa o.b0 6;have dk:=ac o.b0 6;have c9:w4.cell? ⟨w.1.size,7,none⟩=some (.int .i64 0):=aa o.b0 7;have dn:=ac o.b0 7;have da:w4.cell? ⟨w.1.size,8,none⟩=some (.int .i64 0):=aa o.b0 8;have dp:=ac o.b0 8;have db:w4.cell? ⟨w.1.size,9,none⟩=some (.int .i64 0):=aa o.b0 9;have dr:=ac o.b0 9;have cx:w4.cell? ⟨w.1.size,10,none⟩=some (.slice none 0 0):=aa o.b0 10;have de:=ac o.b0 10;have cd:w4.cell? ⟨w.1.size+1,0,none⟩=some (.int .i64 0):=aa o.b1 0;have cf:=ac o.b1 0
   have a0:=gQq (p6 o (.int .i64 3) (.int .i64 0) (.slice none 0 0) (.int .i64 0) (.int .i64 0) (.int .i64 0) (.slice none 0 0) (.int .i64 f.index.at_) (.int .i64 f.index.frames) (.int .i64 f.index.rows) (.slice cg f.index.entries.length ce));clear hb o M;go_wp2;obtain⟨Y,Z,ab,a8⟩:=a0.out;obtain⟨hk,E,L,J⟩:=a1.out;have bX:f.index.entries.length<=64:=by
    unfold Fr.err0 at E;rw[if_neg (by omega),if_neg (by omega),if_pos hk] at E;unfold Fr.idxErr at E;split at E
    ·omega
    ·split at E
     ·omega
     ·omega
   exact bp.out _ _ f a2.out Y rfl Z (uZ J hk ((S.out.on aj.out).aside ab (fun k hk d4=>by have:=(S.out.lt k hk).1;omega)) bX (by omega)) a8 _ _ rfl rfl rfl
theorem rj(p:OA)(c:Nat)(l:L8)(o:l.length<=140737488351232)(y:l.length<=c)(w:World)(z:Hv w)(h:At w p l):
  Calls Tryz.prog 31 #[.slice p l.length c] w (lg w (Fr.dec l)):=by
 cases mo:Fr.open_ l with
 |error er=>exact oE er p c l o y w z h mo
 |ok b=>exact qk b p c l o y w z h mo
end
end Go.Proofs.YtbahfgdbjgkklaaGreatDoor
