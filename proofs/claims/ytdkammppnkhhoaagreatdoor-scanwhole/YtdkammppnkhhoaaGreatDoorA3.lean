import Derived.Test.YtdkammppnkhhoaaGreatDoorB38
import Derived.Test.YtdkammppnkhhoaaGreatDoorB32
import Derived.Test.YtdkammppnkhhoaaGreatDoorB13
set_option maxRecDepth 100000
set_option maxHeartbeats 2000000
namespace Go.Proofs.YtdkammppnkhhoaaGreatDoor
variable{C D Y n:Nat}{W W' w:World}{st:Wk}
section
open Go.RowKit
attribute [local go_sem] am
def ar:Fr:={ Fr0 with kind:=1,cols:=[⟨⟨#[97]⟩,⟨2,[]⟩,false,V0⟩] }
theorem iN:ar.wf:=by
 refine⟨by simp[ar,Fr.i64],by simp[ar,Fr0,Fr.i64],?_,by simp[ar,Fr0,Fr.i64],by simp[ar,Fr0,Fr.i64],by simp[ar,Fr0,Fr.i64],by simp[ar,Fr0,lq,Fr.i64],by simp[ar,Fr0,lq]⟩;intro c o;simp[ar] at o;subst o;exact⟨by decide,Ty.wf_mk.2 ⟨by omega,fun x y=>by cases y⟩,Sch.v0_wf⟩
theorem rm(w:World)(k:Int)(p:OA)(c:Nat):aD w (al k p 0 c) (.mk k []):=.mk (xs:=[]) (fun _=>#[]) (by simp) (by simp) (fun o=>absurd rfl o) (fun j y=>by simp at y)
theorem ri(w:World)(k i:Int)(b:Nat)(t:ByteArray)(p:OA)(c:Nat):aC w (cells5 k i b t p 0 c) (.mk k i b t []):=.mk (xs:=[]) (fun _=>#[]) (by simp) (by simp) (fun o=>absurd rfl o) (fun j y=>by simp at y)
end
section
open Go.RowKit
attribute [local go_sem] am
theorem mZ:Sch.colErr [] ⟨⟨#[97]⟩,⟨2,[]⟩,false,V0⟩=0:=Sch.col_make (by kernel_rfl) rfl (Sch.ty_leaf (by omega) (by omega) (by omega)) (fun _=>Sch.v0_fix) (fun h=>by cases h)
theorem gK:Sch.bytes ar.cols=[1,1,97,2,0]:=by
 unfold Sch.bytes ar Sch.cB;simp only[List.map_cons,List.map_nil,Sch.tyB_mk]
 kernel_rfl
theorem pz:Sch.err ar.cols=0:=Sch.err_make (by decide) (by decide) (by
 show Sch.colsErr [] [⟨⟨#[97]⟩,⟨2,[]⟩,false,V0⟩]=0
 rw[Sch.colsErr,if_pos mZ,Sch.colsErr]) (by rw[gK];decide)
theorem mY:Fr.err0 ar=0:=by
 unfold Fr.err0;rw[if_pos (show ar.kind=1 from rfl),if_neg (by decide)];exact pz
theorem mX:Fr.head ar=[1,0,1,1,97,2,0]:=by
 unfold Fr.head Fr.fields;rw[if_pos (show ar.kind=1 from rfl),gK]
 kernel_rfl
theorem dJ:(Fr.run ar).length=12:=by
 unfold Fr.run;rw[mX]
 kernel_rfl
theorem gx:Fr.err ar=0:=by
 unfold Fr.err;rw[mY,if_neg (by decide),if_neg (by rw[dJ];decide)]
theorem pA:Fr.dec (Fr.run ar)=.ok (Fr.norm ar):=Fr.dec_run gx iN.2.2.1
end
section
open Go.RowKit
def dL:AV:=#[.string ⟨#[97]⟩,.int .i64 2,.slice none 0 0,.bool false,.int .i64 0,.int .i64 0,.float .f64 0,.string ⟨#[]⟩,.slice none 0 0]
theorem ma{b:Nat}(y:W.1[b]?=some (.cells dL 79 (0,0))):bw W (some ⟨b,0,none⟩) ar.cols:=by
 have o:=aa y;intro j z;have A:j<1:=z;obtain rfl:j=0:=by omega
 refine⟨av ⟨#[97]⟩ 2 none 0 0 false 0 0 0 ⟨#[]⟩ none 0 0,⟨2,none,0,0,0,0,0,⟨#[]⟩,none,0,0,rfl,rm W 2 none 0,ri W 0 0 0 ⟨#[]⟩ none 0⟩,⟨b,0,⟨#[97]⟩,2,none,0,0,false,0,0,0,⟨#[]⟩,none,0,0,rfl,az y,rfl,?_⟩⟩;exact⟨o 0,o 1,o 2,o 3,o 4,o 5,o 6,o 7,o 8⟩
theorem uZ(w:World):Calls Tryz.prog 12 #[] w fun e w'=>e=.returned (.agg #[.slice (some ⟨w.1.size+1,0,none⟩) 1 1])∧w'.1[w.1.size+1]?=some (.cells dL 79 (0,0))∧Below w.1.size w w'∧w'.1.size=w.1.size+2:=by
 obtain⟨W,o⟩:∃W,W=(w.alloc (.cells #[.slice (some ⟨w.1.size+1,0,none⟩) 1 1] 41)).alloc (.cells dL 79):=⟨_,rfl⟩;have y:W.1[w.1.size]?=some (.cells #[.slice (some ⟨w.1.size+1,0,none⟩) 1 1] 41 (0,0)):=by rw[o,aG _ _ (by simp)];exact ag w _
 have z:W.1[w.1.size+1]?=some (.cells dL 79 (0,0)):=by
  rw[o];have:=ag (w.alloc (.cells #[.slice (some ⟨w.1.size+1,0,none⟩) 1 1] 41)) (.cells dL 79);simpa using this
 have I:Hid (Below w.1.size w W):=by rw[o];exact xV.alloc (by simp) _
 have K:Hid (W.1.size=w.1.size+2):=by show _=_;rw[o];simp
 have E:=xX z;have A:=xX y;have J:Hid ((w.alloc (.cells #[.slice (some ⟨w.1.size+1,0,none⟩) 1 1] 41)).alloc (.cells #[.string ⟨#[97]⟩,.int .i64 2,.slice none 0 0,.bool false,.int .i64 0,.int .i64 0,.float .f64 0,.string ⟨#[]⟩,.slice none 0 0] 79)=W):=o.symm;clear y z o;go_enter Tryz.func12,Tryz.ntmps12;go_wp2;rw[J.out];refine bodyPost_ret (results_cell_row rfl _ _ w.1.size _ _ _ _ rfl A.out Tryz.underlying41 rfl (by kernel_rfl)) rfl ?_;exact⟨rfl,E.out,I.out,K.out⟩
structure vD(w w':World)(l:L8)(g r:Nat)(v u:Value)(x k:Nat):Prop where
 dev:aH w' w.1.size g v { Dv.new 1048576 with b:=l,safe:=l.length } x k
 ref:aZ w' w.1.size r u { Dv.new 1048576 with b:=l,safe:=l.length }
 below:Below w.1.size w w'
 apart:g≠r∧v.ownBlock≠some r∧u.ownBlock≠some g∧∀i,v.ownBlock=some i->u.ownBlock≠some i
theorem vV(p:OA)(c:Nat)(l:L8)(b7:l.length<=2097152)(w:World)(X:At w p l):
  Calls Tryz.prog 5 #[.slice p l.length c] w fun e w'=>∃g r v u x k,e=.returned (.tuple #[.pointer (some ⟨g,0,none⟩),.pointer (some ⟨r,0,none⟩)])∧vD w w' l g r v u x k:=by
 have bb:=xX (oZ 1048576 (by omega) w);have a6:=xX X;have bN:l≠[]->∀b z,p=some ⟨b,z,none⟩->b<w.1.size:=fun A b z E=>by
  rcases X with I | ⟨b3,ci,I,b4,-⟩
  ·exact absurd I A
  ·rw[E] at I;simp only[Option.some.injEq,Addr.mk.injEq,and_true] at I;omega
 have a9:=xX bN;clear X bN;go_enter Tryz.func5,Tryz.ntmps5;go_wp2_with fail;refine bb.out.mono ?_;rintro e w1 ⟨rfl,bn,bl⟩;have bc:=xX (pL 1048576 (by omega) w1);have O:=xX bn;have M:=xX bl;clear bn bl bb;go_wp2_with fail;refine bc.out.mono ?_;rintro e b2 ⟨rfl,a1,K⟩;have bp:=O.out.below K;have Z:=M.out.trans (K.mono M.out.size);have b8:=M.out.size;have b9:=K.size;have b6:=O.out.lt;have aj:=xu bp p c l (a6.out.on Z) (fun A b z E o=>by have:=a9.out A b z E;omega) (by simp[Dv.new]) (by omega);have V:Dv.tail (Dv.new 1048576) l=(0,{ Dv.new 1048576 with b:=l,safe:=l.length }):=by
  unfold Dv.tail;rw[if_neg (by simp[Dv.new];omega)];simp[Dv.new]
 rw[V] at aj;have be:=xX aj;have bd:=xX a1;have a7:=xX Z;have cc:w1.1.size<b2.1.size:=a1.lt;clear aj a1 Z bp K O bc;go_wp2_with fail;refine be.out.mono ?_;rintro e b0 ⟨rfl,a4,a5,a3,bq,J,bX⟩;have bO:=bd.out.aside J (fun o=>by rcases o with o | o;exact absurd o (by omega);simp[Value.ownBlock] at o) (fun i y=>by simp[Value.ownBlock] at y);have ah:Below w.1.size w b0:=a7.out.trans (J.below (by omega) (fun i y o=>by
  rcases o with o | o
  ·omega
  ·simp[Value.ownBlock] at o))
 have cb:=J.size;have ak:=ua bO p c l (by omega) (a6.out.on ah) (fun A b z E=>⟨by have:=a9.out A b z E;omega,by simp[Value.ownBlock]⟩) (by simp[Dv.new]) (by omega);rw[V] at ak;have bj:=xX ak;have R:=xX bq;have a8:=xX ah;have U:=xX bX;clear ak bq J bX bO ah be bd a7;go_wp2_with fail;refine bj.out.mono ?_;rintro e w4 ⟨rfl,u4,L,a0,bT⟩;have a2:∀i,u4.ownBlock=some i->b0.1.size<=i:=fun i y=>by
  rcases bT with o | o
  ·rw[o] at y;simp[Value.ownBlock] at y
  ·have:=o i y;simpa[Value.ownBlock] using this
 clear bT;have bs:aH w4 w.1.size w.1.size a4 { Dv.new 1048576 with b:=l,safe:=l.length } a5 a3:=R.out.aside a0 (fun o=>by
  rcases o with o | o
  ·omega
  ·simp[Value.ownBlock] at o) (fun i y o=>by
  rcases o with o | o
  ·have:=U.out i y;simp[Value.ownBlock] at this;omega
  ·simp[Value.ownBlock] at o)
 have bk:Below w.1.size w w4:=a8.out.trans (a0.below (by omega) (fun i y o=>by
  rcases o with o | o
  ·omega
  ·simp[Value.ownBlock] at o))
 have b1:Hid (vD w w4 l w.1.size w1.1.size a4 u4 a5 a3):=by
  refine⟨bs,⟨L.lies,L.has.low (by omega),by omega,L.apart⟩,bk,by omega,fun o=>?_,fun o=>?_,fun i y o=>?_⟩
  ·have:=U.out _ o;simp[Value.ownBlock] at this;omega
  ·have:=a2 _ o;omega
  ·have b5:=a2 _ o;have:=(R.out.has.lt i y).2;omega
 clear L a0 a2 bs bk bj R a8 U V;go_wp2;go_ret2;exact⟨_,_,a4,u4,a5,a3,rfl,b1.out⟩
end
section
open Go.RowKit
def bi:Fr:={ Fr0 with kind:=2,rows:=2,block:=[0,2,4] }
theorem kT:bi.wf:=by
 refine⟨by simp[bi,Fr.i64],by simp[bi,Fr0,Fr.i64],by simp[bi,Fr0],by simp[bi,Fr0,Fr.i64],by simp[bi,Fr0,Fr.i64],by simp[bi,Fr.i64],by simp[bi,Fr0,lq,Fr.i64],by simp[bi,Fr0,lq]⟩
theorem qL:Fr.err0 bi=0:=by
 unfold Fr.err0;rw[if_neg (by decide),if_pos (show bi.kind=2 from rfl),if_neg (by decide)]
theorem tf:Fr.err bi=0:=by
 unfold Fr.err;rw[if_neg (by rw[qL];decide)];have:(Fr.run bi).length<=2200:=by decide +kernel
 rw[if_neg (by omega)]
def wk1:Wk:=Sc.take Sc.new ar 0
def wk2:Wk:=Sc.take wk1 bi 20
theorem sD:Sc.may Sc.new bi 0=false:=by
 unfold Sc.may;rw[show Sc.follows Sc.new bi 0=false by unfold Sc.follows;rw[if_neg (by decide),if_pos (show bi.kind=2 from rfl)];decide];simp
theorem sA:Sc.may Sc.new ar 0=true:=by
 unfold Sc.may;rw[gx,show Sc.follows Sc.new ar 0=true by unfold Sc.follows;rw[if_pos (show ar.kind=1 from rfl),if_neg (by decide)];decide];decide
theorem sC:Sc.may wk1 bi 20=true:=by
 unfold Sc.may;rw[tf,show Sc.follows wk1 bi 20=true by unfold Sc.follows;rw[if_neg (by decide),if_pos (show bi.kind=2 from rfl)];exact decide_eq_true ⟨rfl,rfl,rfl⟩];decide
theorem sB:Sc.may wk2 bi 40=false:=by
 unfold Sc.may;rw[show Sc.follows wk2 bi 40=false by unfold Sc.follows;rw[if_neg (by decide),if_pos (show bi.kind=2 from rfl)];exact decide_eq_false (fun o=>by have y:(0:Int)=0+1:=o.2.1;omega)];simp
theorem uA:Sc.next Sc.new bi 0=Sc.new:=by unfold Sc.next;rw[sD];rfl
theorem uu:Sc.next Sc.new ar 0=wk1:=by unfold Sc.next;rw[sA];rfl
theorem uz:Sc.next wk1 bi 20=wk2:=by unfold Sc.next;rw[sC];rfl
theorem uw:Sc.next wk2 bi 40=wk2:=by unfold Sc.next;rw[sB];rfl
theorem rh:wk2.ents=[⟨20,0,0⟩]:=rfl
theorem tK:wk2.sch 0=some ⟨ar.cols.map Col.fix,0⟩:=rfl
theorem re:Sch.same (ar.cols.map Col.fix) ar.cols=true:=(Sch.same_fix _ _).2 (by rw[List.map_map];exact List.map_congr_left fun c _=>Fr.col_fix_idem c)
theorem uB:Sc.at_ (0::(Fr.run ar++[0])) 0=.ok (Fr.norm ar,14):=by
 have o:=dJ;have z:((0::(Fr.run ar++[0])).drop ((0:Int).toNat)).take 2202=0::(Fr.run ar++0::[]):=by
  show(0::(Fr.run ar++[0])).take 2202=_;rw[List.take_of_length_le (by simp;omega)]
 unfold Sc.at_;rw[if_neg (by simp;omega),if_neg (by simp;omega),z,Sc.runOf_mk (fun y=>by rw[y] at o;simp at o) (Fr.run_nz ar)];simp only[pA];rw[o];rfl
theorem sF:Sc.at_ (0::(Fr.run ar++[0])) 14=.error 140:=by
 have o:=dJ;unfold Sc.at_;rw[if_neg (by simp;omega),if_pos (by simp;omega)]
end
section
open Go.RowKit
structure Lv(W:World)(S C D Y:Nat):Prop where
 s:W.1[S]?=some (.cells #[.int .i64 1,.int .i64 0,.slice (some ⟨C,0,none⟩) 1 1,.int .i64 0,.int .i64 0,.int .i64 0,.slice none 0 0,.int .i64 0,.int .i64 0,.int .i64 0,.slice none 0 0] 47 (0,0))
 c:W.1[C]?=some (.cells dL 79 (0,0))
 d:W.1[D]?=some (.cells #[.int .i64 2,.int .i64 0,.slice none 0 0,.int .i64 0,.int .i64 0,.int .i64 2,.slice (some ⟨Y,0,none⟩) 3 3,.int .i64 0,.int .i64 0,.int .i64 0,.slice none 0 0] 47 (0,0))
 y:W.1[Y]?=some (.cells #[.int .u8 0,.int .u8 2,.int .u8 4] 5 (0,0))
theorem Lv.flS{S:Nat}(h:Lv W S C D Y):aP W #[.int .i64 1,.int .i64 0,.slice (some ⟨C,0,none⟩) 1 1,.int .i64 0,.int .i64 0,.int .i64 0,.slice none 0 0,.int .i64 0,.int .i64 0,.int .i64 0,.slice none 0 0] ar :=
 ⟨some ⟨C,0,none⟩,1,none,0,none,0,rfl,by decide,by decide,ma h.c,by decide,by decide,.inl rfl,by decide,by decide,fW _ _⟩
theorem Lv.flD{S:Nat}(h:Lv W S C D Y):aP W #[.int .i64 2,.int .i64 0,.slice none 0 0,.int .i64 0,.int .i64 0,.int .i64 2,.slice (some ⟨Y,0,none⟩) 3 3,.int .i64 0,.int .i64 0,.int .i64 0,.slice none 0 0] bi:=by
 refine⟨none,0,some ⟨Y,0,none⟩,3,none,0,rfl,by decide,by decide,fun j o=>by simp[bi,Fr0] at o,by decide,by decide,.inr ⟨Y,0,rfl,az h.y,fun j o=>?_⟩,by decide,by decide,fW _ _⟩;have A:j<3:=o;have z:=aa h.y;rw[Nat.zero_add,z j];have:j=0∨j=1∨j=2:=by omega
 rcases this with rfl | rfl | rfl <;> rfl
theorem Lv.aside{S a I B:Nat}{v:Value}{g:Int->Option Value}{s:Wk}{G:Nat->Prop}(h:Lv W S C D Y)(E:ax W B a I n v g s G)(L:Aside (eV a I v) W W'):Lv W' S C D Y:=by
 have key:∀{i:Nat} {A:AV} {T:TypeId},W.1[i]?=some (.cells A T (0,0))->T≠61->T≠87->W'.1[i]?=some (.cells A T (0,0)):=fun {i A T} o J K=>by
  rw[L.block i (az o) (fun z=>?_)]
  ·exact o
  ·rcases z with z | z | z
   ·rw[z,E.lies] at o;injection o with o;injection o with _ o;exact K o.symm
   ·obtain⟨es,clock,M⟩:=E.map.obj;rw[z,M] at o;cases o
   ·exact jg E.ents o J z
 exact⟨key h.s (by decide) (by decide),key h.c (by decide) (by decide),key h.d (by decide) (by decide),key h.y (by decide) (by decide)⟩
theorem Lv.on{S:Nat}(h:Lv W S C D Y)(hb:Below W.1.size W W'):Lv W' S C D Y :=
 ⟨(hb.block _ (az h.s)).trans h.s,(hb.block _ (az h.c)).trans h.c,(hb.block _ (az h.d)).trans h.d,(hb.block _ (az h.y)).trans h.y⟩
structure LvI(w W:World)(n:Nat)(st:Wk)(S C D Y:Nat):Prop where
 walk:∃v g,ax W w.1.size (w.1.size+1) w.1.size n v g st (fun _=>False)
 lv:Lv W S C D Y
 below:Below w.1.size w W
theorem LvI.on{S:Nat}(h:LvI w W n st S C D Y)(hb:Below W.1.size W W'):LvI w W' n st S C D Y:=by
 obtain⟨v,g,o⟩:=h.walk;exact⟨⟨v,g,o.on hb⟩,h.lv.on hb,h.below.trans (hb.mono h.below.size)⟩
theorem LvI.next{z:Wk}{S:Nat}(h:LvI w W n st S C D Y){v:Value}{g:Int->Option Value}(y:ax W w.1.size (w.1.size+1) w.1.size n v g st (fun _=>False))(J:cm W W' w.1.size (w.1.size+1) w.1.size (n+1) v z (fun _=>False)):LvI w W' (n+1) z S C D Y:=by
 obtain⟨K,A,E,o,-⟩:=J.out;exact⟨⟨K,A,E⟩,h.lv.aside y o,h.below.trans (o.below h.below.size (fun i L I=>by have:=y.far I;omega))⟩
theorem LvI.calls{S:Nat}(h:LvI w W n st S C D Y)(E:Hv w)(J:n<1000)(f:Fr)(I:f.wf)(u:AV)(A:aP W u f)(pl:Int):Calls Tryz.prog 13 #[.pointer (some ⟨w.1.size+1,0,none⟩),.agg u,.int .i64 pl] W fun e w'=>e=.returned (.int .i64 (if Sc.may st f pl=true then 0 else 143))∧LvI w w' (n+1) (Sc.next st f pl) S C D Y:=by
 obtain⟨v,g,o⟩:=h.walk;exact(vq o f I u A pl (E.next h.below) (by omega) h.below.size).mono fun e w' ⟨y,z⟩=>⟨y,h.next o z⟩
end
end Go.Proofs.YtdkammppnkhhoaaGreatDoor
