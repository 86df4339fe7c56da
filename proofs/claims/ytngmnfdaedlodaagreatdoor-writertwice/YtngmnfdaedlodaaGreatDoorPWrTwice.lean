/- Proved: for any quota and any list of things to do the law WriterTwice returns true and leaves them as they were: the same calls over two files come to the same bytes and the same errors. No condition, but that the two listed variables (the program's table of sixteen words, and the library's handle of the type error) lie as the program's text lays them, which the card ties. -/
import Derived.Test.YtngmnfdaedlodaaGreatDoorA8
import Derived.Test.YtngmnfdaedlodaaGreatDoorA7
set_option maxRecDepth 100000
namespace Go.Proofs.YtngmnfdaedlodaaGreatDoor
open Go.ChangeShapes Go.WideShapes Go.ChangeAt Go.RowKit
theorem eN(H:Type)(enc:TypeId×Value->H)(W:World)(base:Nat)(args:AV)(o E:List (DataW H))(before:List MemPlace)(V:∀(j:Nat) t v,Tryz.f3.params[j]?=some t->args[j]?=some v->Value.okWide Tryz.prog W .any base t v)(M:DataW.Whole enc Tryz.prog Tryz.f3.params.toList Rows.writerTwiceSpec.vars false W args.toList o E before)(S:(DataW.weightsEach Tryz.prog (Tryz.f3.params.toList++Rows.writerTwiceSpec.plain.varTypes Tryz.prog) (o++E)).all (·<=reachBytes)=true)(aw:laidMetH Tryz.prog Rows.writerTwiceRow.laid W):
  Calls Tryz.prog 3 args W fun e A=>∃v,e=.returned v∧Rows.writerTwiceSpec.post enc Tryz.prog Tryz.f3 false true false false W args v A:=by
 have y:∀(j:Nat) t v,Tryz.f3.params[j]?=some t->args[j]?=some v->Value.okWide Tryz.prog W .any base t v:=V;have Q:=S;have a2:=M;obtain⟨p,q,ak,a1,rfl,bn,bp⟩:=M;have K:DataW.TrodAll enc Tryz.prog W 0 (fun _=>true) true Tryz.f3.params.toList args.toList o p:=ak;rw[Tryz.params3] at K y Q;obtain⟨rfl,rfl⟩:=trodVars_none a1;obtain⟨Z,bO,be,bj,bs,bv,bl,rfl,rfl,aj,bb⟩:=trodAll_cons K;obtain⟨ab,bT,bi,bk,a9,bN,rfl,rfl,rfl,J,bc⟩:=trodAll_cons bb;obtain⟨rfl,rfl,rfl⟩:=trodAll_nil bc;obtain rfl:args=#[Z,ab]:=by cases args;simp_all
 obtain⟨ah,rfl,rfl,rfl,w0⟩:=open_int Tryz.underlying3 (y 0 3 Z rfl rfl) aj;obtain⟨a8,bq,c1,rfl⟩:=okWide_slice Tryz.underlying22 (y 1 22 ab rfl rfl);have X:=J;have a6:∀x∈a9,x.block<W.1.size:=by obtain⟨m,a5⟩:=X;exact DataW.trod_lt m _ _ _ a5
 obtain⟨a7,rfl,a0,a4⟩:=oC (j:=1) J Q rfl rfl;have L:=oO aw;clear V S;refine(jX xP ah (uf w0) a7 a8 c1 W a0 a4 L.1 L.2).mono fun e A ⟨a3,D⟩=>?_;subst a3;exact⟨_,rfl,_,_,_,[],_,[],a2,trodAll_mk1 (shut_bool Tryz.underlying4 _),(trodAll_cons_mk (shut_int Tryz.underlying3 w0) (trodAll_cons_mk (Below.trod laidOut (by kernel_rfl) (of_decide_eq_true (by kernel_rfl)) X D a6) trodAll_mk0)),rfl,D.frame _,fun h=>by cases h⟩
theorem fN(o:Os)(started:o.Started)(H:Type)(enc:TypeId×Value->H)(F:Stop.Interp):
  ReturnsInHanded {} Tryz.checked o 3 .any ((OpenSpec.ofChange Rows.writerTwiceSpec).preRow enc Tryz.prog Tryz.f3 Rows.writerTwiceRow.domain false Rows.writerTwiceRow.laid) (((OpenSpec.ofChange Rows.writerTwiceSpec).at F).post enc Tryz.prog Tryz.f3 false true false false):=by
 have y:∃places,DataW.whole enc Tryz.prog ((World.doorLaid Tryz.prog 272 o).forCall (fun _ _=>0) ⟨#[],#[.int .i64 0,.slice none 0 0],[]⟩).memory Tryz.f3.params.toList Rows.writerTwiceSpec.vars false (#[.int .i64 0,.slice none 0 0]:AV).toList 8=some ([.lit (.int .i64 0),.nil],[],places):=⟨[],by kernel_rfl⟩;obtain⟨places,y⟩:=y
 refine returnsInHanded_of_row (C:=Tryz.checked) (s:=OpenSpec.ofChange Rows.writerTwiceSpec) own started (by kernel_rfl) Tryz.func3
  (witness_row_at (enc:=enc) (C:=Tryz.checked) false (World.doorLaid Tryz.prog 272 o) #[.int .i64 0,.slice none 0 0] rfl (by kernel_rfl) (by kernel_rfl) (by kernel_rfl)
   (OpenSpec.preRow_of_cond 8 y (by kernel_rfl) (fun k K=>by cases K) (by kernel_rfl) (uz o _))) ?_
 intro W base args A D before M J _ Q L E _ _;exact eN H enc W base args A D before M J L E
theorem fZ:Rows.WriterTwiceSaid :=
 OpenClaim.holds_of_cond 3 Tryz.f3 rfl rfl rfl rfl rfl rfl rfl ⟨rfl,rfl,rfl,rfl,rfl⟩ rfl rfl rfl rfl rfl (by kernel_rfl) Tryz.func3 (by kernel_rfl)
  (of_decide_eq_true (by kernel_rfl)) (by unfold Func.isWrapper;first | (rw[if_pos (by decide +kernel)];kernel_rfl) | (rw[if_neg (by decide +kernel)];exact⟨rfl,rfl⟩))
  (fun o started H enc _ F=>by rw[OpenClaim.pre_eq_preRow];exact fN o started H enc F)
theorem fY(f : FuncId)(fn : Func)(A : Tryz.pinned.checked.prog.funcNamed "gabion/gabionlaw19.WriterTwice"=some f)(D : Tryz.pinned.checked.prog.funcs[f]?=some fn):
  true=Tryz.pinned.checked.prog.looks []∧∀(j:Nat) t,fn.params[j]?=some t->Tryz.pinned.checked.prog.wantsStandIn t=false:=by
 obtain rfl : f=3 := Option.some.inj ((show Tryz.prog.funcNamed "gabion/gabionlaw19.WriterTwice"=some 3 by kernel_rfl).symm.trans A) |>.symm;obtain rfl:fn=Tryz.f3:=(Option.some.inj (Tryz.func3.symm.trans D)).symm;refine⟨by kernel_rfl,fun j t o=>?_⟩;rw[Tryz.params3] at o;have E:t∈[3,22]:=by simpa using Array.mem_of_getElem? o
 have y:([3,22].all fun u=>!Tryz.prog.wantsStandIn u)=true:=by kernel_rfl
 exact(show Tryz.prog.wantsStandIn t=false by simpa using List.all_eq_true.1 y t E)
theorem writerTwice_card:Rows.WriterTwiceCardSaid :=
 Claim7.holds_tied_plain_at .later [] _ _ _ _ fZ (fun _ h=>by cases h) (by kernel_rfl) (fun _ h=>by cases h) writerTwice_row_tie rfl ⟨rfl,rfl⟩ (by kernel_rfl) rfl fY (by kernel_rfl)
#print axioms writerTwice_card
end Go.Proofs.YtngmnfdaedlodaaGreatDoor
