/- Proved: for any quota and any list of things to do but failures of power the law WriterWhole returns true and leaves them as they were: the file is whole frames in order behind each of them, a refusal changes no byte, between two data frames stand at most one schema frame and one index, and the rows are as many as were appended. No condition, but that the two listed variables (the program's table of sixteen words, and the library's handle of the type error) lie as the program's text lays them, which the card ties. -/
import Derived.Test.YtngmnfdaedlodaaGreatDoorA8
import Derived.Test.YtngmnfdaedlodaaGreatDoorA9
set_option maxRecDepth 100000
namespace Go.Proofs.YtngmnfdaedlodaaGreatDoor
open Go.ChangeShapes Go.WideShapes Go.ChangeAt Go.RowKit
theorem eP(H:Type)(enc:TypeId×Value->H)(W:World)(base:Nat)(args:AV)(o E:List (DataW H))(before:List MemPlace)(V:∀(j:Nat) t v,Tryz.f4.params[j]?=some t->args[j]?=some v->Value.okWide Tryz.prog W .any base t v)(M:DataW.Whole enc Tryz.prog Tryz.f4.params.toList Rows.writerWholeSpec.vars false W args.toList o E before)(S:(DataW.weightsEach Tryz.prog (Tryz.f4.params.toList++Rows.writerWholeSpec.plain.varTypes Tryz.prog) (o++E)).all (·<=reachBytes)=true)(ak:laidMetH Tryz.prog Rows.writerWholeRow.laid W):
  Calls Tryz.prog 4 args W fun e A=>∃v,e=.returned v∧Rows.writerWholeSpec.post enc Tryz.prog Tryz.f4 false true false false W args v A:=by
 have y:∀(j:Nat) t v,Tryz.f4.params[j]?=some t->args[j]?=some v->Value.okWide Tryz.prog W .any base t v:=V;have Q:=S;have a1:=M;obtain⟨p,q,aj,a0,rfl,bl,bn⟩:=M;have K:DataW.TrodAll enc Tryz.prog W 0 (fun _=>true) true Tryz.f4.params.toList args.toList o p:=aj;rw[Tryz.params4] at K y Q;obtain⟨rfl,rfl⟩:=trodVars_none a0;obtain⟨Z,bN,bc,bi,bq,bs,bk,rfl,rfl,ai,a9⟩:=trodAll_cons K;obtain⟨ab,bO,be,bj,a8,bv,rfl,rfl,rfl,J,bb⟩:=trodAll_cons a9;obtain⟨rfl,rfl,rfl⟩:=trodAll_nil bb;obtain rfl:args=#[Z,ab]:=by cases args;simp_all
 obtain⟨ah,rfl,rfl,rfl,w0⟩:=open_int Tryz.underlying3 (y 0 3 Z rfl rfl) ai;obtain⟨a7,bp,c1,rfl⟩:=okWide_slice Tryz.underlying22 (y 1 22 ab rfl rfl);have X:=J;have a5:∀x∈a8,x.block<W.1.size:=by obtain⟨m,a4⟩:=X;exact DataW.trod_lt m _ _ _ a4
 obtain⟨a6,rfl,aw,a3⟩:=oM (j:=1) J Q rfl rfl;have L:=oY ak;clear V S;refine(j6 yb ah (um w0) a6 a7 c1 W aw a3 L.1 L.2).mono fun e A ⟨a2,D⟩=>?_;subst a2;exact⟨_,rfl,_,_,_,[],_,[],a1,trodAll_mk1 (shut_bool Tryz.underlying4 _),(trodAll_cons_mk (shut_int Tryz.underlying3 w0) (trodAll_cons_mk (Below.trod laidOut (by kernel_rfl) (of_decide_eq_true (by kernel_rfl)) X D a5) trodAll_mk0)),rfl,D.frame _,fun h=>by cases h⟩
theorem fQ(o:Os)(started:o.Started)(H:Type)(enc:TypeId×Value->H)(F:Stop.Interp):
  ReturnsInHanded {} Tryz.checked o 4 .any ((OpenSpec.ofChange Rows.writerWholeSpec).preRow enc Tryz.prog Tryz.f4 Rows.writerWholeRow.domain false Rows.writerWholeRow.laid) (((OpenSpec.ofChange Rows.writerWholeSpec).at F).post enc Tryz.prog Tryz.f4 false true false false):=by
 have y:∃places,DataW.whole enc Tryz.prog ((World.doorLaid Tryz.prog 272 o).forCall (fun _ _=>0) ⟨#[],#[.int .i64 0,.slice none 0 0],[]⟩).memory Tryz.f4.params.toList Rows.writerWholeSpec.vars false (#[.int .i64 0,.slice none 0 0]:AV).toList 8=some ([.lit (.int .i64 0),.nil],[],places):=⟨[],by kernel_rfl⟩;obtain⟨places,y⟩:=y
 refine returnsInHanded_of_row (C:=Tryz.checked) (s:=OpenSpec.ofChange Rows.writerWholeSpec) own started (by kernel_rfl) Tryz.func4
  (witness_row_at (enc:=enc) (C:=Tryz.checked) false (World.doorLaid Tryz.prog 272 o) #[.int .i64 0,.slice none 0 0] rfl (by kernel_rfl) (by kernel_rfl) (by kernel_rfl)
   (OpenSpec.preRow_of_cond 8 y (by kernel_rfl) (fun k K=>by cases K) (by kernel_rfl) (uF o _))) ?_
 intro W base args A D before M J _ Q L E _ _;exact eP H enc W base args A D before M J L E
theorem gi:Rows.WriterWholeSaid :=
 OpenClaim.holds_of_cond 4 Tryz.f4 rfl rfl rfl rfl rfl rfl rfl ⟨rfl,rfl,rfl,rfl,rfl⟩ rfl rfl rfl rfl rfl (by kernel_rfl) Tryz.func4 (by kernel_rfl)
  (of_decide_eq_true (by kernel_rfl)) (by unfold Func.isWrapper;first | (rw[if_pos (by decide +kernel)];kernel_rfl) | (rw[if_neg (by decide +kernel)];exact⟨rfl,rfl⟩))
  (fun o started H enc _ F=>by rw[OpenClaim.pre_eq_preRow];exact fQ o started H enc F)
theorem gg(f : FuncId)(fn : Func)(A : Tryz.pinned.checked.prog.funcNamed "gabion/gabionlaw19.WriterWhole"=some f)(D : Tryz.pinned.checked.prog.funcs[f]?=some fn):
  true=Tryz.pinned.checked.prog.looks []∧∀(j:Nat) t,fn.params[j]?=some t->Tryz.pinned.checked.prog.wantsStandIn t=false:=by
 obtain rfl : f=4 := Option.some.inj ((show Tryz.prog.funcNamed "gabion/gabionlaw19.WriterWhole"=some 4 by kernel_rfl).symm.trans A) |>.symm;obtain rfl:fn=Tryz.f4:=(Option.some.inj (Tryz.func4.symm.trans D)).symm;refine⟨by kernel_rfl,fun j t o=>?_⟩;rw[Tryz.params4] at o;have E:t∈[3,22]:=by simpa using Array.mem_of_getElem? o
 have y:([3,22].all fun u=>!Tryz.prog.wantsStandIn u)=true:=by kernel_rfl
 exact(show Tryz.prog.wantsStandIn t=false by simpa using List.all_eq_true.1 y t E)
theorem writerWhole_card:Rows.WriterWholeCardSaid :=
 Claim7.holds_tied_plain_at .later [] _ _ _ _ gi (fun _ h=>by cases h) (by kernel_rfl) (fun _ h=>by cases h) writerWhole_row_tie rfl ⟨rfl,rfl⟩ (by kernel_rfl) rfl gg (by kernel_rfl)
#print axioms writerWhole_card
end Go.Proofs.YtngmnfdaedlodaaGreatDoor
