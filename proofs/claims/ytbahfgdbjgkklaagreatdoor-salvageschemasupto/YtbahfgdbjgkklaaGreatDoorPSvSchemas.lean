/- Proved: for any bytes that hold, with their spare places, at most 1048576 values the law SalvageSchemas returns true and leaves them as they were: of any bytes the schemas that are without doubt are told, in the order of their numbers, and what is told is the caller's own. Beyond the bound there is no condition, but that the listed variable (the program's table of sixteen words) lies as the program's text lays it, which the card ties. The bound is the second form's own (the first speaks of lists so long that the runs made of them may pass what a slice can hold). -/
import Derived.Test.YtbahfgdbjgkklaaGreatDoorA5
import Derived.Test.YtbahfgdbjgkklaaGreatDoorL17T
set_option maxRecDepth 100000
namespace Go.Proofs.YtbahfgdbjgkklaaGreatDoor
open Go.ChangeShapes Go.WideShapes Go.ChangeAt Go.RowKit
theorem dS(H:Type)(enc:TypeId×Value->H)(W:World)(base:Nat)(args:AV)(o y:List (DataW H))(before:List MemPlace)(Q:∀(j:Nat) t v,Tryz.f3.params[j]?=some t->args[j]?=some v->Value.okWide Tryz.prog W .any base t v)(J:DataW.Whole enc Tryz.prog Tryz.f3.params.toList Rows.salvageSchemasSpec.vars false W args.toList o y before)(a0:Rows.uptoSmall H (o++y)=true)(M:(DataW.weightsEach Tryz.prog (Tryz.f3.params.toList++Rows.salvageSchemasSpec.plain.varTypes Tryz.prog) (o++y)).all (·<=reachBytes)=true)(Z:laidMetH Tryz.prog Rows.salvageSchemasUptoRow.laid W):
  Calls Tryz.prog 3 args W fun e z=>∃v,e=.returned v∧Rows.salvageSchemasSpec.post enc Tryz.prog Tryz.f3 false true false false W args v z:=by
 have O:∀(j:Nat) t v,Tryz.f3.params[j]?=some t->args[j]?=some v->Value.okWide Tryz.prog W .any base t v:=Q;have L:=M;have aj:=J;obtain⟨p,q,Y,ah,rfl,be,bk⟩:=J;have I:DataW.TrodAll enc Tryz.prog W 0 (fun _=>true) true Tryz.f3.params.toList args.toList o p:=Y;rw[Tryz.params3] at I O L;obtain⟨rfl,rfl⟩:=trodVars_none ah;obtain⟨V,bq,a8,a9,a6,bp,bc,rfl,rfl,E,a7⟩:=trodAll_cons I;obtain⟨rfl,rfl,rfl⟩:=trodAll_nil a7;obtain rfl:args=#[V]:=by cases args;simp_all
 obtain⟨a5,bn,c0,rfl⟩:=okWide_slice Tryz.underlying22 (O 0 22 V rfl rfl);have S:=E;have a4:∀x∈a6,x.block<W.1.size:=by obtain⟨m,a3⟩:=S;exact DataW.trod_lt m _ _ _ a3
 obtain⟨U,rfl,X,a1,bj,K⟩:=opened E;have bi:U.length<=140737488351232:=pW (j:=0) L rfl rfl K;have ak:=of_decide_eq_true a0;simp only[Rows.uptoBulkAll,List.append_nil] at ak;have bb:=su K;have ab:=p7 Z;clear Q M;refine(jg U a5 c0 W (by omega) a1 X ab).mono fun e z ⟨a2,D⟩=>?_;subst a2;exact⟨_,rfl,_,_,_,[],_,[],aj,trodAll_mk1 (shut_bool Tryz.underlying4 _),(trodAll_cons_mk (Below.trod laidOut (by kernel_rfl) (of_decide_eq_true (by kernel_rfl)) S D a4) trodAll_mk0),rfl,D.frame _,fun h=>by cases h⟩
theorem eo(os:Os)(started:os.Started)(H:Type)(enc:TypeId×Value->H)(F:Stop.Interp):
  ReturnsInHanded {} Tryz.checked os 3 .any ((Rows.OpenSpec.upto Rows.salvageSchemasSpec).preRow enc Tryz.prog Tryz.f3 Rows.salvageSchemasUptoRow.domain false Rows.salvageSchemasUptoRow.laid) (((Rows.OpenSpec.upto Rows.salvageSchemasSpec).at F).post enc Tryz.prog Tryz.f3 false true false false):=by
 have o:∃places,DataW.whole enc Tryz.prog ((World.doorLaid Tryz.prog 297 os).forCall (fun _ _=>0) ⟨#[],#[.slice none 0 0],[]⟩).memory Tryz.f3.params.toList Rows.salvageSchemasSpec.vars false (#[.slice none 0 0]:AV).toList 8=some ([.nil],[],places):=⟨[],by kernel_rfl⟩;obtain⟨places,o⟩:=o
 refine returnsInHanded_of_row (C:=Tryz.checked) (s:=Rows.OpenSpec.upto Rows.salvageSchemasSpec) own started (by kernel_rfl) Tryz.func3
  (witness_row_at (enc:=enc) (C:=Tryz.checked) false (World.doorLaid Tryz.prog 297 os) #[.slice none 0 0] rfl (by kernel_rfl) (by kernel_rfl) (by kernel_rfl)
   (OpenSpec.preRow_of_cond 8 o (by kernel_rfl) (fun k J=>by cases J;kernel_rfl) (by kernel_rfl) (vu os _))) ?_
 intro W base args y z before L E _ I K D _ _;exact dS H enc W base args y z before L E (I _ rfl) K D
theorem eE:Rows.SalvageSchemasUptoSaid :=
 OpenClaim.holds_of_cond 3 Tryz.f3 rfl rfl rfl rfl rfl rfl rfl ⟨rfl,rfl,rfl,rfl,rfl⟩ rfl rfl rfl rfl rfl (by kernel_rfl) Tryz.func3 (by kernel_rfl)
  (of_decide_eq_true (by kernel_rfl)) (by unfold Func.isWrapper;first | (rw[if_pos (by decide +kernel)];kernel_rfl) | (rw[if_neg (by decide +kernel)];exact⟨rfl,rfl⟩))
  (fun os started H enc _ F=>by rw[OpenClaim.pre_eq_preRow];exact eo os started H enc F)
theorem eD(f : FuncId)(fn : Func)(z : Tryz.pinned.checked.prog.funcNamed "gabion/gabionlaw17.SalvageSchemas"=some f)(D : Tryz.pinned.checked.prog.funcs[f]?=some fn):
  true=Tryz.pinned.checked.prog.looks []∧∀(j:Nat) t,fn.params[j]?=some t->Tryz.pinned.checked.prog.wantsStandIn t=false:=by
 obtain rfl : f=3 := Option.some.inj ((show Tryz.prog.funcNamed "gabion/gabionlaw17.SalvageSchemas"=some 3 by kernel_rfl).symm.trans z) |>.symm;obtain rfl:fn=Tryz.f3:=(Option.some.inj (Tryz.func3.symm.trans D)).symm;refine⟨by kernel_rfl,fun j t o=>?_⟩;rw[Tryz.params3] at o;have E:t∈[22]:=by simpa using Array.mem_of_getElem? o
 have y:([22].all fun u=>!Tryz.prog.wantsStandIn u)=true:=by kernel_rfl
 exact(show Tryz.prog.wantsStandIn t=false by simpa using List.all_eq_true.1 y t E)
theorem salvageSchemasUpto_card:Rows.SalvageSchemasUptoCardSaid :=
 Claim7.holds_tied_plain_at .later [] _ _ _ _ eE (fun _ h=>by cases h) (by kernel_rfl) (fun _ h=>by cases h) salvageSchemasUpto_row_tie rfl ⟨rfl,rfl⟩ (by kernel_rfl) rfl eD (by kernel_rfl)
#print axioms salvageSchemasUpto_card
end Go.Proofs.YtbahfgdbjgkklaaGreatDoor
