/- Proved: for any bytes the law ScanWhole returns true and leaves them as they were: of a file of at most 30000 of them the landed Whole ends where the document's does, with the same error, its walk tells the same frames, rows, number, places, schemas and entries, and as many bytes were read. No condition, but that the listed variable (the program's table of sixteen words) lies as the program's text lays it, which the card ties. -/
import Derived.Test.YtdkammppnkhhoaaGreatDoorRSL
import Derived.Test.YtdkammppnkhhoaaGreatDoorB46
import Derived.Test.YtdkammppnkhhoaaGreatDoorA2
set_option maxRecDepth 100000
namespace Go.Proofs.YtdkammppnkhhoaaGreatDoor
open Go.ChangeShapes Go.WideShapes Go.ChangeAt Go.RowKit
theorem ft(H:Type)(enc:TypeId×Value->H)(W:World)(base:Nat)(args:AV)(o A:List (DataW H))(before:List MemPlace)(M:∀(j:Nat) t v,Tryz.f3.params[j]?=some t->args[j]?=some v->Value.okWide Tryz.prog W .any base t v)(I:DataW.Whole enc Tryz.prog Tryz.f3.params.toList Rows.scanWholeSpec.vars false W args.toList o A before)(K:(DataW.weightsEach Tryz.prog (Tryz.f3.params.toList++Rows.scanWholeSpec.plain.varTypes Tryz.prog) (o++A)).all (·<=reachBytes)=true)(Y:laidMetH Tryz.prog Rows.scanWholeRow.laid W):
  Calls Tryz.prog 3 args W fun e y=>∃v,e=.returned v∧Rows.scanWholeSpec.post enc Tryz.prog Tryz.f3 false true false false W args v y:=by
 have L:∀(j:Nat) t v,Tryz.f3.params[j]?=some t->args[j]?=some v->Value.okWide Tryz.prog W .any base t v:=M;have J:=K;have aj:=I;obtain⟨p,q,X,ah,rfl,bc,be⟩:=I;have E:DataW.TrodAll enc Tryz.prog W 0 (fun _=>true) true Tryz.f3.params.toList args.toList o p:=X;rw[Tryz.params3] at E L J;obtain⟨rfl,rfl⟩:=trodVars_none ah;obtain⟨U,bl,a7,a8,a5,bk,a9,rfl,rfl,D,a6⟩:=trodAll_cons E;obtain⟨rfl,rfl,rfl⟩:=trodAll_nil a6;obtain rfl:args=#[U]:=by cases args;simp_all
 obtain⟨a4,bj,c0,rfl⟩:=okWide_slice Tryz.underlying22 (L 0 22 U rfl rfl);have O:=D;have a3:∀x∈a5,x.block<W.1.size:=by obtain⟨m,a2⟩:=O;exact DataW.trod_lt m _ _ _ a2
 obtain⟨R,rfl,V,bb,bd,a0⟩:=opened D;have a1:R.length<=140737488351232:=nR (j:=0) J rfl rfl a0;have Z:=nX Y;clear M K;refine(jv vT a4 c0 R a1 W Z V).mono fun e y ⟨ak,z⟩=>?_;subst ak;exact⟨_,rfl,_,_,_,[],_,[],aj,trodAll_mk1 (shut_bool Tryz.underlying4 _),(trodAll_cons_mk (Below.trod laidOut (by kernel_rfl) (of_decide_eq_true (by kernel_rfl)) O z a3) trodAll_mk0),rfl,z.frame _,fun h=>by cases h⟩
theorem gy(o:Os)(started:o.Started)(H:Type)(enc:TypeId×Value->H)(F:Stop.Interp):
  ReturnsInHanded {} Tryz.checked o 3 .any ((OpenSpec.ofChange Rows.scanWholeSpec).preRow enc Tryz.prog Tryz.f3 Rows.scanWholeRow.domain false Rows.scanWholeRow.laid) (((OpenSpec.ofChange Rows.scanWholeSpec).at F).post enc Tryz.prog Tryz.f3 false true false false):=by
 have y:∃places,DataW.whole enc Tryz.prog ((World.doorLaid Tryz.prog 230 o).forCall (fun _ _=>0) ⟨#[],#[.slice none 0 0],[]⟩).memory Tryz.f3.params.toList Rows.scanWholeSpec.vars false (#[.slice none 0 0]:AV).toList 8=some ([.nil],[],places):=⟨[],by kernel_rfl⟩;obtain⟨places,y⟩:=y
 refine returnsInHanded_of_row (C:=Tryz.checked) (s:=OpenSpec.ofChange Rows.scanWholeSpec) own started (by kernel_rfl) Tryz.func3
  (witness_row_at (enc:=enc) (C:=Tryz.checked) false (World.doorLaid Tryz.prog 230 o) #[.slice none 0 0] rfl (by kernel_rfl) (by kernel_rfl) (by kernel_rfl)
   (OpenSpec.preRow_of_cond 8 y (by kernel_rfl) (fun k I=>by cases I) (by kernel_rfl) (tb o _))) ?_
 intro W base args z A before K E _ L J D _ _;exact ft H enc W base args z A before K E J D
theorem ie:Rows.ScanWholeSaid :=
 OpenClaim.holds_of_cond 3 Tryz.f3 rfl rfl rfl rfl rfl rfl rfl ⟨rfl,rfl,rfl,rfl,rfl⟩ rfl rfl rfl rfl rfl (by kernel_rfl) Tryz.func3 (by kernel_rfl)
  (of_decide_eq_true (by kernel_rfl)) (by unfold Func.isWrapper;first | (rw[if_pos (by decide +kernel)];kernel_rfl) | (rw[if_neg (by decide +kernel)];exact⟨rfl,rfl⟩))
  (fun o started H enc _ F=>by rw[OpenClaim.pre_eq_preRow];exact gy o started H enc F)
theorem hU(f : FuncId)(fn : Func)(z : Tryz.pinned.checked.prog.funcNamed "gabion/gabionlaw14.ScanWhole"=some f)(A : Tryz.pinned.checked.prog.funcs[f]?=some fn):
  true=Tryz.pinned.checked.prog.looks []∧∀(j:Nat) t,fn.params[j]?=some t->Tryz.pinned.checked.prog.wantsStandIn t=false:=by
 obtain rfl : f=3 := Option.some.inj ((show Tryz.prog.funcNamed "gabion/gabionlaw14.ScanWhole"=some 3 by kernel_rfl).symm.trans z) |>.symm;obtain rfl:fn=Tryz.f3:=(Option.some.inj (Tryz.func3.symm.trans A)).symm;refine⟨by kernel_rfl,fun j t o=>?_⟩;rw[Tryz.params3] at o;have D:t∈[22]:=by simpa using Array.mem_of_getElem? o
 have y:([22].all fun u=>!Tryz.prog.wantsStandIn u)=true:=by kernel_rfl
 exact(show Tryz.prog.wantsStandIn t=false by simpa using List.all_eq_true.1 y t D)
theorem scanWhole_card:Rows.ScanWholeCardSaid :=
 Claim7.holds_tied_plain_at .later [] _ _ _ _ ie (fun _ h=>by cases h) (by kernel_rfl) (fun _ h=>by cases h) scanWhole_row_tie rfl ⟨rfl,rfl⟩ (by kernel_rfl) rfl hU (by kernel_rfl)
#print axioms scanWhole_card
end Go.Proofs.YtdkammppnkhhoaaGreatDoor
