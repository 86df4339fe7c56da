/- Proved: for any quota, any list of things to do and any rows the law WriterNeeds returns true and leaves them as they were: an append of the rows is refused for the quota just if what Need tells goes beyond it, and else the file is that much longer. No condition, but that the two listed variables (the program's table of sixteen words, and the library's handle of the type error) lie as the program's text lays them, which the card ties. -/
import Derived.Test.YtngmnfdaedlodaaGreatDoorA8
import Derived.Test.YtngmnfdaedlodaaGreatDoorA9
set_option maxRecDepth 100000
namespace Go.Proofs.YtngmnfdaedlodaaGreatDoor
open Go.ChangeShapes Go.WideShapes Go.ChangeAt Go.RowKit
theorem eN(H:Type)(enc:TypeId×Value->H)(W:World)(base:Nat)(args:AV)(A K:List (DataW H))(before:List MemPlace)(Z:∀(j:Nat) t v,Tryz.f5.params[j]?=some t->args[j]?=some v->Value.okWide Tryz.prog W .any base t v)(V:DataW.Whole enc Tryz.prog Tryz.f5.params.toList Rows.writerNeedsSpec.vars false W args.toList A K before)(X:(DataW.weightsEach Tryz.prog (Tryz.f5.params.toList++Rows.writerNeedsSpec.plain.varTypes Tryz.prog) (A++K)).all (·<=reachBytes)=true)(a2:laidMetH Tryz.prog Rows.writerNeedsRow.laid W):
  Calls Tryz.prog 5 args W fun e J=>∃v,e=.returned v∧Rows.writerNeedsSpec.post enc Tryz.prog Tryz.f5 false true false false W args v J:=by
 have o:∀(j:Nat) t v,Tryz.f5.params[j]?=some t->args[j]?=some v->Value.okWide Tryz.prog W .any base t v:=Z;have E:=X;have a6:=V;obtain⟨p,q,a1,a5,rfl,b0,b1⟩:=V;have Q:DataW.TrodAll enc Tryz.prog W 0 (fun _=>true) true Tryz.f5.params.toList args.toList A p:=a1;rw[Tryz.params5] at Q o E;obtain⟨rfl,rfl⟩:=trodVars_none a5;obtain⟨aj,b8,bq,bN,b4,b5,bX,rfl,rfl,a0,bk⟩:=trodAll_cons Q;obtain⟨ak,b9,bs,bO,bi,b6,rfl,rfl,rfl,L,bl⟩:=trodAll_cons bk;obtain⟨an,cb,bv,bT,bj,b7,rfl,rfl,rfl,M,bn⟩:=trodAll_cons bl;obtain⟨rfl,rfl,rfl⟩:=trodAll_nil bn;obtain rfl:args=#[aj,ak,an]:=by cases args;simp_all
 obtain⟨aw,rfl,rfl,rfl,w0⟩:=open_int Tryz.underlying3 (o 0 3 aj rfl rfl) a0;obtain⟨be,b2,c1,rfl⟩:=okWide_slice Tryz.underlying22 (o 1 22 ak rfl rfl);have ab:=L;have a9:∀x∈bi,x.block<W.1.size:=by obtain⟨m,D⟩:=ab;exact DataW.trod_lt m _ _ _ D
 obtain⟨bc,rfl,a3,a8⟩:=oB (j:=1) L E rfl rfl;obtain⟨p2,b3,c2,rfl⟩:=okWide_slice Tryz.underlying36 (o 2 36 an rfl rfl);have ah:=M;have bb:∀x∈bj,x.block<W.1.size:=by obtain⟨m,D⟩:=ah;exact DataW.trod_lt m _ _ _ D
 obtain⟨bp,rfl,a4⟩:=mQ (j:=2) M E rfl rfl;have S:=oN a2;clear Z X;refine(jX xN aw (uf w0) bc be c1 bp p2 c2 W a3 a8 a4 S.1 S.2).mono fun e J ⟨a7,y⟩=>?_;subst a7;exact⟨_,rfl,_,_,_,[],_,[],a6,trodAll_mk1 (shut_bool Tryz.underlying4 _),(trodAll_cons_mk (shut_int Tryz.underlying3 w0) (trodAll_cons_mk (Below.trod laidOut (by kernel_rfl) (of_decide_eq_true (by kernel_rfl)) ab y a9) (trodAll_cons_mk (Below.trod laidOut (by kernel_rfl) (of_decide_eq_true (by kernel_rfl)) ah y bb) trodAll_mk0))),rfl,y.frame _,fun h=>by cases h⟩
theorem fN(o:Os)(started:o.Started)(H:Type)(enc:TypeId×Value->H)(F:Stop.Interp):
  ReturnsInHanded {} Tryz.checked o 5 .any ((OpenSpec.ofChange Rows.writerNeedsSpec).preRow enc Tryz.prog Tryz.f5 Rows.writerNeedsRow.domain false Rows.writerNeedsRow.laid) (((OpenSpec.ofChange Rows.writerNeedsSpec).at F).post enc Tryz.prog Tryz.f5 false true false false):=by
 have y:∃places,DataW.whole enc Tryz.prog ((World.doorLaid Tryz.prog 272 o).forCall (fun _ _=>0) ⟨#[],#[.int .i64 0,.slice none 0 0,.slice none 0 0],[]⟩).memory Tryz.f5.params.toList Rows.writerNeedsSpec.vars false (#[.int .i64 0,.slice none 0 0,.slice none 0 0]:AV).toList 8=some ([.lit (.int .i64 0),.nil,.nil],[],places):=⟨[],by kernel_rfl⟩;obtain⟨places,y⟩:=y
 refine returnsInHanded_of_row (C:=Tryz.checked) (s:=OpenSpec.ofChange Rows.writerNeedsSpec) own started (by kernel_rfl) Tryz.func5
  (witness_row_at (enc:=enc) (C:=Tryz.checked) false (World.doorLaid Tryz.prog 272 o) #[.int .i64 0,.slice none 0 0,.slice none 0 0] rfl (by kernel_rfl) (by kernel_rfl) (by kernel_rfl)
   (OpenSpec.preRow_of_cond 8 y (by kernel_rfl) (fun k K=>by cases K) (by kernel_rfl) (uw o _))) ?_
 intro W base args A D before M J _ Q L E _ _;exact eN H enc W base args A D before M J L E
theorem fZ:Rows.WriterNeedsSaid :=
 OpenClaim.holds_of_cond 5 Tryz.f5 rfl rfl rfl rfl rfl rfl rfl ⟨rfl,rfl,rfl,rfl,rfl⟩ rfl rfl rfl rfl rfl (by kernel_rfl) Tryz.func5 (by kernel_rfl)
  (of_decide_eq_true (by kernel_rfl)) (by unfold Func.isWrapper;first | (rw[if_pos (by decide +kernel)];kernel_rfl) | (rw[if_neg (by decide +kernel)];exact⟨rfl,rfl⟩))
  (fun o started H enc _ F=>by rw[OpenClaim.pre_eq_preRow];exact fN o started H enc F)
theorem fY(f : FuncId)(fn : Func)(A : Tryz.pinned.checked.prog.funcNamed "gabion/gabionlaw19.WriterNeeds"=some f)(D : Tryz.pinned.checked.prog.funcs[f]?=some fn):
  true=Tryz.pinned.checked.prog.looks []∧∀(j:Nat) t,fn.params[j]?=some t->Tryz.pinned.checked.prog.wantsStandIn t=false:=by
 obtain rfl : f=5 := Option.some.inj ((show Tryz.prog.funcNamed "gabion/gabionlaw19.WriterNeeds"=some 5 by kernel_rfl).symm.trans A) |>.symm;obtain rfl:fn=Tryz.f5:=(Option.some.inj (Tryz.func5.symm.trans D)).symm;refine⟨by kernel_rfl,fun j t o=>?_⟩;rw[Tryz.params5] at o;have E:t∈[3,22,36]:=by simpa using Array.mem_of_getElem? o
 have y:([3,22,36].all fun u=>!Tryz.prog.wantsStandIn u)=true:=by kernel_rfl
 exact(show Tryz.prog.wantsStandIn t=false by simpa using List.all_eq_true.1 y t E)
theorem writerNeeds_card:Rows.WriterNeedsCardSaid :=
 Claim7.holds_tied_plain_at .later [] _ _ _ _ fZ (fun _ h=>by cases h) (by kernel_rfl) (fun _ h=>by cases h) writerNeeds_row_tie rfl ⟨rfl,rfl⟩ (by kernel_rfl) rfl fY (by kernel_rfl)
#print axioms writerNeeds_card
end Go.Proofs.YtngmnfdaedlodaaGreatDoor
