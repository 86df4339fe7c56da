/- Proved: for any bytes the law SalvageJust returns true and leaves them as they were: of a whole file All tells just its data frames whose blocks are rows, in order, each with the frame's place, Number, Seq and First, and as many rows as it says. No condition, but that the listed variable (the program's table of sixteen words) lies as the program's text lays it, which the card ties. -/
import Derived.Test.YtdgacombdcajmaaGreatDoorRSL
import Derived.Test.YtdgacombdcajmaaGreatDoorA3
import Derived.Test.YtdgacombdcajmaaGreatDoorA4
set_option maxRecDepth 100000
namespace Go.Proofs.YtdgacombdcajmaaGreatDoor
open Go.ChangeShapes Go.WideShapes Go.ChangeAt Go.RowKit
theorem eZ(H:Type)(enc:TypeId×Value->H)(W:World)(base:Nat)(args:AV)(ds gs:List (DataW H))(before:List MemPlace)(hval0:∀(j:Nat) t v,Tryz.f3.params[j]?=some t->args[j]?=some v->Value.okWide Tryz.prog W .any base t v)(hW:DataW.Whole enc Tryz.prog Tryz.f3.params.toList Rows.salvageJustSpec.vars false W args.toList ds gs before)(hsz0:(DataW.weightsEach Tryz.prog (Tryz.f3.params.toList++Rows.salvageJustSpec.plain.varTypes Tryz.prog) (ds++gs)).all (·<=reachBytes)=true)(hL:laidMetH Tryz.prog Rows.salvageJustRow.laid W):
  Calls Tryz.prog 3 args W fun e W'=>∃v,e=.returned v∧Rows.salvageJustSpec.post enc Tryz.prog Tryz.f3 false true false false W args v W':=by
 have hval:∀(j:Nat) t v,Tryz.f3.params[j]?=some t->args[j]?=some v->Value.okWide Tryz.prog W .any base t v:=hval0
 have hsz:=hsz0
 have hW':=hW
 obtain⟨p,q,hAll,hV,rfl,hfz,hnd⟩:=hW
 have hA:DataW.TrodAll enc Tryz.prog W 0 (fun _=>true) true Tryz.f3.params.toList args.toList ds p:=hAll
 rw[Tryz.params3] at hA hval hsz
 obtain⟨rfl,rfl⟩:=trodVars_none hV
 obtain⟨v0,vs0,d0,ds0,p0s,q0s,hargs,rfl,rfl,h0,r0⟩:=trodAll_cons hA
 obtain⟨rfl,rfl,rfl⟩:=trodAll_nil r0
 obtain rfl:args=#[v0]:=by cases args;simp_all
 obtain⟨p0,len0,c0,rfl⟩:=okWide_slice Tryz.underlying22 (hval 0 22 v0 rfl rfl)
 have k0:=h0
 have lt0:∀x∈p0s,x.block<W.1.size:=by obtain⟨m,hm⟩:=k0;exact DataW.trod_lt m _ _ _ hm
 obtain⟨l0,rfl,hA0,hc0,hn0,hg0⟩:=opened h0
 have hl0:l0.length<=140737488351232:=oe (j:=0) hsz rfl rfl hg0
 have hT:=ol hL
 clear hval0 hsz0
 refine(jX tJ uJ l0 p0 c0 W hl0 hc0 hA0 hT).mono fun e W' ⟨he,bel⟩=>?_
 subst he
 exact⟨_,rfl,_,_,_,[],_,[],hW',trodAll_mk1 (shut_bool Tryz.underlying4 _),(trodAll_cons_mk (Below.trod laidOut (by kernel_rfl) (of_decide_eq_true (by kernel_rfl)) k0 bel lt0) trodAll_mk0),rfl,bel.frame _,fun h=>by cases h⟩
theorem fX(os:Os)(started:os.Started)(H:Type)(enc:TypeId×Value->H)(F:Stop.Interp):
  ReturnsInHanded {} Tryz.checked os 3 .any ((OpenSpec.ofChange Rows.salvageJustSpec).preRow enc Tryz.prog Tryz.f3 Rows.salvageJustRow.domain false Rows.salvageJustRow.laid) (((OpenSpec.ofChange Rows.salvageJustSpec).at F).post enc Tryz.prog Tryz.f3 false true false false):=by
 have hx:∃places,DataW.whole enc Tryz.prog ((World.doorLaid Tryz.prog 242 os).forCall (fun _ _=>0) ⟨#[],#[.slice none 0 0],[]⟩).memory Tryz.f3.params.toList Rows.salvageJustSpec.vars false (#[.slice none 0 0]:AV).toList 8=some ([.nil],[],places):=⟨[],by kernel_rfl⟩
 obtain⟨places,hx⟩:=hx
 refine returnsInHanded_of_row (C:=Tryz.checked) (s:=OpenSpec.ofChange Rows.salvageJustSpec) own started (by kernel_rfl) Tryz.func3
  (witness_row_at (enc:=enc) (C:=Tryz.checked) false (World.doorLaid Tryz.prog 242 os) #[.slice none 0 0] rfl (by kernel_rfl) (by kernel_rfl) (by kernel_rfl)
   (OpenSpec.preRow_of_cond 8 hx (by kernel_rfl) (fun k hk=>by cases hk) (by kernel_rfl) (tk os _))) ?_
 intro W base args ds gs before hval hW _ hcond hsz hL _ _
 exact eZ H enc W base args ds gs before hval hW hsz hL
theorem gv:Rows.SalvageJustSaid :=
 OpenClaim.holds_of_cond 3 Tryz.f3 rfl rfl rfl rfl rfl rfl rfl ⟨rfl,rfl,rfl,rfl,rfl⟩ rfl rfl rfl rfl rfl (by kernel_rfl) Tryz.func3 (by kernel_rfl)
  (of_decide_eq_true (by kernel_rfl)) (by unfold Func.isWrapper;first | (rw[if_pos (by decide +kernel)];kernel_rfl) | (rw[if_neg (by decide +kernel)];exact⟨rfl,rfl⟩))
  (fun os started H enc _ F=>by rw[OpenClaim.pre_eq_preRow];exact fX os started H enc F)
theorem gm(f : FuncId)(fn : Func)(hf : Tryz.pinned.checked.prog.funcNamed "gabion/gabionlaw17.SalvageJust"=some f)(hfn : Tryz.pinned.checked.prog.funcs[f]?=some fn):
  true=Tryz.pinned.checked.prog.looks []∧∀(j:Nat) t,fn.params[j]?=some t->Tryz.pinned.checked.prog.wantsStandIn t=false:=by
 obtain rfl : f=3 := Option.some.inj ((show Tryz.prog.funcNamed "gabion/gabionlaw17.SalvageJust"=some 3 by kernel_rfl).symm.trans hf) |>.symm
 obtain rfl:fn=Tryz.f3:=(Option.some.inj (Tryz.func3.symm.trans hfn)).symm
 refine⟨by kernel_rfl,fun j t ht=>?_⟩
 rw[Tryz.params3] at ht
 have hm:t∈[22]:=by simpa using Array.mem_of_getElem? ht
 have hall:([22].all fun u=>!Tryz.prog.wantsStandIn u)=true:=by kernel_rfl
 exact(show Tryz.prog.wantsStandIn t=false by simpa using List.all_eq_true.1 hall t hm)
theorem salvageJust_card:Rows.SalvageJustCardSaid :=
 Claim7.holds_tied_plain_at .later [] _ _ _ _ gv (fun _ h=>by cases h) (by kernel_rfl) (fun _ h=>by cases h) salvageJust_row_tie rfl ⟨rfl,rfl⟩ (by kernel_rfl) rfl gm (by kernel_rfl)
#print axioms salvageJust_card
end Go.Proofs.YtdgacombdcajmaaGreatDoor
