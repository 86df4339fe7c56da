/- Proved: for any frames at any places the law ScanWalks returns true and leaves them as they were: told one behind the other to the landed walk and to the document's, the same are taken, and behind each both tell the same frames, rows, number, places, schemas and entries. No condition, but that the listed variable (the program's table of sixteen words) lies as the program's text lays it, which the card ties. -/
import Derived.Test.YtlgfdgdlaahpfaaGreatDoorRSL
import Derived.Test.YtlgfdgdlaahpfaaGreatDoorB46
import Derived.Test.YtlgfdgdlaahpfaaGreatDoorRSW
set_option maxRecDepth 100000
namespace Go.Proofs.YtlgfdgdlaahpfaaGreatDoor
open Go.ChangeShapes Go.WideShapes Go.ChangeAt Go.RowKit
theorem eM(H:Type)(enc:TypeId×Value->H)(W:World)(base:Nat)(args:AV)(ds gs:List (DataW H))(before:List MemPlace)(hval0:∀(j:Nat) t v,Tryz.f3.params[j]?=some t->args[j]?=some v->Value.okWide Tryz.prog W .any base t v)(hW:DataW.Whole enc Tryz.prog Tryz.f3.params.toList Rows.scanWalksSpec.vars false W args.toList ds gs before)(hsz0:(DataW.weightsEach Tryz.prog (Tryz.f3.params.toList++Rows.scanWalksSpec.plain.varTypes Tryz.prog) (ds++gs)).all (·<=reachBytes)=true)(hL:laidMetH Tryz.prog Rows.scanWalksRow.laid W):
  Calls Tryz.prog 3 args W fun e W'=>∃v,e=.returned v∧Rows.scanWalksSpec.post enc Tryz.prog Tryz.f3 false true false false W args v W':=by
 have hval:∀(j:Nat) t v,Tryz.f3.params[j]?=some t->args[j]?=some v->Value.okWide Tryz.prog W .any base t v:=hval0
 have hsz:=hsz0
 have hW':=hW
 obtain⟨p,q,hAll,hV,rfl,hfz,hnd⟩:=hW
 have hA:DataW.TrodAll enc Tryz.prog W 0 (fun _=>true) true Tryz.f3.params.toList args.toList ds p:=hAll
 rw[Tryz.params3] at hA hval hsz
 obtain⟨rfl,rfl⟩:=trodVars_none hV
 obtain⟨v0,vs0,d0,ds0,p0s,q0s,hargs,rfl,rfl,h0,r0⟩:=trodAll_cons hA
 obtain⟨rfl,rfl,rfl⟩:=trodAll_nil r0
 obtain rfl:args=#[v0]:=by cases args;simp_all
 obtain⟨p0,len0,c0,rfl⟩:=okWide_slice Tryz.underlying22 (hval 0 22 v0 rfl rfl)
 have k0:=h0
 have lt0:∀x∈p0s,x.block<W.1.size:=by obtain⟨m,hm⟩:=k0;exact DataW.trod_lt m _ _ _ hm
 obtain⟨l0,rfl,hP0,hl0,hw0⟩:=jy (j:=0) h0 hsz rfl rfl
 have hT:=mu hL
 clear hval0 hsz0
 refine(iG tr p0 c0 l0 hl0 hw0 W hT hP0).mono fun e W' ⟨he,bel⟩=>?_
 subst he
 exact⟨_,rfl,_,_,_,[],_,[],hW',trodAll_mk1 (shut_bool Tryz.underlying4 _),(trodAll_cons_mk (Below.trod laidOut (by kernel_rfl) (of_decide_eq_true (by kernel_rfl)) k0 bel lt0) trodAll_mk0),rfl,bel.frame _,fun h=>by cases h⟩
theorem fH(os:Os)(started:os.Started)(H:Type)(enc:TypeId×Value->H)(F:Stop.Interp):
  ReturnsInHanded {} Tryz.checked os 3 .any ((OpenSpec.ofChange Rows.scanWalksSpec).preRow enc Tryz.prog Tryz.f3 Rows.scanWalksRow.domain false Rows.scanWalksRow.laid) (((OpenSpec.ofChange Rows.scanWalksSpec).at F).post enc Tryz.prog Tryz.f3 false true false false):=by
 have hx:∃places,DataW.whole enc Tryz.prog ((World.doorLaid Tryz.prog 211 os).forCall (fun _ _=>0) ⟨#[],#[.slice none 0 0],[]⟩).memory Tryz.f3.params.toList Rows.scanWalksSpec.vars false (#[.slice none 0 0]:AV).toList 8=some ([.nil],[],places):=⟨[],by kernel_rfl⟩
 obtain⟨places,hx⟩:=hx
 refine returnsInHanded_of_row (C:=Tryz.checked) (s:=OpenSpec.ofChange Rows.scanWalksSpec) own started (by kernel_rfl) Tryz.func3
  (witness_row_at (enc:=enc) (C:=Tryz.checked) false (World.doorLaid Tryz.prog 211 os) #[.slice none 0 0] rfl (by kernel_rfl) (by kernel_rfl) (by kernel_rfl)
   (OpenSpec.preRow_of_cond 8 hx (by kernel_rfl) (fun k hk=>by cases hk) (by kernel_rfl) (qS os _))) ?_
 intro W base args ds gs before hval hW _ hcond hsz hL _ _
 exact eM H enc W base args ds gs before hval hW hsz hL
theorem gm:Rows.ScanWalksSaid :=
 OpenClaim.holds_of_cond 3 Tryz.f3 rfl rfl rfl rfl rfl rfl rfl ⟨rfl,rfl,rfl,rfl,rfl⟩ rfl rfl rfl rfl rfl (by kernel_rfl) Tryz.func3 (by kernel_rfl)
  (of_decide_eq_true (by kernel_rfl)) (by unfold Func.isWrapper;first | (rw[if_pos (by decide +kernel)];kernel_rfl) | (rw[if_neg (by decide +kernel)];exact⟨rfl,rfl⟩))
  (fun os started H enc _ F=>by rw[OpenClaim.pre_eq_preRow];exact fH os started H enc F)
theorem gk(f : FuncId)(fn : Func)(hf : Tryz.pinned.checked.prog.funcNamed "gabion/gabionlaw14.ScanWalks"=some f)(hfn : Tryz.pinned.checked.prog.funcs[f]?=some fn):
  true=Tryz.pinned.checked.prog.looks []∧∀(j:Nat) t,fn.params[j]?=some t->Tryz.pinned.checked.prog.wantsStandIn t=false:=by
 obtain rfl : f=3 := Option.some.inj ((show Tryz.prog.funcNamed "gabion/gabionlaw14.ScanWalks"=some 3 by kernel_rfl).symm.trans hf) |>.symm
 obtain rfl:fn=Tryz.f3:=(Option.some.inj (Tryz.func3.symm.trans hfn)).symm
 refine⟨by kernel_rfl,fun j t ht=>?_⟩
 rw[Tryz.params3] at ht
 have hm:t∈[22]:=by simpa using Array.mem_of_getElem? ht
 have hall:([22].all fun u=>!Tryz.prog.wantsStandIn u)=true:=by kernel_rfl
 exact(show Tryz.prog.wantsStandIn t=false by simpa using List.all_eq_true.1 hall t hm)
theorem scanWalks_card:Rows.ScanWalksCardSaid :=
 Claim7.holds_tied_plain_at .later [] _ _ _ _ gm (fun _ h=>by cases h) (by kernel_rfl) (fun _ h=>by cases h) scanWalks_row_tie rfl ⟨rfl,rfl⟩ (by kernel_rfl) rfl gk (by kernel_rfl)
#print axioms scanWalks_card
end Go.Proofs.YtlgfdgdlaahpfaaGreatDoor
