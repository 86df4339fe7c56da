/- Proved: for any text of at most 1048576 bytes the law TextParsesSchema returns true: ParseSchema answers as the document tells it: the schema, or the error and the place of it; what is told is the caller's own. The bound is the second form's own. -/
import Derived.Test.YtllbniljgcgbeaaGreatDoorRTS
import Derived.Deep.DeepWitnessRowRef
set_option maxRecDepth 100000
namespace Go.Proofs.YtllbniljgcgbeaaGreatDoor
open Go.ChangeShapes Go.WideShapes Go.ChangeAt Go.RowKit
theorem pS(os:Os)(args:AV):laidMetH Tryz.prog Rows.textParsesSchemaUptoRow.laid ((World.doorLaid Tryz.prog 237 os).forCall (fun _ _=>0) ⟨#[],args,[]⟩).memory :=
 laidMetH_of_parts3 (fuel:=8) (laidMet_of_run' 8 (by kernel_rfl) (by kernel_rfl)) (by kernel_rfl) (by kernel_rfl)
theorem bS(H:Type)(enc:TypeId×Value->H)(W:World)(base:Nat)(args:AV)(ds gs:List (DataW H))(before:List MemPlace)(hval0:∀(j:Nat) t v,Tryz.f3.params[j]?=some t->args[j]?=some v->Value.okWide Tryz.prog W .any base t v)(hW:DataW.Whole enc Tryz.prog Tryz.f3.params.toList Rows.textParsesSchemaSpec.vars false W args.toList ds gs before)(hbulk:Rows.uptoSmall H (ds++gs)=true)(hsz0:(DataW.weightsEach Tryz.prog (Tryz.f3.params.toList++Rows.textParsesSchemaSpec.plain.varTypes Tryz.prog) (ds++gs)).all (·<=reachBytes)=true)(hL:laidMetH Tryz.prog Rows.textParsesSchemaUptoRow.laid W):
  Calls Tryz.prog 3 args W fun e W'=>∃v,e=.returned v∧Rows.textParsesSchemaSpec.post enc Tryz.prog Tryz.f3 false true false false W args v W':=by
 have hval:∀(j:Nat) t v,Tryz.f3.params[j]?=some t->args[j]?=some v->Value.okWide Tryz.prog W .any base t v:=hval0
 have hsz:=hsz0
 have hW':=hW
 obtain⟨p,q,hAll,hV,rfl,hfz,hnd⟩:=hW
 have hA:DataW.TrodAll enc Tryz.prog W 0 (fun _=>true) true Tryz.f3.params.toList args.toList ds p:=hAll
 rw[Tryz.params3] at hA hval hsz
 obtain⟨rfl,rfl⟩:=trodVars_none hV
 obtain⟨v0,vs0,d0,ds0,p0s,q0s,hargs,rfl,rfl,h0,r0⟩:=trodAll_cons hA
 obtain⟨rfl,rfl,rfl⟩:=trodAll_nil r0
 obtain rfl:args=#[v0]:=by cases args;simp_all
 obtain⟨S0,rfl,rfl,rfl,wS0⟩:=ChangeMaps.open_string Tryz.underlying9 (hval 0 9 v0 rfl rfl) h0
 have hHv:=l4 hL
 have hbk:=of_decide_eq_true hbulk
 simp only[Rows.uptoBulkAll,Rows.uptoBulk,List.append_nil] at hbk
 have hS0:S0.size<=1099511627776:=by
  have h1:S0.data.toList.length=S0.size:=by rw[Array.length_toList];rfl
  omega
 clear hval0 hsz0
 refine(eu S0 hS0 W hHv).mono fun e W' ⟨he,bel⟩=>?_
 subst he
 exact⟨_,rfl,_,_,_,[],_,[],hW',trodAll_mk1 (shut_bool Tryz.underlying4 _),(trodAll_cons_mk (ChangeMaps.shut_string Tryz.underlying9 wS0) trodAll_mk0),rfl,bel.frame _,fun h=>by cases h⟩
theorem cf(os:Os)(started:os.Started)(H:Type)(enc:TypeId×Value->H)(F:Stop.Interp):
  ReturnsInHanded {} Tryz.checked os 3 .any ((Rows.OpenSpec.upto Rows.textParsesSchemaSpec).preRow enc Tryz.prog Tryz.f3 Rows.textParsesSchemaUptoRow.domain false Rows.textParsesSchemaUptoRow.laid) (((Rows.OpenSpec.upto Rows.textParsesSchemaSpec).at F).post enc Tryz.prog Tryz.f3 false true false false):=by
 have hx:∃places,DataW.whole enc Tryz.prog ((World.doorLaid Tryz.prog 237 os).forCall (fun _ _=>0) ⟨#[],#[.string ⟨#[]⟩],[]⟩).memory Tryz.f3.params.toList Rows.textParsesSchemaSpec.vars false (#[.string ⟨#[]⟩]:AV).toList 8=some ([.lit (.string [])],[],places):=⟨[],by kernel_rfl⟩
 obtain⟨places,hx⟩:=hx
 refine returnsInHanded_of_row (C:=Tryz.checked) (s:=Rows.OpenSpec.upto Rows.textParsesSchemaSpec) own started (by kernel_rfl) Tryz.func3
  (witness_row_atRef (enc:=enc) (C:=Tryz.checked) false (World.doorLaid Tryz.prog 237 os) #[.string ⟨#[]⟩] rfl (by kernel_rfl) (by kernel_rfl) (by kernel_rfl)
   (OpenSpec.preRow_of_cond 8 hx (by kernel_rfl) (fun k hk=>by cases hk;kernel_rfl) (by kernel_rfl) (pS os _))) ?_
 intro W base args ds gs before hval hW _ hcond hsz hL _ _
 exact bS H enc W base args ds gs before hval hW (hcond _ rfl) hsz hL
theorem cu:Rows.TextParsesSchemaUptoSaid :=
 OpenClaim.holds_of_cond 3 Tryz.f3 rfl rfl rfl rfl rfl rfl rfl ⟨rfl,rfl,rfl,rfl,rfl⟩ rfl rfl rfl rfl rfl (by kernel_rfl) Tryz.func3 (by kernel_rfl)
  (of_decide_eq_true (by kernel_rfl)) (by unfold Func.isWrapper;first | (rw[if_pos (by decide +kernel)];kernel_rfl) | (rw[if_neg (by decide +kernel)];exact⟨rfl,rfl⟩))
  (fun os started H enc _ F=>by rw[OpenClaim.pre_eq_preRow];exact cf os started H enc F)
theorem cq(f : FuncId)(fn : Func)(hf : Tryz.pinned.checked.prog.funcNamed "gabion/gabionlaw21.TextParsesSchema"=some f)(hfn : Tryz.pinned.checked.prog.funcs[f]?=some fn):
  true=Tryz.pinned.checked.prog.looks []∧∀(j:Nat) t,fn.params[j]?=some t->Tryz.pinned.checked.prog.wantsStandIn t=false:=by
 obtain rfl : f=3 := Option.some.inj ((show Tryz.prog.funcNamed "gabion/gabionlaw21.TextParsesSchema"=some 3 by kernel_rfl).symm.trans hf) |>.symm
 obtain rfl:fn=Tryz.f3:=(Option.some.inj (Tryz.func3.symm.trans hfn)).symm
 refine⟨by kernel_rfl,fun j t ht=>?_⟩
 rw[Tryz.params3] at ht
 have hm:t∈[9]:=by simpa using Array.mem_of_getElem? ht
 have hall:([9].all fun u=>!Tryz.prog.wantsStandIn u)=true:=by kernel_rfl
 exact(show Tryz.prog.wantsStandIn t=false by simpa using List.all_eq_true.1 hall t hm)
theorem textParsesSchemaUpto_card:Rows.TextParsesSchemaUptoCardSaid :=
 Claim7.holds_tied_plain_at .later [] _ _ _ _ cu (fun _ h=>by cases h) (by kernel_rfl) (fun _ h=>by cases h) textParsesSchemaUpto_row_tie rfl ⟨rfl,rfl⟩ (by kernel_rfl) rfl cq (by kernel_rfl)
#print axioms textParsesSchemaUpto_card
end Go.Proofs.YtllbniljgcgbeaaGreatDoor
