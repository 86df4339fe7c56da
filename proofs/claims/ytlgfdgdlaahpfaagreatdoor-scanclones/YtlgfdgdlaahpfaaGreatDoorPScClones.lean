/- Proved: for any three lists of frames at any places the law ScanClones returns true and leaves them as they were: a clone of the landed walk goes on as the document's does, and neither walk sees what the other is told. No condition, but that the listed variable (the program's table of sixteen words) lies as the program's text lays it, which the card ties. -/
import Derived.Test.YtlgfdgdlaahpfaaGreatDoorRSL
import Derived.Test.YtlgfdgdlaahpfaaGreatDoorB46
import Derived.Test.YtlgfdgdlaahpfaaGreatDoorRSW
import Derived.Test.YtlgfdgdlaahpfaaGreatDoorA12
set_option maxRecDepth 100000
namespace Go.Proofs.YtlgfdgdlaahpfaaGreatDoor
open Go.ChangeShapes Go.WideShapes Go.ChangeAt Go.RowKit
theorem eu(H:Type)(enc:TypeId×Value->H)(W:World)(base:Nat)(args:AV)(ds gs:List (DataW H))(before:List MemPlace)(hval0:∀(j:Nat) t v,Tryz.f5.params[j]?=some t->args[j]?=some v->Value.okWide Tryz.prog W .any base t v)(hW:DataW.Whole enc Tryz.prog Tryz.f5.params.toList Rows.scanClonesSpec.vars false W args.toList ds gs before)(hsz0:(DataW.weightsEach Tryz.prog (Tryz.f5.params.toList++Rows.scanClonesSpec.plain.varTypes Tryz.prog) (ds++gs)).all (·<=reachBytes)=true)(hL:laidMetH Tryz.prog Rows.scanClonesRow.laid W):
  Calls Tryz.prog 5 args W fun e W'=>∃v,e=.returned v∧Rows.scanClonesSpec.post enc Tryz.prog Tryz.f5 false true false false W args v W':=by
 have hval:∀(j:Nat) t v,Tryz.f5.params[j]?=some t->args[j]?=some v->Value.okWide Tryz.prog W .any base t v:=hval0
 have hsz:=hsz0
 have hW':=hW
 obtain⟨p,q,hAll,hV,rfl,hfz,hnd⟩:=hW
 have hA:DataW.TrodAll enc Tryz.prog W 0 (fun _=>true) true Tryz.f5.params.toList args.toList ds p:=hAll
 rw[Tryz.params5] at hA hval hsz
 obtain⟨rfl,rfl⟩:=trodVars_none hV
 obtain⟨v0,vs0,d0,ds0,p0s,q0s,hargs,rfl,rfl,h0,r0⟩:=trodAll_cons hA
 obtain⟨v1,vs1,d1,ds1,p1s,q1s,rfl,rfl,rfl,h1,r1⟩:=trodAll_cons r0
 obtain⟨v2,vs2,d2,ds2,p2s,q2s,rfl,rfl,rfl,h2,r2⟩:=trodAll_cons r1
 obtain⟨rfl,rfl,rfl⟩:=trodAll_nil r2
 obtain rfl:args=#[v0,v1,v2]:=by cases args;simp_all
 obtain⟨p0,len0,c0,rfl⟩:=okWide_slice Tryz.underlying22 (hval 0 22 v0 rfl rfl)
 have k0:=h0
 have lt0:∀x∈p0s,x.block<W.1.size:=by obtain⟨m,hm⟩:=k0;exact DataW.trod_lt m _ _ _ hm
 obtain⟨l0,rfl,hP0,hl0,hw0⟩:=dG (j:=0) h0 hsz rfl rfl
 obtain⟨p1,len1,c1,rfl⟩:=okWide_slice Tryz.underlying22 (hval 1 22 v1 rfl rfl)
 have k1:=h1
 have lt1:∀x∈p1s,x.block<W.1.size:=by obtain⟨m,hm⟩:=k1;exact DataW.trod_lt m _ _ _ hm
 obtain⟨l1,rfl,hP1,hl1,hw1⟩:=dG (j:=1) h1 hsz rfl rfl
 obtain⟨p2,len2,c2,rfl⟩:=okWide_slice Tryz.underlying22 (hval 2 22 v2 rfl rfl)
 have k2:=h2
 have lt2:∀x∈p2s,x.block<W.1.size:=by obtain⟨m,hm⟩:=k2;exact DataW.trod_lt m _ _ _ hm
 obtain⟨l2,rfl,hP2,hl2,hw2⟩:=dG (j:=2) h2 hsz rfl rfl
 have hT:=mB hL
 clear hval0 hsz0
 refine(gR tB p0 c0 l0 hw0 p1 c1 l1 hw1 p2 c2 l2 hw2 ⟨hl0,hl1,hl2⟩ W hT hP0 hP1 hP2).mono fun e W' ⟨he,bel⟩=>?_
 subst he
 exact⟨_,rfl,_,_,_,[],_,[],hW',trodAll_mk1 (shut_bool Tryz.underlying4 _),(trodAll_cons_mk (Below.trod laidOut (by kernel_rfl) (of_decide_eq_true (by kernel_rfl)) k0 bel lt0) (trodAll_cons_mk (Below.trod laidOut (by kernel_rfl) (of_decide_eq_true (by kernel_rfl)) k1 bel lt1) (trodAll_cons_mk (Below.trod laidOut (by kernel_rfl) (of_decide_eq_true (by kernel_rfl)) k2 bel lt2) trodAll_mk0))),rfl,bel.frame _,fun h=>by cases h⟩
theorem eY(os:Os)(started:os.Started)(H:Type)(enc:TypeId×Value->H)(F:Stop.Interp):
  ReturnsInHanded {} Tryz.checked os 5 .any ((OpenSpec.ofChange Rows.scanClonesSpec).preRow enc Tryz.prog Tryz.f5 Rows.scanClonesRow.domain false Rows.scanClonesRow.laid) (((OpenSpec.ofChange Rows.scanClonesSpec).at F).post enc Tryz.prog Tryz.f5 false true false false):=by
 have hx:∃places,DataW.whole enc Tryz.prog ((World.doorLaid Tryz.prog 211 os).forCall (fun _ _=>0) ⟨#[],#[.slice none 0 0,.slice none 0 0,.slice none 0 0],[]⟩).memory Tryz.f5.params.toList Rows.scanClonesSpec.vars false (#[.slice none 0 0,.slice none 0 0,.slice none 0 0]:AV).toList 8=some ([.nil,.nil,.nil],[],places):=⟨[],by kernel_rfl⟩
 obtain⟨places,hx⟩:=hx
 refine returnsInHanded_of_row (C:=Tryz.checked) (s:=OpenSpec.ofChange Rows.scanClonesSpec) own started (by kernel_rfl) Tryz.func5
  (witness_row_at (enc:=enc) (C:=Tryz.checked) false (World.doorLaid Tryz.prog 211 os) #[.slice none 0 0,.slice none 0 0,.slice none 0 0] rfl (by kernel_rfl) (by kernel_rfl) (by kernel_rfl)
   (OpenSpec.preRow_of_cond 8 hx (by kernel_rfl) (fun k hk=>by cases hk) (by kernel_rfl) (qZ os _))) ?_
 intro W base args ds gs before hval hW _ hcond hsz hL _ _
 exact eu H enc W base args ds gs before hval hW hsz hL
theorem fK:Rows.ScanClonesSaid :=
 OpenClaim.holds_of_cond 5 Tryz.f5 rfl rfl rfl rfl rfl rfl rfl ⟨rfl,rfl,rfl,rfl,rfl⟩ rfl rfl rfl rfl rfl (by kernel_rfl) Tryz.func5 (by kernel_rfl)
  (of_decide_eq_true (by kernel_rfl)) (by unfold Func.isWrapper;first | (rw[if_pos (by decide +kernel)];kernel_rfl) | (rw[if_neg (by decide +kernel)];exact⟨rfl,rfl⟩))
  (fun os started H enc _ F=>by rw[OpenClaim.pre_eq_preRow];exact eY os started H enc F)
theorem fJ(f : FuncId)(fn : Func)(hf : Tryz.pinned.checked.prog.funcNamed "gabion/gabionlaw14.ScanClones"=some f)(hfn : Tryz.pinned.checked.prog.funcs[f]?=some fn):
  true=Tryz.pinned.checked.prog.looks []∧∀(j:Nat) t,fn.params[j]?=some t->Tryz.pinned.checked.prog.wantsStandIn t=false:=by
 obtain rfl : f=5 := Option.some.inj ((show Tryz.prog.funcNamed "gabion/gabionlaw14.ScanClones"=some 5 by kernel_rfl).symm.trans hf) |>.symm
 obtain rfl:fn=Tryz.f5:=(Option.some.inj (Tryz.func5.symm.trans hfn)).symm
 refine⟨by kernel_rfl,fun j t ht=>?_⟩
 rw[Tryz.params5] at ht
 have hm:t∈[22,22,22]:=by simpa using Array.mem_of_getElem? ht
 have hall:([22,22,22].all fun u=>!Tryz.prog.wantsStandIn u)=true:=by kernel_rfl
 exact(show Tryz.prog.wantsStandIn t=false by simpa using List.all_eq_true.1 hall t hm)
theorem scanClones_card:Rows.ScanClonesCardSaid :=
 Claim7.holds_tied_plain_at .later [] _ _ _ _ fK (fun _ h=>by cases h) (by kernel_rfl) (fun _ h=>by cases h) scanClones_row_tie rfl ⟨rfl,rfl⟩ (by kernel_rfl) rfl fJ (by kernel_rfl)
#print axioms scanClones_card
end Go.Proofs.YtlgfdgdlaahpfaaGreatDoor
