/- Proved: for any index, any number, any numbered schema and any frames at any places the law ScanResumes returns true and leaves them as they were: the landed Resume tells a walk just where the document's does, and told the same frames both take the same and tell the same behind each. No condition, but that the listed variable (the program's table of sixteen words) lies as the program's text lays it, which the card ties. -/
import Derived.Test.YtlgfdgdlaahpfaaGreatDoorRSL
import Derived.Test.YtlgfdgdlaahpfaaGreatDoorB46
import Derived.Test.YtlgfdgdlaahpfaaGreatDoorA13
import Derived.Test.YtlgfdgdlaahpfaaGreatDoorA12
set_option maxRecDepth 100000
namespace Go.Proofs.YtlgfdgdlaahpfaaGreatDoor
open Go.ChangeShapes Go.WideShapes Go.ChangeAt Go.RowKit
theorem dX(H:Type)(enc:TypeId×Value->H)(W:World)(base:Nat)(args:AV)(ds gs:List (DataW H))(before:List MemPlace)(hval0:∀(j:Nat) t v,Tryz.f4.params[j]?=some t->args[j]?=some v->Value.okWide Tryz.prog W .any base t v)(hW:DataW.Whole enc Tryz.prog Tryz.f4.params.toList Rows.scanResumesSpec.vars false W args.toList ds gs before)(hsz0:(DataW.weightsEach Tryz.prog (Tryz.f4.params.toList++Rows.scanResumesSpec.plain.varTypes Tryz.prog) (ds++gs)).all (·<=reachBytes)=true)(hL:laidMetH Tryz.prog Rows.scanResumesRow.laid W):
  Calls Tryz.prog 4 args W fun e W'=>∃v,e=.returned v∧Rows.scanResumesSpec.post enc Tryz.prog Tryz.f4 false true false false W args v W':=by
 have hval:∀(j:Nat) t v,Tryz.f4.params[j]?=some t->args[j]?=some v->Value.okWide Tryz.prog W .any base t v:=hval0
 have hsz:=hsz0
 have hW':=hW
 obtain⟨p,q,hAll,hV,rfl,hfz,hnd⟩:=hW
 have hA:DataW.TrodAll enc Tryz.prog W 0 (fun _=>true) true Tryz.f4.params.toList args.toList ds p:=hAll
 rw[Tryz.params4] at hA hval hsz
 obtain⟨rfl,rfl⟩:=trodVars_none hV
 obtain⟨v0,vs0,d0,ds0,p0s,q0s,hargs,rfl,rfl,h0,r0⟩:=trodAll_cons hA
 obtain⟨v1,vs1,d1,ds1,p1s,q1s,rfl,rfl,rfl,h1,r1⟩:=trodAll_cons r0
 obtain⟨v2,vs2,d2,ds2,p2s,q2s,rfl,rfl,rfl,h2,r2⟩:=trodAll_cons r1
 obtain⟨v3,vs3,d3,ds3,p3s,q3s,rfl,rfl,rfl,h3,r3⟩:=trodAll_cons r2
 obtain⟨rfl,rfl,rfl⟩:=trodAll_nil r3
 obtain rfl:args=#[v0,v1,v2,v3]:=by cases args;simp_all
 have k0:=h0
 have lt0:∀x∈p0s,x.block<W.1.size:=by obtain⟨m,hm⟩:=k0;exact DataW.trod_lt m _ _ _ hm
 obtain⟨x0,ep0,ec0,rfl,hc0,he0,hb0⟩:=qs (j:=0) (hval 0 34 v0 rfl rfl) h0 hsz rfl rfl
 obtain⟨a1,rfl,rfl,rfl,w1⟩:=open_int Tryz.underlying3 (hval 1 3 v1 rfl rfl) h1
 have k2:=h2
 have lt2:∀x∈p2s,x.block<W.1.size:=by obtain⟨m,hm⟩:=k2;exact DataW.trod_lt m _ _ _ hm
 obtain⟨n2,qp2,qc2,s2,rfl,hn2,hs2,hc2,hx2,hw2⟩:=oA (j:=2) (hval 2 44 v2 rfl rfl) h2 hsz rfl rfl
 obtain⟨p3,len3,c3,rfl⟩:=okWide_slice Tryz.underlying22 (hval 3 22 v3 rfl rfl)
 have k3:=h3
 have lt3:∀x∈p3s,x.block<W.1.size:=by obtain⟨m,hm⟩:=k3;exact DataW.trod_lt m _ _ _ hm
 obtain⟨l3,rfl,hP3,hl3,hw3⟩:=jH (j:=3) h3 hsz rfl rfl
 have hT:=mN hL
 clear hval0 hsz0
 refine(gx tS x0.entries ep0 ec0 hb0 hc0 a1 n2 (aY w1) hn2 s2 qp2 qc2 hs2 hc2 hw2 x0.at_ x0.frames x0.rows p3 c3 l3 hl3 hw3 W hT he0 hx2 hP3).mono fun e W' ⟨he,bel⟩=>?_
 subst he
 exact⟨_,rfl,_,_,_,[],_,[],hW',trodAll_mk1 (shut_bool Tryz.underlying4 _),(trodAll_cons_mk (Below.trod laidOut (by kernel_rfl) (of_decide_eq_true (by kernel_rfl)) k0 bel lt0) (trodAll_cons_mk (shut_int Tryz.underlying3 w1) (trodAll_cons_mk (Below.trod laidOut (by kernel_rfl) (of_decide_eq_true (by kernel_rfl)) k2 bel lt2) (trodAll_cons_mk (Below.trod laidOut (by kernel_rfl) (of_decide_eq_true (by kernel_rfl)) k3 bel lt3) trodAll_mk0)))),rfl,bel.frame _,fun h=>by cases h⟩
theorem eO(os:Os)(started:os.Started)(H:Type)(enc:TypeId×Value->H)(F:Stop.Interp):
  ReturnsInHanded {} Tryz.checked os 4 .any ((OpenSpec.ofChange Rows.scanResumesSpec).preRow enc Tryz.prog Tryz.f4 Rows.scanResumesRow.domain false Rows.scanResumesRow.laid) (((OpenSpec.ofChange Rows.scanResumesSpec).at F).post enc Tryz.prog Tryz.f4 false true false false):=by
 have hx:∃places,DataW.whole enc Tryz.prog ((World.doorLaid Tryz.prog 211 os).forCall (fun _ _=>0) ⟨#[],#[.agg #[.int .i64 0,.int .i64 0,.int .i64 0,.slice none 0 0],.int .i64 0,.agg #[.int .i64 0,.slice none 0 0],.slice none 0 0],[]⟩).memory Tryz.f4.params.toList Rows.scanResumesSpec.vars false (#[.agg #[.int .i64 0,.int .i64 0,.int .i64 0,.slice none 0 0],.int .i64 0,.agg #[.int .i64 0,.slice none 0 0],.slice none 0 0]:AV).toList 8=some ([.agg [.lit (.int .i64 0),.lit (.int .i64 0),.lit (.int .i64 0),.nil],.lit (.int .i64 0),.agg [.lit (.int .i64 0),.agg [.nil]],.nil],[],places):=⟨[],by kernel_rfl⟩
 obtain⟨places,hx⟩:=hx
 refine returnsInHanded_of_row (C:=Tryz.checked) (s:=OpenSpec.ofChange Rows.scanResumesSpec) own started (by kernel_rfl) Tryz.func4
  (witness_row_at (enc:=enc) (C:=Tryz.checked) false (World.doorLaid Tryz.prog 211 os) #[.agg #[.int .i64 0,.int .i64 0,.int .i64 0,.slice none 0 0],.int .i64 0,.agg #[.int .i64 0,.slice none 0 0],.slice none 0 0] rfl (by kernel_rfl) (by kernel_rfl) (by kernel_rfl)
   (OpenSpec.preRow_of_cond 8 hx (by kernel_rfl) (fun k hk=>by cases hk) (by kernel_rfl) (rs os _))) ?_
 intro W base args ds gs before hval hW _ hcond hsz hL _ _
 exact dX H enc W base args ds gs before hval hW hsz hL
theorem fb:Rows.ScanResumesSaid :=
 OpenClaim.holds_of_cond 4 Tryz.f4 rfl rfl rfl rfl rfl rfl rfl ⟨rfl,rfl,rfl,rfl,rfl⟩ rfl rfl rfl rfl rfl (by kernel_rfl) Tryz.func4 (by kernel_rfl)
  (of_decide_eq_true (by kernel_rfl)) (by unfold Func.isWrapper;first | (rw[if_pos (by decide +kernel)];kernel_rfl) | (rw[if_neg (by decide +kernel)];exact⟨rfl,rfl⟩))
  (fun os started H enc _ F=>by rw[OpenClaim.pre_eq_preRow];exact eO os started H enc F)
theorem fa(f : FuncId)(fn : Func)(hf : Tryz.pinned.checked.prog.funcNamed "gabion/gabionlaw14.ScanResumes"=some f)(hfn : Tryz.pinned.checked.prog.funcs[f]?=some fn):
  true=Tryz.pinned.checked.prog.looks []∧∀(j:Nat) t,fn.params[j]?=some t->Tryz.pinned.checked.prog.wantsStandIn t=false:=by
 obtain rfl : f=4 := Option.some.inj ((show Tryz.prog.funcNamed "gabion/gabionlaw14.ScanResumes"=some 4 by kernel_rfl).symm.trans hf) |>.symm
 obtain rfl:fn=Tryz.f4:=(Option.some.inj (Tryz.func4.symm.trans hfn)).symm
 refine⟨by kernel_rfl,fun j t ht=>?_⟩
 rw[Tryz.params4] at ht
 have hm:t∈[34,3,44,22]:=by simpa using Array.mem_of_getElem? ht
 have hall:([34,3,44,22].all fun u=>!Tryz.prog.wantsStandIn u)=true:=by kernel_rfl
 exact(show Tryz.prog.wantsStandIn t=false by simpa using List.all_eq_true.1 hall t hm)
theorem scanResumes_card:Rows.ScanResumesCardSaid :=
 Claim7.holds_tied_plain_at .later [] _ _ _ _ fb (fun _ h=>by cases h) (by kernel_rfl) (fun _ h=>by cases h) scanResumes_row_tie rfl ⟨rfl,rfl⟩ (by kernel_rfl) rfl fa (by kernel_rfl)
#print axioms scanResumes_card
end Go.Proofs.YtlgfdgdlaahpfaaGreatDoor
