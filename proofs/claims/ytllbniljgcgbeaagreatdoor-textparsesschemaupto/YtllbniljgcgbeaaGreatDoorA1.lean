import Derived.Test.YtllbniljgcgbeaaGreatDoorK21Q
import Derived.Test.YtllbniljgcgbeaaGreatDoorA20
namespace Go.Proofs.YtllbniljgcgbeaaGreatDoor
section
theorem jr{α:Type}{S:ByteArray}{y:Tx.R (α×Tx.Bs)}{er:α->Nat}{x:α}(h:Tx.whole y=.ok x)(h0:er x=0):aA S y er=.ok x:=by
 rw[Tx.whole_ok h]
 unfold aA
 simp[h0]
theorem ls(rf:Tx.Bs->Option Nat)(l:Tx.Bs):Tx.whole (eA rf l)=Tx.rows rf l:=by
 unfold eA Tx.rows
 split <;> rfl
theorem iR:∀(xs:List V),(∀x∈xs,chk 1 x=0)->aE xs=0
 | [],_=>rfl
 |y::l,h=>by
  unfold aE
  rw[if_pos (h y (by simp))]
  exact iR l fun x hx=>h x (by simp[hx])
theorem lE(xs:List V)(h:aE xs=0):aE (xs.map V.fix)=0:=iR _ fun x hx=>by
 obtain⟨y,hy,rfl⟩:=List.mem_map.1 hx
 rw[mF]
 exact di xs h y hy
theorem pR{s:List Col}(h:Sch.err s=0)(hw:∀c∈s,c.wf):Sch.err (s.map Col.fix)=0:=(Sch.read_ok (Sch.read_put h hw)).1
section
variable {rf:Tx.Bs->Option Nat}
theorem sZ(hF:bP rf){S:ByteArray}{v:V}(h:chk 1 v=0)(hw:v.wf):aA S (Tx.pval rf 4 (Tx.val text v)) (chk 1)=.ok (V.fix v):=jr (Tx.value_back (cQ hF) h hw) (by rw[mF];exact h)
theorem s5(hF:bP rf){S:ByteArray}{s:List Col}(h:Sch.err s=0)(hw:∀c∈s,c.wf):aA S (Tx.pseq (Tx.pcol rf) ((Tx.sch text s).length+1) (Tx.sch text s)) Sch.err=.ok (s.map Col.fix):=jr (Tx.schema_back (cQ hF) h hw) (pR h hw)
theorem s6(hF:bP rf){S:ByteArray}{vs:List V}(h:aE vs=0)(hw:∀v∈vs,v.wf):aA S (eA rf (Tx.row text vs)) aE=.ok (vs.map V.fix):=jr ((ls rf _).trans (Tx.rows_back (cQ hF) (di vs h) hw)) (lE vs h)
end
def cD:List Col:=[⟨⟨#[97]⟩,.mk 2 [],false,.mk 0 0 0 ⟨#[]⟩ []⟩,⟨⟨#[98]⟩,.mk 4 [],true,.mk 4 0 0 ⟨#[120]⟩ []⟩,⟨⟨#[99]⟩,.mk 6 [.mk 5 []],true,.mk 6 0 0 ⟨#[]⟩ []⟩]
def dA:V:=.mk 7 0 0 ⟨#[]⟩ [.mk 6 0 0 ⟨#[]⟩ [.mk 3 0 9223372036854775808 ⟨#[]⟩ []],.mk 6 0 0 ⟨#[]⟩ []]
def dB:List V:=[.mk 2 1 0 ⟨#[]⟩ [],.mk 5 0 0 ⟨#[0]⟩ []]
theorem gI:Tx.sch text cD=[97,32,105,110,116,44,32,98,32,116,101,120,116,32,61,32,34,120,34,44,32,99,32,111,112,116,40,98,121,116,101,115,41,32,61,32,110,111,110,101]:=by
 simp only[Tx.sch,cD,Tx.col,List.map_cons,List.map_nil,Tx.ty_leaf,Tx.ty_one,Tx.val_four,Tx.val_none]
 rfl
theorem lvA:chk 1 (.mk 4 0 0 ⟨#[120]⟩ [])=0:=by rw[bL];decide +kernel
theorem lvB:chk 1 (.mk 6 0 0 ⟨#[]⟩ [])=0:=by rw[bL];decide +kernel
theorem ltA:Ty.check 1 (.mk 2 [])=0:=by rw[Ty.check_mk];rfl
theorem ltB:Ty.check 1 (.mk 4 [])=0:=by rw[Ty.check_mk];rfl
theorem ltC:Ty.check 1 (.mk 6 [.mk 5 []])=0:=by
 have h:Ty.check 2 (.mk 5 [])=0:=by rw[Ty.check_mk];rfl
 rw[Ty.check_mk,List.map_cons,List.map_nil,h];rfl
theorem lfA:V.fix (.mk 0 0 0 ⟨#[]⟩ [])=V0:=by rw[V.fix_mk,V.fixL_eq];rfl
theorem lV:Sch.colsErr [] cD=0:=by
 unfold cD Sch.colsErr
 rw[if_pos (Sch.col_make (by decide) (by decide) ltA (fun _=>lfA) (fun h=>by cases h))]
 unfold Sch.colsErr
 rw[if_pos (Sch.col_make (by decide) (by decide) ltB (fun h=>by cases h) (fun _=>⟨lvA,by rw[Sch.of_mk];decide⟩))]
 unfold Sch.colsErr
 rw[if_pos (Sch.col_make (by decide) (by decide) ltC (fun h=>by cases h) (fun _=>⟨lvB,by rw[Sch.of_mk];decide⟩))]
 rfl
theorem kO:(Sch.bytes cD).length<=1024:=by
 simp only[Sch.bytes,cD,Sch.cB,List.map_cons,List.map_nil,Sch.tyB_mk,Sch.vB_mk,Sch.vH]
 decide +kernel
theorem jc:Sch.err cD=0:=Sch.err_make (by decide) (by decide) lV kO
theorem kN:∀c∈cD,c.wf:=by
 intro c hc
 simp only[cD,List.mem_cons,List.not_mem_nil,or_false] at hc
 rcases hc with rfl | rfl | rfl
 all_goals refine⟨by decide,?_,?_⟩
 all_goals simp[Ty.wf_mk,V.wf_mk]
 all_goals decide
theorem nK:cD.map Col.fix=cD:=by
 simp only[cD,List.map_cons,List.map_nil,Col.fix,V.fix_mk,V.fixL_eq]
 rfl
theorem gH:Tx.val text dA=[91,115,111,109,101,40,126,45,48,41,44,32,110,111,110,101,93]:=by
 have h:text 9223372036854775808=[45,48]:=by unfold text;rw[if_neg (by decide +kernel),if_neg (by decide),if_neg (by decide),if_pos rfl]
 simp only[dA,Tx.val_list,List.map_cons,List.map_nil,Tx.val_some,Tx.val_none,Tx.val_three,h]
 rfl
theorem mb(d:Nat)(x:V)(r:List V)(h:chk d x=0):cJ d (x::r)=cJ d r:=by
 unfold cJ
 rw[V.checkL_cons]
 exact if_pos h
theorem jb:chk 1 dA=0:=by
 have h1:chk 3 (.mk 3 0 9223372036854775808 ⟨#[]⟩ [])=0:=by rw[bL];decide +kernel
 have h2:chk 2 (.mk 6 0 0 ⟨#[]⟩ [])=0:=by rw[bL];decide +kernel
 have h3:chk 2 (.mk 6 0 0 ⟨#[]⟩ [.mk 3 0 9223372036854775808 ⟨#[]⟩ []])=0:=by rw[bL,mb _ _ _ h1];decide +kernel
 unfold dA
 rw[bL,mb _ _ _ h3,mb _ _ _ h2]
 decide +kernel
theorem kM:dA.wf:=by
 simp[dA,V.wf_mk]
 decide
theorem nJ:V.fix dA=dA:=by
 simp only[dA,V.fix_mk,V.fixL_eq,List.map_cons,List.map_nil]
 rfl
theorem eB:Tx.row text dB=[49,44,32,39,92,120,48,48,39]:=by
 have h:Lib.itoa 1=[49]:=by decide +kernel
 simp only[dB,Tx.row,List.map_cons,List.map_nil,Tx.val_two,Tx.val_five,h]
 rfl
theorem jd:aE dB=0:=by
 have h1:chk 1 (.mk 2 1 0 ⟨#[]⟩ [])=0:=by rw[bL];decide +kernel
 have h2:chk 1 (.mk 5 0 0 ⟨#[0]⟩ [])=0:=by rw[bL];decide +kernel
 simp[dB,aE,h1,h2]
theorem kP:∀v∈dB,v.wf:=by
 intro c hc
 simp only[dB,List.mem_cons,List.not_mem_nil,or_false] at hc
 rcases hc with rfl | rfl
 all_goals simp[V.wf_mk]
 all_goals decide
theorem nL:dB.map V.fix=dB:=by
 simp only[dB,List.map_cons,List.map_nil,V.fix_mk,V.fixL_eq]
 rfl
theorem sG{S:ByteArray}(hS:S.size=23):aA S (Tx.pty 4 [111,112,116,40,111,112,116,40,111,112,116,40,111,112,116,40,105,110,116,41,41,41,41]) (Ty.check 1)=.error (62,16):=by
 have h:Tx.pty 4 [111,112,116,40,111,112,116,40,111,112,116,40,111,112,116,40,105,110,116,41,41,41,41]=.error (62,7):=by rfl
 rw[h]
 unfold aA
 rw[hS]
end
section
open Go.RowKit
theorem mT(w:World):aD w #[.int .i64 0,.slice none 0 0] (.mk 0 []):=.mk (xs:=[]) (fun _=>#[]) (by simp) (by simp) (fun hc=>absurd rfl hc) (fun j hj=>by simp at hj)
theorem mP(w:World):av w #[.int .i64 0,.int .i64 0,.float .f64 0,.string ⟨#[]⟩,.slice none 0 0] (.mk 0 0 0 ⟨#[]⟩ []):=.mk (xs:=[]) (fun _=>#[]) (by simp) (by simp) (fun hc=>absurd rfl hc) (fun j hj=>by simp at hj)
def ei{α:Type}:Except (Nat×Nat) α->Nat
 |.error (k,_)=>k
 |.ok _=>0
def ik{α:Type}:Except (Nat×Nat) α->Nat
 |.error (_,a)=>a
 |.ok _=>0
def aY{α:Type}(z:α):Except (Nat×Nat) α->α
 |.error _=>z
 |.ok x=>x
theorem mp(S:ByteArray)(hS:S.size<=140737488351232)(w:World)(hv:Hv w):Calls Tryz.prog 18 #[.string S] w fun e w'=>∃k p n c,e=.returned (.tuple #[.agg #[.int .i64 k,.slice p n c],.int .i64 (ei (aA S (Tx.pty 4 S.data.toList) (Ty.check 1)):Nat),.int .i64 (ik (aA S (Tx.pty 4 S.data.toList) (Ty.check 1)):Nat)])∧aD w' #[.int .i64 k,.slice p n c] (aY (.mk 0 []) (aA S (Tx.pty 4 S.data.toList) (Ty.check 1)))∧Below w.1.size w w':=by
 refine(mo S hS w hv).mono ?_
 intro e w' h
 generalize aA S (Tx.pty 4 S.data.toList) (Ty.check 1)=R at h ⊢
 match R,h with
 |.error (k,a),⟨he,hb⟩=>exact⟨0,none,0,0,he,mT w',hb⟩
 |.ok x,⟨u,he,⟨u',hu,ho⟩,hb⟩=>
  injection hu with hu
  subst hu
  obtain⟨k,xs⟩:=x
  have hl:=ho.lies
  obtain⟨p,c,rfl,-⟩:=hl.open
  exact⟨k,p,xs.length,c,he,hl,hb⟩
theorem lk{rf:Tx.Bs->Option Nat}(hRf:bP rf)(S:ByteArray)(hS:S.size<=1099511627776)(w:World)(hv:Hv w):Calls Tryz.prog 10 #[.string S] w fun e w'=>∃k i b t p n c,e=.returned (.tuple #[.agg #[.int .i64 k,.int .i64 i,.float .f64 b,.string t,.slice p n c],.int .i64 (ei (aA S (Tx.pval rf 4 S.data.toList) (chk 1)):Nat),.int .i64 (ik (aA S (Tx.pval rf 4 S.data.toList) (chk 1)):Nat)])∧av w' #[.int .i64 k,.int .i64 i,.float .f64 b,.string t,.slice p n c] (aY (.mk 0 0 0 ⟨#[]⟩ []) (aA S (Tx.pval rf 4 S.data.toList) (chk 1)))∧Below w.1.size w w':=by
 refine(lj hRf S hS w hv).mono ?_
 intro e w' h
 generalize aA S (Tx.pval rf 4 S.data.toList) (chk 1)=R at h ⊢
 match R,h with
 |.error (k,a),⟨he,hb⟩=>exact⟨0,0,0,⟨#[]⟩,none,0,0,he,mP w',hb⟩
 |.ok x,⟨u,he,⟨u',hu,ho⟩,hb⟩=>
  injection hu with hu
  subst hu
  obtain⟨k,i,b,t,xs⟩:=x
  have hl:=ho.lies
  obtain⟨p,c,rfl,-⟩:=hl.open
  exact⟨k,i,b,t,p,xs.length,c,he,hl,hb⟩
theorem j7{rf:Tx.Bs->Option Nat}(hRf:bP rf)(S:ByteArray)(hS:S.size<=1099511627776)(w:World)(hv:Hv w):Calls Tryz.prog 7 #[.string S] w fun e w'=>∃q c,e=.returned (.tuple #[.agg #[.slice q (aY [] (aA S (Tx.pseq (Tx.pcol rf) (S.data.toList.length+1) S.data.toList) Sch.err)).length c],.int .i64 (ei (aA S (Tx.pseq (Tx.pcol rf) (S.data.toList.length+1) S.data.toList) Sch.err):Nat),.int .i64 (ik (aA S (Tx.pseq (Tx.pcol rf) (S.data.toList.length+1) S.data.toList) Sch.err):Nat)])∧bA w' q (aY [] (aA S (Tx.pseq (Tx.pcol rf) (S.data.toList.length+1) S.data.toList) Sch.err))∧(aY [] (aA S (Tx.pseq (Tx.pcol rf) (S.data.toList.length+1) S.data.toList) Sch.err)).length*120<=140737488351232∧Below w.1.size w w':=by
 refine(fe hRf S hS w hv).mono ?_
 intro e w' h
 generalize aA S (Tx.pseq (Tx.pcol rf) (S.data.toList.length+1) S.data.toList) Sch.err=R at h ⊢
 match R,h with
 |.error (k,a),⟨he,hb⟩=>exact⟨none,0,he,fun j hj=>by simp[aY] at hj,by simp[aY],hb⟩
 |.ok x,⟨u,he,⟨q,c,hu,⟨us,Fs,hk⟩,hl⟩,hb⟩=>
  injection hu with hu
  subst hu
  obtain⟨p2,c2,hv2,-,hc⟩:=hk.cols (by omega)
  injection hv2 with h1 h2 h3
  rw[<-h1] at hc
  exact⟨q,c,he,hc,by show x.length*120<=_;omega,hb⟩
theorem ol{rf:Tx.Bs->Option Nat}(hRf:bP rf)(S:ByteArray)(hS:S.size<=1099511627776)(w:World)(hv:Hv w):Calls Tryz.prog 13 #[.string S] w fun e w'=>∃q c,e=.returned (.tuple #[.agg #[.slice q (aY [] (aA S (eA rf S.data.toList) aE)).length c],.int .i64 (ei (aA S (eA rf S.data.toList) aE):Nat),.int .i64 (ik (aA S (eA rf S.data.toList) aE):Nat)])∧bv w' q (aY [] (aA S (eA rf S.data.toList) aE))∧(aY [] (aA S (eA rf S.data.toList) aE)).length*64<=140737488351232∧Below w.1.size w w':=by
 refine(oj hRf S hS w hv).mono ?_
 intro e w' h
 generalize aA S (eA rf S.data.toList) aE=R at h ⊢
 match R,h with
 |.error (k,a),⟨he,hb⟩=>exact⟨none,0,he,fun j hj=>by simp[aY] at hj,by simp[aY],hb⟩
 |.ok x,⟨u,he,⟨q,c,hu,⟨us,Fs,hk⟩,hl⟩,hb⟩=>
  injection hu with hu
  subst hu
  obtain⟨p2,c2,hv2,hown⟩:=hk.done (by omega) 7 0 0 ⟨#[]⟩
  injection hv2 with h1 h2 h3
  obtain⟨p3,c3,hu3,-,-,hi⟩:=hown.lies.open
  unfold cells5 at hu3
  simp at hu3
  rw[<-hu3.1,<-h1] at hi
  exact⟨q,c,he,hi,by show x.length*64<=_;omega,hb⟩
end
end Go.Proofs.YtllbniljgcgbeaaGreatDoor
