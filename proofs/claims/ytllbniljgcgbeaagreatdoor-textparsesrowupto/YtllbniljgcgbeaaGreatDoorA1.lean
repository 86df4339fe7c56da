import Derived.Test.YtllbniljgcgbeaaGreatDoorK21Q
import Derived.Test.YtllbniljgcgbeaaGreatDoorA20
namespace Go.Proofs.YtllbniljgcgbeaaGreatDoor
theorem tell_ok {α:Type} {S:ByteArray} {y:Tx.R (α × Tx.Bs)} {er:α → Nat} {x:α} (h:Tx.whole y = .ok x) (h0:er x = 0):tellR S y er = .ok x:=by
 rw [Tx.whole_ok h]
 unfold tellR
 simp [h0]
theorem whole_prow (rf:Tx.Bs → Option Nat) (l:Tx.Bs):Tx.whole (prow rf l) = Tx.rows rf l:=by
 unfold prow Tx.rows
 split <;> rfl
theorem rowErr_ok:∀ (xs:List V),(∀ x ∈ xs,chk 1 x = 0) → rowErr xs = 0
 | [],_ => rfl
 | y :: l,h => by
  unfold rowErr
  rw [if_pos (h y (by simp))]
  exact rowErr_ok l fun x hx => h x (by simp [hx])
theorem rowErr_fix (xs:List V) (h:rowErr xs = 0):rowErr (xs.map V.fix) = 0:=rowErr_ok _ fun x hx => by
 obtain ⟨y,hy,rfl⟩:=List.mem_map.1 hx
 rw [chk_fix]
 exact rowErr_all xs h y hy
theorem err_fixS {s:List Col} (h:Sch.err s = 0) (hw:∀ c ∈ s,c.wf):Sch.err (s.map Col.fix) = 0:=(Sch.read_ok (Sch.read_put h hw)).1
section
variable {rf:Tx.Bs → Option Nat}
theorem backV (hF:RfOk rf) {S:ByteArray} {v:V} (h:chk 1 v = 0) (hw:v.wf):tellR S (Tx.pval rf 4 (Tx.val text v)) (chk 1) = .ok (V.fix v):=tell_ok (Tx.value_back (rf_fok hF) h hw) (by rw [chk_fix];exact h)
theorem backS (hF:RfOk rf) {S:ByteArray} {s:List Col} (h:Sch.err s = 0) (hw:∀ c ∈ s,c.wf):tellR S (Tx.pseq (Tx.pcol rf) ((Tx.sch text s).length + 1) (Tx.sch text s)) Sch.err = .ok (s.map Col.fix):=tell_ok (Tx.schema_back (rf_fok hF) h hw) (err_fixS h hw)
theorem backR (hF:RfOk rf) {S:ByteArray} {vs:List V} (h:rowErr vs = 0) (hw:∀ v ∈ vs,v.wf):tellR S (prow rf (Tx.row text vs)) rowErr = .ok (vs.map V.fix):=tell_ok ((whole_prow rf _).trans (Tx.rows_back (rf_fok hF) (rowErr_all vs h) hw)) (rowErr_fix vs h)
end
def liveS:List Col:=[⟨⟨#[97]⟩,.mk 2 [],false,.mk 0 0 0 ⟨#[]⟩ []⟩,⟨⟨#[98]⟩,.mk 4 [],true,.mk 4 0 0 ⟨#[120]⟩ []⟩,⟨⟨#[99]⟩,.mk 6 [.mk 5 []],true,.mk 6 0 0 ⟨#[]⟩ []⟩]
def liveV:V:=.mk 7 0 0 ⟨#[]⟩ [.mk 6 0 0 ⟨#[]⟩ [.mk 3 0 9223372036854775808 ⟨#[]⟩ []],.mk 6 0 0 ⟨#[]⟩ []]
def liveR:List V:=[.mk 2 1 0 ⟨#[]⟩ [],.mk 5 0 0 ⟨#[0]⟩ []]
theorem liveS_text:Tx.sch text liveS = [97,32,105,110,116,44,32,98,32,116,101,120,116,32,61,32,34,120,34,44,32,99,32,111,112,116,40,98,121,116,101,115,41,32,61,32,110,111,110,101]:=by
 simp only [Tx.sch,liveS,Tx.col,List.map_cons,List.map_nil,Tx.ty_leaf,Tx.ty_one,Tx.val_four,Tx.val_none]
 rfl
theorem lvA:chk 1 (.mk 4 0 0 ⟨#[120]⟩ []) = 0:=by rw [chk_mk];decide +kernel
theorem lvB:chk 1 (.mk 6 0 0 ⟨#[]⟩ []) = 0:=by rw [chk_mk];decide +kernel
theorem ltA:Ty.check 1 (.mk 2 []) = 0:=by rw [Ty.check_mk];rfl
theorem ltB:Ty.check 1 (.mk 4 []) = 0:=by rw [Ty.check_mk];rfl
theorem ltC:Ty.check 1 (.mk 6 [.mk 5 []]) = 0:=by
 have h:Ty.check 2 (.mk 5 []) = 0:=by rw [Ty.check_mk];rfl
 rw [Ty.check_mk,List.map_cons,List.map_nil,h];rfl
theorem lfA:V.fix (.mk 0 0 0 ⟨#[]⟩ []) = V0:=by rw [V.fix_mk,V.fixL_eq];rfl
theorem liveS_cols:Sch.colsErr [] liveS = 0:=by
 unfold liveS Sch.colsErr
 rw [if_pos (Sch.col_make (by decide) (by decide) ltA (fun _ => lfA) (fun h => by cases h))]
 unfold Sch.colsErr
 rw [if_pos (Sch.col_make (by decide) (by decide) ltB (fun h => by cases h) (fun _ => ⟨lvA,by rw [Sch.of_mk];decide⟩))]
 unfold Sch.colsErr
 rw [if_pos (Sch.col_make (by decide) (by decide) ltC (fun h => by cases h) (fun _ => ⟨lvB,by rw [Sch.of_mk];decide⟩))]
 rfl
theorem liveS_bytes:(Sch.bytes liveS).length ≤ 1024:=by
 simp only [Sch.bytes,liveS,Sch.cB,List.map_cons,List.map_nil,Sch.tyB_mk,Sch.vB_mk,Sch.vH]
 decide +kernel
theorem liveS_err:Sch.err liveS = 0:=Sch.err_make (by decide) (by decide) liveS_cols liveS_bytes
theorem liveS_wf:∀ c ∈ liveS,c.wf:=by
 intro c hc
 simp only [liveS,List.mem_cons,List.not_mem_nil,or_false] at hc
 rcases hc with rfl | rfl | rfl
 all_goals refine ⟨by decide,?_,?_⟩
 all_goals simp [Ty.wf_mk,V.wf_mk]
 all_goals decide
theorem liveS_fix:liveS.map Col.fix = liveS:=by
 simp only [liveS,List.map_cons,List.map_nil,Col.fix,V.fix_mk,V.fixL_eq]
 rfl
theorem liveV_text:Tx.val text liveV = [91,115,111,109,101,40,126,45,48,41,44,32,110,111,110,101,93]:=by
 have h:text 9223372036854775808 = [45,48]:=by unfold text;rw [if_neg (by decide +kernel),if_neg (by decide),if_neg (by decide),if_pos rfl]
 simp only [liveV,Tx.val_list,List.map_cons,List.map_nil,Tx.val_some,Tx.val_none,Tx.val_three,h]
 rfl
theorem chkL_c (d:Nat) (x:V) (r:List V) (h:chk d x = 0):chkL d (x :: r) = chkL d r:=by
 unfold chkL
 rw [V.checkL_cons]
 exact if_pos h
theorem liveV_chk:chk 1 liveV = 0:=by
 have h1:chk 3 (.mk 3 0 9223372036854775808 ⟨#[]⟩ []) = 0:=by rw [chk_mk];decide +kernel
 have h2:chk 2 (.mk 6 0 0 ⟨#[]⟩ []) = 0:=by rw [chk_mk];decide +kernel
 have h3:chk 2 (.mk 6 0 0 ⟨#[]⟩ [.mk 3 0 9223372036854775808 ⟨#[]⟩ []]) = 0:=by rw [chk_mk,chkL_c _ _ _ h1];decide +kernel
 unfold liveV
 rw [chk_mk,chkL_c _ _ _ h3,chkL_c _ _ _ h2]
 decide +kernel
theorem liveV_wf:liveV.wf:=by
 simp [liveV,V.wf_mk]
 decide
theorem liveV_fix:V.fix liveV = liveV:=by
 simp only [liveV,V.fix_mk,V.fixL_eq,List.map_cons,List.map_nil]
 rfl
theorem liveR_text:Tx.row text liveR = [49,44,32,39,92,120,48,48,39]:=by
 have h:Lib.itoa 1 = [49]:=by decide +kernel
 simp only [liveR,Tx.row,List.map_cons,List.map_nil,Tx.val_two,Tx.val_five,h]
 rfl
theorem liveR_err:rowErr liveR = 0:=by
 have h1:chk 1 (.mk 2 1 0 ⟨#[]⟩ []) = 0:=by rw [chk_mk];decide +kernel
 have h2:chk 1 (.mk 5 0 0 ⟨#[0]⟩ []) = 0:=by rw [chk_mk];decide +kernel
 simp [liveR,rowErr,h1,h2]
theorem liveR_wf:∀ v ∈ liveR,v.wf:=by
 intro c hc
 simp only [liveR,List.mem_cons,List.not_mem_nil,or_false] at hc
 rcases hc with rfl | rfl
 all_goals simp [V.wf_mk]
 all_goals decide
theorem liveR_fix:liveR.map V.fix = liveR:=by
 simp only [liveR,List.map_cons,List.map_nil,V.fix_mk,V.fixL_eq]
 rfl
theorem liveT {S:ByteArray} (hS:S.size = 23):tellR S (Tx.pty 4 [111,112,116,40,111,112,116,40,111,112,116,40,111,112,116,40,105,110,116,41,41,41,41]) (Ty.check 1) = .error (62,16):=by
 have h:Tx.pty 4 [111,112,116,40,111,112,116,40,111,112,116,40,111,112,116,40,105,110,116,41,41,41,41] = .error (62,7):=by rfl
 rw [h]
 unfold tellR
 rw [hS]
end Go.Proofs.YtllbniljgcgbeaaGreatDoor
namespace Go.Proofs.YtllbniljgcgbeaaGreatDoor
open Go.RowKit
theorem tl_zero21 (w:World):TLies w #[.int .i64 0,.slice none 0 0] (.mk 0 []):=.mk (xs:=[]) (fun _ => #[]) (by simp) (by simp) (fun hc => absurd rfl hc) (fun j hj => by simp at hj)
theorem vl_zero21 (w:World):VLies w #[.int .i64 0,.int .i64 0,.float .f64 0,.string ⟨#[]⟩,.slice none 0 0] (.mk 0 0 0 ⟨#[]⟩ []):=.mk (xs:=[]) (fun _ => #[]) (by simp) (by simp) (fun hc => absurd rfl hc) (fun j hj => by simp at hj)
def errOf {α:Type}:Except (Nat × Nat) α → Nat
 | .error (k,_) => k
 | .ok _ => 0
def plOf {α:Type}:Except (Nat × Nat) α → Nat
 | .error (_,a) => a
 | .ok _ => 0
def thOf {α:Type} (z:α):Except (Nat × Nat) α → α
 | .error _ => z
 | .ok x => x
theorem ParseTypeL (S:ByteArray) (hS:S.size ≤ 140737488351232) (w:World) (hv:Hv w):Calls Tryz.prog 18 #[.string S] w fun e w' => ∃ k p n c,e = .returned (.tuple #[.agg #[.int .i64 k,.slice p n c],.int .i64 (errOf (tellR S (Tx.pty 4 S.data.toList) (Ty.check 1)):Nat),.int .i64 (plOf (tellR S (Tx.pty 4 S.data.toList) (Ty.check 1)):Nat)]) ∧ TLies w' #[.int .i64 k,.slice p n c] (thOf (.mk 0 []) (tellR S (Tx.pty 4 S.data.toList) (Ty.check 1))) ∧ Below w.heap.size w w':=by
 refine (ParseTypeX S hS w hv).mono ?_
 intro e w' h
 generalize tellR S (Tx.pty 4 S.data.toList) (Ty.check 1) = R at h ⊢
 match R,h with
 | .error (k,a),⟨he,hb⟩ => exact ⟨0,none,0,0,he,tl_zero21 w',hb⟩
 | .ok x,⟨u,he,⟨u',hu,ho⟩,hb⟩ =>
  injection hu with hu
  subst hu
  obtain ⟨k,xs⟩:=x
  have hl:=ho.lies
  obtain ⟨p,c,rfl,-⟩:=hl.open
  exact ⟨k,p,xs.length,c,he,hl,hb⟩
theorem ParseValueL {rf:Tx.Bs → Option Nat} (hRf:RfOk rf) (S:ByteArray) (hS:S.size ≤ 1099511627776) (w:World) (hv:Hv w):Calls Tryz.prog 10 #[.string S] w fun e w' => ∃ k i b t p n c,e = .returned (.tuple #[.agg #[.int .i64 k,.int .i64 i,.float .f64 b,.string t,.slice p n c],.int .i64 (errOf (tellR S (Tx.pval rf 4 S.data.toList) (chk 1)):Nat),.int .i64 (plOf (tellR S (Tx.pval rf 4 S.data.toList) (chk 1)):Nat)]) ∧ VLies w' #[.int .i64 k,.int .i64 i,.float .f64 b,.string t,.slice p n c] (thOf (.mk 0 0 0 ⟨#[]⟩ []) (tellR S (Tx.pval rf 4 S.data.toList) (chk 1))) ∧ Below w.heap.size w w':=by
 refine (ParseValueX hRf S hS w hv).mono ?_
 intro e w' h
 generalize tellR S (Tx.pval rf 4 S.data.toList) (chk 1) = R at h ⊢
 match R,h with
 | .error (k,a),⟨he,hb⟩ => exact ⟨0,0,0,⟨#[]⟩,none,0,0,he,vl_zero21 w',hb⟩
 | .ok x,⟨u,he,⟨u',hu,ho⟩,hb⟩ =>
  injection hu with hu
  subst hu
  obtain ⟨k,i,b,t,xs⟩:=x
  have hl:=ho.lies
  obtain ⟨p,c,rfl,-⟩:=hl.open
  exact ⟨k,i,b,t,p,xs.length,c,he,hl,hb⟩
theorem ParseSchemaL {rf:Tx.Bs → Option Nat} (hRf:RfOk rf) (S:ByteArray) (hS:S.size ≤ 1099511627776) (w:World) (hv:Hv w):Calls Tryz.prog 7 #[.string S] w fun e w' => ∃ q c,e = .returned (.tuple #[.agg #[.slice q (thOf [] (tellR S (Tx.pseq (Tx.pcol rf) (S.data.toList.length + 1) S.data.toList) Sch.err)).length c],.int .i64 (errOf (tellR S (Tx.pseq (Tx.pcol rf) (S.data.toList.length + 1) S.data.toList) Sch.err):Nat),.int .i64 (plOf (tellR S (Tx.pseq (Tx.pcol rf) (S.data.toList.length + 1) S.data.toList) Sch.err):Nat)]) ∧ Cols w' q (thOf [] (tellR S (Tx.pseq (Tx.pcol rf) (S.data.toList.length + 1) S.data.toList) Sch.err)) ∧ (thOf [] (tellR S (Tx.pseq (Tx.pcol rf) (S.data.toList.length + 1) S.data.toList) Sch.err)).length * 120 ≤ 140737488351232 ∧ Below w.heap.size w w':=by
 refine (ParseSchemaX hRf S hS w hv).mono ?_
 intro e w' h
 generalize tellR S (Tx.pseq (Tx.pcol rf) (S.data.toList.length + 1) S.data.toList) Sch.err = R at h ⊢
 match R,h with
 | .error (k,a),⟨he,hb⟩ => exact ⟨none,0,he,fun j hj => by simp [thOf] at hj,by simp [thOf],hb⟩
 | .ok x,⟨u,he,⟨q,c,hu,⟨us,Fs,hk⟩,hl⟩,hb⟩ =>
  injection hu with hu
  subst hu
  obtain ⟨p2,c2,hv2,-,hc⟩:=hk.cols (by omega)
  injection hv2 with h1 h2 h3
  rw [← h1] at hc
  exact ⟨q,c,he,hc,by show x.length * 120 ≤ _;omega,hb⟩
theorem ParseRowL {rf:Tx.Bs → Option Nat} (hRf:RfOk rf) (S:ByteArray) (hS:S.size ≤ 1099511627776) (w:World) (hv:Hv w):Calls Tryz.prog 13 #[.string S] w fun e w' => ∃ q c,e = .returned (.tuple #[.agg #[.slice q (thOf [] (tellR S (prow rf S.data.toList) rowErr)).length c],.int .i64 (errOf (tellR S (prow rf S.data.toList) rowErr):Nat),.int .i64 (plOf (tellR S (prow rf S.data.toList) rowErr):Nat)]) ∧ Items w' q (thOf [] (tellR S (prow rf S.data.toList) rowErr)) ∧ (thOf [] (tellR S (prow rf S.data.toList) rowErr)).length * 64 ≤ 140737488351232 ∧ Below w.heap.size w w':=by
 refine (ParseRowX hRf S hS w hv).mono ?_
 intro e w' h
 generalize tellR S (prow rf S.data.toList) rowErr = R at h ⊢
 match R,h with
 | .error (k,a),⟨he,hb⟩ => exact ⟨none,0,he,fun j hj => by simp [thOf] at hj,by simp [thOf],hb⟩
 | .ok x,⟨u,he,⟨q,c,hu,⟨us,Fs,hk⟩,hl⟩,hb⟩ =>
  injection hu with hu
  subst hu
  obtain ⟨p2,c2,hv2,hown⟩:=hk.done (by omega) 7 0 0 ⟨#[]⟩
  injection hv2 with h1 h2 h3
  obtain ⟨p3,c3,hu3,-,-,hi⟩:=hown.lies.open
  unfold cells5 at hu3
  simp at hu3
  rw [← hu3.1,← h1] at hi
  exact ⟨q,c,he,hi,by show x.length * 64 ≤ _;omega,hb⟩
end Go.Proofs.YtllbniljgcgbeaaGreatDoor
