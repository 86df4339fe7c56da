import Derived.Test.YtclhbhhlddbocaaGreatDoorA11
import Derived.Test.YtclhbhhlddbocaaGreatDoorB04
import Derived.Laws.Rows
import Derived.Test.YtclhbhhlddbocaaGreatDoorK12G
import Derived.Test.YtclhbhhlddbocaaGreatDoorA18
import Derived.Test.YtclhbhhlddbocaaGreatDoorA10
namespace Go.Proofs.YtclhbhhlddbocaaGreatDoor
open Go.RowKit
attribute [local go_sem] run_store_float
def smallF:Fr:={ Fr0 with kind:=1,cols:=[⟨⟨#[97]⟩,⟨2,[]⟩,false,V0⟩] }
theorem small_wf:smallF.wf:=by
 refine ⟨by simp [smallF,Fr.i64],by simp [smallF,Fr0,Fr.i64],?_,by simp [smallF,Fr0,Fr.i64],by simp [smallF,Fr0,Fr.i64],by simp [smallF,Fr0,Fr.i64],by simp [smallF,Fr0,Idx0,Fr.i64],by simp [smallF,Fr0,Idx0]⟩
 intro c hc
 simp [smallF] at hc
 subst hc
 exact ⟨by decide,Ty.wf_mk.2 ⟨by omega,fun x hx => by cases hx⟩,Sch.v0_wf⟩
theorem tl_leafF (w:World) (k:Int) (p:Option Addr) (c:Nat):TLies w (cells2 k p 0 c) (.mk k []):=.mk (xs:=[]) (fun _ => #[]) (by simp) (by simp) (fun hc => absurd rfl hc) (fun j hj => by simp at hj)
theorem vl_leafF (w:World) (k i:Int) (b:Nat) (t:ByteArray) (p:Option Addr) (c:Nat):VLies w (cells5 k i b t p 0 c) (.mk k i b t []):=.mk (xs:=[]) (fun _ => #[]) (by simp) (by simp) (fun hc => absurd rfl hc) (fun j hj => by simp at hj)
end Go.Proofs.YtclhbhhlddbocaaGreatDoor
namespace Go.Proofs.YtclhbhhlddbocaaGreatDoor
open Go.RowKit
attribute [local go_sem] run_store_float
theorem smallA_err:Sch.colErr [] ⟨⟨#[97]⟩,⟨2,[]⟩,false,V0⟩ = 0:=Sch.col_make (by kernel_rfl) rfl (Sch.ty_leaf (by omega) (by omega) (by omega)) (fun _ => Sch.v0_fix) (fun h => by cases h)
theorem small_bytes:Sch.bytes smallF.cols = [1,1,97,2,0]:=by
 unfold Sch.bytes smallF Sch.cB
 simp only [List.map_cons,List.map_nil,Sch.tyB_mk]
 kernel_rfl
theorem small_sch:Sch.err smallF.cols = 0:=Sch.err_make (by decide) (by decide) (by
 show Sch.colsErr [] [⟨⟨#[97]⟩,⟨2,[]⟩,false,V0⟩] = 0
 rw [Sch.colsErr,if_pos smallA_err,Sch.colsErr]) (by rw [small_bytes];decide)
theorem small_err0:Fr.err0 smallF = 0:=by
 unfold Fr.err0
 rw [if_pos (show smallF.kind = 1 from rfl),if_neg (by decide)]
 exact small_sch
theorem small_head:Fr.head smallF = [1,0,1,1,97,2,0]:=by
 unfold Fr.head Fr.fields
 rw [if_pos (show smallF.kind = 1 from rfl),small_bytes]
 kernel_rfl
theorem small_len:(Fr.run smallF).length = 12:=by
 unfold Fr.run
 rw [small_head]
 kernel_rfl
theorem small_err:Fr.err smallF = 0:=by
 unfold Fr.err
 rw [small_err0,if_neg (by decide),if_neg (by rw [small_len];decide)]
theorem small_dec:Fr.dec (Fr.run smallF) = .ok (Fr.norm smallF):=Fr.dec_run small_err small_wf.2.2.1
end Go.Proofs.YtclhbhhlddbocaaGreatDoor
