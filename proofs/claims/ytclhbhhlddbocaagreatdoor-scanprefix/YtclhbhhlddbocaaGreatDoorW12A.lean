/- The law's own plain(f), small(). -/
import Derived.Test.YtclhbhhlddbocaaGreatDoorA11
import Derived.Test.YtclhbhhlddbocaaGreatDoorB04
import Derived.Laws.Rows
namespace Go.Proofs.YtclhbhhlddbocaaGreatDoor
open Go.RowKit

attribute [local go_sem] run_store_float

/-- the schema frame of the chapter's examples -/
def smallF : Fr := { Fr0 with kind := 1, cols := [⟨⟨#[97]⟩, ⟨2, []⟩, false, V0⟩] }
theorem small_wf : smallF.wf := by
  refine ⟨by simp [smallF, Fr.i64], by simp [smallF, Fr0, Fr.i64], ?_, by simp [smallF, Fr0, Fr.i64], by simp [smallF, Fr0, Fr.i64], by simp [smallF, Fr0, Fr.i64], by simp [smallF, Fr0, Idx0, Fr.i64], by simp [smallF, Fr0, Idx0]⟩
  intro c hc
  simp [smallF] at hc
  subst hc
  exact ⟨by decide, Ty.wf_mk.2 ⟨by omega, fun x hx => by cases hx⟩, Sch.v0_wf⟩
theorem tl_leafF (w : World) (k : Int) (p : Option Addr) (c : Nat) : TLies w (cells2 k p 0 c) (.mk k []) := .mk (xs := []) (fun _ => #[]) (by simp) (by simp) (fun hc => absurd rfl hc) (fun j hj => by simp at hj)
theorem vl_leafF (w : World) (k i : Int) (b : Nat) (t : ByteArray) (p : Option Addr) (c : Nat) : VLies w (cells5 k i b t p 0 c) (.mk k i b t []) := .mk (xs := []) (fun _ => #[]) (by simp) (by simp) (fun hc => absurd rfl hc) (fun j hj => by simp at hj)

end Go.Proofs.YtclhbhhlddbocaaGreatDoor
