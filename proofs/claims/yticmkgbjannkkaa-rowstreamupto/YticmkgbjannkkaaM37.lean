/- RowsK, RowL: put together. -/
import Derived.Test.YticmkgbjannkkaaM17
import Derived.Test.YticmkgbjannkkaaM28
import Derived.Test.YticmkgbjannkkaaM36
import Derived.Test.YticmkgbjannkkaaM21
import Derived.Test.YticmkgbjannkkaaM20
import Derived.Deep.DeepHandedRow
import Derived.LaidMore
import Derived.Stop.Joined

/- Package row's functions answer as the laws ask, in any world. -/
namespace Go.Proofs.Yticmkgbjannkkaa
open Go.RowKit

/-- no package variable is read -/
def RowsI (_ : World) : Prop := True

set_option maxRecDepth 100000 in
set_option maxHeartbeats 400000 in
theorem checkRK (s : List Col) (p : Option Addr) (cp : Nat) (vs : List V) (q : Option Addr) (cq : Nat) (w : World) (hS : SchL w p cp s) (hR : RLies w q cq vs) :
    Calls Try.prog 6 #[.agg #[.slice p s.length cp], .agg #[.slice q vs.length cq]] w fun e w' => e = .returned (.int .i64 (Rw.err s vs : Nat)) ∧ Below w.heap.size w w' := by
  obtain ⟨W0, hW0⟩ : ∃ W0, W0 = (w.alloc (.cells #[.slice p s.length cp] 24)).alloc (.cells #[.slice q vs.length cq] 27) := ⟨_, rfl⟩
  have HB1 : Hid (Below w.heap.size w W0) := by rw [hW0]; exact ((Below.refl _ _).alloc (Nat.le_refl _) _).alloc (by simp) _
  have HC := Lib.hid (encodeRK s p cp vs q cq W0 (hS.on HB1.out) (hR.on HB1.out))
  obtain ⟨R, hR'⟩ : ∃ R, R = Rw.err s vs := ⟨_, rfl⟩
  obtain ⟨L, hL⟩ : ∃ R, R = Rw.out s vs := ⟨_, rfl⟩
  rw [← hR', ← hL] at HC
  rw [← hR']
  have HW0 := Lib.hid hW0
  clear hR' hL hS hR hW0
  go_enter Try.func6, Try.ntmps6
  go_wp2_with fail
  rw [← HW0.out]
  refine HC.out.mono ?_
  rintro e w2 ⟨q2, cap, rfl, -, -, hb2⟩
  have HB2 := Lib.hid (HB1.out.trans (hb2.mono HB1.out.size))
  clear hb2 HC
  go_wp2
  go_ret
  exact ⟨rfl, HB2.out⟩

theorem EncR.toldK {w w' : World} {y : Ty} {x : V} {e : Ending} (h : EncR w (Rw.encErr y x) (Sch.vB x) e w') : Told w (Rw.encErr y x) (Rw.encB y x) e w' := by
  rcases h with ⟨h0, q, cap, rfl, hh, hb⟩ | ⟨h0, rfl, hb⟩
  · have e1 : Rw.encB y x = Sch.vB x := by rw [Rw.encB, if_pos h0]
    obtain ⟨q', cap', he, hat, hcap⟩ := hh.at
    injection he with e2 _ e3
    subst e2 e3
    rw [e1, h0]
    exact ⟨q, cap, rfl, hat, hcap, hb⟩
  · have e1 : Rw.encB y x = [] := by rw [Rw.encB, if_neg h0]
    rw [e1]
    exact ⟨none, 0, rfl, .inl rfl, Nat.le_refl _, hb⟩

theorem rowsK : RowsOk RowsI where
  on := fun _ _ => trivial
  check := fun s p c vs q d w hs hr _ => checkRK s p c vs q d w hs hr
  encode := fun s p c vs q d w hs hr _ => encodeRK s p c vs q d w hs hr
  decode := fun s p c l q d a w hs hl hld hat h1 h2 _ => decodeRK s p c l q d a w hs hl hld hat h1 h2
  encodeValue := fun y x u v w hy _ hx wx _ => (encodeValueK y x w u v hy hx wx).mono fun _ _ h => h.toldK
end Go.Proofs.Yticmkgbjannkkaa

/- The rows of stage 8: no variable is listed (else as wip/crc/RowL.lean.t: Tie, Cards, what they give). -/
namespace Go.Proofs.Yticmkgbjannkkaa
open Go.ChangeShapes Go.WideShapes Go.ChangeAt Go.RowKit

theorem laid_gives {W : World} (_ : laidMetH Try.prog [] W) : RowsI W := trivial
theorem door_met (os : Os) (args : Array Value) : laidMet Try.prog [] ((World.holding Try.prog os ⟨#[], #[], []⟩).forCall (fun _ _ => 0) ⟨#[], args, []⟩).memory :=
  laidMet_of_run' 8 (by kernel_rfl) (by kernel_rfl)
/-- a text's bytes, bounded by what the row's weights say -/
theorem str_sized {H : Type} {ts : List TypeId} {ds : List (DataW H)} {j : Nat} {t : TypeId} {s : ByteArray} (hsz : (DataW.weightsEach Try.prog ts ds).all (· ≤ reachBytes) = true) (ht : ts[j]? = some t) (hd : ds[j]? = some (.lit (.string s.data.toList))) : s.size ≤ 140737488351232 := by
  have := List.all_eq_true.1 hsz s.data.toList.length (DataW.weights_mem_each ht hd _ (by simp [DataW.weights]))
  have er : reachBytes = 140737488351232 := by decide
  rw [er] at this
  simpa using this
end Go.Proofs.Yticmkgbjannkkaa
