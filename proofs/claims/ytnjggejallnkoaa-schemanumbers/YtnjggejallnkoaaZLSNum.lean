/- SchemaNumbers over what the laws ask of package schema. -/
import Derived.Test.YtnjggejallnkoaaM19
namespace Go.Proofs.Ytnjggejallnkoaa
open Go.RowKit

theorem name_a9 : Sch.name ⟨#[97, 95, 57]⟩ = true := by decide
theorem name_ua : Sch.name ⟨#[95, 97]⟩ = false := by decide
theorem type_8 : Ty.check 1 (.mk 8 []) = 60 := by rw [Ty.check]; rfl

set_option maxRecDepth 100000 in
set_option maxHeartbeats 2000000 in
theorem schemaNumbers_any {I : World → Prop} (K : SchemaOk I) (w : World) (hI : I w) :
    Calls Try.prog 3 #[] w fun e w' => e = .returned (.bool true) ∧ Below w.heap.size w w' := by
  have HLv := Lib.hid (fun w' (hb : Below w.heap.size w w') => schemaLive_ok K w' (K.on hI hb))
  have HN0 := Lib.hid (fun w' (hb : Below w.heap.size w w') => K.name ⟨#[97, 95, 57]⟩ w' (by decide) (K.on hI hb))
  have HN1 := Lib.hid (fun w' (hb : Below w.heap.size w w') => K.name ⟨#[95, 97]⟩ w' (by decide) (K.on hI hb))
  rw [name_a9] at HN0
  rw [name_ua] at HN1
  have HB0 := Lib.hid (Below.refl w.heap.size w)
  obtain ⟨G, hG⟩ : ∃ G : World → Prop, G = fun w' => Below w.heap.size w w' := ⟨_, rfl⟩
  have hG0 := keepG_here hG
  have hGd := keepG_drew hG
  have HFin := Lib.hid (keepG_fin hG HB0.out)
  have HLive := Lib.hid (keepG hG HB0.out HLv.out)
  have HS1 := Lib.hid (keepG hG HB0.out HN0.out)
  have HS2 := Lib.hid (keepG hG HB0.out HN1.out)
  have HK := Lib.hid K
  have HI := Lib.hid hI
  clear HLv HN0 HN1 HB0 K hI
  go_enter Try.func3, Try.ntmps3
  go_wp2_with fail
  refine (HLive.out _ hG0).mono ?_
  rintro e w1 ⟨rfl, hG1⟩
  go_wp2_with fail
  refine (HS1.out _ hG1).mono ?_
  rintro e w2 ⟨rfl, hG2⟩
  go_wp2_with fail
  refine (HS2.out _ hG2).mono ?_
  rintro e w3 ⟨rfl, hG3⟩
  go_wp2_with fail
  have hT : TLies w3 #[.int .i64 8, .slice none 0 0] (.mk 8 []) := TLies.mk (w := w3) (k := 8) (p := none) (c := 0) (xs := []) (fun _ => #[]) (by decide) (Nat.le_refl _) (fun h => absurd rfl h) (fun j hj => absurd hj (Nat.not_lt_zero _))
  have hC := HK.out.checkType _ _ w3 hT (Ty.wf_mk.2 ⟨by omega, fun x hx => by cases hx⟩) (HK.out.on HI.out (HFin.out _ hG3))
  rw [type_8] at hC
  have HC := Lib.hid hC
  have HB3 := Lib.hid (HFin.out _ hG3)
  clear hC hT
  refine HC.out.mono ?_
  rintro e w4 ⟨rfl, hb4⟩
  have HB4 := Lib.hid (HB3.out.trans (hb4.mono HB3.out.size))
  clear hb4
  go_wp2
  go_ret
  exact ⟨rfl, HB4.out⟩
end Go.Proofs.Ytnjggejallnkoaa
