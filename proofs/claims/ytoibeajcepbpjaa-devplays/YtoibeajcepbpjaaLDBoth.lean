/- A file of package dev beside the document's: looks, stir. -/
import Derived.Test.YtoibeajcepbpjaaLDNear
namespace Go.Proofs.Ytoibeajcepbpjaa
open Go.RowKit

section
variable {I : Nat → World → Prop} {Rep : DRep}

/-- package dev's file, which stands as s, beside the document's, which stands as t -/
structure Both (Rep : DRep) (B : Nat) (a : Addr) (g : Nat) (w0 w : World) (s t : Dv.St) (F : Nat → Prop) (v : Value) : Prop where
  one : One Rep B a w0 w s F
  ref : RDev w B g v t
  gout : ¬ F g
  vout : ∀ k, v.ownBlock = some k → ¬ F k

variable {B g : Nat} {a : Addr} {w0 w w' : World} {s t s' t' : Dv.St} {F F' : Nat → Prop} {v v' : Value}

theorem Both.below (K : DevOk I Rep) (h : Both Rep B a g w0 w s t F v) (hb : Below w.heap.size w w') : Both Rep B a g w0 w' s t F v :=
  ⟨h.one.on K hb, h.ref.below hb, h.gout, h.vout⟩
theorem Both.dev (K : DevOk I Rep) (h : Both Rep B a g w0 w s t F v) (hr : Rep w' B a s' F') (ha : Aside F w w') (hF : ∀ k, F' k → F k ∨ w.heap.size ≤ k) : Both Rep B a g w0 w' s' t F' v := by
  refine ⟨h.one.step K hr ha, h.ref.aside ha h.gout h.vout, fun hf => ?_, fun k hk hf => ?_⟩
  · rcases hF g hf with h1 | h1
    · exact h.gout h1
    · have := h.ref.lt; omega
  · rcases hF k hf with h1 | h1
    · exact h.vout k hk h1
    · have := (h.ref.has.lt k hk).2; omega
theorem Both.doc (K : DevOk I Rep) (h : Both Rep B a g w0 w s t F v) (hr : RDev w' B g v' t') (ha : Aside (fun k => k = g ∨ v.ownBlock = some k) w w') (hv : v' = v ∨ ∀ k, v'.ownBlock = some k → v.ownBlock = some k ∨ w.heap.size ≤ k) : Both Rep B a g w0 w' s t' F v' := by
  refine ⟨⟨K.aside h.one.rep ha (fun k hf hc => ?_), h.one.world.trans (ha.below h.one.room (fun k hk hf => ?_)), Nat.le_trans h.one.room ha.size⟩, hr, h.gout, fun k hk hf => ?_⟩
  · rcases hc with hc | hc
    · subst hc; exact h.gout hf
    · exact h.vout k hc hf
  · rcases hf with hf | hf
    · have := h.ref.base; omega
    · have := (h.ref.has.lt k hf).1; omega
  · rcases hv with hv | hv
    · rw [hv] at hk; exact h.vout k hk hf
    · rcases hv k hk with h1 | h1
      · exact h.vout k h1 hf
      · have := (K.lies h.one.rep k hf).2; omega

set_option maxHeartbeats 1000000 in
theorem looks_ok (K : DevOk I Rep) (h : Both Rep B a g w0 w s s F v) (hf : Dv.Fit s) (hI : I B w0) :
    Calls Try.prog 14 #[.pointer (some a), .pointer (some ⟨g, 0, none⟩)] w fun e w' => e = .returned (.bool true) ∧ Below w.heap.size w w' := by
  have HK := Lib.hid K
  have HI := Lib.hid hI
  have HB0 := Lib.hid h
  have HF := Lib.hid hf
  have hlen := hf.len
  clear h hI hf
  go_enter Try.func14, Try.ntmps14
  go_wp2_with fail
  have H1 := Lib.hid (refAll HB0.out.ref (by omega))
  refine H1.out.mono ?_
  rintro e w1 ⟨q1, cap1, rfl, hh, hb⟩
  have E1 := Lib.hid hb
  have HB1 := Lib.hid (HB0.out.below HK.out hb)
  have HH := Lib.hid hh
  clear hh hb H1
  go_wp2_with fail
  have H2 := Lib.hid (HK.out.up HB1.out.one.rep HF.out (HK.out.on HI.out HB1.out.one.world) HB1.out.one.room)
  refine H2.out.mono ?_
  rintro e w2 ⟨rfl, hb⟩
  have E2 := Lib.hid (E1.out.trans (hb.mono E1.out.size))
  have HB2 := Lib.hid (HB1.out.below HK.out hb)
  have HH2 := Lib.hid (HH.out.aside (aside_new hb (fun _ => False)) (fun _ _ h => h))
  clear hb H2 E1 HB1 HH
  go_wp2_with fail
  have H3 := Lib.hid (refUp HB2.out.ref)
  refine H3.out.mono ?_
  rintro e w' ⟨rfl, hw⟩
  rw [hw]
  clear hw w' H3
  go_wp2_with fail
  have H4 := Lib.hid (HK.out.len HB2.out.one.rep HF.out (HK.out.on HI.out HB2.out.one.world) HB2.out.one.room)
  refine H4.out.mono ?_
  rintro e w3 ⟨rfl, hb⟩
  have E3 := Lib.hid (E2.out.trans (hb.mono E2.out.size))
  have HB3 := Lib.hid (HB2.out.below HK.out hb)
  have HH3 := Lib.hid (HH2.out.aside (aside_new hb (fun _ => False)) (fun _ _ h => h))
  clear hb H4 E2 HB2 HH2
  go_wp2_with fail
  have H5 := Lib.hid (refLen5 HB3.out.ref)
  refine H5.out.mono ?_
  rintro e w' ⟨rfl, hw⟩
  rw [hw]
  clear hw w' H5
  go_wp2_with fail
  have H6 := Lib.hid (HK.out.quota HB3.out.one.rep HF.out (HK.out.on HI.out HB3.out.one.world) HB3.out.one.room)
  refine H6.out.mono ?_
  rintro e w4 ⟨rfl, hb⟩
  have E4 := Lib.hid (E3.out.trans (hb.mono E3.out.size))
  have HB4 := Lib.hid (HB3.out.below HK.out hb)
  have HH4 := Lib.hid (HH3.out.aside (aside_new hb (fun _ => False)) (fun _ _ h => h))
  clear hb H6 E3 HB3 HH3
  go_wp2_with fail
  have H7 := Lib.hid (refQuota HB4.out.ref)
  refine H7.out.mono ?_
  rintro e w' ⟨rfl, hw⟩
  rw [hw]
  clear hw w' H7
  go_wp2_with fail
  have H8 := Lib.hid (HK.out.synced HB4.out.one.rep HF.out (HK.out.on HI.out HB4.out.one.world) HB4.out.one.room)
  refine H8.out.mono ?_
  rintro e w5 ⟨rfl, hb⟩
  have E5 := Lib.hid (E4.out.trans (hb.mono E4.out.size))
  have HB5 := Lib.hid (HB4.out.below HK.out hb)
  have HH5 := Lib.hid (HH4.out.aside (aside_new hb (fun _ => False)) (fun _ _ h => h))
  clear hb H8 E4 HB4 HH4
  go_wp2_with fail
  have H9 := Lib.hid (refSynced HB5.out.ref)
  refine H9.out.mono ?_
  rintro e w' ⟨rfl, hw⟩
  rw [hw]
  clear hw w' H9
  go_wp2_with fail
  have H10 := Lib.hid (HK.out.counted HB5.out.one.rep HF.out (HK.out.on HI.out HB5.out.one.world) HB5.out.one.room)
  refine H10.out.mono ?_
  rintro e w6 ⟨rfl, hb⟩
  have E6 := Lib.hid (E5.out.trans (hb.mono E5.out.size))
  have HB6 := Lib.hid (HB5.out.below HK.out hb)
  have HH6 := Lib.hid (HH5.out.aside (aside_new hb (fun _ => False)) (fun _ _ h => h))
  clear hb H10 E5 HB5 HH5
  go_wp2_with fail
  have H11 := Lib.hid (refCounted HB6.out.ref)
  refine H11.out.mono ?_
  rintro e w' ⟨rfl, hw⟩
  rw [hw]
  clear hw w' H11
  go_wp2_with fail
  have H12 := Lib.hid (HK.out.written HB6.out.one.rep HF.out (HK.out.on HI.out HB6.out.one.world) HB6.out.one.room)
  refine H12.out.mono ?_
  rintro e w7 ⟨rfl, hb⟩
  have E7 := Lib.hid (E6.out.trans (hb.mono E6.out.size))
  have HB7 := Lib.hid (HB6.out.below HK.out hb)
  have HH7 := Lib.hid (HH6.out.aside (aside_new hb (fun _ => False)) (fun _ _ h => h))
  clear hb H12 E6 HB6 HH6
  go_wp2_with fail
  have H13 := Lib.hid (refWritten HB7.out.ref)
  refine H13.out.mono ?_
  rintro e w' ⟨rfl, hw⟩
  rw [hw]
  clear hw w' H13
  go_wp2_with fail
  have H14 := Lib.hid (HK.out.all HB7.out.one.rep HF.out (HK.out.on HI.out HB7.out.one.world) HB7.out.one.room)
  refine H14.out.mono ?_
  rintro e w8 ⟨q8, cap8, rfl, _, hT, hb⟩
  have E8 := Lib.hid (E7.out.trans (hb.mono E7.out.size))
  have HH8 := Lib.hid (HH7.out.aside (aside_new hb (fun _ => False)) (fun _ _ h => h))
  have A8 := Lib.hid hT.1
  obtain ⟨q9, cap9, he9, hA9, -⟩ := HH8.out.at
  injection he9 with hq9 _ hcap9
  subst hq9 hcap9
  have A9 := Lib.hid hA9
  clear hT hb H14 E7 HB7 HH7 hA9 HH8
  go_wp2_with fail
  have HS := Lib.hid (same_any q8 q1 cap8 cap1 s.b s.b (by omega) w8 A8.out A9.out)
  refine HS.out.mono ?_
  rintro e w' ⟨rfl, n, hw⟩
  rw [hw]
  clear hw w' HS
  have ee : (s.b == s.b) = true := by simp
  rw [ee]
  go_wp2
  go_ret
  exact ⟨rfl, below_drewN E8.out n⟩
end
end Go.Proofs.Ytoibeajcepbpjaa
