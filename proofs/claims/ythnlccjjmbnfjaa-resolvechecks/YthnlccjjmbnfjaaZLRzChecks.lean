/- ResolveChecks over the landed resolve. -/
import Derived.Test.YthnlccjjmbnfjaaM41
import Derived.Test.YthnlccjjmbnfjaaM42
namespace Go.Proofs.Ythnlccjjmbnfjaa
open Go.RowKit

set_option maxRecDepth 100000 in
set_option maxHeartbeats 2000000 in
theorem resolveChecks9 (s t : List Col) (p q : Option Addr) (cp cq : Nat) (w : World) (hs : s.length * 120 ≤ 140737488351232) (ht : t.length * 120 ≤ 140737488351232) (hcp : s.length ≤ cp) (hcq : t.length ≤ cq) (hx : Cols w p s) (hy : Cols w q t) (hws : ∀ x ∈ s, x.wf) (hwt : ∀ x ∈ t, x.wf) :
    Calls Try.prog 6 #[.agg #[.slice p s.length cp], .agg #[.slice q t.length cq]] w fun e w' => e = .returned (.bool true) ∧ Below w.heap.size w w' := by
  obtain ⟨W0, hW0⟩ : ∃ W0, W0 = (w.alloc (.cells #[.slice p s.length cp] 24)).alloc (.cells #[.slice q t.length cq] 24) := ⟨_, rfl⟩
  obtain ⟨l0, l1, lb, ls⟩ := al2 w (.cells #[.slice p s.length cp] 24) (.cells #[.slice q t.length cq] 24)
  rw [← hW0] at l0 l1 lb ls
  have HW0 := Lib.hid hW0
  have HB0 := Lib.hid lb
  have HCl : Hid (∀ w', Below W0.heap.size W0 w' → w'.cell? ⟨w.heap.size, 0, none⟩ = some (.slice p s.length cp) ∧ w'.cell? ⟨w.heap.size + 1, 0, none⟩ = some (.slice q t.length cq)) := fun w' h => ⟨blk_at l0 h 0, blk_at l1 h 0⟩
  have HK := Lib.hid (checkK9 s t p q cp cq W0 hs ht (hx.on lb) (hy.on lb) hws hwt)
  have HD := Lib.hid (fun w' (h : Below w.heap.size w w') => refCheck9 s t p q cp cq w' hs ht hcp hcq (hx.on h) (hy.on h) hws hwt)
  obtain ⟨R, hR⟩ : ∃ R, R = Rz.check s t := ⟨_, rfl⟩
  rw [← hR] at HK HD
  have gR : ((R : Int) == (R : Int)) = true := beq_t rfl
  clear hR hW0 l0 l1 lb ls hx hy hws hwt hs ht hcp hcq
  go_enter Try.func6, Try.ntmps6
  go_wp2_with fail
  rw [← HW0.out]
  clear HW0
  refine HK.out.mono ?_
  rintro e w1 ⟨rfl, hb1⟩
  have HB1 := Lib.hid (HB0.out.trans (hb1.mono HB0.out.size))
  obtain ⟨c0, c1⟩ := HCl.out w1 hb1
  clear hb1 HK
  go_wp2_with fail
  refine (HD.out w1 HB1.out).mono ?_
  rintro e w2 ⟨rfl, hb2⟩
  have HB2 := Lib.hid (HB1.out.trans (hb2.mono HB1.out.size))
  clear hb2 HD c0 c1
  go_wp2_with fail
  refine (live9 w2).mono ?_
  rintro e w3 ⟨rfl, hb3⟩
  have HB3 := Lib.hid (HB2.out.trans (hb3.mono HB2.out.size))
  clear hb3
  go_wp2
  go_ret
  exact ⟨rfl, HB3.out⟩
end Go.Proofs.Ythnlccjjmbnfjaa
