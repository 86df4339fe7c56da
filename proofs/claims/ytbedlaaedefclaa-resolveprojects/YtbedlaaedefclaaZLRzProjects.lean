/- ResolveProjects. -/
import Derived.Test.YtbedlaaedefclaaZLRzSelf
import Derived.Test.YtbedlaaedefclaaZWProj9
import Derived.Test.YtbedlaaedefclaaZWSameSR
namespace Go.Proofs.Ytbedlaaedefclaa
open Go.RowKit

def zsOf (r : Except Nat (List Col)) : List Col := match r with
  | .error _ => []
  | .ok zs => zs
def erOf (r : Except Nat (List Col)) : Nat := match r with
  | .error e => e
  | .ok _ => 0
theorem schR_form {w w' : World} {r : Except Nat (List Col)} {e : Ending} (h : SchR w r e w') : ∃ (q : Option Addr) (c : Nat), e = .returned (.tuple #[.agg #[.slice q (zsOf r).length c], .int .i64 (erOf r : Nat)]) ∧ Cols w' q (zsOf r) ∧ Below w.heap.size w w' := by
  cases r with
  | error er => exact ⟨none, 0, h.1, fun j hj => by simp [zsOf] at hj, h.2⟩
  | ok zs =>
    obtain ⟨q, c, h1, h2, -, h3⟩ := h
    exact ⟨q, c, h1, h2, h3⟩
theorem sameS_self9 (s : List Col) : Sch.same s s = true := (Sch.same_fix s s).2 rfl

set_option maxRecDepth 100000 in
set_option maxHeartbeats 4000000 in
theorem resolveProjects9 (s : List Col) (ns : List ByteArray) (p q : Option Addr) (cp cq : Nat) (w : World) (hs : s.length * 120 ≤ 140737488351232) (hcp : s.length ≤ cp) (hn : ns.length * 16 ≤ 140737488351232) (hnc : ns.length ≤ cq) (hx : Cols w p s) (hy : Names w q ns) (hws : ∀ x ∈ s, x.wf) :
    Calls Try.prog 4 #[.agg #[.slice p s.length cp], .slice q ns.length cq] w fun e w' => e = .returned (.bool true) ∧ Below w.heap.size w w' := by
  obtain ⟨W0, hW0⟩ : ∃ W0, W0 = w.alloc (.cells #[.slice p s.length cp] 37) := ⟨_, rfl⟩
  have lb : Below w.heap.size w W0 := by rw [hW0]; exact (Below.refl _ _).alloc (Nat.le_refl _) _
  have l0 : W0.heap[w.heap.size]? = some (.cells #[.slice p s.length cp] 37 (0, 0)) := by rw [hW0]; exact blk_new w _
  have HW0 := Lib.hid hW0
  have HB0 := Lib.hid lb
  have HCl : Hid (∀ w', Below W0.heap.size W0 w' → w'.cell? ⟨w.heap.size, 0, none⟩ = some (.slice p s.length cp)) := fun w' h => blk_at l0 h 0
  have HP := Lib.hid (projectK9 s ns p q cp cq W0 hs hn hnc (hx.on lb) (hy.on lb) hws)
  have HQ := Lib.hid (fun w' (h : Below w.heap.size w w') => refProject9 s ns p q cp cq w' hs hcp hn (hx.on h) (hy.on h) hws)
  have hlen : (zsOf (Rz.project s ns)).length ≤ 16 := by
    cases hr : Rz.project s ns with
    | error er => simp [zsOf]
    | ok zs => exact (project_wf hr hws).1
  obtain ⟨r, hr⟩ : ∃ r, r = Rz.project s ns := ⟨_, rfl⟩
  rw [← hr] at HP HQ hlen
  clear hr hW0 l0 lb hx hy hws
  go_enter Try.func4, Try.ntmps4
  go_wp2_with fail
  rw [← HW0.out]
  clear HW0
  refine HP.out.mono ?_
  intro e w1 hh
  obtain ⟨q1, c1, rfl, hc1, hb1⟩ := schR_form hh
  obtain ⟨zs, hzs⟩ : ∃ zs, zs = zsOf r := ⟨_, rfl⟩
  obtain ⟨er, her⟩ : ∃ er, er = erOf r := ⟨_, rfl⟩
  rw [← hzs] at hc1 hlen ⊢
  rw [← her]
  obtain ⟨W1, hW1⟩ : ∃ W, W = w1.alloc (.cells #[.slice q1 zs.length c1] 37) := ⟨_, rfl⟩
  have h11 : Below w1.heap.size w1 W1 := by rw [hW1]; exact (Below.refl _ _).alloc (Nat.le_refl _) _
  have hb1' : Below W0.heap.size W0 W1 := hb1.trans (h11.mono hb1.size)
  have HB1W := Lib.hid hb1'
  have HB1 : Hid (Below w.heap.size w W1) := HB0.out.trans (hb1'.mono HB0.out.size)
  have HK1 : Hid (W1.heap[w1.heap.size]? = some (.cells #[.slice q1 zs.length c1] 37 (0, 0))) := by rw [hW1]; exact blk_new w1 _
  have HC1 := Lib.hid (hc1.on h11)
  have k0 := HCl.out W1 hb1'
  rw [hW1] at k0
  have HW1 := Lib.hid hW1
  have HQ1 := Lib.hid (HQ.out W1 HB1.out)
  have HZs := Lib.hid hzs
  have HEr := Lib.hid her
  clear hW1 hb1 hb1' h11 hc1 hh HP hzs her
  go_wp2_with fail
  rw [← HW1.out]
  clear HW1 k0
  refine HQ1.out.mono ?_
  intro e w2 hh
  obtain ⟨q2, c2, rfl, hc2, hb2⟩ := schR_form hh
  rw [← HZs.out] at hc2 ⊢
  rw [← HEr.out]
  obtain ⟨W2, hW2⟩ : ∃ W, W = w2.alloc (.cells #[.slice q2 zs.length c2] 37) := ⟨_, rfl⟩
  have h2a : Below w2.heap.size w2 W2 := by rw [hW2]; exact (Below.refl _ _).alloc (Nat.le_refl _) _
  have h22 : Below W1.heap.size W1 W2 := hb2.trans (h2a.mono hb2.size)
  have HB2 : Hid (Below w.heap.size w W2) := HB1.out.trans (h22.mono HB1.out.size)
  have HK2 : Hid (W2.heap[w2.heap.size]? = some (.cells #[.slice q2 zs.length c2] 37 (0, 0))) := by rw [hW2]; exact blk_new w2 _
  have HK2p := Lib.hid (blk_go HK1.out h22)
  have HC2 := Lib.hid (hc2.on h2a)
  have HC2p := Lib.hid (HC1.out.on h22)
  have HW2 := Lib.hid hW2
  clear hW2 hb2 h2a h22 hc2 hh
  go_wp2_with fail
  rw [← HW2.out]
  clear HW2
  refine (live9 W2).mono ?_
  rintro e w3 ⟨rfl, hb3⟩
  have m1 : w3.cell? ⟨w1.heap.size, 0, none⟩ = some (.slice q1 zs.length c1) := blk_cell (blk_go HK2p.out hb3) 0
  have m2 : w3.cell? ⟨w2.heap.size, 0, none⟩ = some (.slice q2 zs.length c2) := blk_cell (blk_go HK2.out hb3) 0
  have HB3 := Lib.hid (HB2.out.trans (hb3.mono HB2.out.size))
  have hsm := refSameS7 zs zs q1 q2 c1 c2 w3 (by omega) (HC2p.out.on hb3) (HC2.out.on hb3)
  rw [sameS_self9] at hsm
  have HS := Lib.hid hsm
  clear hb3 hsm
  go_wp2_with fail
  refine HS.out.mono ?_
  rintro e w4 ⟨rfl, hb4⟩
  have HB4 := Lib.hid (HB3.out.trans (hb4.mono HB3.out.size))
  clear hb4 HS m1 m2
  go_wp2
  go_ret
  exact ⟨rfl, HB4.out⟩
end Go.Proofs.Ytbedlaaedefclaa
