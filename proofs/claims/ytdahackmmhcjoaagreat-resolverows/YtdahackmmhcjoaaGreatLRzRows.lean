/- ResolveRows over the landed resolve. -/
import Derived.Test.YtdahackmmhcjoaaGreatLRzTyped
import Derived.Test.YtdahackmmhcjoaaGreatWRows9
import Derived.Test.YtdahackmmhcjoaaGreatWRow9
import Derived.Test.YtdahackmmhcjoaaGreatWSpoil9
namespace Go.Proofs.YtdahackmmhcjoaaGreat
open Go.RowKit

attribute [local go_sem] run_store_float

/-- the row that is told, and its error -/
def rowOf (r : Except Nat (List V)) : List V := match r with
  | .error _ => []
  | .ok ys => ys
def erOf (r : Except Nat (List V)) : Nat := match r with
  | .error e => e
  | .ok _ => 0
theorem RowR.own9 {w w' : World} {r : Except Nat (List V)} {e : Ending} (h : RowR w r e w') : ∃ q c, e = .returned (.tuple #[.agg #[.slice q (rowOf r).length c], .int .i64 (erOf r : Nat)]) ∧ VOwn w' (fun k => w.heap.size ≤ k ∧ k < w'.heap.size) (cells5 0 0 0 ⟨#[]⟩ q (rowOf r).length c) (.mk 0 0 0 ⟨#[]⟩ (rowOf r)) ∧ Below w.heap.size w w' := by
  cases r with
  | error er => exact ⟨none, 0, h.1, .none, h.2⟩
  | ok ys =>
    obtain ⟨q, c, he, hv, hb⟩ := h
    exact ⟨q, c, he, hv, hb⟩

set_option maxRecDepth 100000 in
set_option maxHeartbeats 4000000 in
theorem resolveRows9 (s t : List Col) (vs : List V) (p q v : Option Addr) (cp cq cv : Nat) (w : World) (hs : s.length * 120 ≤ 140737488351232) (ht : t.length * 120 ≤ 140737488351232) (hcp : s.length ≤ cp) (hcq : t.length ≤ cq) (hx : Cols w p s) (hy : Cols w q t) (hv : Items w v vs) (hws : ∀ x ∈ s, x.wf) (hwt : ∀ x ∈ t, x.wf) (hwv : ∀ x ∈ vs, x.wf) :
    Calls Tryz.prog 3 #[.agg #[.slice p s.length cp], .agg #[.slice q t.length cq], .agg #[.slice v vs.length cv]] w fun e w' => e = .returned (.bool true) ∧ Below w.heap.size w w' := by
  obtain ⟨W0, hW0⟩ : ∃ W0, W0 = ((w.alloc (.cells #[.slice p s.length cp] 24)).alloc (.cells #[.slice q t.length cq] 24)).alloc (.cells #[.slice v vs.length cv] 27) := ⟨_, rfl⟩
  obtain ⟨l0, l1, l2, lb, ls⟩ := al3 w (.cells #[.slice p s.length cp] 24) (.cells #[.slice q t.length cq] 24) (.cells #[.slice v vs.length cv] 27)
  rw [← hW0] at l0 l1 l2 lb ls
  have HW0 := Lib.hid hW0
  have HB0 := Lib.hid lb
  have HS0 := Lib.hid ls
  have HCl : Hid (∀ w', Below W0.heap.size W0 w' → w'.cell? ⟨w.heap.size, 0, none⟩ = some (.slice p s.length cp) ∧ w'.cell? ⟨w.heap.size + 1, 0, none⟩ = some (.slice q t.length cq) ∧ w'.cell? ⟨w.heap.size + 1 + 1, 0, none⟩ = some (.slice v vs.length cv)) := fun w' h => ⟨blk_at l0 h 0, blk_at l1 h 0, blk_at l2 h 0⟩
  obtain ⟨l, hl⟩ : ∃ l, l = rowOf (Rz.row s t vs) := ⟨_, rfl⟩
  obtain ⟨er, her⟩ : ∃ n, n = erOf (Rz.row s t vs) := ⟨_, rfl⟩
  have HK : Hid (∀ w', Below w.heap.size w w' → Calls Tryz.prog 4 #[.agg #[.slice p s.length cp], .agg #[.slice q t.length cq], .agg #[.slice v vs.length cv]] w' fun e w'' => ∃ q c, e = .returned (.tuple #[.agg #[.slice q l.length c], .int .i64 (er : Nat)]) ∧ VOwn w'' (fun k => w'.heap.size ≤ k ∧ k < w''.heap.size) (cells5 0 0 0 ⟨#[]⟩ q l.length c) (.mk 0 0 0 ⟨#[]⟩ l) ∧ Below w'.heap.size w' w'') := fun w' h => by
    rw [hl, her]
    exact (rowK9 s t vs p q v cp cq cv w' hs ht (hx.on h) (hy.on h) (hv.on9 h) hws hwt hwv).mono (fun _ _ h => h.own9)
  have HD : Hid (∀ w', Below w.heap.size w w' → Calls Tryz.prog 5 #[.agg #[.slice p s.length cp], .agg #[.slice q t.length cq], .agg #[.slice v vs.length cv]] w' fun e w'' => ∃ q c, e = .returned (.tuple #[.agg #[.slice q l.length c], .int .i64 (er : Nat)]) ∧ VOwn w'' (fun k => w'.heap.size ≤ k ∧ k < w''.heap.size) (cells5 0 0 0 ⟨#[]⟩ q l.length c) (.mk 0 0 0 ⟨#[]⟩ l) ∧ Below w'.heap.size w' w'') := fun w' h => by
    rw [hl, her]
    exact (refRow9 s t vs p q v cp cq cv w' hs ht hcp hcq (hx.on h) (hy.on h) (hv.on9 h) hws hwt hwv).mono (fun _ _ h => h.own9)
  have HX := Lib.hid (fun p q c d w h1 h2 => rows9 l l p q c d w h1 h2)
  rw [(V.exact_iff _ _).2 rfl] at HX
  have gR : ((er : Int) == (er : Int)) = true := beq_t rfl
  obtain ⟨c0, c1, c2⟩ := HCl.out W0 (Below.refl _ _)
  have HK0 := Lib.hid (HK.out W0 lb)
  generalize vs.length = vn at *
  clear hl her hW0 l0 l1 l2 lb ls hx hy hv hws hwt hwv
  go_enter Tryz.func3, Tryz.ntmps3
  go_wp2_with fail
  rw [← HW0.out]
  clear HW0 c0 c1 c2
  refine HK0.out.mono ?_
  rintro e w1 ⟨q1, d1, rfl, hv1, hb1⟩
  obtain ⟨W1, hW1⟩ : ∃ W, W = w1.alloc (.cells #[.slice q1 l.length d1] 27) := ⟨_, rfl⟩
  have h11 : Below w1.heap.size w1 W1 := by rw [hW1]; exact (Below.refl _ _).alloc (Nat.le_refl _) _
  have hs1 : W1.heap.size = w1.heap.size + 1 := by rw [hW1]; simp
  have hb1' : Below W0.heap.size W0 W1 := hb1.trans (h11.mono hb1.size)
  have HB1W := Lib.hid hb1'
  have HB1 := Lib.hid (HB0.out.trans (hb1'.mono HB0.out.size))
  have HK1 : Hid (W1.heap[w1.heap.size]? = some (.cells #[.slice q1 l.length d1] 27 (0, 0))) := by rw [hW1]; exact blk_new w1 _
  have HV1 := Lib.hid (hv1.under h11 (fun k hk => hk.2))
  have HS1 := Lib.hid (And.intro hs1 hb1.size)
  obtain ⟨c0, c1, c2⟩ := HCl.out W1 hb1'
  have HD1 := Lib.hid (HD.out W1 HB1.out)
  have HW1 := Lib.hid hW1
  rw [hW1] at c0 c1 c2
  clear hW1 h11 hb1 hb1' hv1 hs1 HK0 HD
  go_wp2_with fail
  rw [← HW1.out]
  clear HW1 c0 c1 c2
  refine HD1.out.mono ?_
  rintro e w2 ⟨q2, d2, rfl, hv2, hb2⟩
  obtain ⟨W2, hW2⟩ : ∃ W, W = w2.alloc (.cells #[.slice q2 l.length d2] 27) := ⟨_, rfl⟩
  have h22 : Below w2.heap.size w2 W2 := by rw [hW2]; exact (Below.refl _ _).alloc (Nat.le_refl _) _
  have hb2' : Below W1.heap.size W1 W2 := hb2.trans (h22.mono hb2.size)
  have HB2' := Lib.hid hb2'
  have HK2 : Hid (W2.heap[w1.heap.size]? = some (.cells #[.slice q1 l.length d1] 27 (0, 0)) ∧ W2.heap[w2.heap.size]? = some (.cells #[.slice q2 l.length d2] 27 (0, 0))) := ⟨blk_go HK1.out hb2', by rw [hW2]; exact blk_new w2 _⟩
  have hw12 := hb2.size
  have HV2 : Hid (VOwn W2 (fun k => W0.heap.size ≤ k ∧ k < w1.heap.size) (cells5 0 0 0 ⟨#[]⟩ q1 l.length d1) (.mk 0 0 0 ⟨#[]⟩ l) ∧ VOwn W2 (fun k => W1.heap.size ≤ k ∧ k < w2.heap.size) (cells5 0 0 0 ⟨#[]⟩ q2 l.length d2) (.mk 0 0 0 ⟨#[]⟩ l)) := ⟨HV1.out.under hb2' (fun k hk => by have := HS1.out.1; omega), hv2.under h22 (fun k hk => hk.2)⟩
  have HS2 := Lib.hid (And.intro hw12 h22.size)
  have m1 := blk_cell HK2.out.1 0
  have m2 := blk_cell HK2.out.2 0
  have HX2 := Lib.hid (HX.out q1 q2 d1 d2 W2 HV2.out.1.lies HV2.out.2.lies)
  have HW2 := Lib.hid hW2
  rw [hW2] at m1 m2
  clear hW2 h22 hb2 hb2' hv2 hw12 HD1 HV1 HK1
  go_wp2_with fail
  rw [← HW2.out]
  clear HW2 m1 m2
  refine HX2.out.mono ?_
  rintro e w3 ⟨rfl, hb3⟩
  have HB3 := Lib.hid hb3
  have HK3 : Hid (w3.heap[w1.heap.size]? = some (.cells #[.slice q1 l.length d1] 27 (0, 0)) ∧ w3.heap[w2.heap.size]? = some (.cells #[.slice q2 l.length d2] 27 (0, 0))) := ⟨blk_go HK2.out.1 hb3, blk_go HK2.out.2 hb3⟩
  have hs3 := hb3.size
  have hS2 := HS2.out
  have hS1 := HS1.out
  have hS0 := HS0.out
  have HV3 : Hid (VOwn w3 (fun k => W0.heap.size ≤ k ∧ k < w1.heap.size) (cells5 0 0 0 ⟨#[]⟩ q1 l.length d1) (.mk 0 0 0 ⟨#[]⟩ l) ∧ VOwn w3 (fun k => W1.heap.size ≤ k ∧ k < w2.heap.size) (cells5 0 0 0 ⟨#[]⟩ q2 l.length d2) (.mk 0 0 0 ⟨#[]⟩ l)) := ⟨HV2.out.1.under hb3 (fun k hk => by omega), HV2.out.2.under hb3 (fun k hk => by omega)⟩
  have HSp := Lib.hid (spoil9 _ w3 _ _ HV3.out.1 (fun k hk => by omega))
  unfold cells5 at HSp
  have m1 := blk_cell HK3.out.1 0
  have HSz := Lib.hid (And.intro hS0 (And.intro hS1 (And.intro hS2 hs3)))
  clear hb3 hs3 hS2 hS1 hS0 HV2 HK2 HX2
  go_wp2_with fail
  refine HSp.out.mono ?_
  rintro e w4 ⟨rfl, ha4⟩
  obtain ⟨hS0, hS1, hS2, hs3⟩ := HSz.out
  have hb4 : Below W0.heap.size w3 w4 := ha4.below (by omega) (fun k hk hc => by omega)
  have h0w3 : Below W0.heap.size W0 w3 := HB1W.out.trans ((HB2'.out.trans (HB3.out.mono HB2'.out.size)).mono (by omega))
  have h0w4 : Below W0.heap.size W0 w4 := h0w3.trans hb4
  have HB4 := Lib.hid (HB0.out.trans (h0w4.mono HB0.out.size))
  have HK4 : Hid (w4.heap[w2.heap.size]? = some (.cells #[.slice q2 l.length d2] 27 (0, 0))) := (ha4.block _ (blk_lt HK3.out.2) (fun hc => by omega)).trans HK3.out.2
  have HV4 := Lib.hid (HV3.out.2.aside ha4 (fun k hk hc => by omega)).lies
  obtain ⟨c0, c1, c2⟩ := HCl.out w4 h0w4
  have HK5 := Lib.hid (HK.out w4 HB4.out)
  clear hS0 hS1 hS2 hs3 hb4 h0w3 h0w4 ha4 m1 HSp HV3 HK3
  go_wp2_with fail
  refine HK5.out.mono ?_
  rintro e w5 ⟨q5, d5, rfl, hv5, hb5⟩
  obtain ⟨W5, hW5⟩ : ∃ W, W = w5.alloc (.cells #[.slice q5 l.length d5] 27) := ⟨_, rfl⟩
  have h55 : Below w5.heap.size w5 W5 := by rw [hW5]; exact (Below.refl _ _).alloc (Nat.le_refl _) _
  have hb5' : Below w4.heap.size w4 W5 := hb5.trans (h55.mono hb5.size)
  have HB5 := Lib.hid (HB4.out.trans (hb5'.mono HB4.out.size))
  have HL5 := Lib.hid (And.intro (hv5.lies.on h55) (HV4.out.on hb5'))
  have HK6 : Hid (W5.heap[w5.heap.size]? = some (.cells #[.slice q5 l.length d5] 27 (0, 0)) ∧ W5.heap[w2.heap.size]? = some (.cells #[.slice q2 l.length d2] 27 (0, 0))) := ⟨by rw [hW5]; exact blk_new w5 _, blk_go HK4.out hb5'⟩
  have HW5 := Lib.hid hW5
  clear hW5 h55 hb5 hb5' hv5 HK5 HK4 HV4 c0 c1 c2
  go_wp2_with fail
  rw [← HW5.out]
  clear HW5
  refine (live9 W5).mono ?_
  rintro e w6 ⟨rfl, hb6⟩
  have HB6 := Lib.hid (HB5.out.trans (hb6.mono HB5.out.size))
  have m5 : w6.cell? ⟨w5.heap.size, 0, none⟩ = some (.slice q5 l.length d5) := blk_cell (blk_go HK6.out.1 hb6) 0
  have m2 : w6.cell? ⟨w2.heap.size, 0, none⟩ = some (.slice q2 l.length d2) := blk_cell (blk_go HK6.out.2 hb6) 0
  have HX6 := Lib.hid (HX.out q5 q2 d5 d2 w6 (HL5.out.1.on hb6) (HL5.out.2.on hb6))
  clear hb6 HL5 HK6
  go_wp2_with fail
  refine HX6.out.mono ?_
  rintro e w7 ⟨rfl, hb7⟩
  have HB7 := Lib.hid (HB6.out.trans (hb7.mono HB6.out.size))
  clear hb7
  go_wp2
  go_ret
  exact ⟨rfl, HB7.out⟩
end Go.Proofs.YtdahackmmhcjoaaGreat
