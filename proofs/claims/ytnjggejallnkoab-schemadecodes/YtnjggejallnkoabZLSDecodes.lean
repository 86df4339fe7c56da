/- SchemaDecodes over what the laws ask of package schema. -/
import Derived.Test.YtnjggejallnkoabM25
import Derived.Test.YtnjggejallnkoabM27
namespace Go.Proofs.Ytnjggejallnkoab
open Go.RowKit

/-- the error, and the columns -/
def outR : Except Nat (List Col) → Nat × List Col
  | .error e => (e, [])
  | .ok s => (0, s)
theorem decV_all {w w' : World} {r : Except Nat (List Col)} {e : Ending} (h : DecV w r e w') : ∃ u, e = .returned (.tuple #[.agg u, .int .i64 ((outR r).1 : Nat)]) ∧ SOwn w' w.heap.size u (outR r).2 ∧ Below w.heap.size w w' := by
  cases r with
  | error er =>
    obtain ⟨h1, h2⟩ := (h : e = .returned (.tuple #[.agg #[.slice none 0 0], .int .i64 (er : Nat)]) ∧ Below w.heap.size w w')
    exact ⟨_, h1, ⟨_, _, _, rfl, cbuilt_nil _ _, by simp [outR]⟩, h2⟩
  | ok s =>
    obtain ⟨u, h1, h2, h3⟩ := (h : ∃ u, e = .returned (.tuple #[.agg u, .int .i64 0]) ∧ SOwn w' w.heap.size u s ∧ Below w.heap.size w w')
    exact ⟨u, h1, h2, h3⟩
theorem outR_len (l : List UInt8) : (outR (Sch.read l)).2.length ≤ 16 := by
  cases h : Sch.read l with
  | error e => simp [outR]
  | ok s =>
    have := (Sch.err_open (Sch.read_ok h).1).2.1
    exact this
theorem SOwnZ.cols {w : World} {B Z : Nat} {p : Option Addr} {c : Nat} {s : List Col} (h : SOwnZ w B Z #[.slice p s.length c] s) : Cols w p s := by
  have hz := h.high
  rcases h.out with ⟨rfl, _⟩ | ⟨g, off, cap, us, Fs, h1, h2, h3, h4, h5, h6, h7, h8⟩
  · intro j hj
    simp at hj
  · injection h1 with h1
    injection h1 with h1 _
    injection h1 with h1 _ _
    subst h1
    intro j hj
    refine ⟨us j, (h5 j hj).lies, ?_⟩
    obtain ⟨F1, F2, k, tp, tn, tc, vk, vi, vb, vt, vp, vn, vc, e1, -⟩ := (h5 j hj).out
    have hc9 := h3 j hj
    rw [e1] at hc9
    exact ⟨g, off, _, k, tp, tn, tc, _, vk, vi, vb, vt, vp, vn, vc, rfl, by omega, e1, hc9 0 (by omega), hc9 1 (by omega), hc9 2 (by omega), hc9 3 (by omega), hc9 4 (by omega), hc9 5 (by omega), hc9 6 (by omega), hc9 7 (by omega), hc9 8 (by omega)⟩
theorem SOwnZ.on {w w' : World} {B Z : Nat} {u : Array Value} {s : List Col} (h : SOwnZ w B Z u s) (hb : Below w.heap.size w w') : SOwnZ w' B Z u s := h.aside (aside_new hb (fun _ => False)) (fun _ _ _ h => h)

set_option maxRecDepth 100000 in
set_option maxHeartbeats 4000000 in
theorem schemaDecodes_any {I : World → Prop} (K : SchemaOk I) (l : List UInt8) (p : Option Addr) (c : Nat) (w : World) (hl : l.length ≤ 140737488351232) (hc : l.length ≤ c) (hat : At w p l) (hI : I w) :
    Calls Try.prog 4 #[.slice p l.length c] w fun e w' => e = .returned (.bool true) ∧ Below w.heap.size w w' := by
  obtain ⟨q, d, W, hrun, hW, _, hd, hB⟩ := copy_run p c l w (by omega) hat
  have HK := Lib.hid K
  have HI := Lib.hid hI
  have HAt := Lib.hid hat
  have Q0 := Lib.hid hW
  have B0 := Lib.hid hB
  have HR := Lib.hid (AppRun.mk hrun)
  have hs16 := outR_len l
  obtain ⟨er, her⟩ : ∃ n, n = (outR (Sch.read l)).1 := ⟨_, rfl⟩
  obtain ⟨s, hs⟩ : ∃ n, n = (outR (Sch.read l)).2 := ⟨_, rfl⟩
  have HD : Hid (∀ w', Below w.heap.size w w' → Calls Try.prog 13 #[.slice p l.length c] w' fun e w'' => ∃ p1 c1, e = .returned (.tuple #[.agg #[.slice p1 s.length c1], .int .i64 (er : Nat)]) ∧ SOwnZ w'' w'.heap.size w''.heap.size #[.slice p1 s.length c1] s ∧ Below w'.heap.size w' w'') := fun w' hb =>
    (K.decode p l c w' hl hc (hat.on hb) (K.on hI hb)).mono fun e w'' h => by
      obtain ⟨u, h1, h2, h3⟩ := decV_all h
      rw [← her] at h1
      rw [← hs] at h2
      obtain ⟨p1, c1, rfl, -, -, -⟩ := h2.lies.out
      exact ⟨p1, c1, h1, h2.z h3.size, h3⟩
  have HD2 : Hid (∀ w', At w' (some q) l → Calls Try.prog 14 #[.slice (some q) l.length d] w' fun e w'' => ∃ p1 c1, e = .returned (.tuple #[.agg #[.slice p1 s.length c1], .int .i64 (er : Nat)]) ∧ SOwnZ w'' w'.heap.size w''.heap.size #[.slice p1 s.length c1] s ∧ Below w'.heap.size w' w'') := fun w' ha =>
    (refDecode7 (some q) l d hl hd w' ha).mono fun e w'' h => by
      obtain ⟨u, h1, h2, h3⟩ := decV_all h
      rw [← her] at h1
      rw [← hs] at h2
      obtain ⟨p1, c1, rfl, -, -, -⟩ := h2.lies.out
      exact ⟨p1, c1, h1, h2.z h3.size, h3⟩
  rw [← hs] at hs16
  have HWh : Hid (∀ p1 p2 c1 c2 w', Cols w' p1 s → Cols w' p2 s → Calls Try.prog 12 #[.agg #[.slice p1 s.length c1], .agg #[.slice p2 s.length c2]] w' fun e w'' => e = .returned (.bool true) ∧ Below w'.heap.size w' w'') := fun p1 p2 c1 c2 w' h1 h2 => by
    have := whole7 s s p1 p2 c1 c2 w' (by omega) h1 h2
    rw [(wholeL_iff s s).2 rfl] at this
    exact this
  have HLv := Lib.hid (fun w' (hb : Below w.heap.size w w') => schemaLive_ok K w' (K.on hI hb))
  clear hI hat hW hB hrun hd her hs K
  go_enter Try.func4, Try.ntmps4
  go_wp2_with (first | (at_builtin; refine wpList_append_ran HR.out rfl rfl rfl rfl ?_))
  refine (HD.out W B0.out).mono ?_
  rintro e w1 ⟨p1, c1, rfl, hz1, hb1⟩
  obtain ⟨W1, hW1⟩ : ∃ W1, W1 = w1.alloc (.cells #[.slice p1 s.length c1] 24) := ⟨_, rfl⟩
  have hbW1 : Below w1.heap.size w1 W1 := by rw [hW1]; exact (Below.refl _ _).alloc (Nat.le_refl _) _
  have s1 : W1.cell? ⟨w1.heap.size, 0, none⟩ = some (.slice p1 s.length c1) := by rw [hW1]; simp
  have hlt1 : w1.heap.size < W1.heap.size := by rw [hW1]; simp
  have B1 := Lib.hid (B0.out.trans ((hb1.trans (hbW1.mono hb1.size)).mono B0.out.size))
  have Q1 := Lib.hid ((Q0.out.on hb1).on hbW1)
  have Z1 := Lib.hid (hz1.on hbW1)
  have S1 := Lib.hid s1
  have HW1 := Lib.hid hW1
  have hsW : W.heap.size ≤ w1.heap.size := hb1.size
  clear hz1 hb1 hbW1 s1 hW1 Q0
  go_wp2_with fail
  rw [← HW1.out]
  clear HW1
  refine (HD2.out W1 Q1.out).mono ?_
  rintro e w2 ⟨p2, c2, rfl, hz2, hb2⟩
  obtain ⟨W2, hW2⟩ : ∃ W2, W2 = w2.alloc (.cells #[.slice p2 s.length c2] 24) := ⟨_, rfl⟩
  have hbW2 : Below w2.heap.size w2 W2 := by rw [hW2]; exact (Below.refl _ _).alloc (Nat.le_refl _) _
  have t2 : W2.cell? ⟨w2.heap.size, 0, none⟩ = some (.slice p2 s.length c2) := by rw [hW2]; simp
  have hlt2 : w2.heap.size < W2.heap.size := by rw [hW2]; simp
  have hb12 := hb2.trans (hbW2.mono hb2.size)
  have B2 := Lib.hid (B1.out.trans (hb12.mono B1.out.size))
  have Q2 := Lib.hid ((Q1.out.on hb2).on hbW2)
  have ZS := Lib.hid ((Z1.out.on hb2).on hbW2)
  have ZT := Lib.hid (hz2.on hbW2)
  have s2 := cell_on hb12 S1.out
  have hs12 : W1.heap.size ≤ w2.heap.size := hb2.size
  have HW2 := Lib.hid hW2
  have S2 := Lib.hid s2
  have T2 := Lib.hid t2
  have HWh2 := Lib.hid (HWh.out p1 p2 c1 c2 W2 ZS.out.cols ZT.out.cols)
  have ge : ((er : Int) == (er : Int)) = true := by simp
  rw [hW2] at s2 t2
  clear hz2 hb2 hbW2 hb12 hW2 Q1 Z1 S1
  go_wp2_with fail
  rw [← HW2.out]
  clear HW2 s2 t2
  refine HWh2.out.mono ?_
  rintro e w3 ⟨rfl, hb3⟩
  have B3 := Lib.hid (B2.out.trans (hb3.mono B2.out.size))
  have HSm := Lib.hid (same_any p (some q) c d l l hl w3 (HAt.out.on B3.out) (Q2.out.on hb3))
  have S3 := Lib.hid (cell_on hb3 S2.out)
  have T3 := Lib.hid (cell_on hb3 T2.out)
  have ZS3 := Lib.hid (ZS.out.on hb3)
  have ZT3 := Lib.hid (ZT.out.on hb3)
  have hs3 := hb3.size
  clear hb3 HWh2 S2 T2 ZS ZT Q2
  go_wp2_with fail
  refine HSm.out.mono ?_
  rintro e w4 ⟨rfl, k4, hw4⟩
  have hb4 : Below w3.heap.size w3 w4 := by rw [hw4]; exact below_drewN (Below.refl _ _) k4
  have B4 := Lib.hid (B3.out.trans (hb4.mono B3.out.size))
  have s4 := cell_on hb4 S3.out
  have T4 := Lib.hid (cell_on hb4 T3.out)
  have ZT4 := Lib.hid (ZT3.out.on hb4)
  have HSp := Lib.hid (spoil7 s w4 W.heap.size w1.heap.size _ (ZS3.out.on hb4) hs16)
  have hs4 := hb4.size
  rw [beq_self_eq_true]
  clear hw4 hb4 HSm S3 T3 ZS3 ZT3
  go_wp2_with fail
  refine HSp.out.mono ?_
  rintro e w5 ⟨rfl, ha5⟩
  have hwW : w.heap.size ≤ W.heap.size := B0.out.size
  have hb5 : Below w.heap.size w4 w5 := ha5.below B4.out.size (fun k hk => by omega)
  have B5 := Lib.hid (B4.out.trans hb5)
  have T5 : Hid (w5.cell? ⟨w2.heap.size, 0, none⟩ = some (.slice p2 s.length c2)) := by
    show _ = _
    rw [ha5.cell (p := ⟨w2.heap.size, 0, none⟩) (show w2.heap.size < w4.heap.size by omega) (show ¬ (W.heap.size ≤ w2.heap.size ∧ w2.heap.size < w1.heap.size) by omega)]
    exact T4.out
  have ZT5 := Lib.hid (ZT4.out.aside ha5 (fun k h1 h2 => by omega))
  have hs5 := ha5.size
  clear ha5 hb5 HSp T4 ZT4 s4
  go_wp2_with fail
  refine (HD.out w5 B5.out).mono ?_
  rintro e w6 ⟨p6, c6, rfl, hz6, hb6⟩
  obtain ⟨W6, hW6⟩ : ∃ W6, W6 = w6.alloc (.cells #[.slice p6 s.length c6] 24) := ⟨_, rfl⟩
  have hbW6 : Below w6.heap.size w6 W6 := by rw [hW6]; exact (Below.refl _ _).alloc (Nat.le_refl _) _
  have u6 : W6.cell? ⟨w6.heap.size, 0, none⟩ = some (.slice p6 s.length c6) := by rw [hW6]; simp
  have hlt6 : w6.heap.size < W6.heap.size := by rw [hW6]; simp
  have hb56 := hb6.trans (hbW6.mono hb6.size)
  have B6 := Lib.hid (B5.out.trans (hb56.mono B5.out.size))
  have ZU := Lib.hid (hz6.on hbW6)
  have ZT6 := Lib.hid (ZT5.out.on hb56)
  have U6 := Lib.hid u6
  have T6 := Lib.hid (cell_on hb56 T5.out)
  have HW6 := Lib.hid hW6
  clear hz6 hb6 hbW6 u6 hW6 hb56 T5 ZT5
  go_wp2_with fail
  rw [← HW6.out]
  clear HW6
  refine (HLv.out W6 B6.out).mono ?_
  rintro e w7 ⟨rfl, hb7⟩
  have B7 := Lib.hid (B6.out.trans (hb7.mono B6.out.size))
  have u7 := cell_on hb7 U6.out
  have t7 := cell_on hb7 T6.out
  have HWh7 := Lib.hid (HWh.out p6 p2 c6 c2 w7 (ZU.out.on hb7).cols (ZT6.out.on hb7).cols)
  clear hb7 U6 T6 ZU ZT6
  go_wp2_with fail
  refine HWh7.out.mono ?_
  rintro e w8 ⟨rfl, hb8⟩
  have B8 := Lib.hid (B7.out.trans (hb8.mono B7.out.size))
  clear hb8 HWh7 u7 t7
  go_wp2
  go_ret
  exact ⟨rfl, B8.out⟩
end Go.Proofs.Ytnjggejallnkoab
