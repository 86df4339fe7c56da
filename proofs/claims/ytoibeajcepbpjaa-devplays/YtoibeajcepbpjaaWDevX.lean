/- The document's own file: Cut. -/
import Derived.Test.YtoibeajcepbpjaaWDevC
namespace Go.Proofs.Ytoibeajcepbpjaa
open Go.RowKit

section
variable {B g : Nat} {v : Value} {s : Dv.St} {w : World}

/-- the numbers of a file that a machine word holds -/
structure Dv.Fits (s : Dv.St) : Prop where
  len : s.b.length ≤ 2097152
  sound : s.safe ≤ s.b.length
  after : s.after < 9223372036854775808
  keep : s.keep < 9223372036854775808
  done : s.done < 4611686018427387904

theorem refDeed (h : RDev w B g v s) (hf : Dv.Fits s) (hB : B ≤ w.heap.size) : Calls Try.prog 54 #[.pointer (some ⟨g, 0, none⟩)] w (DPost w B g v s) := by
  cases hm : Dv.may s with
  | true => exact refDeed_did h hm hf.done hf.after
  | false => exact refDeed_fails h hm hf.sound (by have := hf.len; omega) hf.keep hB

set_option maxHeartbeats 400000 in
theorem refCut (h : RDev w B g v s) (n : Int) (hf : Dv.Fits s) (hB : B ≤ w.heap.size) :
    Calls Try.prog 34 #[.pointer (some ⟨g, 0, none⟩), .int .i64 n] w (RPost w B g v (Dv.cut s n)) := by
  have c3 : w.cell? ⟨g, 3, none⟩ = some (.bool s.down) := h.cell 3
  have c0 : w.cell? ⟨g, 0, none⟩ = some v := h.cell 0
  have HR := Lib.hid h
  obtain ⟨p, cap, hv, -, -⟩ := h.has.at
  subst hv
  have HD := Lib.hid (refDeed h hf hB)
  clear h
  by_cases hd : s.down = true
  · have HE : Hid (Dv.cut s n = (50, s)) := by show _ = _; unfold Dv.cut; rw [if_pos hd]
    rw [hd] at c3
    clear hd
    go_enter Try.func34, Try.ntmps34
    go_wp2
    go_ret
    unfold RPost
    rw [HE.out]
    exact ⟨rfl, _, HR.out, Aside.refl _ _, .inl rfl⟩
  · have hd' : s.down = false := by simpa using hd
    rw [hd'] at c3
    by_cases hx : n < 0 ∨ (s.b.length : Int) < n
    · have HE : Hid (Dv.cut s n = (7, s)) := by show _ = _; unfold Dv.cut; rw [if_neg hd, if_pos hx]
      clear hd hd'
      by_cases h0 : n < 0
      · have hb0 : decide (n < 0) = true := decide_eq_true h0
        clear hx
        go_enter Try.func34, Try.ntmps34
        go_wp2
        go_ret
        unfold RPost
        rw [HE.out]
        exact ⟨rfl, _, HR.out, Aside.refl _ _, .inl rfl⟩
      · have hb0 : decide (n < 0) = false := decide_eq_false h0
        have h1 : (s.b.length : Int) < n := by omega
        clear hx
        go_enter Try.func34, Try.ntmps34
        go_wp2
        go_ret
        unfold RPost
        rw [HE.out]
        exact ⟨rfl, _, HR.out, Aside.refl _ _, .inl rfl⟩
    · obtain ⟨m, rfl⟩ : ∃ m : Nat, n = (m : Int) := ⟨n.toNat, by omega⟩
      have hml : m ≤ s.b.length := by omega
      have hb0 : decide ((m : Int) < 0) = false := decide_eq_false (by omega)
      have hb1 : decide (s.b.length < m) = false := decide_eq_false (by omega)
      cases hm : Dv.may s with
      | false =>
        have HE : Hid (Dv.cut s m = (51, Dv.fails s)) := by show _ = _; unfold Dv.cut; rw [if_neg hd, if_neg hx, if_neg (by rw [hm]; simp)]
        have HM := Lib.hid hm
        clear hd hd' hx hm
        go_enter Try.func34, Try.ntmps34
        go_wp2_with fail
        refine HD.out.mono ?_
        rintro e w1 ⟨rfl, v1, hR1, hA1, hV1⟩
        rw [HM.out] at hR1 ⊢
        have HR1 := Lib.hid hR1
        have HA1 := Lib.hid hA1
        have HV1 := Lib.hid hV1
        clear hR1 hA1 hV1
        go_wp2
        go_ret
        unfold RPost
        rw [HE.out]
        exact ⟨rfl, _, HR1.out, HA1.out, HV1.out⟩
      | true =>
        have HE : Hid (Dv.cut s m = (0, { Dv.did s with b := s.b.take m, safe := if m < s.safe then m else s.safe })) := by show _ = _; unfold Dv.cut; rw [if_neg hd, if_neg hx, if_pos (by rw [hm]), Int.toNat_natCast]
        have HM := Lib.hid hm
        have hlen := hf.len
        clear hd hd' hx hm
        go_enter Try.func34, Try.ntmps34
        go_wp2_with fail
        refine HD.out.mono ?_
        rintro e w1 ⟨rfl, v1, hR1, hA1, hV1⟩
        rw [HM.out] at hR1 ⊢
        simp only [if_true] at hR1
        obtain ⟨p1, cap1, hv1, hAt1, -⟩ := hR1.has.at
        rw [hv1] at hR1 hV1
        have e1 : (Dv.did s).b = s.b := rfl
        rw [e1] at hR1 hAt1 hV1
        have d0 : w1.cell? ⟨g, 0, none⟩ = some (.slice p1 s.b.length cap1) := hR1.cell 0
        have HF := Lib.hid (refFirst p1 cap1 s.b (by omega) m hml w1 hAt1)
        have HR1 := Lib.hid hR1
        have HA1 := Lib.hid hA1
        clear hR1 hA1 hV1 hAt1 e1 hv1 v1
        go_wp2_with fail
        refine HF.out.mono ?_
        rintro e w2 ⟨u, rfl, hu, hb⟩
        obtain ⟨q, cu, hvu, -, -⟩ := hu.at
        have el : (s.b.take m).length = m := by rw [List.length_take]; omega
        rw [el] at hvu
        subst hvu
        have hg1 := HR1.out.lt
        have d0' : w2.cell? ⟨g, 0, none⟩ = some (.slice p1 s.b.length cap1) := by rw [hb.cell (p := ⟨g, 0, none⟩) hg1]; exact d0
        have d2 : w2.cell? ⟨g, 2, none⟩ = some (.int .i64 s.safe) := by rw [hb.cell (p := ⟨g, 2, none⟩) hg1]; exact HR1.out.cell 2
        have t0 : w2.frozen? ⟨g, 0, none⟩ = false := by rw [hb.frozen (p := ⟨g, 0, none⟩) hg1]; exact HR1.out.thawed 0
        have t2 : w2.frozen? ⟨g, 2, none⟩ = false := by rw [hb.frozen (p := ⟨g, 2, none⟩) hg1]; exact HR1.out.thawed 2
        have hs1 := HA1.out.size
        have HR2 := Lib.hid (HR1.out.swap hb hu (by omega))
        have HN : Hid (∀ k, (Value.slice q m cu).ownBlock = some k → (Value.slice p s.b.length cap).ownBlock = some k ∨ w.heap.size ≤ k) := fun k hk => .inr (by have := (hu.lt k hk).1; omega)
        have HA2 : Hid (Aside (fun k => k = g ∨ (Value.slice p s.b.length cap).ownBlock = some k) w (w2.setCell ⟨g, 0, none⟩ (.slice q m cu))) := (HA1.out.trans (aside_new hb _) (fun _ _ h => h)).setCell (.inl (.inl rfl)) _
        clear hu hb HR1 HA1 HF el
        by_cases hsm : m < s.safe
        · have HR3 := Lib.hid (HR2.out.put (s' := { Dv.did s with b := s.b.take m, safe := m }) 2 (.int .i64 (m : Nat)) rfl rfl)
          rw [if_pos hsm] at HE
          clear HR2
          go_wp2
          go_ret
          unfold RPost
          rw [HE.out]
          exact ⟨rfl, _, HR3.out, HA2.out.setCell (.inl (.inl rfl)) _, .inr HN.out⟩
        · rw [if_neg hsm] at HE
          go_wp2
          go_ret
          unfold RPost
          rw [HE.out]
          exact ⟨rfl, _, HR2.out, HA2.out, .inr HN.out⟩
end
end Go.Proofs.Ytoibeajcepbpjaa
