/- The document's own file: Read, Cut. -/
import Derived.Test.YtoibeajcepbpjaaWDevT
namespace Go.Proofs.Ytoibeajcepbpjaa
open Go.RowKit

theorem RDev.below {w w' : World} {B g : Nat} {v : Value} {s : Dv.St} (h : RDev w B g v s) (hb : Below w.heap.size w w') : RDev w' B g v s :=
  h.aside (F := fun _ => False) (aside_new hb _) (fun h => h) (fun _ _ h => h)

section
variable {B g : Nat} {v : Value} {s : Dv.St} {w : World}

set_option maxHeartbeats 400000 in
theorem refRead (h : RDev w B g v s) (a n : Int) (ha1 : -9223372036854775808 ≤ a) (ha2 : a ≤ 9223372036854775807) (hn2 : n ≤ 9223372036854775807) (hl : s.b.length ≤ 1073741824) (ht : s.told + s.b.length ≤ 9223372036854775807) :
    Calls Try.prog 35 #[.pointer (some ⟨g, 0, none⟩), .int .i64 a, .int .i64 n] w fun e w' => ∃ q cap, e = .returned (.tuple #[.slice q (Dv.read s a n).1.length cap, .int .i64 ((Dv.read s a n).2.1 : Nat)]) ∧ Has w' w.heap.size (.slice q (Dv.read s a n).1.length cap) (Dv.read s a n).1 ∧ RDev w' B g v (Dv.read s a n).2.2 ∧ Aside (fun k => k = g) w w' := by
  have c0 : w.cell? ⟨g, 0, none⟩ = some v := h.cell 0
  have HR := Lib.hid h
  obtain ⟨p, cap, hv, hA, -⟩ := h.has.at
  subst hv
  by_cases hx : a < 0 ∨ (s.b.length : Int) < a ∨ n < 0
  · have HE : Hid (Dv.read s a n = ([], 7, s)) := by show _ = _; unfold Dv.read; rw [if_pos hx]
    clear h hA
    have hfin : ∃ q cap', Ending.returned (.tuple #[.slice none 0 0, .int .i64 7]) = .returned (.tuple #[.slice q (Dv.read s a n).1.length cap', .int .i64 ((Dv.read s a n).2.1 : Nat)]) ∧ Has w w.heap.size (.slice q (Dv.read s a n).1.length cap') (Dv.read s a n).1 ∧ RDev w B g (.slice p s.b.length cap) (Dv.read s a n).2.2 ∧ Aside (fun k => k = g) w w := by
      rw [HE.out]
      exact ⟨none, 0, rfl, has_nil _ _, HR.out, Aside.refl _ _⟩
    have HF := Lib.hid hfin
    clear hfin HE
    by_cases h0 : a < 0
    · clear hx
      have hb0 : decide (a < 0) = true := decide_eq_true h0
      go_enter Try.func35, Try.ntmps35
      go_wp2
      go_ret2
      exact HF.out
    · have hb0 : decide (a < 0) = false := decide_eq_false h0
      by_cases h1 : (s.b.length : Int) < a
      · clear hx
        go_enter Try.func35, Try.ntmps35
        go_wp2
        go_ret2
        exact HF.out
      · have h2 : n < 0 := by omega
        have hb1 : decide ((s.b.length : Int) < a) = false := decide_eq_false h1
        clear hx
        go_enter Try.func35, Try.ntmps35
        go_wp2
        go_ret2
        exact HF.out
  · obtain ⟨i, rfl⟩ : ∃ i : Nat, a = (i : Int) := ⟨a.toNat, by omega⟩
    obtain ⟨m, rfl⟩ : ∃ m : Nat, n = (m : Int) := ⟨n.toNat, by omega⟩
    have hil : i ≤ s.b.length := by omega
    obtain ⟨L, hL⟩ : ∃ L, L = (s.b.drop i).take m := ⟨_, rfl⟩
    have HE : Hid (Dv.read s i m = (L, 0, { s with told := s.told + L.length })) := by show _ = _; unfold Dv.read; rw [if_neg hx, hL]; rfl
    have hLl : L.length = min m (s.b.length - i) := by rw [hL, List.length_take, List.length_drop]
    have HLl := Lib.hid hLl
    have HLg : Hid (∀ k (h1 : k < L.length) (h2 : i + k < s.b.length), L[k] = s.b[i + k]) := by
      intro k h1 h2
      subst hL
      rw [List.getElem_take, List.getElem_drop]
    have HA := Lib.hid hA
    have hb0 : decide ((i : Int) < 0) = false := decide_eq_false (by omega)
    have hb1 : decide (s.b.length < i) = false := decide_eq_false (by omega)
    have hb3 : decide ((m : Int) < 0) = false := decide_eq_false (by omega)
    have hg := h.lt
    have c7 : w.cell? ⟨g, 7, none⟩ = some (.int .i64 s.told) := h.cell 7
    have f7 := h.thawed 7
    clear h hA hx hL hLl
    go_enter Try.func35, Try.ntmps35
    go_wp2
    go_loopw [8, 9] (fun v8 v9 wr => ∃ k : Nat, k ≤ L.length ∧ v9 = .int .i64 ((i : Int) + k) ∧ Hid (Has wr w.heap.size v8 (L.take k) ∧ Below w.heap.size w wr)) (fun _ v9 _ => (i + L.length) - (intOf v9).toNat)
    case atStart => exact ⟨0, by omega, by go_num, has_nil _ _, Below.refl _ _⟩
    case round =>
      obtain ⟨k, hk, rfl, HK⟩ := hrel
      have hcg : wr.cell? ⟨g, 0, none⟩ = some (.slice p s.b.length cap) := by rw [HK.out.2.cell (p := ⟨g, 0, none⟩) hg]; exact c0
      have hLl := HLl.out
      by_cases hlt : k < L.length
      · have hik : i + k < s.b.length := by omega
        obtain ⟨b, o, rfl, hbl, hc⟩ := at_some HA.out (by omega)
        have hcw : wr.cell? ⟨b, o + (i + k), none⟩ = some (.int .u8 (s.b[i + k].toNat : Int)) := by rw [HK.out.2.cell (p := ⟨b, o + (i + k), none⟩) hbl]; exact hc (i + k) hik
        have HX : Hid (L.take (k + 1) = L.take k ++ [s.b[i + k]]) := by
          show _ = _
          rw [← HLg.out k hlt hik]
          exact List.take_succ_eq_append_getElem hlt
        have HO := Lib.hid HK.out.1
        have HB := Lib.hid HK.out.2
        have hB := HK.out.2.size
        have hxl : (L.take k).length ≤ 1073741824 := by rw [List.length_take]; omega
        have e1 : (i : Int) + (k : Int) < (s.b.length : Int) := by omega
        have e2 : (k : Int) < (m : Int) := by omega
        have e3 : ((i : Int) + (k : Int)).toNat = i + k := by omega
        have e4 : decide ((i : Int) + (k : Int) < (s.b.length : Int)) = true := decide_eq_true e1
        have hke := Lib.hid hlt
        clear HK hc hlt hLl
        generalize s.b[i + k] = lv at hcw HX
        generalize L.take k = ys at HX HO hxl
        go_wp2_with (at_builtin; refine wp_push HO.out lv (by omega) hB rfl rfl rfl rfl rfl rfl ?_; intro g2 cap2 W2 hm2 hb2)
        go_roundw
        case rel => exact ⟨k + 1, by have := hke.out; omega, by go_num, by rw [HX.out]; have := hm2.has; simpa using this, HB.out.trans hb2⟩
        case measure => have := hke.out; simp [intOf]; omega
      · have hkk : k = L.length := by omega
        have HT : Hid (L.take k = L) := by show _ = _; rw [hkk, List.take_length]
        obtain ⟨q, cp, hv8, -, -⟩ := HK.out.1.at
        subst hv8
        have hlen : (L.take k).length = L.length := by rw [HT.out]
        rw [hlen] at HK ⊢
        have HO : Hid (Has wr w.heap.size (.slice q L.length cp) L) := by have := HK.out.1; rw [HT.out] at this; exact this
        have HB := Lib.hid HK.out.2
        have hc7 : wr.cell? ⟨g, 7, none⟩ = some (.int .i64 s.told) := by rw [HK.out.2.cell (p := ⟨g, 7, none⟩) hg]; exact c7
        have hf7 : wr.frozen? ⟨g, 7, none⟩ = false := by rw [HK.out.2.frozen (p := ⟨g, 7, none⟩) hg]; exact f7
        have hle : L.length ≤ s.b.length := by omega
        have HR2 : Hid (RDev (wr.setCell ⟨g, 7, none⟩ (.int .i64 ((s.told : Int) + (L.length : Int)))) B g (.slice p s.b.length cap) { s with told := s.told + L.length }) := by
          have := (HR.out.below HB.out).put (s' := { s with told := s.told + L.length }) 7 (.int .i64 ((s.told : Int) + (L.length : Int))) (by simp [devCells]) rfl
          exact this
        have HO2 : Hid (Has (wr.setCell ⟨g, 7, none⟩ (.int .i64 ((s.told : Int) + (L.length : Int)))) w.heap.size (.slice q L.length cp) L) :=
          HO.out.aside ((Aside.refl (· = g) wr).setCell (p := ⟨g, 7, none⟩) (.inl rfl) _) (fun j hj hc => by have := (HO.out.lt j hj).1; omega)
        have hstop : ¬ ((i : Int) + (k : Int) < (s.b.length : Int) ∧ (k : Int) < (m : Int)) := by omega
        have hlim : (s.told : Int) + (L.length : Int) ≤ 9223372036854775807 := by omega
        clear HK hlt HT hlen hLl
        by_cases e1 : (i : Int) + (k : Int) < (s.b.length : Int)
        · have e2 : ¬ (k : Int) < (m : Int) := fun h => hstop ⟨e1, h⟩
          have e4 : decide ((i : Int) + (k : Int) < (s.b.length : Int)) = true := decide_eq_true e1
          clear hstop hkk
          go_wp2
          go_ret2
          rw [HE.out]
          exact ⟨q, cp, rfl, HO2.out, HR2.out, (aside_new HB.out (fun k => k = g)).setCell (p := ⟨g, 7, none⟩) (.inl rfl) _⟩
        · have e4 : decide ((i : Int) + (k : Int) < (s.b.length : Int)) = false := decide_eq_false e1
          clear hstop hkk
          go_wp2
          go_ret2
          rw [HE.out]
          exact ⟨q, cp, rfl, HO2.out, HR2.out, (aside_new HB.out (fun k => k = g)).setCell (p := ⟨g, 7, none⟩) (.inl rfl) _⟩
end
end Go.Proofs.Ytoibeajcepbpjaa
