/- The document's Same: two lists of runs. -/
import Derived.Test.YtpgilfglfcnihaaK13D
namespace Go.Proofs.Ytpgilfglfcnihaa
open Go.RowKit

/-- runs that may be read -/
def RunsR (w : World) (p : Option Addr) (rs : List Run) : Prop := rs = [] ∨ ∃ g o, p = some ⟨g, o, none⟩ ∧ ∀ j (hj : j < rs.length), w.cell? ⟨g, o + j * 2, none⟩ = some (.int .i64 rs[j].1) ∧ ∃ q c, w.cell? ⟨g, o + j * 2 + 1, none⟩ = some (.slice q rs[j].2.length c) ∧ At w q rs[j].2
theorem RunsO.read {w : World} {B : Nat} {q : Option Addr} {n c : Nat} {bs : List Nat} {rs : List Run} (h : RunsO w B (.slice q n c) bs rs) : RunsR w q rs := by
  obtain ⟨us, h1, hl, h2⟩ := h.out
  rcases h1.2 with ⟨_, h3⟩ | ⟨g, cap, cur, he, h4, h5, h6, h7, h8, h9⟩
  · exact .inl (List.eq_nil_of_length_eq_zero h3)
  · injection he with e1 _ _
    subst e1
    refine .inr ⟨g, 0, rfl, fun j hj => ?_⟩
    obtain ⟨g', cap', e1, e2, e3, hm⟩ := h2 j hj
    have hc : ∀ m v, m < rs.length * 2 → us[m]? = some v → w.cell? ⟨g, m, none⟩ = some v := fun m v hm hv => by
      rw [← h9, List.getElem?_take_of_lt hm] at hv
      simp only [World.cell?, h5]
      simpa using hv
    refine ⟨?_, some ⟨g', 0, none⟩, cap', ?_, hm.at⟩
    · rw [Nat.zero_add]
      exact hc _ _ (by omega) e2
    · rw [Nat.zero_add]
      exact hc _ _ (by omega) e3
theorem RunsR.drop {w : World} {g o : Nat} {rs : List Run} (h : RunsR w (some ⟨g, o, none⟩) rs) (n : Nat) : RunsR w (some ⟨g, o + n * 2, none⟩) (rs.drop n) := by
  rcases h with h | ⟨g', o', he, h⟩
  · exact .inl (by simp [h])
  · injection he with he
    injection he with e1 e2 _
    subst e1 e2
    refine .inr ⟨g, o + n * 2, rfl, fun j hj => ?_⟩
    rw [List.length_drop] at hj
    obtain ⟨h1, q, c, h2, h3⟩ := h (n + j) (by omega)
    have e : ∀ m, o + n * 2 + j * 2 + m = o + (n + j) * 2 + m := fun m => by omega
    have e0 := e 0
    simp only [Nat.add_zero] at e0
    simp only [List.getElem_drop]
    exact ⟨by rw [e0]; exact h1, q, c, by rw [e 1]; exact h2, h3⟩

set_option maxRecDepth 100000 in
set_option maxHeartbeats 4000000 in
theorem same13 (p q : Option Addr) (c d : Nat) (a b : List Run) (w : World) (ha : RunsR w p a) (hb : RunsR w q b) (hl : a.length ≤ 100000000) : Calls Try.prog 11 #[.slice p a.length c, .slice q b.length d] w fun e w' => e = .returned (.bool (a == b)) ∧ ∃ n, w' = w.drewN n := by
  by_cases hlen : a.length = b.length
  · have HA := Lib.hid ha
    have HB := Lib.hid hb
    have HL := Lib.hid hlen
    clear ha hb
    rw [← hlen]
    clear hlen
    go_enter Try.func11, Try.ntmps11
    go_wp2
    go_loopw [13] (fun vi wr => ∃ i n : Nat, i ≤ a.length ∧ vi = .int .i64 i ∧ wr = w.drewN n ∧ Hid (a.take i = b.take i)) (fun vi _ => a.length - (intOf vi).toNat)
    case atStart => exact ⟨0, 0, by omega, rfl, rfl, rfl⟩
    case round =>
      obtain ⟨i, n, hi, rfl, rfl, HT⟩ := hrel
      by_cases hlt : i < a.length
      · have hlt2 : i < b.length := by rw [← HL.out]; exact hlt
        have hlt' : (i : Int) < (a.length : Int) := by omega
        obtain ⟨ga, oa, rfl, fa⟩ : ∃ g o, p = some ⟨g, o, none⟩ ∧ ∀ j (hj : j < a.length), w.cell? ⟨g, o + j * 2, none⟩ = some (.int .i64 a[j].1) ∧ ∃ q c, w.cell? ⟨g, o + j * 2 + 1, none⟩ = some (.slice q a[j].2.length c) ∧ At w q a[j].2 := by
          rcases HA.out with h0 | h0
          · rw [h0] at hlt; simp at hlt
          · exact h0
        obtain ⟨gb, ob, rfl, fb⟩ : ∃ g o, q = some ⟨g, o, none⟩ ∧ ∀ j (hj : j < b.length), w.cell? ⟨g, o + j * 2, none⟩ = some (.int .i64 b[j].1) ∧ ∃ q c, w.cell? ⟨g, o + j * 2 + 1, none⟩ = some (.slice q b[j].2.length c) ∧ At w q b[j].2 := by
          rcases HB.out with h0 | h0
          · rw [h0] at hlt2; simp at hlt2
          · exact h0
        obtain ⟨a0, qa, ca, a1, a2⟩ := fa i hlt
        obtain ⟨b0, qb, cb, b1, b2⟩ := fb i hlt2
        clear fa fb
        have h1 := fun m => conv_str (a2.drewN m) ca
        have h2 := fun m => conv_str (b2.drewN m) cb
        have HTs : ∀ x : Run, ∀ y : Run, x = a[i] → y = b[i] → (x = y → Hid (a.take (i + 1) = b.take (i + 1))) ∧ (x ≠ y → Hid ((a == b) = false)) := by
          intro x y hx hy
          constructor
          · intro he
            show _ = _
            rw [List.take_succ_eq_append_getElem hlt, List.take_succ_eq_append_getElem hlt2, HT.out, ← hx, ← hy, he]
          · intro he
            show _ = _
            rw [beq_eq_false_iff_ne]
            intro hc
            subst hc
            exact he (by rw [hx, hy])
        obtain ⟨x, hx⟩ : ∃ x, x = a[i] := ⟨_, rfl⟩
        obtain ⟨y, hy⟩ : ∃ y, y = b[i] := ⟨_, rfl⟩
        have HXY := Lib.hid (HTs x y hx hy)
        rw [← hx] at a0 a1 h1
        rw [← hy] at b0 b1 h2
        clear a2 b2 HTs hx hy HT
        obtain ⟨xa, xl⟩ := x
        obtain ⟨ya, yl⟩ := y
        simp only at a0 a1 h1 b0 b1 h2
        by_cases he : xa = ya
        · subst he
          by_cases hel : xl = yl
          · subst hel
            have HT2 := HXY.out.1 rfl
            go_wp2
            go_quiet (fail)
            go_wp2
            go_roundw
            case rel => exact ⟨i + 1, _, by omega, by go_num, rfl, HT2⟩
            case measure => simp [intOf]; omega
          · have HF := HXY.out.2 (fun hc => hel (by injection hc))
            have hs : (textOf xl).toList ≠ (textOf yl).toList := by
              rw [ByteArray.toList_eq, ByteArray.toList_eq, textOf_data, textOf_data]
              exact hel
            have hs2 : ((textOf xl).toList == (textOf yl).toList) = false := by rw [beq_eq_false_iff_ne]; exact hs
            have hs3 : ¬ textOf xl = textOf yl := fun hc => hs (by rw [hc])
            go_wp2
            go_quiet (fail)
            go_wp2
            go_ret
            exact ⟨by rw [HF.out]; rfl, _, World.drewN_drewN ..⟩
        · have HF := HXY.out.2 (fun hc => he (by injection hc))
          have hb : ((xa : Int) != (ya : Int)) = true := by
            rw [bne_iff_ne]
            omega
          go_wp2
          go_quiet (fail)
          go_wp2
          go_ret
          exact ⟨by rw [HF.out]; rfl, _, World.drewN_drewN ..⟩
      · have hii : i = a.length := by omega
        subst hii
        have HF : Hid ((a == b) = true) := by
          show _ = _
          rw [beq_iff_eq]
          have := HT.out
          rw [List.take_length, HL.out, List.take_length] at this
          exact this
        clear HT
        go_wp2
        go_ret
        exact ⟨by rw [HF.out]; rfl, n, rfl⟩
  · have hb0 : ((a.length : Int) != (b.length : Int)) = true := by rw [bne_iff_ne]; omega
    have HF : Hid ((a == b) = false) := by
      show _ = _
      rw [beq_eq_false_iff_ne]
      intro hc
      rw [hc] at hlen
      exact hlen rfl
    clear hlen ha hb
    go_enter Try.func11, Try.ntmps11
    go_wp2
    go_ret
    exact ⟨by rw [HF.out]; rfl, 0, rfl⟩
end Go.Proofs.Ytpgilfglfcnihaa
