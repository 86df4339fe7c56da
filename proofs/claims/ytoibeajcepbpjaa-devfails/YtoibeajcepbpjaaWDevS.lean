/- The document's own file: Write. -/
import Derived.Test.YtoibeajcepbpjaaWDevX
namespace Go.Proofs.Ytoibeajcepbpjaa
open Go.RowKit

section
variable {B g : Nat} {v : Value} {s : Dv.St} {w : World}

/-- behind a deed -/
theorem Putting5.deed {w wr w1 : World} {B g n cap : Nat} {v v1 : Value} {q : Option Addr} {t t1 : Dv.St} (h : Putting5 w B g v q n cap t wr)
    (hR : RDev w1 B g v1 t1) (hA : Aside (fun k => k = g ∨ (Value.slice q n cap).ownBlock = some k) wr w1) (hV : v1 = .slice q n cap ∨ ∀ k, v1.ownBlock = some k → (Value.slice q n cap).ownBlock = some k ∨ wr.heap.size ≤ k) :
    ∃ q1 cap1, v1 = .slice q1 t1.b.length cap1 ∧ Putting5 w B g v q1 t1.b.length cap1 t1 w1 := by
  obtain ⟨q1, cap1, rfl, -, -⟩ := hR.has.at
  obtain ⟨h1, h2, h3, h4⟩ := h
  have hown : ∀ k, (Value.slice q n cap).ownBlock = some k → v.ownBlock = some k ∨ w.heap.size ≤ k := by
    intro k hk
    rcases h4 with h4 | h4
    · rw [h4] at hk; exact .inl hk
    · exact h4 k hk
  refine ⟨q1, cap1, rfl, hR, rfl, h3.trans hA ?_, .inr ?_⟩
  · rintro k hk (h | h)
    · exact .inl h
    · rcases hown k h with h5 | h5
      · exact .inr h5
      · omega
  · intro k hk
    rcases hV with hV | hV
    · rw [hV] at hk; exact hown k hk
    · rcases hV k hk with h5 | h5
      · exact hown k h5
      · have := h3.size
        exact .inr (by omega)

/-- where the writing stands: t now, r still to be laid -/
structure Dv.Laying (s : Dv.St) (l : List UInt8) (i : Nat) (t : Dv.St) : Prop where
  eq : Dv.lay s l = Dv.lay t (l.drop i)
  fits : Dv.Fits t
  room : t.b.length + (l.length - i) ≤ 2097152
  left : t.done + (l.length - i) < 4611686018427387904
theorem Dv.Laying.next {s t : Dv.St} {l : List UInt8} {i : Nat} (h : Dv.Laying s l i t) (hi : i < l.length) (hm : Dv.may t = true) : Dv.Laying s l (i + 1) { Dv.did t with b := t.b ++ [l[i]] } := by
  obtain ⟨h1, h2, h3, h4⟩ := h
  refine ⟨?_, ⟨by simp; omega, by have := h2.sound; simp [Dv.did]; omega, ?_, h2.keep, by simp [Dv.did]; omega⟩, by simp; omega, by simp [Dv.did]; omega⟩
  · rw [h1, List.drop_eq_getElem_cons hi, Dv.lay, if_pos hm]
  · have := h2.after
    simp only [Dv.did]
    split <;> omega
theorem Dv.Laying.fails {s t : Dv.St} {l : List UInt8} {i : Nat} (h : Dv.Laying s l i t) (hi : i < l.length) (hm : Dv.may t = false) : Dv.lay s l = (true, Dv.fails t) := by
  rw [h.eq, List.drop_eq_getElem_cons hi, Dv.lay, if_neg (by rw [hm]; simp)]
theorem Dv.Laying.all {s t : Dv.St} {l : List UInt8} {i : Nat} (h : Dv.Laying s l i t) (hi : i = l.length) : Dv.lay s l = (false, t) := by
  rw [h.eq, hi, List.drop_length, Dv.lay]

set_option maxHeartbeats 400000 in
theorem refWrite (h : RDev w B g v s) (p : Option Addr) (c : Nat) (l : List UInt8) (hl : l.length ≤ 140737488351232) (hA : At w p l) (hp : l ≠ [] → ∀ b o, p = some ⟨b, o, none⟩ → b ≠ g ∧ v.ownBlock ≠ some b) (hf : Dv.Fits s) (hq : s.most ≤ 1048576) (hdn : s.done < 4611686018425290752) (hB0 : B ≤ w.heap.size) :
    Calls Try.prog 32 #[.pointer (some ⟨g, 0, none⟩), .slice p l.length c] w (RPost w B g v (Dv.write s l)) := by
  have hB := hB0
  clear hB0
  have c3 : w.cell? ⟨g, 3, none⟩ = some (.bool s.down) := h.cell 3
  have c0 : w.cell? ⟨g, 0, none⟩ = some v := h.cell 0
  have c1 : w.cell? ⟨g, 1, none⟩ = some (.int .i64 s.most) := h.cell 1
  have HR := Lib.hid h
  obtain ⟨q, cap, hv, -, -⟩ := h.has.at
  subst hv
  have hlen := hf.len
  by_cases hd : s.down = true
  · have HE : Hid (Dv.write s l = (50, s)) := by show _ = _; unfold Dv.write; rw [if_pos hd]
    rw [hd] at c3
    clear hd h hA hp hB
    go_enter Try.func32, Try.ntmps32
    go_wp2
    go_ret
    unfold RPost
    rw [HE.out]
    exact ⟨rfl, _, HR.out, Aside.refl _ _, .inl rfl⟩
  · have hd' : s.down = false := by simpa using hd
    rw [hd'] at c3
    by_cases hx : l ≠ [] ∧ s.most < s.b.length + l.length
    · have HE : Hid (Dv.write s l = (52, s)) := by show _ = _; unfold Dv.write; rw [if_neg hd, if_pos hx]
      have hl0 : 0 < l.length := List.length_pos_iff.2 hx.1
      have hb0 : decide ((0 : Int) < (l.length : Int)) = true := decide_eq_true (by omega)
      have hb1 : decide ((s.most : Int) < (s.b.length : Int) + (l.length : Int)) = true := decide_eq_true (by omega)
      clear hd hd' h hA hp hB hx
      go_enter Try.func32, Try.ntmps32
      go_wp2
      go_quiet (fail)
      go_wp2
      go_ret
      unfold RPost
      rw [HE.out]
      exact ⟨rfl, _, HR.out.drewN _, aside_drewN _ _ _, .inl rfl⟩
    · have HE : Hid (Dv.write s l = (if (Dv.lay s l).1 then 51 else 0, (Dv.lay s l).2)) := by show _ = _; unfold Dv.write; rw [if_neg hd, if_neg hx]
      clear hd
      by_cases hl0 : l = []
      · subst hl0
        have HE2 : Hid (Dv.write s [] = (0, s)) := by show _ = _; rw [HE.out]; simp [Dv.lay]
        clear hd' h hA hp hB hx HE
        go_enter Try.func32, Try.ntmps32
        go_wp2
        go_quiet (fail)
        go_wp2
        go_loopw [5] (fun v5 wr => v5 = .int .i64 0 ∧ Hid (RDev wr B g (.slice q s.b.length cap) s ∧ Aside (fun k => k = g ∨ (Value.slice q s.b.length cap).ownBlock = some k) w wr)) (fun _ _ => 0)
        case atStart => exact ⟨rfl, HR.out.drewN _, aside_drewN _ _ _⟩
        case round =>
          obtain ⟨rfl, HK⟩ := hrel
          go_wp2
          go_ret
          unfold RPost
          rw [HE2.out]
          exact ⟨rfl, _, HK.out.1, HK.out.2, .inl rfl⟩
      · have hl1 : 0 < l.length := List.length_pos_iff.2 hl0
        have hsum : s.b.length + l.length ≤ s.most := by
          rcases Nat.lt_or_ge s.most (s.b.length + l.length) with h1 | h1
          · exact absurd ⟨hl0, h1⟩ hx
          · exact h1
        have hb0 : decide ((0 : Int) < (l.length : Int)) = true := decide_eq_true (by omega)
        have hb1 : decide ((s.most : Int) < (s.b.length : Int) + (l.length : Int)) = false := decide_eq_false (by omega)
        have HY : Hid (Dv.Laying s l 0 s) := ⟨rfl, hf, by omega, by omega⟩
        have HA := Lib.hid hA
        have HP := Lib.hid hp
        have hg := h.lt
        have hbase := h.base
        clear h hA hp hx hd' hl0
        go_enter Try.func32, Try.ntmps32
        go_wp2
        go_quiet (fail)
        go_wp2
        go_loopw [5] (fun v5 wr => ∃ (i : Nat) (q' : Option Addr) (n cap' : Nat) (t : Dv.St), i ≤ l.length ∧ v5 = .int .i64 i ∧ Hid (Putting5 w B g (.slice q s.b.length cap) q' n cap' t wr ∧ Dv.Laying s l i t)) (fun v5 _ => l.length - (intOf v5).toNat)
        case atStart => exact ⟨0, q, s.b.length, cap, s, by omega, rfl, ⟨HR.out.drewN _, rfl, aside_drewN _ _ _, .inl rfl⟩, HY.out⟩
        case round =>
          obtain ⟨i, q', n, cap', t, hi, rfl, HK⟩ := hrel
          have hsz := HK.out.1.2.2.1.size
          have hBr : B ≤ wr.heap.size := by omega
          by_cases hlt : i < l.length
          · obtain ⟨b, o, rfl, hbl, hc⟩ := at_some HA.out (by omega)
            have hbB := HP.out (fun hc => by rw [hc] at hlt; simp at hlt) b o rfl
            have hi1 : (i : Int) < (l.length : Int) := by omega
            have HD := Lib.hid (refDeed HK.out.1.1 HK.out.2.fits hBr)
            cases hm : Dv.may t with
            | false =>
              have HX := Lib.hid (HK.out.2.fails hlt hm)
              have HM := Lib.hid hm
              clear hm hc
              go_wp2_with fail
              refine HD.out.mono ?_
              rintro e w1 ⟨rfl, v1, hR1, hA1, hV1⟩
              rw [HM.out] at hR1 ⊢
              obtain ⟨q1, cap1, rfl, hP1⟩ := HK.out.1.deed hR1 hA1 hV1
              have HP1 := Lib.hid hP1
              clear hR1 hA1 hV1 hP1 HD HK
              go_wp2
              go_ret
              unfold RPost
              rw [HE.out, HX.out]
              exact ⟨rfl, _, HP1.out.1, HP1.out.2.2.1, HP1.out.2.2.2⟩
            | true =>
              have HN := Lib.hid (HK.out.2.next hlt hm)
              have HM := Lib.hid hm
              clear hm
              go_wp2_with fail
              refine HD.out.mono ?_
              rintro e w1 ⟨rfl, v1, hR1, hA1, hV1⟩
              rw [HM.out] at hR1 ⊢
              simp only [if_true] at hR1
              obtain ⟨q1, cap1, rfl, hP1⟩ := HK.out.1.deed hR1 hA1 hV1
              have HP1 := Lib.hid hP1
              have hsz1 := hP1.2.2.1.size
              have hBr1 : B ≤ w1.heap.size := by omega
              have hgr1 : g < w1.heap.size := by omega
              have hcg : w1.cell? ⟨g, 0, none⟩ = some (.slice q1 (Dv.did t).b.length cap1) := hP1.1.cell 0
              have HH := Lib.hid hP1.1.has
              have hxl : (Dv.did t).b.length + 1 ≤ 140737488355328 := by have := HK.out.2.fits.len; simp only [Dv.did]; omega
              have hcw : w1.cell? ⟨b, o + i, none⟩ = some (.int .u8 (l[i].toNat : Int)) := by
                rw [hP1.2.2.1.cell (p := ⟨b, o + i, none⟩) hbl (by
                  rintro (h1 | h1)
                  · exact hbB.1 h1
                  · exact hbB.2 h1)]
                exact hc i hlt
              have HE3 : Hid (({ Dv.did t with b := t.b ++ [l[i]] } : Dv.St) = { Dv.did t with b := (Dv.did t).b ++ [l[i]] }) := rfl
              rw [HE3.out] at HN
              obtain ⟨lv, hlv⟩ : ∃ lv, lv = l[i] := ⟨_, rfl⟩
              rw [← hlv] at hcw HN
              clear hlv HE3
              obtain ⟨t1, ht1⟩ : ∃ t1, t1 = Dv.did t := ⟨_, rfl⟩
              rw [← ht1] at HN HP1 HH hxl hcg
              clear hR1 hA1 hV1 hP1 HD HK hc ht1
              obtain ⟨xs, hxs⟩ : ∃ xs, xs = t1.b := ⟨_, rfl⟩
              obtain ⟨N, hN⟩ : ∃ N, N = t1.b.length := ⟨_, rfl⟩
              rw [← hxs] at HH hxl
              rw [← hN] at hcg
              have HXS := Lib.hid hxs
              have HNN := Lib.hid hN
              have HH2 : Hid (Has w1 B (.slice q1 N cap1) xs) := by rw [hN, ← HXS.out]; exact HH.out
              have HP2 : Hid (Putting5 w B g (.slice q s.b.length cap) q1 N cap1 t1 w1) := by rw [hN]; exact HP1.out
              clear hxs hN HH HP1
              go_wp2
              go_region_law (refine step_push (B := B) (v := .slice q1 N cap1) (xs := xs) (by exact HH2.out.alloc _) lv hxl (by simp; omega) w1.heap.size (by exact World.cell?_alloc_new w1 _ _ 0) (.tmp 43) (.tmp 48) (by rfl) (by rfl) (by rfl) (by rfl) ?_; intro g2 cap2 W2 hu ha hg2; rw [HXS.out] at hu ⊢; obtain ⟨hP, hc0, hf0⟩ := HP2.out.next hu ha hg2 ⟨_, rfl⟩ rfl rfl rfl; have HP3 := Lib.hid hP; clear hP hu ha hg2)
              all_goals
                go_wp2
                go_roundw
                case rel => exact ⟨i + 1, _, _, _, _, by omega, by go_num, HP3.out, HN.out⟩
                case measure => simp [intOf]; omega
          · have hii : i = l.length := by omega
            have HX := Lib.hid (HK.out.2.all hii)
            have hil : ¬ (i : Int) < (l.length : Int) := by omega
            clear hii hlt
            go_wp2
            go_ret
            unfold RPost
            rw [HE.out, HX.out]
            exact ⟨rfl, _, HK.out.1.1, HK.out.1.2.2.1, HK.out.1.2.2.2⟩
end
end Go.Proofs.Ytoibeajcepbpjaa
