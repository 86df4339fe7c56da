/- The document's own file: Tail. -/
import Derived.Test.YtoibeajcepbpjaaWDevW
namespace Go.Proofs.Ytoibeajcepbpjaa
open Go.RowKit

section
variable {B g : Nat} {v : Value} {s : Dv.St} {w : World}

/-- while bytes are put behind the end -/
def Putting5 (w : World) (B g : Nat) (v : Value) (q : Option Addr) (n cap : Nat) (t : Dv.St) (wr : World) : Prop :=
  RDev wr B g (.slice q n cap) t ∧ n = t.b.length ∧ Aside (fun k => k = g ∨ v.ownBlock = some k) w wr ∧ ((Value.slice q n cap) = v ∨ ∀ k, (Value.slice q n cap).ownBlock = some k → v.ownBlock = some k ∨ w.heap.size ≤ k)

theorem Putting5.next {w wr W : World} {B g g2 n cap cap2 : Nat} {v : Value} {q : Option Addr} {t : Dv.St} {c : UInt8} (h : Putting5 w B g v q n cap t wr) {wa : World}
    (hu : Has W B (.slice (some ⟨g2, 0, none⟩) (t.b.length + 1) cap2) (t.b ++ [c])) (ha : Aside (fun k => (Value.slice q n cap).ownBlock = some k) wa W) (hg2 : (Value.slice q n cap).ownBlock = some g2 ∨ wa.heap.size ≤ g2) (he : ∃ o, wa.heap = wr.heap.push o) (ho : wa.os = wr.os) (htp : wa.tape = wr.tape) (hou : wa.output = wr.output) :
    Putting5 w B g v (some ⟨g2, 0, none⟩) (t.b.length + 1) cap2 { t with b := t.b ++ [c] } (W.setCell ⟨g, 0, none⟩ (.slice (some ⟨g2, 0, none⟩) (t.b.length + 1) cap2)) ∧ W.cell? ⟨g, 0, none⟩ = some (.slice q n cap) ∧ W.frozen? ⟨g, 0, none⟩ = false := by
  obtain ⟨h1, h2, h3, h4⟩ := h
  obtain ⟨ob, he⟩ := he
  have hsz : wa.heap.size = wr.heap.size + 1 := by rw [he, Array.size_push]
  have hwa : Aside (fun k => (Value.slice q n cap).ownBlock = some k) wr wa := ⟨ho, htp, hou, by omega, fun k hk _ => by rw [he, Array.getElem?_push, if_neg (by omega)]⟩
  have hrW := hwa.trans ha (fun _ _ h => h)
  have el : (t.b ++ [c]).length = t.b.length + 1 := by simp
  rw [← el] at hu ⊢
  obtain ⟨r1, r2, r3⟩ := h1.push hrW hu (by rcases hg2 with h | h; exact .inl h; exact .inr (by omega))
  refine ⟨⟨r1, rfl, ?_, .inr fun k hk => ?_⟩, r2, r3⟩
  · refine (h3.trans hrW ?_).setCell (.inl (.inl rfl)) _
    intro k hk hkb
    rcases h4 with h4 | h4
    · right; rw [← h4]; exact hkb
    · rcases h4 k hkb with h5 | h5
      · exact .inr h5
      · omega
  · simp only [Value.ownBlock, Option.some.injEq] at hk
    subst hk
    rcases hg2 with h5 | h5
    · rcases h4 with h4 | h4
      · left; rw [← h4]; exact h5
      · exact h4 _ h5
    · right
      have := h3.size
      omega

set_option maxHeartbeats 400000 in
theorem refTail (h : RDev w B g v s) (p : Option Addr) (c : Nat) (l : List UInt8) (hl : l.length ≤ 140737488351232) (hA : At w p l) (hp : l ≠ [] → ∀ b o, p = some ⟨b, o, none⟩ → b ≠ g ∧ v.ownBlock ≠ some b) (hb : s.b.length ≤ 2097152) (hB : B ≤ w.heap.size) :
    Calls Try.prog 39 #[.pointer (some ⟨g, 0, none⟩), .slice p l.length c] w (RPost w B g v (Dv.tail s l)) := by
  have c0 : w.cell? ⟨g, 0, none⟩ = some v := h.cell 0
  have HR := Lib.hid h
  obtain ⟨q, cap, hv, -, -⟩ := h.has.at
  subst hv
  by_cases hx : 2097152 < s.b.length + l.length
  · have HE : Hid (Dv.tail s l = (2, s)) := by show _ = _; unfold Dv.tail; rw [if_pos hx]
    have hx1 : (2097152 : Int) < (s.b.length : Int) + (l.length : Int) := by omega
    clear h hA hp hB
    go_enter Try.func39, Try.ntmps39
    go_wp2
    go_ret
    unfold RPost
    rw [HE.out]
    exact ⟨rfl, _, HR.out, Aside.refl _ _, .inl rfl⟩
  · have HE : Hid (Dv.tail s l = (0, { s with b := s.b ++ l, safe := (s.b ++ l).length })) := by show _ = _; unfold Dv.tail; rw [if_neg hx]
    have hx1 : (s.b.length : Int) + (l.length : Int) ≤ 2097152 := by omega
    have HA := Lib.hid hA
    have HP := Lib.hid hp
    have hg := h.lt
    have hbase := h.base
    clear h hA hp
    go_enter Try.func39, Try.ntmps39
    go_wp2
    go_loopw [5] (fun v5 wr => ∃ (i : Nat) (q' : Option Addr) (n cap' : Nat), i ≤ l.length ∧ v5 = .int .i64 i ∧ Hid (Putting5 w B g (.slice q s.b.length cap) q' n cap' { s with b := s.b ++ l.take i } wr)) (fun v5 _ => l.length - (intOf v5).toNat)
    case atStart => exact ⟨0, q, s.b.length, cap, by omega, rfl, by
      have e : { s with b := s.b ++ l.take 0 } = s := by cases s; simp
      rw [e]
      exact ⟨HR.out, rfl, Aside.refl _ _, .inl rfl⟩⟩
    case round =>
      obtain ⟨i, q', n, cap', hi, rfl, HK⟩ := hrel
      have hsz := HK.out.2.2.1.size
      have hcg : wr.cell? ⟨g, 0, none⟩ = some (.slice q' n cap') := HK.out.1.cell 0
      have HH := Lib.hid HK.out.1.has
      have hn := HK.out.2.1
      have hn2 : (s.b ++ l.take i).length = s.b.length + i := by rw [List.length_append, List.length_take]; omega
      simp only at hn HH
      by_cases hlt : i < l.length
      · obtain ⟨b, o, rfl, hbl, hc⟩ := at_some HA.out (by omega)
        have hbB := HP.out (fun hc => by rw [hc] at hlt; simp at hlt) b o rfl
        have hcw : wr.cell? ⟨b, o + i, none⟩ = some (.int .u8 (l[i].toNat : Int)) := by
          rw [HK.out.2.2.1.cell (p := ⟨b, o + i, none⟩) hbl (by
            rintro (h1 | h1)
            · exact hbB.1 h1
            · exact hbB.2 h1)]
          exact hc i hlt
        have HX : Hid (l.take (i + 1) = l.take i ++ [l[i]]) := List.take_succ_eq_append_getElem hlt
        have hi1 : (i : Int) < (l.length : Int) := by omega
        have hBr : B ≤ wr.heap.size := by omega
        have hgr : g < wr.heap.size := by omega
        clear hc
        obtain ⟨lv, hlv⟩ : ∃ lv, lv = l[i] := ⟨_, rfl⟩
        rw [← hlv] at hcw HX
        clear hlv
        obtain ⟨xs, hxs⟩ : ∃ xs, xs = s.b ++ l.take i := ⟨_, rfl⟩
        rw [← hxs] at HK HH hn hn2
        have HXS := Lib.hid hxs
        have HN := Lib.hid hn
        clear hxs hn
        have hxl : xs.length + 1 ≤ 140737488355328 := by omega
        have HN2 := Lib.hid hn2
        clear hn2
        go_wp2
        go_region_law (refine step_push (B := B) (v := .slice q' n cap') (xs := xs) (by exact HH.out.alloc _) lv hxl (by simp; omega) wr.heap.size (by exact World.cell?_alloc_new wr _ _ 0) (.tmp 25) (.tmp 30) (by rfl) (by rfl) (by rfl) (by rfl) ?_; intro g2 cap2 W2 hu ha hg2; obtain ⟨hP, hc0, hf0⟩ := HK.out.next hu ha hg2 ⟨_, rfl⟩ rfl rfl rfl; have HP2 := Lib.hid hP; clear hP hu ha hg2)
        all_goals
          go_wp2
          go_roundw
          case rel => exact ⟨i + 1, _, _, _, by omega, by go_num, by rw [HX.out, ← List.append_assoc, ← HXS.out]; exact HP2.out⟩
          case measure => simp [intOf]; omega
      · have hii : i = l.length := by omega
        have HT : Hid (s.b ++ l.take i = s.b ++ l) := by show _ = _; rw [hii, List.take_length]
        have hf := HK.out.1.thawed 2
        have hc2 : wr.cell? ⟨g, 2, none⟩ = some (.int .i64 s.safe) := HK.out.1.cell 2
        have hnl : n = s.b.length + l.length := by rw [hn, hn2, hii]
        have HR2 : Hid (RDev (wr.setCell ⟨g, 2, none⟩ (.int .i64 (n : Nat))) B g (.slice q' n cap') { s with b := s.b ++ l, safe := (s.b ++ l).length }) := by
          have := HK.out.1.put (s' := { s with b := s.b ++ l.take i, safe := n }) 2 (.int .i64 (n : Nat)) rfl rfl
          rw [hn, HT.out] at this
          rw [hn, HT.out]
          exact this
        have HAs := Lib.hid HK.out.2.2.1
        have HV := Lib.hid HK.out.2.2.2
        have hil : ¬ (i : Int) < (l.length : Int) := by omega
        clear HK HH hn hn2 hii hnl HT hlt
        go_wp2
        go_ret
        unfold RPost
        rw [HE.out]
        exact ⟨rfl, _, HR2.out, HAs.out.setCell (.inl (.inl rfl)) _, HV.out⟩
end
end Go.Proofs.Ytoibeajcepbpjaa
