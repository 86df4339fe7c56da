/- Package dev's file: Cut, Damage, Tail. -/
import Derived.Test.YtoibeajcepbpjaaKDevD
import Derived.Deep.RegionLaw
namespace Go.Proofs.Ytoibeajcepbpjaa
open Go.RowKit
attribute [local go_sem] runK_store_func runK_store_nil

theorem KDev.drewN {w : World} {B g : Nat} {v : Value} {s : Dv.St} {x k : Nat} (h : KDev w B g v s x k) (j : Nat) : KDev (w.drewN j) B g v s x k := ⟨h.lies, h.has.drewN j, h.base, h.due, h.left, h.keep⟩

section
variable {B g : Nat} {v : Value} {s : Dv.St} {x k : Nat} {w : World}

set_option maxHeartbeats 1000000 in
theorem kCut1 {q : Option Addr} {cap bx n m : Nat} (hb : w.heap[bx]? = some (.cells #[.int .i64 n] 3)) (hn : n ≤ m) (hcap : m ≤ cap) :
    Calls Try.prog 50 #[.slice q m cap, .pointer (some ⟨bx, 0, none⟩)] w fun e w' => e = .returned (.slice q n cap) ∧ ∃ j, w' = w.drewN j := by
  have cb := box_cell hb
  have hnc : n ≤ cap := by omega
  clear hb
  go_enter Try.func50, Try.ntmps50
  go_wp2
  go_ret
  exact ⟨rfl, 0, rfl⟩

theorem cut_end {n : Nat} (hn : n ≤ s.b.length) : min s.safe (s.b.take n).length = (if n < s.safe then n else s.safe) ∨ ¬ s.safe ≤ s.b.length := by
  by_cases h : s.safe ≤ s.b.length
  · left
    rw [List.length_take]
    split <;> omega
  · exact .inr h

set_option maxHeartbeats 1000000 in
theorem kCut (h : KDev w B g v s x k) (n : Int) (hs : s.safe ≤ s.b.length) (hlen : s.b.length ≤ 2097152) (hd0 : s.done < 4611686018427387904) :
    Calls Try.prog 20 #[.pointer (some ⟨g, 0, none⟩), .int .i64 n] w (KPost w B g v (Dv.cut s n)) := by
  obtain ⟨q, cap, hv, -, hcap⟩ := h.has.at
  subst hv
  have hg := h.lt
  have hB1 : Below w.heap.size w (w.alloc (.cells #[.int .i64 n] 3)) := (Below.refl _ _).alloc (Nat.le_refl _) _
  have hK1 : KDev (w.alloc (.cells #[.int .i64 n] 3)) B g (.slice q s.b.length cap) s x k := h.below hB1
  have HK1 := Lib.hid hK1
  have HA1 : Hid (Aside (fun i => i = g ∨ (Value.slice q s.b.length cap).ownBlock = some i) w (w.alloc (.cells #[.int .i64 n] 3))) := aside_new hB1 _
  have c5 : w.cell? ⟨g, 5, none⟩ = some (.bool s.down) := h.cell 5
  have c0 : w.cell? ⟨g, 0, none⟩ = some (.slice q s.b.length cap) := h.cell 0
  have hbx := heap_new w (.cells #[.int .i64 n] 3)
  by_cases hd : s.down = true
  · have HE : Hid (Dv.cut s n = (50, s)) := by show _ = _; unfold Dv.cut; rw [if_pos hd]
    rw [hd] at c5
    clear hd h hK1 hbx hB1
    go_enter Try.func20, Try.ntmps20
    go_wp2
    go_ret
    unfold KPost
    rw [HE.out]
    exact ⟨rfl, _, _, _, HK1.out, HA1.out, fun _ h => .inl h⟩
  · have hd' : s.down = false := by simpa using hd
    rw [hd'] at c5
    by_cases hx : n < 0 ∨ (s.b.length : Int) < n
    · have HE : Hid (Dv.cut s n = (7, s)) := by show _ = _; unfold Dv.cut; rw [if_neg hd, if_pos hx]
      clear hd hd' h hK1 hbx hB1
      by_cases h0 : n < 0
      · have hb0 : decide (n < 0) = true := decide_eq_true h0
        clear hx
        go_enter Try.func20, Try.ntmps20
        go_wp2
        go_quiet (fail)
        go_wp2
        go_ret
        unfold KPost
        rw [HE.out]
        exact ⟨rfl, _, _, _, HK1.out.drewN _, HA1.out.drewN _, fun _ h => .inl h⟩
      · have hb0 : decide (n < 0) = false := decide_eq_false h0
        have h1 : (s.b.length : Int) < n := by omega
        clear hx
        go_enter Try.func20, Try.ntmps20
        go_wp2
        go_quiet (fail)
        go_wp2
        go_ret
        unfold KPost
        rw [HE.out]
        exact ⟨rfl, _, _, _, HK1.out.drewN _, HA1.out.drewN _, fun _ h => .inl h⟩
    · obtain ⟨m, rfl⟩ : ∃ m : Nat, n = (m : Int) := ⟨n.toNat, by omega⟩
      have hml : m ≤ s.b.length := by omega
      have hb0 : decide ((m : Int) < 0) = false := decide_eq_false (by omega)
      have hb1 : decide (s.b.length < m) = false := decide_eq_false (by omega)
      cases hm : Dv.may s with
      | false =>
        have HE : Hid (Dv.cut s m = (51, Dv.fails s)) := by show _ = _; unfold Dv.cut; rw [if_neg hd, if_neg hx, if_neg (by rw [hm]; simp)]
        have HD := Lib.hid (fun j => deed_fails (.func (.func 50) #[] #[.pointer (some ⟨w.heap.size, 0, none⟩)]) (hK1.drewN j) hm hs hlen)
        clear hd hd' hx hm h hK1 hbx hB1
        go_enter Try.func20, Try.ntmps20
        go_wp2_with fail
        go_quiet (fail)
        go_wp2_with fail
        refine (HD.out _).mono ?_
        rintro e w1 ⟨rfl, v', hK, ha, ho⟩
        have HK := Lib.hid hK
        have HA := Lib.hid ((HA1.out.drewN _).trans ha (fun _ _ h => .inl h))
        have HO := Lib.hid ho
        clear hK ha ho
        go_wp2
        go_ret
        unfold KPost
        rw [HE.out]
        exact ⟨rfl, _, _, _, HK.out, HA.out, fun i hi => .inl (by rw [← HO.out]; exact hi)⟩
      | true =>
        have HE : Hid (Dv.cut s m = (0, { Dv.did s with b := s.b.take m, safe := min s.safe (s.b.take m).length })) := by
          show _ = _
          unfold Dv.cut
          rw [if_neg hd, if_neg hx, if_pos (by rw [hm]), Int.toNat_natCast]
          rcases cut_end (s := s) hml with h | h
          · rw [h]
          · exact absurd hs h
        have HD := Lib.hid (fun j0 => deed_did 50 #[.pointer (some ⟨w.heap.size, 0, none⟩)] (fun u l w'' => u = .slice q m cap ∧ l = s.b.take m ∧ Aside (· = g) ((w.alloc (.cells #[.int .i64 (m : Int)] 3)).drewN j0) w'') (hK1.drewN j0) hm hd0 (fun args w => enters_body Try.func50 (by kernel_rfl) rfl args w) (fun w' x' hl' ha' => by
          have hb' : w'.heap[w.heap.size]? = some (.cells #[.int .i64 (m : Int)] 3) := by rw [ha'.block _ (box_lt hbx) (by omega)]; exact hbx
          refine (kCut1 hb' hml hcap).mono ?_
          rintro e w'' ⟨rfl, j, rfl⟩
          exact ⟨_, s.b.take m, rfl, (((hK1.drewN j0).has.aside ha' (fun j hj hc => hK1.apart (by rw [hj, hc]))).drewN j).cut hml, hl', rfl, rfl, ha'.drewN j⟩))
        clear hd hd' hx hm h hK1 hbx hB1
        go_enter Try.func20, Try.ntmps20
        go_wp2_with fail
        go_quiet (fail)
        go_wp2_with fail
        refine (HD.out _).mono ?_
        rintro e w1 ⟨rfl, u, l, w2, x', ⟨rfl, rfl, ha2⟩, ha3, hK⟩
        have HK := Lib.hid hK
        have HA := Lib.hid ((HA1.out.drewN _).trans (ha2.trans ha3 (fun _ _ h => h)) (fun _ _ h => .inl h))
        clear hK ha2 ha3
        go_wp2
        go_ret
        unfold KPost
        rw [HE.out]
        exact ⟨rfl, _, _, _, HK.out, HA.out, fun i hi => .inl (by cases q <;> exact hi)⟩
end
end Go.Proofs.Ytoibeajcepbpjaa
