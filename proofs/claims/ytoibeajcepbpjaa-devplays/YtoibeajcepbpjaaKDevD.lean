/- Package dev's file: power fails; a deed. -/
import Derived.Test.YtoibeajcepbpjaaKDevB
namespace Go.Proofs.Ytoibeajcepbpjaa
open Go.RowKit
attribute [local go_sem] runK_store_func runK_store_nil

theorem box_cell {w : World} {b : Nat} {v : Value} {T : TypeId} (h : w.heap[b]? = some (.cells #[v] T)) : w.cell? ⟨b, 0, none⟩ = some v := by
  simp [World.cell?, h]
theorem box_free {w : World} {b : Nat} {v : Value} {T : TypeId} (h : w.heap[b]? = some (.cells #[v] T)) : w.frozen? ⟨b, 0, none⟩ = false := by
  simp [World.frozen?, h]
theorem box_lt {w : World} {b : Nat} {o : Obj} (h : w.heap[b]? = some o) : b < w.heap.size := (Array.getElem?_eq_some_iff.1 h).1

/-- a closure that was met: what change asks of it -/
abbrev Meets (f : FuncId) (env : Array Value) (w : World) (B g : Nat) (v : Value) (s : Dv.St) (k : Nat) (Q : Value → List UInt8 → World → Prop) : Prop :=
  ∀ w' x', w'.heap[g]? = some (.cells (kCells v s x' k (.func (.func f) #[] env)) 53) → Aside (· = g) w w' → Calls Try.prog f (#[v] ++ env) w' fun e w'' => ∃ u l, e = .returned u ∧ Has w'' B u l ∧ w''.heap[g]? = some (.cells (kCells v s x' k (.func (.func f) #[] env)) 53) ∧ Q u l w''

section
variable {B g : Nat} {v : Value} {s : Dv.St} {x k : Nat} {w : World}
set_option maxHeartbeats 1000000 in
theorem kLoose {q : Option Addr} {cap bx : Nat} {fv : Value} (hl : w.heap[g]? = some (.cells (kCells (.slice q s.b.length cap) s x k fv) 53)) (hb : w.heap[bx]? = some (.cells #[.pointer (some ⟨g, 0, none⟩)] 22)) (hs : s.safe ≤ s.b.length) (hlen : s.b.length ≤ 2097152) (hcap : s.b.length ≤ cap) (hk : k < 9223372036854775808) (n : Nat) (hn : n = s.safe + min k (s.b.length - s.safe)) :
    Calls Try.prog 57 #[.slice q s.b.length cap, .pointer (some ⟨bx, 0, none⟩)] w fun e w' => e = .returned (.slice q n cap) ∧ ∃ m, w' = w.drewN m := by
  have c2 : w.cell? ⟨g, 2, none⟩ = some (.int .i64 s.safe) := k_cell hl 2
  have c8 : w.cell? ⟨g, 8, none⟩ = some (.int .i64 k) := k_cell hl 8
  have cb := box_cell hb
  clear hl hb
  by_cases hlt : s.b.length - s.safe < k
  · have hlt1 : (s.b.length : Int) - (s.safe : Int) < (k : Int) := by omega
    have HM : Hid (n = s.safe + (s.b.length - s.safe)) := by show _ = _; omega
    rw [HM.out]
    clear hn
    go_enter Try.func57, Try.ntmps57
    go_wp2
    go_quiet (fail)
    go_wp2
    go_ret
    exact ⟨rfl, _, rfl⟩
  · have hlt1 : ¬ (s.b.length : Int) - (s.safe : Int) < (k : Int) := by omega
    have HM : Hid (n = s.safe + k) := by show _ = _; omega
    have hkl : s.safe + k ≤ s.b.length := by omega
    rw [HM.out]
    clear hn
    go_enter Try.func57, Try.ntmps57
    go_wp2
    go_quiet (fail)
    go_wp2
    go_ret
    exact ⟨rfl, _, rfl⟩

theorem fails_take (hs : s.safe ≤ s.b.length) (hk : k = s.keep) : (Dv.fails s).b = s.b.take (s.safe + min k (s.b.length - s.safe)) := by
  subst hk
  unfold Dv.fails
  simp only
  split
  · rw [Nat.min_eq_left (by omega)]
  · rw [List.take_of_length_le (by omega)]

theorem power_end {q : Option Addr} {cap n : Nat} {w3 : World} (ha : Aside (· = g) w w3) (h : KDev w3 B g (.slice q n cap) { s with b := s.b.take n, safe := s.safe } x k) (hF : (Dv.fails s).b = s.b.take n) :
    ∃ v', KDev ((((w3.setCell ⟨g, 5, none⟩ (.bool true)).setCell ⟨g, 6, none⟩ (.bool false)).setCell ⟨g, 7, none⟩ (.int .i64 0)).setCell ⟨g, 8, none⟩ (.int .i64 0)).drew B g v' (Dv.fails s) 0 0 ∧ Aside (fun i => i = g) w ((((w3.setCell ⟨g, 5, none⟩ (.bool true)).setCell ⟨g, 6, none⟩ (.bool false)).setCell ⟨g, 7, none⟩ (.int .i64 0)).setCell ⟨g, 8, none⟩ (.int .i64 0)).drew ∧ v'.ownBlock = (Value.slice q s.b.length cap).ownBlock := by
  have l1 : (w3.setCell ⟨g, 5, none⟩ (.bool true)).heap[g]? = some (.cells (kCells (.slice q n cap) { s with down := true } x k .nilFunc) 53) := k_set h.lies 5 _ rfl
  have l2 : ((w3.setCell ⟨g, 5, none⟩ (.bool true)).setCell ⟨g, 6, none⟩ (.bool false)).heap[g]? = some (.cells (kCells (.slice q n cap) { s with down := true, bound := false } x k .nilFunc) 53) := k_set l1 6 _ rfl
  have l3 : (((w3.setCell ⟨g, 5, none⟩ (.bool true)).setCell ⟨g, 6, none⟩ (.bool false)).setCell ⟨g, 7, none⟩ (.int .i64 0)).heap[g]? = some (.cells (kCells (.slice q n cap) { s with down := true, bound := false } 0 k .nilFunc) 53) := k_set l2 7 _ rfl
  have l4 : ((((w3.setCell ⟨g, 5, none⟩ (.bool true)).setCell ⟨g, 6, none⟩ (.bool false)).setCell ⟨g, 7, none⟩ (.int .i64 0)).setCell ⟨g, 8, none⟩ (.int .i64 0)).heap[g]? = some (.cells (kCells (.slice q n cap) (Dv.fails s) 0 0 .nilFunc) 53) := k_set l3 8 _ rfl
  have ha3 : Aside (fun i => i = g) w3 ((((w3.setCell ⟨g, 5, none⟩ (.bool true)).setCell ⟨g, 6, none⟩ (.bool false)).setCell ⟨g, 7, none⟩ (.int .i64 0)).setCell ⟨g, 8, none⟩ (.int .i64 0)).drew :=
    (((((Aside.refl (fun i => i = g) w3).setCell (p := ⟨g, 5, none⟩) (.inl rfl) _).setCell (p := ⟨g, 6, none⟩) (.inl rfl) _).setCell (p := ⟨g, 7, none⟩) (.inl rfl) _).setCell (p := ⟨g, 8, none⟩) (.inl rfl) _).drew
  refine ⟨.slice q n cap, ⟨l4, ?_, h.base, fun hc => by simp [Dv.fails] at hc, by omega, by omega⟩, ha.trans ha3 (fun _ _ h => h), by cases q <;> rfl⟩
  rw [hF]
  exact h.has.aside ha3 (fun j hj hc => h.apart (by rw [hj, hc]))

set_option maxHeartbeats 1000000 in
theorem kPower (h : KDev w B g v s x k) (hs : s.safe ≤ s.b.length) (hlen : s.b.length ≤ 2097152) (hk : k = s.keep) :
    Calls Try.prog 56 #[.pointer (some ⟨g, 0, none⟩)] w fun e w' => e = .returned (.tuple #[]) ∧ ∃ v', KDev w' B g v' (Dv.fails s) 0 0 ∧ Aside (· = g) w w' ∧ v'.ownBlock = v.ownBlock := by
  obtain ⟨q, cap, hv, -, hcap⟩ := h.has.at
  subst hv
  obtain ⟨n, hn⟩ : ∃ n, n = s.safe + min k (s.b.length - s.safe) := ⟨_, rfl⟩
  have hnl : n ≤ s.b.length := by omega
  have hsn : s.safe ≤ n := by omega
  have HF : Hid ((Dv.fails s).b = s.b.take n) := by show _ = _; rw [hn]; exact fails_take hs hk
  have hg := h.lt
  have hK1 : KDev (w.alloc (.cells #[.pointer (some ⟨g, 0, none⟩)] 22)) B g (.slice q s.b.length cap) s x k := h.below ((Below.refl _ _).alloc (Nat.le_refl _) _)
  have hbx := heap_new w (.cells #[.pointer (some ⟨g, 0, none⟩)] 22)
  have HC := Lib.hid (change_any 57 #[.pointer (some ⟨w.heap.size, 0, none⟩)] (fun u l w'' => u = .slice q n cap ∧ l = s.b.take n ∧ Aside (· = g) (w.alloc (.cells #[.pointer (some ⟨g, 0, none⟩)] 22)) w'') hK1 (fun args w => enters_body Try.func57 (by kernel_rfl) rfl args w) (fun w' hl' ha' => by
    have hb' : w'.heap[w.heap.size]? = some (.cells #[.pointer (some ⟨g, 0, none⟩)] 22) := by rw [ha'.block _ (box_lt hbx) (by omega)]; exact hbx
    refine (kLoose hl' hb' hs hlen hcap h.keep n hn).mono ?_
    rintro e w'' ⟨rfl, m, rfl⟩
    exact ⟨_, s.b.take n, rfl, ((hK1.has.aside ha' (fun j hj hc => hK1.apart (by rw [hj, hc]))).drewN m).cut hnl, hl', rfl, rfl, ha'.drewN m⟩))
  have HR := Lib.hid h
  have HBx := Lib.hid hbx
  have HS : Hid (min s.safe (s.b.take n).length = s.safe) := by show _ = _; rw [List.length_take]; omega
  clear h hK1 hbx hn
  go_enter Try.func56, Try.ntmps56
  go_wp2_with fail
  refine HC.out.mono ?_
  rintro e w3 ⟨rfl, u, l, w2, ⟨rfl, rfl, ha2⟩, ha3, hK3⟩
  rw [HS.out] at hK3
  have ha13 := ha2.trans ha3 (fun _ _ h => h)
  have hb3 : w3.heap[w.heap.size]? = some (.cells #[.pointer (some ⟨g, 0, none⟩)] 22) := by rw [ha13.block _ (box_lt HBx.out) (by omega)]; exact HBx.out
  have cb := box_cell hb3
  have c5 : w3.cell? ⟨g, 5, none⟩ = some (.bool s.down) := hK3.cell 5
  have c6 : w3.cell? ⟨g, 6, none⟩ = some (.bool s.bound) := hK3.cell 6
  have c7 : w3.cell? ⟨g, 7, none⟩ = some (.int .i64 x) := hK3.cell 7
  have c8 : w3.cell? ⟨g, 8, none⟩ = some (.int .i64 k) := hK3.cell 8
  have f5 := hK3.thawed 5
  have f6 := hK3.thawed 6
  have f7 := hK3.thawed 7
  have f8 := hK3.thawed 8
  have HA3 : Hid (Aside (· = g) w w3) := ((Aside.refl (· = g) w).alloc _).trans ha13 (fun _ _ h => h)
  have HEnd := Lib.hid (power_end HA3.out hK3 HF.out)
  have hne : w.heap.size ≠ g := by omega
  clear ha2 ha3 hK3 ha13 hb3 HC HBx
  go_wp2
  go_region_law (fail)
  all_goals
    go_wp2
    go_end0
    exact ⟨rfl, HEnd.out⟩

set_option maxHeartbeats 1000000 in
theorem deed_fails (fv : Value) (h : KDev w B g v s x k) (hm : Dv.may s = false) (hs : s.safe ≤ s.b.length) (hlen : s.b.length ≤ 2097152) :
    Calls Try.prog 49 #[.pointer (some ⟨g, 0, none⟩), fv] w fun e w' => e = .returned (.int .i64 51) ∧ ∃ v', KDev w' B g v' (Dv.fails s) 0 0 ∧ Aside (· = g) w w' ∧ v'.ownBlock = v.ownBlock := by
  have hbd : s.bound = true := by
    cases hb : s.bound with
    | true => rfl
    | false => simp [Dv.may, hb] at hm
  have haft : s.after = 0 := by simpa [Dv.may, hbd] using hm
  have c6 : w.cell? ⟨g, 6, none⟩ = some (.bool true) := by rw [← hbd]; exact h.cell 6
  have c7 : w.cell? ⟨g, 7, none⟩ = some (.int .i64 0) := by have := h.cell 7; rw [this]; simp [kCells, (h.due hbd).1, haft]
  have HP := Lib.hid (kPower h hs hlen (h.due hbd).2)
  clear h hm hbd haft
  go_enter Try.func49, Try.ntmps49
  go_wp2_with fail
  refine HP.out.mono ?_
  rintro e w1 ⟨rfl, hP⟩
  have HP1 := Lib.hid hP
  clear hP
  go_wp2
  go_ret
  exact ⟨rfl, HP1.out⟩

set_option maxHeartbeats 1000000 in
theorem deed_did (f : FuncId) (env : Array Value) (Q : Value → List UInt8 → World → Prop) (h : KDev w B g v s x k) (hm : Dv.may s = true) (hd : s.done < 4611686018427387904) (hE : ∀ (args : Array Value) (w : World), (callFunc f args).run Try.prog w = .ok (.enter f args) w) (hT : Meets f env w B g v s k Q) :
    Calls Try.prog 49 #[.pointer (some ⟨g, 0, none⟩), .func (.func f) #[] env] w fun e w3 => e = .returned (.int .i64 0) ∧ ∃ u l w'' x', Q u l w'' ∧ Aside (· = g) w'' w3 ∧ KDev w3 B g u { Dv.did s with b := l, safe := min s.safe l.length } x' k := by
  have c6 : w.cell? ⟨g, 6, none⟩ = some (.bool s.bound) := h.cell 6
  have c7 : w.cell? ⟨g, 7, none⟩ = some (.int .i64 x) := h.cell 7
  have f7 := h.thawed 7
  have hx := h.left
  cases hbd : s.bound with
  | false =>
    rw [hbd] at c6
    have HC := Lib.hid (change_any f env Q h hE (fun w' hl ha => hT w' x hl ha))
    have HB := Lib.hid hbd
    clear h hT hE hbd
    go_enter Try.func49, Try.ntmps49
    go_wp2_with fail
    refine HC.out.mono ?_
    rintro e w3 ⟨rfl, u, l, w2, hq, ha, hK⟩
    have c4 : w3.cell? ⟨g, 4, none⟩ = some (.int .i64 s.done) := hK.cell 4
    have f4 := hK.thawed 4
    have HK : Hid (KDev (w3.setCell ⟨g, 4, none⟩ (.int .i64 ((s.done : Int) + 1))) B g u { Dv.did s with b := l, safe := min s.safe l.length } x k) := hK.put 4 _ (by simp [kCells, Dv.did]) rfl (fun hc => by simp [Dv.did, HB.out] at hc) hK.left hK.keep
    have HA := Lib.hid (ha.setCell (p := ⟨g, 4, none⟩) (.inl rfl) (.int .i64 ((s.done : Int) + 1)))
    have HQ := Lib.hid hq
    clear hq ha hK HC
    go_wp2
    go_ret
    exact ⟨rfl, u, l, w2, x, HQ.out, HA.out, HK.out⟩
  | true =>
    have hpos : 0 < s.after := by simpa [Dv.may, hbd] using hm
    have hx0 : x = s.after := (h.due hbd).1
    have hxp : 0 < x := by omega
    have hpos1 : (0 : Int) < (x : Int) := by omega
    have hz : ((x : Int) == 0) = false := by simp; omega
    have h1 : KDev (w.setCell ⟨g, 7, none⟩ (.int .i64 ((x : Int) - 1))) B g v { s with after := s.after - 1 } (x - 1) k := h.put 7 _ (by simp [kCells]; omega) rfl (fun _ => ⟨by simp [hx0], (h.due hbd).2⟩) (by omega) h.keep
    rw [hbd] at c6
    have HC := Lib.hid (change_any f env Q h1 hE (fun w' hl ha => hT w' (x - 1) hl (((Aside.refl (· = g) w).setCell (p := ⟨g, 7, none⟩) (.inl rfl) _).trans ha (fun _ _ h => h))))
    have HB := Lib.hid hbd
    clear h hT hE hbd h1 hpos hx0
    go_enter Try.func49, Try.ntmps49
    go_wp2_with fail
    refine HC.out.mono ?_
    rintro e w3 ⟨rfl, u, l, w2, hq, ha, hK⟩
    have c4 : w3.cell? ⟨g, 4, none⟩ = some (.int .i64 s.done) := hK.cell 4
    have f4 := hK.thawed 4
    have HK : Hid (KDev (w3.setCell ⟨g, 4, none⟩ (.int .i64 ((s.done : Int) + 1))) B g u { Dv.did s with b := l, safe := min s.safe l.length } (x - 1) k) := hK.put 4 _ (by simp [kCells, Dv.did]) rfl (fun _ => by have := hK.due HB.out; simpa [Dv.did, HB.out] using this) hK.left hK.keep
    have HA := Lib.hid (ha.setCell (p := ⟨g, 4, none⟩) (.inl rfl) (.int .i64 ((s.done : Int) + 1)))
    have HQ := Lib.hid hq
    clear hq ha hK HC
    go_wp2
    go_ret
    exact ⟨rfl, u, l, w2, x - 1, HQ.out, HA.out, HK.out⟩
end
end Go.Proofs.Ytoibeajcepbpjaa
