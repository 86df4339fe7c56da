/- Package dev's file: how it lies in memory; the walks of its small calls. -/
import Derived.Test.YtoibeajcepbpjaaDevC
import Derived.Deep.RegionHeld3
namespace Go.Proofs.Ytoibeajcepbpjaa
open Go.RowKit

def kCells (v : Value) (s : Dv.St) (x k : Nat) (f : Value) : Array Value := #[v, .int .i64 s.most, .int .i64 s.safe, .int .i64 s.told, .int .i64 s.done, .bool s.down, .bool s.bound, .int .i64 x, .int .i64 k, f]

/-- package dev's file lies in block g; its bytes are v's; x and k are what it holds of power that is bound to fail -/
structure KDev (w : World) (B g : Nat) (v : Value) (s : Dv.St) (x k : Nat) : Prop where
  lies : w.heap[g]? = some (.cells (kCells v s x k .nilFunc) 53)
  has : Has w B v s.b
  base : B ≤ g
  due : s.bound = true → x = s.after ∧ k = s.keep
  left : x < 9223372036854775808
  keep : k < 9223372036854775808

theorem KDev.lt {w : World} {B g : Nat} {v : Value} {s : Dv.St} {x k : Nat} (h : KDev w B g v s x k) : g < w.heap.size := (Array.getElem?_eq_some_iff.1 h.lies).1
theorem k_cell {w : World} {g : Nat} {v : Value} {s : Dv.St} {x k : Nat} {f : Value} (h : w.heap[g]? = some (.cells (kCells v s x k f) 53)) (i : Nat) : w.cell? ⟨g, i, none⟩ = (kCells v s x k f)[i]? := by
  unfold World.cell?
  rw [h]
  rfl
theorem k_free {w : World} {g : Nat} {v : Value} {s : Dv.St} {x k : Nat} {f : Value} (h : w.heap[g]? = some (.cells (kCells v s x k f) 53)) (i : Nat) : w.frozen? ⟨g, i, none⟩ = false := by
  simp [World.frozen?, h]
theorem k_set {w : World} {g : Nat} {v v' : Value} {s s' : Dv.St} {x k x' k' : Nat} {f f' : Value} (h : w.heap[g]? = some (.cells (kCells v s x k f) 53)) (i : Nat) (u : Value) (he : kCells v' s' x' k' f' = (kCells v s x k f).setIfInBounds i u) : (w.setCell ⟨g, i, none⟩ u).heap[g]? = some (.cells (kCells v' s' x' k' f') 53) := by
  simp only [World.setCell, Array.getElem?_modify, h, if_true, Option.map_some]
  rw [if_neg (by simp), he]
theorem KDev.cell {w : World} {B g : Nat} {v : Value} {s : Dv.St} {x k : Nat} (h : KDev w B g v s x k) (i : Nat) : w.cell? ⟨g, i, none⟩ = (kCells v s x k .nilFunc)[i]? := k_cell h.lies i
theorem KDev.thawed {w : World} {B g : Nat} {v : Value} {s : Dv.St} {x k : Nat} (h : KDev w B g v s x k) (i : Nat) : w.frozen? ⟨g, i, none⟩ = false := k_free h.lies i
/-- a list's block is none of a file's -/
theorem has_apart {w : World} {B g : Nat} {v : Value} {l : List UInt8} (h : Has w B v l) {C : Array Value} {T : TypeId} (hg : w.heap[g]? = some (.cells C T)) (hT : T ≠ 5) : v.ownBlock ≠ some g := by
  intro hc
  rcases h.2 with ⟨h1, _⟩ | ⟨g', cap, cur, h1, _, h3, _⟩
  · rw [h1] at hc; cases hc
  · rw [h1] at hc
    simp only [Value.ownBlock, Option.some.injEq] at hc
    subst hc
    rw [h3] at hg
    injection hg with h4
    injection h4 with _ h5
    exact hT h5.symm
theorem KDev.apart {w : World} {B g : Nat} {v : Value} {s : Dv.St} {x k : Nat} (h : KDev w B g v s x k) : v.ownBlock ≠ some g := has_apart h.has h.lies (by decide)
/-- a number or a mark of it is written -/
theorem KDev.put {w : World} {B g : Nat} {v : Value} {s s' : Dv.St} {x k x' k' : Nat} (h : KDev w B g v s x k) (i : Nat) (u : Value) (he : kCells v s' x' k' .nilFunc = (kCells v s x k .nilFunc).setIfInBounds i u) (hb : s'.b = s.b) (hd : s'.bound = true → x' = s'.after ∧ k' = s'.keep) (hx : x' < 9223372036854775808) (hk : k' < 9223372036854775808) : KDev (w.setCell ⟨g, i, none⟩ u) B g v s' x' k' := by
  have ha : Aside (· = g) w (w.setCell ⟨g, i, none⟩ u) := (Aside.refl (· = g) w).setCell (p := ⟨g, i, none⟩) (.inl rfl) u
  refine ⟨k_set h.lies i u he, ?_, h.base, hd, hx, hk⟩
  rw [hb]
  exact h.has.aside ha (fun j hj hc => h.apart (by rw [hj, hc]))
theorem KDev.aside {w w' : World} {B g : Nat} {v : Value} {s : Dv.St} {x k : Nat} {F : Nat → Prop} (h : KDev w B g v s x k) (ha : Aside F w w') (hg : ¬ F g) (hv : ∀ k, v.ownBlock = some k → ¬ F k) : KDev w' B g v s x k :=
  ⟨by rw [ha.block g h.lt hg]; exact h.lies, h.has.aside ha hv, h.base, h.due, h.left, h.keep⟩
theorem KDev.below {w w' : World} {B g : Nat} {v : Value} {s : Dv.St} {x k : Nat} (h : KDev w B g v s x k) (hb : Below w.heap.size w w') : KDev w' B g v s x k :=
  h.aside (F := fun _ => False) (aside_new hb _) (fun h => h) (fun _ _ h => h)

/-- what a call of the file's leaves: its answer, the file, and nothing else touched but its own blocks -/
def KPost (w : World) (B g : Nat) (v : Value) (r : Nat × Dv.St) (e : Ending) (w' : World) : Prop :=
  e = .returned (.int .i64 (r.1 : Nat)) ∧ ∃ v' x' k', KDev w' B g v' r.2 x' k' ∧ Aside (fun i => i = g ∨ v.ownBlock = some i) w w' ∧ ∀ i, v'.ownBlock = some i → v.ownBlock = some i ∨ w.heap.size ≤ i

section
variable {B g : Nat} {v : Value} {s : Dv.St} {x k : Nat} {w : World}

theorem kLen (h : KDev w B g v s x k) : Calls Try.prog 26 #[.pointer (some ⟨g, 0, none⟩)] w fun e w' => e = .returned (.int .i64 (s.b.length : Nat)) ∧ w' = w := by
  have c0 : w.cell? ⟨g, 0, none⟩ = some v := h.cell 0
  obtain ⟨p, cap, hv, -, -⟩ := h.has.at
  subst hv
  clear h
  go_enter Try.func26, Try.ntmps26
  go_wp2
  go_ret
  exact ⟨rfl, rfl⟩
theorem kUp (h : KDev w B g v s x k) : Calls Try.prog 17 #[.pointer (some ⟨g, 0, none⟩)] w fun e w' => e = .returned (.bool (!s.down)) ∧ w' = w := by
  have c0 : w.cell? ⟨g, 5, none⟩ = some (.bool s.down) := h.cell 5
  clear h
  go_enter Try.func17, Try.ntmps17
  go_wp2
  go_ret
  exact ⟨rfl, rfl⟩
theorem kQuota (h : KDev w B g v s x k) : Calls Try.prog 8 #[.pointer (some ⟨g, 0, none⟩)] w fun e w' => e = .returned (.int .i64 (s.most : Nat)) ∧ w' = w := by
  have c0 : w.cell? ⟨g, 1, none⟩ = some (.int .i64 s.most) := h.cell 1
  clear h
  go_enter Try.func8, Try.ntmps8
  go_wp2
  go_ret
  exact ⟨rfl, rfl⟩
theorem kSynced (h : KDev w B g v s x k) : Calls Try.prog 16 #[.pointer (some ⟨g, 0, none⟩)] w fun e w' => e = .returned (.int .i64 (s.safe : Nat)) ∧ w' = w := by
  have c0 : w.cell? ⟨g, 2, none⟩ = some (.int .i64 s.safe) := h.cell 2
  clear h
  go_enter Try.func16, Try.ntmps16
  go_wp2
  go_ret
  exact ⟨rfl, rfl⟩
theorem kCounted (h : KDev w B g v s x k) : Calls Try.prog 45 #[.pointer (some ⟨g, 0, none⟩)] w fun e w' => e = .returned (.int .i64 (s.told : Nat)) ∧ w' = w := by
  have c0 : w.cell? ⟨g, 3, none⟩ = some (.int .i64 s.told) := h.cell 3
  clear h
  go_enter Try.func45, Try.ntmps45
  go_wp2
  go_ret
  exact ⟨rfl, rfl⟩
theorem kWritten (h : KDev w B g v s x k) : Calls Try.prog 29 #[.pointer (some ⟨g, 0, none⟩)] w fun e w' => e = .returned (.int .i64 (s.done : Nat)) ∧ w' = w := by
  have c0 : w.cell? ⟨g, 4, none⟩ = some (.int .i64 s.done) := h.cell 4
  clear h
  go_enter Try.func29, Try.ntmps29
  go_wp2
  go_ret
  exact ⟨rfl, rfl⟩

theorem kSync (h : KDev w B g v s x k) : Calls Try.prog 19 #[.pointer (some ⟨g, 0, none⟩)] w (KPost w B g v (Dv.sync s)) := by
  have c0 : w.cell? ⟨g, 0, none⟩ = some v := h.cell 0
  have c2 : w.cell? ⟨g, 2, none⟩ = some (.int .i64 s.safe) := h.cell 2
  have c3 : w.cell? ⟨g, 5, none⟩ = some (.bool s.down) := h.cell 5
  have f2 := h.thawed 2
  obtain ⟨p, cap, hv, -, -⟩ := h.has.at
  subst hv
  by_cases hd : s.down = true
  · have HE : Hid (Dv.sync s = (50, s)) := by show _ = _; unfold Dv.sync; rw [if_pos hd]
    have HR := Lib.hid h
    rw [hd] at c3
    clear h hd
    go_enter Try.func19, Try.ntmps19
    go_wp2
    go_ret
    rw [HE.out]
    exact ⟨rfl, _, _, _, HR.out, Aside.refl _ _, fun _ h => .inl h⟩
  · have hd' : s.down = false := by simpa using hd
    have HE : Hid (Dv.sync s = (0, { s with safe := s.b.length })) := by show _ = _; unfold Dv.sync; rw [if_neg hd]
    have HR : Hid (KDev (w.setCell ⟨g, 2, none⟩ (.int .i64 (s.b.length : Nat))) B g (.slice p s.b.length cap) { s with safe := s.b.length } x k) := h.put 2 _ rfl rfl h.due h.left h.keep
    rw [hd'] at c3
    clear h hd hd'
    go_enter Try.func19, Try.ntmps19
    go_wp2
    go_ret
    rw [HE.out]
    exact ⟨rfl, _, _, _, HR.out, (Aside.refl _ _).setCell (.inl (.inl rfl)) _, fun _ h => .inl h⟩

theorem kStart (h : KDev w B g v s x k) : Calls Try.prog 22 #[.pointer (some ⟨g, 0, none⟩)] w (KPost w B g v (Dv.start s)) := by
  have c3 : w.cell? ⟨g, 5, none⟩ = some (.bool s.down) := h.cell 5
  have f3 := h.thawed 5
  by_cases hd : s.down = true
  · have HE : Hid (Dv.start s = (0, { s with down := false })) := by show _ = _; unfold Dv.start; rw [if_pos hd]
    have HR : Hid (KDev (w.setCell ⟨g, 5, none⟩ (.bool false)) B g v { s with down := false } x k) := h.put 5 _ rfl rfl h.due h.left h.keep
    rw [hd] at c3
    clear h hd
    go_enter Try.func22, Try.ntmps22
    go_wp2
    go_ret
    rw [HE.out]
    exact ⟨rfl, _, _, _, HR.out, (Aside.refl _ _).setCell (.inl (.inl rfl)) _, fun _ h => .inl h⟩
  · have hd' : s.down = false := by simpa using hd
    have HE : Hid (Dv.start s = (6, s)) := by show _ = _; unfold Dv.start; rw [if_neg hd]
    have HR := Lib.hid h
    rw [hd'] at c3
    clear h hd hd'
    go_enter Try.func22, Try.ntmps22
    go_wp2
    go_ret
    rw [HE.out]
    exact ⟨rfl, _, _, _, HR.out, Aside.refl _ _, fun _ h => .inl h⟩

theorem kFail (h : KDev w B g v s x k) (a m : Int) (ha2 : a ≤ 9223372036854775807) (hm2 : m ≤ 9223372036854775807) : Calls Try.prog 21 #[.pointer (some ⟨g, 0, none⟩), .int .i64 a, .int .i64 m] w (KPost w B g v (Dv.fail s a m)) := by
  have c3 : w.cell? ⟨g, 5, none⟩ = some (.bool s.down) := h.cell 5
  have c4 : w.cell? ⟨g, 6, none⟩ = some (.bool s.bound) := h.cell 6
  have c5 : w.cell? ⟨g, 7, none⟩ = some (.int .i64 x) := h.cell 7
  have c6 : w.cell? ⟨g, 8, none⟩ = some (.int .i64 k) := h.cell 8
  have f4 := h.thawed 6
  have f5 := h.thawed 7
  have f6 := h.thawed 8
  by_cases hd : s.down = true
  · have HE : Hid (Dv.fail s a m = (50, s)) := by show _ = _; unfold Dv.fail; rw [if_pos hd]
    have HR := Lib.hid h
    rw [hd] at c3
    clear h hd
    go_enter Try.func21, Try.ntmps21
    go_wp2
    go_ret
    rw [HE.out]
    exact ⟨rfl, _, _, _, HR.out, Aside.refl _ _, fun _ h => .inl h⟩
  · have hd' : s.down = false := by simpa using hd
    rw [hd'] at c3
    by_cases hx : a < 0 ∨ m < 0
    · have HE : Hid (Dv.fail s a m = (1, s)) := by show _ = _; unfold Dv.fail; rw [if_neg hd, if_pos hx]
      have HR := Lib.hid h
      clear h hd hd'
      by_cases ha : a < 0
      · clear hx
        have hb0 : decide (a < 0) = true := decide_eq_true ha
        go_enter Try.func21, Try.ntmps21
        go_wp2
        go_ret
        rw [HE.out]
        exact ⟨rfl, _, _, _, HR.out, Aside.refl _ _, fun _ h => .inl h⟩
      · have hk : m < 0 := by omega
        have ha' : 0 ≤ a := by omega
        have hb0 : decide (a < 0) = false := decide_eq_false ha
        clear hx ha
        go_enter Try.func21, Try.ntmps21
        go_wp2
        go_ret
        rw [HE.out]
        exact ⟨rfl, _, _, _, HR.out, Aside.refl _ _, fun _ h => .inl h⟩
    · have HE : Hid (Dv.fail s a m = (0, { s with bound := true, after := a.toNat, keep := m.toNat })) := by show _ = _; unfold Dv.fail; rw [if_neg hd, if_neg hx]
      have ha : 0 ≤ a := by omega
      have hk : 0 ≤ m := by omega
      obtain ⟨y, rfl⟩ : ∃ y : Nat, a = (y : Int) := ⟨a.toNat, by omega⟩
      obtain ⟨z, rfl⟩ : ∃ z : Nat, m = (z : Int) := ⟨m.toNat, by omega⟩
      have r1 : (w.setCell ⟨g, 6, none⟩ (.bool true)).heap[g]? = some (.cells (kCells v { s with bound := true, after := y, keep := z } x k .nilFunc) 53) := k_set h.lies 6 _ rfl
      have r2 : ((w.setCell ⟨g, 6, none⟩ (.bool true)).setCell ⟨g, 7, none⟩ (.int .i64 y)).heap[g]? = some (.cells (kCells v { s with bound := true, after := y, keep := z } y k .nilFunc) 53) := k_set r1 7 _ rfl
      have r3 : (((w.setCell ⟨g, 6, none⟩ (.bool true)).setCell ⟨g, 7, none⟩ (.int .i64 y)).setCell ⟨g, 8, none⟩ (.int .i64 z)).heap[g]? = some (.cells (kCells v { s with bound := true, after := y, keep := z } y z .nilFunc) 53) := k_set r2 8 _ rfl
      have HAs : Hid (Aside (fun i => i = g) w (((w.setCell ⟨g, 6, none⟩ (.bool true)).setCell ⟨g, 7, none⟩ (.int .i64 y)).setCell ⟨g, 8, none⟩ (.int .i64 z))) := (((Aside.refl (fun i => i = g) w).setCell (p := ⟨g, 6, none⟩) (.inl rfl) _).setCell (p := ⟨g, 7, none⟩) (.inl rfl) _).setCell (p := ⟨g, 8, none⟩) (.inl rfl) _
      have HR : Hid (KDev (((w.setCell ⟨g, 6, none⟩ (.bool true)).setCell ⟨g, 7, none⟩ (.int .i64 y)).setCell ⟨g, 8, none⟩ (.int .i64 z)) B g v { s with bound := true, after := y, keep := z } y z) :=
        ⟨r3, h.has.aside HAs.out (fun j hj hc => h.apart (by rw [hj, hc])), h.base, fun _ => ⟨rfl, rfl⟩, by omega, by omega⟩
      have hb0 : decide ((y : Int) < 0) = false := decide_eq_false (by omega)
      have hb1 : decide ((z : Int) < 0) = false := decide_eq_false (by omega)
      clear h hd hd' hx r1 r2 r3
      go_enter Try.func21, Try.ntmps21
      go_wp2
      go_ret
      rw [HE.out]
      exact ⟨rfl, _, _, _, HR.out, HAs.out.mono (fun _ _ h => .inl h), fun _ h => .inl h⟩
end
end Go.Proofs.Ytoibeajcepbpjaa
