/- The document's own file: how it lies in memory; the walks of its small calls. -/
import Derived.Test.YtoibeajcepbpjaaAside
import Derived.Test.YtoibeajcepbpjaaDev
namespace Go.Proofs.Ytoibeajcepbpjaa
open Go.RowKit

def devCells (v : Value) (s : Dv.St) : Array Value := #[v, .int .i64 s.most, .int .i64 s.safe, .bool s.down, .bool s.bound, .int .i64 s.after, .int .i64 s.keep, .int .i64 s.told, .int .i64 s.done]

/-- the document's file lies in block g; its bytes are v's -/
structure RDev (w : World) (B g : Nat) (v : Value) (s : Dv.St) : Prop where
  lies : w.heap[g]? = some (.cells (devCells v s) 55)
  has : Has w B v s.b
  base : B ≤ g
  apart : v.ownBlock ≠ some g

theorem RDev.lt {w : World} {B g : Nat} {v : Value} {s : Dv.St} (h : RDev w B g v s) : g < w.heap.size := (Array.getElem?_eq_some_iff.1 h.lies).1
theorem RDev.cell {w : World} {B g : Nat} {v : Value} {s : Dv.St} (h : RDev w B g v s) (i : Nat) : w.cell? ⟨g, i, none⟩ = (devCells v s)[i]? := by
  unfold World.cell?
  rw [h.lies]
  rfl
theorem RDev.thawed {w : World} {B g : Nat} {v : Value} {s : Dv.St} (h : RDev w B g v s) (i : Nat) : w.frozen? ⟨g, i, none⟩ = false := by
  simp [World.frozen?, h.lies]
/-- a number or a mark of it is written -/
theorem RDev.put {w : World} {B g : Nat} {v : Value} {s s' : Dv.St} (h : RDev w B g v s) (i : Nat) (u : Value) (he : devCells v s' = (devCells v s).setIfInBounds i u) (hb : s'.b = s.b) : RDev (w.setCell ⟨g, i, none⟩ u) B g v s' := by
  have ha : Aside (· = g) w (w.setCell ⟨g, i, none⟩ u) := (Aside.refl (· = g) w).setCell (p := ⟨g, i, none⟩) (.inl rfl) u
  refine ⟨?_, ?_, h.base, h.apart⟩
  · simp only [World.setCell, Array.getElem?_modify, h.lies, if_true, Option.map_some]
    rw [if_neg (by simp), he]
  · rw [hb]
    exact h.has.aside ha (fun k hk hc => h.apart (by rw [hk, hc]))
theorem RDev.aside {w w' : World} {B g : Nat} {v : Value} {s : Dv.St} {F : Nat → Prop} (h : RDev w B g v s) (ha : Aside F w w') (hg : ¬ F g) (hv : ∀ k, v.ownBlock = some k → ¬ F k) : RDev w' B g v s :=
  ⟨by rw [ha.block g h.lt hg]; exact h.lies, h.has.aside ha hv, h.base, h.apart⟩

section
variable {B g : Nat} {v : Value} {s : Dv.St} {w : World}

theorem refLen5 (h : RDev w B g v s) : Calls Try.prog 42 #[.pointer (some ⟨g, 0, none⟩)] w fun e w' => e = .returned (.int .i64 (s.b.length : Nat)) ∧ w' = w := by
  have c0 : w.cell? ⟨g, 0, none⟩ = some v := h.cell 0
  obtain ⟨p, cap, hv, -, -⟩ := h.has.at
  subst hv
  clear h
  go_enter Try.func42, Try.ntmps42
  go_wp2
  go_ret
  exact ⟨rfl, rfl⟩
theorem refUp (h : RDev w B g v s) : Calls Try.prog 41 #[.pointer (some ⟨g, 0, none⟩)] w fun e w' => e = .returned (.bool (!s.down)) ∧ w' = w := by
  have c0 : w.cell? ⟨g, 3, none⟩ = some (.bool s.down) := h.cell 3
  clear h
  go_enter Try.func41, Try.ntmps41
  go_wp2
  go_ret
  exact ⟨rfl, rfl⟩
theorem refQuota (h : RDev w B g v s) : Calls Try.prog 43 #[.pointer (some ⟨g, 0, none⟩)] w fun e w' => e = .returned (.int .i64 (s.most : Nat)) ∧ w' = w := by
  have c0 : w.cell? ⟨g, 1, none⟩ = some (.int .i64 s.most) := h.cell 1
  clear h
  go_enter Try.func43, Try.ntmps43
  go_wp2
  go_ret
  exact ⟨rfl, rfl⟩
theorem refSynced (h : RDev w B g v s) : Calls Try.prog 44 #[.pointer (some ⟨g, 0, none⟩)] w fun e w' => e = .returned (.int .i64 (s.safe : Nat)) ∧ w' = w := by
  have c0 : w.cell? ⟨g, 2, none⟩ = some (.int .i64 s.safe) := h.cell 2
  clear h
  go_enter Try.func44, Try.ntmps44
  go_wp2
  go_ret
  exact ⟨rfl, rfl⟩
theorem refCounted (h : RDev w B g v s) : Calls Try.prog 46 #[.pointer (some ⟨g, 0, none⟩)] w fun e w' => e = .returned (.int .i64 (s.told : Nat)) ∧ w' = w := by
  have c0 : w.cell? ⟨g, 7, none⟩ = some (.int .i64 s.told) := h.cell 7
  clear h
  go_enter Try.func46, Try.ntmps46
  go_wp2
  go_ret
  exact ⟨rfl, rfl⟩
theorem refWritten (h : RDev w B g v s) : Calls Try.prog 47 #[.pointer (some ⟨g, 0, none⟩)] w fun e w' => e = .returned (.int .i64 (s.done : Nat)) ∧ w' = w := by
  have c0 : w.cell? ⟨g, 8, none⟩ = some (.int .i64 s.done) := h.cell 8
  clear h
  go_enter Try.func47, Try.ntmps47
  go_wp2
  go_ret
  exact ⟨rfl, rfl⟩

/-- what a call of the file's leaves: its answer, the file, and nothing else touched but its own blocks -/
def RPost (w : World) (B g : Nat) (v : Value) (r : Nat × Dv.St) (e : Ending) (w' : World) : Prop :=
  e = .returned (.int .i64 (r.1 : Nat)) ∧ ∃ v', RDev w' B g v' r.2 ∧ Aside (fun k => k = g ∨ v.ownBlock = some k) w w' ∧ (v' = v ∨ ∀ k, v'.ownBlock = some k → v.ownBlock = some k ∨ w.heap.size ≤ k)

theorem refSync (h : RDev w B g v s) : Calls Try.prog 33 #[.pointer (some ⟨g, 0, none⟩)] w (RPost w B g v (Dv.sync s)) := by
  have c0 : w.cell? ⟨g, 0, none⟩ = some v := h.cell 0
  have c2 : w.cell? ⟨g, 2, none⟩ = some (.int .i64 s.safe) := h.cell 2
  have c3 : w.cell? ⟨g, 3, none⟩ = some (.bool s.down) := h.cell 3
  have f2 := h.thawed 2
  obtain ⟨p, cap, hv, -, -⟩ := h.has.at
  subst hv
  by_cases hd : s.down = true
  · have HE : Hid (Dv.sync s = (50, s)) := by show _ = _; unfold Dv.sync; rw [if_pos hd]
    have HR := Lib.hid h
    rw [hd] at c3
    clear h hd
    go_enter Try.func33, Try.ntmps33
    go_wp2
    go_ret
    rw [HE.out]
    exact ⟨rfl, _, HR.out, Aside.refl _ _, .inl rfl⟩
  · have hd' : s.down = false := by simpa using hd
    have HE : Hid (Dv.sync s = (0, { s with safe := s.b.length })) := by show _ = _; unfold Dv.sync; rw [if_neg hd]
    have HR : Hid (RDev (w.setCell ⟨g, 2, none⟩ (.int .i64 (s.b.length : Nat))) B g (.slice p s.b.length cap) { s with safe := s.b.length }) := h.put 2 _ rfl rfl
    rw [hd'] at c3
    clear h hd hd'
    go_enter Try.func33, Try.ntmps33
    go_wp2
    go_ret
    rw [HE.out]
    exact ⟨rfl, _, HR.out, (Aside.refl _ _).setCell (.inl (.inl rfl)) _, .inl rfl⟩

theorem refStart (h : RDev w B g v s) : Calls Try.prog 37 #[.pointer (some ⟨g, 0, none⟩)] w (RPost w B g v (Dv.start s)) := by
  have c3 : w.cell? ⟨g, 3, none⟩ = some (.bool s.down) := h.cell 3
  have f3 := h.thawed 3
  by_cases hd : s.down = true
  · have HE : Hid (Dv.start s = (0, { s with down := false })) := by show _ = _; unfold Dv.start; rw [if_pos hd]
    have HR : Hid (RDev (w.setCell ⟨g, 3, none⟩ (.bool false)) B g v { s with down := false }) := h.put 3 _ rfl rfl
    rw [hd] at c3
    clear h hd
    go_enter Try.func37, Try.ntmps37
    go_wp2
    go_ret
    rw [HE.out]
    exact ⟨rfl, _, HR.out, (Aside.refl _ _).setCell (.inl (.inl rfl)) _, .inl rfl⟩
  · have hd' : s.down = false := by simpa using hd
    have HE : Hid (Dv.start s = (6, s)) := by show _ = _; unfold Dv.start; rw [if_neg hd]
    have HR := Lib.hid h
    rw [hd'] at c3
    clear h hd hd'
    go_enter Try.func37, Try.ntmps37
    go_wp2
    go_ret
    rw [HE.out]
    exact ⟨rfl, _, HR.out, Aside.refl _ _, .inl rfl⟩

theorem refFail (h : RDev w B g v s) (a k : Int) : Calls Try.prog 36 #[.pointer (some ⟨g, 0, none⟩), .int .i64 a, .int .i64 k] w (RPost w B g v (Dv.fail s a k)) := by
  have c3 : w.cell? ⟨g, 3, none⟩ = some (.bool s.down) := h.cell 3
  have c4 : w.cell? ⟨g, 4, none⟩ = some (.bool s.bound) := h.cell 4
  have c5 : w.cell? ⟨g, 5, none⟩ = some (.int .i64 s.after) := h.cell 5
  have c6 : w.cell? ⟨g, 6, none⟩ = some (.int .i64 s.keep) := h.cell 6
  have f4 := h.thawed 4
  have f5 := h.thawed 5
  have f6 := h.thawed 6
  by_cases hd : s.down = true
  · have HE : Hid (Dv.fail s a k = (50, s)) := by show _ = _; unfold Dv.fail; rw [if_pos hd]
    have HR := Lib.hid h
    rw [hd] at c3
    clear h hd
    go_enter Try.func36, Try.ntmps36
    go_wp2
    go_ret
    rw [HE.out]
    exact ⟨rfl, _, HR.out, Aside.refl _ _, .inl rfl⟩
  · have hd' : s.down = false := by simpa using hd
    rw [hd'] at c3
    by_cases hx : a < 0 ∨ k < 0
    · have HE : Hid (Dv.fail s a k = (1, s)) := by show _ = _; unfold Dv.fail; rw [if_neg hd, if_pos hx]
      have HR := Lib.hid h
      clear h hd hd'
      by_cases ha : a < 0
      · clear hx
        go_enter Try.func36, Try.ntmps36
        go_wp2
        go_ret
        rw [HE.out]
        exact ⟨rfl, _, HR.out, Aside.refl _ _, .inl rfl⟩
      · have hk : k < 0 := by omega
        have ha' : 0 ≤ a := by omega
        clear hx ha
        go_enter Try.func36, Try.ntmps36
        go_wp2
        go_ret
        rw [HE.out]
        exact ⟨rfl, _, HR.out, Aside.refl _ _, .inl rfl⟩
    · have HE : Hid (Dv.fail s a k = (0, { s with bound := true, after := a.toNat, keep := k.toNat })) := by show _ = _; unfold Dv.fail; rw [if_neg hd, if_neg hx]
      have ha : 0 ≤ a := by omega
      have hk : 0 ≤ k := by omega
      obtain ⟨x, rfl⟩ : ∃ x : Nat, a = (x : Int) := ⟨a.toNat, by omega⟩
      obtain ⟨y, rfl⟩ : ∃ y : Nat, k = (y : Int) := ⟨k.toNat, by omega⟩
      have r1 : RDev (w.setCell ⟨g, 4, none⟩ (.bool true)) B g v { s with bound := true } := h.put 4 _ rfl rfl
      have r2 : RDev ((w.setCell ⟨g, 4, none⟩ (.bool true)).setCell ⟨g, 5, none⟩ (.int .i64 x)) B g v { s with bound := true, after := x } := r1.put 5 _ rfl rfl
      have HR : Hid (RDev (((w.setCell ⟨g, 4, none⟩ (.bool true)).setCell ⟨g, 5, none⟩ (.int .i64 x)).setCell ⟨g, 6, none⟩ (.int .i64 y)) B g v { s with bound := true, after := x, keep := y }) := r2.put 6 _ rfl rfl
      clear h hd hd' hx r1 r2
      go_enter Try.func36, Try.ntmps36
      go_wp2
      go_ret
      rw [HE.out]
      exact ⟨rfl, _, HR.out, (((Aside.refl _ _).setCell (.inl (.inl rfl)) _).setCell (.inl (.inl rfl)) _).setCell (.inl (.inl rfl)) _, .inl rfl⟩

set_option maxHeartbeats 1000000 in
/-- the first n bytes, as a list of their own -/
theorem refFirst (p : Option Addr) (c : Nat) (l : List UInt8) (hl : l.length ≤ 1073741824) (n : Nat) (hn : n ≤ l.length) (w : World) (h : At w p l) :
    Calls Try.prog 55 #[.slice p l.length c, .int .i64 n] w fun e w' => ∃ u, e = .returned u ∧ Has w' w.heap.size u (l.take n) ∧ Below w.heap.size w w' := by
  have HA := Lib.hid h
  clear h
  go_enter Try.func55, Try.ntmps55
  go_wp2
  go_loopw [5, 6] (fun v5 v6 wr => ∃ i : Nat, i ≤ n ∧ v6 = .int .i64 i ∧ Hid (Has wr w.heap.size v5 (l.take i) ∧ Below w.heap.size w wr)) (fun _ v6 _ => n - (intOf v6).toNat)
  case atStart => exact ⟨0, by omega, rfl, has_nil _ _, Below.refl _ _⟩
  case round =>
    obtain ⟨i, hi, rfl, HK⟩ := hrel
    by_cases hlt : i < n
    · obtain ⟨b, o, rfl, hbl, hc⟩ := at_some HA.out (by omega)
      have hcl := hc i (by omega)
      have hcw : wr.cell? ⟨b, o + i, none⟩ = some (.int .u8 (l[i].toNat : Int)) := by rw [HK.out.2.cell (p := ⟨b, o + i, none⟩) hbl]; exact hcl
      have HX : Hid (l.take (i + 1) = l.take i ++ [l[i]]) := List.take_succ_eq_append_getElem (by omega)
      have HO := Lib.hid HK.out.1
      have HB := Lib.hid HK.out.2
      have hB := HK.out.2.size
      have hxl : (l.take i).length ≤ 1073741824 := by rw [List.length_take]; omega
      have hi1 : (i : Int) < (l.length : Int) := by omega
      clear HK hcl hc
      generalize l[i] = lv at hcw HX
      generalize l.take i = ys at HX HO hxl
      go_wp2_with (at_builtin; refine wp_push HO.out lv (by omega) hB rfl rfl rfl rfl rfl rfl ?_; intro g2 cap2 W2 hm2 hb2)
      go_roundw
      case rel => exact ⟨i + 1, by omega, by go_num, by rw [HX.out]; have := hm2.has; simpa using this, HB.out.trans hb2⟩
      case measure => simp [intOf]; omega
    · have hii : i = n := by omega
      subst hii
      have HO := Lib.hid HK.out.1
      have HB := Lib.hid HK.out.2
      clear HK
      go_wp2
      go_ret
      exact ⟨_, rfl, HO.out, HB.out⟩
end
end Go.Proofs.Ytoibeajcepbpjaa
