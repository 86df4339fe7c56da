/- WSpoilR, W11F: put together. -/
import Derived.Test.YtpkbdnilakaakaaGreatM05
import Derived.Test.YtpkbdnilakaakaaGreatM06
import Derived.Test.YtpkbdnilakaakaaGreatM56
import Derived.Test.YtpkbdnilakaakaaGreatM52

/- The law's own loops that write over a row which lies in blocks of its own. -/
namespace Go.Proofs.YtpkbdnilakaakaaGreat
open Go.RowKit

/-- a cell that is there and may be written -/
def SoftC (w : World) (p : Addr) : Prop := (∃ v, w.cell? p = some v) ∧ w.frozen? p = false
theorem SoftC.set {w : World} {p : Addr} (h : SoftC w p) (q : Addr) (u : Value) : SoftC (w.setCell q u) p := by
  obtain ⟨⟨v, h1⟩, h2⟩ := h
  refine ⟨?_, by rw [World.frozen?_setCell]; exact h2⟩
  by_cases e : q = p
  · subst e
    exact ⟨u, World.cell?_setCell_same (h := h1) ..⟩
  · exact ⟨v, by rw [World.cell?_setCell_other (h := by first | exact e | exact fun hc => e hc.symm)]; exact h1⟩
/-- a value is written over -/
def over5 (w : World) (g o : Nat) (k : Int) : World := ((((w.setCell ⟨g, o, none⟩ (.int .i64 k)).setCell ⟨g, o + 1, none⟩ (.int .i64 0)).setCell ⟨g, o + 2, none⟩ (.float .f64 0)).setCell ⟨g, o + 3, none⟩ (.string ⟨#[]⟩)).setCell ⟨g, o + 4, none⟩ (.slice none 0 0)
theorem SoftC.over {w : World} {p : Addr} (h : SoftC w p) (g o : Nat) (k : Int) : SoftC (over5 w g o k) p := ((((h.set _ _).set _ _).set _ _).set _ _).set _ _
theorem over5_aside (w : World) (g o : Nat) (k : Int) : Aside (fun j => j = g) w (over5 w g o k) := by
  have s1 : ∀ (w : World) (m : Nat) (u : Value), Aside (fun j => j = g) w (w.setCell ⟨g, m, none⟩ u) := fun w m u => (Aside.refl (fun j => j = g) w).setCell (p := ⟨g, m, none⟩) (.inl rfl) u
  exact ((((s1 _ _ _).trans (s1 _ _ _) (fun _ _ h => h)).trans (s1 _ _ _) (fun _ _ h => h)).trans (s1 _ _ _) (fun _ _ h => h)).trans (s1 _ _ _) (fun _ _ h => h)
theorem over5_cell {w : World} {g o m : Nat} {k : Int} (h : m < o ∨ o + 5 ≤ m) : (over5 w g o k).cell? ⟨g, m, none⟩ = w.cell? ⟨g, m, none⟩ := by
  unfold over5
  rw [World.cell?_setCell_other (h := by intro hc; injection hc; omega), World.cell?_setCell_other (h := by intro hc; injection hc; omega), World.cell?_setCell_other (h := by intro hc; injection hc; omega), World.cell?_setCell_other (h := by intro hc; injection hc; omega), World.cell?_setCell_other (h := by intro hc; injection hc; omega)]

/-- items that may be written over, in a block between B and Z, not in g -/
def ItemsS (w : World) (B Z g : Nat) (p : Option Addr) (n : Nat) : Prop := n = 0 ∨ ∃ g' o', p = some ⟨g', o', none⟩ ∧ B ≤ g' ∧ g' < Z ∧ g' ≠ g ∧ ∀ k, k < n → ∀ m, m < 5 → SoftC w ⟨g', o' + k * 5 + m, none⟩
/-- a row in block g, its values from i on as they were -/
structure RowS (w : World) (B Z g off n i : Nat) : Prop where
  low : B ≤ g
  high : g < Z
  size : Z ≤ w.heap.size
  soft : ∀ j, j < n → ∀ m, m < 5 → SoftC w ⟨g, off + j * 5 + m, none⟩
  item : ∀ j, i ≤ j → j < n → ∃ (p : Option Addr) (k c : Nat), (k : Int) ≤ 140737488351232 ∧ w.cell? ⟨g, off + j * 5 + 4, none⟩ = some (.slice p k c) ∧ ItemsS w B Z g p k
theorem RowS.inner {w : World} {B Z g off n i g' o : Nat} {k : Int} (h : RowS w B Z g off n i) (hg : g' ≠ g) (hs : g < w.heap.size) : RowS (over5 w g' o k) B Z g off n i := by
  have ha := over5_aside w g' o k
  refine ⟨h.low, h.high, Nat.le_trans h.size ha.size, fun j hj m hm => (h.soft j hj m hm).over _ _ _, fun j hi hj => ?_⟩
  obtain ⟨p, n', c, h1, h2, h3⟩ := h.item j hi hj
  refine ⟨p, n', c, h1, ?_, ?_⟩
  · rw [ha.cell (p := ⟨g, off + j * 5 + 4, none⟩) hs (show ¬ g = g' from fun e => hg e.symm)]; exact h2
  · rcases h3 with h3 | ⟨g2, o2, e1, e2, e3, e4, e5⟩
    · exact .inl h3
    · exact .inr ⟨g2, o2, e1, e2, e3, e4, fun k2 hk m hm => (e5 k2 hk m hm).over _ _ _⟩
theorem RowS.outer {w : World} {B Z g off n i : Nat} {k : Int} (h : RowS w B Z g off n i) : RowS (over5 w g (off + i * 5) k) B Z g off n (i + 1) := by
  have ha := over5_aside w g (off + i * 5) k
  refine ⟨h.low, h.high, Nat.le_trans h.size ha.size, fun j hj m hm => (h.soft j hj m hm).over _ _ _, fun j hi hj => ?_⟩
  obtain ⟨p, n', c, h1, h2, h3⟩ := h.item j (by omega) hj
  refine ⟨p, n', c, h1, ?_, ?_⟩
  · rw [over5_cell (by omega)]; exact h2
  · rcases h3 with h3 | ⟨g2, o2, e1, e2, e3, e4, e5⟩
    · exact .inl h3
    · exact .inr ⟨g2, o2, e1, e2, e3, e4, fun k2 hk m hm => (e5 k2 hk m hm).over _ _ _⟩
theorem ItemsS.aside {w : World} {B Z g : Nat} {p : Option Addr} {n : Nat} (h : ItemsS w B Z g p n) (g' o : Nat) (k : Int) : ItemsS (over5 w g' o k) B Z g p n := by
  rcases h with h3 | ⟨g2, o2, e1, e2, e3, e4, e5⟩
  · exact .inl h3
  · exact .inr ⟨g2, o2, e1, e2, e3, e4, fun k2 hk m hm => (e5 k2 hk m hm).over _ _ _⟩

/-- at the beginning -/
theorem rowS_start {w : World} {B Z : Nat} {q : Option Addr} {c : Nat} {vs : List V} (h : VOwn w (fun k => B ≤ k ∧ k < Z) (cells5 0 0 0 ⟨#[]⟩ q vs.length c) (.mk 0 0 0 ⟨#[]⟩ vs)) (hZ : Z ≤ w.heap.size) : vs = [] ∨ ∃ g off, q = some ⟨g, off, none⟩ ∧ RowS w B Z g off vs.length 0 := by
  rcases h.inv with ⟨k0, i0, b0, t0, p0, c0, -, hx⟩ | ⟨k0, i0, b0, t0, g, off, c0, xs, us, Fs, hu, hx, s⟩
  · simp only [V.mk.injEq] at hx
    exact .inl hx.2.2.2.2
  · simp only [V.mk.injEq] at hx
    obtain ⟨-, -, -, -, rfl⟩ := hx
    simp only [cells5] at hu
    injection hu with hu
    injection hu with _ hu
    injection hu with _ hu
    injection hu with _ hu
    injection hu with _ hu
    injection hu with hu _
    injection hu with hu _ _
    refine .inr ⟨g, off, hu, s.hg.1, s.hg.2, hZ, fun j hj m hm => ⟨?_, s.hf j hj m hm⟩, fun j _ hj => ?_⟩
    · rw [s.hp.2 j hj m hm]
      exact ⟨_, Array.getElem?_eq_getElem (by rw [s.h5 j hj]; exact hm)⟩
    · have hr := s.hr j hj
      obtain ⟨k1, i1, b1, t1, p1, n1, c1, hs⟩ := hr.shape
      have h4 := s.hp.2 j hj 4 (by omega)
      rw [hs] at h4 hr
      have hsub := s.hs j hj
      have hng := s.hgs j hj
      refine ⟨p1, n1, c1, ?_, h4, ?_⟩
      · have hly := hr.lies
        generalize vs[j] = y at hly
        obtain ⟨x0, x1, x2, x3, x4⟩ := y
        obtain ⟨pp, cc, hu2, hl2, -⟩ := hly.open
        simp only [cells5] at hu2
        injection hu2 with hu2
        injection hu2 with _ hu2
        injection hu2 with _ hu2
        injection hu2 with _ hu2
        injection hu2 with _ hu2
        injection hu2 with hu2 _
        injection hu2 with _ hu2 _
        omega
      · rcases hr.inv with ⟨k2, i2, b2, t2, p2, c2, hu2, -⟩ | ⟨k2, i2, b2, t2, g2, o2, c2, xs2, us2, Fs2, hu2, -, s2⟩
        · simp only [cells5] at hu2
          injection hu2 with hu2
          injection hu2 with _ hu2
          injection hu2 with _ hu2
          injection hu2 with _ hu2
          injection hu2 with _ hu2
          injection hu2 with hu2 _
          injection hu2 with _ hu2 _
          exact .inl hu2
        · simp only [cells5] at hu2
          injection hu2 with hu2
          injection hu2 with _ hu2
          injection hu2 with _ hu2
          injection hu2 with _ hu2
          injection hu2 with _ hu2
          injection hu2 with hu2 _
          injection hu2 with e1 e2 _
          subst e1 e2
          have hb := hsub g2 s2.hg
          refine .inr ⟨g2, o2, rfl, hb.1, hb.2, fun e => hng (by rw [← e]; exact s2.hg), fun k3 hk m hm => ⟨?_, s2.hf k3 hk m hm⟩⟩
          rw [s2.hp.2 k3 hk m hm]
          exact ⟨_, Array.getElem?_eq_getElem (by rw [s2.h5 k3 hk]; exact hm)⟩
end Go.Proofs.YtpkbdnilakaakaaGreat

/- Rows of one's own that are written over. -/
namespace Go.Proofs.YtpkbdnilakaakaaGreat
open Go.RowKit

/-- the rows of an answer -/
def Bt.got : Except Nat (List (List V)) → List (List V)
  | .ok l => l
  | .error _ => []
theorem UnpA.got {w w' : World} {R : Except Nat (List (List V))} {e : Ending} (h : UnpA w R e w') : ∃ q c, e = .returned (.tuple #[.slice q (Bt.got R).length c, .int .i64 (Bt.code R : Nat)]) ∧ RowsB w' w.heap.size (.slice q (Bt.got R).length c) (Bt.got R) ∧ Below w.heap.size w w' := by
  cases R with
  | error er => exact ⟨none, 0, h.1, rowsB_nil _ _, h.2⟩
  | ok l => exact h
theorem Bt.got_wf (s : List Col) (b : List UInt8) (n : Int) : (∀ x ∈ Bt.got (Bt.unpack s b n), ∀ v ∈ x, v.wf) ∧ (Bt.got (Bt.unpack s b n)).length * 24 ≤ 140737488351232 := by
  cases hr : Bt.unpack s b n with
  | ok l => exact ⟨(Bt.unpack_wf hr).1, (Bt.unpack_wf hr).2.1⟩
  | error er => exact ⟨fun x hx => (by cases hx), (by simp [Bt.got])⟩

theorem items_start {w : World} {F : Nat → Prop} {B Z g : Nat} {q : Option Addr} {d : Nat} {y : List V} (h : ROwn w F q d y) (hF : ∀ k, F k → B ≤ k ∧ k < Z ∧ k ≠ g) : ((y.length : Nat) : Int) ≤ 140737488351232 ∧ ItemsS w B Z g q y.length := by
  have hl : ((y.length : Nat) : Int) ≤ 140737488351232 := by
    obtain ⟨pp, cc, hu2, hl2, -⟩ := (VOwn.lies h).open
    omega
  refine ⟨hl, ?_⟩
  rcases VOwn.inv h with ⟨k0, i0, b0, t0, p0, c0, -, hx⟩ | ⟨k0, i0, b0, t0, g2, off, c0, xs, us, Fs, hu, hx, s⟩
  · simp only [V.mk.injEq] at hx
    exact .inl (by rw [hx.2.2.2.2]; rfl)
  · simp only [V.mk.injEq] at hx
    obtain ⟨-, -, -, -, rfl⟩ := hx
    simp only [cells5] at hu
    injection hu with hu
    injection hu with _ hu
    injection hu with _ hu
    injection hu with _ hu
    injection hu with _ hu
    injection hu with hu _
    injection hu with hu _ _
    have hb := hF g2 s.hg
    refine .inr ⟨g2, off, hu, hb.1, hb.2.1, hb.2.2, fun j hj m hm => ⟨?_, s.hf j hj m hm⟩⟩
    rw [s.hp.2 j hj m hm]
    exact ⟨_, Array.getElem?_eq_getElem (by rw [s.h5 j hj]; exact hm)⟩

/-- rows in block g, from i on as they were -/
structure LstS (w : World) (B Z g n i : Nat) : Prop where
  low : B ≤ g
  high : g < Z
  size : Z ≤ w.heap.size
  soft : ∀ j, j < n → SoftC w ⟨g, j, none⟩
  item : ∀ j, i ≤ j → j < n → ∃ (p : Option Addr) (k c : Nat), (k : Int) ≤ 140737488351232 ∧ w.cell? ⟨g, j, none⟩ = some (.slice p k c) ∧ ItemsS w B Z g p k
theorem ItemsS.set {w : World} {B Z g : Nat} {p : Option Addr} {n : Nat} (h : ItemsS w B Z g p n) (q : Addr) (u : Value) : ItemsS (w.setCell q u) B Z g p n := by
  rcases h with h3 | ⟨g2, o2, e1, e2, e3, e4, e5⟩
  · exact .inl h3
  · exact .inr ⟨g2, o2, e1, e2, e3, e4, fun k2 hk m hm => (e5 k2 hk m hm).set _ _⟩
theorem LstS.inner {w : World} {B Z g n i g' o : Nat} {k : Int} (h : LstS w B Z g n i) (hg : g' ≠ g) : LstS (over5 w g' o k) B Z g n i := by
  have ha := over5_aside w g' o k
  have hs := h.size
  have hh := h.high
  refine ⟨h.low, h.high, Nat.le_trans h.size ha.size, fun j hj => (h.soft j hj).over _ _ _, fun j hi hj => ?_⟩
  obtain ⟨p, n', c, h1, h2, h3⟩ := h.item j hi hj
  refine ⟨p, n', c, h1, ?_, h3.aside _ _ _⟩
  rw [ha.cell (p := ⟨g, j, none⟩) (show g < w.heap.size by omega) (show ¬ g = g' from fun e => hg e.symm)]; exact h2
theorem LstS.outer {w : World} {B Z g n i : Nat} (h : LstS w B Z g n i) (u : Value) : LstS (w.setCell ⟨g, i, none⟩ u) B Z g n (i + 1) := by
  refine ⟨h.low, h.high, by simpa [World.setCell] using h.size, fun j hj => (h.soft j hj).set _ _, fun j hi hj => ?_⟩
  obtain ⟨p, n', c, h1, h2, h3⟩ := h.item j (by omega) hj
  refine ⟨p, n', c, h1, ?_, h3.set _ _⟩
  rw [World.cell?_setCell_other (h := by intro hc; injection hc; omega)]
  exact h2
theorem lstS_start {w : World} {B Z : Nat} {q : Option Addr} {c : Nat} {ys : List (List V)} (h : RowsB w B (.slice q ys.length c) ys) (hZ : Z = w.heap.size) : ys.length = 0 ∨ ∃ g, q = some ⟨g, 0, none⟩ ∧ LstS w B Z g ys.length 0 := by
  subst hZ
  obtain ⟨us, h1, h2⟩ := h.out
  rcases h1.2 with ⟨he, h3⟩ | ⟨g, cap, cur, he, h4, h5, h6, h7, h8, h9⟩
  · exact .inl h3
  · injection he with e1 _ e2
    subst e1 e2
    have hcell : ∀ j, j < ys.length → ∃ v, w.cell? ⟨g, j, none⟩ = some v := fun j hj => by
      rw [blk_cell h5]
      exact ⟨_, Array.getElem?_eq_getElem (by rw [h8]; omega)⟩
    refine .inr ⟨g, rfl, h4, blk_lt h5, Nat.le_refl _, fun j hj => ⟨hcell j hj, blk_free h5 j⟩, fun j _ hj => ?_⟩
    obtain ⟨qj, dj, e3, e4⟩ := h2 j hj
    obtain ⟨i1, i2⟩ := items_start (Z := w.heap.size) (g := g) e4 (fun k hk => ⟨hk.1, hk.2.1, fun hc => hk.2.2 (by rw [hc]; rfl)⟩)
    refine ⟨qj, ys[j].length, dj, i1, ?_, i2⟩
    rw [blk_cell h5]
    rw [← h9, List.getElem?_take] at e3
    simp only [Nat.mul_one] at e3
    rw [if_pos hj] at e3
    simpa using e3
end Go.Proofs.YtpkbdnilakaakaaGreat
