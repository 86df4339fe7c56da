/- SchF, CLies, TOwn, COwn, WTypeR, WNameR, WFindR, WIsR, K7Pl, LebC, ValueC: put together. -/
import Derived.Test.YtnlhpndjogjejaaM05
import Derived.Test.YtnlhpndjogjejaaM02
import Derived.Test.YtnlhpndjogjejaaM01
import Derived.Test.YtnlhpndjogjejaaM03
import Derived.Test.YtnlhpndjogjejaaM04

/- No reading ends with the error 0. -/
namespace Go.Proofs.Ytnlhpndjogjejaa
open Go.RowKit
namespace Sch

theorem bit_ne {l : List UInt8} {e : Nat} (h : bit l = .error e) : e ≠ 0 := by
  unfold bit at h
  split at h
  · cases h; decide
  · split at h
    · cases h; decide
    · cases h
theorem num_ne {l : List UInt8} {e : Nat} (h : num l = .error e) : e ≠ 0 := by
  unfold num at h
  split at h
  · cases h
  · next hn => cases h; exact hn
theorem text_ne {most long : Nat} {l : List UInt8} {e : Nat} (hl : long ≠ 0) (h : text most long l = .error e) : e ≠ 0 := by
  unfold text at h
  split at h
  · next hn => cases h; exact num_ne hn
  · split at h
    · cases h; exact hl
    · split at h
      · cases h; decide
      · cases h
theorem float_ne {l : List UInt8} {e : Nat} (h : float l = .error e) : e ≠ 0 := by
  unfold float at h
  split at h
  · cases h; decide
  · split at h
    · cases h
    · cases h; decide
theorem scalar_ne {k : Int} {l : List UInt8} {e : Nat} (h : scalar k l = .error e) : e ≠ 0 := by
  unfold scalar at h
  split at h
  · split at h
    · next hn => cases h; exact bit_ne hn
    · cases h
  · split at h
    · split at h
      · next hn => cases h; exact num_ne hn
      · cases h
    · split at h
      · split at h
        · next hn => cases h; exact float_ne hn
        · cases h
      · split at h
        · next hn => cases h; exact text_ne (by decide) hn
        · split at h
          · cases h; decide
          · cases h
theorem many_ne {k : Int} {l : List UInt8} {e : Nat} (h : many k l = .error e) : e ≠ 0 := by
  unfold many at h
  split at h
  · exact bit_ne h
  · split at h
    · next hn => cases h; exact num_ne hn
    · split at h
      · cases h; decide
      · cases h
theorem rdN_ne {f : List UInt8 → Except Nat (V × Nat)} (hf : ∀ l e, f l = .error e → e ≠ 0) : ∀ (m : Nat) (l : List UInt8) (e : Nat), rdN f m l = .error e → e ≠ 0
  | 0, l, e, h => by rw [rdN] at h; cases h
  | m + 1, l, e, h => by
    rw [rdN] at h
    split at h
    · next hn => cases h; exact hf _ _ hn
    · split at h
      · next hn => cases h; exact rdN_ne hf m _ _ hn
      · cases h
theorem rdV_ne : ∀ (t : Ty) (d : Nat) (l : List UInt8) (e : Nat), Ty.check d t = 0 → rdV t l = .error e → e ≠ 0 := by
  intro t
  refine Ty.ind (P := fun t => ∀ (d : Nat) (l : List UInt8) (e : Nat), Ty.check d t = 0 → rdV t l = .error e → e ≠ 0) ?_ t
  intro k xs ih d l e ht h
  obtain ⟨hd, hk, htt⟩ := ty_open ht
  rw [rdV_mk] at h
  rcases htt with ⟨h67, rfl⟩ | ⟨h67, x, rfl, hx⟩
  · rw [if_pos (by omega)] at h
    exact scalar_ne h
  · rw [if_neg (by omega)] at h
    split at h
    · next hn => cases h; exact many_ne hn
    · split at h
      · next hn => cases h; exact rdN_ne (f := rdV x) (fun l e h => ih x (by simp) (d + 1) l e hx h) _ _ _ hn
      · cases h
theorem rdT_ne : ∀ (f : Nat) (l : List UInt8) (e : Nat), rdT f l = .error e → e ≠ 0
  | 0, l, e, h => by rw [rdT] at h; cases h; decide
  | f + 1, [], e, h => by rw [rdT] at h; cases h; decide
  | f + 1, c :: r, e, h => by
    rw [rdT] at h
    split at h
    · cases h; decide
    · split at h
      · cases h
      · split at h
        · next hn => cases h; exact rdT_ne f r _ hn
        · cases h
theorem rdC_ne {l : List Col} {b : List UInt8} {e : Nat} (h : rdC l b = .error e) : e ≠ 0 := by
  rw [rdC] at h
  split at h
  · next hn => cases h; exact num_ne hn
  · split at h
    · cases h; decide
    · split at h
      · next hn => cases h; exact text_ne (by decide) hn
      · split at h
        · cases h; decide
        · split at h
          · cases h; decide
          · split at h
            · next hn => cases h; exact rdT_ne _ _ _ hn
            · next t j2 ht =>
              split at h
              · next hn => cases h; exact bit_ne hn
              · split at h
                · cases h
                · split at h
                  · next hn => cases h; exact rdV_ne t 1 _ _ (rdT_ok 4 _ t j2 (Nat.le_refl 4) ht).2.2.1 hn
                  · cases h
theorem rdCs_ne : ∀ (m : Nat) (l : List Col) (b : List UInt8) (e : Nat), rdCs m l b = .error e → e ≠ 0
  | 0, l, b, e, h => by rw [rdCs] at h; cases h
  | m + 1, l, b, e, h => by
    rw [rdCs] at h
    split at h
    · next hn => cases h; exact rdC_ne hn
    · split at h
      · next hn => cases h; exact rdCs_ne m _ _ _ hn
      · cases h
theorem read_ne {b : List UInt8} {e : Nat} (h : read b = .error e) : e ≠ 0 := by
  rw [read] at h
  split at h
  · cases h; decide
  · split at h
    · next hn => cases h; exact num_ne hn
    · split at h
      · cases h; decide
      · split at h
        · cases h; decide
        · split at h
          · next hn => cases h; exact rdCs_ne _ _ _ _ hn
          · split at h
            · cases h
            · cases h; decide
end Sch
end Go.Proofs.Ytnlhpndjogjejaa

/- How columns and schemas lie in memory. -/
namespace Go.Proofs.Ytnlhpndjogjejaa
open Go.RowKit

/-- a column's nine cells -/
def cells9 (n : ByteArray) (k : Int) (tp : Option Addr) (tn tc : Nat) (h : Bool) (vk vi : Int) (vb : Nat) (vt : ByteArray) (vp : Option Addr) (vn vc : Nat) : Array Value := #[.string n, .int .i64 k, .slice tp tn tc, .bool h, .int .i64 vk, .int .i64 vi, .float .f64 vb, .string vt, .slice vp vn vc]
/-- so a column lies -/
structure CLies (w : World) (u : Array Value) (c : Col) : Prop where
  out : ∃ k tp tn tc vk vi vb vt vp vn vc, u = cells9 c.name k tp tn tc c.has vk vi vb vt vp vn vc ∧ TLies w (cells2 k tp tn tc) c.ty ∧ VLies w (cells5 vk vi vb vt vp vn vc) c.dflt
theorem CLies.on {w w' : World} {u : Array Value} {c : Col} (h : CLies w u c) (hb : Below w.heap.size w w') : CLies w' u c := by
  obtain ⟨k, tp, tn, tc, vk, vi, vb, vt, vp, vn, vc, h1, h2, h3⟩ := h.out
  exact ⟨k, tp, tn, tc, vk, vi, vb, vt, vp, vn, vc, h1, h2.on hb, h3.on hb⟩
/-- nine cells from a place on -/
def At9 (w : World) (blk o : Nat) (n : ByteArray) (k : Int) (tp : Option Addr) (tn tc : Nat) (h : Bool) (vk vi : Int) (vb : Nat) (vt : ByteArray) (vp : Option Addr) (vn vc : Nat) : Prop :=
  w.cell? ⟨blk, o, none⟩ = some (.string n) ∧ w.cell? ⟨blk, o + 1, none⟩ = some (.int .i64 k) ∧ w.cell? ⟨blk, o + 2, none⟩ = some (.slice tp tn tc) ∧ w.cell? ⟨blk, o + 3, none⟩ = some (.bool h) ∧ w.cell? ⟨blk, o + 4, none⟩ = some (.int .i64 vk) ∧ w.cell? ⟨blk, o + 5, none⟩ = some (.int .i64 vi) ∧ w.cell? ⟨blk, o + 6, none⟩ = some (.float .f64 vb) ∧ w.cell? ⟨blk, o + 7, none⟩ = some (.string vt) ∧ w.cell? ⟨blk, o + 8, none⟩ = some (.slice vp vn vc)
theorem At9.on {w w' : World} {blk o : Nat} {n : ByteArray} {k : Int} {tp : Option Addr} {tn tc : Nat} {h : Bool} {vk vi : Int} {vb : Nat} {vt : ByteArray} {vp : Option Addr} {vn vc : Nat} (hh : At9 w blk o n k tp tn tc h vk vi vb vt vp vn vc) (hb : Below w.heap.size w w') : At9 w' blk o n k tp tn tc h vk vi vb vt vp vn vc := by
  obtain ⟨h0, h1, h2, h3, h4, h5, h6, h7, h8⟩ := hh
  exact ⟨cell_on hb h0, cell_on hb h1, cell_on hb h2, cell_on hb h3, cell_on hb h4, cell_on hb h5, cell_on hb h6, cell_on hb h7, cell_on hb h8⟩
/-- one of a schema's columns: where it lies -/
structure ItemC (w : World) (p : Option Addr) (j : Nat) (u : Array Value) : Prop where
  lies : ∃ blk off n k tp tn tc h vk vi vb vt vp vn vc, p = some ⟨blk, off, none⟩ ∧ blk < w.heap.size ∧ u = cells9 n k tp tn tc h vk vi vb vt vp vn vc ∧ At9 w blk (off + j * 9) n k tp tn tc h vk vi vb vt vp vn vc
theorem ItemC.on {w w' : World} {p : Option Addr} {j : Nat} {u : Array Value} (h : ItemC w p j u) (hb : Below w.heap.size w w') : ItemC w' p j u := by
  obtain ⟨blk, off, n, k, tp, tn, tc, h, vk, vi, vb, vt, vp, vn, vc, h1, h2, h3, h4⟩ := h.lies
  exact ⟨blk, off, n, k, tp, tn, tc, h, vk, vi, vb, vt, vp, vn, vc, h1, by have := hb.size; omega, h3, h4.on hb⟩
/-- columns lie in a row -/
def Cols (w : World) (p : Option Addr) (s : List Col) : Prop := ∀ j (hj : j < s.length), ∃ u, CLies w u s[j] ∧ ItemC w p j u
theorem Cols.on {w w' : World} {p : Option Addr} {s : List Col} (h : Cols w p s) (hb : Below w.heap.size w w') : Cols w' p s := fun j hj => by
  obtain ⟨u, h1, h2⟩ := h j hj
  exact ⟨u, h1.on hb, h2.on hb⟩
theorem Cols.take {w : World} {p : Option Addr} {s : List Col} (h : Cols w p s) (n : Nat) : Cols w p (s.take n) := fun j hj => by
  have hj2 : j < s.length := by rw [List.length_take] at hj; omega
  obtain ⟨u, h1, h2⟩ := h j hj2
  exact ⟨u, by simpa using h1, h2⟩
/-- one of them, opened: its cells, its type, its default -/
theorem Cols.at {w : World} {p : Option Addr} {s : List Col} (h : Cols w p s) (j : Nat) (hj : j < s.length) : ∃ blk off k tp tn tc vk vi vb vt vp vn vc, p = some ⟨blk, off, none⟩ ∧ blk < w.heap.size ∧ At9 w blk (off + j * 9) s[j].name k tp tn tc s[j].has vk vi vb vt vp vn vc ∧ TLies w (cells2 k tp tn tc) s[j].ty ∧ VLies w (cells5 vk vi vb vt vp vn vc) s[j].dflt := by
  obtain ⟨u, h1, h2⟩ := h j hj
  obtain ⟨blk, off, n, k, tp, tn, tc, hs, vk, vi, vb, vt, vp, vn, vc, e1, e2, e3, e4⟩ := h2.lies
  obtain ⟨k', tp', tn', tc', vk', vi', vb', vt', vp', vn', vc', g1, g2, g3⟩ := h1.out
  rw [e3] at g1
  simp only [cells9] at g1
  injection g1 with g1
  injection g1 with q0 g1
  injection g1 with q1 g1
  injection g1 with q2 g1
  injection g1 with q3 g1
  injection g1 with q4 g1
  injection g1 with q5 g1
  injection g1 with q6 g1
  injection g1 with q7 g1
  injection g1 with q8 g1
  injection q0 with q0
  injection q1 with _ q1
  injection q2 with q2 q2a q2b
  injection q3 with q3
  injection q4 with _ q4
  injection q5 with _ q5
  injection q6 with _ q6
  injection q7 with q7
  injection q8 with q8 q8a q8b
  subst q0 q1 q2 q2a q2b q3 q4 q5 q6 q7 q8 q8a q8b
  exact ⟨blk, off, k, tp, tn, tc, vk, vi, vb, vt, vp, vn, vc, e1, e2, e4, g2, g3⟩
/-- a schema lies -/
structure SLies (w : World) (u : Array Value) (s : List Col) : Prop where
  out : ∃ p c, u = #[.slice p s.length c] ∧ s.length * 120 ≤ 140737488351232 ∧ s.length ≤ c ∧ Cols w p s
theorem SLies.on {w w' : World} {u : Array Value} {s : List Col} (h : SLies w u s) (hb : Below w.heap.size w w') : SLies w' u s := by
  obtain ⟨p, c, h1, h2, h3, h4⟩ := h.out
  exact ⟨p, c, h1, h2, h3, h4.on hb⟩
end Go.Proofs.Ytnlhpndjogjejaa

/- A type that lies in blocks of its own. -/
namespace Go.Proofs.Ytnlhpndjogjejaa
open Go.RowKit

/-- one step of how a type lies in the blocks of F, each of them named once, and each cell may be written: of its items P holds -/
structure TOwnS (w : World) (P : (Nat → Prop) → Array Value → Ty → Prop) (F : Nat → Prop) (g off c : Nat) (xs : List Ty) (us : Nat → Array Value) (Fs : Nat → Nat → Prop) : Prop where
  hl : xs.length * 32 ≤ 140737488351232
  hc : xs.length ≤ c
  h5 : ∀ j, j < xs.length → (us j).size = 2
  hp : g < w.heap.size ∧ ∀ j, j < xs.length → ∀ m, m < 2 → w.cell? ⟨g, off + j * 2 + m, none⟩ = (us j)[m]?
  hf : ∀ j, j < xs.length → ∀ m, m < 2 → w.frozen? ⟨g, off + j * 2 + m, none⟩ = false
  hg : F g
  hgs : ∀ j, j < xs.length → ¬ Fs j g
  hd : ∀ j n, j < xs.length → n < xs.length → j ≠ n → ∀ k, Fs j k → ¬ Fs n k
  hs : ∀ j, j < xs.length → ∀ k, Fs j k → F k
  hr : ∀ j (h : j < xs.length), P (Fs j) (us j) xs[j]
/-- so a type lies in blocks of its own -/
def TOwn (w : World) (F : Nat → Prop) (u : Array Value) (x : Ty) : Prop :=
  ∀ P : (Nat → Prop) → Array Value → Ty → Prop, (∀ F k p c, P F (cells2 k p 0 c) (.mk k [])) →
    (∀ F k g off c xs us Fs, TOwnS w P F g off c xs us Fs → P F (cells2 k (.some ⟨g, off, .none⟩) xs.length c) (.mk k xs)) → P F u x

section
variable {w w' : World} {F G : Nat → Prop} {u : Array Value} {x : Ty}
theorem TOwn.none {F : Nat → Prop} {k : Int} {p : Option Addr} {c : Nat} : TOwn w F (cells2 k p 0 c) (.mk k []) := fun _ h0 _ => h0 F k p c
theorem TOwn.some {F : Nat → Prop} {k : Int} {g off c : Nat} {xs : List Ty} (us : Nat → Array Value) (Fs : Nat → Nat → Prop) (hl : xs.length * 32 ≤ 140737488351232) (hc : xs.length ≤ c) (h5 : ∀ j, j < xs.length → (us j).size = 2)
      (hp : g < w.heap.size ∧ ∀ j, j < xs.length → ∀ m, m < 2 → w.cell? ⟨g, off + j * 2 + m, .none⟩ = (us j)[m]?)
      (hf : ∀ j, j < xs.length → ∀ m, m < 2 → w.frozen? ⟨g, off + j * 2 + m, .none⟩ = false)
      (hg : F g) (hgs : ∀ j, j < xs.length → ¬ Fs j g) (hd : ∀ j n, j < xs.length → n < xs.length → j ≠ n → ∀ k, Fs j k → ¬ Fs n k) (hs : ∀ j, j < xs.length → ∀ k, Fs j k → F k)
      (hr : ∀ j (h : j < xs.length), TOwn w (Fs j) (us j) xs[j]) : TOwn w F (cells2 k (.some ⟨g, off, .none⟩) xs.length c) (.mk k xs) :=
  fun P h0 h1 => h1 F k g off c xs us Fs ⟨hl, hc, h5, hp, hf, hg, hgs, hd, hs, fun j h => hr j h P h0 h1⟩
/-- which of the two it is -/
theorem TOwn.inv (h : TOwn w F u x) : (∃ k p c, u = cells2 k p 0 c ∧ x = .mk k []) ∨ ∃ k g off c xs us Fs, u = cells2 k (.some ⟨g, off, .none⟩) xs.length c ∧ x = .mk k xs ∧ TOwnS w (TOwn w) F g off c xs us Fs := by
  have := h (fun F u x => TOwn w F u x ∧ ((∃ k p c, u = cells2 k p 0 c ∧ x = .mk k []) ∨ ∃ k g off c xs us Fs, u = cells2 k (.some ⟨g, off, .none⟩) xs.length c ∧ x = .mk k xs ∧ TOwnS w (TOwn w) F g off c xs us Fs))
    (fun F k p c => ⟨.none, .inl ⟨k, p, c, rfl, rfl⟩⟩)
    (fun F k g off c xs us Fs s => ⟨.some us Fs s.hl s.hc s.h5 s.hp s.hf s.hg s.hgs s.hd s.hs (fun j h => (s.hr j h).1), .inr ⟨k, g, off, c, xs, us, Fs, rfl, rfl, s.hl, s.hc, s.h5, s.hp, s.hf, s.hg, s.hgs, s.hd, s.hs, fun j h => (s.hr j h).1⟩⟩)
  exact this.2
theorem TOwn.five (h : TOwn w F u x) : u.size = 2 := by
  rcases h.inv with ⟨_, _, _, rfl, _⟩ | ⟨_, _, _, _, _, _, _, rfl, _⟩ <;> rfl
theorem TOwn.shape (h : TOwn w F u x) : ∃ k p n c, u = cells2 k p n c := by
  rcases h.inv with ⟨_, _, _, rfl, _⟩ | ⟨_, _, _, _, _, _, _, rfl, _⟩ <;> exact ⟨_, _, _, _, rfl⟩
theorem TOwn.lies (h : TOwn w F u x) : TLies w u x :=
  h (fun _ u x => TLies w u x) (fun F k p c => TLies.mk (xs := []) (fun _ => #[]) (by simp) (by simp) (fun hc => absurd rfl hc) (fun j hj => by simp at hj))
    (fun F k g off c xs us Fs s => TLies.mk us s.hl s.hc (fun _ => ⟨_, _, rfl, s.hp.1, s.hp.2⟩) s.hr)
theorem TOwn.aside (h : TOwn w F u x) : ∀ {G : Nat → Prop} {w' : World}, Aside G w w' → (∀ k, F k → ¬ G k) → TOwn w' F u x := by
  intro G w' ha
  refine h (fun F u x => (∀ k, F k → ¬ G k) → TOwn w' F u x) ?_ ?_
  · intro F k p c _; exact .none
  · intro F k g off c xs us Fs s hd2
    refine .some us Fs s.hl s.hc s.h5 ⟨Nat.lt_of_lt_of_le s.hp.1 ha.size, fun j hj m hm => ?_⟩ (fun j hj m hm => ?_) s.hg s.hgs s.hd s.hs (fun j hj => s.hr j hj fun k hk => hd2 k (s.hs j hj k hk))
    · rw [ha.cell s.hp.1 (hd2 _ s.hg)]; exact s.hp.2 j hj m hm
    · rw [ha.frozen s.hp.1 (hd2 _ s.hg)]; exact s.hf j hj m hm
theorem TOwn.under {B : Nat} (h : TOwn w F u x) (hb : Below B w w') (hF : ∀ k, F k → k < B) : TOwn w' F u x :=
  h.aside (G := fun k => B ≤ k) (aside_of hb fun _ _ h => h) fun k hk hc => by have := hF k hk; omega
theorem TOwn.mono (h : TOwn w F u x) (hF : ∀ k, F k → G k) : TOwn w G u x := by
  rcases h.inv with ⟨k, p, c, rfl, rfl⟩ | ⟨k, g, off, c, xs, us, Fs, rfl, rfl, s⟩
  · exact .none
  · exact .some us Fs s.hl s.hc s.h5 s.hp s.hf (hF _ s.hg) s.hgs s.hd (fun j hj k hk => hF k (s.hs j hj k hk)) s.hr
end


/-- of one type, in a block of one's own -/
theorem TOwn.one {w : World} {F G : Nat → Prop} {k : Int} {g : Nat} {u : Array Value} {x : Ty} {T : TypeId} (hg : w.heap[g]? = Option.some (.cells u T (0, 0))) (h : TOwn w F u x) (hF : ∀ k, F k → G k) (hgF : ¬ F g) (hGg : G g) : TOwn w G (cells2 k (.some ⟨g, 0, .none⟩) 1 1) (.mk k [x]) := by
  have hlt : g < w.heap.size := (Array.getElem?_eq_some_iff.1 hg).1
  refine TOwn.some (xs := [x]) (fun _ => u) (fun _ => F) (by simp) (by simp) (fun _ _ => h.five) ⟨hlt, fun j hj m hm => ?_⟩ (fun j hj m hm => ?_) hGg (fun _ _ => hgF) (fun j n hj hn hjn => ?_) (fun _ _ k hk => hF k hk) (fun j hj => ?_)
  · have hj0 : j = 0 := by simp at hj; omega
    subst hj0
    simp [World.cell?, hg]
  · simp [World.frozen?, hg]
  · simp at hj hn; omega
  · have hj0 : j = 0 := by simp at hj; omega
    subst hj0
    exact h
end Go.Proofs.Ytnlhpndjogjejaa

/- A column, and columns, that lie in blocks of their own. -/
namespace Go.Proofs.Ytnlhpndjogjejaa
open Go.RowKit

/-- so a column lies in blocks of its own -/
structure COwn (w : World) (F : Nat → Prop) (u : Array Value) (c : Col) : Prop where
  out : ∃ (F1 F2 : Nat → Prop) (k : Int) (tp : Option Addr) (tn tc : Nat) (vk vi : Int) (vb : Nat) (vt : ByteArray) (vp : Option Addr) (vn vc : Nat), u = cells9 c.name k tp tn tc c.has vk vi vb vt vp vn vc ∧ TOwn w F1 (cells2 k tp tn tc) c.ty ∧ VOwn w F2 (cells5 vk vi vb vt vp vn vc) c.dflt ∧ (∀ k, F1 k → F k) ∧ (∀ k, F2 k → F k) ∧ ∀ k, F1 k → ¬ F2 k
section
variable {w w' : World} {F G : Nat → Prop} {u : Array Value} {c : Col}
theorem COwn.nine (h : COwn w F u c) : u.size = 9 := by
  obtain ⟨_, _, _, _, _, _, _, _, _, _, _, _, _, rfl, _⟩ := h.out
  rfl
theorem COwn.lies (h : COwn w F u c) : CLies w u c := by
  obtain ⟨F1, F2, k, tp, tn, tc, vk, vi, vb, vt, vp, vn, vc, h1, h2, h3, _⟩ := h.out
  exact ⟨k, tp, tn, tc, vk, vi, vb, vt, vp, vn, vc, h1, h2.lies, h3.lies⟩
theorem COwn.aside (h : COwn w F u c) (ha : Aside G w w') (hd : ∀ k, F k → ¬ G k) : COwn w' F u c := by
  obtain ⟨F1, F2, k, tp, tn, tc, vk, vi, vb, vt, vp, vn, vc, h1, h2, h3, h4, h5, h6⟩ := h.out
  exact ⟨F1, F2, k, tp, tn, tc, vk, vi, vb, vt, vp, vn, vc, h1, h2.aside ha (fun k hk => hd k (h4 k hk)), h3.aside ha (fun k hk => hd k (h5 k hk)), h4, h5, h6⟩
theorem COwn.under {B : Nat} (h : COwn w F u c) (hb : Below B w w') (hF : ∀ k, F k → k < B) : COwn w' F u c :=
  h.aside (G := fun k => B ≤ k) (aside_of hb fun _ _ h => h) fun k hk hc => by have := hF k hk; omega
theorem COwn.mono (h : COwn w F u c) (hF : ∀ k, F k → G k) : COwn w G u c := by
  obtain ⟨F1, F2, k, tp, tn, tc, vk, vi, vb, vt, vp, vn, vc, h1, h2, h3, h4, h5, h6⟩ := h.out
  exact ⟨F1, F2, k, tp, tn, tc, vk, vi, vb, vt, vp, vn, vc, h1, h2, h3, fun k hk => hF k (h4 k hk), fun k hk => hF k (h5 k hk), h6⟩
theorem COwn.one9 (h : COwn w F u c) : ∀ a ∈ u.toList, a.oneCell' = true := by
  obtain ⟨_, _, _, _, _, _, _, _, _, _, _, _, _, rfl, _⟩ := h.out
  intro a ha
  simp [cells9] at ha
  rcases ha with rfl | rfl | rfl | rfl | rfl | rfl | rfl | rfl | rfl <;> rfl
end

theorem flat9_len (us : Nat → Array Value) : ∀ n, (∀ j, j < n → (us j).size = 9) → (flat us n).length = n * 9
  | 0, _ => by simp [flat]
  | n + 1, h => by
    rw [flat, List.length_append, flat9_len us n fun j hj => h j (by omega), Array.length_toList, h n (by omega)]; omega
theorem flat9_get (us : Nat → Array Value) : ∀ n, (∀ j, j < n → (us j).size = 9) → ∀ j, j < n → ∀ m, m < 9 → (flat us n)[j * 9 + m]? = (us j)[m]?
  | 0, _, j, hj, _, _ => by omega
  | n + 1, h, j, hj, m, hm => by
    have hl := flat9_len us n fun j hj => h j (by omega)
    rw [flat]
    rcases Nat.lt_or_ge j n with h1 | h1
    · rw [List.getElem?_append_left (by omega), flat9_get us n (fun j hj => h j (by omega)) j h1 m hm]
    · have hjn : j = n := by omega
      subst hjn
      rw [List.getElem?_append_right (by omega), hl, Nat.add_sub_cancel_left]
      simp

def zeroC : Value := .agg (cells9 ⟨#[]⟩ 0 none 0 0 false 0 0 0 ⟨#[]⟩ none 0 0)
theorem info48 : (Try.prog.info? 61).map (fun i => (i.zero, i.size, i.bytes)) = some (some zeroC, 9, 120) := by kernel_rfl
section
variable {B : Nat} {v : Value} {n : Nat} {us : Nat → Array Value} {w : World} {u : Array Value} {ad H : Nat}
/-- in the walk -/
theorem wp_moreC (hown : w.ownsRow B 61 9 v n (flat us n)) (h5 : u.size = 9) (h1 : ∀ a ∈ u.toList, a.oneCell' = true) (hblk : w.heap[ad]? = some (.cells u 61 (0, 0))) (hn : (n + 1) * 120 ≤ 140737488355328) (hB : B ≤ w.heap.size) (hH : w.heap.size = H)
    {ops : Array Oper} {rest : List Oper} {o : Oper} {a : Act} {Q : Exit → Act → World → Prop} {y x : Operand}
    (hg : o.guard = none) (hop : o.op = Op.call { callee := Callee.builtin Builtin.append, args := #[y, x], argTypes := #[22, 22] })
    (hs : a.eval y = v) (hx : a.eval x = .slice (some ⟨ad, 0, none⟩) 1 1)
    (hK : ∀ g cap w', w'.ownsRow B 61 9 (.slice (some ⟨g, 0, none⟩) (n + 1) cap) (n + 1) (flat us n ++ u.toList) → w.grownBy w' v.ownBlock → (v.ownBlock = some g ∨ g = H) → wpList Try.prog ops Q rest (a.put o.dst (.slice (some ⟨g, 0, none⟩) (n + 1) cap)) w') :
    wpList Try.prog ops Q (o :: rest) a w := by
  obtain ⟨i, hi, hz, hsz, hby⟩ := info_parts info48
  exact wpList_append_lies w hg y x 22 hop B 61 i zeroC 9 120 Try.underlying22 hi hz hsz hby rfl (by decide) v n (flat us n) hs hown ⟨ad, 0, none⟩ 1 1 u.toList hx (by simp [h5])
    (World.news_of_block hblk) h1 (by decide) (by unfold maxLen; omega) hn hB H hH fun g cap w' h2 h3 h4 _ => hK g cap w' h2 h3 h4
end

/-- columns that are built: they lie in a row of the call's own, and each in blocks of its own -/
structure CBuilt (w : World) (B : Nat) (v : Value) (n : Nat) (us : Nat → Array Value) (Fs : Nat → Nat → Prop) (ys : List Col) : Prop where
  len : ys.length = n
  nine : ∀ j, j < n → (us j).size = 9
  row : w.ownsRow B 61 9 v n (flat us n)
  own : ∀ j (h : j < ys.length), COwn w (Fs j) (us j) ys[j]
  apart : ∀ j m, j < n → m < n → j ≠ m → ∀ k, Fs j k → ¬ Fs m k
  beside : ∀ g, v.ownBlock = some g → ∀ j, j < n → ¬ Fs j g
  range : ∀ j, j < n → ∀ k, Fs j k → B ≤ k ∧ k < w.heap.size

theorem cbuilt_nil (w : World) (B : Nat) : CBuilt w B (.slice none 0 0) 0 (fun _ => #[]) (fun _ _ => False) [] :=
  ⟨rfl, fun j hj => by omega, World.ownsRow_nil _ _ _ _, fun j hj => by simp at hj, fun j m hj => by omega, fun g hg => by simp [Value.ownBlock] at hg, fun j hj => by omega⟩

section
variable {w w' : World} {B : Nat} {v : Value} {n : Nat} {us : Nat → Array Value} {Fs : Nat → Nat → Prop} {ys : List Col}
theorem CBuilt.aside {G : Nat → Prop} (h : CBuilt w B v n us Fs ys) (ha : Aside G w w') (h1 : ∀ g, v.ownBlock = some g → ¬ G g) (h2 : ∀ j, j < n → ∀ k, Fs j k → ¬ G k) : CBuilt w' B v n us Fs ys := by
  refine ⟨h.len, h.nine, ?_, fun j hj => (h.own j hj).aside ha (h2 j (by rw [← h.len]; exact hj)), h.apart, h.beside, fun j hj k hk => ⟨(h.range j hj k hk).1, Nat.lt_of_lt_of_le (h.range j hj k hk).2 ha.size⟩⟩
  refine ⟨h.row.1, ?_⟩
  rcases h.row.2 with h3 | ⟨g, cap, cur, rfl, h4, h5, h6⟩
  · exact .inl h3
  · exact .inr ⟨g, cap, cur, rfl, h4, by rw [ha.block g (Array.getElem?_eq_some_iff.1 h5).1 (h1 g rfl)]; exact h5, h6⟩
theorem CBuilt.lt (h : CBuilt w B v n us Fs ys) : ∀ g, v.ownBlock = some g → B ≤ g ∧ g < w.heap.size := World.ownsRow.lt h.row
theorem CBuilt.on (h : CBuilt w B v n us Fs ys) (hb : Below w.heap.size w w') : CBuilt w' B v n us Fs ys :=
  h.aside (aside_new hb (fun _ => False)) (fun _ _ hc => hc) (fun _ _ _ _ hc => hc)
theorem CBuilt.set (h : CBuilt w B v n us Fs ys) (p : Addr) (u : Value) (hp : p.block < B) : CBuilt (w.setCell p u) B v n us Fs ys :=
  h.aside (G := fun k => k = p.block) ((Aside.refl (fun k => k = p.block) w).setCell (p := p) (.inl rfl) u) (fun g hg hc => by have := (h.lt g hg).1; omega) (fun j hj k hk hc => by have := (h.range j hj k hk).1; omega)

/-- one more -/
theorem CBuilt.step {w2 w3 w4 : World} {u : Array Value} {F : Nat → Prop} {x : Col} {g cap : Nat} (h : CBuilt w B v n us Fs ys) (hb : Below w.heap.size w w2) (hx : COwn w2 F u x) (hF : ∀ k, F k → w.heap.size ≤ k ∧ k < w2.heap.size) (hb3 : Below w2.heap.size w2 w3) (hB : B ≤ w.heap.size)
    (hr : w4.ownsRow B 61 9 (.slice (some ⟨g, 0, none⟩) (n + 1) cap) (n + 1) (flat us n ++ u.toList)) (hg : w3.grownBy w4 v.ownBlock) (hn : v.ownBlock = some g ∨ g = w3.heap.size) :
    CBuilt w4 B (.slice (some ⟨g, 0, none⟩) (n + 1) cap) (n + 1) (fun j => if j = n then u else us j) (fun j => if j = n then F else Fs j) (ys ++ [x]) := by
  have hs := hb.size
  have hs3 := hb3.size
  have ha : Aside (fun k => v.ownBlock = some k) w2 w4 := by
    refine (aside_new hb3 _).trans (G := fun k => v.ownBlock = some k) ⟨hg.os, hg.tape, hg.output, hg.size, fun k hk hf => hg.block k hk (fun hc => hf hc.symm)⟩ (fun _ _ h => h)
  have hgF : ∀ k, F k → ¬ v.ownBlock = some k := fun k hk hc => by have := (h.lt k hc).2; have := (hF k hk).1; omega
  have hn1 : ∀ j, j < n + 1 → j ≠ n → j < n := fun j h1 h2 => by omega
  refine ⟨by rw [List.length_append, h.len]; rfl, fun j hj => ?_, ?_, fun j hj => ?_, fun j m hj hm hjm k hk => ?_, fun g' hg' j hj => ?_, fun j hj k hk => ?_⟩
  · split
    · exact hx.nine
    · exact h.nine j (by omega)
  · rw [flat, flat_congr _ us n (fun j hj => by simp [show ¬ j = n by omega])]
    simpa using hr
  · rw [List.length_append, h.len, List.length_singleton] at hj
    by_cases hjn : j = n
    · subst hjn
      rw [if_pos rfl, if_pos rfl, List.getElem_append_right (by rw [h.len]; exact Nat.le_refl _)]
      simp only [h.len, Nat.sub_self, List.getElem_singleton]
      exact hx.aside ha hgF
    · rw [if_neg hjn, if_neg hjn, List.getElem_append_left (by rw [h.len]; omega)]
      exact ((h.own j (by rw [h.len]; omega)).under hb (fun k hk => (h.range j (by omega) k hk).2)).aside ha (fun k hk hc => h.beside k hc j (by omega) hk)
  · by_cases hjn : j = n
    · rw [if_pos hjn] at hk
      rw [if_neg (by omega)]
      exact fun hc => by have := (h.range m (by omega) k hc).2; have := (hF k hk).1; omega
    · rw [if_neg hjn] at hk
      by_cases hmn : m = n
      · rw [if_pos hmn]
        exact fun hc => by have := (h.range j (by omega) k hk).2; have := (hF k hc).1; omega
      · rw [if_neg hmn]
        exact h.apart j m (by omega) (by omega) hjm k hk
  · simp only [Value.ownBlock, Option.some.injEq] at hg'
    subst hg'
    by_cases hjn : j = n
    · rw [if_pos hjn]
      intro hc
      have := hF _ hc
      rcases hn with hn | hn
      · exact hgF _ hc hn
      · omega
    · rw [if_neg hjn]
      intro hc
      rcases hn with hn | hn
      · exact h.beside _ hn j (by omega) hc
      · have := (h.range j (by omega) _ hc).2; omega
  · have h4 := ha.size
    by_cases hjn : j = n
    · rw [if_pos hjn] at hk
      have := hF k hk; omega
    · rw [if_neg hjn] at hk
      have := h.range j (by omega) k hk; omega


theorem CBuilt.low {B' : Nat} (h : CBuilt w B v n us Fs ys) (hB : B' ≤ B) : CBuilt w B' v n us Fs ys := by
  refine ⟨h.len, h.nine, ⟨h.row.1, ?_⟩, h.own, h.apart, h.beside, fun j hj k hk => ⟨Nat.le_trans hB (h.range j hj k hk).1, (h.range j hj k hk).2⟩⟩
  rcases h.row.2 with h3 | ⟨g, cap, cur, rfl, h4, h5⟩
  · exact .inl h3
  · exact .inr ⟨g, cap, cur, rfl, Nat.le_trans hB h4, h5⟩
/-- what is built lies in blocks of its own -/
structure SOwn (w : World) (B : Nat) (u : Array Value) (s : List Col) : Prop where
  out : ∃ v us Fs, u = #[v] ∧ CBuilt w B v s.length us Fs s ∧ s.length * 120 ≤ 140737488351232
theorem CBuilt.cols (h : CBuilt w B v n us Fs ys) (hl : n * 120 ≤ 140737488351232) : ∃ p c, v = .slice p n c ∧ n ≤ c ∧ Cols w p ys := by
  rcases h.row.2 with ⟨rfl, h0⟩ | ⟨g, cap, cur, rfl, h1, h2, h3, h4, h5, h6⟩
  · have hy : ys = [] := List.eq_nil_of_length_eq_zero (by rw [h.len]; exact h0)
    subst hy
    subst h0
    exact ⟨none, 0, rfl, Nat.le_refl _, fun j hj => by simp at hj⟩
  · refine ⟨_, cap, rfl, h3, fun j hj => ?_⟩
    have hg := (Array.getElem?_eq_some_iff.1 h2).1
    have hlen := h.len
    have hcell : ∀ q, q < n * 9 → w.cell? ⟨g, q, none⟩ = (flat us n)[q]? := fun q hq => by
      rw [← h6, List.getElem?_take_of_lt hq]
      simp [World.cell?, h2]
    have hj2 : j < n := by omega
    refine ⟨us j, (h.own j hj).lies, ?_⟩
    obtain ⟨F1, F2, k, tp, tn, tc, vk, vi, vb, vt, vp, vn, vc, e1, -⟩ := (h.own j hj).out
    have hc9 : ∀ m, m < 9 → w.cell? ⟨g, 0 + j * 9 + m, none⟩ = (us j)[m]? := fun m hm => by
      rw [Nat.zero_add, hcell _ (by omega), flat9_get us _ h.nine j hj2 m hm]
    rw [e1] at hc9
    refine ⟨g, 0, _, k, tp, tn, tc, _, vk, vi, vb, vt, vp, vn, vc, rfl, hg, e1, ?_⟩
    exact ⟨hc9 0 (by omega), hc9 1 (by omega), hc9 2 (by omega), hc9 3 (by omega), hc9 4 (by omega), hc9 5 (by omega), hc9 6 (by omega), hc9 7 (by omega), hc9 8 (by omega)⟩
theorem SOwn.lies {u : Array Value} {s : List Col} (h : SOwn w B u s) : SLies w u s := by
  obtain ⟨v, us, Fs, rfl, hb, hl⟩ := h.out
  obtain ⟨p, c, rfl, hc, hcols⟩ := hb.cols hl
  exact ⟨p, c, rfl, hl, hc, hcols⟩
end
end Go.Proofs.Ytnlhpndjogjejaa

/- The document's typeAt, CheckType. -/
namespace Go.Proofs.Ytnlhpndjogjejaa
open Go.RowKit

set_option maxRecDepth 100000 in
set_option maxHeartbeats 1000000 in
theorem refTypeAt7 : ∀ (x : Ty) (d : Nat) (w : World) (u : Array Value), d ≤ 5 → TLies w u x → Calls Try.prog 67 #[.agg u, .int .i64 d] w fun e w' => e = .returned (.int .i64 (Ty.check d x : Nat)) ∧ Below w.heap.size w w' := by
  intro x
  refine Ty.ind (P := fun x => ∀ (d : Nat) (w : World) (u : Array Value), d ≤ 5 → TLies w u x → Calls Try.prog 67 #[.agg u, .int .i64 d] w fun e w' => e = .returned (.int .i64 (Ty.check d x : Nat)) ∧ Below w.heap.size w w') ?_ x
  rintro k xs ih d w u hd hx
  obtain ⟨p, c, rfl, hxl, hxc, hxi⟩ := hx.open
  unfold cells2
  have hB1 : Below w.heap.size w (w.alloc (.cells #[.int .i64 k, .slice p xs.length c] 43)) := (Below.refl _ _).alloc (Nat.le_refl _) _
  have HB1 := Lib.hid hB1
  clear hB1 hx
  obtain ⟨R, hR⟩ : ∃ R, R = Ty.check d (.mk k xs) := ⟨_, rfl⟩
  have HCk := Lib.hid (hR.trans (Ty.check_mk d k xs))
  rw [← hR]
  clear hR
  by_cases h1 : 4 < d
  · have g1 : (4 : Int) < (d : Int) := by omega
    have HR : Hid (R = 62) := by show _ = _; rw [HCk.out, if_pos h1]
    clear ih hxi HCk
    go_enter Try.func67, Try.ntmps67
    go_wp2
    go_ret
    exact ⟨by rw [HR.out]; rfl, HB1.out⟩
  have g1 : ¬ (4 : Int) < (d : Int) := by omega
  by_cases h2 : k < 1 ∨ 7 < k
  · have e6 : (k == 6) = false := by simp; omega
    have e7 : (k == 7) = false := by simp; omega
    have HR : Hid (R = 60) := by show _ = _; rw [HCk.out, if_neg h1, if_pos (by omega)]
    clear ih hxi HCk
    rcases h2 with h2 | h2
    · go_enter Try.func67, Try.ntmps67
      go_wp2
      go_ret
      exact ⟨by rw [HR.out]; rfl, HB1.out⟩
    · have h3 : ¬ k < 1 := by omega
      go_enter Try.func67, Try.ntmps67
      go_wp2
      go_ret
      exact ⟨by rw [HR.out]; rfl, HB1.out⟩
  have h3 : ¬ k < 1 := by omega
  have h4 : ¬ 7 < k := by omega
  by_cases h67 : k = 6 ∨ k = 7
  · have hw : Ty.want k = 1 := by unfold Ty.want; rw [if_pos h67]
    by_cases hl1 : xs.length = 1
    · have gl : ((xs.length : Int) != 1) = false := bne_f (by omega)
      have HX : Hid (∀ j (hj : j < xs.length), ∃ u', TLies w u' xs[j] ∧ ItemT w p j u') := hxi
      have HIH := Lib.hid ih
      obtain ⟨ux, hvx, hix⟩ := HX.out 0 (by omega)
      obtain ⟨bx, ox, kx, qx, nx, cx, rfl, _, rfl, a0, a1⟩ := (hix.on HB1.out).lies
      rw [Nat.zero_mul, Nat.add_zero] at a0 a1
      have hR1 : R = Ty.check (d + 1) (xs[0]'(by omega)) := by
        obtain ⟨y, rfl⟩ := List.length_eq_one_iff.1 hl1
        rw [HCk.out]
        have := Ty.check_one d k y h1 (by omega) hw
        rw [Ty.check_mk] at this
        exact this
      have HC := Lib.hid (HIH.out _ (List.getElem_mem (by omega : 0 < xs.length)) (d + 1) _ _ (by omega) (hvx.on HB1.out))
      rw [← hR1] at HC
      unfold cells2 at HC
      have hl0 : (0 : Int) < (xs.length : Int) := by omega
      clear hR1 HX HIH hvx hix HCk ih hxi hw hl1
      rcases h67 with h6 | h6
      all_goals
        first
          | have e6 : (k == 6) = true := beq_t h6
          | (have e6 : (k == 6) = false := beq_f (by omega)
             have e7 : (k == 7) = true := beq_t h6)
        clear h6
        go_enter Try.func67, Try.ntmps67
        go_wp2_with fail
        refine HC.out.mono ?_
        rintro e w2 ⟨rfl, hb2⟩
        have HB2 := Lib.hid (HB1.out.trans (hb2.mono HB1.out.size))
        clear hb2
        go_wp2
        go_ret
        exact ⟨rfl, HB2.out⟩
    · have gl : ((xs.length : Int) != 1) = true := bne_t (by omega)
      have HR : Hid (R = 60) := by show _ = _; rw [HCk.out, if_neg h1, if_pos (by omega)]
      clear ih hxi HCk hw
      rcases h67 with h6 | h6
      all_goals
        first
          | have e6 : (k == 6) = true := beq_t h6
          | (have e6 : (k == 6) = false := beq_f (by omega)
             have e7 : (k == 7) = true := beq_t h6)
        clear h6
        go_enter Try.func67, Try.ntmps67
        go_wp2
        go_ret
        exact ⟨by rw [HR.out]; rfl, HB1.out⟩
  · have hw : Ty.want k = 0 := by unfold Ty.want; rw [if_neg h67]
    have e6 : (k == 6) = false := beq_f (by omega)
    have e7 : (k == 7) = false := beq_f (by omega)
    by_cases hl0 : xs.length = 0
    · have gl : ((xs.length : Int) != 0) = false := bne_f (by omega)
      have HR : Hid (R = 0) := by
        show _ = _
        have hx0 : xs = [] := List.eq_nil_of_length_eq_zero hl0
        subst hx0
        rw [HCk.out]
        have := Ty.check_leaf d k h1 (by omega) hw
        rw [Ty.check_mk] at this
        exact this
      clear ih hxi HCk hw hl0
      go_enter Try.func67, Try.ntmps67
      go_wp2
      go_ret
      exact ⟨by rw [HR.out]; rfl, HB1.out⟩
    · have gl : ((xs.length : Int) != 0) = true := bne_t (by omega)
      have HR : Hid (R = 60) := by show _ = _; rw [HCk.out, if_neg h1, if_pos (by omega)]
      clear ih hxi HCk hw hl0
      go_enter Try.func67, Try.ntmps67
      go_wp2
      go_ret
      exact ⟨by rw [HR.out]; rfl, HB1.out⟩

set_option maxHeartbeats 400000 in
theorem refCheckType7 (x : Ty) (w : World) (u : Array Value) (h : TLies w u x) : Calls Try.prog 42 #[.agg u] w fun e w' => e = .returned (.int .i64 (Ty.check 1 x : Nat)) ∧ Below w.heap.size w w' := by
  obtain ⟨k, xs⟩ := x
  obtain ⟨p, c, rfl, -⟩ := h.open
  have hB1 : Below w.heap.size w (w.alloc (.cells (cells2 k p xs.length c) 43)) := (Below.refl _ _).alloc (Nat.le_refl _) _
  have HB1 := Lib.hid hB1
  have HC := Lib.hid (refTypeAt7 _ 1 _ _ (by omega) (h.on hB1))
  clear hB1 h
  obtain ⟨R, hR⟩ : ∃ R, R = Ty.check 1 (.mk k xs) := ⟨_, rfl⟩
  rw [← hR] at HC ⊢
  clear hR
  unfold cells2 at HC HB1 ⊢
  go_enter Try.func42, Try.ntmps42
  go_wp2_with fail
  refine HC.out.mono ?_
  rintro e w2 ⟨rfl, hb2⟩
  have HB2 := Lib.hid (HB1.out.trans (hb2.mono HB1.out.size))
  clear hb2
  go_wp2
  go_ret
  exact ⟨rfl, HB2.out⟩

end Go.Proofs.Ytnlhpndjogjejaa

/- The document's Name. -/
namespace Go.Proofs.Ytnlhpndjogjejaa
open Go.RowKit

theorem headD_get {l : List UInt8} (h : 0 < l.length) : l.headD 0 = l[0] := by
  cases l with
  | nil => simp at h
  | cons a r => rfl
theorem name_short {t : ByteArray} (h : t.size < 1 ∨ 16 < t.size) : Sch.name t = false := by
  have hs : t.data.toList.length = t.size := by rw [Array.length_toList]; rfl
  unfold Sch.name Sch.nameL
  rw [decide_eq_false (by omega)]
  rfl
theorem name_head {t : ByteArray} (h : 0 < t.size) (hc : Sch.low t[0] = false) : Sch.name t = false := by
  have hs : t.data.toList.length = t.size := by rw [Array.length_toList]; rfl
  unfold Sch.name Sch.nameL
  have e : t.data.toList.headD 0 = t[0] := by
    rw [← text_get t 0 h]
    exact headD_get (by omega)
  rw [e, hc, Bool.and_false, Bool.false_and]
theorem name_bad {t : ByteArray} (j : Nat) (h : j < t.size) (hc : Sch.ch t[j] = false) : Sch.name t = false := by
  have hs : t.data.toList.length = t.size := by rw [Array.length_toList]; rfl
  unfold Sch.name Sch.nameL
  have : t.data.toList.all Sch.ch = false := by
    rw [List.all_eq_false]
    refine ⟨t[j], ?_, by simp [hc]⟩
    rw [← text_get t j h]
    exact List.getElem_mem _
  rw [this, Bool.and_false]
theorem name_good {t : ByteArray} (h1 : 1 ≤ t.size) (h2 : t.size ≤ 16) (h3 : Sch.low (t[0]'(by omega)) = true) (h4 : ∀ j (h : j < t.size), Sch.ch t[j] = true) : Sch.name t = true := by
  have hs : t.data.toList.length = t.size := by rw [Array.length_toList]; rfl
  unfold Sch.name Sch.nameL
  have e : t.data.toList.headD 0 = t[0]'(by omega) := by
    rw [← text_get t 0 (by omega)]
    exact headD_get (by omega)
  have : t.data.toList.all Sch.ch = true := by
    rw [List.all_eq_true]
    intro x hx
    obtain ⟨j, hj, rfl⟩ := List.getElem_of_mem hx
    rw [text_get t j (by omega)]
    exact h4 j (by omega)
  rw [e, h3, this, decide_eq_true (by omega)]
  rfl

end Go.Proofs.Ytnlhpndjogjejaa

/- The document's Find. -/
namespace Go.Proofs.Ytnlhpndjogjejaa
open Go.RowKit

/-- what Find tells -/
def foundV (r : Option Nat) : Value := match r with
  | some k => .tuple #[.int .i64 k, .bool true]
  | none => .tuple #[.int .i64 0, .bool false]
theorem find_ge (n : ByteArray) : ∀ (s : List Col) (k j : Nat), Sch.find n s k = some j → k ≤ j
  | [], _, _, h => by simp [Sch.find] at h
  | c :: r, k, j, h => by
    rw [Sch.find] at h
    split at h
    · injection h; omega
    · have := find_ge n r (k + 1) j h; omega
theorem find_drop (n : ByteArray) (s : List Col) (j : Nat) (hj : j < s.length) : Sch.find n (s.drop j) j = if s[j].name = n then some j else Sch.find n (s.drop (j + 1)) (j + 1) := by
  rw [List.drop_eq_getElem_cons hj, Sch.find]

set_option maxRecDepth 100000 in
set_option maxHeartbeats 400000 in
theorem refFind7 (s : List Col) (t : ByteArray) (p : Option Addr) (c : Nat) (w : World) (hs : s.length * 120 ≤ 140737488351232) (hx : Cols w p s) : Calls Try.prog 18 #[.agg #[.slice p s.length c], .string t] w fun e w' => e = .returned (foundV (Sch.find t s 0)) ∧ Below w.heap.size w w' := by
  have HX := Lib.hid hx
  clear hx
  obtain ⟨W0, hW0⟩ : ∃ W0, W0 = w.alloc (.cells #[.slice p s.length c] 24) := ⟨_, rfl⟩
  have HB0 : Hid (Below w.heap.size w W0) := by rw [hW0]; exact (Below.refl _ _).alloc (Nat.le_refl _) _
  have y0 : W0.cell? ⟨w.heap.size, 0, none⟩ = some (.slice p s.length c) := by rw [hW0]; simp
  have HW0 := Lib.hid hW0
  obtain ⟨R, hR⟩ : ∃ R, R = Sch.find t s 0 := ⟨_, rfl⟩
  have HR := Lib.hid hR
  rw [← hR]
  clear hW0 hR
  go_enter Try.func18, Try.ntmps18
  go_wp2_with fail
  rw [← HW0.out]
  go_loopw [6] (fun v6 wr => ∃ j : Nat, j ≤ s.length ∧ v6 = .int .i64 j ∧ wr = W0 ∧ Hid (R = Sch.find t (s.drop j) j)) (fun v6 _ => s.length - (intOf v6).toNat)
  case atStart => exact ⟨0, by omega, rfl, rfl, HR.out⟩
  case round =>
    obtain ⟨j, hj, rfl, rfl, HF⟩ := hrel
    by_cases hlt : j < s.length
    · obtain ⟨bx, ox, k, tp, tn, tc, vk, vi, vb, vt, vp, vn, vc, rfl, _, h9, -⟩ := (HX.out.on HB0.out).at j hlt
      have a0 := h9.1
      have hj1 : (j : Int) < (s.length : Int) := by omega
      have HD := Lib.hid (HF.out.trans (find_drop t s j hlt))
      by_cases hn : s[j].name = t
      · have g : (s[j].name.toList == t.toList) = true := by rw [text_eq, decide_eq_true hn]
        have HE : Hid (foundV R = .tuple #[.int .i64 j, .bool true]) := by show _ = _; rw [HD.out, if_pos hn]; rfl
        generalize s[j].name = nm at *
        clear HF HD h9 hn
        go_wp2
        go_ret2
        exact ⟨by rw [HE.out]; rfl, HB0.out⟩
      · have g : (s[j].name.toList == t.toList) = false := by rw [text_eq, decide_eq_false hn]
        have HE : Hid (R = Sch.find t (s.drop (j + 1)) (j + 1)) := by show _ = _; rw [HD.out, if_neg hn]
        generalize s[j].name = nm at *
        clear HF HD h9 hn
        go_wp2
        go_roundw
        case rel => exact ⟨j + 1, by omega, by go_num, trivial, HE⟩
        case measure => simp [intOf]; omega
    · have hjn : ¬ (j : Int) < (s.length : Int) := by omega
      have HE : Hid (foundV R = .tuple #[.int .i64 0, .bool false]) := by show _ = _; rw [HF.out, List.drop_eq_nil_of_le (by omega)]; rfl
      clear HF
      go_wp2
      go_ret2
      exact ⟨by rw [HE.out]; rfl, HB0.out⟩
end Go.Proofs.Ytnlhpndjogjejaa

/- The document's of, Is. -/
namespace Go.Proofs.Ytnlhpndjogjejaa
open Go.RowKit

set_option maxRecDepth 100000 in
set_option maxHeartbeats 1000000 in
theorem refOf7 : ∀ (x : V) (y : Ty) (d : Nat) (w : World) (u v : Array Value), chk d x = 0 → Ty.check d y = 0 → VLies w u x → TLies w v y → Calls Try.prog 44 #[.agg u, .agg v] w fun e w' => e = .returned (.bool (Sch.of x y)) ∧ Below w.heap.size w w' := by
  intro x
  refine V.ind (P := fun x => ∀ (y : Ty) (d : Nat) (w : World) (u v : Array Value), chk d x = 0 → Ty.check d y = 0 → VLies w u x → TLies w v y → Calls Try.prog 44 #[.agg u, .agg v] w fun e w' => e = .returned (.bool (Sch.of x y)) ∧ Below w.heap.size w w') ?_ x
  rintro k i b t xs ih ⟨k', ys⟩ d w u v hc hd hx hy
  obtain ⟨p, c, rfl, hxl, hxc, hxi⟩ := hx.open
  obtain ⟨q, e, rfl, hyl, hyc, hyi⟩ := hy.open
  unfold cells5 cells2
  obtain ⟨W0, hW0⟩ : ∃ W0, W0 = (w.alloc (.cells #[.int .i64 k, .int .i64 i, .float .f64 b, .string t, .slice p xs.length c] 46)).alloc (.cells #[.int .i64 k', .slice q ys.length e] 43) := ⟨_, rfl⟩
  have HB0 : Hid (Below w.heap.size w W0) := by rw [hW0]; exact ((Below.refl _ _).alloc (Nat.le_refl _) _).alloc (by simp) _
  have HY : Hid (W0.cell? ⟨w.heap.size, 4, none⟩ = some (.slice p xs.length c) ∧ W0.cell? ⟨w.heap.size + 1, 1, none⟩ = some (.slice q ys.length e)) := by rw [hW0]; exact ⟨by simp, by simp⟩
  have HW0 := Lib.hid hW0
  clear hW0 hx hy
  by_cases h1 : ¬ k = k'
  · have g1 := bne_t h1
    have HE : Hid (Sch.of (.mk k i b t xs) (.mk k' ys) = false) := by show _ = _; rw [Sch.of_mk, beq_f h1, Bool.false_and]
    clear ih hxi hyi h1 hc hd
    go_enter Try.func44, Try.ntmps44
    go_wp2
    rw [← HW0.out]
    go_ret
    exact ⟨by rw [HE.out]; rfl, HB0.out⟩
  replace h1 : k = k' := Classical.not_not.1 h1
  have g1 := bne_f h1
  have HE : Hid (Sch.of (.mk k i b t xs) (.mk k' ys) = xs.all (fun x => Sch.of x (Sch.inner (.mk k' ys)))) := by show _ = _; rw [Sch.of_mk, beq_t h1, Bool.true_and]
  obtain ⟨hd4, hcs, hct⟩ := Sch.ty_open hd
  obtain ⟨-, ho, -, hn, -, hcx⟩ := Sch.chk_open hc
  obtain ⟨-, -, -, -, o5, -⟩ := Sch.own_open ho
  have HX : Hid (Items w p xs) := hxi
  have HIH := Lib.hid ih
  -- what the type is of, where there are items
  have HT : Hid (0 < xs.length → ∃ z, ys = [z] ∧ Ty.check (d + 1) z = 0 ∧ Sch.inner (.mk k' ys) = z ∧ ∃ u', TLies w u' z ∧ ItemT w q 0 u') := by
    intro hp
    rcases hct with ⟨h6, -⟩ | ⟨h6, z, rfl, hz⟩
    · omega
    · obtain ⟨u', hu1, hu2⟩ := hyi 0 (by simp)
      exact ⟨z, rfl, hz, rfl, u', hu1, hu2⟩
  have HCX := Lib.hid hcx
  clear ih hxi hyi hc hd hct hcs h1 hcx ho o5
  go_enter Try.func44, Try.ntmps44
  go_wp2_with fail
  rw [← HW0.out]
  clear HW0
  go_loopw [5, 6] (fun v5 _ wr => ∃ j : Nat, j ≤ xs.length ∧ v5 = .int .i64 j ∧ Hid (Below W0.heap.size W0 wr ∧ ∀ m (h1 : m < xs.length), m < j → Sch.of xs[m] (Sch.inner (.mk k' ys)) = true)) (fun v5 _ _ => xs.length - (intOf v5).toNat)
  case atStart => exact ⟨0, by omega, rfl, Below.refl _ _, fun m _ h => by omega⟩
  case round =>
    obtain ⟨j, hj, rfl, HL⟩ := hrel
    have hbw : Below w.heap.size w wr := HB0.out.trans (HL.out.1.mono HB0.out.size)
    have y1 : wr.cell? ⟨w.heap.size, 4, none⟩ = some (.slice p xs.length c) := cell_on HL.out.1 HY.out.1
    have y2 : wr.cell? ⟨w.heap.size + 1, 1, none⟩ = some (.slice q ys.length e) := cell_on HL.out.1 HY.out.2
    by_cases hlt : j < xs.length
    · obtain ⟨ux, hvx, hix⟩ := HX.out j hlt
      obtain ⟨z, hys, hz, hin, uy, hvy, hiy⟩ := HT.out (by omega)
      obtain ⟨bx, ox, kx, ix, fx, tx, qx, nx, cx, rfl, _, rfl, a0, a1, a2, a3, a4⟩ := (hix.on hbw).lies
      obtain ⟨by', oy, ky, qy, ny, cy, rfl, _, rfl, b0, b1⟩ := (hiy.on hbw).lies
      rw [Nat.zero_mul, Nat.add_zero] at b0 b1
      have hl1 : ys.length = 1 := by rw [hys]; rfl
      rw [hl1] at y2
      have HC : Hid (∀ w', Below w.heap.size w w' → Calls Try.prog 44 #[.agg #[.int .i64 kx, .int .i64 ix, .float .f64 fx, .string tx, .slice qx nx cx], .agg #[.int .i64 ky, .slice qy ny cy]] w' fun e w'' => e = .returned (.bool (Sch.of xs[j] (Sch.inner (.mk k' ys)))) ∧ Below w'.heap.size w' w'') := fun w' hb => by
        rw [hin]
        exact HIH.out _ (List.getElem_mem hlt) z (d + 1) w' _ _ (HCX.out _ (List.getElem_mem hlt)) hz (hvx.on hb) (hvy.on hb)
      have HBw := Lib.hid hbw
      have HBW := Lib.hid HL.out.1
      have HAll := Lib.hid HL.out.2
      have hj1 : (j : Int) < (xs.length : Int) := by omega
      obtain ⟨r, hr⟩ : ∃ r, r = Sch.of xs[j] (Sch.inner (.mk k' ys)) := ⟨_, rfl⟩
      rw [← hr] at HC
      have HRr := Lib.hid hr
      clear hvx hvy hix hiy hbw HL hr hin hz hys hl1
      go_wp2_with fail
      go_region_held3 (fun w' => w'.cell? ⟨bx, ox + j * 5, none⟩ = some (.int .i64 kx) ∧ w'.cell? ⟨bx, ox + j * 5 + 1, none⟩ = some (.int .i64 ix) ∧ w'.cell? ⟨bx, ox + j * 5 + 2, none⟩ = some (.float .f64 fx) ∧ w'.cell? ⟨bx, ox + j * 5 + 3, none⟩ = some (.string tx) ∧ w'.cell? ⟨bx, ox + j * 5 + 4, none⟩ = some (.slice qx nx cx) ∧ w'.cell? ⟨by', oy, none⟩ = some (.int .i64 ky) ∧ w'.cell? ⟨by', oy + 1, none⟩ = some (.slice qy ny cy) ∧ w'.cell? ⟨w.heap.size, 4, none⟩ = some (.slice (some ⟨bx, ox, none⟩) xs.length c) ∧ w'.cell? ⟨w.heap.size + 1, 1, none⟩ = some (.slice (some ⟨by', oy, none⟩) 1 e)) (go_keep) (first
        | (go_at_call 44; refine (HC.out _ (below_drewN HBw.out _)).mono ?_; rintro e w4 ⟨rfl, hb4⟩; have hb5 := below_via (w := wr) hb4 (by rfl) (by rfl) (by rfl) (by rfl); have z3 := cell_on hb5 a0; have z4 := cell_on hb5 a1; have z5 := cell_on hb5 a2; have z6 := cell_on hb5 a3; have z7 := cell_on hb5 a4; have z8 := cell_on hb5 b0; have z9 := cell_on hb5 b1; have z10 := cell_on hb5 y1; have z11 := cell_on hb5 y2; have HB4 := Lib.hid hb5; clear hb4 hb5))
      clear z3 z4 z5 z6 z7 z8 z9 z10 z11 a0 a1 a2 a3 a4 b0 b1 y1 y2
      cases r with
      | true =>
        have HN : Hid (Below W0.heap.size W0 w4 ∧ ∀ m (h1 : m < xs.length), m < j + 1 → Sch.of xs[m] (Sch.inner (.mk k' ys)) = true) := by
          refine ⟨HBW.out.trans (HB4.out.mono HBW.out.size), fun m h1 hm => ?_⟩
          by_cases hmj : m = j
          · subst hmj; exact HRr.out.symm
          · exact HAll.out m h1 (by omega)
        clear HB4 HAll HC
        go_wp2
        go_roundw
        case rel => exact ⟨j + 1, by omega, by go_num, HN⟩
        case measure => simp [intOf]; omega
      | false =>
        have HF0 : Hid (xs.all (fun x => Sch.of x (Sch.inner (.mk k' ys))) = false) := by
          show _ = _
          rw [List.all_eq_false]
          exact ⟨xs[j], List.getElem_mem hlt, by rw [← HRr.out]; decide⟩
        have HF := Lib.hid (HBw.out.trans (HB4.out.mono HBw.out.size))
        clear HB4 HAll HC
        go_wp2
        go_ret
        exact ⟨by rw [HE.out, HF0.out]; rfl, HF.out⟩
    · have HF0 : Hid (xs.all (fun x => Sch.of x (Sch.inner (.mk k' ys))) = true) := by
        show _ = _
        rw [List.all_eq_true]
        intro x hx
        obtain ⟨m, hm, rfl⟩ := List.getElem_of_mem hx
        exact HL.out.2 m hm (by omega)
      have HF := Lib.hid hbw
      have hjn : ¬ (j : Int) < (xs.length : Int) := by omega
      clear HL hbw hlt
      go_wp2
      go_ret
      exact ⟨by rw [HE.out, HF0.out]; rfl, HF.out⟩

set_option maxRecDepth 100000 in
set_option maxHeartbeats 1000000 in
theorem refIs7 (x : V) (y : Ty) (w : World) (u v : Array Value) (hx : VLies w u x) (hy : TLies w v y) : Calls Try.prog 19 #[.agg u, .agg v] w fun e w' => e = .returned (.bool (Sch.is x y)) ∧ Below w.heap.size w w' := by
  obtain ⟨k, i, b, t, xs⟩ := x
  obtain ⟨k', ys⟩ := y
  obtain ⟨p, c, rfl, -⟩ := hx.open
  obtain ⟨q, e, rfl, -⟩ := hy.open
  obtain ⟨W0, hW0⟩ : ∃ W0, W0 = (w.alloc (.cells (cells5 k i b t p xs.length c) 46)).alloc (.cells (cells2 k' q ys.length e) 43) := ⟨_, rfl⟩
  have HB0 : Hid (Below w.heap.size w W0) := by rw [hW0]; exact ((Below.refl _ _).alloc (Nat.le_refl _) _).alloc (by simp) _
  have HX := Lib.hid (hx.on HB0.out)
  have HTy := Lib.hid (hy.on HB0.out)
  have HCt := Lib.hid (fun w' (hb : Below W0.heap.size W0 w') => refCheckType7 _ w' _ (HTy.out.on hb))
  have HCv := Lib.hid (fun w' (hb : Below W0.heap.size W0 w') => refCheck6 _ w' _ (HX.out.on hb))
  have HI : Hid (Sch.is (.mk k i b t xs) (.mk k' ys) = (decide (Ty.check 1 (.mk k' ys) = 0) && decide (chk 1 (.mk k i b t xs) = 0) && Sch.of (.mk k i b t xs) (.mk k' ys))) := rfl
  have HOf := Lib.hid (fun w' (hb : Below W0.heap.size W0 w') h1 h2 => refOf7 _ _ 1 w' _ _ h1 h2 (HX.out.on hb) (HTy.out.on hb))
  have HY : Hid (W0.cell? ⟨w.heap.size, 0, none⟩ = some (.int .i64 k) ∧ W0.cell? ⟨w.heap.size, 1, none⟩ = some (.int .i64 i) ∧ W0.cell? ⟨w.heap.size, 2, none⟩ = some (.float .f64 b) ∧ W0.cell? ⟨w.heap.size, 3, none⟩ = some (.string t) ∧ W0.cell? ⟨w.heap.size, 4, none⟩ = some (.slice p xs.length c) ∧ W0.cell? ⟨w.heap.size + 1, 0, none⟩ = some (.int .i64 k') ∧ W0.cell? ⟨w.heap.size + 1, 1, none⟩ = some (.slice q ys.length e)) := by rw [hW0]; exact ⟨by simp [cells5], by simp [cells5], by simp [cells5], by simp [cells5], by simp [cells5], by simp [cells2], by simp [cells2]⟩
  have HW0 := Lib.hid hW0
  obtain ⟨R, hR⟩ : ∃ R, R = Sch.is (.mk k i b t xs) (.mk k' ys) := ⟨_, rfl⟩
  rw [← hR] at HI ⊢
  obtain ⟨ct, hct⟩ : ∃ ct, ct = Ty.check 1 (.mk k' ys) := ⟨_, rfl⟩
  have HCT := Lib.hid hct
  rw [← hct] at HCt HI HOf
  obtain ⟨cv, hcv⟩ : ∃ cv, cv = chk 1 (.mk k i b t xs) := ⟨_, rfl⟩
  have HCV := Lib.hid hcv
  rw [← hcv] at HCv HI HOf
  obtain ⟨co, hco⟩ : ∃ co, co = Sch.of (.mk k i b t xs) (.mk k' ys) := ⟨_, rfl⟩
  rw [← hco] at HI HOf
  clear hW0 hx hy hR hct hcv hco HX HTy
  unfold cells5 cells2 at *
  go_enter Try.func19, Try.ntmps19
  go_wp2_with fail
  rw [← HW0.out]
  clear HW0
  refine (HCt.out _ (Below.refl _ _)).mono ?_
  rintro e w1 ⟨rfl, hb1⟩
  obtain ⟨y0, y1, y2, y3, y4, y5, y6⟩ := HY.out
  have c0 := cell_on hb1 y0
  have c1 := cell_on hb1 y1
  have c2 := cell_on hb1 y2
  have c3 := cell_on hb1 y3
  have c4 := cell_on hb1 y4
  have HB1 := Lib.hid hb1
  clear y0 y1 y2 y3 y4 y5 y6 hb1
  go_wp2_with fail
  refine (HCv.out w1 HB1.out).mono ?_
  rintro e w2 ⟨rfl, hb2⟩
  have HB2 := Lib.hid (HB1.out.trans (hb2.mono HB1.out.size))
  have HBw := Lib.hid (HB0.out.trans (HB2.out.mono HB0.out.size))
  clear hb2 HB1 c0 c1 c2 c3 c4
  by_cases h1 : ct = 0
  · have g1 : ((ct : Int) == 0) = true := beq_t (by omega)
    by_cases h2 : cv = 0
    · have g2 : ((cv : Int) == 0) = true := beq_t (by omega)
      obtain ⟨y0, y1, y2, y3, y4, y5, y6⟩ := HY.out
      have c0 := cell_on HB2.out y0
      have c1 := cell_on HB2.out y1
      have c2 := cell_on HB2.out y2
      have c3 := cell_on HB2.out y3
      have c4 := cell_on HB2.out y4
      have c5 := cell_on HB2.out y5
      have c6 := cell_on HB2.out y6
      have HRc : Hid (R = co) := by show _ = _; rw [HI.out, decide_eq_true h1, decide_eq_true h2]; rfl
      have HCo := Lib.hid (HOf.out w2 HB2.out h2 h1)
      clear y0 y1 y2 y3 y4 y5 y6 h1 h2 HI HOf HY HCT HCV
      go_wp2_with fail
      refine HCo.out.mono ?_
      rintro e w3 ⟨rfl, hb3⟩
      have HB3 := Lib.hid (HBw.out.trans (hb3.mono HBw.out.size))
      clear hb3 c0 c1 c2 c3 c4 c5 c6
      go_wp2
      go_ret
      exact ⟨by rw [HRc.out]; rfl, HB3.out⟩
    · have g2 : ((cv : Int) == 0) = false := beq_f (by omega)
      have HRc : Hid (R = false) := by show _ = _; rw [HI.out, decide_eq_false h2, Bool.and_false, Bool.false_and]
      clear h1 h2 HI HOf
      go_wp2
      go_ret
      exact ⟨by rw [HRc.out]; rfl, HBw.out⟩
  · have g1 : ((ct : Int) == 0) = false := beq_f (by omega)
    have HRc : Hid (R = false) := by show _ = _; rw [HI.out, decide_eq_false h1, Bool.false_and, Bool.false_and]
    clear h1 HI HOf
    go_wp2
    go_ret
    exact ⟨by rw [HRc.out]; rfl, HBw.out⟩
end Go.Proofs.Ytnlhpndjogjejaa

/- Plain: when two schemas are the same, column by column. -/
namespace Go.Proofs.Ytnlhpndjogjejaa

theorem sameS_ne : ∀ (s t : List Col), s.length ≠ t.length → Sch.same s t = false
  | [], [], h => absurd rfl h
  | [], _ :: _, _ => rfl
  | _ :: _, [], _ => rfl
  | c :: s, d :: t, h => by rw [Sch.same, sameS_ne s t (by simpa using h), Bool.and_false]
theorem sameS_at : ∀ (s t : List Col) (j : Nat) (h1 : j < s.length) (h2 : j < t.length), Sch.colSame s[j] t[j] = false → Sch.same s t = false
  | c :: s, d :: t, 0, _, _, h => by rw [Sch.same]; simp at h; rw [h, Bool.false_and]
  | c :: s, d :: t, j + 1, h1, h2, h => by rw [Sch.same, sameS_at s t j (by simpa using h1) (by simpa using h2) (by simpa using h), Bool.and_false]
theorem sameS_all : ∀ (s t : List Col), s.length = t.length → (∀ j (h1 : j < s.length) (h2 : j < t.length), Sch.colSame s[j] t[j] = true) → Sch.same s t = true
  | [], [], _, _ => rfl
  | [], _ :: _, h, _ => by simp at h
  | _ :: _, [], h, _ => by simp at h
  | c :: s, d :: t, h, ha => by
    rw [Sch.same, sameS_all s t (by simpa using h) (fun j h1 h2 => by have := ha (j + 1) (by simpa using h1) (by simpa using h2); simpa using this)]
    have := ha 0 (by simp) (by simp)
    simp at this
    rw [this]; rfl

end Go.Proofs.Ytnlhpndjogjejaa

/- In this stage nothing is asked of package leb by the laws themselves: the plain facts on its numbers come from here. -/

/- In this stage nothing is asked of package value by the laws themselves. -/
