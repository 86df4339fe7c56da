/- WSpoil7, WSpoil8: put together. -/
import Derived.Test.YtnjggejallnkoabM13
import Derived.Test.YtnjggejallnkoabM06
import Derived.Test.YtnjggejallnkoabM05

/- The law's own spoil(s): all of a schema that lies in blocks of its own is written over; nothing else changes. -/
namespace Go.Proofs.Ytnjggejallnkoab
open Go.RowKit

attribute [local go_sem] run_store_float

/-- cells that are there and may be written -/
def Soft (w : World) (g off n : Nat) : Prop := ∀ m, m < n → (∃ v, w.cell? ⟨g, off + m, none⟩ = some v) ∧ w.frozen? ⟨g, off + m, none⟩ = false
theorem Soft.set {w : World} {g off n : Nat} (h : Soft w g off n) (i : Nat) (u : Value) : Soft (w.setCell ⟨g, off + i, none⟩ u) g off n := fun m hm => by
  obtain ⟨⟨v, h1⟩, h2⟩ := h m hm
  refine ⟨?_, by rw [World.frozen?_setCell]; exact h2⟩
  by_cases e : i = m
  · subst e
    exact ⟨u, World.cell?_setCell_same (h := h1) ..⟩
  · exact ⟨v, by rw [World.cell?_setCell_other (h := by intro hc; injection hc; omega)]; exact h1⟩
theorem Soft.aside {w w' : World} {g off n : Nat} {G : Nat → Prop} (h : Soft w g off n) (ha : Aside G w w') (hg : g < w.heap.size) (hG : ¬ G g) : Soft w' g off n := fun m hm => by
  rw [ha.cell (p := ⟨g, off + m, none⟩) hg hG, ha.frozen (p := ⟨g, off + m, none⟩) hg hG]
  exact h m hm
/-- a slice's items, k cells each, in a block of F -/
def SoftP (w : World) (F : Nat → Prop) (p : Option Addr) (n k : Nat) : Prop := n = 0 ∨ ∃ g off, p = some ⟨g, off, none⟩ ∧ F g ∧ g < w.heap.size ∧ Soft w g off (n * k)
theorem SoftP.aside {w w' : World} {F G : Nat → Prop} {p : Option Addr} {n k : Nat} (h : SoftP w F p n k) (ha : Aside G w w') (hG : ∀ i, F i → ¬ G i) : SoftP w' F p n k := by
  rcases h with h | ⟨g, off, h1, h2, h3, h4⟩
  · exact .inl h
  · exact .inr ⟨g, off, h1, h2, Nat.lt_of_lt_of_le h3 ha.size, h4.aside ha h3 (hG g h2)⟩
theorem TOwn.soft {w : World} {F : Nat → Prop} {k : Int} {p : Option Addr} {n c : Nat} {t : Ty} (h : TOwn w F (cells2 k p n c) t) : SoftP w F p n 2 := by
  rcases h.inv with ⟨k0, p0, c0, hu, -⟩ | ⟨k0, g, off, c0, xs, us, Fs, hu, -, s⟩
  · simp only [cells2] at hu
    injection hu with hu
    injection hu with _ hu
    injection hu with hu _
    injection hu with _ hu _
    exact .inl hu
  · simp only [cells2] at hu
    injection hu with hu
    injection hu with _ hu
    injection hu with hu _
    injection hu with h1 h2 _
    subst h1 h2
    refine .inr ⟨g, off, rfl, s.hg, s.hp.1, fun m hm => ?_⟩
    have hj : m / 2 < xs.length := by omega
    have e : off + m = off + m / 2 * 2 + m % 2 := by omega
    rw [e]
    refine ⟨?_, s.hf (m / 2) hj (m % 2) (by omega)⟩
    rw [s.hp.2 (m / 2) hj (m % 2) (by omega)]
    exact ⟨_, Array.getElem?_eq_getElem (by rw [s.h5 _ hj]; omega)⟩
theorem VOwn.soft {w : World} {F : Nat → Prop} {k i : Int} {b : Nat} {t : ByteArray} {p : Option Addr} {n c : Nat} {x : V} (h : VOwn w F (cells5 k i b t p n c) x) : SoftP w F p n 5 := by
  rcases h.inv with ⟨k0, i0, b0, t0, p0, c0, hu, -⟩ | ⟨k0, i0, b0, t0, g, off, c0, xs, us, Fs, hu, -, s⟩
  · simp only [cells5] at hu
    injection hu with hu
    injection hu with _ hu
    injection hu with _ hu
    injection hu with _ hu
    injection hu with _ hu
    injection hu with hu _
    injection hu with _ hu _
    exact .inl hu
  · simp only [cells5] at hu
    injection hu with hu
    injection hu with _ hu
    injection hu with _ hu
    injection hu with _ hu
    injection hu with _ hu
    injection hu with hu _
    injection hu with h1 h2 _
    subst h1 h2
    refine .inr ⟨g, off, rfl, s.hg, s.hp.1, fun m hm => ?_⟩
    have hj : m / 5 < xs.length := by omega
    have e : off + m = off + m / 5 * 5 + m % 5 := by omega
    rw [e]
    refine ⟨?_, s.hf (m / 5) hj (m % 5) (by omega)⟩
    rw [s.hp.2 (m / 5) hj (m % 5) (by omega)]
    exact ⟨_, Array.getElem?_eq_getElem (by rw [s.h5 _ hj]; omega)⟩

theorem TOwn.few {w : World} {F : Nat → Prop} {k : Int} {p : Option Addr} {n c : Nat} {t : Ty} (h : TOwn w F (cells2 k p n c) t) : (n : Int) ≤ 140737488351232 := by
  obtain ⟨k0, xs⟩ := t
  obtain ⟨p0, c0, hu, hl, -⟩ := h.lies.open
  simp only [cells2] at hu
  injection hu with hu
  injection hu with _ hu
  injection hu with hu _
  injection hu with _ hu _
  omega
theorem VOwn.few {w : World} {F : Nat → Prop} {k i : Int} {b : Nat} {t : ByteArray} {p : Option Addr} {n c : Nat} {x : V} (h : VOwn w F (cells5 k i b t p n c) x) : (n : Int) ≤ 140737488351232 := by
  obtain ⟨k0, i0, b0, t0, xs⟩ := x
  obtain ⟨p0, c0, hu, hl, -⟩ := h.lies.open
  simp only [cells5] at hu
  injection hu with hu
  injection hu with _ hu
  injection hu with _ hu
  injection hu with _ hu
  injection hu with _ hu
  injection hu with hu _
  injection hu with _ hu _
  omega

/-- a schema in blocks of its own, all of them between B and Z -/
structure SOwnZ (w : World) (B Z : Nat) (u : Array Value) (s : List Col) : Prop where
  out : (s = [] ∧ ∃ p c, u = #[.slice p 0 c]) ∨ ∃ (g off cap : Nat) (us : Nat → Array Value) (Fs : Nat → Nat → Prop), u = #[.slice (some ⟨g, off, none⟩) s.length cap] ∧ (B ≤ g ∧ g < Z) ∧ (∀ n, n < s.length → ∀ m, m < 9 → w.cell? ⟨g, off + n * 9 + m, none⟩ = (us n)[m]?) ∧ (∀ m, w.frozen? ⟨g, m, none⟩ = false) ∧
    (∀ n (h : n < s.length), COwn w (Fs n) (us n) s[n]) ∧ (∀ n m, n < s.length → m < s.length → n ≠ m → ∀ k, Fs n k → ¬ Fs m k) ∧ (∀ n, n < s.length → ¬ Fs n g) ∧ ∀ n, n < s.length → ∀ k, Fs n k → B ≤ k ∧ k < Z
  low : B ≤ Z
  high : Z ≤ w.heap.size
theorem SOwn.z {w : World} {B : Nat} {u : Array Value} {s : List Col} (h : SOwn w B u s) (hB : B ≤ w.heap.size) : SOwnZ w B w.heap.size u s := by
  obtain ⟨v, us, Fs, rfl, hb, hl⟩ := h.out
  refine ⟨?_, hB, Nat.le_refl _⟩
  rcases hb.row.2 with ⟨rfl, h0⟩ | ⟨g, cap, cur, rfl, h1, h2, h3, h4, h5, h6⟩
  · refine .inl ⟨List.eq_nil_of_length_eq_zero h0, none, 0, rfl⟩
  · have hg := (Array.getElem?_eq_some_iff.1 h2).1
    refine .inr ⟨g, 0, cap, us, Fs, rfl, ⟨h1, hg⟩, fun n hn m hm => ?_, fun m => by simp [World.frozen?, h2], fun n hn => hb.own n hn, fun n m h1 h2 h3 => hb.apart n m h1 h2 h3, fun n hn => hb.beside g rfl n hn, fun n hn k hk => hb.range n hn k hk⟩
    rw [Nat.zero_add, ← flat9_get us _ hb.nine n hn m hm, ← h6, List.getElem?_take_of_lt (by omega)]
    simp [World.cell?, h2]
theorem SOwnZ.aside {w w' : World} {B Z : Nat} {u : Array Value} {s : List Col} {G : Nat → Prop} (h : SOwnZ w B Z u s) (ha : Aside G w w') (hG : ∀ k, B ≤ k → k < Z → ¬ G k) : SOwnZ w' B Z u s := by
  have hz := h.high
  refine ⟨?_, h.low, Nat.le_trans hz ha.size⟩
  rcases h.out with h1 | ⟨g, off, cap, us, Fs, h1, h2, h3, h4, h5, h6, h7, h8⟩
  · exact .inl h1
  · refine .inr ⟨g, off, cap, us, Fs, h1, h2, fun n hn m hm => ?_, fun m => ?_, fun n hn => (h5 n hn).aside ha (fun k hk => hG k (h8 n hn k hk).1 (h8 n hn k hk).2), h6, h7, h8⟩
    · rw [ha.cell (p := ⟨g, off + n * 9 + m, none⟩) (show g < w.heap.size by omega) (hG g h2.1 h2.2)]; exact h3 n hn m hm
    · rw [ha.frozen (p := ⟨g, m, none⟩) (show g < w.heap.size by omega) (hG g h2.1 h2.2)]; exact h4 m
/-- nine cells in the midst of a block are written: the other cells stay -/
def set9 (w : World) (g o : Nat) : World := ((((((((w.setCell ⟨g, o, none⟩ (.string ⟨#[64]⟩)).setCell ⟨g, o + 1, none⟩ (.int .i64 0)).setCell ⟨g, o + 2, none⟩ (.slice none 0 0)).setCell ⟨g, o + 3, none⟩ (.bool false)).setCell ⟨g, o + 4, none⟩ (.int .i64 0)).setCell ⟨g, o + 5, none⟩ (.int .i64 0)).setCell ⟨g, o + 6, none⟩ (.float .f64 0)).setCell ⟨g, o + 7, none⟩ (.string ⟨#[]⟩)).setCell ⟨g, o + 8, none⟩ (.slice none 0 0)
theorem set9_cell {w : World} {g o m : Nat} (h : m < o ∨ o + 9 ≤ m) : (set9 w g o).cell? ⟨g, m, none⟩ = w.cell? ⟨g, m, none⟩ := by
  unfold set9
  rw [World.cell?_setCell_other (h := by intro hc; injection hc; omega), World.cell?_setCell_other (h := by intro hc; injection hc; omega), World.cell?_setCell_other (h := by intro hc; injection hc; omega), World.cell?_setCell_other (h := by intro hc; injection hc; omega), World.cell?_setCell_other (h := by intro hc; injection hc; omega), World.cell?_setCell_other (h := by intro hc; injection hc; omega), World.cell?_setCell_other (h := by intro hc; injection hc; omega), World.cell?_setCell_other (h := by intro hc; injection hc; omega), World.cell?_setCell_other (h := by intro hc; injection hc; omega)]
theorem set9_frozen (w : World) (g o : Nat) (p : Addr) : (set9 w g o).frozen? p = w.frozen? p := by
  unfold set9
  rw [World.frozen?_setCell, World.frozen?_setCell, World.frozen?_setCell, World.frozen?_setCell, World.frozen?_setCell, World.frozen?_setCell, World.frozen?_setCell, World.frozen?_setCell, World.frozen?_setCell]
theorem set_aside (w : World) (g m : Nat) (u : Value) : Aside (fun k => k = g) w (w.setCell ⟨g, m, none⟩ u) := (Aside.refl (fun k => k = g) w).setCell (p := ⟨g, m, none⟩) (.inl rfl) u
theorem set9_aside (w : World) (g o : Nat) : Aside (fun k => k = g) w (set9 w g o) := by
  unfold set9
  have h0 := set_aside w g o (.string ⟨#[64]⟩)
  have h1 := h0.trans (set_aside _ g (o + 1) (.int .i64 0)) (fun _ _ h => h)
  have h2 := h1.trans (set_aside _ g (o + 2) (.slice none 0 0)) (fun _ _ h => h)
  have h3 := h2.trans (set_aside _ g (o + 3) (.bool false)) (fun _ _ h => h)
  have h4 := h3.trans (set_aside _ g (o + 4) (.int .i64 0)) (fun _ _ h => h)
  have h5 := h4.trans (set_aside _ g (o + 5) (.int .i64 0)) (fun _ _ h => h)
  have h6 := h5.trans (set_aside _ g (o + 6) (.float .f64 0)) (fun _ _ h => h)
  have h7 := h6.trans (set_aside _ g (o + 7) (.string ⟨#[]⟩)) (fun _ _ h => h)
  exact h7.trans (set_aside _ g (o + 8) (.slice none 0 0)) (fun _ _ h => h)
end Go.Proofs.Ytnjggejallnkoab

/- The law's own spoil(s). -/
namespace Go.Proofs.Ytnjggejallnkoab
open Go.RowKit

attribute [local go_sem] run_store_float

set_option maxRecDepth 100000 in
set_option maxHeartbeats 4000000 in
theorem spoil7 (s : List Col) (w : World) (B Z : Nat) (u : Array Value) (h : SOwnZ w B Z u s) (hsl : s.length ≤ 16) : Calls Try.prog 15 #[.agg u] w fun e w' => e = .returned (.tuple #[]) ∧ Aside (fun k => B ≤ k ∧ k < Z) w w' := by
  have hZ := h.high
  rcases h.out with ⟨rfl, p, c, rfl⟩ | ⟨g, off, cap, us, Fs, rfl, ⟨hg1, hg2⟩, h3, h4, h5, h6, h7, h8⟩
  · have HA : Hid (Aside (fun k => B ≤ k ∧ k < Z) w (w.alloc (.cells #[.slice p 0 c] 24))) := (Aside.refl _ _).alloc _
    clear h
    go_enter Try.func15, Try.ntmps15
    go_wp2
    go_loopw [2] (fun v2 wr => v2 = .int .i64 0 ∧ wr = w.alloc (.cells #[.slice p 0 c] 24)) (fun _ _ => 0)
    case atStart => exact ⟨rfl, rfl⟩
    case round =>
      obtain ⟨rfl, rfl⟩ := hrel
      go_wp2
      go_end0
      exact ⟨rfl, HA.out⟩
  have HS : Hid ((∀ n m, n < s.length → m < s.length → n ≠ m → ∀ k, Fs n k → ¬ Fs m k) ∧ (∀ n, n < s.length → ¬ Fs n g) ∧ ∀ n, n < s.length → ∀ k, Fs n k → B ≤ k ∧ k < Z) := ⟨h6, h7, h8⟩
  have HA0 : Hid (Aside (fun k => B ≤ k ∧ k < Z) w (w.alloc (.cells #[.slice (some ⟨g, off, none⟩) s.length cap] 24))) := (Aside.refl _ _).alloc _
  have HAn : Hid (Aside (fun _ => False) w (w.alloc (.cells #[.slice (some ⟨g, off, none⟩) s.length cap] 24))) := (Aside.refl _ _).alloc _
  have H3 := Lib.hid h3
  have H4 := Lib.hid h4
  have H5 := Lib.hid h5
  clear h h3 h4 h5 h6 h7 h8
  go_enter Try.func15, Try.ntmps15
  go_wp2
  go_loopw [2] (fun v2 wr => ∃ i : Nat, i ≤ s.length ∧ v2 = .int .i64 i ∧ Hid (wr.heap[w.heap.size]? = some (.cells #[.slice (some ⟨g, off, none⟩) s.length cap] 24 (0, 0)) ∧ Aside (fun k => B ≤ k ∧ k < Z) w wr ∧ (∀ n, n < s.length → i ≤ n → ∀ m, m < 9 → wr.cell? ⟨g, off + n * 9 + m, none⟩ = (us n)[m]?) ∧ (∀ m, wr.frozen? ⟨g, m, none⟩ = false) ∧ ∀ n (h : n < s.length), i ≤ n → COwn wr (Fs n) (us n) s[n])) (fun v2 _ => s.length - (intOf v2).toNat)
  case atStart =>
    refine ⟨0, by omega, rfl, blk_new w _, HA0.out, fun n hn _ m hm => ?_, fun m => ?_, fun n hn _ => ?_⟩
    · rw [HAn.out.cell (p := ⟨g, off + n * 9 + m, none⟩) (show g < w.heap.size by omega) (fun h => h)]; exact H3.out n hn m hm
    · rw [HAn.out.frozen (p := ⟨g, m, none⟩) (show g < w.heap.size by omega) (fun h => h)]; exact H4.out m
    · exact (H5.out n hn).aside HAn.out (fun _ _ h => h)
  case round =>
    obtain ⟨i, hi, rfl, HL⟩ := hrel
    have c0 : wr.cell? ⟨w.heap.size, 0, none⟩ = some (.slice (some ⟨g, off, none⟩) s.length cap) := blk_cell HL.out.1 0
    by_cases hlt : i < s.length
    · have hj1 : (i : Int) < (s.length : Int) := by omega
      obtain ⟨F1, F2, k, tp, tn, tc, vk, vi, vb, vt, vp, vn, vc, hu, hT, hV, hs1, hs2, hdis⟩ := (HL.out.2.2.2.2 i hlt (Nat.le_refl _)).out
      have hcs := HL.out.2.2.1 i hlt (Nat.le_refl _)
      rw [hu] at hcs
      obtain ⟨nm, hnm⟩ : ∃ n, n = s[i].name := ⟨_, rfl⟩
      obtain ⟨hh, hhh⟩ : ∃ n, n = s[i].has := ⟨_, rfl⟩
      rw [← hnm, ← hhh] at hcs
      have a0 : wr.cell? ⟨g, off + i * 9, none⟩ = some (.string nm) := hcs 0 (by omega)
      have a1 : wr.cell? ⟨g, off + i * 9 + 1, none⟩ = some (.int .i64 k) := hcs 1 (by omega)
      have a2 : wr.cell? ⟨g, off + i * 9 + 2, none⟩ = some (.slice tp tn tc) := hcs 2 (by omega)
      have a3 : wr.cell? ⟨g, off + i * 9 + 3, none⟩ = some (.bool hh) := hcs 3 (by omega)
      have a4 : wr.cell? ⟨g, off + i * 9 + 4, none⟩ = some (.int .i64 vk) := hcs 4 (by omega)
      have a5 : wr.cell? ⟨g, off + i * 9 + 5, none⟩ = some (.int .i64 vi) := hcs 5 (by omega)
      have a6 : wr.cell? ⟨g, off + i * 9 + 6, none⟩ = some (.float .f64 vb) := hcs 6 (by omega)
      have a7 : wr.cell? ⟨g, off + i * 9 + 7, none⟩ = some (.string vt) := hcs 7 (by omega)
      have a8 : wr.cell? ⟨g, off + i * 9 + 8, none⟩ = some (.slice vp vn vc) := hcs 8 (by omega)
      have hszr := HL.out.2.1.size
      obtain ⟨W, hW⟩ : ∃ W, W = wr.alloc (.cells #[.string nm, .int .i64 k, .slice tp tn tc, .bool hh, .int .i64 vk, .int .i64 vi, .float .f64 vb, .string vt, .slice vp vn vc] 48) := ⟨_, rfl⟩
      have HWa : Hid (Aside (fun _ => False) wr W) := by rw [hW]; exact (Aside.refl _ _).alloc _
      have HCb : Hid (W.heap[wr.heap.size]? = some (.cells #[.string nm, .int .i64 k, .slice tp tn tc, .bool hh, .int .i64 vk, .int .i64 vi, .float .f64 vb, .string vt, .slice vp vn vc] 48 (0, 0))) := by rw [hW]; exact blk_new wr _
      have htn := hT.few
      have hvn := hV.few
      have HSt : Hid (SoftP W F1 tp tn 2) := hT.soft.aside HWa.out (fun _ _ h => h)
      have HSv : Hid (SoftP W F2 vp vn 5) := hV.soft.aside HWa.out (fun _ _ h => h)
      have HF : Hid ((∀ j, F1 j → B ≤ j ∧ j < Z ∧ j ≠ g) ∧ (∀ j, F2 j → B ≤ j ∧ j < Z ∧ j ≠ g) ∧ (∀ j, F1 j → ¬ F2 j) ∧ (∀ j, F1 j → Fs i j) ∧ ∀ j, F2 j → Fs i j) := by
        refine ⟨fun j hj => ?_, fun j hj => ?_, hdis, hs1, hs2⟩
        · have := HS.out.2.2 i hlt j (hs1 j hj)
          exact ⟨this.1, this.2, fun he => HS.out.2.1 i hlt (he ▸ hs1 j hj)⟩
        · have := HS.out.2.2 i hlt j (hs2 j hj)
          exact ⟨this.1, this.2, fun he => HS.out.2.1 i hlt (he ▸ hs2 j hj)⟩
      have HAW : Hid (Aside (fun k => B ≤ k ∧ k < Z) w W) := HL.out.2.1.trans HWa.out (fun _ _ h => h.elim)
      have HBox : Hid (W.heap[w.heap.size]? = some (.cells #[.slice (some ⟨g, off, none⟩) s.length cap] 24 (0, 0))) := by
        show _ = _
        rw [HWa.out.block _ (blk_lt HL.out.1) (fun h => h)]
        exact HL.out.1
      have HRow : Hid ((∀ n, n < s.length → i ≤ n → ∀ m, m < 9 → W.cell? ⟨g, off + n * 9 + m, none⟩ = (us n)[m]?) ∧ (∀ m, W.frozen? ⟨g, m, none⟩ = false) ∧ ∀ n (h : n < s.length), i ≤ n → COwn W (Fs n) (us n) s[n]) := by
        refine ⟨fun n hn hin m hm => ?_, fun m => ?_, fun n hn hin => (HL.out.2.2.2.2 n hn hin).aside HWa.out (fun _ _ h => h)⟩
        · rw [HWa.out.cell (p := ⟨g, off + n * 9 + m, none⟩) (show g < wr.heap.size by omega) (fun h => h)]; exact HL.out.2.2.1 n hn hin m hm
        · rw [HWa.out.frozen (p := ⟨g, m, none⟩) (show g < wr.heap.size by omega) (fun h => h)]; exact HL.out.2.2.2.1 m
      obtain ⟨C, hC⟩ : ∃ C, C = wr.heap.size := ⟨_, rfl⟩
      rw [← hC] at HCb
      have hCW := blk_lt HCb.out
      have hwC : w.heap.size < C := by rw [hC]; exact blk_lt HL.out.1
      have HW := Lib.hid hW
      have HC := Lib.hid hC
      clear hT hV hs1 hs2 hdis hcs hu hnm hhh hW hC
      go_wp2_with fail
      rw [← HW.out, ← HC.out]
      clear HW HC a0 a1 a2 a3 a4 a5 a6 a7 a8 c0 HL HWa hszr
      go_loopw [4] (fun v4 wi => ∃ k' : Nat, k' ≤ tn ∧ v4 = .int .i64 k' ∧ Hid (Aside F1 W wi ∧ SoftP wi F1 tp tn 2)) (fun v4 _ => tn - (intOf v4).toNat)
      case atStart => exact ⟨0, by omega, rfl, Aside.refl _ _, HSt.out⟩
      case round =>
        obtain ⟨k', hk', rfl, HL1⟩ := hrel
        have e2 : wr.cell? ⟨C, 2, none⟩ = some (.slice tp tn tc) := by
          rw [HL1.out.1.cell (p := ⟨C, 2, none⟩) hCW (fun hc => by have := HF.out.1 C hc; omega)]
          exact blk_cell HCb.out 2
        by_cases hk1 : k' < tn
        · have hk2 : (k' : Int) < (tn : Int) := by omega
          rcases HL1.out.2 with h0 | ⟨gt, ot, rfl, hFg, hgl, hsoft⟩
          · omega
          · obtain ⟨⟨v0, x0⟩, f0⟩ := hsoft (k' * 2) (by omega)
            obtain ⟨⟨v1, x1⟩, f1⟩ := hsoft (k' * 2 + 1) (by omega)
            rw [← Nat.add_assoc] at x1 f1
            have HN : Hid (Aside F1 W ((wr.setCell ⟨gt, ot + k' * 2, none⟩ (.int .i64 77)).setCell ⟨gt, ot + k' * 2 + 1, none⟩ (.slice none 0 0)) ∧ SoftP ((wr.setCell ⟨gt, ot + k' * 2, none⟩ (.int .i64 77)).setCell ⟨gt, ot + k' * 2 + 1, none⟩ (.slice none 0 0)) F1 (some ⟨gt, ot, none⟩) tn 2) := by
              refine ⟨(HL1.out.1.trans (set_aside _ gt (ot + k' * 2) (.int .i64 77)) (fun j _ hj => by rw [hj]; exact hFg)).trans (set_aside _ gt (ot + k' * 2 + 1) (.slice none 0 0)) (fun j _ hj => by rw [hj]; exact hFg), .inr ⟨gt, ot, rfl, hFg, by simpa [World.setCell] using hgl, ?_⟩⟩
              have h1 := (hsoft.set (k' * 2) (.int .i64 77)).set (k' * 2 + 1) (.slice none 0 0)
              rw [← Nat.add_assoc] at h1
              exact h1
            clear hsoft HL1
            go_wp2
            go_roundw
            case rel => exact ⟨k' + 1, by omega, by go_num, HN.out⟩
            case measure => simp [intOf]; omega
        · have hk2 : ¬ (k' : Int) < (tn : Int) := by omega
          have HA1 := Lib.hid HL1.out.1
          obtain ⟨W1, hW1⟩ : ∃ W1, W1 = wr := ⟨_, rfl⟩
          have HSv1 : Hid (SoftP W1 F2 vp vn 5) := by rw [hW1]; exact HSv.out.aside HA1.out (fun j hj hc => HF.out.2.2.1 j hc hj)
          rw [← hW1] at HA1
          have HW1 := Lib.hid hW1
          clear HL1 hW1 hk1
          go_wp2_with fail
          rw [← HW1.out]
          clear HW1 e2
          go_loopw [5] (fun v5 wi => ∃ k' : Nat, k' ≤ vn ∧ v5 = .int .i64 k' ∧ Hid (Aside F2 W1 wi ∧ SoftP wi F2 vp vn 5)) (fun v5 _ => vn - (intOf v5).toNat)
          case atStart => exact ⟨0, by omega, rfl, Aside.refl _ _, HSv1.out⟩
          case round =>
            obtain ⟨j', hj', rfl, HL2⟩ := hrel
            have hC1 : C < W1.heap.size := Nat.lt_of_lt_of_le hCW HA1.out.size
            have e8 : wr.cell? ⟨C, 8, none⟩ = some (.slice vp vn vc) := by
              rw [HL2.out.1.cell (p := ⟨C, 8, none⟩) hC1 (fun hc => by have := HF.out.2.1 C hc; omega), HA1.out.cell (p := ⟨C, 8, none⟩) hCW (fun hc => by have := HF.out.1 C hc; omega)]
              exact blk_cell HCb.out 8
            by_cases hj1' : j' < vn
            · have hj2 : (j' : Int) < (vn : Int) := by omega
              rcases HL2.out.2 with h0 | ⟨gv, ov, rfl, hFg, hgl, hsoft⟩
              · omega
              · obtain ⟨⟨v0, x0⟩, f0⟩ := hsoft (j' * 5) (by omega)
                obtain ⟨⟨v1, x1⟩, f1⟩ := hsoft (j' * 5 + 1) (by omega)
                obtain ⟨⟨v2, x2⟩, f2⟩ := hsoft (j' * 5 + 2) (by omega)
                obtain ⟨⟨v3, x3⟩, f3⟩ := hsoft (j' * 5 + 3) (by omega)
                obtain ⟨⟨v4, x4⟩, f4⟩ := hsoft (j' * 5 + 4) (by omega)
                rw [← Nat.add_assoc] at x1 f1 x2 f2 x3 f3 x4 f4
                have HN : Hid (Aside F2 W1 (((((wr.setCell ⟨gv, ov + j' * 5, none⟩ (.int .i64 77)).setCell ⟨gv, ov + j' * 5 + 1, none⟩ (.int .i64 0)).setCell ⟨gv, ov + j' * 5 + 2, none⟩ (.float .f64 0)).setCell ⟨gv, ov + j' * 5 + 3, none⟩ (.string ⟨#[]⟩)).setCell ⟨gv, ov + j' * 5 + 4, none⟩ (.slice none 0 0)) ∧ SoftP (((((wr.setCell ⟨gv, ov + j' * 5, none⟩ (.int .i64 77)).setCell ⟨gv, ov + j' * 5 + 1, none⟩ (.int .i64 0)).setCell ⟨gv, ov + j' * 5 + 2, none⟩ (.float .f64 0)).setCell ⟨gv, ov + j' * 5 + 3, none⟩ (.string ⟨#[]⟩)).setCell ⟨gv, ov + j' * 5 + 4, none⟩ (.slice none 0 0)) F2 (some ⟨gv, ov, none⟩) vn 5) := by
                  refine ⟨(((((HL2.out.1.trans (set_aside _ gv (ov + j' * 5) (.int .i64 77)) (fun j _ hj => by rw [hj]; exact hFg)).trans (set_aside _ gv (ov + j' * 5 + 1) (.int .i64 0)) (fun j _ hj => by rw [hj]; exact hFg)).trans (set_aside _ gv (ov + j' * 5 + 2) (.float .f64 0)) (fun j _ hj => by rw [hj]; exact hFg)).trans (set_aside _ gv (ov + j' * 5 + 3) (.string ⟨#[]⟩)) (fun j _ hj => by rw [hj]; exact hFg)).trans (set_aside _ gv (ov + j' * 5 + 4) (.slice none 0 0)) (fun j _ hj => by rw [hj]; exact hFg)), .inr ⟨gv, ov, rfl, hFg, by simpa [World.setCell] using hgl, ?_⟩⟩
                  have h1 := (((((hsoft.set (j' * 5) (.int .i64 77)).set (j' * 5 + 1) (.int .i64 0)).set (j' * 5 + 2) (.float .f64 0)).set (j' * 5 + 3) (.string ⟨#[]⟩)).set (j' * 5 + 4) (.slice none 0 0))
                  simp only [← Nat.add_assoc] at h1
                  exact h1
                clear hsoft HL2
                go_wp2
                go_roundw
                case rel => exact ⟨j' + 1, by omega, by go_num, HN.out⟩
                case measure => simp [intOf]; omega
            · have hj2 : ¬ (j' : Int) < (vn : Int) := by omega
              have HA2 := Lib.hid HL2.out.1
              have HAx : Hid (Aside (Fs i) W wr) := (HA1.out.mono (fun j _ h => HF.out.2.2.2.1 j h)).trans HA2.out (fun j _ h => HF.out.2.2.2.2 j h)
              have hgW : g < W.heap.size := by omega
              have hFg : ¬ Fs i g := HS.out.2.1 i hlt
              have bx : wr.cell? ⟨w.heap.size, 0, none⟩ = some (.slice (some ⟨g, off, none⟩) s.length cap) := by
                rw [HAx.out.cell (p := ⟨w.heap.size, 0, none⟩) (show w.heap.size < W.heap.size by omega) (fun hc => by have := HS.out.2.2 i hlt w.heap.size hc; omega)]
                exact blk_cell HBox.out 0
              have hfz : ∀ m, wr.frozen? ⟨g, m, none⟩ = false := fun m => by rw [HAx.out.frozen (p := ⟨g, m, none⟩) hgW hFg]; exact HRow.out.2.1 m
              have hcs : ∀ m, m < 9 → wr.cell? ⟨g, off + i * 9 + m, none⟩ = (us i)[m]? := fun m hm => by rw [HAx.out.cell (p := ⟨g, off + i * 9 + m, none⟩) hgW hFg]; exact HRow.out.1 i hlt (Nat.le_refl _) m hm
              obtain ⟨F1', F2', k9, tp9, tn9, tc9, vk9, vi9, vb9, vt9, vp9, vn9, vc9, hu9, -⟩ := (HRow.out.2.2 i hlt (Nat.le_refl _)).out
              rw [hu9] at hcs
              have a0 : wr.cell? ⟨g, off + i * 9, none⟩ = some (.string s[i].name) := hcs 0 (by omega)
              have a1 : wr.cell? ⟨g, off + i * 9 + 1, none⟩ = some (.int .i64 k9) := hcs 1 (by omega)
              have a2 : wr.cell? ⟨g, off + i * 9 + 2, none⟩ = some (.slice tp9 tn9 tc9) := hcs 2 (by omega)
              have a3 : wr.cell? ⟨g, off + i * 9 + 3, none⟩ = some (.bool s[i].has) := hcs 3 (by omega)
              have a4 : wr.cell? ⟨g, off + i * 9 + 4, none⟩ = some (.int .i64 vk9) := hcs 4 (by omega)
              have a5 : wr.cell? ⟨g, off + i * 9 + 5, none⟩ = some (.int .i64 vi9) := hcs 5 (by omega)
              have a6 : wr.cell? ⟨g, off + i * 9 + 6, none⟩ = some (.float .f64 vb9) := hcs 6 (by omega)
              have a7 : wr.cell? ⟨g, off + i * 9 + 7, none⟩ = some (.string vt9) := hcs 7 (by omega)
              have a8 : wr.cell? ⟨g, off + i * 9 + 8, none⟩ = some (.slice vp9 vn9 vc9) := hcs 8 (by omega)
              have z0 := hfz (off + i * 9)
              have z1 := hfz (off + i * 9 + 1)
              have z2 := hfz (off + i * 9 + 2)
              have z3 := hfz (off + i * 9 + 3)
              have z4 := hfz (off + i * 9 + 4)
              have z5 := hfz (off + i * 9 + 5)
              have z6 := hfz (off + i * 9 + 6)
              have z7 := hfz (off + i * 9 + 7)
              have z8 := hfz (off + i * 9 + 8)
              have HNx : Hid ((set9 wr g (off + i * 9)).heap[w.heap.size]? = some (.cells #[.slice (some ⟨g, off, none⟩) s.length cap] 24 (0, 0)) ∧ Aside (fun k => B ≤ k ∧ k < Z) w (set9 wr g (off + i * 9)) ∧ (∀ n, n < s.length → i + 1 ≤ n → ∀ m, m < 9 → (set9 wr g (off + i * 9)).cell? ⟨g, off + n * 9 + m, none⟩ = (us n)[m]?) ∧ (∀ m, (set9 wr g (off + i * 9)).frozen? ⟨g, m, none⟩ = false) ∧ ∀ n (h : n < s.length), i + 1 ≤ n → COwn (set9 wr g (off + i * 9)) (Fs n) (us n) s[n]) := by
                have h9 := set9_aside wr g (off + i * 9)
                have hwl : W.heap.size ≤ wr.heap.size := HAx.out.size
                refine ⟨?_, ?_, fun n hn hin m hm => ?_, fun m => ?_, fun n hn hin => ?_⟩
                · rw [h9.block _ (by omega) (by omega), HAx.out.block _ (by omega) (fun hc => by have := HS.out.2.2 i hlt w.heap.size hc; omega)]
                  exact HBox.out
                · exact (HAW.out.trans HAx.out (fun j _ hj => HS.out.2.2 i hlt j hj)).trans h9 (fun j _ hj => by rw [hj]; exact ⟨hg1, hg2⟩)
                · rw [set9_cell (by omega), HAx.out.cell (p := ⟨g, off + n * 9 + m, none⟩) hgW hFg]
                  exact HRow.out.1 n hn (by omega) m hm
                · rw [set9_frozen]; exact hfz m
                · exact ((HRow.out.2.2 n hn (by omega)).aside HAx.out (fun j hj hc => HS.out.1 n i hn hlt (by omega) j hj hc)).aside h9 (fun j hj hc => HS.out.2.1 n hn (hc ▸ hj))
              generalize s[i].name = nm9 at *
              generalize s[i].has = hs9 at *
              clear HL2 HA1 HA2 HAx hfz hcs hu9
              go_wp2
              go_roundw
              case rel => exact ⟨i + 1, by omega, by go_num, HNx.out⟩
              case measure => simp [intOf]; omega
    · have hjn : ¬ (i : Int) < (s.length : Int) := by omega
      have HA := Lib.hid HL.out.2.1
      clear HL
      go_wp2
      go_end0
      exact ⟨rfl, HA.out⟩
end Go.Proofs.Ytnjggejallnkoab
