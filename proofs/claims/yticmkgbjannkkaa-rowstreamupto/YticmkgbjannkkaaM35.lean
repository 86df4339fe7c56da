/- K8Z, K8Da, K8Dd: put together. -/
import Derived.Test.YticmkgbjannkkaaM34
import Derived.Test.YticmkgbjannkkaaM17
import Derived.Test.YticmkgbjannkkaaM26
import Derived.Defers
import Derived.Recover
import Derived.Orders

/- The landed row's reader: readFrom; what Decode leans on. -/
namespace Go.Proofs.Yticmkgbjannkkaa
open Go.RowKit

attribute [local go_sem] run_store_float

theorem waysToReadK (w : World) : Calls Try.prog 31 #[] w fun e w' => e = .returned (.slice (some ⟨w.heap.size, 0, none⟩) 8 8) ∧ w' = w.alloc (.cells waysR 74) := by
  go_enter Try.func31, Try.ntmps31
  go_wp2_with fail
  go_ret
  exact ⟨rfl, rfl⟩
/-- a place beside the reader is set -/
theorem Rdr.set {L : List UInt8} {w : World} {A R : Nat} {l : List UInt8} (h : Rdr L w A R l) {j : Nat} {C : Array Value} {ty : TypeId} {fr : Nat × Nat} (hj : w.heap[j]? = some (.cells C ty fr)) (hC : C.size ≠ 8) (hR : j ≠ R) (hA : A ≤ j) (m : Nat) (u : Value) : Rdr L (w.setCell ⟨j, m, none⟩ u) A R l := by
  obtain ⟨T, p, c, a, h1, h2⟩ := h.out
  have hT : T ≠ j := by
    intro he
    have := h1.b1
    rw [he, hj] at this
    injection this with this
    injection this with this
    rw [this] at hC
    exact hC rfl
  have ha : Aside (fun i => i = j) w (w.setCell ⟨j, m, none⟩ u) := aside_set _ _ _ _
  have hRw := blk_lt h1.b0
  have hTw := blk_lt h1.b1
  refine ⟨⟨T, p, c, a, ⟨(ha.block R hRw (by omega)).trans h1.b0, (ha.block T hTw (by omega)).trans h1.b1, ?_, h1.cap, h1.far, h1.tab, h1.pos⟩, h2⟩, h.small, h.low⟩
  rcases h1.lies with h3 | ⟨b, o, rfl, hb, hcs⟩
  · exact .inl h3
  · by_cases h0 : L = []
    · exact .inl h0
    · have hbA := h1.far h0 _ rfl
      refine .inr ⟨b, o, rfl, Nat.lt_of_lt_of_le hb ha.size, fun i hi => ?_⟩
      rw [World.cell?_of_block (w := w) (ha.block b hb (by show ¬ b = j; simp only at hbA; omega))]
      exact hcs i hi
/-- what readFrom answers -/
def FromA (w : World) (A : Nat) (l : List UInt8) (a : Int) (e : Ending) (w' : World) : Prop :=
  if a < 0 ∨ (l.length : Int) < a then e = .panicked (errV 30) ∧ Below w.heap.size w w'
  else e = .returned (.pointer (some ⟨w.heap.size + 1, 0, none⟩)) ∧ Rdr l w' A (w.heap.size + 1) (l.drop a.toNat) ∧ Below w.heap.size w w' ∧ w.heap.size + 2 ≤ w'.heap.size

set_option maxRecDepth 100000 in
set_option maxHeartbeats 1000000 in
theorem readFromK (l : List UInt8) (q : Option Addr) (c : Nat) (a : Int) (A : Nat) (w : World) (hl : l.length ≤ 140737488351232) (hlc : l.length ≤ c) (hat : At w q l) (hA : A ≤ w.heap.size) (hfar : l ≠ [] → ∀ d, q = some d → d.block < A) (ha1 : -9223372036854775808 ≤ a) (ha2 : a ≤ 9223372036854775807) :
    Calls Try.prog 16 #[.slice q l.length c, .int .i64 a] w (FromA w A l a) := by
  obtain ⟨W, hW⟩ : ∃ W, W = (w.alloc (.cells waysR 74)).alloc (.cells #[.slice (some ⟨w.heap.size, 0, none⟩) 8 8, .slice q l.length c, .int .i64 a] 64) := ⟨_, rfl⟩
  have HB : Hid (Below w.heap.size w W) := by rw [hW]; exact ((Below.refl _ _).alloc (Nat.le_refl _) _).alloc (by simp) _
  have hsz : W.heap.size = w.heap.size + 2 := by rw [hW]; simp
  have b0 : W.heap[w.heap.size + 1]? = some (.cells #[.slice (some ⟨w.heap.size, 0, none⟩) 8 8, .slice q l.length c, .int .i64 a] 64 (0, 0)) := by
    have := blk_new (w.alloc (.cells waysR 74)) (.cells #[.slice (some ⟨w.heap.size, 0, none⟩) 8 8, .slice q l.length c, .int .i64 a] 64)
    rw [hW]; simpa using this
  have b1 : W.heap[w.heap.size]? = some (.cells waysR 74 (0, 0)) := by
    rw [hW, blk_old _ _ (by simp)]
    exact blk_new w _
  have HOk : Hid (¬ (a < 0 ∨ (l.length : Int) < a) → Rdr l W A (w.heap.size + 1) (l.drop a.toNat)) := fun h0 => by
    have ea : ((a.toNat : Nat) : Int) = a := by omega
    exact ⟨⟨w.heap.size, q, c, a.toNat, ⟨by rw [ea]; exact b0, b1, hat.on HB.out, hlc, hfar, by omega, by omega⟩, rfl⟩, hl, by omega⟩
  have HSz := Lib.hid hsz
  have HW := Lib.hid hW
  clear hW b0 b1 hat hfar hsz
  by_cases h0 : a < 0 ∨ (l.length : Int) < a
  · have e : FromA w A l a = fun e w' => e = .panicked (errV 30) ∧ Below w.heap.size w w' := by
      funext e w'
      unfold FromA
      rw [if_pos h0]
    rw [e]
    clear e
    by_cases h1 : a < 0
    · have g0 : decide (0 ≤ a) = false := decide_eq_false (by omega)
      clear h0 HOk
      go_enter Try.func16, Try.ntmps16
      go_wp2_with fail
      refine (waysToReadK _).mono ?_
      rintro e w1 ⟨rfl, hw1⟩
      rw [hw1]
      clear hw1 w1
      go_wp2_with fail
      rw [← HW.out]
      refine (need_f _ 30 _).mono ?_
      rintro e w1 ⟨rfl, hw1⟩
      rw [hw1]
      clear hw1 w1
      go_wp2
      exact ⟨rfl, rfl, HB.out⟩
    · have g0 : decide (0 ≤ a) = true := decide_eq_true (by omega)
      have g1 : decide (a ≤ (l.length : Int)) = false := decide_eq_false (by omega)
      clear h0 HOk
      go_enter Try.func16, Try.ntmps16
      go_wp2_with fail
      refine (waysToReadK _).mono ?_
      rintro e w1 ⟨rfl, hw1⟩
      rw [hw1]
      clear hw1 w1
      go_wp2_with fail
      rw [← HW.out]
      refine (need_f _ 30 _).mono ?_
      rintro e w1 ⟨rfl, hw1⟩
      rw [hw1]
      clear hw1 w1
      go_wp2
      exact ⟨rfl, rfl, HB.out⟩
  · have e : FromA w A l a = fun e w' => e = .returned (.pointer (some ⟨w.heap.size + 1, 0, none⟩)) ∧ Rdr l w' A (w.heap.size + 1) (l.drop a.toNat) ∧ Below w.heap.size w w' ∧ w.heap.size + 2 ≤ w'.heap.size := by
      funext e w'
      unfold FromA
      rw [if_neg h0]
    rw [e]
    clear e
    have g0 : decide (0 ≤ a) = true := decide_eq_true (by omega)
    have g1 : decide (a ≤ (l.length : Int)) = true := decide_eq_true (by omega)
    have HRd := Lib.hid (HOk.out h0)
    clear HOk h0
    go_enter Try.func16, Try.ntmps16
    go_wp2_with fail
    refine (waysToReadK _).mono ?_
    rintro e w1 ⟨rfl, hw1⟩
    rw [hw1]
    clear hw1 w1
    go_wp2_with fail
    rw [← HW.out]
    refine (need_t _ 30 _).mono ?_
    rintro e w1 ⟨rfl, hw1⟩
    rw [hw1]
    clear hw1 w1
    go_wp2
    go_ret
    exact ⟨rfl, HRd.out, HB.out, by rw [HSz.out]; exact Nat.le_refl _⟩

/-- five cells are laid at a place of a row -/
def lay5o (w : World) (g o : Nat) (k i : Int) (b : Nat) (t : ByteArray) (s : Value) : World := ((((w.setCell ⟨g, o, none⟩ (.int .i64 k)).setCell ⟨g, o + 1, none⟩ (.int .i64 i)).setCell ⟨g, o + 2, none⟩ (.float .f64 b)).setCell ⟨g, o + 3, none⟩ (.string t)).setCell ⟨g, o + 4, none⟩ s
theorem lay5o_aside (w : World) (g o : Nat) (k i : Int) (b : Nat) (t : ByteArray) (s : Value) : Aside (fun j => j = g) w (lay5o w g o k i b t s) := by
  have h0 : Aside (fun j => j = g) w (w.setCell ⟨g, o, none⟩ (.int .i64 k)) := aside_set _ _ _ _
  have h1 := h0.trans (aside_set _ g (o + 1) (.int .i64 i)) (fun _ _ h => h)
  have h2 := h1.trans (aside_set _ g (o + 2) (.float .f64 b)) (fun _ _ h => h)
  have h3 := h2.trans (aside_set _ g (o + 3) (.string t)) (fun _ _ h => h)
  exact h3.trans (aside_set _ g (o + 4) s) (fun _ _ h => h)
theorem lay5o_size (w : World) (g o : Nat) (k i : Int) (b : Nat) (t : ByteArray) (s : Value) : (lay5o w g o k i b t s).heap.size = w.heap.size := by simp [lay5o, World.setCell]
theorem lay5o_owns {w : World} {B g n cap : Nat} {xs : List Value} {z0 z1 z2 z3 z4 : Value} (hx : xs.length = n * 5) (h : w.ownsRow B 53 5 (.slice (some ⟨g, 0, none⟩) (n + 1) cap) (n + 1) (xs ++ [z0, z1, z2, z3, z4])) (k i : Int) (b : Nat) (t : ByteArray) (q : Option Addr) (m c : Nat) :
    (∀ j, j < 5 → ∃ z, w.cell? ⟨g, n * 5 + j, none⟩ = some z) ∧ (∀ j, w.frozen? ⟨g, j, none⟩ = false) ∧
    (lay5o w g (n * 5) k i b t (.slice q m c)).ownsRow B 53 5 (.slice (some ⟨g, 0, none⟩) (n + 1) cap) (n + 1) (xs ++ (cells5 k i b t q m c).toList) := by
  rcases h.2 with ⟨h1, _⟩ | ⟨g', cap', cur, hv, hb, hg, hn, hc, hs, ht⟩
  · cases h1
  · injection hv with hv1 _ hv2
    injection hv1 with hv1
    injection hv1 with hv1
    subst hv1 hv2
    have hcur : cur.toList = xs ++ (z0 :: z1 :: z2 :: z3 :: z4 :: cur.toList.drop ((n + 1) * 5)) := by
      have h3 := (List.take_append_drop ((n + 1) * 5) cur.toList).symm
      rw [ht, List.append_assoc] at h3
      exact h3
    obtain ⟨C⟩ := cur
    simp only at hcur
    obtain ⟨rest, hrest⟩ : ∃ r, r = C.drop ((n + 1) * 5) := ⟨_, rfl⟩
    rw [← hrest] at hcur
    have hset : ∀ (ys : List Value) (j : Nat) (v : Value), (xs ++ ys).set (n * 5 + j) v = xs ++ ys.set j v := fun ys j v => by
      rw [← hx, List.set_append_right _ _ (by omega), Nat.add_sub_cancel_left]
    refine ⟨fun j hj => ?_, fun j => blk_free hg j, ?_, .inr ⟨g, cap, _, rfl, hb, blk_set (blk_set (blk_set (blk_set (blk_set hg (n * 5) (.int .i64 k)) (n * 5 + 1) (.int .i64 i)) (n * 5 + 2) (.float .f64 b)) (n * 5 + 3) (.string t)) (n * 5 + 4) (.slice q m c), hn, hc, by simpa using hs, ?_⟩⟩
    · have hlt : n * 5 + j < C.length := by rw [hcur, List.length_append, hx]; simp; omega
      exact ⟨C[n * 5 + j], by rw [cell_of_row w g (n * 5 + j) ⟨C⟩ 53 (0, 0) hg]; simp [hlt]⟩
    · rw [List.length_append, hx]
      unfold cells5
      simp
      omega
    · have h0 := hset (z0 :: z1 :: z2 :: z3 :: z4 :: rest) 0
      simp only [Nat.add_zero] at h0
      simp only [Array.set!_eq_setIfInBounds, Array.toList_setIfInBounds]
      rw [hcur, h0, hset, hset, hset, hset]
      unfold cells5
      have e : (n + 1) * 5 = xs.length + 5 := by rw [hx]; omega
      rw [e, List.take_append, List.take_of_length_le (by omega), Nat.add_sub_cancel_left]
      simp
end Go.Proofs.Yticmkgbjannkkaa

/- The landed row's Decode: what stands while it reads. -/
namespace Go.Proofs.Yticmkgbjannkkaa
open Go.RowKit

attribute [local go_sem] run_store_float

theorem setCell_comm8 (w : World) (g o j o' : Nat) (u v : Value) (h : g ≠ j) : (w.setCell ⟨j, o', none⟩ u).setCell ⟨g, o, none⟩ v = (w.setCell ⟨g, o, none⟩ v).setCell ⟨j, o', none⟩ u := by
  unfold World.setCell
  congr 1
  apply Array.ext
  · simp
  · intro i h1 h2
    simp only [Array.getElem_modify]
    by_cases e1 : g = i
    · by_cases e2 : j = i
      · omega
      · simp [e1, e2]
    · by_cases e2 : j = i
      · simp [e1, e2]
      · simp [e1, e2]
theorem lay5o_comm (w : World) (g o j : Nat) (k i : Int) (b : Nat) (t : ByteArray) (s u : Value) (h : g ≠ j) : lay5o (w.setCell ⟨j, 0, none⟩ u) g o k i b t s = (lay5o w g o k i b t s).setCell ⟨j, 0, none⟩ u := by
  unfold lay5o
  rw [setCell_comm8 _ _ _ _ _ _ _ h, setCell_comm8 _ _ _ _ _ _ _ h, setCell_comm8 _ _ _ _ _ _ _ h, setCell_comm8 _ _ _ _ _ _ _ h, setCell_comm8 _ _ _ _ _ _ _ h]

/-- while columns are read: told, behind, e; the row so far; the reader -/
structure DecL (L : List UInt8) (w wr : World) (R : Nat) (s : List Col) (m : List UInt8) (r : Except Nat (List V × Nat)) (ys : List V) (v : Value) : Prop where
  b1 : wr.heap[w.heap.size + 1]? = some (.cells #[v] 27 (0, 0))
  b2 : wr.heap[w.heap.size + 2]? = some (.cells #[.int .i64 0] 3 (0, 0))
  b3 : wr.heap[w.heap.size + 3]? = some (.cells #[.int .i64 0] 31 (0, 0))
  below : Below w.heap.size w wr
  low : w.heap.size + 4 ≤ R
  high : R < wr.heap.size
  built : ∃ us Fs, Built wr (R + 1) v ys.length us Fs ys
  left : ∃ n, Rdr L wr w.heap.size R (m.drop n) ∧ r = glue ys n (Rw.rd (s.drop ys.length) (m.drop n))
  len : ys.length ≤ s.length

/-- the zero value's cells -/
def zero5 : Array Value := #[.int .i64 0, .int .i64 0, .float .f64 0, .string ⟨#[]⟩, .slice none 0 0]

section
variable {L : List UInt8} {w wr wa w2 w3 w4 : World} {R : Nat} {s : List Col} {m : List UInt8} {r : Except Nat (List V × Nat)} {ys : List V} {v : Value} {us : Nat → Array Value} {Fs : Nat → Nat → Prop} {n j : Nat} {x : V} {k i : Int} {b : Nat} {t : ByteArray} {q : Option Addr} {nn c : Nat}

theorem DecL.row (h : DecL L w wr R s m r ys v) (hbt : Built wr (R + 1) v ys.length us Fs ys) (hba : Below wr.heap.size wr wa) (ha : Aside (fun i => i = R) wa w2) (hb3 : Below w2.heap.size w2 w3) : w3.ownsRow (R + 1) 53 5 v ys.length (flat us ys.length) ∧ w2.heap[w.heap.size + 1]? = some (.cells #[v] 27 (0, 0)) := by
  have hlow := h.low
  have hhigh := h.high
  have hsa := hba.size
  have hbx : Built wa (R + 1) v ys.length us Fs ys := hbt.on hba
  have hb2 : Built w2 (R + 1) v ys.length us Fs ys := hbx.aside ha (fun g hg he => by have := (hbx.lt g hg).1; omega) (fun i hi k hk he => by have := (hbx.range i hi k hk).1; omega)
  refine ⟨(hb2.on hb3).row, ?_⟩
  rw [ha.block _ (by omega) (by omega), hba.block _ (by omega)]
  exact h.b1

theorem DecL.next (h : DecL L w wr R s m r ys v) (hbt : Built wr (R + 1) v ys.length us Fs ys) (hlt : ys.length < s.length) (hl : r = glue ys n (Rw.rd (s.drop ys.length) (m.drop n))) (hx : Sch.rdV s[ys.length].ty (m.drop n) = .ok (x, j))
    (hba : Below wr.heap.size wr wa) (ha : Aside (fun i => i = R) wa w2) (hown : VOwn w2 (fun k => wa.heap.size ≤ k ∧ k < w2.heap.size) (cells5 k i b t q nn c) x) (hrd : Rdr L w2 w.heap.size R ((m.drop n).drop j)) (hb3 : Below w2.heap.size w2 w3) {g cap : Nat}
    (hr : w4.ownsRow (R + 1) 53 5 (.slice (some ⟨g, 0, none⟩) (ys.length + 1) cap) (ys.length + 1) (flat us ys.length ++ zero5.toList)) (hg : w3.grownBy w4 v.ownBlock) (hn : v.ownBlock = some g ∨ g = w3.heap.size) :
    (∀ j, j < 5 → ∃ z, w4.cell? ⟨g, ys.length * 5 + j, none⟩ = some z) ∧ (∀ j, w4.frozen? ⟨g, j, none⟩ = false) ∧ R < g ∧ w4.heap[w.heap.size + 1]? = some (.cells #[v] 27 (0, 0)) ∧
    DecL L w ((lay5o w4 g (ys.length * 5) k i b t (.slice q nn c)).setCell ⟨w.heap.size + 1, 0, none⟩ (.slice (some ⟨g, 0, none⟩) (ys.length + 1) cap)) R s m r (ys ++ [x]) (.slice (some ⟨g, 0, none⟩) (ys.length + 1) cap) := by
  have hlow := h.low
  have hhigh := h.high
  have hsa := hba.size
  have hs2 := ha.size
  have hs3 := hb3.size
  have hs4 := hg.size
  have hbx : Built wa (R + 1) v ys.length us Fs ys := hbt.on hba
  obtain ⟨wx, hx1, hx2, hx3⟩ := ha.split (by omega)
  have hby : Built wx (R + 1) v ys.length us Fs ys := hbx.aside hx1 (fun g hg he => by have := (hbx.lt g hg).1; omega) (fun i hi k hk he => by have := (hbx.range i hi k hk).1; omega)
  have hfl : (flat us ys.length).length = ys.length * 5 := by
    have := hbt.row.1
    exact this
  obtain ⟨p1, p2, p3⟩ := lay5o_owns (z0 := .int .i64 0) (z1 := .int .i64 0) (z2 := .float .f64 0) (z3 := .string ⟨#[]⟩) (z4 := .slice none 0 0) hfl hr k i b t q nn c
  have hgR : R < g := (hr.lt g rfl).1
  have hgs : g < w4.heap.size := (hr.lt g rfl).2
  obtain ⟨w5, hw5⟩ : ∃ w5, w5 = lay5o w4 g (ys.length * 5) k i b t (.slice q nn c) := ⟨_, rfl⟩
  have a5 : Aside (fun j => j = g) w4 w5 := by rw [hw5]; exact lay5o_aside _ _ _ _ _ _ _ _
  have s5 : w5.heap.size = w4.heap.size := by rw [hw5]; exact lay5o_size _ _ _ _ _ _ _ _
  have hg5 : w3.grownBy w5 v.ownBlock := by
    refine ⟨a5.os.trans hg.os, a5.tape.trans hg.tape, a5.output.trans hg.output, by omega, fun k hk hne => ?_⟩
    rw [a5.block k (by omega) (fun he => ?_)]
    · exact hg.block k hk hne
    · rcases hn with hn | hn
      · exact hne (by rw [hn, he])
      · omega
  rw [← hw5] at p3
  have hst := hby.step hx3 hown (fun k hk => ⟨by rw [hx2]; exact hk.1, hk.2⟩) hb3 (by rw [hx2]; omega) p3 hg5 hn
  have hv := fun k (hk : v.ownBlock = some k) => (hbx.lt k hk)
  -- what lies below stays
  have keep : ∀ k, k ≤ R → k ≠ R → k < wr.heap.size → w5.heap[k]? = wr.heap[k]? := fun k hk hne hkl => by
    rw [a5.block k (by omega) (by omega), hg.block k (by omega) (fun hc => by have := (hv k hc.symm).1; omega), hb3.block k (by omega), ha.block k (by omega) hne, hba.block k hkl]
  have t5 : w5.heap[w.heap.size + 1]? = some (.cells #[v] 27 (0, 0)) := (keep _ (by omega) (by omega) (by omega)).trans h.b1
  have t4 : w4.heap[w.heap.size + 1]? = some (.cells #[v] 27 (0, 0)) := by
    rw [← a5.block _ (by omega) (by omega)]
    exact t5
  have a34 : Aside (fun k => R < k) w2 w5 := by
    refine (aside_new hb3 (fun k => R < k)).trans (G := fun k => R < k) ⟨hg5.os, hg5.tape, hg5.output, hg5.size, fun k hk hf => hg5.block k hk (fun hc => ?_)⟩ (fun _ _ h => h)
    have := (hv k hc.symm).1
    omega
  have hrd5 : Rdr L w5 w.heap.size R ((m.drop n).drop j) := hrd.aside a34 (fun k hk => hk)
  obtain ⟨w6, hw6⟩ : ∃ w6, w6 = w5.setCell ⟨w.heap.size + 1, 0, none⟩ (.slice (some ⟨g, 0, none⟩) (ys.length + 1) cap) := ⟨_, rfl⟩
  have a6 : Aside (fun j => j = w.heap.size + 1) w5 w6 := by rw [hw6]; exact aside_set _ _ _ _
  have s6 := a6.size
  rw [← hw5, ← hw6]
  refine ⟨p1, p2, hgR, t4, ?_⟩
  have hst6 := hst.aside a6 (fun g' hg' he => by have := (hst.lt g' hg').1; omega) (fun i hi k hk he => by have := (hst.range i hi k hk).1; omega)
  refine ⟨?_, ?_, ?_, ?_, hlow, by omega, ⟨_, _, by rw [List.length_append, List.length_singleton]; exact hst6⟩, ⟨n + j, ?_, ?_⟩, by rw [List.length_append, List.length_singleton]; omega⟩
  · rw [hw6, blk_set t5 0]; rfl
  · rw [a6.block _ (by omega) (by omega), keep _ (by omega) (by omega) (by omega)]; exact h.b2
  · rw [a6.block _ (by omega) (by omega), keep _ (by omega) (by omega) (by omega)]; exact h.b3
  · refine ⟨?_, ?_, ?_, by have := h.below.size; omega, fun k hk => ?_⟩
    · rw [a6.os, hg5.os, hb3.os, ha.os, hba.os]; exact h.below.os
    · rw [a6.tape, hg5.tape, hb3.tape, ha.tape, hba.tape]; exact h.below.tape
    · rw [a6.output, hg5.output, hb3.output, ha.output, hba.output]; exact h.below.output
    · rw [a6.block k (by omega) (by omega), keep k (by omega) (by omega) (by omega)]
      exact h.below.block k hk
  · rw [← List.drop_drop, hw6]
    exact hrd5.set t5 (by simp) (by omega) (by omega) 0 _
  · rw [hl, List.length_append, List.length_singleton, List.drop_eq_getElem_cons hlt, rd_cons, hx, stepRd, glue_glue, List.drop_drop]
end
end Go.Proofs.Yticmkgbjannkkaa

/- A region that draws its order, in a function with deferred calls, in which one call panics, whatever the order. -/
namespace Go.Proofs.Yticmkgbjannkkaa
open Go.RowKit

/-- so many operations are not listed yet -/
def unl (listed : Array Bool) : Nat → Nat
  | 0 => 0
  | n + 1 => unl listed n + if listed.getD n true then 0 else 1
theorem unl_set (listed : Array Bool) (i : Nat) (hi : listed.getD i true = false) : ∀ n, (i < n → unl (listed.setIfInBounds i true) n + 1 ≤ unl listed n) ∧ unl (listed.setIfInBounds i true) n ≤ unl listed n := by
  have hs : i < listed.size := by
    by_cases h : i < listed.size
    · exact h
    · simp [Array.getD, h] at hi
  intro n
  induction n with
  | zero => exact ⟨fun h => absurd h (by omega), Nat.le_refl _⟩
  | succ n ih =>
    have e : (listed.setIfInBounds i true).getD n true = if n = i then true else listed.getD n true := by
      by_cases hn : n = i
      · subst hn; simp [Array.getD, hs]
      · rw [if_neg hn]
        by_cases hl : n < listed.size
        · simp [Array.getD, hl, Ne.symm hn]
        · simp [Array.getD, hl]
    simp only [unl, e]
    by_cases hn : n = i
    · subst hn
      rw [if_pos rfl, hi]
      simp only [Bool.false_eq_true, if_false, if_true]
      exact ⟨fun _ => by have := ih.2; omega, by have := ih.2; omega⟩
    · rw [if_neg hn]
      exact ⟨fun h => by have := ih.1 (by omega); omega, by have := ih.2; omega⟩
theorem unl_pos (listed : Array Bool) (c : Nat) (hc : listed.getD c true = false) : ∀ n, c < n → 0 < unl listed n := by
  intro n
  induction n with
  | zero => intro h; omega
  | succ n ih =>
    intro h
    rw [unl]
    by_cases hn : c = n
    · subst hn; rw [hc]; simp
    · have := ih (by omega); omega

section
variable {P : Program} {ops : Array Oper} {Q : Exit → Act → World → Prop}

/-- the least operation that is not listed may come up -/
theorem ready_ex (hfw : ∀ (i : Nat) o, ops[i]? = some o → ∀ e ∈ o.after, Region.binds .any e = true → e.on < i) (listed : Array Bool) (hsz : listed.size = ops.size) : ∀ c, c < ops.size → listed.getD c true = false → Region.ready .any ops listed ≠ [] := by
  intro c
  induction c using Nat.strongRecOn with
  | _ c ih =>
    intro hc hl
    by_cases h : ∃ j, j < c ∧ listed.getD j true = false
    · obtain ⟨j, hj, hjl⟩ := h
      exact ih j hj (by omega) hjl
    · intro he
      have hmem : c ∈ Region.ready .any ops listed := by
        rw [mem_ready]
        refine ⟨hl, ops[c], Array.getElem?_eq_getElem hc, fun e hee hbe => ?_⟩
        have hlt := hfw c _ (Array.getElem?_eq_getElem hc) e hee hbe
        cases hb : listed.getD e.on true with
        | false => exact absurd ⟨e.on, hlt, hb⟩ h
        | true =>
          have hlt2 : e.on < listed.size := by omega
          simp [Array.getD, hlt2] at hb ⊢
          exact hb
      rw [he] at hmem
      cases hmem

/-- what is asked of the region's text -/
def stopChk (ops : Array Oper) (c : Nat) (late : Nat → Bool) : Bool := (List.range ops.size).all fun i => match ops[i]? with
  | some o => o.guard.isNone && o.after.all (fun e => !Region.binds .any e || decide (e.on < i)) && (!late i || o.after.any (fun e => Region.binds .any e && e.on == c))
  | none => true
theorem stopChk_open {c : Nat} {late : Nat → Bool} (h : stopChk ops c late = true) (i : Nat) (o : Oper) (ho : ops[i]? = some o) : o.guard = none ∧ (∀ e ∈ o.after, Region.binds .any e = true → e.on < i) ∧ (late i = true → ∃ e ∈ o.after, Region.binds .any e = true ∧ e.on = c) := by
  unfold stopChk at h
  have h1 := List.all_eq_true.1 h i (List.mem_range.2 (Array.getElem?_eq_some_iff.1 ho).1)
  rw [ho] at h1
  simp only [Bool.and_eq_true, Bool.or_eq_true, Bool.not_eq_true', Array.all_eq_true_iff_forall_mem, decide_eq_true_eq, Array.any_eq_true', beq_iff_eq, Option.isNone_iff_eq_none] at h1
  refine ⟨h1.1.1, fun e he hb => (h1.1.2 e he).resolve_left (by rw [hb]; exact Bool.noConfusion), fun hl => ?_⟩
  rcases h1.2 with h2 | ⟨e, he, hb, hon⟩
  · rw [hl] at h2; cases h2
  · exact ⟨e, he, hb, hon⟩

theorem wpAny_stop (c : Nat) (hc : c < ops.size) (G : Act → World → Prop) (D : Nat → Act → Prop) (late : Nat → Bool)
    (hchk : stopChk ops c late = true)
    (hstep : ∀ (i : Nat) o, ops[i]? = some o → i ≠ c → late i = false → ∀ a w, G a w → (∀ e ∈ o.after, Region.binds .any e = true → D e.on a) → ∃ v w', (execOp a.eval o).run P w = .ok (.value v) w' ∧ G (a.put o.dst v) w' ∧ D i (a.put o.dst v) ∧ ∀ j, j ≠ i → D j a → D j (a.put o.dst v))
    (hcall : ∀ o, ops[c]? = some o → ∀ a w, G a w → (∀ e ∈ o.after, Region.binds .any e = true → D e.on a) → ∀ K, o.wp P a w K Q) :
    ∀ fuel listed a w, listed.size = ops.size → listed.getD c true = false → unl listed ops.size ≤ fuel → (∀ j, listed.getD j false = true → D j a) → G a w → wpAny P .any ops Q fuel listed a w := by
  have hfw := fun i o ho => (stopChk_open hchk i o ho).2.1
  have hlate := fun i o ho => (stopChk_open hchk i o ho).2.2
  have hguard := fun i o ho => (stopChk_open hchk i o ho).1
  intro fuel
  induction fuel with
  | zero =>
    intro listed a w _ hl hu _ _
    have := unl_pos listed c hl ops.size hc
    omega
  | succ fuel ih =>
    intro listed a w hsz hl hu hd hg
    refine ⟨fun h0 => absurd h0 (ready_ex hfw listed hsz c hc hl), fun i hi => ?_⟩
    obtain ⟨hil, o, ho, hdeps⟩ := mem_ready.1 hi
    have hiw : i < ops.size := (Array.getElem?_eq_some_iff.1 ho).1
    have hdep : ∀ e ∈ o.after, Region.binds .any e = true → D e.on a := fun e he hb => hd _ (hdeps e he hb)
    have hwant : Region.wanted o (yielded ops a.tmps) = true := by simp [Region.wanted, hguard i o ho]
    unfold wpOp
    rw [ho]
    dsimp only
    rw [if_pos hwant]
    refine .inl ?_
    by_cases hic : i = c
    · subst hic
      exact hcall o ho a w hg hdep _
    · have hlt : late i = false := by
        cases hb : late i with
        | false => rfl
        | true =>
          obtain ⟨e, he, hb2, hon⟩ := hlate i o ho hb
          have := hdeps e he hb2
          rw [hon] at this
          have hcs : c < listed.size := by omega
          simp [Array.getD, hcs] at this hl
          rw [this] at hl
          cases hl
      obtain ⟨v, w', hrun, hg', hdi, hdj⟩ := hstep i o ho hic hlt a w hg hdep
      unfold Oper.wp
      rw [hrun]
      refine ih _ _ _ (by simpa using hsz) ?_ (by have := (unl_set listed i hil ops.size).1 hiw; omega) (fun j hj => ?_) hg'
      · have hcs : c < listed.size := by omega
        simp [Array.getD, hcs, hic] at hl ⊢
        exact hl
      · by_cases hji : j = i
        · subst hji; exact hdi
        · refine hdj j hji (hd j ?_)
          by_cases hjs : j < listed.size
          · simp [Array.getD, hjs, Ne.symm hji] at hj ⊢
            exact hj
          · simp [Array.getD, hjs] at hj

theorem put_other (a : Act) (d j : Nat) (v : Value) (h : j ≠ d) : (a.put (some d) v).tmps.getD j undef = a.tmps.getD j undef := by
  simp [Act.put, Array.getD_eq_getD_getElem?, Array.getElem?_setIfInBounds_ne (Ne.symm h)]
theorem put_self (a : Act) (d : Nat) (v : Value) (h : d < a.tmps.size) : (a.put (some d) v).tmps.getD d undef = v := by
  simp [Act.put, Array.getD_eq_getD_getElem?, h]
theorem put_defers (a : Act) (d : Option Nat) (v : Value) : (a.put d v).defers = a.defers := by cases d <;> rfl

/-- the slots that an operation yields, from b0 on; those that were set ahead of the region -/
theorem wpAny_stops (c : Nat) (hc : c < ops.size) (b0 nt : Nat) (hnt : b0 + ops.size ≤ nt) (S : List (Nat × Value)) (ds : List Deferred) (W : World → Prop) (exp : Nat → Option Value) (late : Nat → Bool) (hchk : stopChk ops c late = true) (hS : ∀ p ∈ S, p.1 < b0)
    (hdst : ∀ (i : Nat) o, ops[i]? = some o → i ≠ c → late i = false → o.dst = some (b0 + i))
    (hstep : ∀ (i : Nat) o, ops[i]? = some o → i ≠ c → late i = false → ∀ (a : Act) (w : World), (∀ p ∈ S, a.tmps.getD p.1 undef = p.2) → W w → (∀ e ∈ o.after, Region.binds .any e = true → ∀ u, exp e.on = some u → a.tmps.getD (b0 + e.on) undef = u) → ∃ v w', (execOp a.eval o).run P w = .ok (.value v) w' ∧ W w' ∧ ∀ u, exp i = some u → v = u)
    (hcall : ∀ o, ops[c]? = some o → ∀ (a : Act) (w : World), (∀ p ∈ S, a.tmps.getD p.1 undef = p.2) → a.defers = ds → W w → (∀ e ∈ o.after, Region.binds .any e = true → ∀ u, exp e.on = some u → a.tmps.getD (b0 + e.on) undef = u) → ∀ K, o.wp P a w K Q)
    (a : Act) (w : World) (h1 : a.tmps.size = nt) (h2 : a.defers = ds) (h3 : ∀ p ∈ S, a.tmps.getD p.1 undef = p.2) (h4 : W w) : wpAny P .any ops Q ops.size (Array.replicate ops.size false) a w := by
  refine wpAny_stop c hc (fun a w => a.tmps.size = nt ∧ a.defers = ds ∧ (∀ p ∈ S, a.tmps.getD p.1 undef = p.2) ∧ W w) (fun i a => ∀ u, exp i = some u → a.tmps.getD (b0 + i) undef = u) late hchk ?_ ?_ _ _ _ _ (by simp) (by simp [Array.getD, hc]) ?_ ?_ ⟨h1, h2, h3, h4⟩
  · intro i o ho hic hl a w ⟨g1, g2, g3, g4⟩ hdep
    obtain ⟨v, w', r1, r2, r3⟩ := hstep i o ho hic hl a w g3 g4 hdep
    have hd := hdst i o ho hic hl
    have hiw : i < ops.size := (Array.getElem?_eq_some_iff.1 ho).1
    rw [hd]
    refine ⟨v, w', r1, ⟨by simpa [Act.put] using g1, g2, fun p hp => ?_, r2⟩, fun u hu => ?_, fun j hj hdj u hu => ?_⟩
    · rw [put_other _ _ _ _ (by have := hS p hp; omega)]
      exact g3 p hp
    · rw [put_self _ _ _ (by omega)]
      exact r3 u hu
    · rw [put_other _ _ _ _ (by omega)]
      exact hdj u hu
  · intro o ho a w ⟨g1, g2, g3, g4⟩ hdep K
    exact hcall o ho a w g3 g2 g4 hdep K
  · have : ∀ n, unl (Array.replicate ops.size false) n ≤ n := by
      intro n
      induction n with
      | zero => exact Nat.le_refl _
      | succ n ih =>
        rw [unl]
        split <;> omega
    exact this _
  · intro j hj
    exfalso
    by_cases h : j < ops.size
    · simp [Array.getD, h] at hj
    · simp [Array.getD, h] at hj

/-- the same, and no panic -/
def calm (Q : Exit → Act → World → Prop) : Exit → Act → World → Prop
  | .panic _, _, _ => False
  | e, a, w => Q e a w
theorem calm_normal (a : Act) (w : World) : calm Q .normal a w = Q .normal a w := rfl
theorem wp_calm {c : Code} {a : Act} {w : World} (h : c.wp P (calm Q) a w) : c.wp P Q a w := Code.wp_mono (fun e a w he => by cases e <;> first | exact he | exact he.elim) h
end
end Go.Proofs.Yticmkgbjannkkaa
