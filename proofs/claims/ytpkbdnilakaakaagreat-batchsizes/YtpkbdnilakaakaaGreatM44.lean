/- K10H: put together. -/
import Derived.Test.YtpkbdnilakaakaaGreatM43
import Derived.Laws.Rows

/- The landed block's longest match. -/
namespace Go.Proofs.YtpkbdnilakaakaaGreat
open Go.RowKit

theorem blk_cell10 {w : World} {b : Nat} {C : Array Value} {T : TypeId} {fr : Nat × Nat} (h : w.heap[b]? = some (.cells C T fr)) (m : Nat) : w.cell? ⟨b, m, none⟩ = C[m]? := by
  simp [World.cell?, h]
theorem blk_free10 {w : World} {b : Nat} {C : Array Value} {T : TypeId} (h : w.heap[b]? = some (.cells C T (0, 0))) (m : Nat) : w.frozen? ⟨b, m, none⟩ = false := by
  simp [World.frozen?, h]
theorem blk_lt10 {w : World} {b : Nat} {o : Obj} (h : w.heap[b]? = some o) : b < w.heap.size := (Array.getElem?_eq_some_iff.1 h).1
theorem blk_new10 (w : World) (o : Obj) : (w.alloc o).heap[w.heap.size]? = some o := by
  show (w.heap.push o)[w.heap.size]? = _
  simp
theorem blk_old10 (w : World) (o : Obj) {k : Nat} (h : k < w.heap.size) : (w.alloc o).heap[k]? = w.heap[k]? := by
  show (w.heap.push o)[k]? = _
  rw [Array.getElem?_push, if_neg (by omega)]
theorem blk_set10 {w : World} {b : Nat} {C : Array Value} {T : TypeId} (h : w.heap[b]? = some (.cells C T (0, 0))) (m : Nat) (u : Value) : (w.setCell ⟨b, m, none⟩ u).heap[b]? = some (.cells (C.set! m u) T (0, 0)) := by
  simp [World.setCell, Array.getElem?_modify, h]
theorem blk_set_far10 {w : World} {b : Nat} {o : Obj} (h : w.heap[b]? = some o) (p : Addr) (u : Value) (hp : b ≠ p.block) : (w.setCell p u).heap[b]? = some o := (Below.heap_setCell _ _ _ _ hp).trans h
/-- two blocks more -/
theorem al2B (w : World) (o0 o1 : Obj) : ((w.alloc o0).alloc o1).heap[w.heap.size]? = some o0 ∧ ((w.alloc o0).alloc o1).heap[w.heap.size + 1]? = some o1 ∧ Below w.heap.size w ((w.alloc o0).alloc o1) ∧ ((w.alloc o0).alloc o1).heap.size = w.heap.size + 2 := by
  refine ⟨?_, ?_, ((Below.refl _ _).alloc (Nat.le_refl _) _).alloc (by simp) _, by simp⟩
  · rw [blk_old10 _ _ (by simp)]; exact blk_new10 w _
  · have := blk_new10 (w.alloc o0) o1
    simpa using this
theorem put2 {w : World} {g : Nat} {x y : Value} {T : TypeId} (h : w.heap[g]? = some (.cells #[x, y] T (0, 0))) (u v : Value) : ((w.setCell ⟨g, 0, none⟩ u).setCell ⟨g, 1, none⟩ v).heap[g]? = some (.cells #[u, v] T (0, 0)) := by
  rw [blk_set10 (blk_set10 h 0 u) 1 v]
  rfl

theorem Look.keep {w w' : World} {G A B : Nat} {b : List UInt8} (h : Look w G A b) (hb : Below B w w') (hG : G < B) (hA : A < B) : Look w' G A b := ⟨h.row.of_block (hb.block A hA), h.var.of_block (hb.block G hG)⟩

set_option maxRecDepth 100000 in
set_option maxHeartbeats 1000000 in
theorem stoodK (b : List UInt8) (G A i : Nat) (w : World) (hb : b.length ≤ 2048) (hi : i < b.length) (h : Look w G A b) :
    Calls Tryz.prog 76 #[.int .i64 i, .pointer (some ⟨G, 0, none⟩)] w fun e w' => e = .returned (.int .i64 ((Blk.ahead b i : Nat) - 1)) ∧ w' = w := by
  have c0 := h.var.cell (i := 0) (by omega)
  have c1 := h.row.cell hi
  have hle := Blk.ahead_le b i
  obtain ⟨L, hL⟩ : ∃ L, L = Blk.ahead b i := ⟨_, rfl⟩
  rw [← hL] at c1 hle ⊢
  clear hL h
  go_enter Tryz.func76, Tryz.ntmps76
  go_wp2
  go_ret
  exact ⟨rfl, rfl⟩

theorem run_cut_lh10 (p : Option Addr) (len c a e : Nat) (h : a ≤ e) (h2 : e ≤ c) (w : World) : (Instr.slice 29 (.slice p len c) (some (.int .i64 a)) (some (.int .i64 e)) none).run Tryz.prog w = .ok (.slice (cutP10 p a c) (e - a) (c - a)) w := by
  have hs : (sizeOf (Tryz.prog.elem 29)).run Tryz.prog w = .ok 1 w := by kernel_rfl
  rw [run_slice_lh w 29 p len c (by kernel_rfl) .i64 .i64 (a : Int) (e : Int) (by omega) (by omega) (by omega), hs]
  simp [sliced, cutP10, Result.andThen]
theorem chain_stop {b : List UInt8} {a most k : Nat} {m : Blk.Mt} (h : 1024 < a - k ∨ most ≤ m.size) : Blk.chain b a most (k + 1) (k + 1) m = m := by
  rw [Blk.chain, if_pos h]
theorem chain_next {b : List UInt8} {a most k : Nat} {m : Blk.Mt} (h : ¬ (1024 < a - k ∨ most ≤ m.size)) : Blk.chain b a most (k + 1) (k + 1) m = Blk.chain b a most (Blk.ahead b k) (Blk.ahead b k) (if m.size < Blk.alike (b.drop k) ((b.drop a).take most) then ⟨Blk.alike (b.drop k) ((b.drop a).take most), a - k⟩ else m) := by
  rw [Blk.chain, if_neg h]
  exact Blk.chain_more (Blk.ahead_le b k) (Nat.le_refl _)
/-- the best match yet lies in block g -/
structure Best (w wr : World) (q : Option Addr) (b : List UInt8) (G A : Nat) (m : Blk.Mt) : Prop where
  low : Below w.heap.size w wr
  res : wr.heap[w.heap.size]? = some (.cells #[.int .i64 0, .int .i64 0] 90 (0, 0))
  best : wr.heap[w.heap.size + 1]? = some (.cells #[.int .i64 (m.size : Nat), .int .i64 (m.back : Nat)] 90 (0, 0))
  look : Look wr G A b
  at_ : At wr q b

theorem Best.put {w wr : World} {q : Option Addr} {b : List UInt8} {G A : Nat} {m : Blk.Mt} (h : Best w wr q b G A m) (hq : AtB w w.heap.size q b) (hG : G < w.heap.size) (hA : A < w.heap.size) (m' : Blk.Mt) (n : Nat) : Best w (((wr.drewN n).setCell ⟨w.heap.size + 1, 0, none⟩ (.int .i64 (m'.size : Nat))).setCell ⟨w.heap.size + 1, 1, none⟩ (.int .i64 (m'.back : Nat))) q b G A m' := by
  have hd : Below w.heap.size w (wr.drewN n) := below_drewN h.low n
  have hl : Below w.heap.size w (((wr.drewN n).setCell ⟨w.heap.size + 1, 0, none⟩ (.int .i64 (m'.size : Nat))).setCell ⟨w.heap.size + 1, 1, none⟩ (.int .i64 (m'.back : Nat))) :=
    (hd.setCell (p := ⟨w.heap.size + 1, 0, none⟩) (Nat.le_succ _) _).setCell (p := ⟨w.heap.size + 1, 1, none⟩) (Nat.le_succ _) _
  refine ⟨hl, ?_, put2 (w := wr.drewN n) h.best _ _, ?_, (hq.keep hl).at_⟩
  · exact blk_set_far10 (blk_set_far10 (w := wr.drewN n) h.res _ _ (by show w.heap.size ≠ w.heap.size + 1; omega)) _ _ (by show w.heap.size ≠ w.heap.size + 1; omega)
  · have hl2 : Below w.heap.size wr (((wr.drewN n).setCell ⟨w.heap.size + 1, 0, none⟩ (.int .i64 (m'.size : Nat))).setCell ⟨w.heap.size + 1, 1, none⟩ (.int .i64 (m'.back : Nat))) :=
      ((below_drewN (Below.refl _ wr) n).setCell (p := ⟨w.heap.size + 1, 0, none⟩) (Nat.le_succ _) _).setCell (p := ⟨w.heap.size + 1, 1, none⟩) (Nat.le_succ _) _
    exact h.look.keep hl2 hG hA

set_option maxRecDepth 100000 in
set_option maxHeartbeats 4000000 in
theorem longestK (b : List UInt8) (q : Option Addr) (c G A a : Nat) (w : World) (hb : b.length ≤ 2048) (hbc : b.length ≤ c) (ha : a < b.length) (hq : At w q b) (h : Look w G A b) :
    Calls Tryz.prog 52 #[.slice q b.length c, .int .i64 a, .func (.func 76) #[] #[.pointer (some ⟨G, 0, none⟩)]] w fun e w' => e = .returned (.agg #[.int .i64 ((Blk.longest b a).size : Nat), .int .i64 ((Blk.longest b a).back : Nat)]) ∧ Below w.heap.size w w' := by
  have hG := h.var.lt
  have hA := h.row.lt
  have HQ := Lib.hid (hq.atB (Nat.le_refl w.heap.size))
  obtain ⟨most, hmost⟩ : ∃ most, most = min (b.length - a) 255 := ⟨_, rfl⟩
  have hmin : min ((b.length : Int) - (a : Int)) 255 = (most : Int) := by omega
  have hm1 : a + most ≤ b.length := by omega
  have hm2 : most ≤ 255 := by omega
  have HL : Hid (Blk.longest b a = Blk.chain b a most (Blk.ahead b a) (Blk.ahead b a) ⟨0, 0⟩) := by
    show _ = _
    rw [hmost]
    exact Blk.chain_more (Blk.ahead_le b a) (Nat.le_refl _)
  obtain ⟨W0, hW0⟩ : ∃ W0, W0 = (w.alloc (.cells #[.int .i64 0, .int .i64 0] 90)).alloc (.cells #[.int .i64 0, .int .i64 0] 90) := ⟨_, rfl⟩
  have HS : Hid (Best w W0 q b G A ⟨0, 0⟩) := by
    obtain ⟨h0, h1, h2, h3⟩ := al2B w (.cells #[.int .i64 0, .int .i64 0] 90) (.cells #[.int .i64 0, .int .i64 0] 90)
    rw [← hW0] at h0 h1 h2 h3
    exact ⟨h2, h0, h1, h.keep h2 hG hA, hq.on h2⟩
  have HC := Lib.hid (stoodK b G A a W0 hb ha HS.out.look)
  have HW0 := Lib.hid hW0
  clear hW0 h hq
  go_enter Tryz.func52, Tryz.ntmps52
  have hle := Blk.ahead_le b a
  obtain ⟨R, hR⟩ : ∃ R, R = Blk.longest b a := ⟨_, rfl⟩
  rw [← hR] at HL ⊢
  clear hR hmost
  go_wp2_with fail
  rw [← HW0.out]
  refine HC.out.mono ?_
  rintro e w' ⟨rfl, hw⟩
  rw [hw]
  clear hw w' HC HW0
  go_wp2_with fail
  go_loopw [9] (fun v9 wr => ∃ (g : Nat) (m : Blk.Mt), v9 = .int .i64 ((g : Int) - 1) ∧ g ≤ a ∧ m.size ≤ 255 ∧ m.back ≤ 1024 ∧ Hid (Best w wr q b G A m ∧ R = Blk.chain b a most g g m)) (fun v9 _ => (intOf v9 + 1).toNat)
  case atStart => exact ⟨Blk.ahead b a, ⟨0, 0⟩, rfl, hle, by decide, by decide, HS.out, HL.out⟩
  case round =>
    obtain ⟨g, m, rfl, hga, hms, hmb, HK⟩ := hrel
    obtain ⟨ms, mb⟩ := m
    dsimp only at hms hmb
    have b0 : wr.heap[w.heap.size + 1]? = some (.cells #[.int .i64 (ms : Nat), .int .i64 (mb : Nat)] 90 (0, 0)) := HK.out.1.best
    have b1 := HK.out.1.res
    have c0 : wr.cell? ⟨w.heap.size + 1, 0, none⟩ = some (.int .i64 (ms : Nat)) := blk_cell10 b0 0
    have c1 : wr.cell? ⟨w.heap.size + 1, 1, none⟩ = some (.int .i64 (mb : Nat)) := blk_cell10 b0 1
    have f0 := blk_free10 b0 0
    have f1 := blk_free10 b0 1
    have c2 : wr.cell? ⟨w.heap.size, 0, none⟩ = some (.int .i64 0) := blk_cell10 b1 0
    have c3 : wr.cell? ⟨w.heap.size, 1, none⟩ = some (.int .i64 0) := blk_cell10 b1 1
    have f2 := blk_free10 b1 0
    have f3 := blk_free10 b1 1
    have HEnd : Hid (Below w.heap.size w ((wr.setCell ⟨w.heap.size, 0, none⟩ (.int .i64 (ms : Nat))).setCell ⟨w.heap.size, 1, none⟩ (.int .i64 (mb : Nat))) ∧ ((wr.setCell ⟨w.heap.size, 0, none⟩ (.int .i64 (ms : Nat))).setCell ⟨w.heap.size, 1, none⟩ (.int .i64 (mb : Nat))).heap[w.heap.size]? = some (.cells #[.int .i64 (ms : Nat), .int .i64 (mb : Nat)] 90 (0, 0))) :=
      ⟨(HK.out.1.low.setCell (p := ⟨w.heap.size, 0, none⟩) (Nat.le_refl _) _).setCell (p := ⟨w.heap.size, 1, none⟩) (Nat.le_refl _) _, put2 b1 _ _⟩
    have HLt := Lib.hid (blk_lt10 b0)
    clear b0 b1
    cases g with
    | zero =>
      have HE : Hid (R = ⟨ms, mb⟩) := HK.out.2
      clear HK
      go_wp2_with fail
      refine bodyPost_ret (results_cell_row rfl _ _ w.heap.size _ _ _ _ rfl HEnd.out.2 Tryz.underlying90 rfl (by kernel_rfl)) rfl ?_
      rw [HE.out]
      exact ⟨rfl, HEnd.out.1⟩
    | succ k =>
      have hv9 : (((k + 1 : Nat) : Int) - 1) = (k : Int) := by omega
      rw [hv9]
      have hk : k < a := by omega
      have hak : ((a : Int) - (k : Int)) = ((a - k : Nat) : Int) := by omega
      by_cases hc1 : 1024 < a - k
      · have HE : Hid (R = ⟨ms, mb⟩) := HK.out.2.trans (chain_stop (.inl hc1))
        clear HK hv9
        go_wp2_with fail
        refine bodyPost_ret (results_cell_row rfl _ _ w.heap.size _ _ _ _ rfl HEnd.out.2 Tryz.underlying90 rfl (by kernel_rfl)) rfl ?_
        rw [HE.out]
        exact ⟨rfl, HEnd.out.1⟩
      by_cases hc2 : most ≤ ms
      · have HE : Hid (R = ⟨ms, mb⟩) := HK.out.2.trans (chain_stop (.inr hc2))
        clear HK hv9
        go_wp2_with fail
        refine bodyPost_ret (results_cell_row rfl _ _ w.heap.size _ _ _ _ rfl HEnd.out.2 Tryz.underlying90 rfl (by kernel_rfl)) rfl ?_
        rw [HE.out]
        exact ⟨rfl, HEnd.out.1⟩
      have HN : Hid (R = Blk.chain b a most (Blk.ahead b k) (Blk.ahead b k) (if ms < Blk.alike (b.drop k) ((b.drop a).take most) then ⟨Blk.alike (b.drop k) ((b.drop a).take most), a - k⟩ else ⟨ms, mb⟩)) := HK.out.2.trans (chain_next (by show ¬ (_ ∨ most ≤ ms); omega))
      have s1 := fun w => run_cut_l .i64 q b.length c k (by omega) w
      have s2 := fun w => run_cut_lh10 q b.length c a (a + most) (by omega) (by omega) w
      have hla : (b.drop k).length = b.length - k := List.length_drop
      have hlb : ((b.drop a).take most).length = most := by rw [List.length_take, List.length_drop]; omega
      have HAl : Hid (∀ n, Calls Tryz.prog 77 #[.slice (cutP10 q k c) (b.drop k).length (c - k), .slice (cutP10 q a c) ((b.drop a).take most).length (c - a)] (wr.drewN n) fun e w' => e = .returned (.int .i64 (Blk.alike (b.drop k) ((b.drop a).take most) : Nat)) ∧ w' = wr.drewN n) := fun n =>
        alikeK (b.drop k) ((b.drop a).take most) (cutP10 q k c) (cutP10 q a c) (c - k) (c - a) (wr.drewN n) (by omega) (by omega) (by omega) ((HK.out.1.at_.cut10 k c hbc).drewN n) (by
          have h1 := (HK.out.1.at_.cut10 a c hbc).drewN n
          rcases h1 with h1 | ⟨bb, oo, h1, h2, h3⟩
          · exact .inl (by rw [h1]; simp)
          · exact .inr ⟨bb, oo, h1, h2, cells_take h3 most⟩)
      rw [hla, hlb] at HAl
      rw [show a + most - a = most by omega] at s2
      have hal := (Blk.alike_le (b.drop k) ((b.drop a).take most)).2
      rw [hlb] at hal
      obtain ⟨n, hn⟩ : ∃ n, n = Blk.alike (b.drop k) ((b.drop a).take most) := ⟨_, rfl⟩
      rw [← hn] at HN HAl hal
      obtain ⟨q1, hq1⟩ : ∃ q1, q1 = cutP10 q k c := ⟨_, rfl⟩
      obtain ⟨q2, hq2⟩ : ∃ q2, q2 = cutP10 q a c := ⟨_, rfl⟩
      obtain ⟨l1, hl1⟩ : ∃ l1, l1 = b.length - k := ⟨_, rfl⟩
      obtain ⟨k1, hk1⟩ : ∃ k1, k1 = c - k := ⟨_, rfl⟩
      obtain ⟨k2, hk2⟩ : ∃ k2, k2 = c - a := ⟨_, rfl⟩
      rw [← hq1, ← hk1, ← hl1] at s1
      rw [← hq2, ← hk2] at s2
      rw [← hq1, ← hq2, ← hk1, ← hk2, ← hl1] at HAl
      have e2 : ((a + most : Nat) : Int) = (a : Int) + (most : Int) := by omega
      rw [e2] at s2
      have HAk := Lib.hid hak
      clear e2 hak
      have HBst := Lib.hid HK.out.1
      have hk2' := Blk.ahead_le b k
      clear hla hlb hn hq1 hq2 hl1 hk1 hk2 HK HEnd hv9
      by_cases hgt : ms < n
      · have HN2 : Hid (R = Blk.chain b a most (Blk.ahead b k) (Blk.ahead b k) ⟨n, a - k⟩) := by
          show _ = _
          rw [HN.out, if_pos hgt]
        clear HN
        go_wp2_with fail
        go_quiet (first | (go_at_call 77; exact Calls.quiet_of_same (HAl.out _)))
        go_wp2_with fail
        rw [HAk.out]
        have HB2 : Hid (Best w (((wr.drewN nq).setCell ⟨w.heap.size + 1, 0, none⟩ (.int .i64 (n : Nat))).setCell ⟨w.heap.size + 1, 1, none⟩ (.int .i64 ((a - k : Nat) : Int))) q b G A ⟨n, a - k⟩) := HBst.out.put HQ.out hG hA ⟨n, a - k⟩ nq
        generalize ((wr.drewN nq).setCell ⟨w.heap.size + 1, 0, none⟩ (.int .i64 (n : Nat))).setCell ⟨w.heap.size + 1, 1, none⟩ (.int .i64 ((a - k : Nat) : Int)) = W2 at HB2 ⊢
        refine (stoodK b G A k W2 hb (by omega) HB2.out.look).mono ?_
        rintro e w' ⟨rfl, hw⟩
        rw [hw]
        clear hw w'
        go_wp2_with fail
        go_roundw
        case rel => exact ⟨Blk.ahead b k, ⟨n, a - k⟩, rfl, by omega, by show n ≤ 255; omega, by show a - k ≤ 1024; omega, HB2.out, HN2.out⟩
        case measure => simp [intOf]; omega
      · have HN2 : Hid (R = Blk.chain b a most (Blk.ahead b k) (Blk.ahead b k) ⟨ms, mb⟩) := by
          show _ = _
          rw [HN.out, if_neg hgt]
        clear HN
        go_wp2_with fail
        go_quiet (first | (go_at_call 77; exact Calls.quiet_of_same (HAl.out _)))
        go_wp2_with fail
        have HB2 : Hid (Best w (wr.drewN nq) q b G A ⟨ms, mb⟩) := ⟨below_drewN HBst.out.low nq, HBst.out.res, HBst.out.best, ⟨HBst.out.look.row, HBst.out.look.var⟩, HBst.out.at_.drewN nq⟩
        generalize wr.drewN nq = W2 at HB2 ⊢
        refine (stoodK b G A k W2 hb (by omega) HB2.out.look).mono ?_
        rintro e w' ⟨rfl, hw⟩
        rw [hw]
        clear hw w'
        go_wp2_with fail
        go_roundw
        case rel => exact ⟨Blk.ahead b k, ⟨ms, mb⟩, rfl, by omega, hms, hmb, HB2.out, HN2.out⟩
        case measure => simp [intOf]; omega
end Go.Proofs.YtpkbdnilakaakaaGreat
