/- WTyAtR: put together. -/
import Derived.Test.YtnjggejallnkoabM19
import Derived.Test.YtnjggejallnkoabM12

/- The document's readType. -/
namespace Go.Proofs.Ytnjggejallnkoab
open Go.RowKit

/-- what reading a type tells: the type in blocks of its own, and the place behind it; or the error alone -/
def ReadT (w : World) (a : Nat) (r : Except Nat (Ty × Nat)) (e : Ending) (w' : World) : Prop := match r with
  | .error er => e = .returned (.tuple #[.agg (cells2 0 none 0 0), .int .i64 0, .int .i64 (er : Nat)]) ∧ Below w.heap.size w w'
  | .ok (t, k) => ∃ u, e = .returned (.tuple #[.agg u, .int .i64 ((a + k : Nat) : Int), .int .i64 0]) ∧ TOwn w' (fun k => w.heap.size ≤ k ∧ k < w'.heap.size) u t ∧ Below w.heap.size w w'

theorem rdT_err : ∀ (f : Nat) (l : List UInt8) (e : Nat), Sch.rdT f l = .error e → e ≠ 0
  | 0, l, e, h => by rw [Sch.rdT] at h; injection h with h; omega
  | f + 1, [], e, h => by rw [Sch.rdT] at h; injection h with h; omega
  | f + 1, c :: r, e, h => by
    rw [Sch.rdT] at h
    split at h
    · injection h with h; omega
    split at h
    · cases h
    split at h
    · next e' he => injection h with h; rw [← h]; exact rdT_err f r e' he
    · cases h

/-- the answer's place is written: the type is there -/
def put2 (w : World) (g : Nat) (k : Int) (v : Value) : World := (w.setCell ⟨g, 0, none⟩ (.int .i64 k)).setCell ⟨g, 1, none⟩ v
theorem put2_fin {w w1 : World} {k : Int} {q : Option Addr} {n c : Nat} {x : Ty} {F : Nat → Prop} (h1 : w1.heap[w.heap.size]? = some (.cells (cells2 0 none 0 0) 42 (0, 0))) (hb : Below w.heap.size w w1) (hs : w.heap.size + 1 ≤ w1.heap.size) (hv : TOwn w1 F (cells2 k q n c) x) (hF : ∀ j, F j → w.heap.size + 1 ≤ j ∧ j < w1.heap.size) :
    (put2 w1 w.heap.size k (.slice q n c)).heap[w.heap.size]? = some (.cells (cells2 k q n c) 42 (0, 0)) ∧ TOwn (put2 w1 w.heap.size k (.slice q n c)) (fun j => w.heap.size ≤ j ∧ j < (put2 w1 w.heap.size k (.slice q n c)).heap.size) (cells2 k q n c) x ∧ Below w.heap.size w (put2 w1 w.heap.size k (.slice q n c)) := by
  have hA : Aside (fun k => k = w.heap.size) w1 (put2 w1 w.heap.size k (.slice q n c)) := by
    unfold put2
    exact ((Aside.refl (fun k => k = w.heap.size) w1).setCell (p := ⟨w.heap.size, 0, none⟩) (.inl rfl) _).setCell (p := ⟨w.heap.size, 1, none⟩) (.inl rfl) _
  refine ⟨?_, ?_, ?_⟩
  · unfold put2
    rw [blk_set (blk_set h1 0 _) 1 _]
    rfl
  · exact (hv.aside hA (fun k hk hc => by have := hF k hk; omega)).mono (fun j hj => ⟨by have := hF j hj; omega, by have := hF j hj; have := hA.size; omega⟩)
  · exact hb.trans (hA.below (by omega) (fun k hk hc => by omega))

set_option maxRecDepth 100000 in
set_option maxHeartbeats 1000000 in
theorem refReadType7 (p : Option Addr) (l : List UInt8) (c : Nat) (hl : l.length ≤ 140737488351232) : ∀ (f : Nat) (a : Nat) (w : World), f ≤ 4 → a ≤ l.length → At w p l → Calls Try.prog 54 #[.slice p l.length c, .int .i64 a, .int .i64 ((5 - f : Nat) : Int)] w (ReadT w a (Sch.rdT f (l.drop a))) := by
  intro f
  induction f with
  | zero =>
    intro a w _ ha hat
    have HB : Hid (∀ o, Below w.heap.size w (w.alloc o)) := fun o => (Below.refl _ _).alloc (Nat.le_refl _) _
    rw [Sch.rdT]
    clear hat
    go_enter Try.func54, Try.ntmps54
    go_wp2
    refine bodyPost_ret (results_row3 rfl _ _ w.heap.size _ _ _ _ rfl (blk_new w _) Try.underlying42 rfl (by kernel_rfl)) rfl ?_
    exact ⟨rfl, HB.out _⟩
  | succ f ih =>
    intro a w hf ha hat
    have HB : Hid (∀ o, Below w.heap.size w (w.alloc o)) := fun o => (Below.refl _ _).alloc (Nat.le_refl _) _
    have hd : ¬ (4 : Int) < ((5 - (f + 1) : Nat) : Int) := by omega
    obtain ⟨dp, hdp⟩ : ∃ dp, dp = 5 - (f + 1) := ⟨_, rfl⟩
    rw [← hdp] at hd ⊢
    by_cases hlt : a < l.length
    · obtain ⟨b, o, rfl, hb, hc⟩ := at_some hat (by omega)
      have c0 : ∀ o, (w.alloc o).cell? _ = _ := fun o => cell_on (HB.out o) (hc a hlt)
      have h1 : ¬ (l.length : Int) ≤ (a : Int) := by omega
      have h1b : (a : Int) < (l.length : Int) := by omega
      have HD : Hid (Sch.rdT (f + 1) (l.drop a) = if l[a].toNat < 1 ∨ 7 < l[a].toNat then .error 60 else if l[a].toNat ≠ 6 ∧ l[a].toNat ≠ 7 then .ok (⟨(l[a].toNat : Int), []⟩, 1) else match Sch.rdT f (l.drop (a + 1)) with
          | .error e => .error e
          | .ok (t, j) => .ok (⟨(l[a].toNat : Int), [t]⟩, j + 1)) := by
        show _ = _
        rw [List.drop_eq_getElem_cons hlt, Sch.rdT]
        rfl
      have hih := fun w' (hb : Below w.heap.size w w') => ih (a + 1) w' (by omega) (by omega) (hat.on hb)
      have edp : ((5 - f : Nat) : Int) = (dp : Int) + 1 := by omega
      rw [edp, show ((a + 1 : Nat) : Int) = (a : Int) + 1 by omega] at hih
      have HC := Lib.hid hih
      have h256 := l[a].toNat_lt
      generalize l[a].toNat = z at *
      clear hc hih edp hdp ih hat hf
      by_cases h2 : z < 1 ∨ 7 < z
      · have HE : Hid (Sch.rdT (f + 1) (l.drop a) = .error 60) := by show _ = _; rw [HD.out, if_pos h2]
        rw [HE.out]
        clear HD HE HC
        rcases h2 with h2 | h2
        · have g2 : (z : Int) < 1 := by omega
          clear h2
          go_enter Try.func54, Try.ntmps54
          go_wp2
          refine bodyPost_ret (results_row3 rfl _ _ w.heap.size _ _ _ _ rfl (blk_new w _) Try.underlying42 rfl (by kernel_rfl)) rfl ?_
          exact ⟨rfl, HB.out _⟩
        · have g2 : ¬ (z : Int) < 1 := by omega
          have g3 : (7 : Int) < (z : Int) := by omega
          clear h2
          go_enter Try.func54, Try.ntmps54
          go_wp2
          refine bodyPost_ret (results_row3 rfl _ _ w.heap.size _ _ _ _ rfl (blk_new w _) Try.underlying42 rfl (by kernel_rfl)) rfl ?_
          exact ⟨rfl, HB.out _⟩
      have g2 : ¬ (z : Int) < 1 := by omega
      have g3 : ¬ (7 : Int) < (z : Int) := by omega
      by_cases h6 : z ≠ 6 ∧ z ≠ 7
      · have HE : Hid (Sch.rdT (f + 1) (l.drop a) = .ok (⟨(z : Int), []⟩, 1)) := by show _ = _; rw [HD.out, if_neg h2, if_pos h6]
        have e6 : ((z : Int) != 6) = true := bne_t (by omega)
        have e7 : ((z : Int) != 7) = true := bne_t (by omega)
        rw [HE.out]
        clear HD HE HC h2 h6
        go_enter Try.func54, Try.ntmps54
        go_wp2
        refine bodyPost_ret (results_row3 rfl _ _ w.heap.size _ _ _ _ rfl (blk_new w _) Try.underlying42 rfl (by kernel_rfl)) rfl ?_
        exact ⟨_, by rw [show ((a + 1 : Nat) : Int) = (a : Int) + 1 by omega]; rfl, TOwn.none, HB.out _⟩
      obtain ⟨W1, hW1⟩ : ∃ W1, W1 = w.alloc (.cells #[.int .i64 0, .slice none 0 0] 42) := ⟨_, rfl⟩
      have HBW : Hid (Below w.heap.size w W1) := by rw [hW1]; exact HB.out _
      have HR0 : Hid (W1.heap[w.heap.size]? = some (.cells (cells2 0 none 0 0) 42 (0, 0))) := by show _ = _; rw [hW1]; exact blk_new w _
      have hs1 : W1.heap.size = w.heap.size + 1 := by rw [hW1]; simp
      have HW1 := Lib.hid hW1
      obtain ⟨R, hR⟩ : ∃ R, R = Sch.rdT f (l.drop (a + 1)) := ⟨_, rfl⟩
      have hterr := rdT_err f (l.drop (a + 1))
      have HD2 : Hid (Sch.rdT (f + 1) (l.drop a) = match Sch.rdT f (l.drop (a + 1)) with
          | .error e => .error e
          | .ok (t, j) => .ok (⟨(z : Int), [t]⟩, j + 1)) := by show _ = _; rw [HD.out, if_neg h2, if_neg h6]
      have HC1 := Lib.hid (HC.out W1 HBW.out)
      have hz67 : z = 6 ∨ z = 7 := by omega
      clear HD HC h2 h6 hW1 g2 g3 hR
      cases hR : Sch.rdT f (l.drop (a + 1)) with
      | error er =>
        rw [hR] at HC1 HD2
        have her := hterr er hR
        have g0 : ((er : Int) != 0) = true := by rw [bne_iff_ne]; omega
        have HE : Hid (Sch.rdT (f + 1) (l.drop a) = .error er) := HD2.out
        rw [HE.out]
        clear HD2 HE hR hterr her
        rcases hz67 with rfl | rfl
        all_goals
          go_enter Try.func54, Try.ntmps54
          go_wp2_with fail
          rw [← HW1.out]
          refine HC1.out.mono ?_
          rintro e w2 ⟨rfl, hb2⟩
          obtain ⟨w3, hw3⟩ : ∃ w3, w3 = w2.alloc (.cells #[.int .i64 0, .slice none 0 0] 42) := ⟨_, rfl⟩
          have hb3 : Below W1.heap.size W1 w3 := by rw [hw3]; exact hb2.alloc hb2.size _
          have hb1' : w3.heap[w.heap.size]? = some (.cells (cells2 0 none 0 0) 42 (0, 0)) := (hb3.block _ (by omega)).trans HR0.out
          have hs3 := hb3.size
          have HF := Lib.hid (put2_fin (w := w) (q := none) (n := 0) (c := 0) (F := fun _ => False) (x := .mk 0 []) hb1' (HBW.out.trans (hb3.mono (by omega))) (by omega) TOwn.none (fun _ h => h.elim))
          have r0 : w3.cell? ⟨w.heap.size, 0, none⟩ = some (.int .i64 0) := blk_cell hb1' 0
          have r1 : w3.cell? ⟨w.heap.size, 1, none⟩ = some (.slice none 0 0) := blk_cell hb1' 1
          have s0 := blk_free hb1' 0
          have s1 := blk_free hb1' 1
          have HW3 := Lib.hid hw3
          rw [hw3] at r0 r1 s0 s1
          clear hb1' hb3 hb2 hw3 hs3 HC1
          unfold cells2
          go_wp2
          rw [← HW3.out]
          refine bodyPost_ret (results_row3 rfl _ _ w.heap.size _ _ _ _ rfl HF.out.1 Try.underlying42 rfl (by kernel_rfl)) rfl ?_
          exact ⟨rfl, HF.out.2.2⟩
      | ok tk =>
        obtain ⟨t, j⟩ := tk
        rw [hR] at HC1 HD2
        have HE : Hid (Sch.rdT (f + 1) (l.drop a) = .ok (⟨(z : Int), [t]⟩, j + 1)) := HD2.out
        rw [HE.out]
        clear HD2 HE hR hterr
        have ez : (z : Int) = 6 ∨ (z : Int) = 7 := by omega
        obtain ⟨zi, hzi⟩ : ∃ zi : Int, zi = z := ⟨_, rfl⟩
        rw [← hzi] at c0 ez ⊢
        clear hzi hz67 h256
        rcases ez with rfl | rfl
        all_goals
          go_enter Try.func54, Try.ntmps54
          go_wp2_with fail
          rw [← HW1.out]
          refine HC1.out.mono ?_
          rintro e w2 ⟨u', rfl, hv, hb2⟩
          obtain ⟨k', p', n', c', rfl⟩ := hv.shape
          obtain ⟨w3, hw3⟩ : ∃ w3, w3 = (w2.alloc (.cells #[.int .i64 k', .slice p' n' c'] 42)).alloc (.cells #[.int .i64 k', .slice p' n' c'] 42) := ⟨_, rfl⟩
          have hb23 : Below w2.heap.size w2 w3 := by rw [hw3]; exact ((Below.refl _ _).alloc (Nat.le_refl _) _).alloc (by simp) _
          have hb3 : Below W1.heap.size W1 w3 := hb2.trans (hb23.mono hb2.size)
          have hb1' : w3.heap[w.heap.size]? = some (.cells (cells2 0 none 0 0) 42 (0, 0)) := (hb3.block _ (by omega)).trans HR0.out
          have hs2 := hb2.size
          have hs3 : w3.heap.size = w2.heap.size + 2 := by rw [hw3]; simp
          have hblk : w3.heap[w2.heap.size + 1]? = some (.cells (cells2 k' p' n' c') 42 (0, 0)) := by rw [hw3]; exact blk_second w2 _ _
          have hv3 : TOwn w3 (fun k => W1.heap.size ≤ k ∧ k < w2.heap.size) (cells2 k' p' n' c') t := hv.under hb23 (fun k hk => hk.2)
          have HF := Lib.hid (fun zz : Int => put2_fin (k := zz) (w := w) (F := fun j => W1.heap.size ≤ j ∧ j < w3.heap.size) hb1' (HBW.out.trans (hb3.mono (by omega))) (by omega) (TOwn.one (k := zz) (G := fun j => W1.heap.size ≤ j ∧ j < w3.heap.size) hblk hv3 (fun k hk => ⟨hk.1, by omega⟩) (fun hc => by omega) (by omega)) (fun j hj => ⟨by omega, hj.2⟩))
          have r0 : w3.cell? ⟨w.heap.size, 0, none⟩ = some (.int .i64 0) := blk_cell hb1' 0
          have r1 : w3.cell? ⟨w.heap.size, 1, none⟩ = some (.slice none 0 0) := blk_cell hb1' 1
          have s0 := blk_free hb1' 0
          have s1 := blk_free hb1' 1
          have HW3 := Lib.hid hw3
          rw [hw3] at r0 r1 s0 s1
          clear hb1' hb3 hb2 hw3 hs3 HC1 hb23 hs2 hblk hv3 hv
          unfold cells2
          go_wp2
          rw [← HW3.out]
          refine bodyPost_ret (results_row3 rfl _ _ w.heap.size _ _ _ _ rfl (HF.out _).1 Try.underlying42 rfl (by kernel_rfl)) rfl ?_
          exact ⟨_, by rw [show ((a + (j + 1) : Nat) : Int) = (a : Int) + 1 + (j : Int) by omega]; rfl, (HF.out _).2.1, (HF.out _).2.2⟩
    · have h1 : (l.length : Int) ≤ (a : Int) := by omega
      have HE : Hid (Sch.rdT (f + 1) (l.drop a) = .error 30) := by show _ = _; rw [List.drop_eq_nil_of_le (by omega), Sch.rdT]
      rw [HE.out]
      clear hat ih HE hdp
      go_enter Try.func54, Try.ntmps54
      go_wp2
      refine bodyPost_ret (results_row3 rfl _ _ w.heap.size _ _ _ _ rfl (blk_new w _) Try.underlying42 rfl (by kernel_rfl)) rfl ?_
      exact ⟨rfl, HB.out _⟩
end Go.Proofs.Ytnjggejallnkoab
