/- WColAtR: put together. -/
import Derived.Test.YtnjggejallnkoabM20
import Derived.Test.YtnjggejallnkoabM13
import Derived.Test.YtnjggejallnkoabM15

/- The document's readColumn. -/
namespace Go.Proofs.Ytnjggejallnkoab
open Go.RowKit

attribute [local go_sem] run_store_float

/-- what reading a column tells: the column in blocks of its own, and the place behind it; or the error alone -/
def ReadC (w : World) (a : Nat) (r : Except Nat (Col × Nat)) (e : Ending) (w' : World) : Prop := match r with
  | .error er => e = .returned (.tuple #[.agg (cells9 ⟨#[]⟩ 0 none 0 0 false 0 0 0 ⟨#[]⟩ none 0 0), .int .i64 0, .int .i64 (er : Nat)]) ∧ Below w.heap.size w w'
  | .ok (c, k) => ∃ u, e = .returned (.tuple #[.agg u, .int .i64 ((a + k : Nat) : Int), .int .i64 0]) ∧ COwn w' (fun k => w.heap.size ≤ k ∧ k < w'.heap.size) u c ∧ Below w.heap.size w w'

theorem zero_own (w : World) : COwn w (fun _ => False) (cells9 ⟨#[]⟩ 0 none 0 0 false 0 0 0 ⟨#[]⟩ none 0 0) ⟨⟨#[]⟩, .mk 0 [], false, V0⟩ :=
  ⟨fun _ => False, fun _ => False, 0, none, 0, 0, 0, 0, 0, ⟨#[]⟩, none, 0, 0, rfl, TOwn.none, VOwn.none, fun _ h => h, fun _ h => h, fun _ h => h.elim⟩

/-- the answer's place is written: the column is there -/
def put9 (w : World) (g : Nat) (n : ByteArray) (k : Int) (s : Value) (h : Bool) (vk vi : Int) (vb : Nat) (vt : ByteArray) (vs : Value) : World :=
  ((((((((w.setCell ⟨g, 0, none⟩ (.string n)).setCell ⟨g, 1, none⟩ (.int .i64 k)).setCell ⟨g, 2, none⟩ s).setCell ⟨g, 3, none⟩ (.bool h)).setCell ⟨g, 4, none⟩ (.int .i64 vk)).setCell ⟨g, 5, none⟩ (.int .i64 vi)).setCell ⟨g, 6, none⟩ (.float .f64 vb)).setCell ⟨g, 7, none⟩ (.string vt)).setCell ⟨g, 8, none⟩ vs
set_option maxHeartbeats 2000000 in
theorem put9_fin {w w1 : World} {n : ByteArray} {k : Int} {tp : Option Addr} {tn tc : Nat} {h : Bool} {vk vi : Int} {vb : Nat} {vt : ByteArray} {vp : Option Addr} {vn vc : Nat} {c : Col} {F : Nat → Prop} (h1 : w1.heap[w.heap.size]? = some (.cells (cells9 ⟨#[]⟩ 0 none 0 0 false 0 0 0 ⟨#[]⟩ none 0 0) 48 (0, 0))) (hb : Below w.heap.size w w1) (hs : w.heap.size + 1 ≤ w1.heap.size) (hv : COwn w1 F (cells9 n k tp tn tc h vk vi vb vt vp vn vc) c) (hF : ∀ j, F j → w.heap.size + 1 ≤ j ∧ j < w1.heap.size) :
    (put9 w1 w.heap.size n k (.slice tp tn tc) h vk vi vb vt (.slice vp vn vc)).heap[w.heap.size]? = some (.cells (cells9 n k tp tn tc h vk vi vb vt vp vn vc) 48 (0, 0)) ∧ COwn (put9 w1 w.heap.size n k (.slice tp tn tc) h vk vi vb vt (.slice vp vn vc)) (fun j => w.heap.size ≤ j ∧ j < (put9 w1 w.heap.size n k (.slice tp tn tc) h vk vi vb vt (.slice vp vn vc)).heap.size) (cells9 n k tp tn tc h vk vi vb vt vp vn vc) c ∧ Below w.heap.size w (put9 w1 w.heap.size n k (.slice tp tn tc) h vk vi vb vt (.slice vp vn vc)) := by
  have a0 := Aside.refl (fun k => k = w.heap.size) w1
  have a1 := a0.setCell (p := ⟨w.heap.size, 0, none⟩) (.inl rfl) (.string n)
  have a2 := a1.setCell (p := ⟨w.heap.size, 1, none⟩) (.inl rfl) (.int .i64 k)
  have a3 := a2.setCell (p := ⟨w.heap.size, 2, none⟩) (.inl rfl) (.slice tp tn tc)
  have a4 := a3.setCell (p := ⟨w.heap.size, 3, none⟩) (.inl rfl) (.bool h)
  have a5 := a4.setCell (p := ⟨w.heap.size, 4, none⟩) (.inl rfl) (.int .i64 vk)
  have a6 := a5.setCell (p := ⟨w.heap.size, 5, none⟩) (.inl rfl) (.int .i64 vi)
  have a7 := a6.setCell (p := ⟨w.heap.size, 6, none⟩) (.inl rfl) (.float .f64 vb)
  have a8 := a7.setCell (p := ⟨w.heap.size, 7, none⟩) (.inl rfl) (.string vt)
  have a9 := a8.setCell (p := ⟨w.heap.size, 8, none⟩) (.inl rfl) (.slice vp vn vc)
  have hA : Aside (fun k => k = w.heap.size) w1 (put9 w1 w.heap.size n k (.slice tp tn tc) h vk vi vb vt (.slice vp vn vc)) := a9
  clear a0 a1 a2 a3 a4 a5 a6 a7 a8 a9
  have b0 : w1.heap[w.heap.size]? = some (.cells (cells9 ⟨#[]⟩ 0 none 0 0 false 0 0 0 ⟨#[]⟩ none 0 0) 48 (0, 0)) := h1
  have b1 : (w1.setCell ⟨w.heap.size, 0, none⟩ (.string n)).heap[w.heap.size]? = some (.cells (cells9 n 0 none 0 0 false 0 0 0 ⟨#[]⟩ none 0 0) 48 (0, 0)) := blk_set b0 0 (.string n)
  have b2 : ((w1.setCell ⟨w.heap.size, 0, none⟩ (.string n)).setCell ⟨w.heap.size, 1, none⟩ (.int .i64 k)).heap[w.heap.size]? = some (.cells (cells9 n k none 0 0 false 0 0 0 ⟨#[]⟩ none 0 0) 48 (0, 0)) := blk_set b1 1 (.int .i64 k)
  have b3 : (((w1.setCell ⟨w.heap.size, 0, none⟩ (.string n)).setCell ⟨w.heap.size, 1, none⟩ (.int .i64 k)).setCell ⟨w.heap.size, 2, none⟩ (.slice tp tn tc)).heap[w.heap.size]? = some (.cells (cells9 n k tp tn tc false 0 0 0 ⟨#[]⟩ none 0 0) 48 (0, 0)) := blk_set b2 2 (.slice tp tn tc)
  have b4 : ((((w1.setCell ⟨w.heap.size, 0, none⟩ (.string n)).setCell ⟨w.heap.size, 1, none⟩ (.int .i64 k)).setCell ⟨w.heap.size, 2, none⟩ (.slice tp tn tc)).setCell ⟨w.heap.size, 3, none⟩ (.bool h)).heap[w.heap.size]? = some (.cells (cells9 n k tp tn tc h 0 0 0 ⟨#[]⟩ none 0 0) 48 (0, 0)) := blk_set b3 3 (.bool h)
  have b5 : (((((w1.setCell ⟨w.heap.size, 0, none⟩ (.string n)).setCell ⟨w.heap.size, 1, none⟩ (.int .i64 k)).setCell ⟨w.heap.size, 2, none⟩ (.slice tp tn tc)).setCell ⟨w.heap.size, 3, none⟩ (.bool h)).setCell ⟨w.heap.size, 4, none⟩ (.int .i64 vk)).heap[w.heap.size]? = some (.cells (cells9 n k tp tn tc h vk 0 0 ⟨#[]⟩ none 0 0) 48 (0, 0)) := blk_set b4 4 (.int .i64 vk)
  have b6 : ((((((w1.setCell ⟨w.heap.size, 0, none⟩ (.string n)).setCell ⟨w.heap.size, 1, none⟩ (.int .i64 k)).setCell ⟨w.heap.size, 2, none⟩ (.slice tp tn tc)).setCell ⟨w.heap.size, 3, none⟩ (.bool h)).setCell ⟨w.heap.size, 4, none⟩ (.int .i64 vk)).setCell ⟨w.heap.size, 5, none⟩ (.int .i64 vi)).heap[w.heap.size]? = some (.cells (cells9 n k tp tn tc h vk vi 0 ⟨#[]⟩ none 0 0) 48 (0, 0)) := blk_set b5 5 (.int .i64 vi)
  have b7 : (((((((w1.setCell ⟨w.heap.size, 0, none⟩ (.string n)).setCell ⟨w.heap.size, 1, none⟩ (.int .i64 k)).setCell ⟨w.heap.size, 2, none⟩ (.slice tp tn tc)).setCell ⟨w.heap.size, 3, none⟩ (.bool h)).setCell ⟨w.heap.size, 4, none⟩ (.int .i64 vk)).setCell ⟨w.heap.size, 5, none⟩ (.int .i64 vi)).setCell ⟨w.heap.size, 6, none⟩ (.float .f64 vb)).heap[w.heap.size]? = some (.cells (cells9 n k tp tn tc h vk vi vb ⟨#[]⟩ none 0 0) 48 (0, 0)) := blk_set b6 6 (.float .f64 vb)
  have b8 : ((((((((w1.setCell ⟨w.heap.size, 0, none⟩ (.string n)).setCell ⟨w.heap.size, 1, none⟩ (.int .i64 k)).setCell ⟨w.heap.size, 2, none⟩ (.slice tp tn tc)).setCell ⟨w.heap.size, 3, none⟩ (.bool h)).setCell ⟨w.heap.size, 4, none⟩ (.int .i64 vk)).setCell ⟨w.heap.size, 5, none⟩ (.int .i64 vi)).setCell ⟨w.heap.size, 6, none⟩ (.float .f64 vb)).setCell ⟨w.heap.size, 7, none⟩ (.string vt)).heap[w.heap.size]? = some (.cells (cells9 n k tp tn tc h vk vi vb vt none 0 0) 48 (0, 0)) := blk_set b7 7 (.string vt)
  have b9 : (((((((((w1.setCell ⟨w.heap.size, 0, none⟩ (.string n)).setCell ⟨w.heap.size, 1, none⟩ (.int .i64 k)).setCell ⟨w.heap.size, 2, none⟩ (.slice tp tn tc)).setCell ⟨w.heap.size, 3, none⟩ (.bool h)).setCell ⟨w.heap.size, 4, none⟩ (.int .i64 vk)).setCell ⟨w.heap.size, 5, none⟩ (.int .i64 vi)).setCell ⟨w.heap.size, 6, none⟩ (.float .f64 vb)).setCell ⟨w.heap.size, 7, none⟩ (.string vt)).setCell ⟨w.heap.size, 8, none⟩ (.slice vp vn vc)).heap[w.heap.size]? = some (.cells (cells9 n k tp tn tc h vk vi vb vt vp vn vc) 48 (0, 0)) := blk_set b8 8 (.slice vp vn vc)
  refine ⟨b9, ?_, ?_⟩
  · exact (hv.aside hA (fun k hk hc => by have := hF k hk; omega)).mono (fun j hj => ⟨by have := hF j hj; omega, by have := hF j hj; have := hA.size; omega⟩)
  · exact hb.trans (hA.below (by omega) (fun k hk hc => by omega))

theorem find_any (n : ByteArray) : ∀ (s : List Col) (k : Nat), (Sch.find n s k).isSome = s.any (fun x => decide (x.name = n))
  | [], _ => rfl
  | c :: r, k => by
    rw [Sch.find, List.any_cons]
    by_cases h : c.name = n
    · rw [if_pos h, decide_eq_true h]; rfl
    · rw [if_neg h, decide_eq_false h, find_any n r (k + 1)]; rfl

set_option maxRecDepth 100000 in
set_option maxHeartbeats 4000000 in
theorem refReadColumn7 (s : List Col) (ps : Option Addr) (cs : Nat) (p : Option Addr) (l : List UInt8) (c : Nat) (hl : l.length ≤ 140737488351232) (hlc : l.length ≤ c) (a : Nat) (w : World) (hs : s.length * 120 ≤ 140737488351232) (ha : a ≤ l.length) (hx : Cols w ps s) (hat : At w p l) :
    Calls Try.prog 33 #[.slice ps s.length cs, .slice p l.length c, .int .i64 a] w (ReadC w a (Sch.rdC s (l.drop a))) := by
  obtain ⟨R, hR⟩ : ∃ R, R = Sch.rdC s (l.drop a) := ⟨_, rfl⟩
  have HRd : Hid (R = Sch.rdC s (l.drop a)) := hR
  rw [← hR]
  clear hR
  obtain ⟨W1, hW1⟩ : ∃ W1, W1 = (w.alloc (.cells #[.string ⟨#[]⟩, .int .i64 0, .slice none 0 0, .bool false, .int .i64 0, .int .i64 0, .float .f64 0, .string ⟨#[]⟩, .slice none 0 0] 48)).alloc (.cells #[.string ⟨#[]⟩, .int .i64 0, .slice none 0 0, .bool false, .int .i64 0, .int .i64 0, .float .f64 0, .string ⟨#[]⟩, .slice none 0 0] 48) := ⟨_, rfl⟩
  have HBW : Hid (Below w.heap.size w W1) := by rw [hW1]; exact ((Below.refl _ _).alloc (Nat.le_refl _) _).alloc (by simp) _
  have hs1 : W1.heap.size = w.heap.size + 2 := by rw [hW1]; simp
  have HR0 : Hid (W1.heap[w.heap.size]? = some (.cells (cells9 ⟨#[]⟩ 0 none 0 0 false 0 0 0 ⟨#[]⟩ none 0 0) 48 (0, 0))) := by show _ = _; rw [hW1]; exact blk_first w _ _
  have HN0 : Hid (W1.heap[w.heap.size + 1]? = some (.cells (cells9 ⟨#[]⟩ 0 none 0 0 false 0 0 0 ⟨#[]⟩ none 0 0) 48 (0, 0))) := by show _ = _; rw [hW1]; exact blk_second w _ _
  have HW1 := Lib.hid hW1
  have HX := Lib.hid (hx.on HBW.out)
  have HA := Lib.hid (hat.on HBW.out)
  have HG := Lib.hid (refNum7 p c l a hl W1 HA.out)
  clear hW1 hx hat
  go_enter Try.func33, Try.ntmps33
  go_wp2_with fail
  rw [← HW1.out]
  refine HG.out.mono ?_
  rintro e w1 ⟨rfl, hw⟩
  rw [hw]
  clear hw w1 HG HW1
  cases hn : Sch.num (l.drop a) with
  | error er =>
    have her := num_err hn
    have g0 : ((er : Int) != 0) = true := by rw [bne_iff_ne]; omega
    have HE : Hid (R = .error er) := by show _ = _; rw [HRd.out, Sch.rdC, hn]
    simp only [numV]
    clear hn HRd her
    have hz0 : W1.heap[w.heap.size]? = some (.cells (cells9 ⟨#[]⟩ 0 none 0 0 false 0 0 0 ⟨#[]⟩ none 0 0) 48 (0, 0)) := ((Below.refl W1.heap.size W1).block _ (by omega)).trans HR0.out
    have hz1 : W1.heap[w.heap.size + 1]? = some (.cells (cells9 ⟨#[]⟩ 0 none 0 0 false 0 0 0 ⟨#[]⟩ none 0 0) 48 (0, 0)) := ((Below.refl W1.heap.size W1).block _ (by omega)).trans HN0.out
    have r0 : W1.cell? ⟨w.heap.size, 0, none⟩ = some (.string ⟨#[]⟩) := blk_cell hz0 0
    have r1 : W1.cell? ⟨w.heap.size, 1, none⟩ = some (.int .i64 0) := blk_cell hz0 1
    have r2 : W1.cell? ⟨w.heap.size, 2, none⟩ = some (.slice none 0 0) := blk_cell hz0 2
    have r3 : W1.cell? ⟨w.heap.size, 3, none⟩ = some (.bool false) := blk_cell hz0 3
    have r4 : W1.cell? ⟨w.heap.size, 4, none⟩ = some (.int .i64 0) := blk_cell hz0 4
    have r5 : W1.cell? ⟨w.heap.size, 5, none⟩ = some (.int .i64 0) := blk_cell hz0 5
    have r6 : W1.cell? ⟨w.heap.size, 6, none⟩ = some (.float .f64 0) := blk_cell hz0 6
    have r7 : W1.cell? ⟨w.heap.size, 7, none⟩ = some (.string ⟨#[]⟩) := blk_cell hz0 7
    have r8 : W1.cell? ⟨w.heap.size, 8, none⟩ = some (.slice none 0 0) := blk_cell hz0 8
    have rf0 := blk_free hz0 0
    have rf1 := blk_free hz0 1
    have rf2 := blk_free hz0 2
    have rf3 := blk_free hz0 3
    have rf4 := blk_free hz0 4
    have rf5 := blk_free hz0 5
    have rf6 := blk_free hz0 6
    have rf7 := blk_free hz0 7
    have rf8 := blk_free hz0 8
    have n0 : W1.cell? ⟨w.heap.size + 1, 0, none⟩ = some (.string ⟨#[]⟩) := blk_cell hz1 0
    have n1 : W1.cell? ⟨w.heap.size + 1, 1, none⟩ = some (.int .i64 0) := blk_cell hz1 1
    have n2 : W1.cell? ⟨w.heap.size + 1, 2, none⟩ = some (.slice none 0 0) := blk_cell hz1 2
    have n3 : W1.cell? ⟨w.heap.size + 1, 3, none⟩ = some (.bool false) := blk_cell hz1 3
    have n4 : W1.cell? ⟨w.heap.size + 1, 4, none⟩ = some (.int .i64 0) := blk_cell hz1 4
    have n5 : W1.cell? ⟨w.heap.size + 1, 5, none⟩ = some (.int .i64 0) := blk_cell hz1 5
    have n6 : W1.cell? ⟨w.heap.size + 1, 6, none⟩ = some (.float .f64 0) := blk_cell hz1 6
    have n7 : W1.cell? ⟨w.heap.size + 1, 7, none⟩ = some (.string ⟨#[]⟩) := blk_cell hz1 7
    have n8 : W1.cell? ⟨w.heap.size + 1, 8, none⟩ = some (.slice none 0 0) := blk_cell hz1 8
    have HF := Lib.hid (put9_fin (w := w) (F := fun _ => False) (c := ⟨⟨#[]⟩, .mk 0 [], false, V0⟩) hz0 (HBW.out.trans ((Below.refl W1.heap.size W1).mono (by omega))) (by have := (Below.refl W1.heap.size W1).size; omega) (zero_own _) (fun _ h => h.elim))
    clear hz0 hz1
    go_wp2
    refine bodyPost_ret (results_row3 rfl _ _ w.heap.size _ _ _ _ rfl HF.out.1 Try.underlying48 rfl (by kernel_rfl)) rfl ?_
    rw [HE.out]
    exact ⟨rfl, HF.out.2.2⟩
  | ok nk =>
    obtain ⟨n, k0⟩ := nk
    simp only [numV]
    rw [show ((a + k0 : Nat) : Int) = (a : Int) + (k0 : Int) by omega]
    by_cases hn0 : n = 0
    · have g0 : ((n : Int) == 0) = true := beq_t (by omega)
      have HE : Hid (R = .error 70) := by show _ = _; rw [HRd.out, Sch.rdC, hn]; dsimp only; rw [if_pos hn0]
      clear hn HRd hn0
      have hz0 : W1.heap[w.heap.size]? = some (.cells (cells9 ⟨#[]⟩ 0 none 0 0 false 0 0 0 ⟨#[]⟩ none 0 0) 48 (0, 0)) := ((Below.refl W1.heap.size W1).block _ (by omega)).trans HR0.out
      have hz1 : W1.heap[w.heap.size + 1]? = some (.cells (cells9 ⟨#[]⟩ 0 none 0 0 false 0 0 0 ⟨#[]⟩ none 0 0) 48 (0, 0)) := ((Below.refl W1.heap.size W1).block _ (by omega)).trans HN0.out
      have r0 : W1.cell? ⟨w.heap.size, 0, none⟩ = some (.string ⟨#[]⟩) := blk_cell hz0 0
      have r1 : W1.cell? ⟨w.heap.size, 1, none⟩ = some (.int .i64 0) := blk_cell hz0 1
      have r2 : W1.cell? ⟨w.heap.size, 2, none⟩ = some (.slice none 0 0) := blk_cell hz0 2
      have r3 : W1.cell? ⟨w.heap.size, 3, none⟩ = some (.bool false) := blk_cell hz0 3
      have r4 : W1.cell? ⟨w.heap.size, 4, none⟩ = some (.int .i64 0) := blk_cell hz0 4
      have r5 : W1.cell? ⟨w.heap.size, 5, none⟩ = some (.int .i64 0) := blk_cell hz0 5
      have r6 : W1.cell? ⟨w.heap.size, 6, none⟩ = some (.float .f64 0) := blk_cell hz0 6
      have r7 : W1.cell? ⟨w.heap.size, 7, none⟩ = some (.string ⟨#[]⟩) := blk_cell hz0 7
      have r8 : W1.cell? ⟨w.heap.size, 8, none⟩ = some (.slice none 0 0) := blk_cell hz0 8
      have rf0 := blk_free hz0 0
      have rf1 := blk_free hz0 1
      have rf2 := blk_free hz0 2
      have rf3 := blk_free hz0 3
      have rf4 := blk_free hz0 4
      have rf5 := blk_free hz0 5
      have rf6 := blk_free hz0 6
      have rf7 := blk_free hz0 7
      have rf8 := blk_free hz0 8
      have n0 : W1.cell? ⟨w.heap.size + 1, 0, none⟩ = some (.string ⟨#[]⟩) := blk_cell hz1 0
      have n1 : W1.cell? ⟨w.heap.size + 1, 1, none⟩ = some (.int .i64 0) := blk_cell hz1 1
      have n2 : W1.cell? ⟨w.heap.size + 1, 2, none⟩ = some (.slice none 0 0) := blk_cell hz1 2
      have n3 : W1.cell? ⟨w.heap.size + 1, 3, none⟩ = some (.bool false) := blk_cell hz1 3
      have n4 : W1.cell? ⟨w.heap.size + 1, 4, none⟩ = some (.int .i64 0) := blk_cell hz1 4
      have n5 : W1.cell? ⟨w.heap.size + 1, 5, none⟩ = some (.int .i64 0) := blk_cell hz1 5
      have n6 : W1.cell? ⟨w.heap.size + 1, 6, none⟩ = some (.float .f64 0) := blk_cell hz1 6
      have n7 : W1.cell? ⟨w.heap.size + 1, 7, none⟩ = some (.string ⟨#[]⟩) := blk_cell hz1 7
      have n8 : W1.cell? ⟨w.heap.size + 1, 8, none⟩ = some (.slice none 0 0) := blk_cell hz1 8
      have HF := Lib.hid (put9_fin (w := w) (F := fun _ => False) (c := ⟨⟨#[]⟩, .mk 0 [], false, V0⟩) hz0 (HBW.out.trans ((Below.refl W1.heap.size W1).mono (by omega))) (by have := (Below.refl W1.heap.size W1).size; omega) (zero_own _) (fun _ h => h.elim))
      clear hz0 hz1
      go_wp2
      refine bodyPost_ret (results_row3 rfl _ _ w.heap.size _ _ _ _ rfl HF.out.1 Try.underlying48 rfl (by kernel_rfl)) rfl ?_
      rw [HE.out]
      exact ⟨rfl, HF.out.2.2⟩
    have g0 : ((n : Int) == 0) = false := beq_f (by omega)
    have HRd1 : Hid (R = match Sch.text 16 70 (l.drop a) with
        | .error e => .error e
        | .ok (s_1, j) => if Sch.name s_1 = false then .error 70 else if s.any (fun x => decide (x.name = s_1)) then .error 71 else match Sch.rdT 4 ((l.drop a).drop j) with
          | .error e => .error e
          | .ok (t, j2) => match Sch.bit ((l.drop a).drop (j + j2)) with
            | .error e => .error e
            | .ok (h, j3) => if h = 0 then .ok (⟨s_1, t, false, V0⟩, j + j2 + j3) else match Sch.rdV t ((l.drop a).drop (j + j2 + j3)) with
              | .error e => .error e
              | .ok (v, j4) => .ok (⟨s_1, t, true, v⟩, j + j2 + j3 + j4)) := by
      show _ = _
      rw [HRd.out, Sch.rdC, hn]
      exact if_neg hn0
    have HT := Lib.hid (refText7 p l c a 16 70 hl hlc ha (by omega) W1 HA.out)
    clear hn HRd hn0
    go_wp2_with fail
    refine HT.out.mono ?_
    rintro e w1 ⟨rfl, hw⟩
    rw [hw]
    clear hw w1 HT
    cases hnm : Sch.text 16 70 (l.drop a) with
    | error er =>
      have her := text_err (by decide) hnm
      have g1 : ((er : Int) != 0) = true := by rw [bne_iff_ne]; omega
      have HE : Hid (R = .error er) := by show _ = _; rw [HRd1.out, hnm]
      simp only [textV]
      clear hnm HRd1 her
      have hz0 : W1.heap[w.heap.size]? = some (.cells (cells9 ⟨#[]⟩ 0 none 0 0 false 0 0 0 ⟨#[]⟩ none 0 0) 48 (0, 0)) := ((Below.refl W1.heap.size W1).block _ (by omega)).trans HR0.out
      have hz1 : W1.heap[w.heap.size + 1]? = some (.cells (cells9 ⟨#[]⟩ 0 none 0 0 false 0 0 0 ⟨#[]⟩ none 0 0) 48 (0, 0)) := ((Below.refl W1.heap.size W1).block _ (by omega)).trans HN0.out
      have r0 : W1.cell? ⟨w.heap.size, 0, none⟩ = some (.string ⟨#[]⟩) := blk_cell hz0 0
      have r1 : W1.cell? ⟨w.heap.size, 1, none⟩ = some (.int .i64 0) := blk_cell hz0 1
      have r2 : W1.cell? ⟨w.heap.size, 2, none⟩ = some (.slice none 0 0) := blk_cell hz0 2
      have r3 : W1.cell? ⟨w.heap.size, 3, none⟩ = some (.bool false) := blk_cell hz0 3
      have r4 : W1.cell? ⟨w.heap.size, 4, none⟩ = some (.int .i64 0) := blk_cell hz0 4
      have r5 : W1.cell? ⟨w.heap.size, 5, none⟩ = some (.int .i64 0) := blk_cell hz0 5
      have r6 : W1.cell? ⟨w.heap.size, 6, none⟩ = some (.float .f64 0) := blk_cell hz0 6
      have r7 : W1.cell? ⟨w.heap.size, 7, none⟩ = some (.string ⟨#[]⟩) := blk_cell hz0 7
      have r8 : W1.cell? ⟨w.heap.size, 8, none⟩ = some (.slice none 0 0) := blk_cell hz0 8
      have rf0 := blk_free hz0 0
      have rf1 := blk_free hz0 1
      have rf2 := blk_free hz0 2
      have rf3 := blk_free hz0 3
      have rf4 := blk_free hz0 4
      have rf5 := blk_free hz0 5
      have rf6 := blk_free hz0 6
      have rf7 := blk_free hz0 7
      have rf8 := blk_free hz0 8
      have n0 : W1.cell? ⟨w.heap.size + 1, 0, none⟩ = some (.string ⟨#[]⟩) := blk_cell hz1 0
      have n1 : W1.cell? ⟨w.heap.size + 1, 1, none⟩ = some (.int .i64 0) := blk_cell hz1 1
      have n2 : W1.cell? ⟨w.heap.size + 1, 2, none⟩ = some (.slice none 0 0) := blk_cell hz1 2
      have n3 : W1.cell? ⟨w.heap.size + 1, 3, none⟩ = some (.bool false) := blk_cell hz1 3
      have n4 : W1.cell? ⟨w.heap.size + 1, 4, none⟩ = some (.int .i64 0) := blk_cell hz1 4
      have n5 : W1.cell? ⟨w.heap.size + 1, 5, none⟩ = some (.int .i64 0) := blk_cell hz1 5
      have n6 : W1.cell? ⟨w.heap.size + 1, 6, none⟩ = some (.float .f64 0) := blk_cell hz1 6
      have n7 : W1.cell? ⟨w.heap.size + 1, 7, none⟩ = some (.string ⟨#[]⟩) := blk_cell hz1 7
      have n8 : W1.cell? ⟨w.heap.size + 1, 8, none⟩ = some (.slice none 0 0) := blk_cell hz1 8
      have HF := Lib.hid (put9_fin (w := w) (F := fun _ => False) (c := ⟨⟨#[]⟩, .mk 0 [], false, V0⟩) hz0 (HBW.out.trans ((Below.refl W1.heap.size W1).mono (by omega))) (by have := (Below.refl W1.heap.size W1).size; omega) (zero_own _) (fun _ h => h.elim))
      clear hz0 hz1
      go_wp2
      refine bodyPost_ret (results_row3 rfl _ _ w.heap.size _ _ _ _ rfl HF.out.1 Try.underlying48 rfl (by kernel_rfl)) rfl ?_
      rw [HE.out]
      exact ⟨rfl, HF.out.2.2⟩
    | ok nj =>
      obtain ⟨nm, j⟩ := nj
      simp only [textV]
      have hjl : a + j ≤ l.length := by
        obtain ⟨-, -, h3, r, h4⟩ := Sch.text_ok hnm
        have hq := congrArg List.length h4
        have hss : nm.data.toList.length = nm.size := by rw [Array.length_toList]; rfl
        rw [List.length_drop, List.length_append, List.length_append] at hq
        omega
      have HRd2 : Hid (R = if Sch.name nm = false then .error 70 else if s.any (fun x => decide (x.name = nm)) then .error 71 else match Sch.rdT 4 (l.drop (a + j)) with
          | .error e => .error e
          | .ok (t, j2) => match Sch.bit (l.drop (a + j + j2)) with
            | .error e => .error e
            | .ok (h, j3) => if h = 0 then .ok (⟨nm, t, false, V0⟩, j + j2 + j3) else match Sch.rdV t (l.drop (a + j + j2 + j3)) with
              | .error e => .error e
              | .ok (v, j4) => .ok (⟨nm, t, true, v⟩, j + j2 + j3 + j4)) := by
        show _ = _
        rw [HRd1.out, hnm]
        simp only [List.drop_drop, Nat.add_assoc]
      rw [show ((a + j : Nat) : Int) = (a : Int) + (j : Int) by omega]
      clear hnm HRd1
      obtain ⟨rn, hrn⟩ : ∃ rn, rn = Sch.name nm := ⟨_, rfl⟩
      have HNm := Lib.hid (refName7 nm W1)
      rw [← hrn] at HNm HRd2
      clear hrn
      go_wp2_with fail
      refine HNm.out.mono ?_
      rintro e w1 ⟨rfl, hw⟩
      rw [hw]
      clear hw w1 HNm
      cases rn with
      | false =>
        have HE : Hid (R = .error 70) := HRd2.out
        clear HRd2
        have hz0 : W1.heap[w.heap.size]? = some (.cells (cells9 ⟨#[]⟩ 0 none 0 0 false 0 0 0 ⟨#[]⟩ none 0 0) 48 (0, 0)) := ((Below.refl W1.heap.size W1).block _ (by omega)).trans HR0.out
        have hz1 : W1.heap[w.heap.size + 1]? = some (.cells (cells9 ⟨#[]⟩ 0 none 0 0 false 0 0 0 ⟨#[]⟩ none 0 0) 48 (0, 0)) := ((Below.refl W1.heap.size W1).block _ (by omega)).trans HN0.out
        have r0 : W1.cell? ⟨w.heap.size, 0, none⟩ = some (.string ⟨#[]⟩) := blk_cell hz0 0
        have r1 : W1.cell? ⟨w.heap.size, 1, none⟩ = some (.int .i64 0) := blk_cell hz0 1
        have r2 : W1.cell? ⟨w.heap.size, 2, none⟩ = some (.slice none 0 0) := blk_cell hz0 2
        have r3 : W1.cell? ⟨w.heap.size, 3, none⟩ = some (.bool false) := blk_cell hz0 3
        have r4 : W1.cell? ⟨w.heap.size, 4, none⟩ = some (.int .i64 0) := blk_cell hz0 4
        have r5 : W1.cell? ⟨w.heap.size, 5, none⟩ = some (.int .i64 0) := blk_cell hz0 5
        have r6 : W1.cell? ⟨w.heap.size, 6, none⟩ = some (.float .f64 0) := blk_cell hz0 6
        have r7 : W1.cell? ⟨w.heap.size, 7, none⟩ = some (.string ⟨#[]⟩) := blk_cell hz0 7
        have r8 : W1.cell? ⟨w.heap.size, 8, none⟩ = some (.slice none 0 0) := blk_cell hz0 8
        have rf0 := blk_free hz0 0
        have rf1 := blk_free hz0 1
        have rf2 := blk_free hz0 2
        have rf3 := blk_free hz0 3
        have rf4 := blk_free hz0 4
        have rf5 := blk_free hz0 5
        have rf6 := blk_free hz0 6
        have rf7 := blk_free hz0 7
        have rf8 := blk_free hz0 8
        have n0 : W1.cell? ⟨w.heap.size + 1, 0, none⟩ = some (.string ⟨#[]⟩) := blk_cell hz1 0
        have n1 : W1.cell? ⟨w.heap.size + 1, 1, none⟩ = some (.int .i64 0) := blk_cell hz1 1
        have n2 : W1.cell? ⟨w.heap.size + 1, 2, none⟩ = some (.slice none 0 0) := blk_cell hz1 2
        have n3 : W1.cell? ⟨w.heap.size + 1, 3, none⟩ = some (.bool false) := blk_cell hz1 3
        have n4 : W1.cell? ⟨w.heap.size + 1, 4, none⟩ = some (.int .i64 0) := blk_cell hz1 4
        have n5 : W1.cell? ⟨w.heap.size + 1, 5, none⟩ = some (.int .i64 0) := blk_cell hz1 5
        have n6 : W1.cell? ⟨w.heap.size + 1, 6, none⟩ = some (.float .f64 0) := blk_cell hz1 6
        have n7 : W1.cell? ⟨w.heap.size + 1, 7, none⟩ = some (.string ⟨#[]⟩) := blk_cell hz1 7
        have n8 : W1.cell? ⟨w.heap.size + 1, 8, none⟩ = some (.slice none 0 0) := blk_cell hz1 8
        have HF := Lib.hid (put9_fin (w := w) (F := fun _ => False) (c := ⟨⟨#[]⟩, .mk 0 [], false, V0⟩) hz0 (HBW.out.trans ((Below.refl W1.heap.size W1).mono (by omega))) (by have := (Below.refl W1.heap.size W1).size; omega) (zero_own _) (fun _ h => h.elim))
        clear hz0 hz1
        go_wp2
        refine bodyPost_ret (results_row3 rfl _ _ w.heap.size _ _ _ _ rfl HF.out.1 Try.underlying48 rfl (by kernel_rfl)) rfl ?_
        rw [HE.out]
        exact ⟨rfl, HF.out.2.2⟩
      | true =>
        have HRd3 := Lib.hid (HRd2.out.trans (if_neg (by decide)))
        have HFd := Lib.hid (refFind7 s nm ps cs W1 hs HX.out)
        have hfa := find_any nm s 0
        clear HRd2
        go_wp2_with fail
        refine HFd.out.mono ?_
        rintro e w2 ⟨rfl, hb2⟩
        have HB2 := Lib.hid hb2
        have hs2 := hb2.size
        clear HFd hb2
        cases hfd : Sch.find nm s 0 with
        | some kf =>
          rw [hfd] at hfa
          have HE : Hid (R = .error 71) := by show _ = _; rw [HRd3.out, if_pos (by rw [← hfa]; rfl)]
          simp only [foundV]
          clear HRd3 hfd hfa
          have hz0 : w2.heap[w.heap.size]? = some (.cells (cells9 ⟨#[]⟩ 0 none 0 0 false 0 0 0 ⟨#[]⟩ none 0 0) 48 (0, 0)) := (HB2.out.block _ (by omega)).trans HR0.out
          have hz1 : w2.heap[w.heap.size + 1]? = some (.cells (cells9 ⟨#[]⟩ 0 none 0 0 false 0 0 0 ⟨#[]⟩ none 0 0) 48 (0, 0)) := (HB2.out.block _ (by omega)).trans HN0.out
          have r0 : w2.cell? ⟨w.heap.size, 0, none⟩ = some (.string ⟨#[]⟩) := blk_cell hz0 0
          have r1 : w2.cell? ⟨w.heap.size, 1, none⟩ = some (.int .i64 0) := blk_cell hz0 1
          have r2 : w2.cell? ⟨w.heap.size, 2, none⟩ = some (.slice none 0 0) := blk_cell hz0 2
          have r3 : w2.cell? ⟨w.heap.size, 3, none⟩ = some (.bool false) := blk_cell hz0 3
          have r4 : w2.cell? ⟨w.heap.size, 4, none⟩ = some (.int .i64 0) := blk_cell hz0 4
          have r5 : w2.cell? ⟨w.heap.size, 5, none⟩ = some (.int .i64 0) := blk_cell hz0 5
          have r6 : w2.cell? ⟨w.heap.size, 6, none⟩ = some (.float .f64 0) := blk_cell hz0 6
          have r7 : w2.cell? ⟨w.heap.size, 7, none⟩ = some (.string ⟨#[]⟩) := blk_cell hz0 7
          have r8 : w2.cell? ⟨w.heap.size, 8, none⟩ = some (.slice none 0 0) := blk_cell hz0 8
          have rf0 := blk_free hz0 0
          have rf1 := blk_free hz0 1
          have rf2 := blk_free hz0 2
          have rf3 := blk_free hz0 3
          have rf4 := blk_free hz0 4
          have rf5 := blk_free hz0 5
          have rf6 := blk_free hz0 6
          have rf7 := blk_free hz0 7
          have rf8 := blk_free hz0 8
          have n0 : w2.cell? ⟨w.heap.size + 1, 0, none⟩ = some (.string ⟨#[]⟩) := blk_cell hz1 0
          have n1 : w2.cell? ⟨w.heap.size + 1, 1, none⟩ = some (.int .i64 0) := blk_cell hz1 1
          have n2 : w2.cell? ⟨w.heap.size + 1, 2, none⟩ = some (.slice none 0 0) := blk_cell hz1 2
          have n3 : w2.cell? ⟨w.heap.size + 1, 3, none⟩ = some (.bool false) := blk_cell hz1 3
          have n4 : w2.cell? ⟨w.heap.size + 1, 4, none⟩ = some (.int .i64 0) := blk_cell hz1 4
          have n5 : w2.cell? ⟨w.heap.size + 1, 5, none⟩ = some (.int .i64 0) := blk_cell hz1 5
          have n6 : w2.cell? ⟨w.heap.size + 1, 6, none⟩ = some (.float .f64 0) := blk_cell hz1 6
          have n7 : w2.cell? ⟨w.heap.size + 1, 7, none⟩ = some (.string ⟨#[]⟩) := blk_cell hz1 7
          have n8 : w2.cell? ⟨w.heap.size + 1, 8, none⟩ = some (.slice none 0 0) := blk_cell hz1 8
          have HF := Lib.hid (put9_fin (w := w) (F := fun _ => False) (c := ⟨⟨#[]⟩, .mk 0 [], false, V0⟩) hz0 (HBW.out.trans (HB2.out.mono (by omega))) (by have := HB2.out.size; omega) (zero_own _) (fun _ h => h.elim))
          clear hz0 hz1
          go_wp2
          refine bodyPost_ret (results_row3 rfl _ _ w.heap.size _ _ _ _ rfl HF.out.1 Try.underlying48 rfl (by kernel_rfl)) rfl ?_
          rw [HE.out]
          exact ⟨rfl, HF.out.2.2⟩
        | none =>
          rw [hfd] at hfa
          have HRd4 := Lib.hid (HRd3.out.trans (if_neg (by rw [← hfa]; decide)))
          simp only [foundV]
          clear HRd3 hfd hfa
          have HTy := refReadType7 p l c hl 4 (a + j) w2 (by omega) hjl (HA.out.on HB2.out)
          rw [show ((a + j : Nat) : Int) = (a : Int) + (j : Int) by omega] at HTy
          replace HTy := Lib.hid HTy
          go_wp2_with fail
          refine HTy.out.mono ?_
          intro e w3 hr3
          cases hty : Sch.rdT 4 (l.drop (a + j)) with
          | error er =>
            rw [hty] at hr3
            obtain ⟨rfl, hb3⟩ := hr3
            have her := rdT_err 4 _ er hty
            have g1 : ((er : Int) != 0) = true := by rw [bne_iff_ne]; omega
            have HE : Hid (R = .error er) := by show _ = _; rw [HRd4.out, hty]
            have HB3 := Lib.hid (HB2.out.trans (hb3.mono (by omega)))
            have hs3 := hb3.size
            unfold cells2
            clear hty her HRd4 HTy hb3
            obtain ⟨wz, hwz⟩ : ∃ wz, wz = w3.alloc (.cells #[.int .i64 0, .slice none 0 0] 42) := ⟨_, rfl⟩
            have hbz : Below W1.heap.size W1 wz := by rw [hwz]; exact HB3.out.alloc HB3.out.size _
            have HWZ := Lib.hid hwz
            have hz0 : wz.heap[w.heap.size]? = some (.cells (cells9 ⟨#[]⟩ 0 none 0 0 false 0 0 0 ⟨#[]⟩ none 0 0) 48 (0, 0)) := (hbz.block _ (by omega)).trans HR0.out
            have hz1 : wz.heap[w.heap.size + 1]? = some (.cells (cells9 ⟨#[]⟩ 0 none 0 0 false 0 0 0 ⟨#[]⟩ none 0 0) 48 (0, 0)) := (hbz.block _ (by omega)).trans HN0.out
            have r0 : wz.cell? ⟨w.heap.size, 0, none⟩ = some (.string ⟨#[]⟩) := blk_cell hz0 0
            have r1 : wz.cell? ⟨w.heap.size, 1, none⟩ = some (.int .i64 0) := blk_cell hz0 1
            have r2 : wz.cell? ⟨w.heap.size, 2, none⟩ = some (.slice none 0 0) := blk_cell hz0 2
            have r3 : wz.cell? ⟨w.heap.size, 3, none⟩ = some (.bool false) := blk_cell hz0 3
            have r4 : wz.cell? ⟨w.heap.size, 4, none⟩ = some (.int .i64 0) := blk_cell hz0 4
            have r5 : wz.cell? ⟨w.heap.size, 5, none⟩ = some (.int .i64 0) := blk_cell hz0 5
            have r6 : wz.cell? ⟨w.heap.size, 6, none⟩ = some (.float .f64 0) := blk_cell hz0 6
            have r7 : wz.cell? ⟨w.heap.size, 7, none⟩ = some (.string ⟨#[]⟩) := blk_cell hz0 7
            have r8 : wz.cell? ⟨w.heap.size, 8, none⟩ = some (.slice none 0 0) := blk_cell hz0 8
            have rf0 := blk_free hz0 0
            have rf1 := blk_free hz0 1
            have rf2 := blk_free hz0 2
            have rf3 := blk_free hz0 3
            have rf4 := blk_free hz0 4
            have rf5 := blk_free hz0 5
            have rf6 := blk_free hz0 6
            have rf7 := blk_free hz0 7
            have rf8 := blk_free hz0 8
            have n0 : wz.cell? ⟨w.heap.size + 1, 0, none⟩ = some (.string ⟨#[]⟩) := blk_cell hz1 0
            have n1 : wz.cell? ⟨w.heap.size + 1, 1, none⟩ = some (.int .i64 0) := blk_cell hz1 1
            have n2 : wz.cell? ⟨w.heap.size + 1, 2, none⟩ = some (.slice none 0 0) := blk_cell hz1 2
            have n3 : wz.cell? ⟨w.heap.size + 1, 3, none⟩ = some (.bool false) := blk_cell hz1 3
            have n4 : wz.cell? ⟨w.heap.size + 1, 4, none⟩ = some (.int .i64 0) := blk_cell hz1 4
            have n5 : wz.cell? ⟨w.heap.size + 1, 5, none⟩ = some (.int .i64 0) := blk_cell hz1 5
            have n6 : wz.cell? ⟨w.heap.size + 1, 6, none⟩ = some (.float .f64 0) := blk_cell hz1 6
            have n7 : wz.cell? ⟨w.heap.size + 1, 7, none⟩ = some (.string ⟨#[]⟩) := blk_cell hz1 7
            have n8 : wz.cell? ⟨w.heap.size + 1, 8, none⟩ = some (.slice none 0 0) := blk_cell hz1 8
            have HF := Lib.hid (put9_fin (w := w) (F := fun _ => False) (c := ⟨⟨#[]⟩, .mk 0 [], false, V0⟩) hz0 (HBW.out.trans (hbz.mono (by omega))) (by have := hbz.size; omega) (zero_own _) (fun _ h => h.elim))
            clear hz0 hz1
            rw [hwz] at r0 r1 r2 r3 r4 r5 r6 r7 r8 rf0 rf1 rf2 rf3 rf4 rf5 rf6 rf7 rf8 n0 n1 n2 n3 n4 n5 n6 n7 n8
            clear hwz hbz 
            go_wp2
            rw [← HWZ.out]
            refine bodyPost_ret (results_row3 rfl _ _ w.heap.size _ _ _ _ rfl HF.out.1 Try.underlying48 rfl (by kernel_rfl)) rfl ?_
            rw [HE.out]
            exact ⟨rfl, HF.out.2.2⟩
          | ok tj =>
            obtain ⟨ty, j2⟩ := tj
            rw [hty] at hr3
            obtain ⟨ut, rfl, hot, hb3⟩ := hr3
            obtain ⟨kt, tp, tn, tc, rfl⟩ := hot.shape
            obtain ⟨ht1, ⟨rt, ht2⟩, htc, -⟩ := Sch.rdT_ok 4 _ _ _ (by omega) hty
            have hjl2 : a + j + j2 ≤ l.length := by
              have hq := congrArg List.length ht2
              rw [List.length_drop, List.length_append] at hq
              omega
            have HRd5 : Hid (R = match Sch.bit (l.drop (a + j + j2)) with
              | .error e => .error e
              | .ok (h, j3) => if h = 0 then .ok (⟨nm, ty, false, V0⟩, j + j2 + j3) else match Sch.rdV ty (l.drop (a + j + j2 + j3)) with
                | .error e => .error e
                | .ok (v, j4) => .ok (⟨nm, ty, true, v⟩, j + j2 + j3 + j4)) := by show _ = _; rw [HRd4.out, hty]
            have HB3 := Lib.hid (HB2.out.trans (hb3.mono (by omega)))
            have hs3 := hb3.size
            have HOt := Lib.hid hot
            -- the type's own block
            obtain ⟨w4, hw4⟩ : ∃ w4, w4 = w3.alloc (.cells #[.int .i64 kt, .slice tp tn tc] 42) := ⟨_, rfl⟩
            have HB34 : Hid (Below w3.heap.size w3 w4) := by rw [hw4]; exact (Below.refl _ _).alloc (Nat.le_refl _) _
            have hs4 : w4.heap.size = w3.heap.size + 1 := by rw [hw4]; simp
            have HB4 := Lib.hid (HB3.out.trans (HB34.out.mono HB3.out.size))
            have HT4 : Hid (w4.cell? ⟨w3.heap.size, 0, none⟩ = some (.int .i64 kt) ∧ w4.cell? ⟨w3.heap.size, 1, none⟩ = some (.slice tp tn tc)) := by rw [hw4]; exact ⟨by simp, by simp⟩
            have HW4 := Lib.hid hw4
            have hbit := refBit7 p l c (a + j + j2) hl hjl2 w4 (HA.out.on HB4.out)
            have eint : ((a + j + j2 : Nat) : Int) = (a : Int) + (j : Int) + (j2 : Int) := by omega
            rw [eint] at hbit
            have HBit := Lib.hid hbit
            have eint2 : ((a + j : Nat) : Int) + (j2 : Int) = (a : Int) + (j : Int) + (j2 : Int) := by omega
            rw [show ((a + j + j2 : Nat) : Int) = (a : Int) + (j : Int) + (j2 : Int) by omega]
            unfold cells2
            clear hty hot hb3 ht1 ht2 HRd4 HTy hw4 hbit eint eint2
            go_wp2_with fail
            rw [← HW4.out]
            refine HBit.out.mono ?_
            rintro e w5 ⟨rfl, hw⟩
            rw [hw]
            clear hw w5 HBit HW4
            cases hbt : Sch.bit (l.drop (a + j + j2)) with
            | error er =>
              have her := bit_err hbt
              have g1 : ((er : Int) != 0) = true := by rw [bne_iff_ne]; omega
              have HE : Hid (R = .error er) := by show _ = _; rw [HRd5.out, hbt]
              simp only [bitV]
              clear hbt her HRd5
              have hz0 : w4.heap[w.heap.size]? = some (.cells (cells9 ⟨#[]⟩ 0 none 0 0 false 0 0 0 ⟨#[]⟩ none 0 0) 48 (0, 0)) := (HB4.out.block _ (by omega)).trans HR0.out
              have hz1 : w4.heap[w.heap.size + 1]? = some (.cells (cells9 ⟨#[]⟩ 0 none 0 0 false 0 0 0 ⟨#[]⟩ none 0 0) 48 (0, 0)) := (HB4.out.block _ (by omega)).trans HN0.out
              have r0 : w4.cell? ⟨w.heap.size, 0, none⟩ = some (.string ⟨#[]⟩) := blk_cell hz0 0
              have r1 : w4.cell? ⟨w.heap.size, 1, none⟩ = some (.int .i64 0) := blk_cell hz0 1
              have r2 : w4.cell? ⟨w.heap.size, 2, none⟩ = some (.slice none 0 0) := blk_cell hz0 2
              have r3 : w4.cell? ⟨w.heap.size, 3, none⟩ = some (.bool false) := blk_cell hz0 3
              have r4 : w4.cell? ⟨w.heap.size, 4, none⟩ = some (.int .i64 0) := blk_cell hz0 4
              have r5 : w4.cell? ⟨w.heap.size, 5, none⟩ = some (.int .i64 0) := blk_cell hz0 5
              have r6 : w4.cell? ⟨w.heap.size, 6, none⟩ = some (.float .f64 0) := blk_cell hz0 6
              have r7 : w4.cell? ⟨w.heap.size, 7, none⟩ = some (.string ⟨#[]⟩) := blk_cell hz0 7
              have r8 : w4.cell? ⟨w.heap.size, 8, none⟩ = some (.slice none 0 0) := blk_cell hz0 8
              have rf0 := blk_free hz0 0
              have rf1 := blk_free hz0 1
              have rf2 := blk_free hz0 2
              have rf3 := blk_free hz0 3
              have rf4 := blk_free hz0 4
              have rf5 := blk_free hz0 5
              have rf6 := blk_free hz0 6
              have rf7 := blk_free hz0 7
              have rf8 := blk_free hz0 8
              have n0 : w4.cell? ⟨w.heap.size + 1, 0, none⟩ = some (.string ⟨#[]⟩) := blk_cell hz1 0
              have n1 : w4.cell? ⟨w.heap.size + 1, 1, none⟩ = some (.int .i64 0) := blk_cell hz1 1
              have n2 : w4.cell? ⟨w.heap.size + 1, 2, none⟩ = some (.slice none 0 0) := blk_cell hz1 2
              have n3 : w4.cell? ⟨w.heap.size + 1, 3, none⟩ = some (.bool false) := blk_cell hz1 3
              have n4 : w4.cell? ⟨w.heap.size + 1, 4, none⟩ = some (.int .i64 0) := blk_cell hz1 4
              have n5 : w4.cell? ⟨w.heap.size + 1, 5, none⟩ = some (.int .i64 0) := blk_cell hz1 5
              have n6 : w4.cell? ⟨w.heap.size + 1, 6, none⟩ = some (.float .f64 0) := blk_cell hz1 6
              have n7 : w4.cell? ⟨w.heap.size + 1, 7, none⟩ = some (.string ⟨#[]⟩) := blk_cell hz1 7
              have n8 : w4.cell? ⟨w.heap.size + 1, 8, none⟩ = some (.slice none 0 0) := blk_cell hz1 8
              have HF := Lib.hid (put9_fin (w := w) (F := fun _ => False) (c := ⟨⟨#[]⟩, .mk 0 [], false, V0⟩) hz0 (HBW.out.trans (HB4.out.mono (by omega))) (by have := HB4.out.size; omega) (zero_own _) (fun _ h => h.elim))
              clear hz0 hz1
              go_wp2
              refine bodyPost_ret (results_row3 rfl _ _ w.heap.size _ _ _ _ rfl HF.out.1 Try.underlying48 rfl (by kernel_rfl)) rfl ?_
              rw [HE.out]
              exact ⟨rfl, HF.out.2.2⟩
            | ok hj =>
              obtain ⟨hh, j3⟩ := hj
              have hbo := Sch.bit_ok hbt
              have hh1 := hbo.1
              have hjl3 : a + j + j2 + j3 ≤ l.length := by
                obtain ⟨-, h1, r, hr⟩ := hbo
                have hq := congrArg List.length hr
                rw [List.length_drop, List.length_cons] at hq
                omega
              have HRd6 : Hid (R = if hh = 0 then .ok (⟨nm, ty, false, V0⟩, j + j2 + j3) else match Sch.rdV ty (l.drop (a + j + j2 + j3)) with
                | .error e => .error e
                | .ok (v, j4) => .ok (⟨nm, ty, true, v⟩, j + j2 + j3 + j4)) := by show _ = _; rw [HRd5.out, hbt]
              simp only [bitV]
              rw [show ((a + j + j2 + j3 : Nat) : Int) = (a : Int) + (j : Int) + (j2 : Int) + (j3 : Int) by omega]
              clear hbt hbo HRd5
              obtain ⟨t0, t1⟩ := HT4.out
              have hz0 : w4.heap[w.heap.size]? = some (.cells (cells9 ⟨#[]⟩ 0 none 0 0 false 0 0 0 ⟨#[]⟩ none 0 0) 48 (0, 0)) := (HB4.out.block _ (by omega)).trans HR0.out
              by_cases hh0 : hh = 0
              · have g1 : ((hh : Int) == 0) = true := beq_t (by omega)
                have HE : Hid (R = .ok (⟨nm, ty, false, V0⟩, j + j2 + j3)) := by show _ = _; rw [HRd6.out, if_pos hh0]
                have hown : COwn w4 (fun k => w2.heap.size ≤ k ∧ k < w3.heap.size) (cells9 nm kt tp tn tc false 0 0 0 ⟨#[]⟩ none 0 0) ⟨nm, ty, false, V0⟩ :=
                  ⟨fun k => w2.heap.size ≤ k ∧ k < w3.heap.size, fun _ => False, kt, tp, tn, tc, 0, 0, 0, ⟨#[]⟩, none, 0, 0, rfl, HOt.out.under HB34.out (fun k hk => hk.2), VOwn.none, fun _ h => h, fun _ h => h.elim, fun _ _ h => h⟩
                have r0 : w4.cell? ⟨w.heap.size, 0, none⟩ = some (.string ⟨#[]⟩) := blk_cell hz0 0
                have r1 : w4.cell? ⟨w.heap.size, 1, none⟩ = some (.int .i64 0) := blk_cell hz0 1
                have r2 : w4.cell? ⟨w.heap.size, 2, none⟩ = some (.slice none 0 0) := blk_cell hz0 2
                have r3 : w4.cell? ⟨w.heap.size, 3, none⟩ = some (.bool false) := blk_cell hz0 3
                have r4 : w4.cell? ⟨w.heap.size, 4, none⟩ = some (.int .i64 0) := blk_cell hz0 4
                have r5 : w4.cell? ⟨w.heap.size, 5, none⟩ = some (.int .i64 0) := blk_cell hz0 5
                have r6 : w4.cell? ⟨w.heap.size, 6, none⟩ = some (.float .f64 0) := blk_cell hz0 6
                have r7 : w4.cell? ⟨w.heap.size, 7, none⟩ = some (.string ⟨#[]⟩) := blk_cell hz0 7
                have r8 : w4.cell? ⟨w.heap.size, 8, none⟩ = some (.slice none 0 0) := blk_cell hz0 8
                have rf0 := blk_free hz0 0
                have rf1 := blk_free hz0 1
                have rf2 := blk_free hz0 2
                have rf3 := blk_free hz0 3
                have rf4 := blk_free hz0 4
                have rf5 := blk_free hz0 5
                have rf6 := blk_free hz0 6
                have rf7 := blk_free hz0 7
                have rf8 := blk_free hz0 8
                have HF := Lib.hid (put9_fin (w := w) hz0 (HBW.out.trans (HB4.out.mono (by omega))) (by omega) hown (fun k hk => ⟨by omega, by omega⟩))
                clear hz0 hown HRd6 hh0
                go_wp2
                refine bodyPost_ret (results_row3 rfl _ _ w.heap.size _ _ _ _ rfl HF.out.1 Try.underlying48 rfl (by kernel_rfl)) rfl ?_
                rw [HE.out]
                exact ⟨_, by rw [show ((a + (j + j2 + j3) : Nat) : Int) = (a : Int) + (j : Int) + (j2 : Int) + (j3 : Int) by omega]; rfl, HF.out.2.1, HF.out.2.2⟩
              · have g1 : ((hh : Int) == 0) = false := beq_f (by omega)
                have hva := refValueAt7 p l c hl hlc ty 1 (a + j + j2 + j3) w4 (cells2 kt tp tn tc) htc ((HOt.out.lies).on HB34.out) hjl3 (HA.out.on HB4.out)
                rw [show ((a + j + j2 + j3 : Nat) : Int) = (a : Int) + (j : Int) + (j2 : Int) + (j3 : Int) by omega] at hva
                unfold cells2 at hva
                have HVa := Lib.hid hva
                clear hva hh0
                have HRd7 : Hid (R = match Sch.rdV ty (l.drop (a + j + j2 + j3)) with
                  | .error e => .error e
                  | .ok (v, j4) => .ok (⟨nm, ty, true, v⟩, j + j2 + j3 + j4)) := by
                  show _ = _
                  rw [HRd6.out]
                  exact if_neg (by intro hc; rw [hc] at g1; simp at g1)
                clear HRd6 hz0
                go_wp2_with fail
                refine HVa.out.mono ?_
                intro e w5 hr5
                cases hvr : Sch.rdV ty (l.drop (a + j + j2 + j3)) with
                | error er =>
                  rw [hvr] at hr5
                  obtain ⟨rfl, hb5⟩ := hr5
                  have her := rdV_err ty 1 _ er htc hvr
                  have g2 : ((er : Int) != 0) = true := by rw [bne_iff_ne]; omega
                  have HE : Hid (R = .error er) := by show _ = _; rw [HRd7.out, hvr]
                  have HB5 := Lib.hid (HB4.out.trans (hb5.mono HB4.out.size))
                  have hs5 := hb5.size
                  unfold cells5
                  clear hvr her HRd7 HVa hb5 t0 t1
                  obtain ⟨wz, hwz⟩ : ∃ wz, wz = w5.alloc (.cells #[.int .i64 0, .int .i64 0, .float .f64 0, .string ⟨#[]⟩, .slice none 0 0] 46) := ⟨_, rfl⟩
                  have hbz : Below W1.heap.size W1 wz := by rw [hwz]; exact HB5.out.alloc HB5.out.size _
                  have HWZ := Lib.hid hwz
                  have hz0 : wz.heap[w.heap.size]? = some (.cells (cells9 ⟨#[]⟩ 0 none 0 0 false 0 0 0 ⟨#[]⟩ none 0 0) 48 (0, 0)) := (hbz.block _ (by omega)).trans HR0.out
                  have hz1 : wz.heap[w.heap.size + 1]? = some (.cells (cells9 ⟨#[]⟩ 0 none 0 0 false 0 0 0 ⟨#[]⟩ none 0 0) 48 (0, 0)) := (hbz.block _ (by omega)).trans HN0.out
                  have r0 : wz.cell? ⟨w.heap.size, 0, none⟩ = some (.string ⟨#[]⟩) := blk_cell hz0 0
                  have r1 : wz.cell? ⟨w.heap.size, 1, none⟩ = some (.int .i64 0) := blk_cell hz0 1
                  have r2 : wz.cell? ⟨w.heap.size, 2, none⟩ = some (.slice none 0 0) := blk_cell hz0 2
                  have r3 : wz.cell? ⟨w.heap.size, 3, none⟩ = some (.bool false) := blk_cell hz0 3
                  have r4 : wz.cell? ⟨w.heap.size, 4, none⟩ = some (.int .i64 0) := blk_cell hz0 4
                  have r5 : wz.cell? ⟨w.heap.size, 5, none⟩ = some (.int .i64 0) := blk_cell hz0 5
                  have r6 : wz.cell? ⟨w.heap.size, 6, none⟩ = some (.float .f64 0) := blk_cell hz0 6
                  have r7 : wz.cell? ⟨w.heap.size, 7, none⟩ = some (.string ⟨#[]⟩) := blk_cell hz0 7
                  have r8 : wz.cell? ⟨w.heap.size, 8, none⟩ = some (.slice none 0 0) := blk_cell hz0 8
                  have rf0 := blk_free hz0 0
                  have rf1 := blk_free hz0 1
                  have rf2 := blk_free hz0 2
                  have rf3 := blk_free hz0 3
                  have rf4 := blk_free hz0 4
                  have rf5 := blk_free hz0 5
                  have rf6 := blk_free hz0 6
                  have rf7 := blk_free hz0 7
                  have rf8 := blk_free hz0 8
                  have n0 : wz.cell? ⟨w.heap.size + 1, 0, none⟩ = some (.string ⟨#[]⟩) := blk_cell hz1 0
                  have n1 : wz.cell? ⟨w.heap.size + 1, 1, none⟩ = some (.int .i64 0) := blk_cell hz1 1
                  have n2 : wz.cell? ⟨w.heap.size + 1, 2, none⟩ = some (.slice none 0 0) := blk_cell hz1 2
                  have n3 : wz.cell? ⟨w.heap.size + 1, 3, none⟩ = some (.bool false) := blk_cell hz1 3
                  have n4 : wz.cell? ⟨w.heap.size + 1, 4, none⟩ = some (.int .i64 0) := blk_cell hz1 4
                  have n5 : wz.cell? ⟨w.heap.size + 1, 5, none⟩ = some (.int .i64 0) := blk_cell hz1 5
                  have n6 : wz.cell? ⟨w.heap.size + 1, 6, none⟩ = some (.float .f64 0) := blk_cell hz1 6
                  have n7 : wz.cell? ⟨w.heap.size + 1, 7, none⟩ = some (.string ⟨#[]⟩) := blk_cell hz1 7
                  have n8 : wz.cell? ⟨w.heap.size + 1, 8, none⟩ = some (.slice none 0 0) := blk_cell hz1 8
                  have HF := Lib.hid (put9_fin (w := w) (F := fun _ => False) (c := ⟨⟨#[]⟩, .mk 0 [], false, V0⟩) hz0 (HBW.out.trans (hbz.mono (by omega))) (by have := hbz.size; omega) (zero_own _) (fun _ h => h.elim))
                  clear hz0 hz1
                  rw [hwz] at r0 r1 r2 r3 r4 r5 r6 r7 r8 rf0 rf1 rf2 rf3 rf4 rf5 rf6 rf7 rf8 n0 n1 n2 n3 n4 n5 n6 n7 n8
                  clear hwz hbz 
                  go_wp2
                  rw [← HWZ.out]
                  refine bodyPost_ret (results_row3 rfl _ _ w.heap.size _ _ _ _ rfl HF.out.1 Try.underlying48 rfl (by kernel_rfl)) rfl ?_
                  rw [HE.out]
                  exact ⟨rfl, HF.out.2.2⟩
                | ok vj =>
                  obtain ⟨vv, j4⟩ := vj
                  rw [hvr] at hr5
                  obtain ⟨uv, rfl, hov, hb5⟩ := hr5
                  obtain ⟨vk, vi, vb, vt, vp, vn, vc, rfl⟩ := hov.shape
                  have HE : Hid (R = .ok (⟨nm, ty, true, vv⟩, j + j2 + j3 + j4)) := by show _ = _; rw [HRd7.out, hvr]
                  rw [show ((a + j + j2 + j3 + j4 : Nat) : Int) = (a : Int) + (j : Int) + (j2 : Int) + (j3 : Int) + (j4 : Int) by omega]
                  have hs5 := hb5.size
                  obtain ⟨w6, hw6⟩ : ∃ w6, w6 = w5.alloc (.cells #[.int .i64 vk, .int .i64 vi, .float .f64 vb, .string vt, .slice vp vn vc] 46) := ⟨_, rfl⟩
                  have hb56 : Below w5.heap.size w5 w6 := by rw [hw6]; exact (Below.refl _ _).alloc (Nat.le_refl _) _
                  have hb46 : Below w4.heap.size w4 w6 := hb5.trans (hb56.mono hs5)
                  have hs6 : w6.heap.size = w5.heap.size + 1 := by rw [hw6]; simp
                  have HB6 := Lib.hid (HB4.out.trans (hb46.mono HB4.out.size))
                  have hz0 : w6.heap[w.heap.size]? = some (.cells (cells9 ⟨#[]⟩ 0 none 0 0 false 0 0 0 ⟨#[]⟩ none 0 0) 48 (0, 0)) := (HB6.out.block _ (by omega)).trans HR0.out
                  have hown : COwn w6 (fun k => w2.heap.size ≤ k ∧ k < w5.heap.size) (cells9 nm kt tp tn tc true vk vi vb vt vp vn vc) ⟨nm, ty, true, vv⟩ :=
                    ⟨fun k => w2.heap.size ≤ k ∧ k < w3.heap.size, fun k => w4.heap.size ≤ k ∧ k < w5.heap.size, kt, tp, tn, tc, vk, vi, vb, vt, vp, vn, vc, rfl, (HOt.out.under HB34.out (fun k hk => hk.2)).under hb46 (fun k hk => by omega), hov.under hb56 (fun k hk => hk.2), fun k hk => ⟨hk.1, by omega⟩, fun k hk => ⟨by omega, hk.2⟩, fun k hk hc => by omega⟩
                  have u0 := cell_on hb46 t0
                  have u1 := cell_on hb46 t1
                  have r0 : w6.cell? ⟨w.heap.size, 0, none⟩ = some (.string ⟨#[]⟩) := blk_cell hz0 0
                  have r1 : w6.cell? ⟨w.heap.size, 1, none⟩ = some (.int .i64 0) := blk_cell hz0 1
                  have r2 : w6.cell? ⟨w.heap.size, 2, none⟩ = some (.slice none 0 0) := blk_cell hz0 2
                  have r3 : w6.cell? ⟨w.heap.size, 3, none⟩ = some (.bool false) := blk_cell hz0 3
                  have r4 : w6.cell? ⟨w.heap.size, 4, none⟩ = some (.int .i64 0) := blk_cell hz0 4
                  have r5 : w6.cell? ⟨w.heap.size, 5, none⟩ = some (.int .i64 0) := blk_cell hz0 5
                  have r6 : w6.cell? ⟨w.heap.size, 6, none⟩ = some (.float .f64 0) := blk_cell hz0 6
                  have r7 : w6.cell? ⟨w.heap.size, 7, none⟩ = some (.string ⟨#[]⟩) := blk_cell hz0 7
                  have r8 : w6.cell? ⟨w.heap.size, 8, none⟩ = some (.slice none 0 0) := blk_cell hz0 8
                  have rf0 := blk_free hz0 0
                  have rf1 := blk_free hz0 1
                  have rf2 := blk_free hz0 2
                  have rf3 := blk_free hz0 3
                  have rf4 := blk_free hz0 4
                  have rf5 := blk_free hz0 5
                  have rf6 := blk_free hz0 6
                  have rf7 := blk_free hz0 7
                  have rf8 := blk_free hz0 8
                  have HF := Lib.hid (put9_fin (w := w) hz0 (HBW.out.trans (HB6.out.mono (by omega))) (by omega) hown (fun k hk => ⟨by omega, by omega⟩))
                  have HW6 := Lib.hid hw6
                  rw [hw6] at u0 u1 r0 r1 r2 r3 r4 r5 r6 r7 r8 rf0 rf1 rf2 rf3 rf4 rf5 rf6 rf7 rf8
                  unfold cells5
                  clear hz0 hown HRd7 hvr hov hb5 hb56 hb46 hw6 HVa t0 t1
                  go_wp2
                  rw [← HW6.out]
                  refine bodyPost_ret (results_row3 rfl _ _ w.heap.size _ _ _ _ rfl HF.out.1 Try.underlying48 rfl (by kernel_rfl)) rfl ?_
                  rw [HE.out]
                  exact ⟨_, by rw [show ((a + (j + j2 + j3 + j4) : Nat) : Int) = (a : Int) + (j : Int) + (j2 : Int) + (j3 : Int) + (j4 : Int) by omega]; rfl, HF.out.2.1, HF.out.2.2⟩
end Go.Proofs.Ytnjggejallnkoab
