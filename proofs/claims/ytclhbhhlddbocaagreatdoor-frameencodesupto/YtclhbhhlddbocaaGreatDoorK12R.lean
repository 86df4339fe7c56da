/- The landed frame: what Decode answers. -/
import Derived.Test.YtclhbhhlddbocaaGreatDoorK12O
namespace Go.Proofs.YtclhbhhlddbocaaGreatDoor
open Go.RowKit

section
variable {P : Program} {Q : Exit → Act → World → Prop}
def calm12 (Q : Exit → Act → World → Prop) : Exit → Act → World → Prop
  | .panic _, _, _ => False
  | e, a, w => Q e a w
theorem calm12_normal (a : Act) (w : World) : calm12 Q .normal a w = Q .normal a w := rfl
theorem wp_calm12 {c : Code} {a : Act} {w : World} (h : c.wp P (calm12 Q) a w) : c.wp P Q a w := Code.wp_mono (fun e a w he => by cases e <;> first | exact he | exact he.elim) h
end

/-- what Decode answers: the frame in blocks of its own, or the error alone -/
def DecF (w : World) (r : Except Nat Fr) (e : Ending) (w' : World) : Prop := match r with
  | .error k => e = .returned (.tuple #[.agg #[.int .i64 0, .int .i64 0, .slice none 0 0, .int .i64 0, .int .i64 0, .int .i64 0, .slice none 0 0, .int .i64 0, .int .i64 0, .int .i64 0, .slice none 0 0], .int .i64 (k : Nat)]) ∧ Below w.heap.size w w'
  | .ok f => ∃ u, e = .returned (.tuple #[.agg u, .int .i64 0]) ∧ FOwn w' w.heap.size u f ∧ Below w.heap.size w w'
theorem open_ne {l : List UInt8} {e : Nat} (h : Fr.open_ l = .error e) : e ≠ 0 := by
  unfold Fr.open_ at h
  split at h
  · injection h with h; omega
  · split at h
    · next h1 => injection h with h; rw [← h]; exact h1
    · split at h
      · injection h with h; omega
      · split at h
        · cases h
        · injection h with h; omega
/-- the parts of a frame that was read, behind the last stores -/
theorem fown_sch {w W : World} {B : Nat} {f : Fr} {sp : Option Addr} {sc : Nat} (hk : Fr.norm f = f) (h1 : f.kind = 1) (hs : SOwn W B #[.slice sp f.cols.length sc] f.cols) (hB : w.heap.size ≤ B) : FOwn W w.heap.size #[.int .i64 1, .int .i64 f.number, .slice sp f.cols.length sc, .int .i64 0, .int .i64 0, .int .i64 0, .slice none 0 0, .int .i64 0, .int .i64 0, .int .i64 0, .slice none 0 0] f := by
  have e : f = { Fr0 with kind := 1, number := f.number, cols := f.cols.map Col.fix } := by
    have := hk
    unfold Fr.norm at this
    rw [if_pos h1] at this
    exact this.symm
  have e1 : f.seq = 0 := by rw [e]; rfl
  have e2 : f.first = 0 := by rw [e]; rfl
  have e3 : f.rows = 0 := by rw [e]; rfl
  have e4 : f.block = [] := by rw [e]; rfl
  have e5 : f.index = Idx0 := by rw [e]; rfl
  refine ⟨sp, sc, none, 0, none, 0, ?_, sown_low hs hB, ?_, ?_, ?_, ?_⟩
  · unfold cells11
    rw [h1, e1, e2, e3, e4, e5]
    rfl
  · rw [e4]; exact has_nil _ _
  · rw [e4]; decide
  · rw [e5]; exact eown_nil _ _
  · rw [e5]; decide
theorem fown_dat {w W : World} {B : Nat} {f : Fr} {bp : Option Addr} {bc : Nat} (hk : Fr.norm f = f) (h1 : f.kind = 2) (hs : Has W B (.slice bp f.block.length bc) f.block) (hl : f.block.length ≤ 2200) (hB : w.heap.size ≤ B) : FOwn W w.heap.size #[.int .i64 2, .int .i64 f.number, .slice none 0 0, .int .i64 f.seq, .int .i64 f.first, .int .i64 f.rows, .slice bp f.block.length bc, .int .i64 0, .int .i64 0, .int .i64 0, .slice none 0 0] f := by
  have e : f = { Fr0 with kind := 2, number := f.number, seq := f.seq, first := f.first, rows := f.rows, block := f.block } := by
    have := hk
    unfold Fr.norm at this
    rw [if_neg (by omega), if_pos h1] at this
    exact this.symm
  have e4 : f.cols = [] := by rw [e]; rfl
  have e5 : f.index = Idx0 := by rw [e]; rfl
  refine ⟨none, 0, bp, bc, none, 0, ?_, ?_, hs.lower hB, hl, ?_, ?_⟩
  · unfold cells11
    rw [h1, e4, e5]
    rfl
  · rw [e4]; exact sown_nil _ _
  · rw [e5]; exact eown_nil _ _
  · rw [e5]; decide
theorem fown_idx {w W : World} {B : Nat} {f : Fr} {ep : Option Addr} {ec : Nat} (hk : Fr.norm f = f) (h1 : f.kind = 3) (hs : EOwn W B (.slice ep f.index.entries.length ec) f.index.entries) (hl : f.index.entries.length ≤ 64) (hB : w.heap.size ≤ B) : FOwn W w.heap.size #[.int .i64 3, .int .i64 0, .slice none 0 0, .int .i64 0, .int .i64 0, .int .i64 0, .slice none 0 0, .int .i64 f.index.at_, .int .i64 f.index.frames, .int .i64 f.index.rows, .slice ep f.index.entries.length ec] f := by
  have e : f = { Fr0 with kind := 3, index := f.index } := by
    have := hk
    unfold Fr.norm at this
    rw [if_neg (by omega), if_neg (by omega)] at this
    exact this.symm
  have e0 : f.number = 0 := by rw [e]; rfl
  have e1 : f.seq = 0 := by rw [e]; rfl
  have e2 : f.first = 0 := by rw [e]; rfl
  have e3 : f.rows = 0 := by rw [e]; rfl
  have e4 : f.block = [] := by rw [e]; rfl
  have e5 : f.cols = [] := by rw [e]; rfl
  refine ⟨none, 0, none, 0, ep, ec, ?_, ?_, ?_, ?_, hs.low hB, hl⟩
  · unfold cells11
    rw [h1, e0, e1, e2, e3, e4, e5]
    rfl
  · rw [e5]; exact sown_nil _ _
  · rw [e4]; exact has_nil _ _
  · rw [e4]; decide

/-- the last stores: the frame's cells, the error's -/
theorem last11 {w w4 : World} (hI : DecIn12 w w4 0) (c0 c1 c2 c3 c4 c5 c6 c7 c8 c9 c10 : Value) : ((((((((((((w4.setCell ⟨w.heap.size, 0, none⟩ (c0)).setCell ⟨w.heap.size, 1, none⟩ (c1)).setCell ⟨w.heap.size, 2, none⟩ (c2)).setCell ⟨w.heap.size, 3, none⟩ (c3)).setCell ⟨w.heap.size, 4, none⟩ (c4)).setCell ⟨w.heap.size, 5, none⟩ (c5)).setCell ⟨w.heap.size, 6, none⟩ (c6)).setCell ⟨w.heap.size, 7, none⟩ (c7)).setCell ⟨w.heap.size, 8, none⟩ (c8)).setCell ⟨w.heap.size, 9, none⟩ (c9)).setCell ⟨w.heap.size, 10, none⟩ (c10)).setCell ⟨w.heap.size + 1, 0, none⟩ (.int .i64 0)).heap[w.heap.size]? = some (.cells #[c0, c1, c2, c3, c4, c5, c6, c7, c8, c9, c10] 30 (0, 0)) ∧ ((((((((((((w4.setCell ⟨w.heap.size, 0, none⟩ (c0)).setCell ⟨w.heap.size, 1, none⟩ (c1)).setCell ⟨w.heap.size, 2, none⟩ (c2)).setCell ⟨w.heap.size, 3, none⟩ (c3)).setCell ⟨w.heap.size, 4, none⟩ (c4)).setCell ⟨w.heap.size, 5, none⟩ (c5)).setCell ⟨w.heap.size, 6, none⟩ (c6)).setCell ⟨w.heap.size, 7, none⟩ (c7)).setCell ⟨w.heap.size, 8, none⟩ (c8)).setCell ⟨w.heap.size, 9, none⟩ (c9)).setCell ⟨w.heap.size, 10, none⟩ (c10)).setCell ⟨w.heap.size + 1, 0, none⟩ (.int .i64 0)).cell? ⟨w.heap.size + 1, 0, none⟩ = some (.int .i64 0) ∧ Aside (fun i => i = w.heap.size ∨ i = w.heap.size + 1) w4 ((((((((((((w4.setCell ⟨w.heap.size, 0, none⟩ (c0)).setCell ⟨w.heap.size, 1, none⟩ (c1)).setCell ⟨w.heap.size, 2, none⟩ (c2)).setCell ⟨w.heap.size, 3, none⟩ (c3)).setCell ⟨w.heap.size, 4, none⟩ (c4)).setCell ⟨w.heap.size, 5, none⟩ (c5)).setCell ⟨w.heap.size, 6, none⟩ (c6)).setCell ⟨w.heap.size, 7, none⟩ (c7)).setCell ⟨w.heap.size, 8, none⟩ (c8)).setCell ⟨w.heap.size, 9, none⟩ (c9)).setCell ⟨w.heap.size, 10, none⟩ (c10)).setCell ⟨w.heap.size + 1, 0, none⟩ (.int .i64 0)) ∧ Below w.heap.size w ((((((((((((w4.setCell ⟨w.heap.size, 0, none⟩ (c0)).setCell ⟨w.heap.size, 1, none⟩ (c1)).setCell ⟨w.heap.size, 2, none⟩ (c2)).setCell ⟨w.heap.size, 3, none⟩ (c3)).setCell ⟨w.heap.size, 4, none⟩ (c4)).setCell ⟨w.heap.size, 5, none⟩ (c5)).setCell ⟨w.heap.size, 6, none⟩ (c6)).setCell ⟨w.heap.size, 7, none⟩ (c7)).setCell ⟨w.heap.size, 8, none⟩ (c8)).setCell ⟨w.heap.size, 9, none⟩ (c9)).setCell ⟨w.heap.size, 10, none⟩ (c10)).setCell ⟨w.heap.size + 1, 0, none⟩ (.int .i64 0)) := by
  have hs := hI.size
  have hA1 : Aside (fun i => i = w.heap.size) w4 (((((((((((w4.setCell ⟨w.heap.size, 0, none⟩ (c0)).setCell ⟨w.heap.size, 1, none⟩ (c1)).setCell ⟨w.heap.size, 2, none⟩ (c2)).setCell ⟨w.heap.size, 3, none⟩ (c3)).setCell ⟨w.heap.size, 4, none⟩ (c4)).setCell ⟨w.heap.size, 5, none⟩ (c5)).setCell ⟨w.heap.size, 6, none⟩ (c6)).setCell ⟨w.heap.size, 7, none⟩ (c7)).setCell ⟨w.heap.size, 8, none⟩ (c8)).setCell ⟨w.heap.size, 9, none⟩ (c9)).setCell ⟨w.heap.size, 10, none⟩ (c10)) := set11_aside w4 w.heap.size c0 c1 c2 c3 c4 c5 c6 c7 c8 c9 c10
  have hG1 : (((((((((((w4.setCell ⟨w.heap.size, 0, none⟩ (c0)).setCell ⟨w.heap.size, 1, none⟩ (c1)).setCell ⟨w.heap.size, 2, none⟩ (c2)).setCell ⟨w.heap.size, 3, none⟩ (c3)).setCell ⟨w.heap.size, 4, none⟩ (c4)).setCell ⟨w.heap.size, 5, none⟩ (c5)).setCell ⟨w.heap.size, 6, none⟩ (c6)).setCell ⟨w.heap.size, 7, none⟩ (c7)).setCell ⟨w.heap.size, 8, none⟩ (c8)).setCell ⟨w.heap.size, 9, none⟩ (c9)).setCell ⟨w.heap.size, 10, none⟩ (c10)).heap[w.heap.size]? = some (.cells #[c0, c1, c2, c3, c4, c5, c6, c7, c8, c9, c10] 30 (0, 0)) := set11_block hI.b0 c0 c1 c2 c3 c4 c5 c6 c7 c8 c9 c10
  have hE1 : (((((((((((w4.setCell ⟨w.heap.size, 0, none⟩ (c0)).setCell ⟨w.heap.size, 1, none⟩ (c1)).setCell ⟨w.heap.size, 2, none⟩ (c2)).setCell ⟨w.heap.size, 3, none⟩ (c3)).setCell ⟨w.heap.size, 4, none⟩ (c4)).setCell ⟨w.heap.size, 5, none⟩ (c5)).setCell ⟨w.heap.size, 6, none⟩ (c6)).setCell ⟨w.heap.size, 7, none⟩ (c7)).setCell ⟨w.heap.size, 8, none⟩ (c8)).setCell ⟨w.heap.size, 9, none⟩ (c9)).setCell ⟨w.heap.size, 10, none⟩ (c10)).heap[w.heap.size + 1]? = some (.cells #[.int .i64 0] 31 (0, 0)) := (hA1.block _ (blk_lt hI.b1) (by omega)).trans hI.b1
  have hA2 := aside_set (((((((((((w4.setCell ⟨w.heap.size, 0, none⟩ (c0)).setCell ⟨w.heap.size, 1, none⟩ (c1)).setCell ⟨w.heap.size, 2, none⟩ (c2)).setCell ⟨w.heap.size, 3, none⟩ (c3)).setCell ⟨w.heap.size, 4, none⟩ (c4)).setCell ⟨w.heap.size, 5, none⟩ (c5)).setCell ⟨w.heap.size, 6, none⟩ (c6)).setCell ⟨w.heap.size, 7, none⟩ (c7)).setCell ⟨w.heap.size, 8, none⟩ (c8)).setCell ⟨w.heap.size, 9, none⟩ (c9)).setCell ⟨w.heap.size, 10, none⟩ (c10)) (w.heap.size + 1) 0 (.int .i64 0)
  have hA3 := (hA1.mono (G := fun i => i = w.heap.size ∨ i = w.heap.size + 1) (fun _ _ h => .inl h)).trans hA2 (fun _ _ h => .inr h)
  exact ⟨(hA2.block _ (blk_lt hG1) (by omega)).trans hG1, blk_cell (blk_set hE1 0 _) 0, hA3, hI.below.trans (hA3.below (by omega) (fun k hk => by omega))⟩
end Go.Proofs.YtclhbhhlddbocaaGreatDoor
