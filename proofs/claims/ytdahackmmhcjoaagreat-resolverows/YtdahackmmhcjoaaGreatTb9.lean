/- A value's place that is made ahead of a call, or behind it. -/
import Derived.Test.YtdahackmmhcjoaaGreatM12
namespace Go.Proofs.YtdahackmmhcjoaaGreat
open Go.RowKit

theorem below_on {a cur c : World} (h : Below a.heap.size a cur) (h2 : Below cur.heap.size cur c) : Below a.heap.size a c := h.trans (h2.mono h.size)
theorem zero_new {X cur c : World} {z : Obj} (h : cur.heap = (X.alloc z).heap) (h2 : Below cur.heap.size cur c) : c.heap[X.heap.size]? = some z := (h2.block _ (by rw [h]; exact blk_lt (blk_new X z))).trans (by rw [h]; exact blk_new X z)
theorem zero_old {X cur c : World} {z : Obj} {g : Nat} (h : X.heap[g]? = some z) (h2 : Below cur.heap.size cur c) (he : cur.heap = X.heap) : c.heap[g]? = some z := (h2.block _ (by rw [he]; exact blk_lt h)).trans (by rw [he]; exact h)
theorem tb_new {W cur w9 : World} {k i : Int} {b : Nat} {t : ByteArray} {p : Option Addr} {n c : Nat} {er : Int} {r : Except Nat V} (h : Below W.heap.size W cur) (hb : Below cur.heap.size cur w9) (hv : AnsR cur.heap.size w9 (cells5 k i b t p n c) er r) : Told5 W (w9.alloc (.cells #[.int .i64 k, .int .i64 i, .float .f64 b, .string t, .slice p n c] 35)) w9.heap.size er r := by
  have h2 := below_on h hb
  refine ⟨h2.alloc h2.size _, ?_⟩
  cases r with
  | error er' => exact hv
  | ok y =>
    refine ⟨hv.1, _, _, _, _, _, _, _, blk_new w9 _, ?_⟩
    have h3 : Below w9.heap.size w9 (w9.alloc (.cells #[.int .i64 k, .int .i64 i, .float .f64 b, .string t, .slice p n c] 35)) := (Below.refl _ _).alloc (Nat.le_refl _) _
    exact (hv.2.under h3 (fun j hj => hj.2)).mono fun j hj => ⟨Nat.le_trans h.size hj.1, Nat.lt_of_lt_of_le hj.2 h3.size⟩
theorem tb_old {W cur w9 : World} {g : Nat} {a0 a1 a2 a3 a4 : Value} {k i : Int} {b : Nat} {t : ByteArray} {p : Option Addr} {n c : Nat} {er : Int} {r : Except Nat V} (h : Below W.heap.size W cur) (hb : Below cur.heap.size cur w9) (hz : w9.heap[g]? = some (.cells #[a0, a1, a2, a3, a4] 35 (0, 0))) (hg : W.heap.size ≤ g) (hgc : g < cur.heap.size) (hv : AnsR cur.heap.size w9 (cells5 k i b t p n c) er r) : Told5 W (put5 w9 g k i b t (.slice p n c)) g er r := by
  have h2 := below_on h hb
  refine ⟨put5_below h2 hg, ?_⟩
  cases r with
  | error er' => exact hv
  | ok y =>
    refine ⟨hv.1, k, i, b, t, p, n, c, put5_block hz, ?_⟩
    rw [put5_size]
    exact (hv.2.aside (put5_aside _) (fun j hj hc => by omega)).mono fun j hj => ⟨Nat.le_trans h.size hj.1, hj.2⟩
end Go.Proofs.YtdahackmmhcjoaaGreat
