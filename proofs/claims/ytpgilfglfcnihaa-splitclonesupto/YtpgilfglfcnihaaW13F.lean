/- A splitter and all that it was fed, piece by piece. -/
import Derived.Test.YtpgilfglfcnihaaL13C
import Derived.Test.YtpgilfglfcnihaaSp3
namespace Go.Proofs.Ytpgilfglfcnihaa
open Go.RowKit

/-- pieces of bytes that came in -/
def PcL (w : World) (p : Option Addr) (ps : List (List UInt8)) : Prop := ∀ j (hj : j < ps.length), ∃ b o q c, p = some ⟨b, o, none⟩ ∧ w.cell? ⟨b, o + j, none⟩ = some (.slice q ps[j].length c) ∧ ps[j].length ≤ c ∧ At w q ps[j]
theorem PcL.on {w w' : World} {p : Option Addr} {ps : List (List UInt8)} (h : PcL w p ps) (hb : Below w.heap.size w w') : PcL w' p ps := fun j hj => by
  obtain ⟨b, o, q, c, h1, h2, h3, h4⟩ := h j hj
  exact ⟨b, o, q, c, h1, by rw [hb.cell (p := ⟨b, o + j, none⟩) (World.block_lt_of_cell? _ _ h2)]; exact h2, h3, h4.on hb⟩

/-- between two pieces: the splitter, and all that came -/
structure FdS (w wr : World) (B g : Nat) (v a : Value) (m : List UInt8) : Prop where
  low : Below w.heap.size w wr
  spl : Spl wr B g v (Sp.of m)
  all : Has wr B a m
  off : ∀ k, a.ownBlock = some k → v.ownBlock ≠ some k
/-- a piece was fed, its runs are told -/
structure FdM (w w3 w4 : World) (B g : Nat) (v a : Value) (m p : List UInt8) (rv : Value) (bs : List Nat) : Prop where
  low : Below w.heap.size w w4
  spl : Spl w4 B g v (Sp.of (m ++ p))
  all : Has w4 B a m
  off : ∀ k, a.ownBlock = some k → v.ownBlock ≠ some k
  runs : RunsO w4 w3.heap.size rv bs ((Sp.of m).tolds p)
  offb : ∀ k ∈ bs, v.ownBlock ≠ some k
  alow : ∀ k, a.ownBlock = some k → k < w3.heap.size
  size : w3.heap.size ≤ w4.heap.size
/-- the piece is put behind what came -/
structure FdE (w w6 : World) (B Z g : Nat) (v a : Value) (m p : List UInt8) (rv : Value) (bs : List Nat) : Prop where
  low : Below w.heap.size w w6
  spl : Spl w6 B g v (Sp.of (m ++ p))
  all : Has w6 B a (m ++ p)
  off : ∀ k, a.ownBlock = some k → v.ownBlock ≠ some k
  runs : RunsO w6 Z rv bs ((Sp.of m).tolds p)
  offb : ∀ k ∈ bs, v.ownBlock ≠ some k
  offa : ∀ k ∈ bs, a.ownBlock ≠ some k
  base : w.heap.size ≤ Z
section
variable {w wr w3 w4 w5 w6 : World} {B Z g : Nat} {v v4 a a' rv : Value} {bs : List Nat} {m p : List UInt8}
theorem FdS.on (h : FdS w wr B g v a m) (hb : Below wr.heap.size wr w4) : FdS w w4 B g v a m := ⟨h.low.trans (hb.mono h.low.size), h.spl.on hb, h.all.on hb, h.off⟩
theorem FdS.fed (h : FdS w w3 B g v a m) (hB : w.heap.size ≤ B) (f : FI w3 w4 B g v rv v4 bs (Sp.of m) p) : FdM w w3 w4 B g v4 a m p rv bs := by
  have hg : a.ownBlock ≠ some g := has_apart h.all h.spl.lies (by decide)
  refine ⟨h.low.trans (f.below h.spl hB h.low.size), by rw [Sp.of_append]; exact f.spl, h.all.aside f.aside (fun k hk hc => ?_), fun k hk hc => ?_, f.runs, f.off, fun k hk => (h.all.lt k hk).2, f.aside.size⟩
  · rcases hc with hc | hc
    · exact hg (by rw [hk, hc])
    · exact h.off k hk hc
  · rcases f.own k hc with h1 | h1
    · exact h.off k hk h1
    · have := (h.all.lt k hk).2
      omega
theorem FdM.aside {F : Nat → Prop} (h : FdM w w3 w4 B g v a m p rv bs) (ha : Aside F w4 w5) (hw : ∀ k, F k → w.heap.size ≤ k) (hg : ¬ F g) (hv : ∀ k, v.ownBlock = some k → ¬ F k) (hA : ∀ k, a.ownBlock = some k → ¬ F k) (hr : ∀ k, rv.ownBlock = some k → ¬ F k) (hb : ∀ k ∈ bs, ¬ F k) : FdM w w3 w5 B g v a m p rv bs := by
  have hs := h.low.size
  refine ⟨h.low.trans (ha.below hs (fun k hk hc => by have := hw k hc; omega)), h.spl.aside ha hg hv, h.all.aside ha hA, h.off, h.runs.aside ha hr hb, h.offb, h.alow, Nat.le_trans h.size ha.size⟩
theorem FdM.more (h : FdM w w3 w5 B g v a m p rv bs) (hB : w.heap.size ≤ B) (hw : w.heap.size ≤ w3.heap.size) (hh : Has w6 B a' (m ++ p)) (ha : Aside (fun k => a.ownBlock = some k) w5 w6) (ho : ∀ k, a'.ownBlock = some k → a.ownBlock = some k ∨ w5.heap.size ≤ k) : FdE w w6 B w3.heap.size g v a' m p rv bs := by
  have hg : a.ownBlock ≠ some g := has_apart h.all h.spl.lies (by decide)
  have hs := h.low.size
  refine ⟨h.low.trans (ha.below hs (fun k hk hc => by have := (h.all.lt k hc).1; omega)), h.spl.aside ha hg (fun k hk hc => h.off k hc hk), hh, fun k hk hc => ?_, h.runs.aside ha (fun k hk hc => ?_) (fun k hk hc => ?_), h.offb, fun k hk hc => ?_, hw⟩
  · rcases ho k hk with h1 | h1
    · exact h.off k h1 hc
    · have := (h.spl.held.lt k hc).2
      omega
  · have := (h.runs.lt k hk).1
    have := h.alow k hc
    omega
  · have := (h.runs.mem k hk).1
    have := h.alow k hc
    omega
  · rcases ho k hc with h1 | h1
    · have := (h.runs.mem k hk).1
      have := h.alow k h1
      omega
    · have := (h.runs.mem k hk).2
      omega
theorem FdE.on (h : FdE w w5 B Z g v a m p rv bs) (hb : Below w5.heap.size w5 w6) : FdE w w6 B Z g v a m p rv bs := ⟨h.low.trans (hb.mono h.low.size), h.spl.on hb, h.all.on hb, h.off, h.runs.on hb, h.offb, h.offa, h.base⟩
theorem FdE.drewN (h : FdE w w5 B Z g v a m p rv bs) (n : Nat) : FdE w (w5.drewN n) B Z g v a m p rv bs := ⟨below_drewN h.low n, h.spl.drewN n, h.all.drewN n, h.off, h.runs.drewN n, h.offb, h.offa, h.base⟩
theorem FdE.next (h : FdE w w6 B Z g v a m p rv bs) : FdS w w6 B g v a (m ++ p) := ⟨h.low, h.spl, h.all, h.off⟩
theorem FdE.spoilt (h : FdE w w5 B Z g v a m p rv bs) (ha : Aside (fun k => k ∈ bs ∨ rv.ownBlock = some k) w5 w6) : FdS w w6 B g v a (m ++ p) := by
  have hs := h.low.size
  have hz := h.base
  have hr : ∀ {k : Nat} {C : Array Value} {T : TypeId}, w5.heap[k]? = some (.cells C T) → T ≠ 39 → rv.ownBlock ≠ some k := fun hC hT => h.runs.apart hC hT
  refine ⟨h.low.trans (ha.below hs (fun k hk hc => ?_)), h.spl.aside ha (fun hc => ?_) (fun k hk hc => ?_), h.all.aside ha (fun k hk hc => ?_), h.off⟩
  · rcases hc with hc | hc
    · have := (h.runs.mem k hc).1
      omega
    · have := (h.runs.lt k hc).1
      omega
  · rcases hc with hc | hc
    · obtain ⟨C, hC⟩ := h.runs.block g hc
      rw [h.spl.lies] at hC
      injection hC with hC
      injection hC with _ hC
      exact absurd hC (by decide)
    · exact hr h.spl.lies (by decide) hc
  · rcases hc with hc | hc
    · exact h.offb k hc hk
    · obtain ⟨C, hC⟩ := has_block h.spl.held hk
      exact hr hC (by decide) hc
  · rcases hc with hc | hc
    · exact h.offa k hc hk
    · obtain ⟨C, hC⟩ := has_block h.all hk
      exact hr hC (by decide) hc
end
theorem flat_len (ps : List (List UInt8)) (i : Nat) (hi : i < ps.length) : ((ps.take i).flatten).length + ps[i].length ≤ ps.flatten.length := by
  have h1 : ps.flatten = (ps.take (i + 1)).flatten ++ (ps.drop (i + 1)).flatten := by rw [← List.flatten_append, List.take_append_drop]
  have h2 : (ps.take (i + 1)).flatten = (ps.take i).flatten ++ ps[i] := by rw [List.take_succ_eq_append_getElem hi, List.flatten_append]; simp only [List.flatten_cons, List.flatten_nil, List.append_nil]
  rw [h1, h2, List.length_append, List.length_append]
  omega
theorem flat_succ (ps : List (List UInt8)) (i : Nat) (hi : i < ps.length) : (ps.take (i + 1)).flatten = (ps.take i).flatten ++ ps[i] := by rw [List.take_succ_eq_append_getElem hi, List.flatten_append]; simp only [List.flatten_cons, List.flatten_nil, List.append_nil]
end Go.Proofs.Ytpgilfglfcnihaa
