/- CLies, WTypeR, WNameR, WFindR, WIsR, K7Pl, LebC, ValueC: put together. -/
import Derived.Test.YticmkgbjannkkaaM07
import Derived.Test.YticmkgbjannkkaaM04
import Derived.Test.YticmkgbjannkkaaM06
import Derived.Test.YticmkgbjannkkaaM09
import Derived.Test.YticmkgbjannkkaaM05

/- How columns and schemas lie in memory. -/
namespace Go.Proofs.Yticmkgbjannkkaa
open Go.RowKit

/-- a column's nine cells -/
def cells9 (n : ByteArray) (k : Int) (tp : Option Addr) (tn tc : Nat) (h : Bool) (vk vi : Int) (vb : Nat) (vt : ByteArray) (vp : Option Addr) (vn vc : Nat) : Array Value := #[.string n, .int .i64 k, .slice tp tn tc, .bool h, .int .i64 vk, .int .i64 vi, .float .f64 vb, .string vt, .slice vp vn vc]
/-- so a column lies -/
structure CLies (w : World) (u : Array Value) (c : Col) : Prop where
  out : ∃ k tp tn tc vk vi vb vt vp vn vc, u = cells9 c.name k tp tn tc c.has vk vi vb vt vp vn vc ∧ TLies w (cells2 k tp tn tc) c.ty ∧ VLies w (cells5 vk vi vb vt vp vn vc) c.dflt
theorem CLies.on {w w' : World} {u : Array Value} {c : Col} (h : CLies w u c) (hb : Below w.heap.size w w') : CLies w' u c := by
  obtain ⟨k, tp, tn, tc, vk, vi, vb, vt, vp, vn, vc, h1, h2, h3⟩ := h.out
  exact ⟨k, tp, tn, tc, vk, vi, vb, vt, vp, vn, vc, h1, h2.on hb, h3.on hb⟩
/-- nine cells from a place on -/
def At9 (w : World) (blk o : Nat) (n : ByteArray) (k : Int) (tp : Option Addr) (tn tc : Nat) (h : Bool) (vk vi : Int) (vb : Nat) (vt : ByteArray) (vp : Option Addr) (vn vc : Nat) : Prop :=
  w.cell? ⟨blk, o, none⟩ = some (.string n) ∧ w.cell? ⟨blk, o + 1, none⟩ = some (.int .i64 k) ∧ w.cell? ⟨blk, o + 2, none⟩ = some (.slice tp tn tc) ∧ w.cell? ⟨blk, o + 3, none⟩ = some (.bool h) ∧ w.cell? ⟨blk, o + 4, none⟩ = some (.int .i64 vk) ∧ w.cell? ⟨blk, o + 5, none⟩ = some (.int .i64 vi) ∧ w.cell? ⟨blk, o + 6, none⟩ = some (.float .f64 vb) ∧ w.cell? ⟨blk, o + 7, none⟩ = some (.string vt) ∧ w.cell? ⟨blk, o + 8, none⟩ = some (.slice vp vn vc)
theorem At9.on {w w' : World} {blk o : Nat} {n : ByteArray} {k : Int} {tp : Option Addr} {tn tc : Nat} {h : Bool} {vk vi : Int} {vb : Nat} {vt : ByteArray} {vp : Option Addr} {vn vc : Nat} (hh : At9 w blk o n k tp tn tc h vk vi vb vt vp vn vc) (hb : Below w.heap.size w w') : At9 w' blk o n k tp tn tc h vk vi vb vt vp vn vc := by
  obtain ⟨h0, h1, h2, h3, h4, h5, h6, h7, h8⟩ := hh
  exact ⟨cell_on hb h0, cell_on hb h1, cell_on hb h2, cell_on hb h3, cell_on hb h4, cell_on hb h5, cell_on hb h6, cell_on hb h7, cell_on hb h8⟩
/-- one of a schema's columns: where it lies -/
structure ItemC (w : World) (p : Option Addr) (j : Nat) (u : Array Value) : Prop where
  lies : ∃ blk off n k tp tn tc h vk vi vb vt vp vn vc, p = some ⟨blk, off, none⟩ ∧ blk < w.heap.size ∧ u = cells9 n k tp tn tc h vk vi vb vt vp vn vc ∧ At9 w blk (off + j * 9) n k tp tn tc h vk vi vb vt vp vn vc
theorem ItemC.on {w w' : World} {p : Option Addr} {j : Nat} {u : Array Value} (h : ItemC w p j u) (hb : Below w.heap.size w w') : ItemC w' p j u := by
  obtain ⟨blk, off, n, k, tp, tn, tc, h, vk, vi, vb, vt, vp, vn, vc, h1, h2, h3, h4⟩ := h.lies
  exact ⟨blk, off, n, k, tp, tn, tc, h, vk, vi, vb, vt, vp, vn, vc, h1, by have := hb.size; omega, h3, h4.on hb⟩
/-- columns lie in a row -/
def Cols (w : World) (p : Option Addr) (s : List Col) : Prop := ∀ j (hj : j < s.length), ∃ u, CLies w u s[j] ∧ ItemC w p j u
theorem Cols.on {w w' : World} {p : Option Addr} {s : List Col} (h : Cols w p s) (hb : Below w.heap.size w w') : Cols w' p s := fun j hj => by
  obtain ⟨u, h1, h2⟩ := h j hj
  exact ⟨u, h1.on hb, h2.on hb⟩
theorem Cols.take {w : World} {p : Option Addr} {s : List Col} (h : Cols w p s) (n : Nat) : Cols w p (s.take n) := fun j hj => by
  have hj2 : j < s.length := by rw [List.length_take] at hj; omega
  obtain ⟨u, h1, h2⟩ := h j hj2
  exact ⟨u, by simpa using h1, h2⟩
/-- one of them, opened: its cells, its type, its default -/
theorem Cols.at {w : World} {p : Option Addr} {s : List Col} (h : Cols w p s) (j : Nat) (hj : j < s.length) : ∃ blk off k tp tn tc vk vi vb vt vp vn vc, p = some ⟨blk, off, none⟩ ∧ blk < w.heap.size ∧ At9 w blk (off + j * 9) s[j].name k tp tn tc s[j].has vk vi vb vt vp vn vc ∧ TLies w (cells2 k tp tn tc) s[j].ty ∧ VLies w (cells5 vk vi vb vt vp vn vc) s[j].dflt := by
  obtain ⟨u, h1, h2⟩ := h j hj
  obtain ⟨blk, off, n, k, tp, tn, tc, hs, vk, vi, vb, vt, vp, vn, vc, e1, e2, e3, e4⟩ := h2.lies
  obtain ⟨k', tp', tn', tc', vk', vi', vb', vt', vp', vn', vc', g1, g2, g3⟩ := h1.out
  rw [e3] at g1
  simp only [cells9] at g1
  injection g1 with g1
  injection g1 with q0 g1
  injection g1 with q1 g1
  injection g1 with q2 g1
  injection g1 with q3 g1
  injection g1 with q4 g1
  injection g1 with q5 g1
  injection g1 with q6 g1
  injection g1 with q7 g1
  injection g1 with q8 g1
  injection q0 with q0
  injection q1 with _ q1
  injection q2 with q2 q2a q2b
  injection q3 with q3
  injection q4 with _ q4
  injection q5 with _ q5
  injection q6 with _ q6
  injection q7 with q7
  injection q8 with q8 q8a q8b
  subst q0 q1 q2 q2a q2b q3 q4 q5 q6 q7 q8 q8a q8b
  exact ⟨blk, off, k, tp, tn, tc, vk, vi, vb, vt, vp, vn, vc, e1, e2, e4, g2, g3⟩
/-- a schema lies -/
structure SLies (w : World) (u : Array Value) (s : List Col) : Prop where
  out : ∃ p c, u = #[.slice p s.length c] ∧ s.length * 120 ≤ 140737488351232 ∧ s.length ≤ c ∧ Cols w p s
theorem SLies.on {w w' : World} {u : Array Value} {s : List Col} (h : SLies w u s) (hb : Below w.heap.size w w') : SLies w' u s := by
  obtain ⟨p, c, h1, h2, h3, h4⟩ := h.out
  exact ⟨p, c, h1, h2, h3, h4.on hb⟩
end Go.Proofs.Yticmkgbjannkkaa

/- The document's typeAt, CheckType. -/
namespace Go.Proofs.Yticmkgbjannkkaa
open Go.RowKit

end Go.Proofs.Yticmkgbjannkkaa

/- The document's Name. -/
namespace Go.Proofs.Yticmkgbjannkkaa
open Go.RowKit

theorem headD_get {l : List UInt8} (h : 0 < l.length) : l.headD 0 = l[0] := by
  cases l with
  | nil => simp at h
  | cons a r => rfl
theorem name_short {t : ByteArray} (h : t.size < 1 ∨ 16 < t.size) : Sch.name t = false := by
  have hs : t.data.toList.length = t.size := by rw [Array.length_toList]; rfl
  unfold Sch.name Sch.nameL
  rw [decide_eq_false (by omega)]
  rfl
theorem name_head {t : ByteArray} (h : 0 < t.size) (hc : Sch.low t[0] = false) : Sch.name t = false := by
  have hs : t.data.toList.length = t.size := by rw [Array.length_toList]; rfl
  unfold Sch.name Sch.nameL
  have e : t.data.toList.headD 0 = t[0] := by
    rw [← text_get t 0 h]
    exact headD_get (by omega)
  rw [e, hc, Bool.and_false, Bool.false_and]
theorem name_bad {t : ByteArray} (j : Nat) (h : j < t.size) (hc : Sch.ch t[j] = false) : Sch.name t = false := by
  have hs : t.data.toList.length = t.size := by rw [Array.length_toList]; rfl
  unfold Sch.name Sch.nameL
  have : t.data.toList.all Sch.ch = false := by
    rw [List.all_eq_false]
    refine ⟨t[j], ?_, by simp [hc]⟩
    rw [← text_get t j h]
    exact List.getElem_mem _
  rw [this, Bool.and_false]
theorem name_good {t : ByteArray} (h1 : 1 ≤ t.size) (h2 : t.size ≤ 16) (h3 : Sch.low (t[0]'(by omega)) = true) (h4 : ∀ j (h : j < t.size), Sch.ch t[j] = true) : Sch.name t = true := by
  have hs : t.data.toList.length = t.size := by rw [Array.length_toList]; rfl
  unfold Sch.name Sch.nameL
  have e : t.data.toList.headD 0 = t[0]'(by omega) := by
    rw [← text_get t 0 (by omega)]
    exact headD_get (by omega)
  have : t.data.toList.all Sch.ch = true := by
    rw [List.all_eq_true]
    intro x hx
    obtain ⟨j, hj, rfl⟩ := List.getElem_of_mem hx
    rw [text_get t j (by omega)]
    exact h4 j (by omega)
  rw [e, h3, this, decide_eq_true (by omega)]
  rfl

end Go.Proofs.Yticmkgbjannkkaa

/- The document's Find. -/
namespace Go.Proofs.Yticmkgbjannkkaa
open Go.RowKit

/-- what Find tells -/
def foundV (r : Option Nat) : Value := match r with
  | some k => .tuple #[.int .i64 k, .bool true]
  | none => .tuple #[.int .i64 0, .bool false]
theorem find_ge (n : ByteArray) : ∀ (s : List Col) (k j : Nat), Sch.find n s k = some j → k ≤ j
  | [], _, _, h => by simp [Sch.find] at h
  | c :: r, k, j, h => by
    rw [Sch.find] at h
    split at h
    · injection h; omega
    · have := find_ge n r (k + 1) j h; omega
theorem find_drop (n : ByteArray) (s : List Col) (j : Nat) (hj : j < s.length) : Sch.find n (s.drop j) j = if s[j].name = n then some j else Sch.find n (s.drop (j + 1)) (j + 1) := by
  rw [List.drop_eq_getElem_cons hj, Sch.find]

end Go.Proofs.Yticmkgbjannkkaa

/- The document's of, Is. -/
namespace Go.Proofs.Yticmkgbjannkkaa
open Go.RowKit

end Go.Proofs.Yticmkgbjannkkaa

/- Plain: when two schemas are the same, column by column. -/
namespace Go.Proofs.Yticmkgbjannkkaa

theorem sameS_ne : ∀ (s t : List Col), s.length ≠ t.length → Sch.same s t = false
  | [], [], h => absurd rfl h
  | [], _ :: _, _ => rfl
  | _ :: _, [], _ => rfl
  | c :: s, d :: t, h => by rw [Sch.same, sameS_ne s t (by simpa using h), Bool.and_false]
theorem sameS_at : ∀ (s t : List Col) (j : Nat) (h1 : j < s.length) (h2 : j < t.length), Sch.colSame s[j] t[j] = false → Sch.same s t = false
  | c :: s, d :: t, 0, _, _, h => by rw [Sch.same]; simp at h; rw [h, Bool.false_and]
  | c :: s, d :: t, j + 1, h1, h2, h => by rw [Sch.same, sameS_at s t j (by simpa using h1) (by simpa using h2) (by simpa using h), Bool.and_false]
theorem sameS_all : ∀ (s t : List Col), s.length = t.length → (∀ j (h1 : j < s.length) (h2 : j < t.length), Sch.colSame s[j] t[j] = true) → Sch.same s t = true
  | [], [], _, _ => rfl
  | [], _ :: _, h, _ => by simp at h
  | _ :: _, [], h, _ => by simp at h
  | c :: s, d :: t, h, ha => by
    rw [Sch.same, sameS_all s t (by simpa using h) (fun j h1 h2 => by have := ha (j + 1) (by simpa using h1) (by simpa using h2); simpa using this)]
    have := ha 0 (by simp) (by simp)
    simp at this
    rw [this]; rfl

end Go.Proofs.Yticmkgbjannkkaa

/- In this stage nothing is asked of package leb by the laws themselves: the plain facts on its numbers come from here. -/

/- In this stage nothing is asked of package value by the laws themselves. -/
