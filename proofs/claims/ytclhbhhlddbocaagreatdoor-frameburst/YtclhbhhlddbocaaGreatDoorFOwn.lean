/- Entries and frames that lie in blocks of their own. -/
import Derived.Test.YtclhbhhlddbocaaGreatDoorFLies
import Derived.Test.YtclhbhhlddbocaaGreatDoorB06
import Derived.Test.YtclhbhhlddbocaaGreatDoorB01
namespace Go.Proofs.YtclhbhhlddbocaaGreatDoor
open Go.RowKit

def entC (e : Ent) : List Value := [.int .i64 e.at_, .int .i64 e.row, .int .i64 e.sch]
def entCells (es : List Ent) : List Value := (es.map entC).flatten
theorem entCells_append (a b : List Ent) : entCells (a ++ b) = entCells a ++ entCells b := by
  unfold entCells
  rw [List.map_append, List.flatten_append]
theorem entCells_get : ∀ (es : List Ent) (j : Nat) (h : j < es.length) (m : Nat), m < 3 → (entCells es)[j * 3 + m]? = (entC es[j])[m]?
  | [], j, h, _, _ => by simp at h
  | e :: es, 0, h, m, hm => by
    show (entC e ++ entCells es)[0 * 3 + m]? = _
    rw [Nat.zero_mul, Nat.zero_add, List.getElem?_append_left (by exact hm)]
    rfl
  | e :: es, j + 1, h, m, hm => by
    show (entC e ++ entCells es)[(j + 1) * 3 + m]? = _
    have hl : (entC e).length = 3 := rfl
    rw [List.getElem?_append_right (by rw [hl]; omega), hl, show (j + 1) * 3 + m - 3 = j * 3 + m by omega, entCells_get es j (by simpa using h) m hm]
    rfl
/-- entries in a row of the call's own -/
def EOwn (w : World) (B : Nat) (v : Value) (es : List Ent) : Prop := w.ownsRow B 102 3 v es.length (entCells es)
theorem eown_nil (w : World) (B : Nat) : EOwn w B (.slice none 0 0) [] := ⟨rfl, .inl ⟨rfl, rfl⟩⟩
section
variable {w w' : World} {B : Nat} {v : Value} {es : List Ent}
theorem EOwn.lt (h : EOwn w B v es) : ∀ k, v.ownBlock = some k → B ≤ k ∧ k < w.heap.size := World.ownsRow.lt h
theorem EOwn.aside {F : Nat → Prop} (h : EOwn w B v es) (ha : Aside F w w') (hp : ∀ k, v.ownBlock = some k → ¬ F k) : EOwn w' B v es := by
  refine ⟨h.1, ?_⟩
  rcases h.2 with h1 | ⟨g, cap, cur, rfl, h2, h3, h4⟩
  · exact .inl h1
  · refine .inr ⟨g, cap, cur, rfl, h2, ?_, h4⟩
    rw [ha.block g (Array.getElem?_eq_some_iff.1 h3).1 (hp g rfl)]
    exact h3
theorem EOwn.low {B' : Nat} (h : EOwn w B v es) (hB : B' ≤ B) : EOwn w B' v es := by
  refine ⟨h.1, ?_⟩
  rcases h.2 with h1 | ⟨g, cap, cur, rfl, h2, h3⟩
  · exact .inl h1
  · exact .inr ⟨g, cap, cur, rfl, by omega, h3⟩
theorem EOwn.on (h : EOwn w B v es) (hb : Below w.heap.size w w') : EOwn w' B v es := h.aside (aside_new hb (fun _ => False)) (fun _ _ hc => hc)
theorem EOwn.ents (h : EOwn w B v es) : ∃ p c, v = .slice p es.length c ∧ es.length ≤ c ∧ Ents w p es ∧ (p = none ∨ ∃ g, p = some ⟨g, 0, none⟩) := by
  rcases h.2 with ⟨rfl, h0⟩ | ⟨g, cap, cur, rfl, h1, h2, h3, h4, h5, h6⟩
  · have h0' := List.eq_nil_of_length_eq_zero h0
    subst h0'
    exact ⟨none, 0, rfl, Nat.le_refl _, ents_nil _ _, .inl rfl⟩
  · refine ⟨_, cap, rfl, h3, fun j hj => ?_, .inr ⟨g, rfl⟩⟩
    have hg := (Array.getElem?_eq_some_iff.1 h2).1
    have hcell : ∀ m, m < 3 → w.cell? ⟨g, 0 + j * 3 + m, none⟩ = (entC es[j])[m]? := fun m hm => by
      rw [Nat.zero_add, ← entCells_get es j hj m hm, ← h6, List.getElem?_take_of_lt (by omega)]
      simp [World.cell?, h2]
    exact ⟨g, 0, rfl, hg, hcell 0 (by omega), hcell 1 (by omega), hcell 2 (by omega)⟩
end
def zeroE : Value := .agg #[.int .i64 0, .int .i64 0, .int .i64 0]
theorem infoE : (Tryz.prog.info? 102).map (fun i => (i.zero, i.size, i.bytes)) = some (some zeroE, 3, 24) := by kernel_rfl
section
variable {B : Nat} {v : Value} {es : List Ent} {w : World} {e : Ent} {ad H : Nat}
theorem oneE (e : Ent) : ∀ a ∈ (#[.int .i64 e.at_, .int .i64 e.row, .int .i64 e.sch] : Array Value).toList, a.oneCell' = true := by
  intro a ha
  simp at ha
  rcases ha with rfl | rfl | rfl <;> rfl
theorem eown_more {w' : World} {g cap : Nat} (h : w'.ownsRow B 102 3 (.slice (some ⟨g, 0, none⟩) (es.length + 1) cap) (es.length + 1) (entCells es ++ (#[.int .i64 e.at_, .int .i64 e.row, .int .i64 e.sch] : Array Value).toList)) : EOwn w' B (.slice (some ⟨g, 0, none⟩) (es.length + 1) cap) (es ++ [e]) := by
  unfold EOwn
  rw [entCells_append, List.length_append, List.length_singleton]
  simpa [entCells, entC] using h
/-- at a step of a region that draws -/
theorem step_moreE (hown : EOwn w B v es) (e : Ent) (hblk : w.heap[ad]? = some (.cells #[.int .i64 e.at_, .int .i64 e.row, .int .i64 e.sch] 102 (0, 0))) (hn : (es.length + 1) * 24 ≤ 140737488355328) (hB : B ≤ w.heap.size) (hH : w.heap.size = H)
    {ops : Array Oper} {o : Oper} {a : Act} {K : Act → World → Prop} {Q : Exit → Act → World → Prop} {E : Prop} (y x : Operand)
    (hg : o.guard = none) (hop : o.op = Op.call { callee := Callee.builtin Builtin.append, args := #[y, x], argTypes := #[26, 26] })
    (hs : a.eval y = v) (hx : a.eval x = .slice (some ⟨ad, 0, none⟩) 1 1)
    (hK : ∀ g cap w', EOwn w' B (.slice (some ⟨g, 0, none⟩) (es.length + 1) cap) (es ++ [e]) → w.grownBy w' v.ownBlock → (v.ownBlock = some g ∨ g = H) → K (a.put o.dst (.slice (some ⟨g, 0, none⟩) (es.length + 1) cap)) w') :
    if Region.wanted o (yielded ops a.tmps) = true then Oper.wp Tryz.prog o a w K Q else E := by
  obtain ⟨i, hi, hz, hsz, hby⟩ := info_parts infoE
  exact step_append_lies w hg y x 26 hop B 102 i zeroE 3 24 Tryz.underlying26 hi hz hsz hby rfl (by decide) v es.length (entCells es) hs hown ⟨ad, 0, none⟩ 1 1 _ hx (by simp)
    (World.news_of_block hblk) (oneE e) (by decide) (by unfold maxLen; omega) hn hB H hH fun g cap w' h2 h3 h4 _ => hK g cap w' (eown_more h2) h3 h4
end

/-- a frame's parts lie in blocks of their own, from B on -/
structure FOwn (w : World) (B : Nat) (u : Array Value) (f : Fr) : Prop where
  out : ∃ sp sc bp bc ep ec, u = cells11 f.kind f.number sp f.cols.length sc f.seq f.first f.rows bp f.block.length bc f.index.at_ f.index.frames f.index.rows ep f.index.entries.length ec ∧ SOwn w B #[.slice sp f.cols.length sc] f.cols ∧ Has w B (.slice bp f.block.length bc) f.block ∧ f.block.length ≤ 2200 ∧ EOwn w B (.slice ep f.index.entries.length ec) f.index.entries ∧ f.index.entries.length ≤ 64
theorem sown_nil (w : World) (B : Nat) : SOwn w B #[.slice none 0 0] [] := ⟨_, _, _, rfl, cbuilt_nil w B, by simp⟩
theorem FOwn.lies {w : World} {B : Nat} {u : Array Value} {f : Fr} (h : FOwn w B u f) : FLies w u f := by
  obtain ⟨sp, sc, bp, bc, ep, ec, h0, h1, h2, h3, h4, h5⟩ := h.out
  obtain ⟨p, c, e1, e2, e3, e4⟩ := h1.lies.out
  simp only [Array.mk.injEq, List.cons.injEq, and_true] at e1
  injection e1 with e5 _ e6
  subst e5 e6
  obtain ⟨p2, c2, e7, e8, e9⟩ := h2.at
  injection e7 with e10 _ e11
  subst e10 e11
  obtain ⟨p3, c3, e12, e13, e14, -⟩ := h4.ents
  injection e12 with e15 _ e16
  subst e15 e16
  exact ⟨sp, sc, bp, bc, ep, ec, h0, e2, e3, e4, by omega, e9, e8, by omega, e13, e14⟩
end Go.Proofs.YtclhbhhlddbocaaGreatDoor
