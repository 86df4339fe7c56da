/- SchE, SchF, CLies, TOwn: put together. -/
import Derived.Test.YtbedlaaedefclaaM11
import Derived.Test.YtbedlaaedefclaaM10
import Derived.Test.YtbedlaaedefclaaM04
import Derived.Test.YtbedlaaedefclaaM01

/- Plain: how many bytes a value, a column, a schema has at most. -/
namespace Go.Proofs.Ytbedlaaedefclaa
namespace Sch

theorem flatten_le {α : Type} (f : α → List UInt8) (B : Nat) : ∀ xs : List α, (∀ x ∈ xs, (f x).length ≤ B) → (xs.map f).flatten.length ≤ xs.length * B
  | [], _ => by simp
  | x :: xs, h => by
    have h1 := h x (by simp)
    have h2 := flatten_le f B xs (fun y hy => h y (List.mem_cons_of_mem _ hy))
    rw [List.map_cons, List.flatten_cons, List.length_append, List.length_cons, Nat.add_mul]
    omega
theorem vH_len {k i : Int} {b : Nat} {t : ByteArray} {n : Nat} (ht : t.size ≤ 1024) : (vH k i b t n).length ≤ 1034 := by
  have hs : t.data.toList.length = t.size := by rw [Array.length_toList]; rfl
  have hp := Leb.put_length_le
  unfold vH
  split
  · simp
  split
  · have := hp (Leb.zig i); omega
  split
  · rw [le_len]; omega
  split
  · have := hp t.size; rw [List.length_append]; omega
  split
  · simp
  split
  · have := hp n; omega
  · simp
theorem vB_len : ∀ (v : V) (d : Nat), chk d v = 0 → (vB v).length ≤ 1100 * 260 ^ (4 - d) := by
  refine V.ind ?_
  intro k i b t xs ih d h
  obtain ⟨hd, ho, ht, hx, -, hc⟩ := chk_open h
  have h1 := vH_len (k := k) (i := i) (b := b) (n := xs.length) ht
  have hpos : 1 ≤ 260 ^ (4 - d) := Nat.one_le_pow _ _ (by decide)
  rw [vB_mk, List.length_append]
  split
  · rw [List.length_nil]; omega
  · cases xs with
    | nil => simp only [List.map_nil, List.flatten_nil, List.length_nil] at h1 ⊢; omega
    | cons x r =>
      have hx1 := hc x (by simp)
      obtain ⟨k', i', b', t', ys⟩ := x
      have hd1 := (chk_open hx1).1
      have hf := flatten_le vB (1100 * 260 ^ (4 - (d + 1))) (.mk k' i' b' t' ys :: r) (fun y hy => ih y hy (d + 1) (hc y hy))
      have e : 260 ^ (4 - d) = 260 ^ (4 - (d + 1)) * 260 := by rw [← Nat.pow_succ]; congr 1; omega
      have hp2 : 1 ≤ 260 ^ (4 - (d + 1)) := Nat.one_le_pow _ _ (by decide)
      rw [e]
      generalize 260 ^ (4 - (d + 1)) = q at *
      have h3 : (V.mk k' i' b' t' ys :: r).length * (1100 * q) ≤ 256 * (1100 * q) := Nat.mul_le_mul_right _ hx
      have o := own_open ho
      have hk67 : k = 6 ∨ k = 7 := by
        obtain ⟨-, -, -, -, o5, -⟩ := o
        simp at o5
        exact o5
      have hv : (vH k i b t (V.mk k' i' b' t' ys :: r).length).length ≤ 10 := by
        have hp := Leb.put_length_le (V.mk k' i' b' t' ys :: r).length
        unfold vH
        rcases hk67 with rfl | rfl
        · rw [if_neg (by decide), if_neg (by decide), if_neg (by decide), if_neg (by decide), if_pos rfl]; simp
        · rw [if_neg (by decide), if_neg (by decide), if_neg (by decide), if_neg (by decide), if_neg (by decide), if_pos rfl]; exact hp
      omega
theorem vB_small {v : V} {d : Nat} (h : chk d v = 0) (hd : 1 ≤ d) : (vB v).length ≤ 20000000000 := by
  have h1 := vB_len v d h
  have h2 : 260 ^ (4 - d) ≤ 260 ^ 3 := Nat.pow_le_pow_right (by decide) (by omega)
  have e : 260 ^ 3 = 17576000 := by decide
  rw [e] at h2
  omega
theorem tyB_len : ∀ (x : Ty) (d : Nat), Ty.check d x = 0 → (tyB x).length + d ≤ 5 := by
  refine Ty.ind ?_
  intro k xs ih d h
  obtain ⟨h1, h2, h3⟩ := ty_open h
  rcases h3 with ⟨h3, rfl⟩ | ⟨h3, y, rfl, hy⟩
  · rw [tyB_mk, if_neg h3, List.length_singleton]; omega
  · have := ih y (by simp) (d + 1) hy
    rw [tyB_mk, if_pos h3, List.length_cons]
    have e : ([y].map tyB).headD [] = tyB y := rfl
    rw [e]
    omega
theorem cB_len {l : List Col} {c : Col} (h : colErr l c = 0) : (cB c).length ≤ 20000000040 := by
  obtain ⟨h1, -, h3, -, h5⟩ := col_open h
  have hn := (name_size h1).2
  have hs : c.name.data.toList.length = c.name.size := by rw [Array.length_toList]; rfl
  have hp := Leb.put_length_le c.name.size
  have ht := tyB_len c.ty 1 h3
  unfold cB
  simp only [List.length_append, List.length_cons, hs]
  cases hh : c.has
  · simp; omega
  · have := vB_small (h5 hh).1 (by omega)
    simp; omega
theorem colsErr_mem : ∀ (s l : List Col), colsErr l s = 0 → ∀ c ∈ s, ∃ l', colErr l' c = 0
  | [], _, _, c, hc => by cases hc
  | d :: r, l, h, c, hc => by
    rw [colsErr] at h
    by_cases h0 : colErr l d = 0
    · rw [if_pos h0] at h
      rcases List.mem_cons.1 hc with rfl | hc
      · exact ⟨l, h0⟩
      · exact colsErr_mem r _ h c hc
    · rw [if_neg h0] at h; exact absurd h h0
theorem flat_small {s : List Col} (h : colsErr [] s = 0) (hn : s.length ≤ 16) : (s.map cB).flatten.length ≤ 320000000640 := by
  have h1 := flatten_le cB 20000000040 s (fun c hc => by obtain ⟨l, hl⟩ := colsErr_mem s [] h c hc; exact cB_len hl)
  have h2 : s.length * 20000000040 ≤ 16 * 20000000040 := Nat.mul_le_mul_right _ hn
  omega
theorem flatten_take {α : Type} (f : α → List UInt8) (xs : List α) (j : Nat) (h : j < xs.length) : ((xs.take (j + 1)).map f).flatten = ((xs.take j).map f).flatten ++ f xs[j] := by
  rw [List.take_succ_eq_append_getElem h, List.map_append, List.flatten_append]
  simp
theorem flatten_take_le {α : Type} (f : α → List UInt8) (xs : List α) (j : Nat) : ((xs.take j).map f).flatten.length ≤ (xs.map f).flatten.length := by
  have e : xs.map f = (xs.take j).map f ++ (xs.drop j).map f := by rw [← List.map_append, List.take_append_drop]
  rw [e, List.flatten_append, List.length_append]
  omega
end Sch
end Go.Proofs.Ytbedlaaedefclaa

/- No reading ends with the error 0. -/
namespace Go.Proofs.Ytbedlaaedefclaa
open Go.RowKit
namespace Sch

theorem bit_ne {l : List UInt8} {e : Nat} (h : bit l = .error e) : e ≠ 0 := by
  unfold bit at h
  split at h
  · cases h; decide
  · split at h
    · cases h; decide
    · cases h
theorem num_ne {l : List UInt8} {e : Nat} (h : num l = .error e) : e ≠ 0 := by
  unfold num at h
  split at h
  · cases h
  · next hn => cases h; exact hn
theorem text_ne {most long : Nat} {l : List UInt8} {e : Nat} (hl : long ≠ 0) (h : text most long l = .error e) : e ≠ 0 := by
  unfold text at h
  split at h
  · next hn => cases h; exact num_ne hn
  · split at h
    · cases h; exact hl
    · split at h
      · cases h; decide
      · cases h
theorem float_ne {l : List UInt8} {e : Nat} (h : float l = .error e) : e ≠ 0 := by
  unfold float at h
  split at h
  · cases h; decide
  · split at h
    · cases h
    · cases h; decide
theorem scalar_ne {k : Int} {l : List UInt8} {e : Nat} (h : scalar k l = .error e) : e ≠ 0 := by
  unfold scalar at h
  split at h
  · split at h
    · next hn => cases h; exact bit_ne hn
    · cases h
  · split at h
    · split at h
      · next hn => cases h; exact num_ne hn
      · cases h
    · split at h
      · split at h
        · next hn => cases h; exact float_ne hn
        · cases h
      · split at h
        · next hn => cases h; exact text_ne (by decide) hn
        · split at h
          · cases h; decide
          · cases h
theorem many_ne {k : Int} {l : List UInt8} {e : Nat} (h : many k l = .error e) : e ≠ 0 := by
  unfold many at h
  split at h
  · exact bit_ne h
  · split at h
    · next hn => cases h; exact num_ne hn
    · split at h
      · cases h; decide
      · cases h
theorem rdN_ne {f : List UInt8 → Except Nat (V × Nat)} (hf : ∀ l e, f l = .error e → e ≠ 0) : ∀ (m : Nat) (l : List UInt8) (e : Nat), rdN f m l = .error e → e ≠ 0
  | 0, l, e, h => by rw [rdN] at h; cases h
  | m + 1, l, e, h => by
    rw [rdN] at h
    split at h
    · next hn => cases h; exact hf _ _ hn
    · split at h
      · next hn => cases h; exact rdN_ne hf m _ _ hn
      · cases h
theorem rdV_ne : ∀ (t : Ty) (d : Nat) (l : List UInt8) (e : Nat), Ty.check d t = 0 → rdV t l = .error e → e ≠ 0 := by
  intro t
  refine Ty.ind (P := fun t => ∀ (d : Nat) (l : List UInt8) (e : Nat), Ty.check d t = 0 → rdV t l = .error e → e ≠ 0) ?_ t
  intro k xs ih d l e ht h
  obtain ⟨hd, hk, htt⟩ := ty_open ht
  rw [rdV_mk] at h
  rcases htt with ⟨h67, rfl⟩ | ⟨h67, x, rfl, hx⟩
  · rw [if_pos (by omega)] at h
    exact scalar_ne h
  · rw [if_neg (by omega)] at h
    split at h
    · next hn => cases h; exact many_ne hn
    · split at h
      · next hn => cases h; exact rdN_ne (f := rdV x) (fun l e h => ih x (by simp) (d + 1) l e hx h) _ _ _ hn
      · cases h
theorem rdT_ne : ∀ (f : Nat) (l : List UInt8) (e : Nat), rdT f l = .error e → e ≠ 0
  | 0, l, e, h => by rw [rdT] at h; cases h; decide
  | f + 1, [], e, h => by rw [rdT] at h; cases h; decide
  | f + 1, c :: r, e, h => by
    rw [rdT] at h
    split at h
    · cases h; decide
    · split at h
      · cases h
      · split at h
        · next hn => cases h; exact rdT_ne f r _ hn
        · cases h
theorem rdC_ne {l : List Col} {b : List UInt8} {e : Nat} (h : rdC l b = .error e) : e ≠ 0 := by
  rw [rdC] at h
  split at h
  · next hn => cases h; exact num_ne hn
  · split at h
    · cases h; decide
    · split at h
      · next hn => cases h; exact text_ne (by decide) hn
      · split at h
        · cases h; decide
        · split at h
          · cases h; decide
          · split at h
            · next hn => cases h; exact rdT_ne _ _ _ hn
            · next t j2 ht =>
              split at h
              · next hn => cases h; exact bit_ne hn
              · split at h
                · cases h
                · split at h
                  · next hn => cases h; exact rdV_ne t 1 _ _ (rdT_ok 4 _ t j2 (Nat.le_refl 4) ht).2.2.1 hn
                  · cases h
theorem rdCs_ne : ∀ (m : Nat) (l : List Col) (b : List UInt8) (e : Nat), rdCs m l b = .error e → e ≠ 0
  | 0, l, b, e, h => by rw [rdCs] at h; cases h
  | m + 1, l, b, e, h => by
    rw [rdCs] at h
    split at h
    · next hn => cases h; exact rdC_ne hn
    · split at h
      · next hn => cases h; exact rdCs_ne m _ _ _ hn
      · cases h
theorem read_ne {b : List UInt8} {e : Nat} (h : read b = .error e) : e ≠ 0 := by
  rw [read] at h
  split at h
  · cases h; decide
  · split at h
    · next hn => cases h; exact num_ne hn
    · split at h
      · cases h; decide
      · split at h
        · cases h; decide
        · split at h
          · next hn => cases h; exact rdCs_ne _ _ _ _ hn
          · split at h
            · cases h
            · cases h; decide
end Sch
end Go.Proofs.Ytbedlaaedefclaa

/- How columns and schemas lie in memory. -/
namespace Go.Proofs.Ytbedlaaedefclaa
open Go.RowKit

/-- a column's nine cells -/
def cells9 (n : ByteArray) (k : Int) (tp : Option Addr) (tn tc : Nat) (h : Bool) (vk vi : Int) (vb : Nat) (vt : ByteArray) (vp : Option Addr) (vn vc : Nat) : Array Value := #[.string n, .int .i64 k, .slice tp tn tc, .bool h, .int .i64 vk, .int .i64 vi, .float .f64 vb, .string vt, .slice vp vn vc]
/-- so a column lies -/
structure CLies (w : World) (u : Array Value) (c : Col) : Prop where
  out : ∃ k tp tn tc vk vi vb vt vp vn vc, u = cells9 c.name k tp tn tc c.has vk vi vb vt vp vn vc ∧ TLies w (cells2 k tp tn tc) c.ty ∧ VLies w (cells5 vk vi vb vt vp vn vc) c.dflt
theorem CLies.on {w w' : World} {u : Array Value} {c : Col} (h : CLies w u c) (hb : Below w.heap.size w w') : CLies w' u c := by
  obtain ⟨k, tp, tn, tc, vk, vi, vb, vt, vp, vn, vc, h1, h2, h3⟩ := h.out
  exact ⟨k, tp, tn, tc, vk, vi, vb, vt, vp, vn, vc, h1, h2.on hb, h3.on hb⟩
/-- nine cells from a place on -/
def At9 (w : World) (blk o : Nat) (n : ByteArray) (k : Int) (tp : Option Addr) (tn tc : Nat) (h : Bool) (vk vi : Int) (vb : Nat) (vt : ByteArray) (vp : Option Addr) (vn vc : Nat) : Prop :=
  w.cell? ⟨blk, o, none⟩ = some (.string n) ∧ w.cell? ⟨blk, o + 1, none⟩ = some (.int .i64 k) ∧ w.cell? ⟨blk, o + 2, none⟩ = some (.slice tp tn tc) ∧ w.cell? ⟨blk, o + 3, none⟩ = some (.bool h) ∧ w.cell? ⟨blk, o + 4, none⟩ = some (.int .i64 vk) ∧ w.cell? ⟨blk, o + 5, none⟩ = some (.int .i64 vi) ∧ w.cell? ⟨blk, o + 6, none⟩ = some (.float .f64 vb) ∧ w.cell? ⟨blk, o + 7, none⟩ = some (.string vt) ∧ w.cell? ⟨blk, o + 8, none⟩ = some (.slice vp vn vc)
theorem At9.on {w w' : World} {blk o : Nat} {n : ByteArray} {k : Int} {tp : Option Addr} {tn tc : Nat} {h : Bool} {vk vi : Int} {vb : Nat} {vt : ByteArray} {vp : Option Addr} {vn vc : Nat} (hh : At9 w blk o n k tp tn tc h vk vi vb vt vp vn vc) (hb : Below w.heap.size w w') : At9 w' blk o n k tp tn tc h vk vi vb vt vp vn vc := by
  obtain ⟨h0, h1, h2, h3, h4, h5, h6, h7, h8⟩ := hh
  exact ⟨cell_on hb h0, cell_on hb h1, cell_on hb h2, cell_on hb h3, cell_on hb h4, cell_on hb h5, cell_on hb h6, cell_on hb h7, cell_on hb h8⟩
/-- one of a schema's columns: where it lies -/
structure ItemC (w : World) (p : Option Addr) (j : Nat) (u : Array Value) : Prop where
  lies : ∃ blk off n k tp tn tc h vk vi vb vt vp vn vc, p = some ⟨blk, off, none⟩ ∧ blk < w.heap.size ∧ u = cells9 n k tp tn tc h vk vi vb vt vp vn vc ∧ At9 w blk (off + j * 9) n k tp tn tc h vk vi vb vt vp vn vc
theorem ItemC.on {w w' : World} {p : Option Addr} {j : Nat} {u : Array Value} (h : ItemC w p j u) (hb : Below w.heap.size w w') : ItemC w' p j u := by
  obtain ⟨blk, off, n, k, tp, tn, tc, h, vk, vi, vb, vt, vp, vn, vc, h1, h2, h3, h4⟩ := h.lies
  exact ⟨blk, off, n, k, tp, tn, tc, h, vk, vi, vb, vt, vp, vn, vc, h1, by have := hb.size; omega, h3, h4.on hb⟩
/-- columns lie in a row -/
def Cols (w : World) (p : Option Addr) (s : List Col) : Prop := ∀ j (hj : j < s.length), ∃ u, CLies w u s[j] ∧ ItemC w p j u
theorem Cols.on {w w' : World} {p : Option Addr} {s : List Col} (h : Cols w p s) (hb : Below w.heap.size w w') : Cols w' p s := fun j hj => by
  obtain ⟨u, h1, h2⟩ := h j hj
  exact ⟨u, h1.on hb, h2.on hb⟩
theorem Cols.take {w : World} {p : Option Addr} {s : List Col} (h : Cols w p s) (n : Nat) : Cols w p (s.take n) := fun j hj => by
  have hj2 : j < s.length := by rw [List.length_take] at hj; omega
  obtain ⟨u, h1, h2⟩ := h j hj2
  exact ⟨u, by simpa using h1, h2⟩
/-- one of them, opened: its cells, its type, its default -/
theorem Cols.at {w : World} {p : Option Addr} {s : List Col} (h : Cols w p s) (j : Nat) (hj : j < s.length) : ∃ blk off k tp tn tc vk vi vb vt vp vn vc, p = some ⟨blk, off, none⟩ ∧ blk < w.heap.size ∧ At9 w blk (off + j * 9) s[j].name k tp tn tc s[j].has vk vi vb vt vp vn vc ∧ TLies w (cells2 k tp tn tc) s[j].ty ∧ VLies w (cells5 vk vi vb vt vp vn vc) s[j].dflt := by
  obtain ⟨u, h1, h2⟩ := h j hj
  obtain ⟨blk, off, n, k, tp, tn, tc, hs, vk, vi, vb, vt, vp, vn, vc, e1, e2, e3, e4⟩ := h2.lies
  obtain ⟨k', tp', tn', tc', vk', vi', vb', vt', vp', vn', vc', g1, g2, g3⟩ := h1.out
  rw [e3] at g1
  simp only [cells9] at g1
  injection g1 with g1
  injection g1 with q0 g1
  injection g1 with q1 g1
  injection g1 with q2 g1
  injection g1 with q3 g1
  injection g1 with q4 g1
  injection g1 with q5 g1
  injection g1 with q6 g1
  injection g1 with q7 g1
  injection g1 with q8 g1
  injection q0 with q0
  injection q1 with _ q1
  injection q2 with q2 q2a q2b
  injection q3 with q3
  injection q4 with _ q4
  injection q5 with _ q5
  injection q6 with _ q6
  injection q7 with q7
  injection q8 with q8 q8a q8b
  subst q0 q1 q2 q2a q2b q3 q4 q5 q6 q7 q8 q8a q8b
  exact ⟨blk, off, k, tp, tn, tc, vk, vi, vb, vt, vp, vn, vc, e1, e2, e4, g2, g3⟩
/-- a schema lies -/
structure SLies (w : World) (u : Array Value) (s : List Col) : Prop where
  out : ∃ p c, u = #[.slice p s.length c] ∧ s.length * 120 ≤ 140737488351232 ∧ s.length ≤ c ∧ Cols w p s
theorem SLies.on {w w' : World} {u : Array Value} {s : List Col} (h : SLies w u s) (hb : Below w.heap.size w w') : SLies w' u s := by
  obtain ⟨p, c, h1, h2, h3, h4⟩ := h.out
  exact ⟨p, c, h1, h2, h3, h4.on hb⟩
end Go.Proofs.Ytbedlaaedefclaa

/- A type that lies in blocks of its own. -/
namespace Go.Proofs.Ytbedlaaedefclaa
open Go.RowKit

/-- one step of how a type lies in the blocks of F, each of them named once, and each cell may be written: of its items P holds -/
structure TOwnS (w : World) (P : (Nat → Prop) → Array Value → Ty → Prop) (F : Nat → Prop) (g off c : Nat) (xs : List Ty) (us : Nat → Array Value) (Fs : Nat → Nat → Prop) : Prop where
  hl : xs.length * 32 ≤ 140737488351232
  hc : xs.length ≤ c
  h5 : ∀ j, j < xs.length → (us j).size = 2
  hp : g < w.heap.size ∧ ∀ j, j < xs.length → ∀ m, m < 2 → w.cell? ⟨g, off + j * 2 + m, none⟩ = (us j)[m]?
  hf : ∀ j, j < xs.length → ∀ m, m < 2 → w.frozen? ⟨g, off + j * 2 + m, none⟩ = false
  hg : F g
  hgs : ∀ j, j < xs.length → ¬ Fs j g
  hd : ∀ j n, j < xs.length → n < xs.length → j ≠ n → ∀ k, Fs j k → ¬ Fs n k
  hs : ∀ j, j < xs.length → ∀ k, Fs j k → F k
  hr : ∀ j (h : j < xs.length), P (Fs j) (us j) xs[j]
/-- so a type lies in blocks of its own -/
def TOwn (w : World) (F : Nat → Prop) (u : Array Value) (x : Ty) : Prop :=
  ∀ P : (Nat → Prop) → Array Value → Ty → Prop, (∀ F k p c, P F (cells2 k p 0 c) (.mk k [])) →
    (∀ F k g off c xs us Fs, TOwnS w P F g off c xs us Fs → P F (cells2 k (.some ⟨g, off, .none⟩) xs.length c) (.mk k xs)) → P F u x

section
variable {w w' : World} {F G : Nat → Prop} {u : Array Value} {x : Ty}
theorem TOwn.none {F : Nat → Prop} {k : Int} {p : Option Addr} {c : Nat} : TOwn w F (cells2 k p 0 c) (.mk k []) := fun _ h0 _ => h0 F k p c
theorem TOwn.some {F : Nat → Prop} {k : Int} {g off c : Nat} {xs : List Ty} (us : Nat → Array Value) (Fs : Nat → Nat → Prop) (hl : xs.length * 32 ≤ 140737488351232) (hc : xs.length ≤ c) (h5 : ∀ j, j < xs.length → (us j).size = 2)
      (hp : g < w.heap.size ∧ ∀ j, j < xs.length → ∀ m, m < 2 → w.cell? ⟨g, off + j * 2 + m, .none⟩ = (us j)[m]?)
      (hf : ∀ j, j < xs.length → ∀ m, m < 2 → w.frozen? ⟨g, off + j * 2 + m, .none⟩ = false)
      (hg : F g) (hgs : ∀ j, j < xs.length → ¬ Fs j g) (hd : ∀ j n, j < xs.length → n < xs.length → j ≠ n → ∀ k, Fs j k → ¬ Fs n k) (hs : ∀ j, j < xs.length → ∀ k, Fs j k → F k)
      (hr : ∀ j (h : j < xs.length), TOwn w (Fs j) (us j) xs[j]) : TOwn w F (cells2 k (.some ⟨g, off, .none⟩) xs.length c) (.mk k xs) :=
  fun P h0 h1 => h1 F k g off c xs us Fs ⟨hl, hc, h5, hp, hf, hg, hgs, hd, hs, fun j h => hr j h P h0 h1⟩
/-- which of the two it is -/
theorem TOwn.inv (h : TOwn w F u x) : (∃ k p c, u = cells2 k p 0 c ∧ x = .mk k []) ∨ ∃ k g off c xs us Fs, u = cells2 k (.some ⟨g, off, .none⟩) xs.length c ∧ x = .mk k xs ∧ TOwnS w (TOwn w) F g off c xs us Fs := by
  have := h (fun F u x => TOwn w F u x ∧ ((∃ k p c, u = cells2 k p 0 c ∧ x = .mk k []) ∨ ∃ k g off c xs us Fs, u = cells2 k (.some ⟨g, off, .none⟩) xs.length c ∧ x = .mk k xs ∧ TOwnS w (TOwn w) F g off c xs us Fs))
    (fun F k p c => ⟨.none, .inl ⟨k, p, c, rfl, rfl⟩⟩)
    (fun F k g off c xs us Fs s => ⟨.some us Fs s.hl s.hc s.h5 s.hp s.hf s.hg s.hgs s.hd s.hs (fun j h => (s.hr j h).1), .inr ⟨k, g, off, c, xs, us, Fs, rfl, rfl, s.hl, s.hc, s.h5, s.hp, s.hf, s.hg, s.hgs, s.hd, s.hs, fun j h => (s.hr j h).1⟩⟩)
  exact this.2
theorem TOwn.five (h : TOwn w F u x) : u.size = 2 := by
  rcases h.inv with ⟨_, _, _, rfl, _⟩ | ⟨_, _, _, _, _, _, _, rfl, _⟩ <;> rfl
theorem TOwn.shape (h : TOwn w F u x) : ∃ k p n c, u = cells2 k p n c := by
  rcases h.inv with ⟨_, _, _, rfl, _⟩ | ⟨_, _, _, _, _, _, _, rfl, _⟩ <;> exact ⟨_, _, _, _, rfl⟩
theorem TOwn.lies (h : TOwn w F u x) : TLies w u x :=
  h (fun _ u x => TLies w u x) (fun F k p c => TLies.mk (xs := []) (fun _ => #[]) (by simp) (by simp) (fun hc => absurd rfl hc) (fun j hj => by simp at hj))
    (fun F k g off c xs us Fs s => TLies.mk us s.hl s.hc (fun _ => ⟨_, _, rfl, s.hp.1, s.hp.2⟩) s.hr)
theorem TOwn.aside (h : TOwn w F u x) : ∀ {G : Nat → Prop} {w' : World}, Aside G w w' → (∀ k, F k → ¬ G k) → TOwn w' F u x := by
  intro G w' ha
  refine h (fun F u x => (∀ k, F k → ¬ G k) → TOwn w' F u x) ?_ ?_
  · intro F k p c _; exact .none
  · intro F k g off c xs us Fs s hd2
    refine .some us Fs s.hl s.hc s.h5 ⟨Nat.lt_of_lt_of_le s.hp.1 ha.size, fun j hj m hm => ?_⟩ (fun j hj m hm => ?_) s.hg s.hgs s.hd s.hs (fun j hj => s.hr j hj fun k hk => hd2 k (s.hs j hj k hk))
    · rw [ha.cell s.hp.1 (hd2 _ s.hg)]; exact s.hp.2 j hj m hm
    · rw [ha.frozen s.hp.1 (hd2 _ s.hg)]; exact s.hf j hj m hm
theorem TOwn.under {B : Nat} (h : TOwn w F u x) (hb : Below B w w') (hF : ∀ k, F k → k < B) : TOwn w' F u x :=
  h.aside (G := fun k => B ≤ k) (aside_of hb fun _ _ h => h) fun k hk hc => by have := hF k hk; omega
theorem TOwn.mono (h : TOwn w F u x) (hF : ∀ k, F k → G k) : TOwn w G u x := by
  rcases h.inv with ⟨k, p, c, rfl, rfl⟩ | ⟨k, g, off, c, xs, us, Fs, rfl, rfl, s⟩
  · exact .none
  · exact .some us Fs s.hl s.hc s.h5 s.hp s.hf (hF _ s.hg) s.hgs s.hd (fun j hj k hk => hF k (s.hs j hj k hk)) s.hr
end


/-- of one type, in a block of one's own -/
theorem TOwn.one {w : World} {F G : Nat → Prop} {k : Int} {g : Nat} {u : Array Value} {x : Ty} {T : TypeId} (hg : w.heap[g]? = Option.some (.cells u T (0, 0))) (h : TOwn w F u x) (hF : ∀ k, F k → G k) (hgF : ¬ F g) (hGg : G g) : TOwn w G (cells2 k (.some ⟨g, 0, .none⟩) 1 1) (.mk k [x]) := by
  have hlt : g < w.heap.size := (Array.getElem?_eq_some_iff.1 hg).1
  refine TOwn.some (xs := [x]) (fun _ => u) (fun _ => F) (by simp) (by simp) (fun _ _ => h.five) ⟨hlt, fun j hj m hm => ?_⟩ (fun j hj m hm => ?_) hGg (fun _ _ => hgF) (fun j n hj hn hjn => ?_) (fun _ _ k hk => hF k hk) (fun j hj => ?_)
  · have hj0 : j = 0 := by simp at hj; omega
    subst hj0
    simp [World.cell?, hg]
  · simp [World.frozen?, hg]
  · simp at hj hn; omega
  · have hj0 : j = 0 := by simp at hj; omega
    subst hj0
    exact h
end Go.Proofs.Ytbedlaaedefclaa
