/- SchE, SchF, CLies, Rw, RwErr: put together. -/
import Derived.Test.YtpkbdnilakaakaaGreatM11
import Derived.Test.YtpkbdnilakaakaaGreatM10
import Derived.Test.YtpkbdnilakaakaaGreatM04

/- Plain: how many bytes a value, a column, a schema has at most. -/
namespace Go.Proofs.YtpkbdnilakaakaaGreat
namespace Sch

theorem flatten_le {α : Type} (f : α → List UInt8) (B : Nat) : ∀ xs : List α, (∀ x ∈ xs, (f x).length ≤ B) → (xs.map f).flatten.length ≤ xs.length * B
  | [], _ => by simp
  | x :: xs, h => by
    have h1 := h x (by simp)
    have h2 := flatten_le f B xs (fun y hy => h y (List.mem_cons_of_mem _ hy))
    rw [List.map_cons, List.flatten_cons, List.length_append, List.length_cons, Nat.add_mul]
    omega
theorem vH_len {k i : Int} {b : Nat} {t : ByteArray} {n : Nat} (ht : t.size ≤ 1024) : (vH k i b t n).length ≤ 1034 := by
  have hs : t.data.toList.length = t.size := by rw [Array.length_toList]; rfl
  have hp := Leb.put_length_le
  unfold vH
  split
  · simp
  split
  · have := hp (Leb.zig i); omega
  split
  · rw [le_len]; omega
  split
  · have := hp t.size; rw [List.length_append]; omega
  split
  · simp
  split
  · have := hp n; omega
  · simp
theorem vB_len : ∀ (v : V) (d : Nat), chk d v = 0 → (vB v).length ≤ 1100 * 260 ^ (4 - d) := by
  refine V.ind ?_
  intro k i b t xs ih d h
  obtain ⟨hd, ho, ht, hx, -, hc⟩ := chk_open h
  have h1 := vH_len (k := k) (i := i) (b := b) (n := xs.length) ht
  have hpos : 1 ≤ 260 ^ (4 - d) := Nat.one_le_pow _ _ (by decide)
  rw [vB_mk, List.length_append]
  split
  · rw [List.length_nil]; omega
  · cases xs with
    | nil => simp only [List.map_nil, List.flatten_nil, List.length_nil] at h1 ⊢; omega
    | cons x r =>
      have hx1 := hc x (by simp)
      obtain ⟨k', i', b', t', ys⟩ := x
      have hd1 := (chk_open hx1).1
      have hf := flatten_le vB (1100 * 260 ^ (4 - (d + 1))) (.mk k' i' b' t' ys :: r) (fun y hy => ih y hy (d + 1) (hc y hy))
      have e : 260 ^ (4 - d) = 260 ^ (4 - (d + 1)) * 260 := by rw [← Nat.pow_succ]; congr 1; omega
      have hp2 : 1 ≤ 260 ^ (4 - (d + 1)) := Nat.one_le_pow _ _ (by decide)
      rw [e]
      generalize 260 ^ (4 - (d + 1)) = q at *
      have h3 : (V.mk k' i' b' t' ys :: r).length * (1100 * q) ≤ 256 * (1100 * q) := Nat.mul_le_mul_right _ hx
      have o := own_open ho
      have hk67 : k = 6 ∨ k = 7 := by
        obtain ⟨-, -, -, -, o5, -⟩ := o
        simp at o5
        exact o5
      have hv : (vH k i b t (V.mk k' i' b' t' ys :: r).length).length ≤ 10 := by
        have hp := Leb.put_length_le (V.mk k' i' b' t' ys :: r).length
        unfold vH
        rcases hk67 with rfl | rfl
        · rw [if_neg (by decide), if_neg (by decide), if_neg (by decide), if_neg (by decide), if_pos rfl]; simp
        · rw [if_neg (by decide), if_neg (by decide), if_neg (by decide), if_neg (by decide), if_neg (by decide), if_pos rfl]; exact hp
      omega
theorem vB_small {v : V} {d : Nat} (h : chk d v = 0) (hd : 1 ≤ d) : (vB v).length ≤ 20000000000 := by
  have h1 := vB_len v d h
  have h2 : 260 ^ (4 - d) ≤ 260 ^ 3 := Nat.pow_le_pow_right (by decide) (by omega)
  have e : 260 ^ 3 = 17576000 := by decide
  rw [e] at h2
  omega
theorem tyB_len : ∀ (x : Ty) (d : Nat), Ty.check d x = 0 → (tyB x).length + d ≤ 5 := by
  refine Ty.ind ?_
  intro k xs ih d h
  obtain ⟨h1, h2, h3⟩ := ty_open h
  rcases h3 with ⟨h3, rfl⟩ | ⟨h3, y, rfl, hy⟩
  · rw [tyB_mk, if_neg h3, List.length_singleton]; omega
  · have := ih y (by simp) (d + 1) hy
    rw [tyB_mk, if_pos h3, List.length_cons]
    have e : ([y].map tyB).headD [] = tyB y := rfl
    rw [e]
    omega
theorem cB_len {l : List Col} {c : Col} (h : colErr l c = 0) : (cB c).length ≤ 20000000040 := by
  obtain ⟨h1, -, h3, -, h5⟩ := col_open h
  have hn := (name_size h1).2
  have hs : c.name.data.toList.length = c.name.size := by rw [Array.length_toList]; rfl
  have hp := Leb.put_length_le c.name.size
  have ht := tyB_len c.ty 1 h3
  unfold cB
  simp only [List.length_append, List.length_cons, hs]
  cases hh : c.has
  · simp; omega
  · have := vB_small (h5 hh).1 (by omega)
    simp; omega
theorem colsErr_mem : ∀ (s l : List Col), colsErr l s = 0 → ∀ c ∈ s, ∃ l', colErr l' c = 0
  | [], _, _, c, hc => by cases hc
  | d :: r, l, h, c, hc => by
    rw [colsErr] at h
    by_cases h0 : colErr l d = 0
    · rw [if_pos h0] at h
      rcases List.mem_cons.1 hc with rfl | hc
      · exact ⟨l, h0⟩
      · exact colsErr_mem r _ h c hc
    · rw [if_neg h0] at h; exact absurd h h0
theorem flat_small {s : List Col} (h : colsErr [] s = 0) (hn : s.length ≤ 16) : (s.map cB).flatten.length ≤ 320000000640 := by
  have h1 := flatten_le cB 20000000040 s (fun c hc => by obtain ⟨l, hl⟩ := colsErr_mem s [] h c hc; exact cB_len hl)
  have h2 : s.length * 20000000040 ≤ 16 * 20000000040 := Nat.mul_le_mul_right _ hn
  omega
theorem flatten_take {α : Type} (f : α → List UInt8) (xs : List α) (j : Nat) (h : j < xs.length) : ((xs.take (j + 1)).map f).flatten = ((xs.take j).map f).flatten ++ f xs[j] := by
  rw [List.take_succ_eq_append_getElem h, List.map_append, List.flatten_append]
  simp
theorem flatten_take_le {α : Type} (f : α → List UInt8) (xs : List α) (j : Nat) : ((xs.take j).map f).flatten.length ≤ (xs.map f).flatten.length := by
  have e : xs.map f = (xs.take j).map f ++ (xs.drop j).map f := by rw [← List.map_append, List.take_append_drop]
  rw [e, List.flatten_append, List.length_append]
  omega
end Sch
end Go.Proofs.YtpkbdnilakaakaaGreat

/- No reading ends with the error 0. -/
namespace Go.Proofs.YtpkbdnilakaakaaGreat
open Go.RowKit
namespace Sch

theorem bit_ne {l : List UInt8} {e : Nat} (h : bit l = .error e) : e ≠ 0 := by
  unfold bit at h
  split at h
  · cases h; decide
  · split at h
    · cases h; decide
    · cases h
theorem num_ne {l : List UInt8} {e : Nat} (h : num l = .error e) : e ≠ 0 := by
  unfold num at h
  split at h
  · cases h
  · next hn => cases h; exact hn
theorem text_ne {most long : Nat} {l : List UInt8} {e : Nat} (hl : long ≠ 0) (h : text most long l = .error e) : e ≠ 0 := by
  unfold text at h
  split at h
  · next hn => cases h; exact num_ne hn
  · split at h
    · cases h; exact hl
    · split at h
      · cases h; decide
      · cases h
theorem float_ne {l : List UInt8} {e : Nat} (h : float l = .error e) : e ≠ 0 := by
  unfold float at h
  split at h
  · cases h; decide
  · split at h
    · cases h
    · cases h; decide
theorem scalar_ne {k : Int} {l : List UInt8} {e : Nat} (h : scalar k l = .error e) : e ≠ 0 := by
  unfold scalar at h
  split at h
  · split at h
    · next hn => cases h; exact bit_ne hn
    · cases h
  · split at h
    · split at h
      · next hn => cases h; exact num_ne hn
      · cases h
    · split at h
      · split at h
        · next hn => cases h; exact float_ne hn
        · cases h
      · split at h
        · next hn => cases h; exact text_ne (by decide) hn
        · split at h
          · cases h; decide
          · cases h
theorem many_ne {k : Int} {l : List UInt8} {e : Nat} (h : many k l = .error e) : e ≠ 0 := by
  unfold many at h
  split at h
  · exact bit_ne h
  · split at h
    · next hn => cases h; exact num_ne hn
    · split at h
      · cases h; decide
      · cases h
theorem rdN_ne {f : List UInt8 → Except Nat (V × Nat)} (hf : ∀ l e, f l = .error e → e ≠ 0) : ∀ (m : Nat) (l : List UInt8) (e : Nat), rdN f m l = .error e → e ≠ 0
  | 0, l, e, h => by rw [rdN] at h; cases h
  | m + 1, l, e, h => by
    rw [rdN] at h
    split at h
    · next hn => cases h; exact hf _ _ hn
    · split at h
      · next hn => cases h; exact rdN_ne hf m _ _ hn
      · cases h
theorem rdV_ne : ∀ (t : Ty) (d : Nat) (l : List UInt8) (e : Nat), Ty.check d t = 0 → rdV t l = .error e → e ≠ 0 := by
  intro t
  refine Ty.ind (P := fun t => ∀ (d : Nat) (l : List UInt8) (e : Nat), Ty.check d t = 0 → rdV t l = .error e → e ≠ 0) ?_ t
  intro k xs ih d l e ht h
  obtain ⟨hd, hk, htt⟩ := ty_open ht
  rw [rdV_mk] at h
  rcases htt with ⟨h67, rfl⟩ | ⟨h67, x, rfl, hx⟩
  · rw [if_pos (by omega)] at h
    exact scalar_ne h
  · rw [if_neg (by omega)] at h
    split at h
    · next hn => cases h; exact many_ne hn
    · split at h
      · next hn => cases h; exact rdN_ne (f := rdV x) (fun l e h => ih x (by simp) (d + 1) l e hx h) _ _ _ hn
      · cases h
theorem rdT_ne : ∀ (f : Nat) (l : List UInt8) (e : Nat), rdT f l = .error e → e ≠ 0
  | 0, l, e, h => by rw [rdT] at h; cases h; decide
  | f + 1, [], e, h => by rw [rdT] at h; cases h; decide
  | f + 1, c :: r, e, h => by
    rw [rdT] at h
    split at h
    · cases h; decide
    · split at h
      · cases h
      · split at h
        · next hn => cases h; exact rdT_ne f r _ hn
        · cases h
theorem rdC_ne {l : List Col} {b : List UInt8} {e : Nat} (h : rdC l b = .error e) : e ≠ 0 := by
  rw [rdC] at h
  split at h
  · next hn => cases h; exact num_ne hn
  · split at h
    · cases h; decide
    · split at h
      · next hn => cases h; exact text_ne (by decide) hn
      · split at h
        · cases h; decide
        · split at h
          · cases h; decide
          · split at h
            · next hn => cases h; exact rdT_ne _ _ _ hn
            · next t j2 ht =>
              split at h
              · next hn => cases h; exact bit_ne hn
              · split at h
                · cases h
                · split at h
                  · next hn => cases h; exact rdV_ne t 1 _ _ (rdT_ok 4 _ t j2 (Nat.le_refl 4) ht).2.2.1 hn
                  · cases h
theorem rdCs_ne : ∀ (m : Nat) (l : List Col) (b : List UInt8) (e : Nat), rdCs m l b = .error e → e ≠ 0
  | 0, l, b, e, h => by rw [rdCs] at h; cases h
  | m + 1, l, b, e, h => by
    rw [rdCs] at h
    split at h
    · next hn => cases h; exact rdC_ne hn
    · split at h
      · next hn => cases h; exact rdCs_ne m _ _ _ hn
      · cases h
theorem read_ne {b : List UInt8} {e : Nat} (h : read b = .error e) : e ≠ 0 := by
  rw [read] at h
  split at h
  · cases h; decide
  · split at h
    · next hn => cases h; exact num_ne hn
    · split at h
      · cases h; decide
      · split at h
        · cases h; decide
        · split at h
          · next hn => cases h; exact rdCs_ne _ _ _ _ hn
          · split at h
            · cases h
            · cases h; decide
end Sch
end Go.Proofs.YtpkbdnilakaakaaGreat

/- How columns and schemas lie in memory. -/
namespace Go.Proofs.YtpkbdnilakaakaaGreat
open Go.RowKit

/-- a column's nine cells -/
def cells9 (n : ByteArray) (k : Int) (tp : Option Addr) (tn tc : Nat) (h : Bool) (vk vi : Int) (vb : Nat) (vt : ByteArray) (vp : Option Addr) (vn vc : Nat) : Array Value := #[.string n, .int .i64 k, .slice tp tn tc, .bool h, .int .i64 vk, .int .i64 vi, .float .f64 vb, .string vt, .slice vp vn vc]
/-- so a column lies -/
structure CLies (w : World) (u : Array Value) (c : Col) : Prop where
  out : ∃ k tp tn tc vk vi vb vt vp vn vc, u = cells9 c.name k tp tn tc c.has vk vi vb vt vp vn vc ∧ TLies w (cells2 k tp tn tc) c.ty ∧ VLies w (cells5 vk vi vb vt vp vn vc) c.dflt
theorem CLies.on {w w' : World} {u : Array Value} {c : Col} (h : CLies w u c) (hb : Below w.heap.size w w') : CLies w' u c := by
  obtain ⟨k, tp, tn, tc, vk, vi, vb, vt, vp, vn, vc, h1, h2, h3⟩ := h.out
  exact ⟨k, tp, tn, tc, vk, vi, vb, vt, vp, vn, vc, h1, h2.on hb, h3.on hb⟩
/-- nine cells from a place on -/
def At9 (w : World) (blk o : Nat) (n : ByteArray) (k : Int) (tp : Option Addr) (tn tc : Nat) (h : Bool) (vk vi : Int) (vb : Nat) (vt : ByteArray) (vp : Option Addr) (vn vc : Nat) : Prop :=
  w.cell? ⟨blk, o, none⟩ = some (.string n) ∧ w.cell? ⟨blk, o + 1, none⟩ = some (.int .i64 k) ∧ w.cell? ⟨blk, o + 2, none⟩ = some (.slice tp tn tc) ∧ w.cell? ⟨blk, o + 3, none⟩ = some (.bool h) ∧ w.cell? ⟨blk, o + 4, none⟩ = some (.int .i64 vk) ∧ w.cell? ⟨blk, o + 5, none⟩ = some (.int .i64 vi) ∧ w.cell? ⟨blk, o + 6, none⟩ = some (.float .f64 vb) ∧ w.cell? ⟨blk, o + 7, none⟩ = some (.string vt) ∧ w.cell? ⟨blk, o + 8, none⟩ = some (.slice vp vn vc)
theorem At9.on {w w' : World} {blk o : Nat} {n : ByteArray} {k : Int} {tp : Option Addr} {tn tc : Nat} {h : Bool} {vk vi : Int} {vb : Nat} {vt : ByteArray} {vp : Option Addr} {vn vc : Nat} (hh : At9 w blk o n k tp tn tc h vk vi vb vt vp vn vc) (hb : Below w.heap.size w w') : At9 w' blk o n k tp tn tc h vk vi vb vt vp vn vc := by
  obtain ⟨h0, h1, h2, h3, h4, h5, h6, h7, h8⟩ := hh
  exact ⟨cell_on hb h0, cell_on hb h1, cell_on hb h2, cell_on hb h3, cell_on hb h4, cell_on hb h5, cell_on hb h6, cell_on hb h7, cell_on hb h8⟩
/-- one of a schema's columns: where it lies -/
structure ItemC (w : World) (p : Option Addr) (j : Nat) (u : Array Value) : Prop where
  lies : ∃ blk off n k tp tn tc h vk vi vb vt vp vn vc, p = some ⟨blk, off, none⟩ ∧ blk < w.heap.size ∧ u = cells9 n k tp tn tc h vk vi vb vt vp vn vc ∧ At9 w blk (off + j * 9) n k tp tn tc h vk vi vb vt vp vn vc
theorem ItemC.on {w w' : World} {p : Option Addr} {j : Nat} {u : Array Value} (h : ItemC w p j u) (hb : Below w.heap.size w w') : ItemC w' p j u := by
  obtain ⟨blk, off, n, k, tp, tn, tc, h, vk, vi, vb, vt, vp, vn, vc, h1, h2, h3, h4⟩ := h.lies
  exact ⟨blk, off, n, k, tp, tn, tc, h, vk, vi, vb, vt, vp, vn, vc, h1, by have := hb.size; omega, h3, h4.on hb⟩
/-- columns lie in a row -/
def Cols (w : World) (p : Option Addr) (s : List Col) : Prop := ∀ j (hj : j < s.length), ∃ u, CLies w u s[j] ∧ ItemC w p j u
theorem Cols.on {w w' : World} {p : Option Addr} {s : List Col} (h : Cols w p s) (hb : Below w.heap.size w w') : Cols w' p s := fun j hj => by
  obtain ⟨u, h1, h2⟩ := h j hj
  exact ⟨u, h1.on hb, h2.on hb⟩
theorem Cols.take {w : World} {p : Option Addr} {s : List Col} (h : Cols w p s) (n : Nat) : Cols w p (s.take n) := fun j hj => by
  have hj2 : j < s.length := by rw [List.length_take] at hj; omega
  obtain ⟨u, h1, h2⟩ := h j hj2
  exact ⟨u, by simpa using h1, h2⟩
/-- one of them, opened: its cells, its type, its default -/
theorem Cols.at {w : World} {p : Option Addr} {s : List Col} (h : Cols w p s) (j : Nat) (hj : j < s.length) : ∃ blk off k tp tn tc vk vi vb vt vp vn vc, p = some ⟨blk, off, none⟩ ∧ blk < w.heap.size ∧ At9 w blk (off + j * 9) s[j].name k tp tn tc s[j].has vk vi vb vt vp vn vc ∧ TLies w (cells2 k tp tn tc) s[j].ty ∧ VLies w (cells5 vk vi vb vt vp vn vc) s[j].dflt := by
  obtain ⟨u, h1, h2⟩ := h j hj
  obtain ⟨blk, off, n, k, tp, tn, tc, hs, vk, vi, vb, vt, vp, vn, vc, e1, e2, e3, e4⟩ := h2.lies
  obtain ⟨k', tp', tn', tc', vk', vi', vb', vt', vp', vn', vc', g1, g2, g3⟩ := h1.out
  rw [e3] at g1
  simp only [cells9] at g1
  injection g1 with g1
  injection g1 with q0 g1
  injection g1 with q1 g1
  injection g1 with q2 g1
  injection g1 with q3 g1
  injection g1 with q4 g1
  injection g1 with q5 g1
  injection g1 with q6 g1
  injection g1 with q7 g1
  injection g1 with q8 g1
  injection q0 with q0
  injection q1 with _ q1
  injection q2 with q2 q2a q2b
  injection q3 with q3
  injection q4 with _ q4
  injection q5 with _ q5
  injection q6 with _ q6
  injection q7 with q7
  injection q8 with q8 q8a q8b
  subst q0 q1 q2 q2a q2b q3 q4 q5 q6 q7 q8 q8a q8b
  exact ⟨blk, off, k, tp, tn, tc, vk, vi, vb, vt, vp, vn, vc, e1, e2, e4, g2, g3⟩
/-- a schema lies -/
structure SLies (w : World) (u : Array Value) (s : List Col) : Prop where
  out : ∃ p c, u = #[.slice p s.length c] ∧ s.length * 120 ≤ 140737488351232 ∧ s.length ≤ c ∧ Cols w p s
theorem SLies.on {w w' : World} {u : Array Value} {s : List Col} (h : SLies w u s) (hb : Below w.heap.size w w') : SLies w' u s := by
  obtain ⟨p, c, h1, h2, h3, h4⟩ := h.out
  exact ⟨p, c, h1, h2, h3, h4.on hb⟩
end Go.Proofs.YtpkbdnilakaakaaGreat

/- Plain: rows, their bytes and how they are read; what the document says of them. -/
namespace Go.Proofs.YtpkbdnilakaakaaGreat
namespace Rw

/-- why a value isn't one of a type that may be -/
def vErr (t : Ty) (v : V) : Nat := if chk 1 v ≠ 0 then chk 1 v else if Sch.is v t then 0 else 80
/-- P8.1: the error -/
def encErr (t : Ty) (v : V) : Nat := if Ty.check 1 t ≠ 0 then Ty.check 1 t else vErr t v
/-- P8.1: the bytes -/
def encB (t : Ty) (v : V) : List UInt8 := if encErr t v = 0 then Sch.vB v else []
/-- column by column -/
def colsErr : List Col → List V → Nat
  | c :: s, v :: r => if vErr c.ty v = 0 then colsErr s r else vErr c.ty v
  | _, _ => 0
def bytes (vs : List V) : List UInt8 := (vs.map Sch.vB).flatten
/-- P8.3 -/
def err (s : List Col) (vs : List V) : Nat := if Sch.err s ≠ 0 then Sch.err s else if vs.length ≠ s.length then 80 else if colsErr s vs ≠ 0 then colsErr s vs else if 1024 < (bytes vs).length then 2 else 0
/-- P8.4 -/
def out (s : List Col) (vs : List V) : List UInt8 := if err s vs = 0 then bytes vs else []
/-- P8.2 -/
def readV (t : Ty) (l : List UInt8) (a : Int) : Except Nat (V × Nat) := if Ty.check 1 t ≠ 0 then .error (Ty.check 1 t) else if a < 0 ∨ (l.length : Int) < a then .error 30 else match Sch.rdV t (l.drop a.toNat) with
  | .error e => .error e
  | .ok (v, k) => .ok (v, a.toNat + k)
/-- values of the columns' types -/
def rd : List Col → List UInt8 → Except Nat (List V × Nat)
  | [], _ => .ok ([], 0)
  | c :: s, l => match Sch.rdV c.ty l with
    | .error e => .error e
    | .ok (v, k) => match rd s (l.drop k) with
      | .error e => .error e
      | .ok (vs, j) => .ok (v :: vs, k + j)
/-- P8.5 -/
def read (s : List Col) (l : List UInt8) (a : Int) : Except Nat (List V × Nat) := if Sch.err s ≠ 0 then .error (Sch.err s) else if a < 0 ∨ (l.length : Int) < a then .error 30 else match rd s (l.drop a.toNat) with
  | .error e => .error e
  | .ok (vs, k) => if 1024 < k then .error 2 else .ok (vs, a.toNat + k)

theorem vErr_zero {t : Ty} {v : V} (h : vErr t v = 0) : Ty.check 1 t = 0 ∧ chk 1 v = 0 ∧ Sch.of v t = true := by
  unfold vErr at h
  split at h
  · next h0 => exact absurd h h0
  · split at h
    · next h1 =>
      unfold Sch.is at h1
      simp only [Bool.and_eq_true, decide_eq_true_eq] at h1
      exact ⟨h1.1.1, h1.1.2, h1.2⟩
    · omega
theorem vErr_make {t : Ty} {v : V} (h1 : Ty.check 1 t = 0) (h2 : chk 1 v = 0) (h3 : Sch.of v t = true) : vErr t v = 0 := by
  unfold vErr
  rw [if_neg (by omega), if_pos]
  unfold Sch.is
  rw [decide_eq_true h1, decide_eq_true h2, h3]
  rfl
theorem bytes_nil : bytes [] = [] := rfl
theorem bytes_cons (v : V) (r : List V) : bytes (v :: r) = Sch.vB v ++ bytes r := rfl
theorem bytes_fix (vs : List V) : bytes (vs.map V.fix) = bytes vs := by
  unfold bytes
  rw [List.map_map]
  congr 1
  exact List.map_congr_left (fun v _ => Sch.vB_fix v)

/-- a row's bytes are read as it -/
theorem rd_put (r : List UInt8) : ∀ (s : List Col) (vs : List V), vs.length = s.length → colsErr s vs = 0 → (∀ v ∈ vs, v.wf) → rd s (bytes vs ++ r) = .ok (vs.map V.fix, (bytes vs).length)
  | [], [], _, _, _ => rfl
  | [], _ :: _, h, _, _ => by simp at h
  | _ :: _, [], h, _, _ => by simp at h
  | c :: s, v :: vs, h, he, hw => by
    have h0 : vErr c.ty v = 0 := by
      rw [colsErr] at he
      split at he
      · assumption
      · next h => exact absurd he h
    have he' : colsErr s vs = 0 := by rw [colsErr, if_pos h0] at he; exact he
    obtain ⟨h1, h2, h3⟩ := vErr_zero h0
    rw [rd, bytes_cons, List.append_assoc, Sch.rdV_put c.ty 1 v _ h1 h2 h3 (hw v (by simp))]
    dsimp only
    rw [List.drop_left, rd_put r s vs (by simpa using h) he' (fun x hx => hw x (by simp [hx]))]
    simp
/-- what is read has just these bytes -/
theorem rd_ok : ∀ (s : List Col) (l : List UInt8) (vs : List V) (k : Nat), (∀ c ∈ s, Ty.check 1 c.ty = 0) → rd s l = .ok (vs, k) → vs.length = s.length ∧ k = (bytes vs).length ∧ (∃ r, l = bytes vs ++ r) ∧ colsErr s vs = 0 ∧ ∀ v ∈ vs, V.fix v = v ∧ v.wf
  | [], l, vs, k, _, h => by
    rw [rd] at h
    injection h with h
    injection h with h1 h2
    subst h1 h2
    exact ⟨rfl, rfl, ⟨l, rfl⟩, rfl, fun v hv => by cases hv⟩
  | c :: s, l, vs, k, ht, h => by
    rw [rd] at h
    split at h
    · cases h
    · next v k1 hv =>
      split at h
      · cases h
      · next vs' j hr =>
        injection h with h
        injection h with h1 h2
        subst h1 h2
        obtain ⟨a1, ⟨r1, a2⟩, a3, a4, a5, a6⟩ := Sch.rdV_ok c.ty 1 l v k1 (ht c (by simp)) hv
        obtain ⟨b1, b2, ⟨r2, b3⟩, b4, b5⟩ := rd_ok s (l.drop k1) vs' j (fun x hx => ht x (by simp [hx])) hr
        have e1 : l.drop k1 = r1 := by rw [a2, a1, List.drop_left]
        refine ⟨by simp [b1], by rw [bytes_cons, List.length_append, a1, b2], ⟨r2, by rw [bytes_cons, List.append_assoc, ← b3, e1]; exact a2⟩, ?_, fun x hx => ?_⟩
        · rw [colsErr, if_pos (vErr_make (ht c (by simp)) a3 a4)]
          exact b4
        · rcases List.mem_cons.1 hx with rfl | hx
          · exact ⟨a5, a6⟩
          · exact b5 x hx
theorem err_open {s : List Col} {vs : List V} (h : err s vs = 0) : Sch.err s = 0 ∧ vs.length = s.length ∧ colsErr s vs = 0 ∧ (bytes vs).length ≤ 1024 := by
  unfold err at h
  split at h
  · next h0 => exact absurd h h0
  · next h0 =>
    split at h
    · omega
    · next h1 =>
      split at h
      · next h2 => exact absurd h h2
      · next h2 =>
        split at h
        · omega
        · next h3 => exact ⟨by omega, by omega, by omega, by omega⟩
theorem err_make {s : List Col} {vs : List V} (h1 : Sch.err s = 0) (h2 : vs.length = s.length) (h3 : colsErr s vs = 0) (h4 : (bytes vs).length ≤ 1024) : err s vs = 0 := by
  unfold err
  rw [if_neg (by omega), if_neg (by omega), if_neg (by omega), if_neg (by omega)]
theorem types_ok {s : List Col} (h : Sch.err s = 0) : ∀ c ∈ s, Ty.check 1 c.ty = 0 := fun c hc => by
  obtain ⟨l', h'⟩ := Sch.colsErr_mem s [] (Sch.err_open h).2.2.1 c hc
  exact (Sch.col_open h').2.2.1
/-- P8.6: there and back -/
theorem read_put {s : List Col} {vs : List V} (h : err s vs = 0) (hw : ∀ v ∈ vs, v.wf) (a r : List UInt8) : read s (a ++ (bytes vs ++ r)) (a.length : Int) = .ok (vs.map V.fix, a.length + (bytes vs).length) := by
  obtain ⟨h1, h2, h3, h4⟩ := err_open h
  unfold read
  rw [if_neg (by omega), if_neg (by rw [List.length_append]; omega), Int.toNat_natCast, List.drop_left, rd_put r s vs h2 h3 hw]
  dsimp only
  rw [if_neg (by omega)]
/-- P8.6: back and there -/
theorem read_ok {s : List Col} {l : List UInt8} {a : Int} {vs : List V} {k : Nat} (h : read s l a = .ok (vs, k)) : 0 ≤ a ∧ a ≤ l.length ∧ k = a.toNat + (bytes vs).length ∧ k ≤ l.length ∧ (l.drop a.toNat).take (bytes vs).length = bytes vs ∧ err s vs = 0 ∧ ∀ v ∈ vs, V.fix v = v ∧ v.wf := by
  unfold read at h
  split at h
  · cases h
  · next h0 =>
    split at h
    · cases h
    · next h1 =>
      split at h
      · cases h
      · next vs' j hr =>
        split at h
        · cases h
        · next h2 =>
          injection h with h
          injection h with h3 h4
          subst h3 h4
          have h0' : Sch.err s = 0 := by omega
          obtain ⟨b1, b2, ⟨r, b3⟩, b4, b5⟩ := rd_ok s _ _ _ (types_ok h0') hr
          have hlen := congrArg List.length b3
          rw [List.length_drop, List.length_append] at hlen
          refine ⟨by omega, by omega, by rw [b2], by omega, by rw [b3, List.take_left], err_make h0' b1 b4 (by omega), b5⟩
/-- P8.7 -/
theorem begins {s : List Col} {q r : List V} (hq : err s q = 0) (hr : err s r = 0) (wq : ∀ v ∈ q, v.wf) (wr : ∀ v ∈ r, v.wf) : (∃ t, bytes r = bytes q ++ t) ↔ q.map V.fix = r.map V.fix := by
  obtain ⟨_, a2, a3, _⟩ := err_open hq
  obtain ⟨_, b2, b3, _⟩ := err_open hr
  constructor
  · rintro ⟨t, ht⟩
    have h1 := rd_put t s q a2 a3 wq
    have h2 := rd_put [] s r b2 b3 wr
    rw [List.append_nil, ht] at h2
    rw [h1] at h2
    injection h2 with h2
    injection h2 with h2 _
  · intro he
    refine ⟨[], ?_⟩
    rw [List.append_nil, ← bytes_fix r, ← bytes_fix q, he]
end Rw
end Go.Proofs.YtpkbdnilakaakaaGreat

/- Plain: the errors of reading are no noughts. -/
namespace Go.Proofs.YtpkbdnilakaakaaGreat
namespace Rw
theorem rd_err : ∀ (s : List Col) (l : List UInt8) (er : Nat), (∀ c ∈ s, Ty.check 1 c.ty = 0) → rd s l = .error er → er ≠ 0
  | [], l, er, _, h => by rw [rd] at h; cases h
  | c :: s, l, er, ht, h => by
    rw [rd] at h
    split at h
    · next e he => injection h with h; subst h; exact Sch.rdV_ne _ 1 _ _ (ht c (by simp)) he
    · split at h
      · next e he => injection h with h; subst h; exact rd_err s _ _ (fun x hx => ht x (by simp [hx])) he
      · cases h
theorem read_err {s : List Col} {l : List UInt8} {a : Int} {er : Nat} (h : read s l a = .error er) : er ≠ 0 := by
  unfold read at h
  split at h
  · next h0 => injection h with h; rw [← h]; exact h0
  · next h0 =>
    split at h
    · injection h with h; omega
    · split at h
      · next e he => injection h with h; subst h; exact rd_err s _ _ (types_ok (by omega)) he
      · split at h
        · injection h with h; omega
        · cases h
end Rw
end Go.Proofs.YtpkbdnilakaakaaGreat
