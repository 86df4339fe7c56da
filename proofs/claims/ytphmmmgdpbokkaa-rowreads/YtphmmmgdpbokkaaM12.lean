/- SchE, SchF, CLies, WTypeR, WNameR: put together. -/
import Derived.Test.YtphmmmgdpbokkaaM11
import Derived.Test.YtphmmmgdpbokkaaM10
import Derived.Test.YtphmmmgdpbokkaaM04
import Derived.Test.YtphmmmgdpbokkaaM06
import Derived.Test.YtphmmmgdpbokkaaM08

/- Plain: how many bytes a value, a column, a schema has at most. -/
namespace Go.Proofs.Ytphmmmgdpbokkaa
namespace Sch

theorem flatten_le {α : Type} (f : α → List UInt8) (B : Nat) : ∀ xs : List α, (∀ x ∈ xs, (f x).length ≤ B) → (xs.map f).flatten.length ≤ xs.length * B
  | [], _ => by simp
  | x :: xs, h => by
    have h1 := h x (by simp)
    have h2 := flatten_le f B xs (fun y hy => h y (List.mem_cons_of_mem _ hy))
    rw [List.map_cons, List.flatten_cons, List.length_append, List.length_cons, Nat.add_mul]
    omega
theorem vH_len {k i : Int} {b : Nat} {t : ByteArray} {n : Nat} (ht : t.size ≤ 1024) : (vH k i b t n).length ≤ 1034 := by
  have hs : t.data.toList.length = t.size := by rw [Array.length_toList]; rfl
  have hp := Leb.put_length_le
  unfold vH
  split
  · simp
  split
  · have := hp (Leb.zig i); omega
  split
  · rw [le_len]; omega
  split
  · have := hp t.size; rw [List.length_append]; omega
  split
  · simp
  split
  · have := hp n; omega
  · simp
theorem vB_len : ∀ (v : V) (d : Nat), chk d v = 0 → (vB v).length ≤ 1100 * 260 ^ (4 - d) := by
  refine V.ind ?_
  intro k i b t xs ih d h
  obtain ⟨hd, ho, ht, hx, -, hc⟩ := chk_open h
  have h1 := vH_len (k := k) (i := i) (b := b) (n := xs.length) ht
  have hpos : 1 ≤ 260 ^ (4 - d) := Nat.one_le_pow _ _ (by decide)
  rw [vB_mk, List.length_append]
  split
  · rw [List.length_nil]; omega
  · cases xs with
    | nil => simp only [List.map_nil, List.flatten_nil, List.length_nil] at h1 ⊢; omega
    | cons x r =>
      have hx1 := hc x (by simp)
      obtain ⟨k', i', b', t', ys⟩ := x
      have hd1 := (chk_open hx1).1
      have hf := flatten_le vB (1100 * 260 ^ (4 - (d + 1))) (.mk k' i' b' t' ys :: r) (fun y hy => ih y hy (d + 1) (hc y hy))
      have e : 260 ^ (4 - d) = 260 ^ (4 - (d + 1)) * 260 := by rw [← Nat.pow_succ]; congr 1; omega
      have hp2 : 1 ≤ 260 ^ (4 - (d + 1)) := Nat.one_le_pow _ _ (by decide)
      rw [e]
      generalize 260 ^ (4 - (d + 1)) = q at *
      have h3 : (V.mk k' i' b' t' ys :: r).length * (1100 * q) ≤ 256 * (1100 * q) := Nat.mul_le_mul_right _ hx
      have o := own_open ho
      have hk67 : k = 6 ∨ k = 7 := by
        obtain ⟨-, -, -, -, o5, -⟩ := o
        simp at o5
        exact o5
      have hv : (vH k i b t (V.mk k' i' b' t' ys :: r).length).length ≤ 10 := by
        have hp := Leb.put_length_le (V.mk k' i' b' t' ys :: r).length
        unfold vH
        rcases hk67 with rfl | rfl
        · rw [if_neg (by decide), if_neg (by decide), if_neg (by decide), if_neg (by decide), if_pos rfl]; simp
        · rw [if_neg (by decide), if_neg (by decide), if_neg (by decide), if_neg (by decide), if_neg (by decide), if_pos rfl]; exact hp
      omega
theorem vB_small {v : V} {d : Nat} (h : chk d v = 0) (hd : 1 ≤ d) : (vB v).length ≤ 20000000000 := by
  have h1 := vB_len v d h
  have h2 : 260 ^ (4 - d) ≤ 260 ^ 3 := Nat.pow_le_pow_right (by decide) (by omega)
  have e : 260 ^ 3 = 17576000 := by decide
  rw [e] at h2
  omega
theorem tyB_len : ∀ (x : Ty) (d : Nat), Ty.check d x = 0 → (tyB x).length + d ≤ 5 := by
  refine Ty.ind ?_
  intro k xs ih d h
  obtain ⟨h1, h2, h3⟩ := ty_open h
  rcases h3 with ⟨h3, rfl⟩ | ⟨h3, y, rfl, hy⟩
  · rw [tyB_mk, if_neg h3, List.length_singleton]; omega
  · have := ih y (by simp) (d + 1) hy
    rw [tyB_mk, if_pos h3, List.length_cons]
    have e : ([y].map tyB).headD [] = tyB y := rfl
    rw [e]
    omega
theorem cB_len {l : List Col} {c : Col} (h : colErr l c = 0) : (cB c).length ≤ 20000000040 := by
  obtain ⟨h1, -, h3, -, h5⟩ := col_open h
  have hn := (name_size h1).2
  have hs : c.name.data.toList.length = c.name.size := by rw [Array.length_toList]; rfl
  have hp := Leb.put_length_le c.name.size
  have ht := tyB_len c.ty 1 h3
  unfold cB
  simp only [List.length_append, List.length_cons, hs]
  cases hh : c.has
  · simp; omega
  · have := vB_small (h5 hh).1 (by omega)
    simp; omega
theorem colsErr_mem : ∀ (s l : List Col), colsErr l s = 0 → ∀ c ∈ s, ∃ l', colErr l' c = 0
  | [], _, _, c, hc => by cases hc
  | d :: r, l, h, c, hc => by
    rw [colsErr] at h
    by_cases h0 : colErr l d = 0
    · rw [if_pos h0] at h
      rcases List.mem_cons.1 hc with rfl | hc
      · exact ⟨l, h0⟩
      · exact colsErr_mem r _ h c hc
    · rw [if_neg h0] at h; exact absurd h h0
theorem flat_small {s : List Col} (h : colsErr [] s = 0) (hn : s.length ≤ 16) : (s.map cB).flatten.length ≤ 320000000640 := by
  have h1 := flatten_le cB 20000000040 s (fun c hc => by obtain ⟨l, hl⟩ := colsErr_mem s [] h c hc; exact cB_len hl)
  have h2 : s.length * 20000000040 ≤ 16 * 20000000040 := Nat.mul_le_mul_right _ hn
  omega
theorem flatten_take {α : Type} (f : α → List UInt8) (xs : List α) (j : Nat) (h : j < xs.length) : ((xs.take (j + 1)).map f).flatten = ((xs.take j).map f).flatten ++ f xs[j] := by
  rw [List.take_succ_eq_append_getElem h, List.map_append, List.flatten_append]
  simp
theorem flatten_take_le {α : Type} (f : α → List UInt8) (xs : List α) (j : Nat) : ((xs.take j).map f).flatten.length ≤ (xs.map f).flatten.length := by
  have e : xs.map f = (xs.take j).map f ++ (xs.drop j).map f := by rw [← List.map_append, List.take_append_drop]
  rw [e, List.flatten_append, List.length_append]
  omega
end Sch
end Go.Proofs.Ytphmmmgdpbokkaa

/- No reading ends with the error 0. -/
namespace Go.Proofs.Ytphmmmgdpbokkaa
open Go.RowKit
namespace Sch

theorem bit_ne {l : List UInt8} {e : Nat} (h : bit l = .error e) : e ≠ 0 := by
  unfold bit at h
  split at h
  · cases h; decide
  · split at h
    · cases h; decide
    · cases h
theorem num_ne {l : List UInt8} {e : Nat} (h : num l = .error e) : e ≠ 0 := by
  unfold num at h
  split at h
  · cases h
  · next hn => cases h; exact hn
theorem text_ne {most long : Nat} {l : List UInt8} {e : Nat} (hl : long ≠ 0) (h : text most long l = .error e) : e ≠ 0 := by
  unfold text at h
  split at h
  · next hn => cases h; exact num_ne hn
  · split at h
    · cases h; exact hl
    · split at h
      · cases h; decide
      · cases h
theorem float_ne {l : List UInt8} {e : Nat} (h : float l = .error e) : e ≠ 0 := by
  unfold float at h
  split at h
  · cases h; decide
  · split at h
    · cases h
    · cases h; decide
theorem scalar_ne {k : Int} {l : List UInt8} {e : Nat} (h : scalar k l = .error e) : e ≠ 0 := by
  unfold scalar at h
  split at h
  · split at h
    · next hn => cases h; exact bit_ne hn
    · cases h
  · split at h
    · split at h
      · next hn => cases h; exact num_ne hn
      · cases h
    · split at h
      · split at h
        · next hn => cases h; exact float_ne hn
        · cases h
      · split at h
        · next hn => cases h; exact text_ne (by decide) hn
        · split at h
          · cases h; decide
          · cases h
theorem many_ne {k : Int} {l : List UInt8} {e : Nat} (h : many k l = .error e) : e ≠ 0 := by
  unfold many at h
  split at h
  · exact bit_ne h
  · split at h
    · next hn => cases h; exact num_ne hn
    · split at h
      · cases h; decide
      · cases h
theorem rdN_ne {f : List UInt8 → Except Nat (V × Nat)} (hf : ∀ l e, f l = .error e → e ≠ 0) : ∀ (m : Nat) (l : List UInt8) (e : Nat), rdN f m l = .error e → e ≠ 0
  | 0, l, e, h => by rw [rdN] at h; cases h
  | m + 1, l, e, h => by
    rw [rdN] at h
    split at h
    · next hn => cases h; exact hf _ _ hn
    · split at h
      · next hn => cases h; exact rdN_ne hf m _ _ hn
      · cases h
theorem rdV_ne : ∀ (t : Ty) (d : Nat) (l : List UInt8) (e : Nat), Ty.check d t = 0 → rdV t l = .error e → e ≠ 0 := by
  intro t
  refine Ty.ind (P := fun t => ∀ (d : Nat) (l : List UInt8) (e : Nat), Ty.check d t = 0 → rdV t l = .error e → e ≠ 0) ?_ t
  intro k xs ih d l e ht h
  obtain ⟨hd, hk, htt⟩ := ty_open ht
  rw [rdV_mk] at h
  rcases htt with ⟨h67, rfl⟩ | ⟨h67, x, rfl, hx⟩
  · rw [if_pos (by omega)] at h
    exact scalar_ne h
  · rw [if_neg (by omega)] at h
    split at h
    · next hn => cases h; exact many_ne hn
    · split at h
      · next hn => cases h; exact rdN_ne (f := rdV x) (fun l e h => ih x (by simp) (d + 1) l e hx h) _ _ _ hn
      · cases h
theorem rdT_ne : ∀ (f : Nat) (l : List UInt8) (e : Nat), rdT f l = .error e → e ≠ 0
  | 0, l, e, h => by rw [rdT] at h; cases h; decide
  | f + 1, [], e, h => by rw [rdT] at h; cases h; decide
  | f + 1, c :: r, e, h => by
    rw [rdT] at h
    split at h
    · cases h; decide
    · split at h
      · cases h
      · split at h
        · next hn => cases h; exact rdT_ne f r _ hn
        · cases h
theorem rdC_ne {l : List Col} {b : List UInt8} {e : Nat} (h : rdC l b = .error e) : e ≠ 0 := by
  rw [rdC] at h
  split at h
  · next hn => cases h; exact num_ne hn
  · split at h
    · cases h; decide
    · split at h
      · next hn => cases h; exact text_ne (by decide) hn
      · split at h
        · cases h; decide
        · split at h
          · cases h; decide
          · split at h
            · next hn => cases h; exact rdT_ne _ _ _ hn
            · next t j2 ht =>
              split at h
              · next hn => cases h; exact bit_ne hn
              · split at h
                · cases h
                · split at h
                  · next hn => cases h; exact rdV_ne t 1 _ _ (rdT_ok 4 _ t j2 (Nat.le_refl 4) ht).2.2.1 hn
                  · cases h
theorem rdCs_ne : ∀ (m : Nat) (l : List Col) (b : List UInt8) (e : Nat), rdCs m l b = .error e → e ≠ 0
  | 0, l, b, e, h => by rw [rdCs] at h; cases h
  | m + 1, l, b, e, h => by
    rw [rdCs] at h
    split at h
    · next hn => cases h; exact rdC_ne hn
    · split at h
      · next hn => cases h; exact rdCs_ne m _ _ _ hn
      · cases h
theorem read_ne {b : List UInt8} {e : Nat} (h : read b = .error e) : e ≠ 0 := by
  rw [read] at h
  split at h
  · cases h; decide
  · split at h
    · next hn => cases h; exact num_ne hn
    · split at h
      · cases h; decide
      · split at h
        · cases h; decide
        · split at h
          · next hn => cases h; exact rdCs_ne _ _ _ _ hn
          · split at h
            · cases h
            · cases h; decide
end Sch
end Go.Proofs.Ytphmmmgdpbokkaa

/- How columns and schemas lie in memory. -/
namespace Go.Proofs.Ytphmmmgdpbokkaa
open Go.RowKit

/-- a column's nine cells -/
def cells9 (n : ByteArray) (k : Int) (tp : Option Addr) (tn tc : Nat) (h : Bool) (vk vi : Int) (vb : Nat) (vt : ByteArray) (vp : Option Addr) (vn vc : Nat) : Array Value := #[.string n, .int .i64 k, .slice tp tn tc, .bool h, .int .i64 vk, .int .i64 vi, .float .f64 vb, .string vt, .slice vp vn vc]
/-- so a column lies -/
structure CLies (w : World) (u : Array Value) (c : Col) : Prop where
  out : ∃ k tp tn tc vk vi vb vt vp vn vc, u = cells9 c.name k tp tn tc c.has vk vi vb vt vp vn vc ∧ TLies w (cells2 k tp tn tc) c.ty ∧ VLies w (cells5 vk vi vb vt vp vn vc) c.dflt
theorem CLies.on {w w' : World} {u : Array Value} {c : Col} (h : CLies w u c) (hb : Below w.heap.size w w') : CLies w' u c := by
  obtain ⟨k, tp, tn, tc, vk, vi, vb, vt, vp, vn, vc, h1, h2, h3⟩ := h.out
  exact ⟨k, tp, tn, tc, vk, vi, vb, vt, vp, vn, vc, h1, h2.on hb, h3.on hb⟩
/-- nine cells from a place on -/
def At9 (w : World) (blk o : Nat) (n : ByteArray) (k : Int) (tp : Option Addr) (tn tc : Nat) (h : Bool) (vk vi : Int) (vb : Nat) (vt : ByteArray) (vp : Option Addr) (vn vc : Nat) : Prop :=
  w.cell? ⟨blk, o, none⟩ = some (.string n) ∧ w.cell? ⟨blk, o + 1, none⟩ = some (.int .i64 k) ∧ w.cell? ⟨blk, o + 2, none⟩ = some (.slice tp tn tc) ∧ w.cell? ⟨blk, o + 3, none⟩ = some (.bool h) ∧ w.cell? ⟨blk, o + 4, none⟩ = some (.int .i64 vk) ∧ w.cell? ⟨blk, o + 5, none⟩ = some (.int .i64 vi) ∧ w.cell? ⟨blk, o + 6, none⟩ = some (.float .f64 vb) ∧ w.cell? ⟨blk, o + 7, none⟩ = some (.string vt) ∧ w.cell? ⟨blk, o + 8, none⟩ = some (.slice vp vn vc)
theorem At9.on {w w' : World} {blk o : Nat} {n : ByteArray} {k : Int} {tp : Option Addr} {tn tc : Nat} {h : Bool} {vk vi : Int} {vb : Nat} {vt : ByteArray} {vp : Option Addr} {vn vc : Nat} (hh : At9 w blk o n k tp tn tc h vk vi vb vt vp vn vc) (hb : Below w.heap.size w w') : At9 w' blk o n k tp tn tc h vk vi vb vt vp vn vc := by
  obtain ⟨h0, h1, h2, h3, h4, h5, h6, h7, h8⟩ := hh
  exact ⟨cell_on hb h0, cell_on hb h1, cell_on hb h2, cell_on hb h3, cell_on hb h4, cell_on hb h5, cell_on hb h6, cell_on hb h7, cell_on hb h8⟩
/-- one of a schema's columns: where it lies -/
structure ItemC (w : World) (p : Option Addr) (j : Nat) (u : Array Value) : Prop where
  lies : ∃ blk off n k tp tn tc h vk vi vb vt vp vn vc, p = some ⟨blk, off, none⟩ ∧ blk < w.heap.size ∧ u = cells9 n k tp tn tc h vk vi vb vt vp vn vc ∧ At9 w blk (off + j * 9) n k tp tn tc h vk vi vb vt vp vn vc
theorem ItemC.on {w w' : World} {p : Option Addr} {j : Nat} {u : Array Value} (h : ItemC w p j u) (hb : Below w.heap.size w w') : ItemC w' p j u := by
  obtain ⟨blk, off, n, k, tp, tn, tc, h, vk, vi, vb, vt, vp, vn, vc, h1, h2, h3, h4⟩ := h.lies
  exact ⟨blk, off, n, k, tp, tn, tc, h, vk, vi, vb, vt, vp, vn, vc, h1, by have := hb.size; omega, h3, h4.on hb⟩
/-- columns lie in a row -/
def Cols (w : World) (p : Option Addr) (s : List Col) : Prop := ∀ j (hj : j < s.length), ∃ u, CLies w u s[j] ∧ ItemC w p j u
theorem Cols.on {w w' : World} {p : Option Addr} {s : List Col} (h : Cols w p s) (hb : Below w.heap.size w w') : Cols w' p s := fun j hj => by
  obtain ⟨u, h1, h2⟩ := h j hj
  exact ⟨u, h1.on hb, h2.on hb⟩
theorem Cols.take {w : World} {p : Option Addr} {s : List Col} (h : Cols w p s) (n : Nat) : Cols w p (s.take n) := fun j hj => by
  have hj2 : j < s.length := by rw [List.length_take] at hj; omega
  obtain ⟨u, h1, h2⟩ := h j hj2
  exact ⟨u, by simpa using h1, h2⟩
/-- one of them, opened: its cells, its type, its default -/
theorem Cols.at {w : World} {p : Option Addr} {s : List Col} (h : Cols w p s) (j : Nat) (hj : j < s.length) : ∃ blk off k tp tn tc vk vi vb vt vp vn vc, p = some ⟨blk, off, none⟩ ∧ blk < w.heap.size ∧ At9 w blk (off + j * 9) s[j].name k tp tn tc s[j].has vk vi vb vt vp vn vc ∧ TLies w (cells2 k tp tn tc) s[j].ty ∧ VLies w (cells5 vk vi vb vt vp vn vc) s[j].dflt := by
  obtain ⟨u, h1, h2⟩ := h j hj
  obtain ⟨blk, off, n, k, tp, tn, tc, hs, vk, vi, vb, vt, vp, vn, vc, e1, e2, e3, e4⟩ := h2.lies
  obtain ⟨k', tp', tn', tc', vk', vi', vb', vt', vp', vn', vc', g1, g2, g3⟩ := h1.out
  rw [e3] at g1
  simp only [cells9] at g1
  injection g1 with g1
  injection g1 with q0 g1
  injection g1 with q1 g1
  injection g1 with q2 g1
  injection g1 with q3 g1
  injection g1 with q4 g1
  injection g1 with q5 g1
  injection g1 with q6 g1
  injection g1 with q7 g1
  injection g1 with q8 g1
  injection q0 with q0
  injection q1 with _ q1
  injection q2 with q2 q2a q2b
  injection q3 with q3
  injection q4 with _ q4
  injection q5 with _ q5
  injection q6 with _ q6
  injection q7 with q7
  injection q8 with q8 q8a q8b
  subst q0 q1 q2 q2a q2b q3 q4 q5 q6 q7 q8 q8a q8b
  exact ⟨blk, off, k, tp, tn, tc, vk, vi, vb, vt, vp, vn, vc, e1, e2, e4, g2, g3⟩
/-- a schema lies -/
structure SLies (w : World) (u : Array Value) (s : List Col) : Prop where
  out : ∃ p c, u = #[.slice p s.length c] ∧ s.length * 120 ≤ 140737488351232 ∧ s.length ≤ c ∧ Cols w p s
theorem SLies.on {w w' : World} {u : Array Value} {s : List Col} (h : SLies w u s) (hb : Below w.heap.size w w') : SLies w' u s := by
  obtain ⟨p, c, h1, h2, h3, h4⟩ := h.out
  exact ⟨p, c, h1, h2, h3, h4.on hb⟩
end Go.Proofs.Ytphmmmgdpbokkaa

/- The document's typeAt, CheckType. -/
namespace Go.Proofs.Ytphmmmgdpbokkaa
open Go.RowKit

set_option maxRecDepth 100000 in
set_option maxHeartbeats 1000000 in
theorem refTypeAt7 : ∀ (x : Ty) (d : Nat) (w : World) (u : Array Value), d ≤ 5 → TLies w u x → Calls Try.prog 53 #[.agg u, .int .i64 d] w fun e w' => e = .returned (.int .i64 (Ty.check d x : Nat)) ∧ Below w.heap.size w w' := by
  intro x
  refine Ty.ind (P := fun x => ∀ (d : Nat) (w : World) (u : Array Value), d ≤ 5 → TLies w u x → Calls Try.prog 53 #[.agg u, .int .i64 d] w fun e w' => e = .returned (.int .i64 (Ty.check d x : Nat)) ∧ Below w.heap.size w w') ?_ x
  rintro k xs ih d w u hd hx
  obtain ⟨p, c, rfl, hxl, hxc, hxi⟩ := hx.open
  unfold cells2
  have hB1 : Below w.heap.size w (w.alloc (.cells #[.int .i64 k, .slice p xs.length c] 24)) := (Below.refl _ _).alloc (Nat.le_refl _) _
  have HB1 := Lib.hid hB1
  clear hB1 hx
  obtain ⟨R, hR⟩ : ∃ R, R = Ty.check d (.mk k xs) := ⟨_, rfl⟩
  have HCk := Lib.hid (hR.trans (Ty.check_mk d k xs))
  rw [← hR]
  clear hR
  by_cases h1 : 4 < d
  · have g1 : (4 : Int) < (d : Int) := by omega
    have HR : Hid (R = 62) := by show _ = _; rw [HCk.out, if_pos h1]
    clear ih hxi HCk
    go_enter Try.func53, Try.ntmps53
    go_wp2
    go_ret
    exact ⟨by rw [HR.out]; rfl, HB1.out⟩
  have g1 : ¬ (4 : Int) < (d : Int) := by omega
  by_cases h2 : k < 1 ∨ 7 < k
  · have e6 : (k == 6) = false := by simp; omega
    have e7 : (k == 7) = false := by simp; omega
    have HR : Hid (R = 60) := by show _ = _; rw [HCk.out, if_neg h1, if_pos (by omega)]
    clear ih hxi HCk
    rcases h2 with h2 | h2
    · go_enter Try.func53, Try.ntmps53
      go_wp2
      go_ret
      exact ⟨by rw [HR.out]; rfl, HB1.out⟩
    · have h3 : ¬ k < 1 := by omega
      go_enter Try.func53, Try.ntmps53
      go_wp2
      go_ret
      exact ⟨by rw [HR.out]; rfl, HB1.out⟩
  have h3 : ¬ k < 1 := by omega
  have h4 : ¬ 7 < k := by omega
  by_cases h67 : k = 6 ∨ k = 7
  · have hw : Ty.want k = 1 := by unfold Ty.want; rw [if_pos h67]
    by_cases hl1 : xs.length = 1
    · have gl : ((xs.length : Int) != 1) = false := bne_f (by omega)
      have HX : Hid (∀ j (hj : j < xs.length), ∃ u', TLies w u' xs[j] ∧ ItemT w p j u') := hxi
      have HIH := Lib.hid ih
      obtain ⟨ux, hvx, hix⟩ := HX.out 0 (by omega)
      obtain ⟨bx, ox, kx, qx, nx, cx, rfl, _, rfl, a0, a1⟩ := (hix.on HB1.out).lies
      rw [Nat.zero_mul, Nat.add_zero] at a0 a1
      have hR1 : R = Ty.check (d + 1) (xs[0]'(by omega)) := by
        obtain ⟨y, rfl⟩ := List.length_eq_one_iff.1 hl1
        rw [HCk.out]
        have := Ty.check_one d k y h1 (by omega) hw
        rw [Ty.check_mk] at this
        exact this
      have HC := Lib.hid (HIH.out _ (List.getElem_mem (by omega : 0 < xs.length)) (d + 1) _ _ (by omega) (hvx.on HB1.out))
      rw [← hR1] at HC
      unfold cells2 at HC
      have hl0 : (0 : Int) < (xs.length : Int) := by omega
      clear hR1 HX HIH hvx hix HCk ih hxi hw hl1
      rcases h67 with h6 | h6
      all_goals
        first
          | have e6 : (k == 6) = true := beq_t h6
          | (have e6 : (k == 6) = false := beq_f (by omega)
             have e7 : (k == 7) = true := beq_t h6)
        clear h6
        go_enter Try.func53, Try.ntmps53
        go_wp2_with fail
        refine HC.out.mono ?_
        rintro e w2 ⟨rfl, hb2⟩
        have HB2 := Lib.hid (HB1.out.trans (hb2.mono HB1.out.size))
        clear hb2
        go_wp2
        go_ret
        exact ⟨rfl, HB2.out⟩
    · have gl : ((xs.length : Int) != 1) = true := bne_t (by omega)
      have HR : Hid (R = 60) := by show _ = _; rw [HCk.out, if_neg h1, if_pos (by omega)]
      clear ih hxi HCk hw
      rcases h67 with h6 | h6
      all_goals
        first
          | have e6 : (k == 6) = true := beq_t h6
          | (have e6 : (k == 6) = false := beq_f (by omega)
             have e7 : (k == 7) = true := beq_t h6)
        clear h6
        go_enter Try.func53, Try.ntmps53
        go_wp2
        go_ret
        exact ⟨by rw [HR.out]; rfl, HB1.out⟩
  · have hw : Ty.want k = 0 := by unfold Ty.want; rw [if_neg h67]
    have e6 : (k == 6) = false := beq_f (by omega)
    have e7 : (k == 7) = false := beq_f (by omega)
    by_cases hl0 : xs.length = 0
    · have gl : ((xs.length : Int) != 0) = false := bne_f (by omega)
      have HR : Hid (R = 0) := by
        show _ = _
        have hx0 : xs = [] := List.eq_nil_of_length_eq_zero hl0
        subst hx0
        rw [HCk.out]
        have := Ty.check_leaf d k h1 (by omega) hw
        rw [Ty.check_mk] at this
        exact this
      clear ih hxi HCk hw hl0
      go_enter Try.func53, Try.ntmps53
      go_wp2
      go_ret
      exact ⟨by rw [HR.out]; rfl, HB1.out⟩
    · have gl : ((xs.length : Int) != 0) = true := bne_t (by omega)
      have HR : Hid (R = 60) := by show _ = _; rw [HCk.out, if_neg h1, if_pos (by omega)]
      clear ih hxi HCk hw hl0
      go_enter Try.func53, Try.ntmps53
      go_wp2
      go_ret
      exact ⟨by rw [HR.out]; rfl, HB1.out⟩

set_option maxHeartbeats 400000 in
theorem refCheckType7 (x : Ty) (w : World) (u : Array Value) (h : TLies w u x) : Calls Try.prog 32 #[.agg u] w fun e w' => e = .returned (.int .i64 (Ty.check 1 x : Nat)) ∧ Below w.heap.size w w' := by
  obtain ⟨k, xs⟩ := x
  obtain ⟨p, c, rfl, -⟩ := h.open
  have hB1 : Below w.heap.size w (w.alloc (.cells (cells2 k p xs.length c) 24)) := (Below.refl _ _).alloc (Nat.le_refl _) _
  have HB1 := Lib.hid hB1
  have HC := Lib.hid (refTypeAt7 _ 1 _ _ (by omega) (h.on hB1))
  clear hB1 h
  obtain ⟨R, hR⟩ : ∃ R, R = Ty.check 1 (.mk k xs) := ⟨_, rfl⟩
  rw [← hR] at HC ⊢
  clear hR
  unfold cells2 at HC HB1 ⊢
  go_enter Try.func32, Try.ntmps32
  go_wp2_with fail
  refine HC.out.mono ?_
  rintro e w2 ⟨rfl, hb2⟩
  have HB2 := Lib.hid (HB1.out.trans (hb2.mono HB1.out.size))
  clear hb2
  go_wp2
  go_ret
  exact ⟨rfl, HB2.out⟩

end Go.Proofs.Ytphmmmgdpbokkaa

/- The document's Name. -/
namespace Go.Proofs.Ytphmmmgdpbokkaa
open Go.RowKit

theorem headD_get {l : List UInt8} (h : 0 < l.length) : l.headD 0 = l[0] := by
  cases l with
  | nil => simp at h
  | cons a r => rfl
theorem name_short {t : ByteArray} (h : t.size < 1 ∨ 16 < t.size) : Sch.name t = false := by
  have hs : t.data.toList.length = t.size := by rw [Array.length_toList]; rfl
  unfold Sch.name Sch.nameL
  rw [decide_eq_false (by omega)]
  rfl
theorem name_head {t : ByteArray} (h : 0 < t.size) (hc : Sch.low t[0] = false) : Sch.name t = false := by
  have hs : t.data.toList.length = t.size := by rw [Array.length_toList]; rfl
  unfold Sch.name Sch.nameL
  have e : t.data.toList.headD 0 = t[0] := by
    rw [← text_get t 0 h]
    exact headD_get (by omega)
  rw [e, hc, Bool.and_false, Bool.false_and]
theorem name_bad {t : ByteArray} (j : Nat) (h : j < t.size) (hc : Sch.ch t[j] = false) : Sch.name t = false := by
  have hs : t.data.toList.length = t.size := by rw [Array.length_toList]; rfl
  unfold Sch.name Sch.nameL
  have : t.data.toList.all Sch.ch = false := by
    rw [List.all_eq_false]
    refine ⟨t[j], ?_, by simp [hc]⟩
    rw [← text_get t j h]
    exact List.getElem_mem _
  rw [this, Bool.and_false]
theorem name_good {t : ByteArray} (h1 : 1 ≤ t.size) (h2 : t.size ≤ 16) (h3 : Sch.low (t[0]'(by omega)) = true) (h4 : ∀ j (h : j < t.size), Sch.ch t[j] = true) : Sch.name t = true := by
  have hs : t.data.toList.length = t.size := by rw [Array.length_toList]; rfl
  unfold Sch.name Sch.nameL
  have e : t.data.toList.headD 0 = t[0]'(by omega) := by
    rw [← text_get t 0 (by omega)]
    exact headD_get (by omega)
  have : t.data.toList.all Sch.ch = true := by
    rw [List.all_eq_true]
    intro x hx
    obtain ⟨j, hj, rfl⟩ := List.getElem_of_mem hx
    rw [text_get t j (by omega)]
    exact h4 j (by omega)
  rw [e, h3, this, decide_eq_true (by omega)]
  rfl

set_option maxRecDepth 100000 in
set_option maxHeartbeats 1000000 in
theorem refName7 (t : ByteArray) (w : World) : Calls Try.prog 69 #[.string t] w fun e w' => e = .returned (.bool (Sch.name t)) ∧ w' = w := by
  by_cases h1 : t.size < 1
  · have g1 : (t.size : Int) < 1 := by omega
    have HE := Lib.hid (name_short (t := t) (.inl h1))
    clear h1
    go_enter Try.func69, Try.ntmps69
    go_wp2
    go_ret
    exact ⟨by rw [HE.out]; rfl, rfl⟩
  have g1 : ¬ (t.size : Int) < 1 := by omega
  by_cases h2 : 16 < t.size
  · have g2 : (16 : Int) < (t.size : Int) := by omega
    have HE := Lib.hid (name_short (t := t) (.inr h2))
    clear h1 h2
    go_enter Try.func69, Try.ntmps69
    go_wp2
    go_ret
    exact ⟨by rw [HE.out]; rfl, rfl⟩
  have g2 : ¬ (16 : Int) < (t.size : Int) := by omega
  have h0 : 0 < t.size := by omega
  have h0' : (0 : Int) < (t.size : Int) := by omega
  by_cases h3 : Sch.low t[0] = false
  · have HE := Lib.hid (name_head h0 h3)
    have h4 : t[0].toNat < 97 ∨ 122 < t[0].toNat := by
      unfold Sch.low at h3
      rw [decide_eq_false_iff_not] at h3
      omega
    clear h3 h1 h2
    rcases h4 with h4 | h4
    · have g4 : (t[0].toNat : Int) < 97 := by omega
      go_enter Try.func69, Try.ntmps69
      go_wp2
      go_ret
      exact ⟨by rw [HE.out]; rfl, rfl⟩
    · have g4 : ¬ (t[0].toNat : Int) < 97 := by omega
      have g5 : (122 : Int) < (t[0].toNat : Int) := by omega
      go_enter Try.func69, Try.ntmps69
      go_wp2
      go_ret
      exact ⟨by rw [HE.out]; rfl, rfl⟩
  have h3' : Sch.low t[0] = true := by simpa using h3
  have H3 := Lib.hid h3'
  have h4 : 97 ≤ t[0].toNat ∧ t[0].toNat ≤ 122 := by
    unfold Sch.low at h3'
    rw [decide_eq_true_eq] at h3'
    exact h3'
  have g4 : ¬ (t[0].toNat : Int) < 97 := by omega
  have g5 : ¬ (122 : Int) < (t[0].toNat : Int) := by omega
  clear h3 h3' h4
  go_enter Try.func69, Try.ntmps69
  go_wp2
  go_loop [3, 4] (fun v3 _ => ∃ a : Nat, a ≤ t.size ∧ v3 = .int .i64 a ∧ Hid (∀ j (h : j < t.size), j < a → Sch.ch t[j] = true)) (fun v3 _ => t.size - (intOf v3).toNat)
  case atStart => exact ⟨0, by omega, rfl, fun j _ h => by omega⟩
  case round =>
    obtain ⟨a, ha, rfl, HA⟩ := hrel
    by_cases hlt : a < t.size
    · have hlt' : (a : Int) < (t.size : Int) := by omega
      have hc2 := t[a].toNat_lt
      by_cases hc : Sch.ch t[a] = true
      · have HN : Hid (∀ j (h : j < t.size), j < a + 1 → Sch.ch t[j] = true) := fun j h hj => by
          by_cases hja : j = a
          · subst hja; exact hc
          · exact HA.out j h (by omega)
        have hcs : (97 ≤ t[a].toNat ∧ t[a].toNat ≤ 122) ∨ (48 ≤ t[a].toNat ∧ t[a].toNat ≤ 57) ∨ t[a].toNat = 95 := by
          unfold Sch.ch Sch.low at hc
          simp only [Bool.or_eq_true, decide_eq_true_eq] at hc
          omega
        clear HA hc g4 g5 H3
        rcases hcs with hcs | hcs | hcs
        · have k1 : ¬ (t[a].toNat : Int) < 97 := by omega
          have k2 : ¬ (122 : Int) < (t[a].toNat : Int) := by omega
          clear hcs
          go_wp2
          go_round
          case rel => exact ⟨a + 1, by omega, by go_num, HN⟩
          case measure => simp [intOf]; omega
        · have k1 : (t[a].toNat : Int) < 97 := by omega
          have k2 : ¬ (t[a].toNat : Int) < 48 := by omega
          have k3 : ¬ (57 : Int) < (t[a].toNat : Int) := by omega
          clear hcs
          go_wp2
          go_round
          case rel => exact ⟨a + 1, by omega, by go_num, HN⟩
          case measure => simp [intOf]; omega
        · have k1 : (t[a].toNat : Int) < 97 := by omega
          have k2 : ¬ (t[a].toNat : Int) < 48 := by omega
          have k3 : (57 : Int) < (t[a].toNat : Int) := by omega
          have k4 : ((t[a].toNat : Int) != 95) = false := by rw [hcs]; rfl
          clear hcs
          go_wp2
          go_round
          case rel => exact ⟨a + 1, by omega, by go_num, HN⟩
          case measure => simp [intOf]; omega
      · have HE := Lib.hid (name_bad a hlt (by simpa using hc))
        have hcs : t[a].toNat < 48 ∨ (57 < t[a].toNat ∧ t[a].toNat < 97 ∧ t[a].toNat ≠ 95) ∨ 122 < t[a].toNat := by
          unfold Sch.ch Sch.low at hc
          simp only [Bool.or_eq_true, decide_eq_true_eq] at hc
          omega
        clear HA hc g4 g5 H3
        rcases hcs with hcs | hcs | hcs
        · have k1 : (t[a].toNat : Int) < 97 := by omega
          have k2 : (t[a].toNat : Int) < 48 := by omega
          have k4 : ((t[a].toNat : Int) != 95) = true := by rw [bne_iff_ne]; omega
          clear hcs
          go_wp2
          go_ret
          exact ⟨by rw [HE.out]; rfl, rfl⟩
        · have k1 : (t[a].toNat : Int) < 97 := by omega
          have k2 : ¬ (t[a].toNat : Int) < 48 := by omega
          have k3 : (57 : Int) < (t[a].toNat : Int) := by omega
          have k4 : ((t[a].toNat : Int) != 95) = true := by rw [bne_iff_ne]; omega
          clear hcs
          go_wp2
          go_ret
          exact ⟨by rw [HE.out]; rfl, rfl⟩
        · have k1 : ¬ (t[a].toNat : Int) < 97 := by omega
          have k5 : (122 : Int) < (t[a].toNat : Int) := by omega
          have k2 : ¬ (t[a].toNat : Int) < 48 := by omega
          have k3 : (57 : Int) < (t[a].toNat : Int) := by omega
          have k4 : ((t[a].toNat : Int) != 95) = true := by rw [bne_iff_ne]; omega
          clear hcs
          go_wp2
          go_ret
          exact ⟨by rw [HE.out]; rfl, rfl⟩
    · have HE := Lib.hid (name_good (t := t) (by omega) (by omega) H3.out (fun j h => HA.out j h (by omega)))
      have hjn : ¬ (a : Int) < (t.size : Int) := by omega
      clear HA
      go_wp2
      go_ret
      exact ⟨by rw [HE.out]; rfl, rfl⟩
end Go.Proofs.Ytphmmmgdpbokkaa
