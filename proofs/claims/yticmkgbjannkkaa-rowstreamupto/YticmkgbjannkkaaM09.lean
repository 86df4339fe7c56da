/- SchD, SchE, SchF: put together. -/
import Derived.Test.YticmkgbjannkkaaM08

/- Plain: columns and schemas: what is made is read as it was, and what is read has just these bytes (P7.9). -/
namespace Go.Proofs.Yticmkgbjannkkaa
namespace Sch

theorem v0_fix : V.fix V0 = V0 := by unfold V0; rw [V.fix_mk, fixB_zero]; rfl
theorem v0_wf : V0.wf := V.wf_mk.2 ⟨by omega, by omega, by omega, Nat.zero_le _, fun x hx => by cases hx⟩
/-- what a column that may be is like -/
theorem col_open {l : List Col} {c : Col} (h : colErr l c = 0) : name c.name = true ∧ l.any (fun x => decide (x.name = c.name)) = false ∧ Ty.check 1 c.ty = 0 ∧ (c.has = false → V.fix c.dflt = V0) ∧ (c.has = true → chk 1 c.dflt = 0 ∧ of c.dflt c.ty = true) := by
  unfold colErr at h
  by_cases h1 : name c.name = false
  · rw [if_pos h1] at h; cases h
  rw [if_neg h1] at h
  by_cases h2 : l.any (fun x => decide (x.name = c.name)) = true
  · rw [if_pos h2] at h; cases h
  rw [if_neg h2] at h
  by_cases h3 : Ty.check 1 c.ty ≠ 0
  · rw [if_pos h3] at h; exact absurd h h3
  rw [if_neg h3] at h
  refine ⟨by simpa using h1, by simpa using h2, by simpa using h3, fun hh => ?_, fun hh => ?_⟩
  · rw [if_pos hh] at h
    by_cases h4 : V.same c.dflt V0 = true
    · rw [(same_iff _ _).1 h4, v0_fix]
    · rw [if_neg h4] at h; cases h
  · rw [if_neg (by rw [hh]; decide)] at h
    by_cases h4 : chk 1 c.dflt ≠ 0
    · rw [if_pos h4] at h; exact absurd h h4
    rw [if_neg h4] at h
    refine ⟨by simpa using h4, ?_⟩
    by_cases h5 : is c.dflt c.ty = true
    · unfold is at h5
      simp only [Bool.and_eq_true] at h5
      exact h5.2
    · rw [if_neg h5] at h; cases h
theorem col_make {l : List Col} {c : Col} (h1 : name c.name = true) (h2 : l.any (fun x => decide (x.name = c.name)) = false) (h3 : Ty.check 1 c.ty = 0) (h4 : c.has = false → V.fix c.dflt = V0) (h5 : c.has = true → chk 1 c.dflt = 0 ∧ of c.dflt c.ty = true) : colErr l c = 0 := by
  unfold colErr
  rw [if_neg (by rw [h1]; decide), if_neg (by rw [h2]; decide), if_neg (by simp [h3])]
  cases hh : c.has
  · rw [if_pos rfl, if_pos ((same_iff _ _).2 (by rw [h4 hh, v0_fix]))]
  · obtain ⟨h6, h7⟩ := h5 hh
    rw [if_neg (by decide), if_neg (by simp [h6]), if_pos (by unfold is; simp [h3, h6, h7])]
theorem colErr_names {l l' : List Col} (h : l.map Col.name = l'.map Col.name) (c : Col) : colErr l c = colErr l' c := by
  have key : ∀ (l l' : List Col), l.map Col.name = l'.map Col.name → l.any (fun x => decide (x.name = c.name)) = l'.any (fun x => decide (x.name = c.name)) := by
    intro l
    induction l with
    | nil => intro l' h; cases l' with
      | nil => rfl
      | cons y s => simp at h
    | cons x r ih => intro l' h; cases l' with
      | nil => simp at h
      | cons y s =>
        simp only [List.map_cons, List.cons.injEq] at h
        rw [List.any_cons, List.any_cons, h.1, ih s h.2]
  unfold colErr
  rw [key l l' h]
theorem name_size {t : ByteArray} (h : name t = true) : 1 ≤ t.size ∧ t.size ≤ 16 := by
  unfold name nameL at h
  simp only [Bool.and_eq_true, decide_eq_true_eq] at h
  have hs : t.data.toList.length = t.size := by rw [Array.length_toList]; rfl
  omega
theorem rdC_put {l : List Col} {c : Col} (r : List UInt8) (h : colErr l c = 0) (hw : c.wf) : rdC l (cB c ++ r) = .ok (c.fix, (cB c).length) := by
  obtain ⟨h1, h2, h3, h4, h5⟩ := col_open h
  obtain ⟨n, t, has, v⟩ := c
  obtain ⟨-, wt, wv⟩ := hw
  simp only at h1 h2 h3 h4 h5 wv
  obtain ⟨hn1, hn2⟩ := name_size h1
  have hs : n.data.toList.length = n.size := by rw [Array.length_toList]; rfl
  unfold cB Col.fix
  simp only
  rw [List.append_assoc, List.append_assoc, List.append_assoc, rdC, num_put _ _ (by omega)]
  dsimp only
  rw [if_neg (by omega), text_put 16 70 n _ hn2 (by omega)]
  dsimp only
  rw [if_neg (by rw [h1]; decide), if_neg (by rw [h2]; decide)]
  have d1 : ∀ q : List UInt8, (Leb.put n.size ++ (n.data.toList ++ q)).drop ((Leb.put n.size).length + n.size) = q := fun q => by
    rw [← List.append_assoc]
    exact List.drop_left' (by rw [List.length_append, hs])
  rw [d1, rdT_put 4 t _ (by omega) h3]
  dsimp only
  have d2 : ∀ q : List UInt8, (Leb.put n.size ++ (n.data.toList ++ (tyB t ++ q))).drop ((Leb.put n.size).length + n.size + (tyB t).length) = q := fun q => by
    rw [← List.append_assoc, ← List.append_assoc]
    exact List.drop_left' (by rw [List.length_append, List.length_append, hs])
  rw [d2]
  cases has
  · simp only [Bool.false_eq_true, if_false, List.cons_append, List.nil_append]
    rw [show (0 : UInt8) = UInt8.ofNat 0 from rfl, bit_put 0 _ (by omega)]
    dsimp only
    rw [if_pos rfl, h4 rfl]
    simp only [List.length_append, List.length_cons, List.length_nil, hs]
    congr 2
    omega
  · simp only [if_true, List.cons_append]
    obtain ⟨h6, h7⟩ := h5 rfl
    rw [show (1 : UInt8) = UInt8.ofNat 1 from rfl, bit_put 1 _ (by omega)]
    dsimp only
    rw [if_neg (by decide)]
    have d3 : ∀ q : List UInt8, (Leb.put n.size ++ (n.data.toList ++ (tyB t ++ UInt8.ofNat 1 :: q))).drop ((Leb.put n.size).length + n.size + (tyB t).length + 1) = q := fun q => by
      rw [show UInt8.ofNat 1 :: q = [UInt8.ofNat 1] ++ q from rfl, ← List.append_assoc, ← List.append_assoc, ← List.append_assoc]
      exact List.drop_left' (by rw [List.length_append, List.length_append, List.length_append, hs]; rfl)
    rw [d3, rdV_put t 1 v r h3 h6 h7 wv]
    dsimp only
    simp only [List.length_append, List.length_cons, hs]
    congr 2
    omega
theorem rdC_ok {l : List Col} {b : List UInt8} {c : Col} {j : Nat} (h : rdC l b = .ok (c, j)) : j = (cB c).length ∧ (∃ r, b = cB c ++ r) ∧ colErr l c = 0 ∧ c.fix = c ∧ c.wf := by
  rw [rdC] at h
  split at h
  · cases h
  · next n k hn =>
    by_cases hn0 : n = 0
    · rw [if_pos hn0] at h; cases h
    rw [if_neg hn0] at h
    split at h
    · cases h
    · next s j1 hs =>
      obtain ⟨t1, t2, rfl, r, rfl⟩ := text_ok hs
      have hsl : s.data.toList.length = s.size := by rw [Array.length_toList]; rfl
      by_cases h1 : name s = false
      · rw [if_pos h1] at h; cases h
      rw [if_neg h1] at h
      by_cases h2 : l.any (fun x => decide (x.name = s)) = true
      · rw [if_pos h2] at h; cases h
      rw [if_neg h2] at h
      have d1 : ∀ q : List UInt8, (Leb.put s.size ++ (s.data.toList ++ q)).drop ((Leb.put s.size).length + s.size) = q := fun q => by
        rw [← List.append_assoc]
        exact List.drop_left' (by rw [List.length_append, hsl])
      rw [d1] at h
      split at h
      · cases h
      · next t j2 ht =>
        obtain ⟨rfl, ⟨r2, rfl⟩, t3, t4⟩ := rdT_ok 4 _ _ _ (by omega) ht
        have d2 : ∀ q : List UInt8, (Leb.put s.size ++ (s.data.toList ++ (tyB t ++ q))).drop ((Leb.put s.size).length + s.size + (tyB t).length) = q := fun q => by
          rw [← List.append_assoc, ← List.append_assoc]
          exact List.drop_left' (by rw [List.length_append, List.length_append, hsl])
        rw [d2] at h
        split at h
        · cases h
        · next f j3 hf =>
          obtain ⟨f1, rfl, r3, rfl⟩ := bit_ok hf
          by_cases hf0 : f = 0
          · rw [if_pos hf0] at h
            simp only [Except.ok.injEq, Prod.mk.injEq] at h
            obtain ⟨rfl, rfl⟩ := h
            subst hf0
            unfold cB Col.fix Col.wf
            simp only [Bool.false_eq_true, if_false]
            refine ⟨?_, ⟨r3, ?_⟩, ?_, ?_, ⟨by omega, t4, v0_wf⟩⟩
            · simp only [List.length_append, List.length_cons, List.length_nil, hsl]; omega
            · simp only [List.append_assoc, List.cons_append, List.nil_append]; rfl
            · exact col_make (by simpa using h1) (by simpa using h2) t3 (fun _ => v0_fix) (fun hc => by cases hc)
            · rw [v0_fix]
          · rw [if_neg hf0] at h
            have hf1 : f = 1 := by omega
            subst hf1
            have d3 : ∀ q : List UInt8, (Leb.put s.size ++ (s.data.toList ++ (tyB t ++ UInt8.ofNat 1 :: q))).drop ((Leb.put s.size).length + s.size + (tyB t).length + 1) = q := fun q => by
              rw [show UInt8.ofNat 1 :: q = [UInt8.ofNat 1] ++ q from rfl, ← List.append_assoc, ← List.append_assoc, ← List.append_assoc]
              exact List.drop_left' (by rw [List.length_append, List.length_append, List.length_append, hsl]; rfl)
            rw [d3] at h
            split at h
            · cases h
            · next v j4 hv =>
              simp only [Except.ok.injEq, Prod.mk.injEq] at h
              obtain ⟨rfl, rfl⟩ := h
              obtain ⟨rfl, ⟨r4, rfl⟩, v1, v2, v3, v4⟩ := rdV_ok t 1 _ _ _ t3 hv
              unfold cB Col.fix Col.wf
              simp only [if_true]
              refine ⟨?_, ⟨r4, ?_⟩, ?_, ?_, ⟨by omega, t4, v4⟩⟩
              · simp only [List.length_append, List.length_cons, hsl]; omega
              · simp only [List.append_assoc, List.cons_append]; rfl
              · exact col_make (by simpa using h1) (by simpa using h2) t3 (fun hc => by cases hc) (fun _ => ⟨v1, v2⟩)
              · rw [v3]

theorem rdCs_put (r : List UInt8) : ∀ (s l : List Col), colsErr l s = 0 → (∀ c ∈ s, c.wf) → rdCs s.length (l.map Col.fix) ((s.map cB).flatten ++ r) = .ok ((l ++ s).map Col.fix, (s.map cB).flatten.length)
  | [], l, _, _ => by
    rw [List.append_nil]
    rfl
  | c :: s, l, h, hw => by
    rw [colsErr] at h
    by_cases hc : colErr l c = 0
    · rw [if_pos hc] at h
      have hn : colErr (l.map Col.fix) c = 0 := by
        rw [colErr_names (l' := l) ?_ c, hc]
        rw [List.map_map]
        rfl
      have ih := rdCs_put r s (l ++ [c]) h (fun x hx => hw x (List.mem_cons_of_mem _ hx))
      rw [List.length_cons, rdCs, List.map_cons, List.flatten_cons, List.append_assoc, rdC_put _ hn (hw c (by simp))]
      dsimp only
      rw [List.drop_left]
      rw [List.map_append, List.map_cons, List.map_nil] at ih
      rw [ih]
      dsimp only
      rw [List.append_assoc, List.singleton_append, List.length_append]
    · rw [if_neg hc] at h; exact absurd h hc
theorem rdCs_ok : ∀ (m : Nat) (l : List Col) (b : List UInt8) (l2 : List Col) (j : Nat), rdCs m l b = .ok (l2, j) → ∃ s, l2 = l ++ s ∧ s.length = m ∧ j = (s.map cB).flatten.length ∧ (∃ r, b = (s.map cB).flatten ++ r) ∧ colsErr l s = 0 ∧ ∀ c ∈ s, c.fix = c ∧ c.wf
  | 0, l, b, l2, j, h => by
    rw [rdCs] at h
    simp only [Except.ok.injEq, Prod.mk.injEq] at h
    obtain ⟨rfl, rfl⟩ := h
    exact ⟨[], by simp, rfl, rfl, ⟨b, rfl⟩, rfl, fun c hc => by cases hc⟩
  | m + 1, l, b, l2, j, h => by
    rw [rdCs] at h
    split at h
    · cases h
    · next c j1 hc =>
      obtain ⟨rfl, ⟨r, rfl⟩, c1, c2, c3⟩ := rdC_ok hc
      rw [List.drop_left] at h
      split at h
      · cases h
      · next l3 j2 hl =>
        simp only [Except.ok.injEq, Prod.mk.injEq] at h
        obtain ⟨rfl, rfl⟩ := h
        obtain ⟨s, rfl, rfl, rfl, ⟨r2, rfl⟩, s1, s2⟩ := rdCs_ok m (l ++ [c]) r l3 j2 hl
        refine ⟨c :: s, by simp, rfl, by rw [List.map_cons, List.flatten_cons, List.length_append], ⟨r2, by rw [List.map_cons, List.flatten_cons, List.append_assoc]⟩, ?_, fun x hx => ?_⟩
        · rw [colsErr, if_pos c1, s1]
        · rcases List.mem_cons.1 hx with rfl | hx
          · exact ⟨c2, c3⟩
          · exact s2 x hx

/-- what a schema that may be is like -/
theorem err_open {s : List Col} (h : err s = 0) : 1 ≤ s.length ∧ s.length ≤ 16 ∧ colsErr [] s = 0 ∧ (bytes s).length ≤ 1024 := by
  unfold err at h
  by_cases h1 : s.length = 0
  · rw [if_pos h1] at h; cases h
  rw [if_neg h1] at h
  by_cases h2 : 16 < s.length
  · rw [if_pos h2] at h; cases h
  rw [if_neg h2] at h
  by_cases h3 : colsErr [] s ≠ 0
  · rw [if_pos h3] at h; exact absurd h h3
  rw [if_neg h3] at h
  by_cases h4 : 1024 < (bytes s).length
  · rw [if_pos h4] at h; cases h
  exact ⟨by omega, by omega, by simpa using h3, by omega⟩
theorem err_make {s : List Col} (h1 : 1 ≤ s.length) (h2 : s.length ≤ 16) (h3 : colsErr [] s = 0) (h4 : (bytes s).length ≤ 1024) : err s = 0 := by
  unfold err
  rw [if_neg (by omega), if_neg (by omega), if_neg (by simp [h3]), if_neg (by omega)]
/-- there -/
theorem read_put {s : List Col} (h : err s = 0) (hw : ∀ c ∈ s, c.wf) : read (bytes s) = .ok (s.map Col.fix) := by
  obtain ⟨h1, h2, h3, h4⟩ := err_open h
  have e := rdCs_put [] s [] h3 hw
  rw [List.append_nil, List.nil_append, List.map_nil] at e
  have e0 : bytes s = Leb.put s.length ++ (s.map cB).flatten := rfl
  rw [read, if_neg (by omega), e0, num_put _ _ (by omega)]
  dsimp only
  rw [if_neg (by omega), if_neg (by omega), List.drop_left, e]
  dsimp only
  rw [if_pos (by rw [List.length_append])]
/-- and back -/
theorem read_ok {b : List UInt8} {s : List Col} (h : read b = .ok s) : err s = 0 ∧ bytes s = b ∧ ∀ c ∈ s, c.fix = c ∧ c.wf := by
  rw [read] at h
  by_cases h0 : 1024 < b.length
  · rw [if_pos h0] at h; cases h
  rw [if_neg h0] at h
  split at h
  · cases h
  · next n k hn =>
    obtain ⟨n1, r, rfl, rfl⟩ := num_ok hn
    by_cases h1 : n = 0
    · rw [if_pos h1] at h; cases h
    rw [if_neg h1] at h
    by_cases h2 : 16 < n
    · rw [if_pos h2] at h; cases h
    rw [if_neg h2, List.drop_left] at h
    split at h
    · cases h
    · next l j hl =>
      by_cases h3 : (Leb.put n).length + j = (Leb.put n ++ r).length
      · rw [if_pos h3] at h
        simp only [Except.ok.injEq] at h
        subst h
        obtain ⟨s, hs, rfl, rfl, ⟨r2, rfl⟩, s1, s2⟩ := rdCs_ok _ _ _ _ _ hl
        rw [List.nil_append] at hs
        subst hs
        have hr : r2 = [] := by
          rw [List.length_append, List.length_append] at h3
          exact List.eq_nil_of_length_eq_zero (by omega)
        subst hr
        rw [List.append_nil] at h0 ⊢
        have hb : bytes l = Leb.put l.length ++ (l.map cB).flatten := rfl
        exact ⟨err_make (by omega) (by omega) s1 (by rw [hb]; omega), hb, s2⟩
      · rw [if_neg h3] at h; cases h

theorem colSame_iff (c d : Col) : colSame c d = true ↔ c.fix = d.fix := by
  obtain ⟨n, t, a, v⟩ := c
  obtain ⟨n', t', a', v'⟩ := d
  unfold colSame Col.fix
  simp only [Bool.and_eq_true, decide_eq_true_eq, beq_iff_eq, Ty.same_iff, same_iff, Col.mk.injEq]
  constructor
  · rintro ⟨⟨⟨h1, h2⟩, h3⟩, h4⟩; exact ⟨h1, h3, h2, h4⟩
  · rintro ⟨h1, h3, h2, h4⟩; exact ⟨⟨⟨h1, h2⟩, h3⟩, h4⟩
theorem same_fix : ∀ (s t : List Col), same s t = true ↔ s.map Col.fix = t.map Col.fix
  | [], [] => by simp [same]
  | [], d :: t => by simp [same]
  | c :: s, [] => by simp [same]
  | c :: s, d :: t => by
    rw [same, Bool.and_eq_true, List.map_cons, List.map_cons, List.cons.injEq, colSame_iff, same_fix s t]
theorem vH_fix (k i : Int) (b : Nat) (t : ByteArray) (n : Nat) : vH k i (fixB b) t n = vH k i b t n := by unfold vH; rw [fixB_idem]
theorem vB_fix : ∀ v : V, vB (V.fix v) = vB v := by
  refine V.ind ?_
  intro k i b t xs ih
  rw [V.fix_mk, V.fixL_eq, vB_mk, vB_mk, vH_fix, List.length_map, List.map_map]
  congr 2
  exact congrArg List.flatten (List.map_congr_left (fun x hx => ih x hx))
theorem cB_fix (c : Col) : cB c.fix = cB c := by
  unfold cB Col.fix
  simp only [vB_fix]
theorem bytes_fix (s : List Col) : bytes (s.map Col.fix) = bytes s := by
  unfold bytes
  rw [List.length_map, List.map_map]
  congr 2
  exact List.map_congr_left (fun c _ => cB_fix c)
/-- no two that are not the same have the same bytes -/
theorem unlike {s t : List Col} (hs : err s = 0) (ht : err t = 0) (ws : ∀ c ∈ s, c.wf) (wt : ∀ c ∈ t, c.wf) : bytes s = bytes t ↔ same s t = true := by
  rw [same_fix]
  constructor
  · intro h
    have h1 := read_put hs ws
    rw [h, read_put ht wt] at h1
    simp only [Except.ok.injEq] at h1
    exact h1.symm
  · intro h
    rw [← bytes_fix s, h, bytes_fix]
end Sch
end Go.Proofs.Yticmkgbjannkkaa

/- Plain: how many bytes a value, a column, a schema has at most. -/
namespace Go.Proofs.Yticmkgbjannkkaa
namespace Sch

theorem flatten_le {α : Type} (f : α → List UInt8) (B : Nat) : ∀ xs : List α, (∀ x ∈ xs, (f x).length ≤ B) → (xs.map f).flatten.length ≤ xs.length * B
  | [], _ => by simp
  | x :: xs, h => by
    have h1 := h x (by simp)
    have h2 := flatten_le f B xs (fun y hy => h y (List.mem_cons_of_mem _ hy))
    rw [List.map_cons, List.flatten_cons, List.length_append, List.length_cons, Nat.add_mul]
    omega
theorem vH_len {k i : Int} {b : Nat} {t : ByteArray} {n : Nat} (ht : t.size ≤ 1024) : (vH k i b t n).length ≤ 1034 := by
  have hs : t.data.toList.length = t.size := by rw [Array.length_toList]; rfl
  have hp := Leb.put_length_le
  unfold vH
  split
  · simp
  split
  · have := hp (Leb.zig i); omega
  split
  · rw [le_len]; omega
  split
  · have := hp t.size; rw [List.length_append]; omega
  split
  · simp
  split
  · have := hp n; omega
  · simp
theorem vB_len : ∀ (v : V) (d : Nat), chk d v = 0 → (vB v).length ≤ 1100 * 260 ^ (4 - d) := by
  refine V.ind ?_
  intro k i b t xs ih d h
  obtain ⟨hd, ho, ht, hx, -, hc⟩ := chk_open h
  have h1 := vH_len (k := k) (i := i) (b := b) (n := xs.length) ht
  have hpos : 1 ≤ 260 ^ (4 - d) := Nat.one_le_pow _ _ (by decide)
  rw [vB_mk, List.length_append]
  split
  · rw [List.length_nil]; omega
  · cases xs with
    | nil => simp only [List.map_nil, List.flatten_nil, List.length_nil] at h1 ⊢; omega
    | cons x r =>
      have hx1 := hc x (by simp)
      obtain ⟨k', i', b', t', ys⟩ := x
      have hd1 := (chk_open hx1).1
      have hf := flatten_le vB (1100 * 260 ^ (4 - (d + 1))) (.mk k' i' b' t' ys :: r) (fun y hy => ih y hy (d + 1) (hc y hy))
      have e : 260 ^ (4 - d) = 260 ^ (4 - (d + 1)) * 260 := by rw [← Nat.pow_succ]; congr 1; omega
      have hp2 : 1 ≤ 260 ^ (4 - (d + 1)) := Nat.one_le_pow _ _ (by decide)
      rw [e]
      generalize 260 ^ (4 - (d + 1)) = q at *
      have h3 : (V.mk k' i' b' t' ys :: r).length * (1100 * q) ≤ 256 * (1100 * q) := Nat.mul_le_mul_right _ hx
      have o := own_open ho
      have hk67 : k = 6 ∨ k = 7 := by
        obtain ⟨-, -, -, -, o5, -⟩ := o
        simp at o5
        exact o5
      have hv : (vH k i b t (V.mk k' i' b' t' ys :: r).length).length ≤ 10 := by
        have hp := Leb.put_length_le (V.mk k' i' b' t' ys :: r).length
        unfold vH
        rcases hk67 with rfl | rfl
        · rw [if_neg (by decide), if_neg (by decide), if_neg (by decide), if_neg (by decide), if_pos rfl]; simp
        · rw [if_neg (by decide), if_neg (by decide), if_neg (by decide), if_neg (by decide), if_neg (by decide), if_pos rfl]; exact hp
      omega
theorem vB_small {v : V} {d : Nat} (h : chk d v = 0) (hd : 1 ≤ d) : (vB v).length ≤ 20000000000 := by
  have h1 := vB_len v d h
  have h2 : 260 ^ (4 - d) ≤ 260 ^ 3 := Nat.pow_le_pow_right (by decide) (by omega)
  have e : 260 ^ 3 = 17576000 := by decide
  rw [e] at h2
  omega
theorem tyB_len : ∀ (x : Ty) (d : Nat), Ty.check d x = 0 → (tyB x).length + d ≤ 5 := by
  refine Ty.ind ?_
  intro k xs ih d h
  obtain ⟨h1, h2, h3⟩ := ty_open h
  rcases h3 with ⟨h3, rfl⟩ | ⟨h3, y, rfl, hy⟩
  · rw [tyB_mk, if_neg h3, List.length_singleton]; omega
  · have := ih y (by simp) (d + 1) hy
    rw [tyB_mk, if_pos h3, List.length_cons]
    have e : ([y].map tyB).headD [] = tyB y := rfl
    rw [e]
    omega
theorem cB_len {l : List Col} {c : Col} (h : colErr l c = 0) : (cB c).length ≤ 20000000040 := by
  obtain ⟨h1, -, h3, -, h5⟩ := col_open h
  have hn := (name_size h1).2
  have hs : c.name.data.toList.length = c.name.size := by rw [Array.length_toList]; rfl
  have hp := Leb.put_length_le c.name.size
  have ht := tyB_len c.ty 1 h3
  unfold cB
  simp only [List.length_append, List.length_cons, hs]
  cases hh : c.has
  · simp; omega
  · have := vB_small (h5 hh).1 (by omega)
    simp; omega
theorem colsErr_mem : ∀ (s l : List Col), colsErr l s = 0 → ∀ c ∈ s, ∃ l', colErr l' c = 0
  | [], _, _, c, hc => by cases hc
  | d :: r, l, h, c, hc => by
    rw [colsErr] at h
    by_cases h0 : colErr l d = 0
    · rw [if_pos h0] at h
      rcases List.mem_cons.1 hc with rfl | hc
      · exact ⟨l, h0⟩
      · exact colsErr_mem r _ h c hc
    · rw [if_neg h0] at h; exact absurd h h0
theorem flat_small {s : List Col} (h : colsErr [] s = 0) (hn : s.length ≤ 16) : (s.map cB).flatten.length ≤ 320000000640 := by
  have h1 := flatten_le cB 20000000040 s (fun c hc => by obtain ⟨l, hl⟩ := colsErr_mem s [] h c hc; exact cB_len hl)
  have h2 : s.length * 20000000040 ≤ 16 * 20000000040 := Nat.mul_le_mul_right _ hn
  omega
theorem flatten_take {α : Type} (f : α → List UInt8) (xs : List α) (j : Nat) (h : j < xs.length) : ((xs.take (j + 1)).map f).flatten = ((xs.take j).map f).flatten ++ f xs[j] := by
  rw [List.take_succ_eq_append_getElem h, List.map_append, List.flatten_append]
  simp
theorem flatten_take_le {α : Type} (f : α → List UInt8) (xs : List α) (j : Nat) : ((xs.take j).map f).flatten.length ≤ (xs.map f).flatten.length := by
  have e : xs.map f = (xs.take j).map f ++ (xs.drop j).map f := by rw [← List.map_append, List.take_append_drop]
  rw [e, List.flatten_append, List.length_append]
  omega
end Sch
end Go.Proofs.Yticmkgbjannkkaa

/- No reading ends with the error 0. -/
namespace Go.Proofs.Yticmkgbjannkkaa
open Go.RowKit
namespace Sch

theorem bit_ne {l : List UInt8} {e : Nat} (h : bit l = .error e) : e ≠ 0 := by
  unfold bit at h
  split at h
  · cases h; decide
  · split at h
    · cases h; decide
    · cases h
theorem num_ne {l : List UInt8} {e : Nat} (h : num l = .error e) : e ≠ 0 := by
  unfold num at h
  split at h
  · cases h
  · next hn => cases h; exact hn
theorem text_ne {most long : Nat} {l : List UInt8} {e : Nat} (hl : long ≠ 0) (h : text most long l = .error e) : e ≠ 0 := by
  unfold text at h
  split at h
  · next hn => cases h; exact num_ne hn
  · split at h
    · cases h; exact hl
    · split at h
      · cases h; decide
      · cases h
theorem float_ne {l : List UInt8} {e : Nat} (h : float l = .error e) : e ≠ 0 := by
  unfold float at h
  split at h
  · cases h; decide
  · split at h
    · cases h
    · cases h; decide
theorem scalar_ne {k : Int} {l : List UInt8} {e : Nat} (h : scalar k l = .error e) : e ≠ 0 := by
  unfold scalar at h
  split at h
  · split at h
    · next hn => cases h; exact bit_ne hn
    · cases h
  · split at h
    · split at h
      · next hn => cases h; exact num_ne hn
      · cases h
    · split at h
      · split at h
        · next hn => cases h; exact float_ne hn
        · cases h
      · split at h
        · next hn => cases h; exact text_ne (by decide) hn
        · split at h
          · cases h; decide
          · cases h
theorem many_ne {k : Int} {l : List UInt8} {e : Nat} (h : many k l = .error e) : e ≠ 0 := by
  unfold many at h
  split at h
  · exact bit_ne h
  · split at h
    · next hn => cases h; exact num_ne hn
    · split at h
      · cases h; decide
      · cases h
theorem rdN_ne {f : List UInt8 → Except Nat (V × Nat)} (hf : ∀ l e, f l = .error e → e ≠ 0) : ∀ (m : Nat) (l : List UInt8) (e : Nat), rdN f m l = .error e → e ≠ 0
  | 0, l, e, h => by rw [rdN] at h; cases h
  | m + 1, l, e, h => by
    rw [rdN] at h
    split at h
    · next hn => cases h; exact hf _ _ hn
    · split at h
      · next hn => cases h; exact rdN_ne hf m _ _ hn
      · cases h
theorem rdV_ne : ∀ (t : Ty) (d : Nat) (l : List UInt8) (e : Nat), Ty.check d t = 0 → rdV t l = .error e → e ≠ 0 := by
  intro t
  refine Ty.ind (P := fun t => ∀ (d : Nat) (l : List UInt8) (e : Nat), Ty.check d t = 0 → rdV t l = .error e → e ≠ 0) ?_ t
  intro k xs ih d l e ht h
  obtain ⟨hd, hk, htt⟩ := ty_open ht
  rw [rdV_mk] at h
  rcases htt with ⟨h67, rfl⟩ | ⟨h67, x, rfl, hx⟩
  · rw [if_pos (by omega)] at h
    exact scalar_ne h
  · rw [if_neg (by omega)] at h
    split at h
    · next hn => cases h; exact many_ne hn
    · split at h
      · next hn => cases h; exact rdN_ne (f := rdV x) (fun l e h => ih x (by simp) (d + 1) l e hx h) _ _ _ hn
      · cases h
theorem rdT_ne : ∀ (f : Nat) (l : List UInt8) (e : Nat), rdT f l = .error e → e ≠ 0
  | 0, l, e, h => by rw [rdT] at h; cases h; decide
  | f + 1, [], e, h => by rw [rdT] at h; cases h; decide
  | f + 1, c :: r, e, h => by
    rw [rdT] at h
    split at h
    · cases h; decide
    · split at h
      · cases h
      · split at h
        · next hn => cases h; exact rdT_ne f r _ hn
        · cases h
theorem rdC_ne {l : List Col} {b : List UInt8} {e : Nat} (h : rdC l b = .error e) : e ≠ 0 := by
  rw [rdC] at h
  split at h
  · next hn => cases h; exact num_ne hn
  · split at h
    · cases h; decide
    · split at h
      · next hn => cases h; exact text_ne (by decide) hn
      · split at h
        · cases h; decide
        · split at h
          · cases h; decide
          · split at h
            · next hn => cases h; exact rdT_ne _ _ _ hn
            · next t j2 ht =>
              split at h
              · next hn => cases h; exact bit_ne hn
              · split at h
                · cases h
                · split at h
                  · next hn => cases h; exact rdV_ne t 1 _ _ (rdT_ok 4 _ t j2 (Nat.le_refl 4) ht).2.2.1 hn
                  · cases h
theorem rdCs_ne : ∀ (m : Nat) (l : List Col) (b : List UInt8) (e : Nat), rdCs m l b = .error e → e ≠ 0
  | 0, l, b, e, h => by rw [rdCs] at h; cases h
  | m + 1, l, b, e, h => by
    rw [rdCs] at h
    split at h
    · next hn => cases h; exact rdC_ne hn
    · split at h
      · next hn => cases h; exact rdCs_ne m _ _ _ hn
      · cases h
theorem read_ne {b : List UInt8} {e : Nat} (h : read b = .error e) : e ≠ 0 := by
  rw [read] at h
  split at h
  · cases h; decide
  · split at h
    · next hn => cases h; exact num_ne hn
    · split at h
      · cases h; decide
      · split at h
        · cases h; decide
        · split at h
          · next hn => cases h; exact rdCs_ne _ _ _ _ hn
          · split at h
            · cases h
            · cases h; decide
end Sch
end Go.Proofs.Yticmkgbjannkkaa
