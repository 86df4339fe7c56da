/- RzC: put together. -/
import Derived.Test.YtbedlaaedefclaaM25

/- Plain: rows under other schemas, some columns of a schema (P9.2 to P9.5, P9.7). -/
namespace Go.Proofs.Ytbedlaaedefclaa
theorem Leb.put_small {n : Nat} (h : n < 128) : (Leb.put n).length = 1 := by
  unfold Leb.put
  rw [Leb.putF, if_pos h]
  rfl
namespace Rz

theorem first_at {α : Type} (f : α → Nat) : ∀ (l : List α) (j : Nat) (hj : j < l.length), (∀ m (h : m < l.length), m < j → f l[m] = 0) → f l[j] ≠ 0 → V.first (l.map f) = f l[j]
  | x :: r, 0, _, _, h => by
    rw [List.getElem_cons_zero] at h ⊢
    rw [List.map_cons, V.first, if_neg h]
  | x :: r, j + 1, hj, ha, h => by
    rw [List.getElem_cons_succ] at h ⊢
    have h0 := ha 0 (by simp) (by omega)
    rw [List.getElem_cons_zero] at h0
    rw [List.map_cons, V.first, if_pos h0]
    exact first_at f r j (by simpa using hj) (fun m h1 h2 => by have := ha (m + 1) (by simpa using h1) (by omega); simpa using this) h
theorem first_all {α : Type} (f : α → Nat) : ∀ (l : List α), (∀ x ∈ l, f x = 0) → V.first (l.map f) = 0
  | [], _ => rfl
  | x :: r, h => by
    rw [List.map_cons, V.first, if_pos (h x (by simp))]
    exact first_all f r fun y hy => h y (by simp [hy])
theorem first_zero {α : Type} (f : α → Nat) : ∀ (l : List α), V.first (l.map f) = 0 → ∀ x ∈ l, f x = 0
  | [], _, x, hx => by cases hx
  | y :: r, h, x, hx => by
    rw [List.map_cons, V.first] at h
    by_cases h0 : f y = 0
    · rw [if_pos h0] at h
      rcases List.mem_cons.1 hx with rfl | hx
      · exact h0
      · exact first_zero f r h x hx
    · rw [if_neg h0] at h
      exact absurd h h0

theorem find_some (n : ByteArray) : ∀ (s : List Col) (k j : Nat), Sch.find n s k = some j → ∃ m, j = k + m ∧ ∃ h : m < s.length, s[m].name = n
  | [], k, j, h => by cases h
  | c :: r, k, j, h => by
    rw [Sch.find] at h
    by_cases hc : c.name = n
    · rw [if_pos hc] at h
      cases h
      exact ⟨0, by omega, by simp, by simpa using hc⟩
    · rw [if_neg hc] at h
      obtain ⟨m, hm, h1, h2⟩ := find_some n r (k + 1) j h
      exact ⟨m + 1, by omega, by simpa using h1, by simpa using h2⟩
theorem find_here {n : ByteArray} {s : List Col} {k : Nat} (h : Sch.find n s 0 = some k) : ∃ h : k < s.length, s[k].name = n := by
  obtain ⟨m, hm, h1, h2⟩ := find_some n s 0 k h
  have : m = k := by omega
  subst this
  exact ⟨h1, h2⟩
theorem find_none (n : ByteArray) : ∀ (s : List Col) (k : Nat), Sch.find n s k = none → ∀ c ∈ s, c.name ≠ n
  | [], _, _, c, hc => by cases hc
  | d :: r, k, h, c, hc => by
    rw [Sch.find] at h
    by_cases hd : d.name = n
    · rw [if_pos hd] at h; cases h
    · rw [if_neg hd] at h
      rcases List.mem_cons.1 hc with rfl | hc
      · exact hd
      · exact find_none n r (k + 1) h c hc
theorem find_first : ∀ (s : List Col) (i : Nat) (h : i < s.length) (k : Nat), (∀ m (hm : m < s.length), m < i → s[m].name ≠ s[i].name) → Sch.find s[i].name s k = some (k + i)
  | c :: r, 0, _, k, _ => by
    rw [List.getElem_cons_zero, Sch.find, if_pos rfl]
    rfl
  | c :: r, i + 1, h, k, hm => by
    have h0 := hm 0 (by simp) (by omega)
    rw [List.getElem_cons_zero, List.getElem_cons_succ] at h0
    rw [List.getElem_cons_succ, Sch.find, if_neg h0, find_first r i (by simpa using h) (k + 1) (fun m h1 h2 => by have := hm (m + 1) (by simpa using h1) (by omega); simpa using this)]
    congr 1
    omega
theorem colAt_get {s : List Col} {k : Nat} (h : k < s.length) : colAt s k = s[k] := by
  unfold colAt
  rw [List.getD_eq_getElem?_getD, List.getElem?_eq_getElem h]
  rfl
theorem getD_get {vs : List V} {k : Nat} (h : k < vs.length) : vs.getD k V0 = vs[k] := by
  rw [List.getD_eq_getElem?_getD, List.getElem?_eq_getElem h]
  rfl

/-- columns one by one -/
theorem cols_each {s : List Col} (h : Sch.colsErr [] s = 0) : ∀ i (hi : i < s.length), Sch.colErr (s.take i) s[i] = 0 := by
  have step : ∀ j, j ≤ s.length → Sch.colsErr (s.take j) (s.drop j) = 0 ∧ ∀ i (hi : i < s.length), i < j → Sch.colErr (s.take i) s[i] = 0 := by
    intro j
    induction j with
    | zero => intro _; exact ⟨by simpa using h, fun i _ h => by omega⟩
    | succ j ih =>
      intro hj
      obtain ⟨h1, h2⟩ := ih (by omega)
      rw [List.drop_eq_getElem_cons (show j < s.length by omega), Sch.colsErr] at h1
      by_cases h0 : Sch.colErr (s.take j) s[j] = 0
      · rw [if_pos h0] at h1
        rw [List.take_succ_eq_append_getElem (show j < s.length by omega)]
        refine ⟨h1, fun i hi hij => ?_⟩
        by_cases hc : i = j
        · subst hc; exact h0
        · exact h2 i hi (by omega)
      · rw [if_neg h0] at h1
        exact absurd h1 h0
  intro i hi
  exact (step s.length (Nat.le_refl _)).2 i hi hi
theorem cols_all {s : List Col} (h : ∀ i (hi : i < s.length), Sch.colErr (s.take i) s[i] = 0) : Sch.colsErr [] s = 0 := by
  have step : ∀ n j, j + n = s.length → Sch.colsErr (s.take j) (s.drop j) = 0 := by
    intro n
    induction n with
    | zero => intro j hj; rw [List.drop_eq_nil_of_le (by omega), Sch.colsErr]
    | succ n ih =>
      intro j hj
      have hj' : j < s.length := by omega
      rw [List.drop_eq_getElem_cons hj', Sch.colsErr, if_pos (h j hj')]
      have := ih (j + 1) (by omega)
      rw [List.take_succ_eq_append_getElem hj'] at this
      exact this
  have := step s.length 0 (by omega)
  simpa using this
theorem names_apart {s : List Col} (h : Sch.err s = 0) {i m : Nat} (hi : i < s.length) (hm : m < s.length) (hlt : m < i) : s[m].name ≠ s[i].name := by
  have h1 := cols_each (Sch.err_open h).2.2.1 i hi
  have h2 := (Sch.col_open h1).2.1
  rw [List.any_eq_false] at h2
  have := h2 s[m] (by
    rw [List.mem_take_iff_getElem]
    exact ⟨m, by omega, rfl⟩)
  simpa using this
theorem find_self {s : List Col} (h : Sch.err s = 0) {i : Nat} (hi : i < s.length) : Sch.find s[i].name s 0 = some i := by
  have := find_first s i hi 0 (fun m hm hlt => names_apart h hi hm hlt)
  simpa using this
theorem ty_ok {s : List Col} (h : Sch.err s = 0) {c : Col} (hc : c ∈ s) : Ty.check 1 c.ty = 0 := by
  obtain ⟨l, hl⟩ := Sch.colsErr_mem s [] (Sch.err_open h).2.2.1 c hc
  exact (Sch.col_open hl).2.2.1
theorem dflt_ok {s : List Col} (h : Sch.err s = 0) {c : Col} (hc : c ∈ s) (hh : c.has = true) : chk 1 c.dflt = 0 ∧ Sch.of c.dflt c.ty = true := by
  obtain ⟨l, hl⟩ := Sch.colsErr_mem s [] (Sch.err_open h).2.2.1 c hc
  exact (Sch.col_open hl).2.2.2.2 hh

/-- a row's values one by one -/
theorem vals_each : ∀ (s : List Col) (vs : List V), vs.length = s.length → Rw.colsErr s vs = 0 → ∀ i (h1 : i < s.length) (h2 : i < vs.length), Rw.vErr s[i].ty vs[i] = 0
  | [], _, _, _, i, h1, _ => by simp at h1
  | c :: s, [], h, _, i, _, _ => by simp at h
  | c :: s, v :: vs, h, he, i, h1, h2 => by
    rw [Rw.colsErr] at he
    by_cases h0 : Rw.vErr c.ty v = 0
    · rw [if_pos h0] at he
      cases i with
      | zero => simpa using h0
      | succ i => simpa using vals_each s vs (by simpa using h) he i (by simpa using h1) (by simpa using h2)
    · rw [if_neg h0] at he
      exact absurd he h0
theorem vals_all : ∀ (s : List Col) (vs : List V), vs.length = s.length → (∀ i (h1 : i < s.length) (h2 : i < vs.length), Rw.vErr s[i].ty vs[i] = 0) → Rw.colsErr s vs = 0
  | [], [], _, _ => rfl
  | [], _ :: _, h, _ => by simp at h
  | _ :: _, [], h, _ => by simp at h
  | c :: s, v :: vs, h, ha => by
    have h0 := ha 0 (by simp) (by simp)
    rw [List.getElem_cons_zero, List.getElem_cons_zero] at h0
    rw [Rw.colsErr, if_pos h0]
    exact vals_all s vs (by simpa using h) fun i h1 h2 => by have := ha (i + 1) (by simpa using h1) (by simpa using h2); simpa using this
theorem given_open {s : List Col} {vs : List V} (h : given s vs = 0) : vs.length = s.length ∧ ∀ i (h1 : i < s.length) (h2 : i < vs.length), Rw.vErr s[i].ty vs[i] = 0 := by
  unfold given at h
  by_cases hl : vs.length = s.length
  · rw [if_neg (by simpa using hl)] at h
    exact ⟨hl, vals_each s vs hl h⟩
  · rw [if_pos (by simpa using hl)] at h
    cases h
theorem given_make {s : List Col} {vs : List V} (hl : vs.length = s.length) (h : ∀ i (h1 : i < s.length) (h2 : i < vs.length), Rw.vErr s[i].ty vs[i] = 0) : given s vs = 0 := by
  unfold given
  rw [if_neg (by simpa using hl)]
  exact vals_all s vs hl h
theorem check_open {s t : List Col} (h : check s t = 0) : Sch.err s = 0 ∧ Sch.err t = 0 ∧ ∀ c ∈ t, colErr s c = 0 := by
  unfold check at h
  by_cases h1 : Sch.err s = 0
  · rw [if_neg (by omega)] at h
    by_cases h2 : Sch.err t = 0
    · rw [if_neg (by omega)] at h
      exact ⟨h1, h2, first_zero _ _ h⟩
    · rw [if_pos h2] at h; exact absurd h h2
  · rw [if_pos h1] at h; exact absurd h h1
theorem check_make {s t : List Col} (h1 : Sch.err s = 0) (h2 : Sch.err t = 0) (h3 : ∀ c ∈ t, colErr s c = 0) : check s t = 0 := by
  unfold check
  rw [if_neg (by omega), if_neg (by omega)]
  exact first_all _ _ h3

/-- what a column's value is like -/
theorem one_good {s t : List Col} {vs : List V} (hck : check s t = 0) (hg : given s vs = 0) (hwv : ∀ v ∈ vs, v.wf) (hwt : ∀ c ∈ t, c.wf) {c : Col} (hc : c ∈ t) : Good 1 c.ty (one s vs c) := by
  obtain ⟨h1, h2, h3⟩ := check_open hck
  obtain ⟨hl, hv⟩ := given_open hg
  have h4 := h3 c hc
  unfold one
  unfold colErr at h4
  cases hf : Sch.find c.name s 0 with
  | none =>
    rw [hf] at h4
    have hh : c.has = true := by
      cases h : c.has with
      | true => rfl
      | false => simp [h] at h4
    obtain ⟨d1, d2⟩ := dflt_ok h2 hc hh
    exact ⟨by rw [chk_fix]; exact d1, by rw [of_fix]; exact d2, fix_wf _ (hwt c hc).2.2, fix_idem _⟩
  | some k =>
    rw [hf] at h4
    obtain ⟨hk, -⟩ := find_here hf
    have hk2 : k < vs.length := by omega
    have hv' := Rw.vErr_zero (hv k hk hk2)
    show Good 1 c.ty (read 7 (vs.getD k V0) (colAt s k).ty c.ty)
    have h4' : can 7 (colAt s k).ty c.ty = true := by
      cases h : can 7 (colAt s k).ty c.ty with
      | true => rfl
      | false => simp [h] at h4
    rw [colAt_get hk] at h4' ⊢
    rw [getD_get hk2]
    exact read_good 7 vs[k] s[k].ty c.ty 1 1 1 hv'.1 (ty_ok h2 hc) hv'.2.1 hv'.2.2 (hwv _ (List.getElem_mem hk2)) (by omega) h4'
/-- P9.5: what is told is of the reader's schema -/
theorem row_typed {s t : List Col} {vs ys : List V} (h : row s t vs = .ok ys) (hwv : ∀ v ∈ vs, v.wf) (hwt : ∀ c ∈ t, c.wf) : check s t = 0 ∧ given s vs = 0 ∧ ys.length = t.length ∧ (∀ v ∈ ys, v.wf) ∧ ∀ j (h1 : j < ys.length) (h2 : j < t.length), Sch.is ys[j] t[j].ty = true := by
  unfold row at h
  by_cases h1 : check s t = 0
  · rw [if_neg (by omega)] at h
    by_cases h2 : given s vs = 0
    · rw [if_neg (by omega)] at h
      have hgd := fun c hc => one_good (c := c) h1 h2 hwv hwt hc
      refine ⟨h1, h2, allR_len t h, fun v hv => ?_, fun j hj1 hj2 => ?_⟩
      · obtain ⟨c, hc, hf⟩ := allR_mem t h v hv
        have := hgd c hc
        rw [hf] at this
        exact this.2.2.1
      · have hf := allR_at t h j hj2 hj1
        have := hgd t[j] (List.getElem_mem hj2)
        rw [hf] at this
        unfold Sch.is
        rw [decide_eq_true (ty_ok (check_open h1).2.1 (List.getElem_mem hj2)), decide_eq_true this.1, this.2.1]
        rfl
    · rw [if_pos h2] at h; cases h
  · rw [if_pos h1] at h; cases h
theorem row_ne {s t : List Col} {vs : List V} {e : Nat} (h : row s t vs = .error e) (hwv : ∀ v ∈ vs, v.wf) (hwt : ∀ c ∈ t, c.wf) : e ≠ 0 := by
  unfold row at h
  by_cases h1 : check s t = 0
  · rw [if_neg (by omega)] at h
    by_cases h2 : given s vs = 0
    · rw [if_neg (by omega)] at h
      obtain ⟨c, hc, hf⟩ := allR_bad t h
      have := one_good (c := c) h1 h2 hwv hwt hc
      rw [hf] at this
      exact this
    · rw [if_pos h2] at h; cases h; exact h2
  · rw [if_pos h1] at h; cases h; exact h1
theorem row_make {s t : List Col} {vs : List V} (h1 : check s t = 0) (h2 : given s vs = 0) : row s t vs = allR (one s vs) t := by
  unfold row
  rw [if_neg (by omega), if_neg (by omega)]
/-- a column that both have, of the same type -/
theorem one_self {s : List Col} {vs : List V} (hg : given s vs = 0) {c : Col} {k : Nat} (hk : k < s.length) (hv : k < vs.length) (hn : Sch.find c.name s 0 = some k) (ht : c.ty = s[k].ty) : colErr s c = 0 ∧ one s vs c = .ok (V.fix vs[k]) := by
  obtain ⟨hl, hvs⟩ := given_open hg
  have hv' := Rw.vErr_zero (hvs k hk hv)
  unfold colErr one
  rw [hn]
  constructor
  · show (if can 7 (colAt s k).ty c.ty = true then 0 else 60) = 0
    rw [colAt_get hk, ht, can_self 7 s[k].ty 1 hv'.1 (by omega)]
    rfl
  · show read 7 (vs.getD k V0) (colAt s k).ty c.ty = _
    rw [colAt_get hk, getD_get hv, ht]
    exact read_self 7 s[k].ty vs[k] 1 1 hv'.1 hv'.2.1 hv'.2.2 (by omega)
theorem allR_each {α β : Type} {f : α → Except Nat β} : ∀ (l : List α) (ys : List β), ys.length = l.length → (∀ j (h1 : j < l.length) (h2 : j < ys.length), f l[j] = .ok ys[j]) → allR f l = .ok ys
  | [], [], _, _ => rfl
  | [], _ :: _, h, _ => by simp at h
  | _ :: _, [], h, _ => by simp at h
  | x :: l, y :: ys, h, ha => by
    have h0 := ha 0 (by simp) (by simp)
    rw [List.getElem_cons_zero, List.getElem_cons_zero] at h0
    rw [allR_cons, h0, allR_each l ys (by simpa using h) fun j h1 h2 => by have := ha (j + 1) (by simpa using h1) (by simpa using h2); simpa using this]
/-- P9.5: under its own schema a row is itself -/
theorem row_self {s : List Col} {vs : List V} {ys : List V} (h : row s s vs = .ok ys) : Sch.err s = 0 ∧ given s vs = 0 ∧ ys = vs.map V.fix := by
  unfold row at h
  by_cases h1 : check s s = 0
  · rw [if_neg (by omega)] at h
    by_cases h2 : given s vs = 0
    · rw [if_neg (by omega)] at h
      have he := (check_open h1).1
      have hl := (given_open h2).1
      have h3 : allR (one s vs) s = .ok (vs.map V.fix) := allR_each _ _ (by simpa using hl) fun j h1 h2' => by
        have := (one_self h2 (c := s[j]) h1 (by omega) (find_self he h1) rfl).2
        rw [this, List.getElem_map]
      rw [h3] at h
      cases h
      exact ⟨he, h2, rfl⟩
    · rw [if_pos h2] at h; cases h
  · rw [if_pos h1] at h; cases h

/-- P9.7: what else the columns could hold -/
theorem row_blind {s t : List Col} {vs qs ys : List V} (h : row s t vs = .ok ys) (hl : qs.length = vs.length) (hq : ∀ i (h1 : i < s.length) (h2 : i < vs.length) (h3 : i < qs.length), qs[i] = vs[i] ∨ (Sch.find s[i].name t 0 = none ∧ Sch.is qs[i] s[i].ty = true)) : row s t qs = .ok ys := by
  unfold row at h
  by_cases h1 : check s t = 0
  · rw [if_neg (by omega)] at h
    by_cases h2 : given s vs = 0
    · rw [if_neg (by omega)] at h
      obtain ⟨gl, gv⟩ := given_open h2
      have h3 : given s qs = 0 := given_make (by omega) fun i hi1 hi2 => by
        rcases hq i hi1 (by omega) hi2 with hc | ⟨-, hc⟩
        · rw [hc]; exact gv i hi1 (by omega)
        · unfold Sch.is at hc
          simp only [Bool.and_eq_true, decide_eq_true_eq] at hc
          exact Rw.vErr_make hc.1.1 hc.1.2 hc.2
      rw [row_make h1 h3, ← h]
      refine allR_congr t fun c hc => ?_
      unfold one
      cases hf : Sch.find c.name s 0 with
      | none => rfl
      | some k =>
        obtain ⟨hk, hn⟩ := find_here hf
        show read 7 (qs.getD k V0) _ _ = read 7 (vs.getD k V0) _ _
        rw [getD_get (show k < qs.length by omega), getD_get (show k < vs.length by omega)]
        rcases hq k hk (by omega) (by omega) with he | ⟨he, -⟩
        · rw [he]
        · exact absurd hn.symm (find_none _ t 0 he c hc)
    · rw [if_pos h2] at h; cases h
  · rw [if_pos h1] at h; cases h

/-- the columns that are named -/
theorem proj_open {s : List Col} : ∀ (ns l : List ByteArray) {p : List Col}, proj s l ns = .ok p → p.length = ns.length ∧ (∀ n ∈ ns, n ∉ l) ∧ ns.Nodup ∧ ∀ i (h1 : i < ns.length) (h2 : i < p.length), ∃ k, Sch.find ns[i] s 0 = some k ∧ p[i] = (colAt s k).fix
  | [], l, p, h => by
    rw [proj] at h
    cases h
    exact ⟨rfl, fun n hn => (by cases hn), List.nodup_nil, fun i h1 => by simp at h1⟩
  | n :: r, l, p, h => by
    rw [proj] at h
    by_cases hn : hasN l n = true
    · rw [if_pos hn] at h; cases h
    · rw [if_neg hn] at h
      rw [hasN_iff] at hn
      cases hf : Sch.find n s 0 with
      | none => rw [hf] at h; cases h
      | some k =>
        rw [hf] at h
        cases hr : proj s (l ++ [n]) r with
        | error e => simp only [hr] at h; cases h
        | ok cs =>
          simp only [hr] at h
          cases h
          obtain ⟨h1, h2, h3, h4⟩ := proj_open r (l ++ [n]) hr
          refine ⟨by simp [h1], fun m hm => ?_, ?_, fun i hi1 hi2 => ?_⟩
          · rcases List.mem_cons.1 hm with rfl | hm
            · exact hn
            · intro hc
              exact h2 m hm (by simp [hc])
          · refine List.nodup_cons.2 ⟨fun hc => ?_, h3⟩
            exact h2 n hc (by simp)
          · cases i with
            | zero => exact ⟨k, by simpa using hf, rfl⟩
            | succ i => simpa using h4 i (by simpa using hi1) (by simpa using hi2)

/-- a number of the first column of that name -/
def pick (f : Col → Nat) (n : ByteArray) : List Col → Nat
  | [] => 0
  | c :: r => if c.name = n then f c else pick f n r
theorem sum_swap (a : ByteArray) (x : Nat) (g : ByteArray → Nat) : ∀ ns : List ByteArray, ns.Nodup → (ns.map fun n => if a = n then x else g n).sum ≤ x + ((ns.filter fun n => !decide (a = n)).map g).sum
  | [], _ => by simp
  | n :: r, h => by
    obtain ⟨h1, h2⟩ := List.nodup_cons.1 h
    have ih := sum_swap a x g r h2
    rw [List.map_cons, List.sum_cons]
    by_cases hn : a = n
    · subst hn
      rw [if_pos rfl, List.filter_cons_of_neg (by simp)]
      have h3 : (r.map fun n => if a = n then x else g n) = r.map g := List.map_congr_left fun m hm => by
        rw [if_neg]
        intro hc
        rw [hc] at h1
        exact h1 hm
      have h4 : (r.filter fun n => !decide (a = n)) = r := List.filter_eq_self.2 fun m hm => by
        simp only [Bool.not_eq_true', decide_eq_false_iff_not]
        intro hc
        rw [hc] at h1
        exact h1 hm
      rw [h3, h4]
      omega
    · rw [if_neg hn, List.filter_cons_of_pos (by simpa using hn), List.map_cons, List.sum_cons]
      omega
theorem sum_pick (f : Col → Nat) : ∀ (s : List Col) (ns : List ByteArray), ns.Nodup → (ns.map fun n => pick f n s).sum ≤ (s.map f).sum
  | [], ns, _ => by
    have : (ns.map fun n => pick f n []) = ns.map fun _ => 0 := rfl
    rw [this]
    have h0 : ∀ l : List ByteArray, (l.map fun _ => 0).sum = 0 := fun l => by
      induction l with
      | nil => rfl
      | cons x r ih => rw [List.map_cons, List.sum_cons, ih]
    rw [h0]
    exact Nat.zero_le _
  | c :: r, ns, h => by
    have h1 := sum_swap c.name (f c) (fun n => pick f n r) ns h
    have h2 := sum_pick f r (ns.filter fun n => !decide (c.name = n)) (h.filter _)
    have h3 : (ns.map fun n => pick f n (c :: r)) = ns.map fun n => if c.name = n then f c else pick f n r := rfl
    rw [h3, List.map_cons, List.sum_cons]
    omega
theorem pick_find (f : Col → Nat) (n : ByteArray) : ∀ (s : List Col) (k m : Nat), Sch.find n s k = some m → ∃ h : m - k < s.length, pick f n s = f s[m - k]
  | [], k, m, h => by cases h
  | c :: r, k, m, h => by
    rw [Sch.find] at h
    by_cases hc : c.name = n
    · rw [if_pos hc] at h
      cases h
      refine ⟨by simp, ?_⟩
      rw [pick, if_pos hc]
      simp
    · rw [if_neg hc] at h
      obtain ⟨h1, h2⟩ := pick_find f n r (k + 1) m h
      obtain ⟨q, hq, -⟩ := find_some n r (k + 1) m h
      have e : m - k = m - (k + 1) + 1 := by omega
      refine ⟨by rw [e]; simpa using h1, ?_⟩
      rw [pick, if_neg hc, h2]
      simp only [e, List.getElem_cons_succ]
/-- P9.4: what is told may be -/
theorem proj_err {s p : List Col} {ns : List ByteArray} (hs : Sch.err s = 0) (hn : ns.length ≠ 0) (h : proj s [] ns = .ok p) : Sch.err p = 0 := by
  obtain ⟨h1, -, h3, h4⟩ := proj_open ns [] h
  obtain ⟨s1, s2, s3, s4⟩ := Sch.err_open hs
  have hpick : ∀ f : Col → Nat, (∀ c, f c.fix = f c) → (p.map f).sum ≤ (s.map f).sum := fun f hf => by
    have e : p.map f = ns.map fun n => pick f n s := by
      apply List.ext_getElem
      · simpa using h1
      · intro i hi1 hi2
        rw [List.getElem_map, List.getElem_map]
        obtain ⟨k, hk, hp⟩ := h4 i (by simpa using hi2) (by simpa using hi1)
        obtain ⟨hk1, hk2⟩ := pick_find f _ s 0 k hk
        rw [hp, hf, hk2]
        have : colAt s k = s[k - 0] := colAt_get hk1
        rw [this]
    rw [e]
    exact sum_pick f s ns h3
  have hlen := hpick (fun _ => 1) (fun _ => rfl)
  have e1 : ∀ l : List Col, (l.map fun _ => 1).sum = l.length := fun l => by
    induction l with
    | nil => rfl
    | cons x r ih => rw [List.map_cons, List.sum_cons, ih, List.length_cons]; omega
  rw [e1, e1] at hlen
  have hby := hpick (fun c => (Sch.cB c).length) (fun c => by rw [Sch.cB_fix])
  have e2 : ∀ l : List Col, (l.map Sch.cB).flatten.length = (l.map fun c => (Sch.cB c).length).sum := fun l => by
    induction l with
    | nil => rfl
    | cons x r ih => rw [List.map_cons, List.flatten_cons, List.length_append, ih, List.map_cons, List.sum_cons]
  refine Sch.err_make (by omega) (by omega) (cols_all fun i hi => ?_) ?_
  · obtain ⟨k, hk, hp⟩ := h4 i (by omega) hi
    obtain ⟨hk1, hk2⟩ := find_here hk
    rw [colAt_get hk1] at hp
    obtain ⟨c1, -, c3, c4, c5⟩ := Sch.col_open (cols_each s3 k hk1)
    rw [hp]
    refine Sch.col_make c1 ?_ c3 (fun hh => by show V.fix (V.fix _) = _; rw [fix_idem]; exact c4 hh) (fun hh => ?_)
    · rw [List.any_eq_false]
      intro c hc
      rw [List.mem_take_iff_getElem] at hc
      obtain ⟨m, hm, rfl⟩ := hc
      obtain ⟨k', hk', hp'⟩ := h4 m (by omega) (by omega)
      obtain ⟨hk1', hk2'⟩ := find_here hk'
      rw [colAt_get hk1'] at hp'
      rw [hp']
      simp only [decide_eq_true_eq]
      show ¬ s[k'].name = s[k].name
      rw [hk2', hk2]
      intro hc
      exact List.pairwise_iff_getElem.1 h3 m i (by omega) (by omega) (by omega) hc
    · have := c5 hh
      exact ⟨by show chk 1 (V.fix _) = 0; rw [chk_fix]; exact this.1, by show Sch.of (V.fix _) _ = true; rw [of_fix]; exact this.2⟩
  · rw [Sch.bytes] at s4 ⊢
    rw [List.length_append, e2] at s4 ⊢
    have hp1 : (Leb.put p.length).length = 1 := Leb.put_small (by omega)
    have hp2 : (Leb.put s.length).length = 1 := Leb.put_small (by omega)
    omega
theorem project_open {s p : List Col} {ns : List ByteArray} (h : project s ns = .ok p) : Sch.err s = 0 ∧ Sch.err p = 0 ∧ p.length = ns.length ∧ ∀ i (h1 : i < ns.length) (h2 : i < p.length), ∃ k, Sch.find ns[i] s 0 = some k ∧ p[i] = (colAt s k).fix := by
  unfold project at h
  by_cases h1 : Sch.err s = 0
  · rw [if_neg (by omega)] at h
    by_cases h2 : ns.length = 0
    · rw [if_pos h2] at h; cases h
    · rw [if_neg h2] at h
      obtain ⟨a, -, -, b⟩ := proj_open ns [] h
      exact ⟨h1, proj_err h1 h2 h, a, b⟩
  · rw [if_pos h1] at h; cases h
theorem project_ne {s : List Col} {ns : List ByteArray} {e : Nat} (h : project s ns = .error e) : e ≠ 0 := by
  have hp : ∀ (ns l : List ByteArray) {e : Nat}, proj s l ns = .error e → e ≠ 0 := by
    intro ns
    induction ns with
    | nil => intro l e h; rw [proj] at h; cases h
    | cons n r ih =>
      intro l e h
      rw [proj] at h
      by_cases hn : hasN l n = true
      · rw [if_pos hn] at h; cases h; omega
      · rw [if_neg hn] at h
        cases hf : Sch.find n s 0 with
        | none => rw [hf] at h; cases h; omega
        | some k =>
          rw [hf] at h
          cases hr : proj s (l ++ [n]) r with
          | error e' => simp only [hr] at h; cases h; exact ih _ hr
          | ok cs => simp only [hr] at h; cases h
  unfold project at h
  by_cases h1 : Sch.err s = 0
  · rw [if_neg (by omega)] at h
    by_cases h2 : ns.length = 0
    · rw [if_pos h2] at h; cases h; omega
    · rw [if_neg h2] at h
      exact hp ns [] h
  · rw [if_pos h1] at h; cases h; exact h1
/-- P9.5: under some of its columns a row is just these -/
theorem row_project {s p : List Col} {vs : List V} {ns : List ByteArray} (h : project s ns = .ok p) (hg : given s vs = 0) : ∃ ys, row s p vs = .ok ys ∧ ys.length = ns.length ∧ ∀ i (h1 : i < ns.length) (h2 : i < ys.length), ∃ k, Sch.find ns[i] s 0 = some k ∧ ∃ hk : k < vs.length, ys[i] = V.fix vs[k] := by
  obtain ⟨h1, h2, h3, h4⟩ := project_open h
  obtain ⟨gl, -⟩ := given_open hg
  have hone : ∀ i (hi : i < p.length), ∃ k, ∃ hk : k < vs.length, Sch.find (ns[i]'(by omega)) s 0 = some k ∧ colErr s p[i] = 0 ∧ one s vs p[i] = .ok (V.fix vs[k]) := fun i hi => by
    obtain ⟨k, hk, hp⟩ := h4 i (by omega) hi
    obtain ⟨hk1, hk2⟩ := find_here hk
    rw [colAt_get hk1] at hp
    have := one_self hg (c := p[i]) hk1 (by omega) (by rw [hp]; show Sch.find s[k].name s 0 = _; rw [hk2]; exact hk) (by rw [hp]; rfl)
    exact ⟨k, by omega, hk, this.1, this.2⟩
  have hck : check s p = 0 := check_make h1 h2 fun c hc => by
    obtain ⟨i, hi, rfl⟩ := List.mem_iff_getElem.1 hc
    obtain ⟨k, -, -, he, -⟩ := hone i hi
    exact he
  cases hr : allR (one s vs) p with
  | error e =>
    obtain ⟨c, hc, hf⟩ := allR_bad p hr
    obtain ⟨i, hi, rfl⟩ := List.mem_iff_getElem.1 hc
    obtain ⟨k, hk, -, -, he⟩ := hone i hi
    rw [hf] at he
    cases he
  | ok ys =>
    have hl := allR_len p hr
    refine ⟨ys, by rw [row_make hck hg]; exact hr, by omega, fun i hi1 hi2 => ?_⟩
    obtain ⟨k, hk, hf, -, he⟩ := hone i (by omega)
    have := allR_at p hr i (by omega) hi2
    rw [he] at this
    injection this with this
    exact ⟨k, hf, hk, this.symm⟩
end Rz
end Go.Proofs.Ytbedlaaedefclaa
