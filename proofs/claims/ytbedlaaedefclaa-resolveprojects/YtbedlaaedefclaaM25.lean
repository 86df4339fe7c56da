/- RzB: put together. -/
import Derived.Test.YtbedlaaedefclaaM24

/- Plain: what is read is of the type that it is read as; under its own schema a row is itself; a value made an opt and taken out is what it was (P9.5, P9.6). -/
namespace Go.Proofs.Ytbedlaaedefclaa
namespace Rz

theorem items_good {db : Nat} {k : Int} {y : Ty} {f : V → Except Nat V} {vs : List V} (hd : db ≤ 4) (hk : k = 6 ∨ k = 7) (hf : ∀ x ∈ vs, Good (db + 1) y (f x)) (hn : vs.length ≤ 256) (h2 : k = 6 → vs.length < 2) :
    Good db (.mk k [y]) (match allR f vs with
      | .error e => .error e
      | .ok l => .ok (.mk k 0 0 ⟨#[]⟩ l)) := by
  cases hr : allR f vs with
  | error e =>
    obtain ⟨x, hx, hfx⟩ := allR_bad vs hr
    have := hf x hx
    rw [hfx] at this
    exact this
  | ok l =>
    have hl := allR_len vs hr
    have hm : ∀ z ∈ l, chk (db + 1) z = 0 ∧ Sch.of z y = true ∧ z.wf ∧ V.fix z = z := fun z hz => by
      obtain ⟨x, hx, hfx⟩ := allR_mem vs hr z hz
      have := hf x hx
      rw [hfx] at this
      exact this
    refine ⟨Sch.chk_make hd (Sch.own_make (by omega) (.inr (.inr rfl)) (.inr Sch.fixB_zero) (.inr (.inr rfl)) (by omega) (by omega) (fun h => by have := h2 h; omega)) (Nat.zero_le _) (by omega) (by omega) (fun z hz => (hm z hz).1), of_make rfl (fun z hz => (hm z hz).2.1), V.wf_mk.2 ⟨by omega, by omega, by omega, Nat.zero_le _, fun z hz => (hm z hz).2.2.1⟩, ?_⟩
    rw [V.fix_mk, Sch.fixB_zero, V.fixL_eq]
    have : l.map V.fix = l := by
      conv => rhs; rw [← List.map_id l]
      exact List.map_congr_left fun z hz => (hm z hz).2.2.2
    rw [this]

theorem read_good : ∀ (d : Nat) (v : V) (a b : Ty) (da db dv : Nat), Ty.check da a = 0 → Ty.check db b = 0 → chk dv v = 0 → Sch.of v a = true → v.wf → 9 ≤ d + da + db → can d a b = true → Good db b (read d v a b)
  | 0, _, .mk ka xa, .mk kb xb, da, db, dv, ha, hb, _, _, _, hd, _ => by have := (Sch.ty_open ha).1; have := (Sch.ty_open hb).1; omega
  | d + 1, .mk j i bb t vs, .mk ka xa, .mk kb xb, da, db, dv, ha, hb, hc, ho, hw, hd, hcan => by
    obtain ⟨a4, ak, ax⟩ := Sch.ty_open ha
    obtain ⟨b4, bk, bx⟩ := Sch.ty_open hb
    obtain ⟨hj, hi⟩ := of_open ho
    have hj' : j = ka := hj
    subst hj'
    obtain ⟨-, hown, -, hn, -, hcx⟩ := Sch.chk_open hc
    obtain ⟨-, -, -, -, -, -, o7⟩ := Sch.own_open hown
    have hwx := (V.wf_mk.1 hw).2.2.2.2
    rw [can_succ] at hcan
    rw [read_succ]
    by_cases hb6 : kb = 6
    · rcases bx with ⟨h, -⟩ | ⟨-, y, rfl, hy⟩
      · omega
      by_cases ha6 : j = 6
      · rcases ax with ⟨h, -⟩ | ⟨-, x, rfl, hx⟩
        · omega
        rw [if_pos (by exact hb6), if_pos (by exact ha6)] at hcan
        rw [if_neg (by rintro ⟨-, h⟩; exact h ha6), if_neg (by rintro ⟨-, h⟩; exact h hb6), if_neg (by rintro ⟨h, -⟩; exact h hb6)]
        exact items_good b4 (.inl hb6) (fun z hz => read_good d z x y (da + 1) (db + 1) (dv + 1) hx hy (hcx z hz) (hi z hz) (hwx z hz) (by omega) hcan) hn (fun _ => o7 ha6)
      · rw [if_pos (by exact hb6), if_neg (by exact ha6)] at hcan
        rw [if_pos ⟨hb6, ha6⟩]
        have ih := read_good d (.mk j i bb t vs) (.mk j xa) y da (db + 1) dv ha hy hc ho hw (by omega) hcan
        rw [inner_one]
        have hg := items_good (k := 6) (y := y) (f := fun v => read d v (.mk j xa) y) (vs := [.mk j i bb t vs]) b4 (.inl rfl) (fun z hz => by rcases List.mem_singleton.1 hz with rfl; exact ih) (by simp) (by simp)
        rw [allR_cons, allR_nil] at hg
        subst hb6
        cases hr : read d (.mk j i bb t vs) (.mk j xa) y with
        | error e => rw [hr] at hg; exact hg
        | ok z => rw [hr] at hg; exact hg
    · rw [if_neg (by exact hb6)] at hcan
      rw [if_neg (by rintro ⟨h, -⟩; exact hb6 h)]
      by_cases ha6 : j = 6
      · rcases ax with ⟨h, -⟩ | ⟨-, x, rfl, hx⟩
        · omega
        rw [if_pos (by exact ha6)] at hcan
        rw [if_pos ⟨ha6, hb6⟩]
        cases vs with
        | nil => show (91 : Nat) ≠ 0; omega
        | cons z r => exact read_good d z x (.mk kb xb) (da + 1) db (dv + 1) hx hb (hcx z (by simp)) (hi z (by simp)) (hwx z (by simp)) (by omega) hcan
      · rw [if_neg (by exact ha6)] at hcan
        rw [if_neg (by rintro ⟨h, -⟩; exact ha6 h)]
        by_cases h77 : j = 7 ∧ kb = 7
        · rcases ax with ⟨h, -⟩ | ⟨-, x, rfl, hx⟩
          · omega
          rcases bx with ⟨h, -⟩ | ⟨-, y, rfl, hy⟩
          · omega
          rw [if_pos (by exact h77)] at hcan
          rw [if_neg (by rintro ⟨-, h⟩; exact h h77.2)]
          exact items_good b4 (.inr h77.2) (fun z hz => read_good d z x y (da + 1) (db + 1) (dv + 1) hx hy (hcx z hz) (hi z hz) (hwx z hz) (by omega) hcan) hn (fun h => absurd h hb6)
        · rw [if_neg (by exact h77)] at hcan
          have hp : plain j kb = true := hcan
          have hkb7 : kb ≠ 7 := by
            intro h
            unfold plain at hp
            rw [h] at hp
            simp at hp
          have hj7 : j ≠ 7 := by
            intro h
            unfold plain at hp
            rw [h] at hp
            simp at hp
          rw [if_pos (by exact ⟨hb6, hkb7⟩)]
          have hvn := no_items hc (by omega)
          subst hvn
          rcases bx with ⟨-, rfl⟩ | ⟨h, -⟩
          · exact scalar_good b4 hc hw bk ha6 hp
          · omega

theorem of_fix : ∀ (v : V) (t : Ty), Sch.of (V.fix v) t = Sch.of v t := by
  intro v
  refine V.ind (P := fun v => ∀ t, Sch.of (V.fix v) t = Sch.of v t) ?_ v
  intro k i b s xs ih t
  rw [V.fix_mk, Sch.of_mk, Sch.of_mk, V.fixL_eq, List.all_map]
  congr 1
  rw [Bool.eq_iff_iff, List.all_eq_true, List.all_eq_true]
  constructor
  · intro h x hx
    rw [← ih x hx]
    exact h x hx
  · intro h x hx
    show Sch.of (V.fix x) _ = true
    rw [ih x hx]
    exact h x hx
theorem fix_wf : ∀ (v : V), v.wf → (V.fix v).wf := by
  intro v
  refine V.ind (P := fun v => v.wf → (V.fix v).wf) ?_ v
  intro k i b s xs ih h
  obtain ⟨h1, h2, h3, h4, h5⟩ := V.wf_mk.1 h
  rw [V.fix_mk]
  refine V.wf_mk.2 ⟨h1, h2, Sch.fixB_lt h3, h4, fun x hx => ?_⟩
  rw [V.fixL_eq] at hx
  obtain ⟨z, hz, rfl⟩ := List.mem_map.1 hx
  exact ih z hz (h5 z hz)

/-- an opt of a type can be read as it -/
theorem can_out : ∀ (d : Nat) (a : Ty) (da : Nat), Ty.check da a = 0 → 6 ≤ d + da → can d (.mk 6 [a]) a = true
  | 0, .mk k xs, da, h, hd => by have := (Sch.ty_open h).1; omega
  | d + 1, .mk k xs, da, h, hd => by
    obtain ⟨h4, hk, hx⟩ := Sch.ty_open h
    rw [can_succ, inner_one]
    by_cases h6 : k = 6
    · rcases hx with ⟨h, -⟩ | ⟨-, x, rfl, hx⟩
      · omega
      subst h6
      rw [if_pos rfl, if_pos rfl, inner_one]
      exact can_out d x (da + 1) hx (by omega)
    · rw [if_neg (by exact h6), if_pos rfl]
      exact can_self d _ da h (by omega)
theorem can_in : ∀ (d : Nat) (a : Ty) (da : Nat), Ty.check da a = 0 → 6 ≤ d + da → can d a (.mk 6 [a]) = true
  | 0, .mk k xs, da, h, hd => by have := (Sch.ty_open h).1; omega
  | d + 1, .mk k xs, da, h, hd => by
    obtain ⟨h4, hk, hx⟩ := Sch.ty_open h
    rw [can_succ, inner_one, if_pos rfl]
    by_cases h6 : k = 6
    · rcases hx with ⟨h, -⟩ | ⟨-, x, rfl, hx⟩
      · omega
      subst h6
      rw [if_pos rfl, inner_one]
      exact can_in d x (da + 1) hx (by omega)
    · rw [if_neg (by exact h6)]
      exact can_self d _ da h (by omega)
/-- there and back -/
theorem opt_back : ∀ (d : Nat) (a : Ty) (v : V) (da dv : Nat), Ty.check da a = 0 → chk dv v = 0 → Sch.of v a = true → 6 ≤ d + da → ∃ y, read d v a (.mk 6 [a]) = .ok y ∧ read d y (.mk 6 [a]) a = .ok (V.fix v)
  | 0, .mk k xs, _, da, _, h, _, _, hd => by have := (Sch.ty_open h).1; omega
  | d + 1, .mk k xs, .mk j i b t vs, da, dv, h, hc, ho, hd => by
    obtain ⟨h4, hk, hx⟩ := Sch.ty_open h
    obtain ⟨hj, hi⟩ := of_open ho
    have hj' : j = k := hj
    subst hj'
    by_cases h6 : j = 6
    · rcases hx with ⟨h, -⟩ | ⟨-, x, rfl, hx⟩
      · omega
      subst h6
      obtain ⟨-, hown, -, -, -, hcx⟩ := Sch.chk_open hc
      obtain ⟨-, o2, o3, o4, -, -, o7⟩ := Sch.own_open hown
      have e1 : i = 0 := by omega
      have e2 : fixB b = 0 := by omega
      have e3 : t = ⟨#[]⟩ := by
        rcases o4 with o4 | o4 | o4
        · omega
        · omega
        · exact o4
      have h2 := o7 rfl
      rw [V.fix_mk, e1, e2, e3, V.fixL_eq]
      cases vs with
      | nil =>
        refine ⟨.mk 6 0 0 ⟨#[]⟩ [], ?_, ?_⟩
        · rw [read_succ, if_neg (by rintro ⟨-, h⟩; exact h rfl), if_neg (by rintro ⟨-, h⟩; exact h rfl), if_neg (by rintro ⟨h, -⟩; exact h rfl)]
          rfl
        · rw [read_succ, if_neg (by rintro ⟨-, h⟩; exact h rfl), if_neg (by rintro ⟨-, h⟩; exact h rfl), if_neg (by rintro ⟨h, -⟩; exact h rfl)]
          rfl
      | cons z r =>
        have hr : r = [] := by
          rw [List.length_cons] at h2
          exact List.eq_nil_of_length_eq_zero (by omega)
        subst hr
        obtain ⟨y, hy1, hy2⟩ := opt_back d x z (da + 1) (dv + 1) hx (hcx z (by simp)) (hi z (by simp)) (by omega)
        refine ⟨.mk 6 0 0 ⟨#[]⟩ [y], ?_, ?_⟩
        · rw [read_succ, if_neg (by rintro ⟨-, h⟩; exact h rfl), if_neg (by rintro ⟨-, h⟩; exact h rfl), if_neg (by rintro ⟨h, -⟩; exact h rfl)]
          rw [inner_one, inner_one]
          show (match allR (fun u => read d u x (.mk 6 [x])) [z] with
            | .error e => Except.error e
            | .ok l => Except.ok (V.mk 6 0 0 ⟨#[]⟩ l)) = _
          rw [allR_map [z] (fun _ => y) (fun u hu => by rcases List.mem_singleton.1 hu with rfl; exact hy1)]
          rfl
        · rw [read_succ, if_neg (by rintro ⟨-, h⟩; exact h rfl), if_neg (by rintro ⟨-, h⟩; exact h rfl), if_neg (by rintro ⟨h, -⟩; exact h rfl)]
          rw [inner_one, inner_one]
          show (match allR (fun u => read d u (.mk 6 [x]) x) [y] with
            | .error e => Except.error e
            | .ok l => Except.ok (V.mk 6 0 0 ⟨#[]⟩ l)) = _
          rw [allR_map [y] (fun _ => V.fix z) (fun u hu => by rcases List.mem_singleton.1 hu with rfl; exact hy2)]
          rfl
    · refine ⟨.mk 6 0 0 ⟨#[]⟩ [V.fix (.mk j i b t vs)], ?_, ?_⟩
      · rw [read_succ, if_pos ⟨rfl, h6⟩, inner_one, read_self d _ _ da dv h hc ho (by omega)]
      · rw [read_succ, if_neg (by rintro ⟨h, -⟩; exact h6 h), if_pos ⟨rfl, h6⟩, inner_one]
        show read d (V.fix (.mk j i b t vs)) _ _ = _
        rw [read_self d _ _ da dv h (by rw [chk_fix]; exact hc) (by rw [of_fix]; exact ho) (by omega), fix_idem]

theorem value_open {a b : Ty} {v y : V} (h : value a b v = .ok y) : Ty.check 1 a = 0 ∧ Ty.check 1 b = 0 ∧ chk 1 v = 0 ∧ Sch.of v a = true ∧ can 7 a b = true ∧ read 7 v a b = .ok y := by
  unfold value at h
  split at h
  · cases h
  · next h1 =>
    split at h
    · cases h
    · next h2 =>
      split at h
      · cases h
      · next h3 =>
        split at h
        · cases h
        · next h4 =>
          have h3' := Rw.vErr_zero (Classical.not_not.1 h3)
          exact ⟨Classical.not_not.1 h1, Classical.not_not.1 h2, h3'.2.1, h3'.2.2, by simpa using h4, h⟩
theorem value_make {a b : Ty} {v : V} (h1 : Ty.check 1 a = 0) (h2 : Ty.check 1 b = 0) (h3 : chk 1 v = 0) (h4 : Sch.of v a = true) (h5 : can 7 a b = true) : value a b v = read 7 v a b := by
  unfold value
  rw [if_neg (by omega), if_neg (by omega), if_neg (by rw [Rw.vErr_make h1 h3 h4]; omega), if_neg (by simp [h5])]
theorem value_good {a b : Ty} {v : V} (hw : v.wf) : Good 1 b (value a b v) := by
  unfold value
  split
  · next h => exact h
  · next h1 =>
    split
    · next h => exact h
    · next h2 =>
      split
      · next h => exact h
      · next h3 =>
        split
        · show (60 : Nat) ≠ 0; omega
        · next h4 =>
          have h3' := Rw.vErr_zero (Classical.not_not.1 h3)
          exact read_good 7 v a b 1 1 1 h3'.1 (Classical.not_not.1 h2) h3'.2.1 h3'.2.2 hw (by omega) (by simpa using h4)
/-- P9.6 -/
theorem value_back {a : Ty} {v y : V} (hw : v.wf) (h : value a (.mk 6 [a]) v = .ok y) : value (.mk 6 [a]) a y = .ok (V.fix v) := by
  obtain ⟨h1, h2, h3, h4, h5, h6⟩ := value_open h
  have hg := read_good 7 v a (.mk 6 [a]) 1 1 1 h1 h2 h3 h4 hw (by omega) h5
  rw [h6] at hg
  obtain ⟨g1, g2, -⟩ := hg
  obtain ⟨y', hy1, hy2⟩ := opt_back 7 a v 1 1 h1 h3 h4 (by omega)
  rw [hy1] at h6
  cases h6
  rw [value_make h2 h1 g1 g2 (can_out 7 a 1 h1 (by omega))]
  exact hy2

theorem leaf_ok {k : Int} (h : 1 ≤ k ∧ k ≤ 5) : Ty.check 1 (.mk k []) = 0 := Sch.ty_leaf (by omega) (by omega) (by omega)
theorem int_chk (n : Int) : chk 1 (.mk 2 n 0 ⟨#[]⟩ []) = 0 := Sch.chk_make (by omega) (Sch.own_make (by omega) (.inr (.inl rfl)) (.inr Sch.fixB_zero) (.inr (.inr rfl)) (.inr (.inr rfl)) (by omega) (by omega)) (Nat.zero_le _) (by simp) (by omega) (fun x hx => by cases hx)
theorem float_chk (x : Nat) : chk 1 (.mk 3 0 x ⟨#[]⟩ []) = 0 := Sch.chk_make (by omega) (Sch.own_make (by omega) (.inr (.inr rfl)) (.inl rfl) (.inr (.inr rfl)) (.inr (.inr rfl)) (by omega) (by omega)) (Nat.zero_le _) (by simp) (by omega) (fun x hx => by cases hx)
theorem value_int_float (n : Int) : value (.mk 2 []) (.mk 3 []) (.mk 2 n 0 ⟨#[]⟩ []) = if fromE n = 0 then .ok (.mk 3 0 (fromB n) ⟨#[]⟩ []) else .error 10 := by
  rw [value_make (leaf_ok (by omega)) (leaf_ok (by omega)) (int_chk n) (of_make rfl (fun x hx => by cases hx)) (by rfl)]
  rfl
theorem value_float_int (x : Nat) : value (.mk 3 []) (.mk 2 []) (.mk 3 0 x ⟨#[]⟩ []) = if toE x = 0 then .ok (.mk 2 (toN x) 0 ⟨#[]⟩ []) else .error 10 := by
  rw [value_make (leaf_ok (by omega)) (leaf_ok (by omega)) (float_chk x) (of_make rfl (fun x hx => by cases hx)) (by rfl)]
  rfl
theorem chk_V0 : chk 1 V0 = 60 := by
  unfold V0
  rw [chk_mk, if_neg (by omega), if_pos (by rfl)]
theorem value_zero {k j : Int} (hk : 1 ≤ k ∧ k ≤ 5) (hj : 1 ≤ j ∧ j ≤ 5) : value (.mk k []) (.mk j []) V0 = .error 60 := by
  unfold value
  rw [if_neg (by rw [leaf_ok hk]; omega), if_neg (by rw [leaf_ok hj]; omega)]
  have : Rw.vErr (.mk k []) V0 = 60 := by
    unfold Rw.vErr
    rw [chk_V0, if_pos (by omega)]
  rw [this, if_pos (by omega)]
end Rz
end Go.Proofs.Ytbedlaaedefclaa
