/- SchC, SchD, SchE, SchF, CLies, TOwn, COwn, WTypeR, WNameR, WFindR, WIsR, K7Pl, LebC, ValueC: put together. -/
import Derived.Test.YtnlhpndjogjejaaGreatDoorB03
import Derived.Test.YtnlhpndjogjejaaGreatDoorB02
import Derived.Test.YtnlhpndjogjejaaGreatDoorB01

/- Plain: values, types, columns and schemas: what is made is read as it was, and what is read has just these bytes. -/
namespace Go.Proofs.YtnlhpndjogjejaaGreatDoor
namespace Sch

theorem rdN_put (f : List UInt8 → Except Nat (V × Nat)) (r : List UInt8) : ∀ xs : List V, (∀ x ∈ xs, ∀ r, f (vB x ++ r) = .ok (V.fix x, (vB x).length)) → rdN f xs.length ((xs.map vB).flatten ++ r) = .ok (xs.map V.fix, (xs.map vB).flatten.length)
  | [], _ => rfl
  | x :: xs, h => by
    have ih := rdN_put f r xs (fun y hy => h y (List.mem_cons_of_mem _ hy))
    rw [List.length_cons, rdN, List.map_cons, List.flatten_cons, List.append_assoc, h x (by simp)]
    dsimp only
    rw [List.drop_left, ih]
    dsimp only
    rw [List.map_cons, List.length_append]
theorem rdN_ok (f : List UInt8 → Except Nat (V × Nat)) (Q : V → Prop) (hf : ∀ l v j, f l = .ok (v, j) → j = (vB v).length ∧ (∃ r, l = vB v ++ r) ∧ Q v) : ∀ (m : Nat) (l : List UInt8) (vs : List V) (j : Nat), rdN f m l = .ok (vs, j) → vs.length = m ∧ j = (vs.map vB).flatten.length ∧ (∃ r, l = (vs.map vB).flatten ++ r) ∧ ∀ v ∈ vs, Q v
  | 0, l, vs, j, h => by
    rw [rdN] at h
    simp only [Except.ok.injEq, Prod.mk.injEq] at h
    obtain ⟨rfl, rfl⟩ := h
    exact ⟨rfl, rfl, ⟨l, rfl⟩, fun v hv => by cases hv⟩
  | m + 1, l, vs, j, h => by
    rw [rdN] at h
    split at h
    · cases h
    · next v j1 hv =>
      obtain ⟨rfl, ⟨r, rfl⟩, hq⟩ := hf _ _ _ hv
      rw [List.drop_left] at h
      split at h
      · cases h
      · next ws j2 hw =>
        simp only [Except.ok.injEq, Prod.mk.injEq] at h
        obtain ⟨rfl, rfl⟩ := h
        obtain ⟨h1, rfl, ⟨r2, rfl⟩, h4⟩ := rdN_ok f Q hf m r ws j2 hw
        refine ⟨by rw [List.length_cons, h1], by rw [List.map_cons, List.flatten_cons, List.length_append], ⟨r2, by rw [List.map_cons, List.flatten_cons, List.append_assoc]⟩, fun x hx => ?_⟩
        rcases List.mem_cons.1 hx with rfl | hx
        · exact hq
        · exact h4 x hx

theorem many_put {k : Int} (hk : k = 6 ∨ k = 7) (n : Nat) (i : Int) (b : Nat) (t : ByteArray) (r : List UInt8) (h6 : k = 6 → n < 2) (h7 : n ≤ 256) : many k (vH k i b t n ++ r) = .ok (n, (vH k i b t n).length) := by
  rcases hk with rfl | rfl
  · have e : vH 6 i b t n = [UInt8.ofNat n] := by
      rw [vH, if_neg (by decide), if_neg (by decide), if_neg (by decide), if_neg (by decide), if_pos rfl]
      rcases (show n = 0 ∨ n = 1 by have := h6 rfl; omega) with rfl | rfl <;> rfl
    rw [e, many, if_pos rfl, List.singleton_append, bit_put n r (by have := h6 rfl; omega)]
    rfl
  · have e : vH 7 i b t n = Leb.put n := by rw [vH, if_neg (by decide), if_neg (by decide), if_neg (by decide), if_neg (by decide), if_neg (by decide), if_pos rfl]
    rw [e, many, if_neg (by decide), num_put n r (by omega)]
    dsimp only
    rw [if_neg (by omega)]
theorem many_ok {k : Int} (hk : k = 6 ∨ k = 7) {l : List UInt8} {n j : Nat} (h : many k l = .ok (n, j)) : (k = 6 → n < 2) ∧ n ≤ 256 ∧ ∀ i b t, j = (vH k i b t n).length ∧ ∃ r, l = vH k i b t n ++ r := by
  rcases hk with rfl | rfl
  · rw [many, if_pos rfl] at h
    obtain ⟨h1, rfl, r, rfl⟩ := bit_ok h
    have e : ∀ i b t, vH 6 i b t n = [UInt8.ofNat n] := fun i b t => by
      rw [vH, if_neg (by decide), if_neg (by decide), if_neg (by decide), if_neg (by decide), if_pos rfl]
      rcases (show n = 0 ∨ n = 1 by omega) with rfl | rfl <;> rfl
    exact ⟨fun _ => by omega, by omega, fun i b t => ⟨by rw [e]; rfl, r, by rw [e]; rfl⟩⟩
  · rw [many, if_neg (by decide)] at h
    split at h
    · cases h
    · next m j1 hm =>
      by_cases h2 : 256 < m
      · rw [if_pos h2] at h; cases h
      rw [if_neg h2] at h
      simp only [Except.ok.injEq, Prod.mk.injEq] at h
      obtain ⟨rfl, rfl⟩ := h
      obtain ⟨h1, r, rfl, rfl⟩ := num_ok hm
      have e : ∀ i b t, vH 7 i b t m = Leb.put m := fun i b t => by rw [vH, if_neg (by decide), if_neg (by decide), if_neg (by decide), if_neg (by decide), if_neg (by decide), if_pos rfl]
      exact ⟨fun hc => (by cases hc), by omega, fun i b t => ⟨by rw [e], r, by rw [e]⟩⟩

theorem vB_leaf {k i : Int} {b : Nat} {t : ByteArray} (xs : List V) (hk : 1 ≤ k ∧ k ≤ 5) : vB (.mk k i b t xs) = vH k i b t xs.length := by
  rw [vB_mk, if_pos (by omega), List.append_nil]
theorem vB_items {k i : Int} {b : Nat} {t : ByteArray} (xs : List V) (hk : k = 6 ∨ k = 7) : vB (.mk k i b t xs) = vH k i b t xs.length ++ (xs.map vB).flatten := by
  rw [vB_mk, if_neg (by omega)]
theorem rdV_put : ∀ (t : Ty) (d : Nat) (v : V) (r : List UInt8), Ty.check d t = 0 → chk d v = 0 → of v t = true → v.wf → rdV t (vB v ++ r) = .ok (V.fix v, (vB v).length) := by
  intro t
  refine Ty.ind (P := fun t => ∀ (d : Nat) (v : V) (r : List UInt8), Ty.check d t = 0 → chk d v = 0 → of v t = true → v.wf → rdV t (vB v ++ r) = .ok (V.fix v, (vB v).length)) ?_ t
  rintro k xs ih d ⟨k', i, b, s, ys⟩ r ht hv ho hw
  rw [of_mk, Bool.and_eq_true, beq_iff_eq] at ho
  obtain ⟨hk', ho⟩ := ho
  simp only at hk'
  subst hk'
  obtain ⟨hd, hk, htt⟩ := ty_open ht
  obtain ⟨-, how, hts, hys, hu, hyc⟩ := chk_open hv
  obtain ⟨o1, o2, o3, o4, o5, o6, o7⟩ := own_open how
  rw [V.fix_mk, V.fixL_eq, rdV_mk]
  rcases htt with ⟨h67, rfl⟩ | ⟨h67, x, rfl, hx⟩
  · have hy0 : ys = [] := List.eq_nil_of_length_eq_zero (by omega)
    subst hy0
    rw [if_pos (by omega), vB_leaf _ (by omega)]
    exact scalar_put r h67 hv hw
  · rw [if_neg (by omega), vB_items _ h67, List.append_assoc, many_put h67 ys.length i b s _ o7 hys]
    dsimp only
    rw [List.drop_left]
    have hin : inner (.mk k' [x]) = x := rfl
    rw [hin, List.all_eq_true] at ho
    have hwy := (V.wf_mk.1 hw).2.2.2.2
    have e := rdN_put (rdV x) r ys (fun y hy r => ih x (by simp) (d + 1) y r hx (hyc y hy) (ho y hy) (hwy y hy))
    have e1 : ([x].map rdV).headD (fun _ => .error 0) = rdV x := rfl
    rw [e1, e]
    dsimp only
    rw [List.length_append]
    rcases o3 with o3 | o3
    · omega
    rcases o2 with o2 | o2 | o2
    · omega
    · omega
    rcases o4 with o4 | o4 | o4
    · omega
    · omega
    rw [o2, o3, o4]
theorem rdV_ok : ∀ (t : Ty) (d : Nat) (l : List UInt8) (v : V) (j : Nat), Ty.check d t = 0 → rdV t l = .ok (v, j) → j = (vB v).length ∧ (∃ r, l = vB v ++ r) ∧ chk d v = 0 ∧ of v t = true ∧ V.fix v = v ∧ v.wf := by
  intro t
  refine Ty.ind (P := fun t => ∀ (d : Nat) (l : List UInt8) (v : V) (j : Nat), Ty.check d t = 0 → rdV t l = .ok (v, j) → j = (vB v).length ∧ (∃ r, l = vB v ++ r) ∧ chk d v = 0 ∧ of v t = true ∧ V.fix v = v ∧ v.wf) ?_ t
  intro k xs ih d l v j ht h
  obtain ⟨hd, hk, htt⟩ := ty_open ht
  rw [rdV_mk] at h
  rcases htt with ⟨h67, rfl⟩ | ⟨h67, x, rfl, hx⟩
  · rw [if_pos (by omega)] at h
    obtain ⟨i, b, s, rfl, rfl, ⟨r, rfl⟩, hb, hw, hc⟩ := scalar_ok (by omega) h
    rw [vB_leaf [] (by omega)]
    refine ⟨rfl, ⟨r, rfl⟩, hc d hd, ?_, ?_, hw⟩
    · rw [of_mk]; simp
    · rw [V.fix_mk, hb]; rfl
  · rw [if_neg (by omega)] at h
    split at h
    · cases h
    · next m j1 hm =>
      obtain ⟨h1, h2, h3⟩ := many_ok h67 hm
      obtain ⟨hj, r, hl⟩ := h3 0 0 ⟨#[]⟩
      have e1 : ([x].map rdV).headD (fun _ => .error 0) = rdV x := rfl
      rw [e1] at h
      subst hj hl
      rw [List.drop_left] at h
      split at h
      · cases h
      · next vs j2 hv =>
        simp only [Except.ok.injEq, Prod.mk.injEq] at h
        obtain ⟨rfl, rfl⟩ := h
        obtain ⟨rfl, rfl, ⟨r2, rfl⟩, hq⟩ := rdN_ok (rdV x) (fun v => chk (d + 1) v = 0 ∧ of v x = true ∧ V.fix v = v ∧ v.wf) (fun l v j hvj => by
          obtain ⟨a1, a2, a3⟩ := ih x (by simp) (d + 1) l v j hx hvj
          exact ⟨a1, a2, a3⟩) _ _ _ _ hv
        rw [vB_items vs h67]
        refine ⟨by rw [List.length_append], ⟨r2, by rw [List.append_assoc]⟩, ?_, ?_, ?_, ?_⟩
        · exact chk_make hd (own_make (by omega) (.inr (.inr rfl)) (.inr fixB_zero) (.inr (.inr rfl)) (by omega) (fun hc => by omega) h1) (Nat.zero_le _) h2 (fun hc => by omega) (fun y hy => (hq y hy).1)
        · rw [of_mk]
          simp only [beq_self_eq_true, Bool.true_and, List.all_eq_true]
          exact fun y hy => (hq y hy).2.1
        · rw [V.fix_mk, V.fixL_eq, fixB_zero]
          congr 1
          have : vs.map V.fix = vs.map id := List.map_congr_left (fun y hy => (hq y hy).2.2.1)
          rw [this, List.map_id]
        · exact V.wf_mk.2 ⟨by omega, by omega, by omega, Nat.zero_le _, fun y hy => (hq y hy).2.2.2⟩

theorem kind_byte {k : Int} (hk : 1 ≤ k ∧ k ≤ 7) : (UInt8.ofNat k.toNat).toNat = k.toNat := by rw [UInt8.toNat_ofNat']; omega
theorem rdT_put : ∀ (f : Nat) (t : Ty) (r : List UInt8), f ≤ 4 → Ty.check (5 - f) t = 0 → rdT f (tyB t ++ r) = .ok (t, (tyB t).length)
  | 0, ⟨k, xs⟩, r, _, h => by
    have := (ty_open h).1
    omega
  | f + 1, ⟨k, xs⟩, r, hf, h => by
    obtain ⟨hd, hk, htt⟩ := ty_open h
    have hb := kind_byte hk
    have hki : ((k.toNat : Nat) : Int) = k := by omega
    rcases htt with ⟨h67, rfl⟩ | ⟨h67, x, rfl, hx⟩
    · rw [tyB_mk, if_neg h67, List.cons_append, rdT, hb, if_neg (by omega), if_pos (by omega), hki]
      rfl
    · have ih := rdT_put f x r (by omega) (by rw [show 5 - f = 5 - (f + 1) + 1 by omega]; exact hx)
      rw [tyB_mk, if_pos h67, List.cons_append, rdT, hb, if_neg (by omega), if_neg (by omega)]
      have e1 : ([x].map tyB).headD [] = tyB x := rfl
      rw [e1, ih, hki]
      rfl
theorem rdT_ok : ∀ (f : Nat) (l : List UInt8) (t : Ty) (j : Nat), f ≤ 4 → rdT f l = .ok (t, j) → j = (tyB t).length ∧ (∃ r, l = tyB t ++ r) ∧ Ty.check (5 - f) t = 0 ∧ t.wf
  | 0, l, t, j, _, h => by rw [rdT] at h; cases h
  | f + 1, [], t, j, _, h => by rw [rdT] at h; cases h
  | f + 1, c :: r, t, j, hf, h => by
    rw [rdT] at h
    by_cases h1 : c.toNat < 1 ∨ 7 < c.toNat
    · rw [if_pos h1] at h; cases h
    rw [if_neg h1] at h
    have hc : UInt8.ofNat ((c.toNat : Int)).toNat = c := by
      rw [Int.toNat_natCast, UInt8.ofNat_toNat]
    by_cases h2 : c.toNat ≠ 6 ∧ c.toNat ≠ 7
    · rw [if_pos h2] at h
      simp only [Except.ok.injEq, Prod.mk.injEq] at h
      obtain ⟨rfl, rfl⟩ := h
      rw [tyB_mk, if_neg (by omega), hc]
      exact ⟨rfl, ⟨r, rfl⟩, ty_leaf (by omega) (by omega) (by omega), Ty.wf_mk.2 ⟨by omega, fun x hx => by cases hx⟩⟩
    · rw [if_neg h2] at h
      split at h
      · cases h
      · next x j1 hx =>
        simp only [Except.ok.injEq, Prod.mk.injEq] at h
        obtain ⟨rfl, rfl⟩ := h
        obtain ⟨rfl, ⟨r2, rfl⟩, h4, h5⟩ := rdT_ok f r x j1 (by omega) hx
        rw [tyB_mk, if_pos (by omega), hc]
        have e1 : ([x].map tyB).headD [] = tyB x := rfl
        rw [e1]
        exact ⟨rfl, ⟨r2, rfl⟩, ty_one (by omega) (by omega) (by rw [show 5 - (f + 1) + 1 = 5 - f by omega]; exact h4), Ty.wf_mk.2 ⟨by omega, fun y hy => by simp at hy; subst hy; exact h5⟩⟩
end Sch
end Go.Proofs.YtnlhpndjogjejaaGreatDoor

/- Plain: columns and schemas: what is made is read as it was, and what is read has just these bytes (P7.9). -/
namespace Go.Proofs.YtnlhpndjogjejaaGreatDoor
namespace Sch

theorem v0_fix : V.fix V0 = V0 := by unfold V0; rw [V.fix_mk, fixB_zero]; rfl
theorem v0_wf : V0.wf := V.wf_mk.2 ⟨by omega, by omega, by omega, Nat.zero_le _, fun x hx => by cases hx⟩
/-- what a column that may be is like -/
theorem col_open {l : List Col} {c : Col} (h : colErr l c = 0) : name c.name = true ∧ l.any (fun x => decide (x.name = c.name)) = false ∧ Ty.check 1 c.ty = 0 ∧ (c.has = false → V.fix c.dflt = V0) ∧ (c.has = true → chk 1 c.dflt = 0 ∧ of c.dflt c.ty = true) := by
  unfold colErr at h
  by_cases h1 : name c.name = false
  · rw [if_pos h1] at h; cases h
  rw [if_neg h1] at h
  by_cases h2 : l.any (fun x => decide (x.name = c.name)) = true
  · rw [if_pos h2] at h; cases h
  rw [if_neg h2] at h
  by_cases h3 : Ty.check 1 c.ty ≠ 0
  · rw [if_pos h3] at h; exact absurd h h3
  rw [if_neg h3] at h
  refine ⟨by simpa using h1, by simpa using h2, by simpa using h3, fun hh => ?_, fun hh => ?_⟩
  · rw [if_pos hh] at h
    by_cases h4 : V.same c.dflt V0 = true
    · rw [(same_iff _ _).1 h4, v0_fix]
    · rw [if_neg h4] at h; cases h
  · rw [if_neg (by rw [hh]; decide)] at h
    by_cases h4 : chk 1 c.dflt ≠ 0
    · rw [if_pos h4] at h; exact absurd h h4
    rw [if_neg h4] at h
    refine ⟨by simpa using h4, ?_⟩
    by_cases h5 : is c.dflt c.ty = true
    · unfold is at h5
      simp only [Bool.and_eq_true] at h5
      exact h5.2
    · rw [if_neg h5] at h; cases h
theorem col_make {l : List Col} {c : Col} (h1 : name c.name = true) (h2 : l.any (fun x => decide (x.name = c.name)) = false) (h3 : Ty.check 1 c.ty = 0) (h4 : c.has = false → V.fix c.dflt = V0) (h5 : c.has = true → chk 1 c.dflt = 0 ∧ of c.dflt c.ty = true) : colErr l c = 0 := by
  unfold colErr
  rw [if_neg (by rw [h1]; decide), if_neg (by rw [h2]; decide), if_neg (by simp [h3])]
  cases hh : c.has
  · rw [if_pos rfl, if_pos ((same_iff _ _).2 (by rw [h4 hh, v0_fix]))]
  · obtain ⟨h6, h7⟩ := h5 hh
    rw [if_neg (by decide), if_neg (by simp [h6]), if_pos (by unfold is; simp [h3, h6, h7])]
theorem colErr_names {l l' : List Col} (h : l.map Col.name = l'.map Col.name) (c : Col) : colErr l c = colErr l' c := by
  have key : ∀ (l l' : List Col), l.map Col.name = l'.map Col.name → l.any (fun x => decide (x.name = c.name)) = l'.any (fun x => decide (x.name = c.name)) := by
    intro l
    induction l with
    | nil => intro l' h; cases l' with
      | nil => rfl
      | cons y s => simp at h
    | cons x r ih => intro l' h; cases l' with
      | nil => simp at h
      | cons y s =>
        simp only [List.map_cons, List.cons.injEq] at h
        rw [List.any_cons, List.any_cons, h.1, ih s h.2]
  unfold colErr
  rw [key l l' h]
theorem name_size {t : ByteArray} (h : name t = true) : 1 ≤ t.size ∧ t.size ≤ 16 := by
  unfold name nameL at h
  simp only [Bool.and_eq_true, decide_eq_true_eq] at h
  have hs : t.data.toList.length = t.size := by rw [Array.length_toList]; rfl
  omega
theorem rdC_put {l : List Col} {c : Col} (r : List UInt8) (h : colErr l c = 0) (hw : c.wf) : rdC l (cB c ++ r) = .ok (c.fix, (cB c).length) := by
  obtain ⟨h1, h2, h3, h4, h5⟩ := col_open h
  obtain ⟨n, t, has, v⟩ := c
  obtain ⟨-, wt, wv⟩ := hw
  simp only at h1 h2 h3 h4 h5 wv
  obtain ⟨hn1, hn2⟩ := name_size h1
  have hs : n.data.toList.length = n.size := by rw [Array.length_toList]; rfl
  unfold cB Col.fix
  simp only
  rw [List.append_assoc, List.append_assoc, List.append_assoc, rdC, num_put _ _ (by omega)]
  dsimp only
  rw [if_neg (by omega), text_put 16 70 n _ hn2 (by omega)]
  dsimp only
  rw [if_neg (by rw [h1]; decide), if_neg (by rw [h2]; decide)]
  have d1 : ∀ q : List UInt8, (Leb.put n.size ++ (n.data.toList ++ q)).drop ((Leb.put n.size).length + n.size) = q := fun q => by
    rw [← List.append_assoc]
    exact List.drop_left' (by rw [List.length_append, hs])
  rw [d1, rdT_put 4 t _ (by omega) h3]
  dsimp only
  have d2 : ∀ q : List UInt8, (Leb.put n.size ++ (n.data.toList ++ (tyB t ++ q))).drop ((Leb.put n.size).length + n.size + (tyB t).length) = q := fun q => by
    rw [← List.append_assoc, ← List.append_assoc]
    exact List.drop_left' (by rw [List.length_append, List.length_append, hs])
  rw [d2]
  cases has
  · simp only [Bool.false_eq_true, if_false, List.cons_append, List.nil_append]
    rw [show (0 : UInt8) = UInt8.ofNat 0 from rfl, bit_put 0 _ (by omega)]
    dsimp only
    rw [if_pos rfl, h4 rfl]
    simp only [List.length_append, List.length_cons, List.length_nil, hs]
    congr 2
    omega
  · simp only [if_true, List.cons_append]
    obtain ⟨h6, h7⟩ := h5 rfl
    rw [show (1 : UInt8) = UInt8.ofNat 1 from rfl, bit_put 1 _ (by omega)]
    dsimp only
    rw [if_neg (by decide)]
    have d3 : ∀ q : List UInt8, (Leb.put n.size ++ (n.data.toList ++ (tyB t ++ UInt8.ofNat 1 :: q))).drop ((Leb.put n.size).length + n.size + (tyB t).length + 1) = q := fun q => by
      rw [show UInt8.ofNat 1 :: q = [UInt8.ofNat 1] ++ q from rfl, ← List.append_assoc, ← List.append_assoc, ← List.append_assoc]
      exact List.drop_left' (by rw [List.length_append, List.length_append, List.length_append, hs]; rfl)
    rw [d3, rdV_put t 1 v r h3 h6 h7 wv]
    dsimp only
    simp only [List.length_append, List.length_cons, hs]
    congr 2
    omega
theorem rdC_ok {l : List Col} {b : List UInt8} {c : Col} {j : Nat} (h : rdC l b = .ok (c, j)) : j = (cB c).length ∧ (∃ r, b = cB c ++ r) ∧ colErr l c = 0 ∧ c.fix = c ∧ c.wf := by
  rw [rdC] at h
  split at h
  · cases h
  · next n k hn =>
    by_cases hn0 : n = 0
    · rw [if_pos hn0] at h; cases h
    rw [if_neg hn0] at h
    split at h
    · cases h
    · next s j1 hs =>
      obtain ⟨t1, t2, rfl, r, rfl⟩ := text_ok hs
      have hsl : s.data.toList.length = s.size := by rw [Array.length_toList]; rfl
      by_cases h1 : name s = false
      · rw [if_pos h1] at h; cases h
      rw [if_neg h1] at h
      by_cases h2 : l.any (fun x => decide (x.name = s)) = true
      · rw [if_pos h2] at h; cases h
      rw [if_neg h2] at h
      have d1 : ∀ q : List UInt8, (Leb.put s.size ++ (s.data.toList ++ q)).drop ((Leb.put s.size).length + s.size) = q := fun q => by
        rw [← List.append_assoc]
        exact List.drop_left' (by rw [List.length_append, hsl])
      rw [d1] at h
      split at h
      · cases h
      · next t j2 ht =>
        obtain ⟨rfl, ⟨r2, rfl⟩, t3, t4⟩ := rdT_ok 4 _ _ _ (by omega) ht
        have d2 : ∀ q : List UInt8, (Leb.put s.size ++ (s.data.toList ++ (tyB t ++ q))).drop ((Leb.put s.size).length + s.size + (tyB t).length) = q := fun q => by
          rw [← List.append_assoc, ← List.append_assoc]
          exact List.drop_left' (by rw [List.length_append, List.length_append, hsl])
        rw [d2] at h
        split at h
        · cases h
        · next f j3 hf =>
          obtain ⟨f1, rfl, r3, rfl⟩ := bit_ok hf
          by_cases hf0 : f = 0
          · rw [if_pos hf0] at h
            simp only [Except.ok.injEq, Prod.mk.injEq] at h
            obtain ⟨rfl, rfl⟩ := h
            subst hf0
            unfold cB Col.fix Col.wf
            simp only [Bool.false_eq_true, if_false]
            refine ⟨?_, ⟨r3, ?_⟩, ?_, ?_, ⟨by omega, t4, v0_wf⟩⟩
            · simp only [List.length_append, List.length_cons, List.length_nil, hsl]; omega
            · simp only [List.append_assoc, List.cons_append, List.nil_append]; rfl
            · exact col_make (by simpa using h1) (by simpa using h2) t3 (fun _ => v0_fix) (fun hc => by cases hc)
            · rw [v0_fix]
          · rw [if_neg hf0] at h
            have hf1 : f = 1 := by omega
            subst hf1
            have d3 : ∀ q : List UInt8, (Leb.put s.size ++ (s.data.toList ++ (tyB t ++ UInt8.ofNat 1 :: q))).drop ((Leb.put s.size).length + s.size + (tyB t).length + 1) = q := fun q => by
              rw [show UInt8.ofNat 1 :: q = [UInt8.ofNat 1] ++ q from rfl, ← List.append_assoc, ← List.append_assoc, ← List.append_assoc]
              exact List.drop_left' (by rw [List.length_append, List.length_append, List.length_append, hsl]; rfl)
            rw [d3] at h
            split at h
            · cases h
            · next v j4 hv =>
              simp only [Except.ok.injEq, Prod.mk.injEq] at h
              obtain ⟨rfl, rfl⟩ := h
              obtain ⟨rfl, ⟨r4, rfl⟩, v1, v2, v3, v4⟩ := rdV_ok t 1 _ _ _ t3 hv
              unfold cB Col.fix Col.wf
              simp only [if_true]
              refine ⟨?_, ⟨r4, ?_⟩, ?_, ?_, ⟨by omega, t4, v4⟩⟩
              · simp only [List.length_append, List.length_cons, hsl]; omega
              · simp only [List.append_assoc, List.cons_append]; rfl
              · exact col_make (by simpa using h1) (by simpa using h2) t3 (fun hc => by cases hc) (fun _ => ⟨v1, v2⟩)
              · rw [v3]

theorem rdCs_put (r : List UInt8) : ∀ (s l : List Col), colsErr l s = 0 → (∀ c ∈ s, c.wf) → rdCs s.length (l.map Col.fix) ((s.map cB).flatten ++ r) = .ok ((l ++ s).map Col.fix, (s.map cB).flatten.length)
  | [], l, _, _ => by
    rw [List.append_nil]
    rfl
  | c :: s, l, h, hw => by
    rw [colsErr] at h
    by_cases hc : colErr l c = 0
    · rw [if_pos hc] at h
      have hn : colErr (l.map Col.fix) c = 0 := by
        rw [colErr_names (l' := l) ?_ c, hc]
        rw [List.map_map]
        rfl
      have ih := rdCs_put r s (l ++ [c]) h (fun x hx => hw x (List.mem_cons_of_mem _ hx))
      rw [List.length_cons, rdCs, List.map_cons, List.flatten_cons, List.append_assoc, rdC_put _ hn (hw c (by simp))]
      dsimp only
      rw [List.drop_left]
      rw [List.map_append, List.map_cons, List.map_nil] at ih
      rw [ih]
      dsimp only
      rw [List.append_assoc, List.singleton_append, List.length_append]
    · rw [if_neg hc] at h; exact absurd h hc
theorem rdCs_ok : ∀ (m : Nat) (l : List Col) (b : List UInt8) (l2 : List Col) (j : Nat), rdCs m l b = .ok (l2, j) → ∃ s, l2 = l ++ s ∧ s.length = m ∧ j = (s.map cB).flatten.length ∧ (∃ r, b = (s.map cB).flatten ++ r) ∧ colsErr l s = 0 ∧ ∀ c ∈ s, c.fix = c ∧ c.wf
  | 0, l, b, l2, j, h => by
    rw [rdCs] at h
    simp only [Except.ok.injEq, Prod.mk.injEq] at h
    obtain ⟨rfl, rfl⟩ := h
    exact ⟨[], by simp, rfl, rfl, ⟨b, rfl⟩, rfl, fun c hc => by cases hc⟩
  | m + 1, l, b, l2, j, h => by
    rw [rdCs] at h
    split at h
    · cases h
    · next c j1 hc =>
      obtain ⟨rfl, ⟨r, rfl⟩, c1, c2, c3⟩ := rdC_ok hc
      rw [List.drop_left] at h
      split at h
      · cases h
      · next l3 j2 hl =>
        simp only [Except.ok.injEq, Prod.mk.injEq] at h
        obtain ⟨rfl, rfl⟩ := h
        obtain ⟨s, rfl, rfl, rfl, ⟨r2, rfl⟩, s1, s2⟩ := rdCs_ok m (l ++ [c]) r l3 j2 hl
        refine ⟨c :: s, by simp, rfl, by rw [List.map_cons, List.flatten_cons, List.length_append], ⟨r2, by rw [List.map_cons, List.flatten_cons, List.append_assoc]⟩, ?_, fun x hx => ?_⟩
        · rw [colsErr, if_pos c1, s1]
        · rcases List.mem_cons.1 hx with rfl | hx
          · exact ⟨c2, c3⟩
          · exact s2 x hx

/-- what a schema that may be is like -/
theorem err_open {s : List Col} (h : err s = 0) : 1 ≤ s.length ∧ s.length ≤ 16 ∧ colsErr [] s = 0 ∧ (bytes s).length ≤ 1024 := by
  unfold err at h
  by_cases h1 : s.length = 0
  · rw [if_pos h1] at h; cases h
  rw [if_neg h1] at h
  by_cases h2 : 16 < s.length
  · rw [if_pos h2] at h; cases h
  rw [if_neg h2] at h
  by_cases h3 : colsErr [] s ≠ 0
  · rw [if_pos h3] at h; exact absurd h h3
  rw [if_neg h3] at h
  by_cases h4 : 1024 < (bytes s).length
  · rw [if_pos h4] at h; cases h
  exact ⟨by omega, by omega, by simpa using h3, by omega⟩
theorem err_make {s : List Col} (h1 : 1 ≤ s.length) (h2 : s.length ≤ 16) (h3 : colsErr [] s = 0) (h4 : (bytes s).length ≤ 1024) : err s = 0 := by
  unfold err
  rw [if_neg (by omega), if_neg (by omega), if_neg (by simp [h3]), if_neg (by omega)]
/-- there -/
theorem read_put {s : List Col} (h : err s = 0) (hw : ∀ c ∈ s, c.wf) : read (bytes s) = .ok (s.map Col.fix) := by
  obtain ⟨h1, h2, h3, h4⟩ := err_open h
  have e := rdCs_put [] s [] h3 hw
  rw [List.append_nil, List.nil_append, List.map_nil] at e
  have e0 : bytes s = Leb.put s.length ++ (s.map cB).flatten := rfl
  rw [read, if_neg (by omega), e0, num_put _ _ (by omega)]
  dsimp only
  rw [if_neg (by omega), if_neg (by omega), List.drop_left, e]
  dsimp only
  rw [if_pos (by rw [List.length_append])]
/-- and back -/
theorem read_ok {b : List UInt8} {s : List Col} (h : read b = .ok s) : err s = 0 ∧ bytes s = b ∧ ∀ c ∈ s, c.fix = c ∧ c.wf := by
  rw [read] at h
  by_cases h0 : 1024 < b.length
  · rw [if_pos h0] at h; cases h
  rw [if_neg h0] at h
  split at h
  · cases h
  · next n k hn =>
    obtain ⟨n1, r, rfl, rfl⟩ := num_ok hn
    by_cases h1 : n = 0
    · rw [if_pos h1] at h; cases h
    rw [if_neg h1] at h
    by_cases h2 : 16 < n
    · rw [if_pos h2] at h; cases h
    rw [if_neg h2, List.drop_left] at h
    split at h
    · cases h
    · next l j hl =>
      by_cases h3 : (Leb.put n).length + j = (Leb.put n ++ r).length
      · rw [if_pos h3] at h
        simp only [Except.ok.injEq] at h
        subst h
        obtain ⟨s, hs, rfl, rfl, ⟨r2, rfl⟩, s1, s2⟩ := rdCs_ok _ _ _ _ _ hl
        rw [List.nil_append] at hs
        subst hs
        have hr : r2 = [] := by
          rw [List.length_append, List.length_append] at h3
          exact List.eq_nil_of_length_eq_zero (by omega)
        subst hr
        rw [List.append_nil] at h0 ⊢
        have hb : bytes l = Leb.put l.length ++ (l.map cB).flatten := rfl
        exact ⟨err_make (by omega) (by omega) s1 (by rw [hb]; omega), hb, s2⟩
      · rw [if_neg h3] at h; cases h

theorem colSame_iff (c d : Col) : colSame c d = true ↔ c.fix = d.fix := by
  obtain ⟨n, t, a, v⟩ := c
  obtain ⟨n', t', a', v'⟩ := d
  unfold colSame Col.fix
  simp only [Bool.and_eq_true, decide_eq_true_eq, beq_iff_eq, Ty.same_iff, same_iff, Col.mk.injEq]
  constructor
  · rintro ⟨⟨⟨h1, h2⟩, h3⟩, h4⟩; exact ⟨h1, h3, h2, h4⟩
  · rintro ⟨h1, h3, h2, h4⟩; exact ⟨⟨⟨h1, h2⟩, h3⟩, h4⟩
theorem same_fix : ∀ (s t : List Col), same s t = true ↔ s.map Col.fix = t.map Col.fix
  | [], [] => by simp [same]
  | [], d :: t => by simp [same]
  | c :: s, [] => by simp [same]
  | c :: s, d :: t => by
    rw [same, Bool.and_eq_true, List.map_cons, List.map_cons, List.cons.injEq, colSame_iff, same_fix s t]
theorem vH_fix (k i : Int) (b : Nat) (t : ByteArray) (n : Nat) : vH k i (fixB b) t n = vH k i b t n := by unfold vH; rw [fixB_idem]
theorem vB_fix : ∀ v : V, vB (V.fix v) = vB v := by
  refine V.ind ?_
  intro k i b t xs ih
  rw [V.fix_mk, V.fixL_eq, vB_mk, vB_mk, vH_fix, List.length_map, List.map_map]
  congr 2
  exact congrArg List.flatten (List.map_congr_left (fun x hx => ih x hx))
theorem cB_fix (c : Col) : cB c.fix = cB c := by
  unfold cB Col.fix
  simp only [vB_fix]
theorem bytes_fix (s : List Col) : bytes (s.map Col.fix) = bytes s := by
  unfold bytes
  rw [List.length_map, List.map_map]
  congr 2
  exact List.map_congr_left (fun c _ => cB_fix c)
/-- no two that are not the same have the same bytes -/
theorem unlike {s t : List Col} (hs : err s = 0) (ht : err t = 0) (ws : ∀ c ∈ s, c.wf) (wt : ∀ c ∈ t, c.wf) : bytes s = bytes t ↔ same s t = true := by
  rw [same_fix]
  constructor
  · intro h
    have h1 := read_put hs ws
    rw [h, read_put ht wt] at h1
    simp only [Except.ok.injEq] at h1
    exact h1.symm
  · intro h
    rw [← bytes_fix s, h, bytes_fix]
end Sch
end Go.Proofs.YtnlhpndjogjejaaGreatDoor

/- Plain: how many bytes a value, a column, a schema has at most. -/
namespace Go.Proofs.YtnlhpndjogjejaaGreatDoor
namespace Sch

theorem flatten_le {α : Type} (f : α → List UInt8) (B : Nat) : ∀ xs : List α, (∀ x ∈ xs, (f x).length ≤ B) → (xs.map f).flatten.length ≤ xs.length * B
  | [], _ => by simp
  | x :: xs, h => by
    have h1 := h x (by simp)
    have h2 := flatten_le f B xs (fun y hy => h y (List.mem_cons_of_mem _ hy))
    rw [List.map_cons, List.flatten_cons, List.length_append, List.length_cons, Nat.add_mul]
    omega
theorem vH_len {k i : Int} {b : Nat} {t : ByteArray} {n : Nat} (ht : t.size ≤ 1024) : (vH k i b t n).length ≤ 1034 := by
  have hs : t.data.toList.length = t.size := by rw [Array.length_toList]; rfl
  have hp := Leb.put_length_le
  unfold vH
  split
  · simp
  split
  · have := hp (Leb.zig i); omega
  split
  · rw [le_len]; omega
  split
  · have := hp t.size; rw [List.length_append]; omega
  split
  · simp
  split
  · have := hp n; omega
  · simp
theorem vB_len : ∀ (v : V) (d : Nat), chk d v = 0 → (vB v).length ≤ 1100 * 260 ^ (4 - d) := by
  refine V.ind ?_
  intro k i b t xs ih d h
  obtain ⟨hd, ho, ht, hx, -, hc⟩ := chk_open h
  have h1 := vH_len (k := k) (i := i) (b := b) (n := xs.length) ht
  have hpos : 1 ≤ 260 ^ (4 - d) := Nat.one_le_pow _ _ (by decide)
  rw [vB_mk, List.length_append]
  split
  · rw [List.length_nil]; omega
  · cases xs with
    | nil => simp only [List.map_nil, List.flatten_nil, List.length_nil] at h1 ⊢; omega
    | cons x r =>
      have hx1 := hc x (by simp)
      obtain ⟨k', i', b', t', ys⟩ := x
      have hd1 := (chk_open hx1).1
      have hf := flatten_le vB (1100 * 260 ^ (4 - (d + 1))) (.mk k' i' b' t' ys :: r) (fun y hy => ih y hy (d + 1) (hc y hy))
      have e : 260 ^ (4 - d) = 260 ^ (4 - (d + 1)) * 260 := by rw [← Nat.pow_succ]; congr 1; omega
      have hp2 : 1 ≤ 260 ^ (4 - (d + 1)) := Nat.one_le_pow _ _ (by decide)
      rw [e]
      generalize 260 ^ (4 - (d + 1)) = q at *
      have h3 : (V.mk k' i' b' t' ys :: r).length * (1100 * q) ≤ 256 * (1100 * q) := Nat.mul_le_mul_right _ hx
      have o := own_open ho
      have hk67 : k = 6 ∨ k = 7 := by
        obtain ⟨-, -, -, -, o5, -⟩ := o
        simp at o5
        exact o5
      have hv : (vH k i b t (V.mk k' i' b' t' ys :: r).length).length ≤ 10 := by
        have hp := Leb.put_length_le (V.mk k' i' b' t' ys :: r).length
        unfold vH
        rcases hk67 with rfl | rfl
        · rw [if_neg (by decide), if_neg (by decide), if_neg (by decide), if_neg (by decide), if_pos rfl]; simp
        · rw [if_neg (by decide), if_neg (by decide), if_neg (by decide), if_neg (by decide), if_neg (by decide), if_pos rfl]; exact hp
      omega
theorem vB_small {v : V} {d : Nat} (h : chk d v = 0) (hd : 1 ≤ d) : (vB v).length ≤ 20000000000 := by
  have h1 := vB_len v d h
  have h2 : 260 ^ (4 - d) ≤ 260 ^ 3 := Nat.pow_le_pow_right (by decide) (by omega)
  have e : 260 ^ 3 = 17576000 := by decide
  rw [e] at h2
  omega
theorem tyB_len : ∀ (x : Ty) (d : Nat), Ty.check d x = 0 → (tyB x).length + d ≤ 5 := by
  refine Ty.ind ?_
  intro k xs ih d h
  obtain ⟨h1, h2, h3⟩ := ty_open h
  rcases h3 with ⟨h3, rfl⟩ | ⟨h3, y, rfl, hy⟩
  · rw [tyB_mk, if_neg h3, List.length_singleton]; omega
  · have := ih y (by simp) (d + 1) hy
    rw [tyB_mk, if_pos h3, List.length_cons]
    have e : ([y].map tyB).headD [] = tyB y := rfl
    rw [e]
    omega
theorem cB_len {l : List Col} {c : Col} (h : colErr l c = 0) : (cB c).length ≤ 20000000040 := by
  obtain ⟨h1, -, h3, -, h5⟩ := col_open h
  have hn := (name_size h1).2
  have hs : c.name.data.toList.length = c.name.size := by rw [Array.length_toList]; rfl
  have hp := Leb.put_length_le c.name.size
  have ht := tyB_len c.ty 1 h3
  unfold cB
  simp only [List.length_append, List.length_cons, hs]
  cases hh : c.has
  · simp; omega
  · have := vB_small (h5 hh).1 (by omega)
    simp; omega
theorem colsErr_mem : ∀ (s l : List Col), colsErr l s = 0 → ∀ c ∈ s, ∃ l', colErr l' c = 0
  | [], _, _, c, hc => by cases hc
  | d :: r, l, h, c, hc => by
    rw [colsErr] at h
    by_cases h0 : colErr l d = 0
    · rw [if_pos h0] at h
      rcases List.mem_cons.1 hc with rfl | hc
      · exact ⟨l, h0⟩
      · exact colsErr_mem r _ h c hc
    · rw [if_neg h0] at h; exact absurd h h0
theorem flat_small {s : List Col} (h : colsErr [] s = 0) (hn : s.length ≤ 16) : (s.map cB).flatten.length ≤ 320000000640 := by
  have h1 := flatten_le cB 20000000040 s (fun c hc => by obtain ⟨l, hl⟩ := colsErr_mem s [] h c hc; exact cB_len hl)
  have h2 : s.length * 20000000040 ≤ 16 * 20000000040 := Nat.mul_le_mul_right _ hn
  omega
theorem flatten_take {α : Type} (f : α → List UInt8) (xs : List α) (j : Nat) (h : j < xs.length) : ((xs.take (j + 1)).map f).flatten = ((xs.take j).map f).flatten ++ f xs[j] := by
  rw [List.take_succ_eq_append_getElem h, List.map_append, List.flatten_append]
  simp
theorem flatten_take_le {α : Type} (f : α → List UInt8) (xs : List α) (j : Nat) : ((xs.take j).map f).flatten.length ≤ (xs.map f).flatten.length := by
  have e : xs.map f = (xs.take j).map f ++ (xs.drop j).map f := by rw [← List.map_append, List.take_append_drop]
  rw [e, List.flatten_append, List.length_append]
  omega
end Sch
end Go.Proofs.YtnlhpndjogjejaaGreatDoor

/- No reading ends with the error 0. -/
namespace Go.Proofs.YtnlhpndjogjejaaGreatDoor
open Go.RowKit
namespace Sch

theorem bit_ne {l : List UInt8} {e : Nat} (h : bit l = .error e) : e ≠ 0 := by
  unfold bit at h
  split at h
  · cases h; decide
  · split at h
    · cases h; decide
    · cases h
theorem num_ne {l : List UInt8} {e : Nat} (h : num l = .error e) : e ≠ 0 := by
  unfold num at h
  split at h
  · cases h
  · next hn => cases h; exact hn
theorem text_ne {most long : Nat} {l : List UInt8} {e : Nat} (hl : long ≠ 0) (h : text most long l = .error e) : e ≠ 0 := by
  unfold text at h
  split at h
  · next hn => cases h; exact num_ne hn
  · split at h
    · cases h; exact hl
    · split at h
      · cases h; decide
      · cases h
theorem float_ne {l : List UInt8} {e : Nat} (h : float l = .error e) : e ≠ 0 := by
  unfold float at h
  split at h
  · cases h; decide
  · split at h
    · cases h
    · cases h; decide
theorem scalar_ne {k : Int} {l : List UInt8} {e : Nat} (h : scalar k l = .error e) : e ≠ 0 := by
  unfold scalar at h
  split at h
  · split at h
    · next hn => cases h; exact bit_ne hn
    · cases h
  · split at h
    · split at h
      · next hn => cases h; exact num_ne hn
      · cases h
    · split at h
      · split at h
        · next hn => cases h; exact float_ne hn
        · cases h
      · split at h
        · next hn => cases h; exact text_ne (by decide) hn
        · split at h
          · cases h; decide
          · cases h
theorem many_ne {k : Int} {l : List UInt8} {e : Nat} (h : many k l = .error e) : e ≠ 0 := by
  unfold many at h
  split at h
  · exact bit_ne h
  · split at h
    · next hn => cases h; exact num_ne hn
    · split at h
      · cases h; decide
      · cases h
theorem rdN_ne {f : List UInt8 → Except Nat (V × Nat)} (hf : ∀ l e, f l = .error e → e ≠ 0) : ∀ (m : Nat) (l : List UInt8) (e : Nat), rdN f m l = .error e → e ≠ 0
  | 0, l, e, h => by rw [rdN] at h; cases h
  | m + 1, l, e, h => by
    rw [rdN] at h
    split at h
    · next hn => cases h; exact hf _ _ hn
    · split at h
      · next hn => cases h; exact rdN_ne hf m _ _ hn
      · cases h
theorem rdV_ne : ∀ (t : Ty) (d : Nat) (l : List UInt8) (e : Nat), Ty.check d t = 0 → rdV t l = .error e → e ≠ 0 := by
  intro t
  refine Ty.ind (P := fun t => ∀ (d : Nat) (l : List UInt8) (e : Nat), Ty.check d t = 0 → rdV t l = .error e → e ≠ 0) ?_ t
  intro k xs ih d l e ht h
  obtain ⟨hd, hk, htt⟩ := ty_open ht
  rw [rdV_mk] at h
  rcases htt with ⟨h67, rfl⟩ | ⟨h67, x, rfl, hx⟩
  · rw [if_pos (by omega)] at h
    exact scalar_ne h
  · rw [if_neg (by omega)] at h
    split at h
    · next hn => cases h; exact many_ne hn
    · split at h
      · next hn => cases h; exact rdN_ne (f := rdV x) (fun l e h => ih x (by simp) (d + 1) l e hx h) _ _ _ hn
      · cases h
theorem rdT_ne : ∀ (f : Nat) (l : List UInt8) (e : Nat), rdT f l = .error e → e ≠ 0
  | 0, l, e, h => by rw [rdT] at h; cases h; decide
  | f + 1, [], e, h => by rw [rdT] at h; cases h; decide
  | f + 1, c :: r, e, h => by
    rw [rdT] at h
    split at h
    · cases h; decide
    · split at h
      · cases h
      · split at h
        · next hn => cases h; exact rdT_ne f r _ hn
        · cases h
theorem rdC_ne {l : List Col} {b : List UInt8} {e : Nat} (h : rdC l b = .error e) : e ≠ 0 := by
  rw [rdC] at h
  split at h
  · next hn => cases h; exact num_ne hn
  · split at h
    · cases h; decide
    · split at h
      · next hn => cases h; exact text_ne (by decide) hn
      · split at h
        · cases h; decide
        · split at h
          · cases h; decide
          · split at h
            · next hn => cases h; exact rdT_ne _ _ _ hn
            · next t j2 ht =>
              split at h
              · next hn => cases h; exact bit_ne hn
              · split at h
                · cases h
                · split at h
                  · next hn => cases h; exact rdV_ne t 1 _ _ (rdT_ok 4 _ t j2 (Nat.le_refl 4) ht).2.2.1 hn
                  · cases h
theorem rdCs_ne : ∀ (m : Nat) (l : List Col) (b : List UInt8) (e : Nat), rdCs m l b = .error e → e ≠ 0
  | 0, l, b, e, h => by rw [rdCs] at h; cases h
  | m + 1, l, b, e, h => by
    rw [rdCs] at h
    split at h
    · next hn => cases h; exact rdC_ne hn
    · split at h
      · next hn => cases h; exact rdCs_ne m _ _ _ hn
      · cases h
theorem read_ne {b : List UInt8} {e : Nat} (h : read b = .error e) : e ≠ 0 := by
  rw [read] at h
  split at h
  · cases h; decide
  · split at h
    · next hn => cases h; exact num_ne hn
    · split at h
      · cases h; decide
      · split at h
        · cases h; decide
        · split at h
          · next hn => cases h; exact rdCs_ne _ _ _ _ hn
          · split at h
            · cases h
            · cases h; decide
end Sch
end Go.Proofs.YtnlhpndjogjejaaGreatDoor

/- How columns and schemas lie in memory. -/
namespace Go.Proofs.YtnlhpndjogjejaaGreatDoor
open Go.RowKit

/-- a column's nine cells -/
def cells9 (n : ByteArray) (k : Int) (tp : Option Addr) (tn tc : Nat) (h : Bool) (vk vi : Int) (vb : Nat) (vt : ByteArray) (vp : Option Addr) (vn vc : Nat) : Array Value := #[.string n, .int .i64 k, .slice tp tn tc, .bool h, .int .i64 vk, .int .i64 vi, .float .f64 vb, .string vt, .slice vp vn vc]
/-- so a column lies -/
structure CLies (w : World) (u : Array Value) (c : Col) : Prop where
  out : ∃ k tp tn tc vk vi vb vt vp vn vc, u = cells9 c.name k tp tn tc c.has vk vi vb vt vp vn vc ∧ TLies w (cells2 k tp tn tc) c.ty ∧ VLies w (cells5 vk vi vb vt vp vn vc) c.dflt
theorem CLies.on {w w' : World} {u : Array Value} {c : Col} (h : CLies w u c) (hb : Below w.heap.size w w') : CLies w' u c := by
  obtain ⟨k, tp, tn, tc, vk, vi, vb, vt, vp, vn, vc, h1, h2, h3⟩ := h.out
  exact ⟨k, tp, tn, tc, vk, vi, vb, vt, vp, vn, vc, h1, h2.on hb, h3.on hb⟩
/-- nine cells from a place on -/
def At9 (w : World) (blk o : Nat) (n : ByteArray) (k : Int) (tp : Option Addr) (tn tc : Nat) (h : Bool) (vk vi : Int) (vb : Nat) (vt : ByteArray) (vp : Option Addr) (vn vc : Nat) : Prop :=
  w.cell? ⟨blk, o, none⟩ = some (.string n) ∧ w.cell? ⟨blk, o + 1, none⟩ = some (.int .i64 k) ∧ w.cell? ⟨blk, o + 2, none⟩ = some (.slice tp tn tc) ∧ w.cell? ⟨blk, o + 3, none⟩ = some (.bool h) ∧ w.cell? ⟨blk, o + 4, none⟩ = some (.int .i64 vk) ∧ w.cell? ⟨blk, o + 5, none⟩ = some (.int .i64 vi) ∧ w.cell? ⟨blk, o + 6, none⟩ = some (.float .f64 vb) ∧ w.cell? ⟨blk, o + 7, none⟩ = some (.string vt) ∧ w.cell? ⟨blk, o + 8, none⟩ = some (.slice vp vn vc)
theorem At9.on {w w' : World} {blk o : Nat} {n : ByteArray} {k : Int} {tp : Option Addr} {tn tc : Nat} {h : Bool} {vk vi : Int} {vb : Nat} {vt : ByteArray} {vp : Option Addr} {vn vc : Nat} (hh : At9 w blk o n k tp tn tc h vk vi vb vt vp vn vc) (hb : Below w.heap.size w w') : At9 w' blk o n k tp tn tc h vk vi vb vt vp vn vc := by
  obtain ⟨h0, h1, h2, h3, h4, h5, h6, h7, h8⟩ := hh
  exact ⟨cell_on hb h0, cell_on hb h1, cell_on hb h2, cell_on hb h3, cell_on hb h4, cell_on hb h5, cell_on hb h6, cell_on hb h7, cell_on hb h8⟩
/-- one of a schema's columns: where it lies -/
structure ItemC (w : World) (p : Option Addr) (j : Nat) (u : Array Value) : Prop where
  lies : ∃ blk off n k tp tn tc h vk vi vb vt vp vn vc, p = some ⟨blk, off, none⟩ ∧ blk < w.heap.size ∧ u = cells9 n k tp tn tc h vk vi vb vt vp vn vc ∧ At9 w blk (off + j * 9) n k tp tn tc h vk vi vb vt vp vn vc
theorem ItemC.on {w w' : World} {p : Option Addr} {j : Nat} {u : Array Value} (h : ItemC w p j u) (hb : Below w.heap.size w w') : ItemC w' p j u := by
  obtain ⟨blk, off, n, k, tp, tn, tc, h, vk, vi, vb, vt, vp, vn, vc, h1, h2, h3, h4⟩ := h.lies
  exact ⟨blk, off, n, k, tp, tn, tc, h, vk, vi, vb, vt, vp, vn, vc, h1, by have := hb.size; omega, h3, h4.on hb⟩
/-- columns lie in a row -/
def Cols (w : World) (p : Option Addr) (s : List Col) : Prop := ∀ j (hj : j < s.length), ∃ u, CLies w u s[j] ∧ ItemC w p j u
theorem Cols.on {w w' : World} {p : Option Addr} {s : List Col} (h : Cols w p s) (hb : Below w.heap.size w w') : Cols w' p s := fun j hj => by
  obtain ⟨u, h1, h2⟩ := h j hj
  exact ⟨u, h1.on hb, h2.on hb⟩
theorem Cols.take {w : World} {p : Option Addr} {s : List Col} (h : Cols w p s) (n : Nat) : Cols w p (s.take n) := fun j hj => by
  have hj2 : j < s.length := by rw [List.length_take] at hj; omega
  obtain ⟨u, h1, h2⟩ := h j hj2
  exact ⟨u, by simpa using h1, h2⟩
/-- one of them, opened: its cells, its type, its default -/
theorem Cols.at {w : World} {p : Option Addr} {s : List Col} (h : Cols w p s) (j : Nat) (hj : j < s.length) : ∃ blk off k tp tn tc vk vi vb vt vp vn vc, p = some ⟨blk, off, none⟩ ∧ blk < w.heap.size ∧ At9 w blk (off + j * 9) s[j].name k tp tn tc s[j].has vk vi vb vt vp vn vc ∧ TLies w (cells2 k tp tn tc) s[j].ty ∧ VLies w (cells5 vk vi vb vt vp vn vc) s[j].dflt := by
  obtain ⟨u, h1, h2⟩ := h j hj
  obtain ⟨blk, off, n, k, tp, tn, tc, hs, vk, vi, vb, vt, vp, vn, vc, e1, e2, e3, e4⟩ := h2.lies
  obtain ⟨k', tp', tn', tc', vk', vi', vb', vt', vp', vn', vc', g1, g2, g3⟩ := h1.out
  rw [e3] at g1
  simp only [cells9] at g1
  injection g1 with g1
  injection g1 with q0 g1
  injection g1 with q1 g1
  injection g1 with q2 g1
  injection g1 with q3 g1
  injection g1 with q4 g1
  injection g1 with q5 g1
  injection g1 with q6 g1
  injection g1 with q7 g1
  injection g1 with q8 g1
  injection q0 with q0
  injection q1 with _ q1
  injection q2 with q2 q2a q2b
  injection q3 with q3
  injection q4 with _ q4
  injection q5 with _ q5
  injection q6 with _ q6
  injection q7 with q7
  injection q8 with q8 q8a q8b
  subst q0 q1 q2 q2a q2b q3 q4 q5 q6 q7 q8 q8a q8b
  exact ⟨blk, off, k, tp, tn, tc, vk, vi, vb, vt, vp, vn, vc, e1, e2, e4, g2, g3⟩
/-- a schema lies -/
structure SLies (w : World) (u : Array Value) (s : List Col) : Prop where
  out : ∃ p c, u = #[.slice p s.length c] ∧ s.length * 120 ≤ 140737488351232 ∧ s.length ≤ c ∧ Cols w p s
theorem SLies.on {w w' : World} {u : Array Value} {s : List Col} (h : SLies w u s) (hb : Below w.heap.size w w') : SLies w' u s := by
  obtain ⟨p, c, h1, h2, h3, h4⟩ := h.out
  exact ⟨p, c, h1, h2, h3, h4.on hb⟩
end Go.Proofs.YtnlhpndjogjejaaGreatDoor

/- A type that lies in blocks of its own. -/
namespace Go.Proofs.YtnlhpndjogjejaaGreatDoor
open Go.RowKit

/-- one step of how a type lies in the blocks of F, each of them named once, and each cell may be written: of its items P holds -/
structure TOwnS (w : World) (P : (Nat → Prop) → Array Value → Ty → Prop) (F : Nat → Prop) (g off c : Nat) (xs : List Ty) (us : Nat → Array Value) (Fs : Nat → Nat → Prop) : Prop where
  hl : xs.length * 32 ≤ 140737488351232
  hc : xs.length ≤ c
  h5 : ∀ j, j < xs.length → (us j).size = 2
  hp : g < w.heap.size ∧ ∀ j, j < xs.length → ∀ m, m < 2 → w.cell? ⟨g, off + j * 2 + m, none⟩ = (us j)[m]?
  hf : ∀ j, j < xs.length → ∀ m, m < 2 → w.frozen? ⟨g, off + j * 2 + m, none⟩ = false
  hg : F g
  hgs : ∀ j, j < xs.length → ¬ Fs j g
  hd : ∀ j n, j < xs.length → n < xs.length → j ≠ n → ∀ k, Fs j k → ¬ Fs n k
  hs : ∀ j, j < xs.length → ∀ k, Fs j k → F k
  hr : ∀ j (h : j < xs.length), P (Fs j) (us j) xs[j]
/-- so a type lies in blocks of its own -/
def TOwn (w : World) (F : Nat → Prop) (u : Array Value) (x : Ty) : Prop :=
  ∀ P : (Nat → Prop) → Array Value → Ty → Prop, (∀ F k p c, P F (cells2 k p 0 c) (.mk k [])) →
    (∀ F k g off c xs us Fs, TOwnS w P F g off c xs us Fs → P F (cells2 k (.some ⟨g, off, .none⟩) xs.length c) (.mk k xs)) → P F u x

section
variable {w w' : World} {F G : Nat → Prop} {u : Array Value} {x : Ty}
theorem TOwn.none {F : Nat → Prop} {k : Int} {p : Option Addr} {c : Nat} : TOwn w F (cells2 k p 0 c) (.mk k []) := fun _ h0 _ => h0 F k p c
theorem TOwn.some {F : Nat → Prop} {k : Int} {g off c : Nat} {xs : List Ty} (us : Nat → Array Value) (Fs : Nat → Nat → Prop) (hl : xs.length * 32 ≤ 140737488351232) (hc : xs.length ≤ c) (h5 : ∀ j, j < xs.length → (us j).size = 2)
      (hp : g < w.heap.size ∧ ∀ j, j < xs.length → ∀ m, m < 2 → w.cell? ⟨g, off + j * 2 + m, .none⟩ = (us j)[m]?)
      (hf : ∀ j, j < xs.length → ∀ m, m < 2 → w.frozen? ⟨g, off + j * 2 + m, .none⟩ = false)
      (hg : F g) (hgs : ∀ j, j < xs.length → ¬ Fs j g) (hd : ∀ j n, j < xs.length → n < xs.length → j ≠ n → ∀ k, Fs j k → ¬ Fs n k) (hs : ∀ j, j < xs.length → ∀ k, Fs j k → F k)
      (hr : ∀ j (h : j < xs.length), TOwn w (Fs j) (us j) xs[j]) : TOwn w F (cells2 k (.some ⟨g, off, .none⟩) xs.length c) (.mk k xs) :=
  fun P h0 h1 => h1 F k g off c xs us Fs ⟨hl, hc, h5, hp, hf, hg, hgs, hd, hs, fun j h => hr j h P h0 h1⟩
/-- which of the two it is -/
theorem TOwn.inv (h : TOwn w F u x) : (∃ k p c, u = cells2 k p 0 c ∧ x = .mk k []) ∨ ∃ k g off c xs us Fs, u = cells2 k (.some ⟨g, off, .none⟩) xs.length c ∧ x = .mk k xs ∧ TOwnS w (TOwn w) F g off c xs us Fs := by
  have := h (fun F u x => TOwn w F u x ∧ ((∃ k p c, u = cells2 k p 0 c ∧ x = .mk k []) ∨ ∃ k g off c xs us Fs, u = cells2 k (.some ⟨g, off, .none⟩) xs.length c ∧ x = .mk k xs ∧ TOwnS w (TOwn w) F g off c xs us Fs))
    (fun F k p c => ⟨.none, .inl ⟨k, p, c, rfl, rfl⟩⟩)
    (fun F k g off c xs us Fs s => ⟨.some us Fs s.hl s.hc s.h5 s.hp s.hf s.hg s.hgs s.hd s.hs (fun j h => (s.hr j h).1), .inr ⟨k, g, off, c, xs, us, Fs, rfl, rfl, s.hl, s.hc, s.h5, s.hp, s.hf, s.hg, s.hgs, s.hd, s.hs, fun j h => (s.hr j h).1⟩⟩)
  exact this.2
theorem TOwn.five (h : TOwn w F u x) : u.size = 2 := by
  rcases h.inv with ⟨_, _, _, rfl, _⟩ | ⟨_, _, _, _, _, _, _, rfl, _⟩ <;> rfl
theorem TOwn.shape (h : TOwn w F u x) : ∃ k p n c, u = cells2 k p n c := by
  rcases h.inv with ⟨_, _, _, rfl, _⟩ | ⟨_, _, _, _, _, _, _, rfl, _⟩ <;> exact ⟨_, _, _, _, rfl⟩
theorem TOwn.lies (h : TOwn w F u x) : TLies w u x :=
  h (fun _ u x => TLies w u x) (fun F k p c => TLies.mk (xs := []) (fun _ => #[]) (by simp) (by simp) (fun hc => absurd rfl hc) (fun j hj => by simp at hj))
    (fun F k g off c xs us Fs s => TLies.mk us s.hl s.hc (fun _ => ⟨_, _, rfl, s.hp.1, s.hp.2⟩) s.hr)
theorem TOwn.aside (h : TOwn w F u x) : ∀ {G : Nat → Prop} {w' : World}, Aside G w w' → (∀ k, F k → ¬ G k) → TOwn w' F u x := by
  intro G w' ha
  refine h (fun F u x => (∀ k, F k → ¬ G k) → TOwn w' F u x) ?_ ?_
  · intro F k p c _; exact .none
  · intro F k g off c xs us Fs s hd2
    refine .some us Fs s.hl s.hc s.h5 ⟨Nat.lt_of_lt_of_le s.hp.1 ha.size, fun j hj m hm => ?_⟩ (fun j hj m hm => ?_) s.hg s.hgs s.hd s.hs (fun j hj => s.hr j hj fun k hk => hd2 k (s.hs j hj k hk))
    · rw [ha.cell s.hp.1 (hd2 _ s.hg)]; exact s.hp.2 j hj m hm
    · rw [ha.frozen s.hp.1 (hd2 _ s.hg)]; exact s.hf j hj m hm
theorem TOwn.under {B : Nat} (h : TOwn w F u x) (hb : Below B w w') (hF : ∀ k, F k → k < B) : TOwn w' F u x :=
  h.aside (G := fun k => B ≤ k) (aside_of hb fun _ _ h => h) fun k hk hc => by have := hF k hk; omega
theorem TOwn.mono (h : TOwn w F u x) (hF : ∀ k, F k → G k) : TOwn w G u x := by
  rcases h.inv with ⟨k, p, c, rfl, rfl⟩ | ⟨k, g, off, c, xs, us, Fs, rfl, rfl, s⟩
  · exact .none
  · exact .some us Fs s.hl s.hc s.h5 s.hp s.hf (hF _ s.hg) s.hgs s.hd (fun j hj k hk => hF k (s.hs j hj k hk)) s.hr
end


/-- of one type, in a block of one's own -/
theorem TOwn.one {w : World} {F G : Nat → Prop} {k : Int} {g : Nat} {u : Array Value} {x : Ty} {T : TypeId} (hg : w.heap[g]? = Option.some (.cells u T (0, 0))) (h : TOwn w F u x) (hF : ∀ k, F k → G k) (hgF : ¬ F g) (hGg : G g) : TOwn w G (cells2 k (.some ⟨g, 0, .none⟩) 1 1) (.mk k [x]) := by
  have hlt : g < w.heap.size := (Array.getElem?_eq_some_iff.1 hg).1
  refine TOwn.some (xs := [x]) (fun _ => u) (fun _ => F) (by simp) (by simp) (fun _ _ => h.five) ⟨hlt, fun j hj m hm => ?_⟩ (fun j hj m hm => ?_) hGg (fun _ _ => hgF) (fun j n hj hn hjn => ?_) (fun _ _ k hk => hF k hk) (fun j hj => ?_)
  · have hj0 : j = 0 := by simp at hj; omega
    subst hj0
    simp [World.cell?, hg]
  · simp [World.frozen?, hg]
  · simp at hj hn; omega
  · have hj0 : j = 0 := by simp at hj; omega
    subst hj0
    exact h
end Go.Proofs.YtnlhpndjogjejaaGreatDoor

/- A column, and columns, that lie in blocks of their own. -/
namespace Go.Proofs.YtnlhpndjogjejaaGreatDoor
open Go.RowKit

/-- so a column lies in blocks of its own -/
structure COwn (w : World) (F : Nat → Prop) (u : Array Value) (c : Col) : Prop where
  out : ∃ (F1 F2 : Nat → Prop) (k : Int) (tp : Option Addr) (tn tc : Nat) (vk vi : Int) (vb : Nat) (vt : ByteArray) (vp : Option Addr) (vn vc : Nat), u = cells9 c.name k tp tn tc c.has vk vi vb vt vp vn vc ∧ TOwn w F1 (cells2 k tp tn tc) c.ty ∧ VOwn w F2 (cells5 vk vi vb vt vp vn vc) c.dflt ∧ (∀ k, F1 k → F k) ∧ (∀ k, F2 k → F k) ∧ ∀ k, F1 k → ¬ F2 k
section
variable {w w' : World} {F G : Nat → Prop} {u : Array Value} {c : Col}
theorem COwn.nine (h : COwn w F u c) : u.size = 9 := by
  obtain ⟨_, _, _, _, _, _, _, _, _, _, _, _, _, rfl, _⟩ := h.out
  rfl
theorem COwn.lies (h : COwn w F u c) : CLies w u c := by
  obtain ⟨F1, F2, k, tp, tn, tc, vk, vi, vb, vt, vp, vn, vc, h1, h2, h3, _⟩ := h.out
  exact ⟨k, tp, tn, tc, vk, vi, vb, vt, vp, vn, vc, h1, h2.lies, h3.lies⟩
theorem COwn.aside (h : COwn w F u c) (ha : Aside G w w') (hd : ∀ k, F k → ¬ G k) : COwn w' F u c := by
  obtain ⟨F1, F2, k, tp, tn, tc, vk, vi, vb, vt, vp, vn, vc, h1, h2, h3, h4, h5, h6⟩ := h.out
  exact ⟨F1, F2, k, tp, tn, tc, vk, vi, vb, vt, vp, vn, vc, h1, h2.aside ha (fun k hk => hd k (h4 k hk)), h3.aside ha (fun k hk => hd k (h5 k hk)), h4, h5, h6⟩
theorem COwn.under {B : Nat} (h : COwn w F u c) (hb : Below B w w') (hF : ∀ k, F k → k < B) : COwn w' F u c :=
  h.aside (G := fun k => B ≤ k) (aside_of hb fun _ _ h => h) fun k hk hc => by have := hF k hk; omega
theorem COwn.mono (h : COwn w F u c) (hF : ∀ k, F k → G k) : COwn w G u c := by
  obtain ⟨F1, F2, k, tp, tn, tc, vk, vi, vb, vt, vp, vn, vc, h1, h2, h3, h4, h5, h6⟩ := h.out
  exact ⟨F1, F2, k, tp, tn, tc, vk, vi, vb, vt, vp, vn, vc, h1, h2, h3, fun k hk => hF k (h4 k hk), fun k hk => hF k (h5 k hk), h6⟩
theorem COwn.one9 (h : COwn w F u c) : ∀ a ∈ u.toList, a.oneCell' = true := by
  obtain ⟨_, _, _, _, _, _, _, _, _, _, _, _, _, rfl, _⟩ := h.out
  intro a ha
  simp [cells9] at ha
  rcases ha with rfl | rfl | rfl | rfl | rfl | rfl | rfl | rfl | rfl <;> rfl
end

theorem flat9_len (us : Nat → Array Value) : ∀ n, (∀ j, j < n → (us j).size = 9) → (flat us n).length = n * 9
  | 0, _ => by simp [flat]
  | n + 1, h => by
    rw [flat, List.length_append, flat9_len us n fun j hj => h j (by omega), Array.length_toList, h n (by omega)]; omega
theorem flat9_get (us : Nat → Array Value) : ∀ n, (∀ j, j < n → (us j).size = 9) → ∀ j, j < n → ∀ m, m < 9 → (flat us n)[j * 9 + m]? = (us j)[m]?
  | 0, _, j, hj, _, _ => by omega
  | n + 1, h, j, hj, m, hm => by
    have hl := flat9_len us n fun j hj => h j (by omega)
    rw [flat]
    rcases Nat.lt_or_ge j n with h1 | h1
    · rw [List.getElem?_append_left (by omega), flat9_get us n (fun j hj => h j (by omega)) j h1 m hm]
    · have hjn : j = n := by omega
      subst hjn
      rw [List.getElem?_append_right (by omega), hl, Nat.add_sub_cancel_left]
      simp

def zeroC : Value := .agg (cells9 ⟨#[]⟩ 0 none 0 0 false 0 0 0 ⟨#[]⟩ none 0 0)
theorem info48 : (Tryz.prog.info? 67).map (fun i => (i.zero, i.size, i.bytes)) = some (some zeroC, 9, 120) := by kernel_rfl
section
variable {B : Nat} {v : Value} {n : Nat} {us : Nat → Array Value} {w : World} {u : Array Value} {ad H : Nat}
/-- in the walk -/
theorem wp_moreC (hown : w.ownsRow B 67 9 v n (flat us n)) (h5 : u.size = 9) (h1 : ∀ a ∈ u.toList, a.oneCell' = true) (hblk : w.heap[ad]? = some (.cells u 67 (0, 0))) (hn : (n + 1) * 120 ≤ 140737488355328) (hB : B ≤ w.heap.size) (hH : w.heap.size = H)
    {ops : Array Oper} {rest : List Oper} {o : Oper} {a : Act} {Q : Exit → Act → World → Prop} {y x : Operand}
    (hg : o.guard = none) (hop : o.op = Op.call { callee := Callee.builtin Builtin.append, args := #[y, x], argTypes := #[23, 23] })
    (hs : a.eval y = v) (hx : a.eval x = .slice (some ⟨ad, 0, none⟩) 1 1)
    (hK : ∀ g cap w', w'.ownsRow B 67 9 (.slice (some ⟨g, 0, none⟩) (n + 1) cap) (n + 1) (flat us n ++ u.toList) → w.grownBy w' v.ownBlock → (v.ownBlock = some g ∨ g = H) → wpList Tryz.prog ops Q rest (a.put o.dst (.slice (some ⟨g, 0, none⟩) (n + 1) cap)) w') :
    wpList Tryz.prog ops Q (o :: rest) a w := by
  obtain ⟨i, hi, hz, hsz, hby⟩ := info_parts info48
  exact wpList_append_lies w hg y x 23 hop B 67 i zeroC 9 120 Tryz.underlying23 hi hz hsz hby rfl (by decide) v n (flat us n) hs hown ⟨ad, 0, none⟩ 1 1 u.toList hx (by simp [h5])
    (World.news_of_block hblk) h1 (by decide) (by unfold maxLen; omega) hn hB H hH fun g cap w' h2 h3 h4 _ => hK g cap w' h2 h3 h4
end

/-- columns that are built: they lie in a row of the call's own, and each in blocks of its own -/
structure CBuilt (w : World) (B : Nat) (v : Value) (n : Nat) (us : Nat → Array Value) (Fs : Nat → Nat → Prop) (ys : List Col) : Prop where
  len : ys.length = n
  nine : ∀ j, j < n → (us j).size = 9
  row : w.ownsRow B 67 9 v n (flat us n)
  own : ∀ j (h : j < ys.length), COwn w (Fs j) (us j) ys[j]
  apart : ∀ j m, j < n → m < n → j ≠ m → ∀ k, Fs j k → ¬ Fs m k
  beside : ∀ g, v.ownBlock = some g → ∀ j, j < n → ¬ Fs j g
  range : ∀ j, j < n → ∀ k, Fs j k → B ≤ k ∧ k < w.heap.size

theorem cbuilt_nil (w : World) (B : Nat) : CBuilt w B (.slice none 0 0) 0 (fun _ => #[]) (fun _ _ => False) [] :=
  ⟨rfl, fun j hj => by omega, World.ownsRow_nil _ _ _ _, fun j hj => by simp at hj, fun j m hj => by omega, fun g hg => by simp [Value.ownBlock] at hg, fun j hj => by omega⟩

section
variable {w w' : World} {B : Nat} {v : Value} {n : Nat} {us : Nat → Array Value} {Fs : Nat → Nat → Prop} {ys : List Col}
theorem CBuilt.aside {G : Nat → Prop} (h : CBuilt w B v n us Fs ys) (ha : Aside G w w') (h1 : ∀ g, v.ownBlock = some g → ¬ G g) (h2 : ∀ j, j < n → ∀ k, Fs j k → ¬ G k) : CBuilt w' B v n us Fs ys := by
  refine ⟨h.len, h.nine, ?_, fun j hj => (h.own j hj).aside ha (h2 j (by rw [← h.len]; exact hj)), h.apart, h.beside, fun j hj k hk => ⟨(h.range j hj k hk).1, Nat.lt_of_lt_of_le (h.range j hj k hk).2 ha.size⟩⟩
  refine ⟨h.row.1, ?_⟩
  rcases h.row.2 with h3 | ⟨g, cap, cur, rfl, h4, h5, h6⟩
  · exact .inl h3
  · exact .inr ⟨g, cap, cur, rfl, h4, by rw [ha.block g (Array.getElem?_eq_some_iff.1 h5).1 (h1 g rfl)]; exact h5, h6⟩
theorem CBuilt.lt (h : CBuilt w B v n us Fs ys) : ∀ g, v.ownBlock = some g → B ≤ g ∧ g < w.heap.size := World.ownsRow.lt h.row
theorem CBuilt.on (h : CBuilt w B v n us Fs ys) (hb : Below w.heap.size w w') : CBuilt w' B v n us Fs ys :=
  h.aside (aside_new hb (fun _ => False)) (fun _ _ hc => hc) (fun _ _ _ _ hc => hc)
theorem CBuilt.set (h : CBuilt w B v n us Fs ys) (p : Addr) (u : Value) (hp : p.block < B) : CBuilt (w.setCell p u) B v n us Fs ys :=
  h.aside (G := fun k => k = p.block) ((Aside.refl (fun k => k = p.block) w).setCell (p := p) (.inl rfl) u) (fun g hg hc => by have := (h.lt g hg).1; omega) (fun j hj k hk hc => by have := (h.range j hj k hk).1; omega)

/-- one more -/
theorem CBuilt.step {w2 w3 w4 : World} {u : Array Value} {F : Nat → Prop} {x : Col} {g cap : Nat} (h : CBuilt w B v n us Fs ys) (hb : Below w.heap.size w w2) (hx : COwn w2 F u x) (hF : ∀ k, F k → w.heap.size ≤ k ∧ k < w2.heap.size) (hb3 : Below w2.heap.size w2 w3) (hB : B ≤ w.heap.size)
    (hr : w4.ownsRow B 67 9 (.slice (some ⟨g, 0, none⟩) (n + 1) cap) (n + 1) (flat us n ++ u.toList)) (hg : w3.grownBy w4 v.ownBlock) (hn : v.ownBlock = some g ∨ g = w3.heap.size) :
    CBuilt w4 B (.slice (some ⟨g, 0, none⟩) (n + 1) cap) (n + 1) (fun j => if j = n then u else us j) (fun j => if j = n then F else Fs j) (ys ++ [x]) := by
  have hs := hb.size
  have hs3 := hb3.size
  have ha : Aside (fun k => v.ownBlock = some k) w2 w4 := by
    refine (aside_new hb3 _).trans (G := fun k => v.ownBlock = some k) ⟨hg.os, hg.tape, hg.output, hg.size, fun k hk hf => hg.block k hk (fun hc => hf hc.symm)⟩ (fun _ _ h => h)
  have hgF : ∀ k, F k → ¬ v.ownBlock = some k := fun k hk hc => by have := (h.lt k hc).2; have := (hF k hk).1; omega
  have hn1 : ∀ j, j < n + 1 → j ≠ n → j < n := fun j h1 h2 => by omega
  refine ⟨by rw [List.length_append, h.len]; rfl, fun j hj => ?_, ?_, fun j hj => ?_, fun j m hj hm hjm k hk => ?_, fun g' hg' j hj => ?_, fun j hj k hk => ?_⟩
  · split
    · exact hx.nine
    · exact h.nine j (by omega)
  · rw [flat, flat_congr _ us n (fun j hj => by simp [show ¬ j = n by omega])]
    simpa using hr
  · rw [List.length_append, h.len, List.length_singleton] at hj
    by_cases hjn : j = n
    · subst hjn
      rw [if_pos rfl, if_pos rfl, List.getElem_append_right (by rw [h.len]; exact Nat.le_refl _)]
      simp only [h.len, Nat.sub_self, List.getElem_singleton]
      exact hx.aside ha hgF
    · rw [if_neg hjn, if_neg hjn, List.getElem_append_left (by rw [h.len]; omega)]
      exact ((h.own j (by rw [h.len]; omega)).under hb (fun k hk => (h.range j (by omega) k hk).2)).aside ha (fun k hk hc => h.beside k hc j (by omega) hk)
  · by_cases hjn : j = n
    · rw [if_pos hjn] at hk
      rw [if_neg (by omega)]
      exact fun hc => by have := (h.range m (by omega) k hc).2; have := (hF k hk).1; omega
    · rw [if_neg hjn] at hk
      by_cases hmn : m = n
      · rw [if_pos hmn]
        exact fun hc => by have := (h.range j (by omega) k hk).2; have := (hF k hc).1; omega
      · rw [if_neg hmn]
        exact h.apart j m (by omega) (by omega) hjm k hk
  · simp only [Value.ownBlock, Option.some.injEq] at hg'
    subst hg'
    by_cases hjn : j = n
    · rw [if_pos hjn]
      intro hc
      have := hF _ hc
      rcases hn with hn | hn
      · exact hgF _ hc hn
      · omega
    · rw [if_neg hjn]
      intro hc
      rcases hn with hn | hn
      · exact h.beside _ hn j (by omega) hc
      · have := (h.range j (by omega) _ hc).2; omega
  · have h4 := ha.size
    by_cases hjn : j = n
    · rw [if_pos hjn] at hk
      have := hF k hk; omega
    · rw [if_neg hjn] at hk
      have := h.range j (by omega) k hk; omega


theorem CBuilt.low {B' : Nat} (h : CBuilt w B v n us Fs ys) (hB : B' ≤ B) : CBuilt w B' v n us Fs ys := by
  refine ⟨h.len, h.nine, ⟨h.row.1, ?_⟩, h.own, h.apart, h.beside, fun j hj k hk => ⟨Nat.le_trans hB (h.range j hj k hk).1, (h.range j hj k hk).2⟩⟩
  rcases h.row.2 with h3 | ⟨g, cap, cur, rfl, h4, h5⟩
  · exact .inl h3
  · exact .inr ⟨g, cap, cur, rfl, Nat.le_trans hB h4, h5⟩
/-- what is built lies in blocks of its own -/
structure SOwn (w : World) (B : Nat) (u : Array Value) (s : List Col) : Prop where
  out : ∃ v us Fs, u = #[v] ∧ CBuilt w B v s.length us Fs s ∧ s.length * 120 ≤ 140737488351232
theorem CBuilt.cols (h : CBuilt w B v n us Fs ys) (hl : n * 120 ≤ 140737488351232) : ∃ p c, v = .slice p n c ∧ n ≤ c ∧ Cols w p ys := by
  rcases h.row.2 with ⟨rfl, h0⟩ | ⟨g, cap, cur, rfl, h1, h2, h3, h4, h5, h6⟩
  · have hy : ys = [] := List.eq_nil_of_length_eq_zero (by rw [h.len]; exact h0)
    subst hy
    subst h0
    exact ⟨none, 0, rfl, Nat.le_refl _, fun j hj => by simp at hj⟩
  · refine ⟨_, cap, rfl, h3, fun j hj => ?_⟩
    have hg := (Array.getElem?_eq_some_iff.1 h2).1
    have hlen := h.len
    have hcell : ∀ q, q < n * 9 → w.cell? ⟨g, q, none⟩ = (flat us n)[q]? := fun q hq => by
      rw [← h6, List.getElem?_take_of_lt hq]
      simp [World.cell?, h2]
    have hj2 : j < n := by omega
    refine ⟨us j, (h.own j hj).lies, ?_⟩
    obtain ⟨F1, F2, k, tp, tn, tc, vk, vi, vb, vt, vp, vn, vc, e1, -⟩ := (h.own j hj).out
    have hc9 : ∀ m, m < 9 → w.cell? ⟨g, 0 + j * 9 + m, none⟩ = (us j)[m]? := fun m hm => by
      rw [Nat.zero_add, hcell _ (by omega), flat9_get us _ h.nine j hj2 m hm]
    rw [e1] at hc9
    refine ⟨g, 0, _, k, tp, tn, tc, _, vk, vi, vb, vt, vp, vn, vc, rfl, hg, e1, ?_⟩
    exact ⟨hc9 0 (by omega), hc9 1 (by omega), hc9 2 (by omega), hc9 3 (by omega), hc9 4 (by omega), hc9 5 (by omega), hc9 6 (by omega), hc9 7 (by omega), hc9 8 (by omega)⟩
theorem SOwn.lies {u : Array Value} {s : List Col} (h : SOwn w B u s) : SLies w u s := by
  obtain ⟨v, us, Fs, rfl, hb, hl⟩ := h.out
  obtain ⟨p, c, rfl, hc, hcols⟩ := hb.cols hl
  exact ⟨p, c, rfl, hl, hc, hcols⟩
end
end Go.Proofs.YtnlhpndjogjejaaGreatDoor

/- The document's typeAt, CheckType. -/
namespace Go.Proofs.YtnlhpndjogjejaaGreatDoor
open Go.RowKit

set_option maxRecDepth 100000 in
set_option maxHeartbeats 400000 in
theorem refSameType7 : ∀ (x y : Ty) (w : World) (u v : Array Value), TLies w u x → TLies w v y → Calls Tryz.prog 35 #[.agg u, .agg v] w fun e w' => e = .returned (.bool (Ty.same x y)) ∧ Below w.heap.size w w' := by
  intro x
  refine Ty.ind (P := fun x => ∀ (y : Ty) (w : World) (u v : Array Value), TLies w u x → TLies w v y → Calls Tryz.prog 35 #[.agg u, .agg v] w fun e w' => e = .returned (.bool (Ty.same x y)) ∧ Below w.heap.size w w') ?_ x
  rintro k xs ih ⟨k', ys⟩ w u v hx hy
  obtain ⟨p, c, rfl, hxl, hxc, hxi⟩ := hx.open
  obtain ⟨q, d, rfl, hyl, hyc, hyi⟩ := hy.open
  unfold cells2
  obtain ⟨W0, hW0⟩ : ∃ W0, W0 = (w.alloc (.cells #[.int .i64 k, .slice p xs.length c] 61)).alloc (.cells #[.int .i64 k', .slice q ys.length d] 61) := ⟨_, rfl⟩
  have HB0 : Hid (Below w.heap.size w W0) := by rw [hW0]; exact ((Below.refl _ _).alloc (Nat.le_refl _) _).alloc (by simp) _
  have HY : Hid (W0.cell? ⟨w.heap.size, 1, none⟩ = some (.slice p xs.length c) ∧ W0.cell? ⟨w.heap.size + 1, 1, none⟩ = some (.slice q ys.length d)) := by rw [hW0]; exact ⟨by simp, by simp⟩
  have HW0 := Lib.hid hW0
  clear hW0 hx hy
  by_cases h1 : ¬ k = k'
  · have g1 := bne_t h1
    have HE : Hid (Ty.same (.mk k xs) (.mk k' ys) = false) := by show _ = _; simp [Ty.same_mk, h1]
    clear ih hxi hyi h1
    go_enter Tryz.func35, Tryz.ntmps35
    go_wp2
    rw [← HW0.out]
    go_ret
    exact ⟨by rw [HE.out]; rfl, HB0.out⟩
  replace h1 : k = k' := Classical.not_not.1 h1
  have g1 := bne_f h1
  by_cases h5 : ¬ xs.length = ys.length
  · have g5 : ((xs.length : Int) != (ys.length : Int)) = true := bne_t (by omega)
    have HE : Hid (Ty.same (.mk k xs) (.mk k' ys) = false) := by show _ = _; simp [Ty.same_mk, Ty.sameL_ne xs ys h5]
    clear ih hxi hyi h1 h5
    go_enter Tryz.func35, Tryz.ntmps35
    go_wp2
    rw [← HW0.out]
    go_ret
    exact ⟨by rw [HE.out]; rfl, HB0.out⟩
  replace h5 : xs.length = ys.length := Classical.not_not.1 h5
  have g5 : ((xs.length : Int) != (ys.length : Int)) = false := bne_f (by omega)
  have HE : Hid (Ty.same (.mk k xs) (.mk k' ys) = Ty.sameL xs ys) := by show _ = _; simp [Ty.same_mk, h1]
  have HX : Hid (∀ j (hj : j < xs.length), ∃ u', TLies w u' xs[j] ∧ ItemT w p j u') := hxi
  have HY2 : Hid (∀ j (hj : j < ys.length), ∃ u', TLies w u' ys[j] ∧ ItemT w q j u') := hyi
  have HIH := Lib.hid ih
  have H5 := Lib.hid h5
  clear ih hxi hyi h1 h5
  go_enter Tryz.func35, Tryz.ntmps35
  go_wp2_with fail
  rw [← HW0.out]
  clear HW0
  go_loopw [5, 6] (fun v5 _ wr => ∃ j : Nat, j ≤ xs.length ∧ v5 = .int .i64 j ∧ Hid (Below W0.heap.size W0 wr ∧ ∀ m (h1 : m < xs.length) (h2 : m < ys.length), m < j → Ty.same xs[m] ys[m] = true)) (fun v5 _ _ => xs.length - (intOf v5).toNat)
  case atStart => exact ⟨0, by omega, rfl, Below.refl _ _, fun m _ _ h => by omega⟩
  case round =>
    obtain ⟨j, hj, rfl, HL⟩ := hrel
    have hbw : Below w.heap.size w wr := HB0.out.trans (HL.out.1.mono HB0.out.size)
    have y1 : wr.cell? ⟨w.heap.size, 1, none⟩ = some (.slice p xs.length c) := cell_on HL.out.1 HY.out.1
    have y2 : wr.cell? ⟨w.heap.size + 1, 1, none⟩ = some (.slice q ys.length d) := cell_on HL.out.1 HY.out.2
    by_cases hlt : j < xs.length
    · have hlt2 : j < ys.length := by have := H5.out; omega
      obtain ⟨ux, hvx, hix⟩ := HX.out j hlt
      obtain ⟨uy, hvy, hiy⟩ := HY2.out j hlt2
      obtain ⟨bx, ox, kx, qx, nx, cx, rfl, _, rfl, a0, a1⟩ := (hix.on hbw).lies
      obtain ⟨by', oy, ky, qy, ny, cy, rfl, _, rfl, b0, b1⟩ := (hiy.on hbw).lies
      have HC : Hid (∀ w', Below w.heap.size w w' → Calls Tryz.prog 35 #[.agg #[.int .i64 kx, .slice qx nx cx], .agg #[.int .i64 ky, .slice qy ny cy]] w' fun e w'' => e = .returned (.bool (Ty.same xs[j] ys[j])) ∧ Below w'.heap.size w' w'') :=
        fun w' hb => HIH.out _ (List.getElem_mem hlt) ys[j] w' _ _ (hvx.on hb) (hvy.on hb)
      have HBw := Lib.hid hbw
      have HBW := Lib.hid HL.out.1
      have HAll := Lib.hid HL.out.2
      have hj1 : (j : Int) < (xs.length : Int) := by omega
      have hj2 : (j : Int) < (ys.length : Int) := by omega
      obtain ⟨r, hr⟩ : ∃ r, r = Ty.same xs[j] ys[j] := ⟨_, rfl⟩
      rw [← hr] at HC
      have HRr := Lib.hid hr
      clear hvx hvy hix hiy hbw HL hr
      go_wp2_with fail
      go_region_held3 (fun w' => w'.cell? ⟨bx, ox + j * 2, none⟩ = some (.int .i64 kx) ∧ w'.cell? ⟨bx, ox + j * 2 + 1, none⟩ = some (.slice qx nx cx) ∧ w'.cell? ⟨by', oy + j * 2, none⟩ = some (.int .i64 ky) ∧ w'.cell? ⟨by', oy + j * 2 + 1, none⟩ = some (.slice qy ny cy) ∧ w'.cell? ⟨w.heap.size, 1, none⟩ = some (.slice (some ⟨bx, ox, none⟩) xs.length c) ∧ w'.cell? ⟨w.heap.size + 1, 1, none⟩ = some (.slice (some ⟨by', oy, none⟩) ys.length d)) (go_keep) (first
        | (go_at_call 35; refine (HC.out _ (below_drewN HBw.out _)).mono ?_; rintro e w4 ⟨rfl, hb4⟩; have hb5 := below_via (w := wr) hb4 (by rfl) (by rfl) (by rfl) (by rfl); have z3 := cell_on hb5 a0; have z4 := cell_on hb5 a1; have z5 := cell_on hb5 b0; have z6 := cell_on hb5 b1; have z7 := cell_on hb5 y1; have z8 := cell_on hb5 y2; have HB4 := Lib.hid hb5; clear hb4 hb5))
      clear z3 z4 z5 z6 z7 z8 a0 a1 b0 b1 y1 y2
      cases r with
      | true =>
        have HN : Hid (Below W0.heap.size W0 w4 ∧ ∀ m (h1 : m < xs.length) (h2 : m < ys.length), m < j + 1 → Ty.same xs[m] ys[m] = true) := by
          refine ⟨HBW.out.trans (HB4.out.mono HBW.out.size), fun m h1 h2 hm => ?_⟩
          by_cases hmj : m = j
          · subst hmj; exact HRr.out.symm
          · exact HAll.out m h1 h2 (by omega)
        clear HB4 HAll HC
        go_wp2
        go_roundw
        case rel => exact ⟨j + 1, by omega, by go_num, HN⟩
        case measure => simp [intOf]; omega
      | false =>
        have HF0 : Hid (Ty.sameL xs ys = false) := Ty.sameL_at xs ys j hlt hlt2 HRr.out.symm
        have HF := Lib.hid (HBw.out.trans (HB4.out.mono HBw.out.size))
        clear HB4 HAll HC
        go_wp2
        go_ret
        exact ⟨by rw [HE.out, HF0.out]; rfl, HF.out⟩
    · have HF0 : Hid (Ty.sameL xs ys = true) := Ty.sameL_all xs ys H5.out (fun m h1 h2 => HL.out.2 m h1 h2 (by omega))
      have HF := Lib.hid hbw
      have hjn : ¬ (j : Int) < (xs.length : Int) := by omega
      clear HL hbw hlt
      go_wp2
      go_ret
      exact ⟨by rw [HE.out, HF0.out]; rfl, HF.out⟩
end Go.Proofs.YtnlhpndjogjejaaGreatDoor

/- The document's Name. -/
namespace Go.Proofs.YtnlhpndjogjejaaGreatDoor
open Go.RowKit

theorem headD_get {l : List UInt8} (h : 0 < l.length) : l.headD 0 = l[0] := by
  cases l with
  | nil => simp at h
  | cons a r => rfl
theorem name_short {t : ByteArray} (h : t.size < 1 ∨ 16 < t.size) : Sch.name t = false := by
  have hs : t.data.toList.length = t.size := by rw [Array.length_toList]; rfl
  unfold Sch.name Sch.nameL
  rw [decide_eq_false (by omega)]
  rfl
theorem name_head {t : ByteArray} (h : 0 < t.size) (hc : Sch.low t[0] = false) : Sch.name t = false := by
  have hs : t.data.toList.length = t.size := by rw [Array.length_toList]; rfl
  unfold Sch.name Sch.nameL
  have e : t.data.toList.headD 0 = t[0] := by
    rw [← text_get t 0 h]
    exact headD_get (by omega)
  rw [e, hc, Bool.and_false, Bool.false_and]
theorem name_bad {t : ByteArray} (j : Nat) (h : j < t.size) (hc : Sch.ch t[j] = false) : Sch.name t = false := by
  have hs : t.data.toList.length = t.size := by rw [Array.length_toList]; rfl
  unfold Sch.name Sch.nameL
  have : t.data.toList.all Sch.ch = false := by
    rw [List.all_eq_false]
    refine ⟨t[j], ?_, by simp [hc]⟩
    rw [← text_get t j h]
    exact List.getElem_mem _
  rw [this, Bool.and_false]
theorem name_good {t : ByteArray} (h1 : 1 ≤ t.size) (h2 : t.size ≤ 16) (h3 : Sch.low (t[0]'(by omega)) = true) (h4 : ∀ j (h : j < t.size), Sch.ch t[j] = true) : Sch.name t = true := by
  have hs : t.data.toList.length = t.size := by rw [Array.length_toList]; rfl
  unfold Sch.name Sch.nameL
  have e : t.data.toList.headD 0 = t[0]'(by omega) := by
    rw [← text_get t 0 (by omega)]
    exact headD_get (by omega)
  have : t.data.toList.all Sch.ch = true := by
    rw [List.all_eq_true]
    intro x hx
    obtain ⟨j, hj, rfl⟩ := List.getElem_of_mem hx
    rw [text_get t j (by omega)]
    exact h4 j (by omega)
  rw [e, h3, this, decide_eq_true (by omega)]
  rfl

set_option maxRecDepth 100000 in
set_option maxHeartbeats 1000000 in
theorem refName7 (t : ByteArray) (w : World) : Calls Tryz.prog 50 #[.string t] w fun e w' => e = .returned (.bool (Sch.name t)) ∧ w' = w := by
  by_cases h1 : t.size < 1
  · have g1 : (t.size : Int) < 1 := by omega
    have HE := Lib.hid (name_short (t := t) (.inl h1))
    clear h1
    go_enter Tryz.func50, Tryz.ntmps50
    go_wp2
    go_ret
    exact ⟨by rw [HE.out]; rfl, rfl⟩
  have g1 : ¬ (t.size : Int) < 1 := by omega
  by_cases h2 : 16 < t.size
  · have g2 : (16 : Int) < (t.size : Int) := by omega
    have HE := Lib.hid (name_short (t := t) (.inr h2))
    clear h1 h2
    go_enter Tryz.func50, Tryz.ntmps50
    go_wp2
    go_ret
    exact ⟨by rw [HE.out]; rfl, rfl⟩
  have g2 : ¬ (16 : Int) < (t.size : Int) := by omega
  have h0 : 0 < t.size := by omega
  have h0' : (0 : Int) < (t.size : Int) := by omega
  by_cases h3 : Sch.low t[0] = false
  · have HE := Lib.hid (name_head h0 h3)
    have h4 : t[0].toNat < 97 ∨ 122 < t[0].toNat := by
      unfold Sch.low at h3
      rw [decide_eq_false_iff_not] at h3
      omega
    clear h3 h1 h2
    rcases h4 with h4 | h4
    · have g4 : (t[0].toNat : Int) < 97 := by omega
      go_enter Tryz.func50, Tryz.ntmps50
      go_wp2
      go_ret
      exact ⟨by rw [HE.out]; rfl, rfl⟩
    · have g4 : ¬ (t[0].toNat : Int) < 97 := by omega
      have g5 : (122 : Int) < (t[0].toNat : Int) := by omega
      go_enter Tryz.func50, Tryz.ntmps50
      go_wp2
      go_ret
      exact ⟨by rw [HE.out]; rfl, rfl⟩
  have h3' : Sch.low t[0] = true := by simpa using h3
  have H3 := Lib.hid h3'
  have h4 : 97 ≤ t[0].toNat ∧ t[0].toNat ≤ 122 := by
    unfold Sch.low at h3'
    rw [decide_eq_true_eq] at h3'
    exact h3'
  have g4 : ¬ (t[0].toNat : Int) < 97 := by omega
  have g5 : ¬ (122 : Int) < (t[0].toNat : Int) := by omega
  clear h3 h3' h4
  go_enter Tryz.func50, Tryz.ntmps50
  go_wp2
  go_loop [3, 4] (fun v3 _ => ∃ a : Nat, a ≤ t.size ∧ v3 = .int .i64 a ∧ Hid (∀ j (h : j < t.size), j < a → Sch.ch t[j] = true)) (fun v3 _ => t.size - (intOf v3).toNat)
  case atStart => exact ⟨0, by omega, rfl, fun j _ h => by omega⟩
  case round =>
    obtain ⟨a, ha, rfl, HA⟩ := hrel
    by_cases hlt : a < t.size
    · have hlt' : (a : Int) < (t.size : Int) := by omega
      have hc2 := t[a].toNat_lt
      by_cases hc : Sch.ch t[a] = true
      · have HN : Hid (∀ j (h : j < t.size), j < a + 1 → Sch.ch t[j] = true) := fun j h hj => by
          by_cases hja : j = a
          · subst hja; exact hc
          · exact HA.out j h (by omega)
        have hcs : (97 ≤ t[a].toNat ∧ t[a].toNat ≤ 122) ∨ (48 ≤ t[a].toNat ∧ t[a].toNat ≤ 57) ∨ t[a].toNat = 95 := by
          unfold Sch.ch Sch.low at hc
          simp only [Bool.or_eq_true, decide_eq_true_eq] at hc
          omega
        clear HA hc g4 g5 H3
        rcases hcs with hcs | hcs | hcs
        · have k1 : ¬ (t[a].toNat : Int) < 97 := by omega
          have k2 : ¬ (122 : Int) < (t[a].toNat : Int) := by omega
          clear hcs
          go_wp2
          go_round
          case rel => exact ⟨a + 1, by omega, by go_num, HN⟩
          case measure => simp [intOf]; omega
        · have k1 : (t[a].toNat : Int) < 97 := by omega
          have k2 : ¬ (t[a].toNat : Int) < 48 := by omega
          have k3 : ¬ (57 : Int) < (t[a].toNat : Int) := by omega
          clear hcs
          go_wp2
          go_round
          case rel => exact ⟨a + 1, by omega, by go_num, HN⟩
          case measure => simp [intOf]; omega
        · have k1 : (t[a].toNat : Int) < 97 := by omega
          have k2 : ¬ (t[a].toNat : Int) < 48 := by omega
          have k3 : (57 : Int) < (t[a].toNat : Int) := by omega
          have k4 : ((t[a].toNat : Int) != 95) = false := by rw [hcs]; rfl
          clear hcs
          go_wp2
          go_round
          case rel => exact ⟨a + 1, by omega, by go_num, HN⟩
          case measure => simp [intOf]; omega
      · have HE := Lib.hid (name_bad a hlt (by simpa using hc))
        have hcs : t[a].toNat < 48 ∨ (57 < t[a].toNat ∧ t[a].toNat < 97 ∧ t[a].toNat ≠ 95) ∨ 122 < t[a].toNat := by
          unfold Sch.ch Sch.low at hc
          simp only [Bool.or_eq_true, decide_eq_true_eq] at hc
          omega
        clear HA hc g4 g5 H3
        rcases hcs with hcs | hcs | hcs
        · have k1 : (t[a].toNat : Int) < 97 := by omega
          have k2 : (t[a].toNat : Int) < 48 := by omega
          have k4 : ((t[a].toNat : Int) != 95) = true := by rw [bne_iff_ne]; omega
          clear hcs
          go_wp2
          go_ret
          exact ⟨by rw [HE.out]; rfl, rfl⟩
        · have k1 : (t[a].toNat : Int) < 97 := by omega
          have k2 : ¬ (t[a].toNat : Int) < 48 := by omega
          have k3 : (57 : Int) < (t[a].toNat : Int) := by omega
          have k4 : ((t[a].toNat : Int) != 95) = true := by rw [bne_iff_ne]; omega
          clear hcs
          go_wp2
          go_ret
          exact ⟨by rw [HE.out]; rfl, rfl⟩
        · have k1 : ¬ (t[a].toNat : Int) < 97 := by omega
          have k5 : (122 : Int) < (t[a].toNat : Int) := by omega
          have k2 : ¬ (t[a].toNat : Int) < 48 := by omega
          have k3 : (57 : Int) < (t[a].toNat : Int) := by omega
          have k4 : ((t[a].toNat : Int) != 95) = true := by rw [bne_iff_ne]; omega
          clear hcs
          go_wp2
          go_ret
          exact ⟨by rw [HE.out]; rfl, rfl⟩
    · have HE := Lib.hid (name_good (t := t) (by omega) (by omega) H3.out (fun j h => HA.out j h (by omega)))
      have hjn : ¬ (a : Int) < (t.size : Int) := by omega
      clear HA
      go_wp2
      go_ret
      exact ⟨by rw [HE.out]; rfl, rfl⟩
end Go.Proofs.YtnlhpndjogjejaaGreatDoor

/- The document's Find. -/
namespace Go.Proofs.YtnlhpndjogjejaaGreatDoor
open Go.RowKit

/-- what Find tells -/
def foundV (r : Option Nat) : Value := match r with
  | some k => .tuple #[.int .i64 k, .bool true]
  | none => .tuple #[.int .i64 0, .bool false]
theorem find_ge (n : ByteArray) : ∀ (s : List Col) (k j : Nat), Sch.find n s k = some j → k ≤ j
  | [], _, _, h => by simp [Sch.find] at h
  | c :: r, k, j, h => by
    rw [Sch.find] at h
    split at h
    · injection h; omega
    · have := find_ge n r (k + 1) j h; omega
theorem find_drop (n : ByteArray) (s : List Col) (j : Nat) (hj : j < s.length) : Sch.find n (s.drop j) j = if s[j].name = n then some j else Sch.find n (s.drop (j + 1)) (j + 1) := by
  rw [List.drop_eq_getElem_cons hj, Sch.find]

set_option maxRecDepth 100000 in
set_option maxHeartbeats 400000 in
theorem refFind7 (s : List Col) (t : ByteArray) (p : Option Addr) (c : Nat) (w : World) (hs : s.length * 120 ≤ 140737488351232) (hx : Cols w p s) : Calls Tryz.prog 51 #[.agg #[.slice p s.length c], .string t] w fun e w' => e = .returned (foundV (Sch.find t s 0)) ∧ Below w.heap.size w w' := by
  have HX := Lib.hid hx
  clear hx
  obtain ⟨W0, hW0⟩ : ∃ W0, W0 = w.alloc (.cells #[.slice p s.length c] 25) := ⟨_, rfl⟩
  have HB0 : Hid (Below w.heap.size w W0) := by rw [hW0]; exact (Below.refl _ _).alloc (Nat.le_refl _) _
  have y0 : W0.cell? ⟨w.heap.size, 0, none⟩ = some (.slice p s.length c) := by rw [hW0]; simp
  have HW0 := Lib.hid hW0
  obtain ⟨R, hR⟩ : ∃ R, R = Sch.find t s 0 := ⟨_, rfl⟩
  have HR := Lib.hid hR
  rw [← hR]
  clear hW0 hR
  go_enter Tryz.func51, Tryz.ntmps51
  go_wp2_with fail
  rw [← HW0.out]
  go_loopw [6] (fun v6 wr => ∃ j : Nat, j ≤ s.length ∧ v6 = .int .i64 j ∧ wr = W0 ∧ Hid (R = Sch.find t (s.drop j) j)) (fun v6 _ => s.length - (intOf v6).toNat)
  case atStart => exact ⟨0, by omega, rfl, rfl, HR.out⟩
  case round =>
    obtain ⟨j, hj, rfl, rfl, HF⟩ := hrel
    by_cases hlt : j < s.length
    · obtain ⟨bx, ox, k, tp, tn, tc, vk, vi, vb, vt, vp, vn, vc, rfl, _, h9, -⟩ := (HX.out.on HB0.out).at j hlt
      have a0 := h9.1
      have hj1 : (j : Int) < (s.length : Int) := by omega
      have HD := Lib.hid (HF.out.trans (find_drop t s j hlt))
      by_cases hn : s[j].name = t
      · have g : (s[j].name.toList == t.toList) = true := by rw [text_eq, decide_eq_true hn]
        have HE : Hid (foundV R = .tuple #[.int .i64 j, .bool true]) := by show _ = _; rw [HD.out, if_pos hn]; rfl
        generalize s[j].name = nm at *
        clear HF HD h9 hn
        go_wp2
        go_ret2
        exact ⟨by rw [HE.out]; rfl, HB0.out⟩
      · have g : (s[j].name.toList == t.toList) = false := by rw [text_eq, decide_eq_false hn]
        have HE : Hid (R = Sch.find t (s.drop (j + 1)) (j + 1)) := by show _ = _; rw [HD.out, if_neg hn]
        generalize s[j].name = nm at *
        clear HF HD h9 hn
        go_wp2
        go_roundw
        case rel => exact ⟨j + 1, by omega, by go_num, trivial, HE⟩
        case measure => simp [intOf]; omega
    · have hjn : ¬ (j : Int) < (s.length : Int) := by omega
      have HE : Hid (foundV R = .tuple #[.int .i64 0, .bool false]) := by show _ = _; rw [HF.out, List.drop_eq_nil_of_le (by omega)]; rfl
      clear HF
      go_wp2
      go_ret2
      exact ⟨by rw [HE.out]; rfl, HB0.out⟩
end Go.Proofs.YtnlhpndjogjejaaGreatDoor

/- The document's of, Is. -/
namespace Go.Proofs.YtnlhpndjogjejaaGreatDoor
open Go.RowKit

end Go.Proofs.YtnlhpndjogjejaaGreatDoor

/- Plain: when two schemas are the same, column by column. -/
namespace Go.Proofs.YtnlhpndjogjejaaGreatDoor

theorem sameS_ne : ∀ (s t : List Col), s.length ≠ t.length → Sch.same s t = false
  | [], [], h => absurd rfl h
  | [], _ :: _, _ => rfl
  | _ :: _, [], _ => rfl
  | c :: s, d :: t, h => by rw [Sch.same, sameS_ne s t (by simpa using h), Bool.and_false]
theorem sameS_at : ∀ (s t : List Col) (j : Nat) (h1 : j < s.length) (h2 : j < t.length), Sch.colSame s[j] t[j] = false → Sch.same s t = false
  | c :: s, d :: t, 0, _, _, h => by rw [Sch.same]; simp at h; rw [h, Bool.false_and]
  | c :: s, d :: t, j + 1, h1, h2, h => by rw [Sch.same, sameS_at s t j (by simpa using h1) (by simpa using h2) (by simpa using h), Bool.and_false]
theorem sameS_all : ∀ (s t : List Col), s.length = t.length → (∀ j (h1 : j < s.length) (h2 : j < t.length), Sch.colSame s[j] t[j] = true) → Sch.same s t = true
  | [], [], _, _ => rfl
  | [], _ :: _, h, _ => by simp at h
  | _ :: _, [], h, _ => by simp at h
  | c :: s, d :: t, h, ha => by
    rw [Sch.same, sameS_all s t (by simpa using h) (fun j h1 h2 => by have := ha (j + 1) (by simpa using h1) (by simpa using h2); simpa using this)]
    have := ha 0 (by simp) (by simp)
    simp at this
    rw [this]; rfl

end Go.Proofs.YtnlhpndjogjejaaGreatDoor

/- In this stage nothing is asked of package leb by the laws themselves: the plain facts on its numbers come from here. -/

/- In this stage nothing is asked of package value by the laws themselves. -/
