/- Plain: frames there and back (P12.4), bursts (P12.5), being the same (P12.3). -/
import Derived.Test.YtclhbhhlddbocaaGreatDoorFr
namespace Go.Proofs.YtclhbhhlddbocaaGreatDoor
namespace Fr

theorem sameS_refl (s : List Col) : Sch.same s s = true := (Sch.same_fix s s).2 rfl
theorem sameS_comm (s t : List Col) : Sch.same s t = Sch.same t s := by
  rw [Bool.eq_iff_iff, Sch.same_fix, Sch.same_fix]
  exact ⟨Eq.symm, Eq.symm⟩
theorem same_refl (a : Fr) : same a a = true := by
  unfold same
  rw [decide_eq_true rfl, Bool.true_and]
  split
  · rw [decide_eq_true rfl, sameS_refl]; rfl
  · split
    · rw [decide_eq_true ⟨rfl, rfl, rfl, rfl⟩, beq_self_eq_true]; rfl
    · split
      · exact (Idx.same_iff _ _).2 rfl
      · rfl
theorem idx_comm (a b : Idx) : Idx.same a b = Idx.same b a := by
  rw [Bool.eq_iff_iff, Idx.same_iff, Idx.same_iff]
  exact ⟨Eq.symm, Eq.symm⟩
theorem same_comm (a b : Fr) : same a b = same b a := by
  unfold same
  by_cases h : a.kind = b.kind
  · have e0 : (a.block == b.block) = (b.block == a.block) := by rw [Bool.eq_iff_iff, beq_iff_eq, beq_iff_eq]; exact ⟨Eq.symm, Eq.symm⟩
    rw [← h, decide_eq_true rfl, sameS_comm a.cols, idx_comm a.index, e0]
    have e1 : decide (a.number = b.number) = decide (b.number = a.number) := by rw [decide_eq_decide]; exact ⟨Eq.symm, Eq.symm⟩
    have e2 : decide (a.number = b.number ∧ a.seq = b.seq ∧ a.first = b.first ∧ a.rows = b.rows) = decide (b.number = a.number ∧ b.seq = a.seq ∧ b.first = a.first ∧ b.rows = a.rows) := by
      rw [decide_eq_decide]
      constructor <;> (rintro ⟨h1, h2, h3, h4⟩; exact ⟨h1.symm, h2.symm, h3.symm, h4.symm⟩)
    rw [e1, e2]
  · rw [show decide (a.kind = b.kind) = false from decide_eq_false h, show decide (b.kind = a.kind) = false from decide_eq_false (fun hc => h hc.symm), Bool.false_and, Bool.false_and]

theorem col_fix_idem (c : Col) : c.fix.fix = c.fix := by
  unfold Col.fix
  simp only [fix_idem]
theorem norm_same {f : Fr} (h : err0 f = 0) : same (norm f) f = true := by
  rcases head_fields h with hk | hk | hk
  · have e : Sch.same (f.cols.map Col.fix) f.cols = true := by
      rw [Sch.same_fix, List.map_map]
      congr 1
      funext c
      exact col_fix_idem c
    unfold same norm
    rw [if_pos hk]
    simp [hk, e]
  · unfold same norm
    rw [if_neg (by omega), if_pos hk]
    simp [hk]
  · unfold same norm
    rw [if_neg (by omega), if_neg (by omega)]
    simp [hk, (Idx.same_iff f.index f.index).2 rfl]

theorem le_len (n : Nat) : (Sch.le 4 n).length = 4 := Sch.le_len 4 n
theorem check_length (b : List UInt8) : (check b).length = b.length + 4 := by unfold check; rw [List.length_append, le_len]
theorem check_take (b : List UInt8) : (check b).take ((check b).length - 4) = b := by
  rw [check_length, Nat.add_sub_cancel, check, List.take_left]
theorem check_drop (b : List UInt8) : (check b).drop ((check b).length - 4) = Sch.le 4 (Crc.sum b) := by
  rw [check_length, Nat.add_sub_cancel, check, List.drop_left]

theorem err_open {f : Fr} (h : err f = 0) : err0 f = 0 ∧ (run f).length ≤ 2200 := by
  unfold err at h
  by_cases h0 : err0 f = 0
  · rw [if_neg (by omega)] at h
    by_cases h1 : 2200 < (run f).length
    · rw [if_pos h1] at h; omega
    · exact ⟨h0, by omega⟩
  · rw [if_pos h0] at h
    exact absurd h h0
theorem open_run {f : Fr} (h : (run f).length ≤ 2200) : open_ (run f) = .ok (head f) := by
  unfold open_
  rw [if_neg (by omega)]
  unfold run
  rw [Cob.un_stuff]
  dsimp only
  rw [if_neg (by decide), if_neg (by rw [check_length]; unfold head; simp), check_take, check_drop, if_pos rfl]
theorem kind_head {f : Fr} (h : err0 f = 0) : (UInt8.ofNat f.kind.toNat).toNat = f.kind.toNat := by
  rcases head_fields h with hk | hk | hk <;> rw [hk] <;> rfl
/-- P12.4: there and back -/
theorem dec_run {f : Fr} (h : err f = 0) (hw : ∀ c ∈ f.cols, c.wf) : dec (run f) = .ok (norm f) := by
  obtain ⟨h0, h1⟩ := err_open h
  unfold dec
  rw [open_run h1]
  dsimp only
  unfold head
  rw [List.headD_cons, List.tail_cons, kind_head h0, rdF_put h0 hw]
theorem run_ge {f : Fr} : 6 ≤ (run f).length := by
  have := (Cob.stuff_length (check (head f))).1
  rw [check_length] at this
  unfold run
  have : 1 ≤ (head f).length := by unfold head; simp
  omega
theorem nums_one (n : Nat) : nums [(n : Int)] = Leb.put n := by
  rw [nums_cons, nums_nil, List.append_nil]
  rfl
/-- what is read as fields: a frame that may be, with just these bytes, and nothing but what counts -/
theorem rdF_ok {k : Nat} {l : List UInt8} {f : Fr} (h : rdF k l = .ok f) : f.kind = k ∧ (k = 1 ∨ k = 2 ∨ k = 3) ∧ err0 f = 0 ∧ fields f = l ∧ norm f = f ∧ f.wf := by
  unfold rdF at h
  by_cases h1 : k = 1
  · rw [if_pos h1] at h
    subst h1
    unfold rdS at h
    split at h
    · cases h
    · next n j hn =>
      split at h
      · cases h
      · next s hs =>
        injection h with h
        subst h
        obtain ⟨a1, r, a2, a3⟩ := nb_ok hn
        obtain ⟨b1, b2, b3⟩ := Sch.read_ok hs
        have hfix : s.map Col.fix = s := by
          have : s.map Col.fix = s.map id := List.map_congr_left fun c hc => (b3 c hc).1
          rw [this, List.map_id]
        refine ⟨rfl, .inl rfl, ?_, ?_, ?_, ?_⟩
        · unfold err0
          simp only [if_true]
          rw [if_neg (by rw [Bool.not_eq_false, within_iff]; simp only [N]; omega)]
          exact b1
        · unfold fields
          simp only [if_true]
          rw [nums_one, b2, a2, a3, List.drop_left]
        · unfold norm
          simp only [if_true]
          rw [hfix]
        · refine ⟨by unfold i64; simp, by unfold i64; simp; omega, fun c hc => (b3 c hc).2, ?_⟩
          simp [Fr0, Idx0, i64]
  · rw [if_neg h1] at h
    by_cases h2 : k = 2
    · rw [if_pos h2] at h
      subst h2
      unfold rdD at h
      split at h
      · cases h
      · next ns j hn =>
        obtain ⟨a1, a2, r, a3, a4⟩ := nbs_ok _ _ _ _ hn
        obtain ⟨x, y, z, t, rfl⟩ : ∃ x y z t, ns = [x, y, z, t] := by
          match ns, a1 with
          | [x, y, z, t], _ => exact ⟨x, y, z, t, rfl⟩
        have c1 := a2 0 (by simp) (by simp)
        have c2 := a2 1 (by simp) (by simp)
        have c3 := a2 2 (by simp) (by simp)
        have c4 := a2 3 (by simp) (by simp)
        simp at c1 c2 c3 c4
        split at h
        · cases h
        · next h0 =>
          simp at h0
          injection h with h
          subst h
          refine ⟨rfl, .inr (.inl rfl), ?_, ?_, ?_, ?_⟩
          · unfold err0
            dsimp only
            rw [if_neg (by decide), if_pos rfl, if_neg]
            rw [Bool.not_eq_false]
            simp only [Bool.and_eq_true, within_iff, N, S, decide_eq_true_eq]
            simp
            omega
          · unfold fields
            dsimp only
            rw [if_neg (by decide), if_pos rfl]
            have e : nums [((x : Nat) : Int), (y : Int), (z : Int), (t : Int)] ++ r = l := a3.symm
            have e2 : j = (nums [((x : Nat) : Int), (y : Int), (z : Int), (t : Int)]).length := a4
            simp only [List.getD_cons_zero, List.getD_cons_succ]
            rw [e2, ← e, List.drop_left]
          · unfold norm
            simp
          · simp [wf, Fr0, Idx0, i64]
            omega
    · rw [if_neg h2] at h
      by_cases h3 : k = 3
      · rw [if_pos h3] at h
        subst h3
        unfold rdI at h
        split at h
        · cases h
        · next ns j hn =>
          obtain ⟨a1, a2, r, a3, a4⟩ := nbs_ok _ _ _ _ hn
          obtain ⟨x, y, z, t, rfl⟩ : ∃ x y z t, ns = [x, y, z, t] := by
            match ns, a1 with
            | [x, y, z, t], _ => exact ⟨x, y, z, t, rfl⟩
          have c1 := a2 0 (by simp) (by simp)
          have c2 := a2 1 (by simp) (by simp)
          have c3 := a2 2 (by simp) (by simp)
          have c4 := a2 3 (by simp) (by simp)
          simp at c1 c2 c3 c4
          split at h
          · cases h
          · next es j2 he =>
            obtain ⟨b1, b2, r2, b3, b4⟩ := rdE_ok _ _ _ _ he
            split at h
            · next hl =>
              injection h with h
              subst h
              replace b1 : es.length = t := b1
              have e : l = nums [((x : Nat) : Int), (y : Int), (z : Int), (t : Int)] ++ r := a3
              have e2 : j = (nums [((x : Nat) : Int), (y : Int), (z : Int), (t : Int)]).length := a4
              rw [e, e2, List.drop_left] at b3
              have hr2 : r2 = [] := by
                rw [e, b3, b4, e2] at hl
                simp only [List.length_append] at hl
                exact List.eq_nil_of_length_eq_zero (by omega)
              refine ⟨rfl, .inr (.inr rfl), ?_, ?_, ?_, ?_⟩
              · unfold err0 idxErr
                dsimp only
                rw [if_neg (by decide), if_neg (by decide), if_pos rfl, if_neg, if_neg (by omega), if_neg (by rw [b2]; decide)]
                rw [Bool.not_eq_false]
                simp only [Bool.and_eq_true, within_iff, S]
                simp
                omega
              · unfold fields
                dsimp only
                rw [if_neg (by decide), if_neg (by decide)]
                simp only [List.getD_cons_zero, List.getD_cons_succ]
                rw [b1, e, b3, hr2, List.append_nil]
              · unfold norm
                simp
              · have hE : ∀ e ∈ es, i64 e.at_ ∧ i64 e.row ∧ i64 e.sch := fun e he => by
                  have := List.all_eq_true.1 b2 e he
                  unfold entOk at this
                  simp only [Bool.and_eq_true, within_iff, S] at this
                  unfold i64
                  omega
                refine ⟨by unfold i64; simp, by simp [Fr0, i64], by simp [Fr0], by simp [Fr0, i64], by simp [Fr0, i64], by simp [Fr0, i64], by simp [i64]; omega, hE⟩
            · cases h
      · rw [if_neg h3] at h
        cases h
theorem open_ok {r b : List UInt8} (h : open_ r = .ok b) : r.length ≤ 2200 ∧ Cob.stuff (check b) = r ∧ 1 ≤ b.length := by
  unfold open_ at h
  split at h
  · cases h
  · next h1 =>
    split at h
    · cases h
    · next h2 =>
      split at h
      · cases h
      · next h3 =>
        split at h
        · next h4 =>
          injection h with h
          have e := Cob.un_ok (s := r) (by simpa using h2)
          refine ⟨by omega, ?_, ?_⟩
          · unfold check
            rw [← h, ← h4, List.take_append_drop, e]
          · rw [← h, List.length_take]; omega
        · cases h
theorem dec_ok {r : List UInt8} {f : Fr} (h : dec r = .ok f) : err f = 0 ∧ run f = r ∧ norm f = f ∧ f.wf ∧ (f.kind = 1 ∨ f.kind = 2 ∨ f.kind = 3) := by
  unfold dec at h
  split at h
  · cases h
  · next b hb =>
    obtain ⟨a1, a2, a3⟩ := open_ok hb
    obtain ⟨c1, c2, c3, c4, c5, c6⟩ := rdF_ok h
    obtain ⟨x, t, rfl⟩ : ∃ x t, b = x :: t := by
      cases b with
      | nil => simp at a3
      | cons x t => exact ⟨x, t, rfl⟩
    rw [List.headD_cons] at c1 c2
    rw [List.tail_cons] at c4
    have hh : head f = x :: t := by
      unfold head
      rw [c4, c1]
      simp
    have hr : run f = r := by unfold run; rw [hh, a2]
    refine ⟨?_, hr, c5, c6, by omega⟩
    unfold err
    rw [if_neg (by omega), if_neg (by rw [hr]; omega)]

/-- bytes with their check have one and the same check -/
theorem num_un (l : List UInt8) : Crc.num l = Sch.un l := by
  induction l with
  | nil => rfl
  | cons c l ih => rw [Crc.num, Sch.un, ih]; omega
theorem sum_lt (b : List UInt8) : Crc.sum b < 4294967296 := Crc.update_lt (by omega) b
theorem sum_check (b : List UInt8) : Crc.sum (check b) = Crc.steps 32 Crc.full ^^^ Crc.full := by
  have h1 : Crc.num (Sch.le 4 (Crc.sum b)) = Crc.sum b := by rw [num_un]; exact Sch.un_le 4 _ (by have := sum_lt b; omega)
  have h2 : Crc.take (0 ^^^ Crc.full) b ^^^ Crc.sum b = Crc.full := by
    show Crc.take (0 ^^^ Crc.full) b ^^^ (Crc.take (0 ^^^ Crc.full) b ^^^ Crc.full) = Crc.full
    rw [← Nat.xor_assoc, Nat.xor_self, Nat.zero_xor]
  show Crc.take (0 ^^^ Crc.full) (b ++ Sch.le 4 (Crc.sum b)) ^^^ Crc.full = _
  rw [Crc.take_append, Crc.take_num, h1, h2, le_len]
/-- P12.5: a body that is changed within 32 bits side by side is refused for its check, or too long -/
theorem open_burst {b x : List UInt8} (hb : 1 ≤ b.length) (hx : x.length = (check b).length) (first e : Nat) (hf : first ≤ 8 * (check b).length) (he : e < 4294967296) (h : Crc.num x = Crc.num (check b) ^^^ 2 ^ first * e) (h0 : e ≠ 0) :
    open_ (Cob.stuff x) = if 2200 < (Cob.stuff x).length then .error 2 else .error 120 := by
  unfold open_
  split
  · rfl
  · rw [Cob.un_stuff]
    dsimp only
    rw [if_neg (by decide), if_neg (by rw [hx, check_length]; omega), if_neg]
    intro hc
    have hxe : check (x.take (x.length - 4)) = x := by
      unfold check
      rw [← hc, List.take_append_drop]
    have h1 := (Crc.sum_burst (check b) x hx first e hf he h).1 (by rw [← hxe, sum_check, sum_check])
    exact h0 h1
theorem dec_burst {b x : List UInt8} (hb : 1 ≤ b.length) (hx : x.length = (check b).length) (first e : Nat) (hf : first ≤ 8 * (check b).length) (he : e < 4294967296) (h : Crc.num x = Crc.num (check b) ^^^ 2 ^ first * e) (h0 : e ≠ 0) :
    dec (Cob.stuff x) = if 2200 < (Cob.stuff x).length then .error 2 else .error 120 := by
  unfold dec
  rw [open_burst hb hx first e hf he h h0]
  by_cases hh : 2200 < (Cob.stuff x).length
  · simp only [if_pos hh]
  · simp only [if_neg hh]
end Fr
end Go.Proofs.YtclhbhhlddbocaaGreatDoor
