/- The landed text: values; what is read of words, lists, values. -/
import Derived.Test.YtpjcmahlnnglcaaGreatDoorK21I
namespace Go.Proofs.YtpjcmahlnnglcaaGreatDoor
open Go.RowKit
attribute [local go_sem] run_store_float

theorem Built.low {w : World} {B B' : Nat} {v : Value} {n : Nat} {us : Nat → Array Value} {Fs : Nat → Nat → Prop} {ys : List V} (h : Built w B v n us Fs ys) (hB : B' ≤ B) : Built w B' v n us Fs ys := by
  refine ⟨h.len, h.five, ?_, h.own, h.apart, h.beside, fun j hj k hk => ⟨Nat.le_trans hB (h.range j hj k hk).1, (h.range j hj k hk).2⟩⟩
  refine ⟨h.row.1, ?_⟩
  rcases h.row.2 with h3 | ⟨g, cap, cur, rfl, h4, h5⟩
  · exact .inl h3
  · exact .inr ⟨g, cap, cur, rfl, Nat.le_trans hB h4, h5⟩
/-- what is read of a word -/
def pwrd (rf : Tx.Bs → Option Nat) (f : Nat) (l : Tx.Bs) : Tx.R (V × Tx.Bs) :=
  if l.takeWhile Sch.low = [116, 114, 117, 101] then .ok (⟨1, 1, 0, ⟨#[]⟩, []⟩, l.dropWhile Sch.low)
  else if l.takeWhile Sch.low = [102, 97, 108, 115, 101] then .ok (⟨1, 0, 0, ⟨#[]⟩, []⟩, l.dropWhile Sch.low)
  else if l.takeWhile Sch.low = [110, 111, 110, 101] then .ok (⟨6, 0, 0, ⟨#[]⟩, []⟩, l.dropWhile Sch.low)
  else if l.takeWhile Sch.low = [115, 111, 109, 101] then andM (Tx.must [40] (l.dropWhile Sch.low)) fun r => andP (Tx.pval rf f r) fun x r => andM (Tx.must [41] r) fun r => .ok (⟨6, 0, 0, ⟨#[]⟩, [x]⟩, r)
  else .error (5, l.length)
/-- .. of a list -/
def plst (rf : Tx.Bs → Option Nat) (f : Nat) (l : Tx.Bs) : Tx.R (V × Tx.Bs) := andM (Tx.must [91] l) fun t =>
  if t.head? = some 93 then andM (Tx.must [93] t) fun r => .ok (⟨7, 0, 0, ⟨#[]⟩, []⟩, r)
  else andP (Tx.pseq (Tx.pval rf f) (t.length + 1) t) fun xs r => andM (Tx.must [93] r) fun r => .ok (⟨7, 0, 0, ⟨#[]⟩, xs⟩, r)
/-- .. of bytes -/
def pqv (k : Int) (q : UInt8) (l : Tx.Bs) : Tx.R (V × Tx.Bs) := andP (pquo q l) fun x r => .ok (⟨k, 0, 0, ⟨x.toArray⟩, []⟩, r)
theorem must_head (c : UInt8) (t : Tx.Bs) : Tx.must [c] (c :: t) = .ok t := by
  show (if c = c then Tx.must [] t else _) = _
  rw [if_pos rfl]
  rfl
theorem must_other {c d : UInt8} (t : Tx.Bs) (h : d ≠ c) : Tx.must [c] (d :: t) = .error (5, t.length + 1) := by
  show (if d = c then Tx.must [] t else _) = _
  rw [if_neg h]
theorem pval_at (rf : Tx.Bs → Option Nat) (f : Nat) (c : UInt8) (t : Tx.Bs) : Tx.pval rf (f + 1) (c :: t) = if Sch.low c then pwrd rf f (c :: t) else if Tx.iset c then pnum (c :: t) else if c = 126 then pflo rf (c :: t) else if c = 34 then pqv 4 34 (c :: t) else if c = 39 then pqv 5 39 (c :: t) else plst rf f (c :: t) := by
  rw [Tx.pval]
  by_cases h1 : Sch.low c = true
  · rw [if_pos h1, if_pos h1]
    unfold pwrd
    by_cases w1 : (c :: t).takeWhile Sch.low = [116, 114, 117, 101]
    · rw [if_pos w1, if_pos w1]
    rw [if_neg w1, if_neg w1]
    by_cases w2 : (c :: t).takeWhile Sch.low = [102, 97, 108, 115, 101]
    · rw [if_pos w2, if_pos w2]
    rw [if_neg w2, if_neg w2]
    by_cases w3 : (c :: t).takeWhile Sch.low = [110, 111, 110, 101]
    · rw [if_pos w3, if_pos w3]
    rw [if_neg w3, if_neg w3]
    by_cases w4 : (c :: t).takeWhile Sch.low = [115, 111, 109, 101]
    · rw [if_pos w4, if_pos w4]
      cases Tx.must [40] ((c :: t).dropWhile Sch.low) with
      | error e => rfl
      | ok r =>
        dsimp only [andM]
        cases Tx.pval rf f r with
        | error e => rfl
        | ok p => rfl
    · rw [if_neg w4, if_neg w4]
      rfl
  rw [if_neg h1, if_neg h1]
  by_cases h2 : Tx.iset c = true
  · rw [if_pos h2, if_pos h2]
    rfl
  rw [if_neg h2, if_neg h2]
  by_cases h3 : c = 126
  · rw [if_pos h3, if_pos h3]
    subst h3
    unfold pflo
    rw [must_head]
    rfl
  rw [if_neg h3, if_neg h3]
  by_cases h4 : c = 34
  · rw [if_pos h4, if_pos h4]
    subst h4
    unfold pqv pquo
    rw [must_head]
    dsimp only [andM]
    cases Tx.pq 34 t with
    | error e => rfl
    | ok p => rfl
  rw [if_neg h4, if_neg h4]
  by_cases h5 : c = 39
  · rw [if_pos h5, if_pos h5]
    subst h5
    unfold pqv pquo
    rw [must_head]
    dsimp only [andM]
    cases Tx.pq 39 t with
    | error e => rfl
    | ok p => rfl
  rw [if_neg h5, if_neg h5]
  unfold plst
  by_cases h6 : c = 91
  · rw [if_pos h6]
    subst h6
    rw [must_head]
    dsimp only [andM]
    by_cases h7 : t.head? = some 93
    · rw [if_pos h7, if_pos h7]
      match t, h7 with
      | d :: t, h7 =>
        injection h7 with h7
        subst h7
        rw [must_head]
        rfl
    · rw [if_neg h7, if_neg h7]
      have h8 := pits_pseq (Tx.pval rf f) (t.length + 1) t
      cases h9 : Tx.pits (Tx.pval rf f) (t.length + 1) t with
      | error e =>
        rw [h9] at h8
        cases h10 : Tx.pseq (Tx.pval rf f) (t.length + 1) t with
        | error e' =>
          rw [h10] at h8
          injection h8 with h8
          rw [h8]
          rfl
        | ok z =>
          rw [h10] at h8
          dsimp only [andP] at h8 ⊢
          cases h11 : Tx.must [93] z.2 with
          | error e' =>
            rw [h11] at h8
            dsimp only [andM] at h8 ⊢
            injection h8 with h8
            rw [h8]
          | ok r => rw [h11] at h8; cases h8
      | ok y =>
        rw [h9] at h8
        cases h10 : Tx.pseq (Tx.pval rf f) (t.length + 1) t with
        | error e' =>
          rw [h10] at h8
          dsimp only [andP] at h8 ⊢
          cases h11 : Tx.must [93] y.2 with
          | error e' =>
            rw [h11] at h8
            dsimp only [andM] at h8 ⊢
            injection h8 with h8
            rw [h8]
          | ok r => rw [h11] at h8; cases h8
        | ok z =>
          rw [h10] at h8
          dsimp only [andP] at h8 ⊢
          cases h11 : Tx.must [93] y.2 with
          | error e1 =>
            rw [h11] at h8
            cases h12 : Tx.must [93] z.2 with
            | error e2 =>
              rw [h12] at h8
              dsimp only [andM] at h8 ⊢
              injection h8 with h8
              rw [h8]
            | ok r => rw [h12] at h8; cases h8
          | ok r1 =>
            rw [h11] at h8
            cases h12 : Tx.must [93] z.2 with
            | error e2 => rw [h12] at h8; cases h8
            | ok r2 =>
              rw [h12] at h8
              dsimp only [andM] at h8 ⊢
              injection h8 with h8
              injection h8 with h13 h14
              rw [h13, h14]
  · rw [if_neg h6, must_other t h6]
    rfl

set_option maxRecDepth 100000 in
set_option maxHeartbeats 2000000 in
theorem values1X {w : World} {P g : Nat} {S : ByteArray} {l : Tx.Bs} (h : Prs w P S l) (d : Int) (R : Tx.R (V × Tx.Bs)) (h1 : w.cell? ⟨g, 0, none⟩ = some (.pointer (some ⟨P, 0, none⟩))) (h2 : w.cell? ⟨g + 1, 0, none⟩ = some (.int .i64 d)) (hg : g + 1 < w.heap.size) (hval : ∀ w', Prs w' P S l → Calls Tryz.prog 90 #[.pointer (some ⟨P, 0, none⟩), .int .i64 d] w' (PsA w' P S R (isVa w'))) :
    Calls Tryz.prog 137 #[.pointer (some ⟨g, 0, none⟩), .pointer (some ⟨g + 1, 0, none⟩)] w (PsA w P S R (isVa w)) := by
  obtain ⟨W0, hW0⟩ : ∃ W0, W0 = w.alloc (.cells #[.int .i64 0, .int .i64 0, .float .f64 0, .string ⟨#[]⟩, .slice none 0 0] 31) := ⟨_, rfl⟩
  have HB0 : Hid (Below w.heap.size w W0) := by rw [hW0]; exact (Below.refl _ _).alloc (Nat.le_refl _) _
  have HN0 : Hid (W0.heap[w.heap.size]? = some (.cells zero5 31 (0, 0))) := by rw [hW0]; exact blk_new w _
  have HW0 := Lib.hid hW0
  have HV := Lib.hid (hval W0 (h.on HB0.out))
  have HPlt := Lib.hid h.lt
  have hPN : ¬ w.heap.size = P := by have := h.lt; omega
  have hg0 : g < w.heap.size := by omega
  have HA0 := Lib.hid (aside_new HB0.out (fun i => i = P))
  rw [hW0] at HV
  clear h hval hW0
  cases R with
  | error er =>
    obtain ⟨ek, en⟩ := er
    go_enter Tryz.func137, Tryz.ntmps137
    go_wp2_with fail
    refine HV.out.mono ?_
    intro e w1 hh
    rw [← HW0.out] at hh
    obtain ⟨he, ha1⟩ := hh.bad
    subst he
    have HA1 := Lib.hid (HA0.out.trans ha1 (fun _ _ h => h))
    clear hh ha1 HV
    go_wp2
    exact ⟨rfl, rfl, HA1.out⟩
  | ok z =>
    obtain ⟨x, r⟩ := z
    go_enter Tryz.func137, Tryz.ntmps137
    go_wp2_with fail
    refine HV.out.mono ?_
    intro e w1 hh
    rw [← HW0.out] at hh
    obtain ⟨v1, he, hv1, hp1, ha1⟩ := hh.good
    obtain ⟨u1, hu1, hown1⟩ := hv1.open
    obtain ⟨k1, i1, b1, t1, p1, n1, c1, hsh⟩ := hown1.shape
    subst hsh
    subst hu1
    subst he
    have HN1 : Hid (w1.heap[w.heap.size]? = some (.cells zero5 31 (0, 0))) := (ha1.block _ (blk_lt HN0.out) hPN).trans HN0.out
    have hls := blk_lt HN0.out
    have HFin := Lib.hid (fun w5 hw5 => finV (w5 := w5) HPlt.out HN1.out hown1 (fun k hk => ⟨by omega, hk.2⟩) hp1 (HA0.out.trans ha1 (fun _ _ h => h)) hw5)
    unfold cells5
    have zf0 := blk_free HN1.out 0
    have zf1 := blk_free HN1.out 1
    have zf2 := blk_free HN1.out 2
    have zf3 := blk_free HN1.out 3
    have zf4 := blk_free HN1.out 4
    have z0 : w1.cell? ⟨w.heap.size, 0, none⟩ = some (.int .i64 0) := blk_cell HN1.out 0
    have z1 : w1.cell? ⟨w.heap.size, 1, none⟩ = some (.int .i64 0) := blk_cell HN1.out 1
    have z2 : w1.cell? ⟨w.heap.size, 2, none⟩ = some (.float .f64 0) := blk_cell HN1.out 2
    have z3 : w1.cell? ⟨w.heap.size, 3, none⟩ = some (.string ⟨#[]⟩) := blk_cell HN1.out 3
    have z4 : w1.cell? ⟨w.heap.size, 4, none⟩ = some (.slice none 0 0) := blk_cell HN1.out 4
    clear hh hv1 hown1 hp1 ha1 HV hls
    go_wp2
    obtain ⟨f1, f2, f3, f4⟩ := HFin.out _ rfl
    refine bodyPost_ret (v := .agg (cells5 k1 i1 b1 t1 p1 n1 c1)) (results_cell_row rfl _ _ w.heap.size _ _ _ _ rfl f1 Tryz.underlying31 rfl (by kernel_rfl)) rfl ?_
    exact ⟨_, rfl, f2, f3, f4⟩

set_option maxRecDepth 100000 in
set_option maxHeartbeats 2000000 in
theorem valuesX {w : World} {P : Nat} {S : ByteArray} {l : Tx.Bs} (h : Prs w P S l) (hS : S.size ≤ 1099511627776) (d : Int) (p : Tx.Bs → Tx.R (V × Tx.Bs)) (hp : ∀ l x r, p l = .ok (x, r) → r.length ≤ l.length) (hval : ∀ w' l', Prs w' P S l' → Calls Tryz.prog 90 #[.pointer (some ⟨P, 0, none⟩), .int .i64 d] w' (PsA w' P S (p l') (isVa w'))) :
    Calls Tryz.prog 93 #[.pointer (some ⟨P, 0, none⟩), .int .i64 d] w (PsA w P S (Tx.pseq p (l.length + 1) l) (isVs w)) := by
  obtain ⟨W0, hW0⟩ : ∃ W0, W0 = (w.alloc (.cells #[.pointer (some ⟨P, 0, none⟩)] 71)).alloc (.cells #[.int .i64 d] 3) := ⟨_, rfl⟩
  have hb0 : Below w.heap.size w W0 := by rw [hW0]; exact ((Below.refl _ _).alloc (Nat.le_refl _) _).alloc (by simp) _
  have hs0 : W0.heap.size = w.heap.size + 2 := by rw [hW0]; simp
  have hg1 : W0.heap[w.heap.size]? = some (.cells #[.pointer (some ⟨P, 0, none⟩)] 71 (0, 0)) := by rw [hW0, blk_old _ _ (by simp)]; exact blk_new w _
  have hg2 : W0.heap[w.heap.size + 1]? = some (.cells #[.int .i64 d] 3 (0, 0)) := by
    rw [hW0]
    have := blk_new (w.alloc (.cells #[.pointer (some ⟨P, 0, none⟩)] 71)) (.cells #[.int .i64 d] 3)
    simpa using this
  have hlt := h.lt
  have HSe := Lib.hid (severalVs (h.on hb0) hS p hp ⟨w.heap.size, 0, none⟩ ⟨w.heap.size + 1, 0, none⟩ (fun w' l' ha hp' => values1X hp' d (p l') (by rw [ha.cell (p := ⟨w.heap.size, 0, none⟩) (by show w.heap.size < _; omega) (by show ¬ w.heap.size = P; omega)]; exact blk_cell hg1 0) (by rw [ha.cell (p := ⟨w.heap.size + 1, 0, none⟩) (by show w.heap.size + 1 < _; omega) (by show ¬ w.heap.size + 1 = P; omega)]; exact blk_cell hg2 0) (by have := ha.size; omega) (fun w'' h'' => hval w'' l' h'')))
  obtain ⟨R, hR⟩ : ∃ R, R = Tx.pseq p (l.length + 1) l := ⟨_, rfl⟩
  rw [← hR] at HSe ⊢
  have HW0 := Lib.hid hW0
  have HB0 := Lib.hid hb0
  have HA0 := Lib.hid (aside_new hb0 (fun i => i = P))
  rw [hW0] at HSe
  clear h hval hp hg1 hg2 hW0 hR hb0 hs0
  go_enter Tryz.func93, Tryz.ntmps93
  go_wp2_with fail
  refine HSe.out.mono ?_
  intro e w1 hh
  rw [← HW0.out] at hh
  cases R with
  | error er =>
    obtain ⟨ek, en⟩ := er
    obtain ⟨he, ha1⟩ := hh.bad
    subst he
    have HA1 := Lib.hid (HA0.out.trans ha1 (fun _ _ h => h))
    clear hh ha1 HSe
    go_wp2
    exact ⟨rfl, rfl, HA1.out⟩
  | ok z =>
    obtain ⟨xs, r⟩ := z
    obtain ⟨v1, he, hv1, hp1, ha1⟩ := hh.good
    obtain ⟨⟨us, Fs, hbu⟩, hl1⟩ := hv1.open
    subst he
    have HE : Hid (isVs w xs v1 w1 ∧ Prs w1 P S r ∧ Aside (fun i => i = P) w w1) := ⟨⟨⟨us, Fs, hbu.low HB0.out.size⟩, hl1⟩, hp1, HA0.out.trans ha1 (fun _ _ h => h)⟩
    clear hh hv1 hbu hp1 ha1 HSe
    go_wp2
    go_ret
    exact ⟨_, rfl, HE.out.1, HE.out.2.1, HE.out.2.2⟩
end Go.Proofs.YtpjcmahlnnglcaaGreatDoor
