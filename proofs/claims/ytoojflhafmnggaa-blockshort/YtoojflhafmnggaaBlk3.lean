/- Plain facts on packing: bytes that come again and again are packed into few. -/
import Derived.Test.YtoojflhafmnggaaBlk2
namespace Go.Proofs.Ytoojflhafmnggaa.Blk

theorem put_len1 (n : Nat) (h : n < 128) : (Leb.put n).length = 1 := by
  unfold Leb.put Leb.putF
  rw [if_pos h]; rfl
theorem put_len2 (n : Nat) (h : n < 16384) : (Leb.put n).length ≤ 2 := by
  unfold Leb.put Leb.putF
  split
  · simp
  · unfold Leb.putF
    rw [if_pos (by omega)]; simp

theorem last_ge (b f : List UInt8) (n j : Nat) (hj : j < n) (hf : four b j = f) : j + 1 ≤ last b f n := by
  induction n with
  | zero => omega
  | succ i ih =>
    rw [last]
    split
    · omega
    · rename_i h
      have : j ≠ i := fun e => h (by rw [← e]; exact hf)
      exact ih (by omega)
theorem chain_full {b : List UInt8} {a most f g : Nat} {m : Mt} (h : most ≤ m.size) : chain b a most f g m = m := by
  cases f with
  | zero => rfl
  | succ f =>
    cases g with
    | zero => rfl
    | succ g => rw [chain, if_pos (.inr h)]
/-- a place from which all can be taken is found -/
theorem chain_finds {b : List UInt8} {a most j : Nat} (ha : a + 4 ≤ b.length) (hm : most ≤ b.length - a) (hj : j < a) (hf : four b j = four b a) (hn : a - j ≤ 1024) (hal : alike (b.drop j) ((b.drop a).take most) = most) (f : Nat) :
    ∀ (g : Nat) (m : Mt), g ≤ f → g ≤ a → (g ≠ 0 → four b (g - 1) = four b a) → j + 1 ≤ g → m.size ≤ most → (chain b a most f g m).size = most := by
  induction f with
  | zero => intro g m h1 _ _ h2; omega
  | succ f ih =>
    intro g m h1 h2 h3 h4 h5
    cases g with
    | zero => omega
    | succ g =>
      have hfg : four b g = four b a := h3 (by omega)
      rw [chain]
      split
      · rename_i hc
        rcases hc with hc | hc
        · omega
        · omega
      · rename_i hc
        have hle := (alike_le (b.drop g) ((b.drop a).take most)).2
        have hl : ((b.drop a).take most).length = most := by rw [List.length_take, List.length_drop]; omega
        rw [hl] at hle
        by_cases e : j = g
        · subst e
          rw [hal, if_pos (by omega)]
          rw [chain_full (most := most) (m := ⟨most, a - j⟩) (Nat.le_refl most)]
        · have hah : ahead b g = last b (four b g) g := by unfold ahead; rw [if_pos (by omega)]
          have hlg := last_ge b (four b g) g j (by omega) (hf.trans hfg.symm)
          have hle2 := ahead_le b g
          refine ih _ _ (by omega) (by omega) (fun hne => ((ahead_some hne).2).trans hfg) (by omega) ?_
          split
          · exact hle
          · exact h5

/-- each byte from the place p on is the one that stands p ahead of it -/
def Period (b : List UInt8) (p : Nat) : Prop := 1 ≤ p ∧ p ≤ 1024 ∧ p ≤ b.length ∧ ∀ i, p ≤ i → i < b.length → b[i]? = b[i - p]?

theorem longest_period {b : List UInt8} {p a : Nat} (hp : Period b p) (ha : p ≤ a) (h4 : a + 4 ≤ b.length) : (longest b a).size = min (b.length - a) 255 := by
  obtain ⟨h1, h2, h3, hs⟩ := hp
  have hj : a - p < a := by omega
  have hst : ∀ i, a + i < b.length → b[a - p + i]? = b[a + i]? := fun i hi => by
    have := hs (a + i) (by omega) hi
    rw [this]
    congr 1
    omega
  have hf : four b (a - p) = four b a := by
    unfold four
    apply List.ext_getElem?
    intro k
    by_cases hk : k < 4
    · rw [List.getElem?_take_of_lt hk, List.getElem?_take_of_lt hk, List.getElem?_drop, List.getElem?_drop]
      exact hst k (by omega)
    · rw [List.getElem?_take_eq_none (by omega), List.getElem?_take_eq_none (by omega)]
  have hl : ((b.drop a).take (min (b.length - a) 255)).length = min (b.length - a) 255 := by rw [List.length_take, List.length_drop]; omega
  have hal : alike (b.drop (a - p)) ((b.drop a).take (min (b.length - a) 255)) = min (b.length - a) 255 := by
    have hle := (alike_le (b.drop (a - p)) ((b.drop a).take (min (b.length - a) 255))).2
    rw [hl] at hle
    have hge := alike_ge (b.drop (a - p)) ((b.drop a).take (min (b.length - a) 255)) (min (b.length - a) 255) (by rw [List.length_drop]; omega) (by rw [hl]; exact Nat.le_refl _) (fun i hi => by
      rw [List.getElem?_take_of_lt hi, List.getElem?_drop, List.getElem?_drop]
      exact hst i (by omega))
    omega
  have hah : ahead b a = last b (four b a) a := by unfold ahead; rw [if_pos h4]
  have hlg := last_ge b (four b a) a (a - p) hj hf
  exact chain_finds h4 (by omega) hj hf (by omega) hal a _ _ (ahead_le b a) (ahead_le b a) (fun hne => (ahead_some hne).2) (by omega) (Nat.zero_le _)

theorem longest_few {b : List UInt8} {a : Nat} (h : b.length < a + 4) : (longest b a).size = 0 := by
  unfold longest
  rw [show ahead b a = 0 by unfold ahead; rw [if_neg (by omega)]]
  cases a <;> rfl
theorem pk_few {b : List UInt8} {fr : Nat} {p : List UInt8} (k : Nat) : ∀ a, b.length - a = k → b.length < a + 4 → pk b k fr a p = putL p (b.drop fr) := by
  induction k with
  | zero => intro a _ _; rfl
  | succ k ih =>
    intro a h1 h2
    rw [pk, if_pos (by omega), if_pos (longest_few h2)]
    exact ih (a + 1) (by omega) (by omega)

theorem putL_cost (p l : List UInt8) (h : l.length ≤ 2048) : (putL p l).length ≤ p.length + l.length + 2 ∧ (l.length < 64 → (putL p l).length ≤ p.length + l.length + 1) ∧ (l.length = 0 → (putL p l).length = p.length) := by
  unfold putL
  split
  · rename_i h0
    rw [h0]; simp
  · rename_i h0
    have hpos : 0 < l.length := List.length_pos_iff.2 h0
    have h1 := put_len2 (2 * l.length) (by omega)
    simp only [List.length_append]
    refine ⟨by omega, fun h2 => ?_, fun h2 => by omega⟩
    have := put_len1 (2 * l.length) (by omega)
    omega
theorem putM_cost (p : List UInt8) (m : Mt) (hs : m.size ≤ 255) (hb : m.back ≤ 1024) : (putM p m).length ≤ p.length + 4 ∧ (m.size < 64 → (putM p m).length ≤ p.length + 3) := by
  unfold putM
  have h1 := put_len2 (2 * m.size + 1) (by omega)
  have h2 := put_len2 m.back (by omega)
  simp only [List.length_append]
  refine ⟨by omega, fun h => ?_⟩
  have := put_len1 (2 * m.size + 1) (by omega)
  omega

/-- all bytes from p on are taken, 255 at once -/
theorem pk_tail {b : List UInt8} {q : Nat} (hp : Period b q) (hb : b.length ≤ 2048) (k : Nat) : ∀ (a : Nat) (p : List UInt8), b.length - a ≤ k → q ≤ a → a ≤ b.length → (pk b (b.length - a) a a p).length ≤ p.length + 4 * ((b.length - a) / 255) + 4 := by
  induction k with
  | zero =>
    intro a p h1 h2 h3
    rw [pk_end (by omega)]
    have := putL_cost p (b.drop a) (by rw [List.length_drop]; omega)
    rw [List.length_drop] at this
    have := this.2.2 (by omega)
    omega
  | succ k ih =>
    intro a p h1 h2 h3
    by_cases h4 : a + 4 ≤ b.length
    · have hs := longest_period hp h2 h4
      have hg : Good b a (longest b a) := (longest_good b a).resolve_left (by omega)
      rw [pk_take (by omega) (by omega)]
      have hc := putM_cost (putL p ((b.drop a).take (a - a))) (longest b a) hg.most hg.near
      have hz : putL p ((b.drop a).take (a - a)) = p := by
        rw [Nat.sub_self, List.take_zero]; rfl
      rw [hz] at hc ⊢
      have hr := ih (a + (longest b a).size) (putM p (longest b a)) (by have := hg.four; omega) (by omega) hg.fits
      have hc1 := hc.1
      by_cases h5 : 255 ≤ b.length - a
      · have e : (longest b a).size = 255 := by omega
        rw [e] at hr ⊢
        have e2 : (b.length - (a + 255)) / 255 = (b.length - a) / 255 - 1 := by omega
        rw [e2] at hr
        have e3 : 1 ≤ (b.length - a) / 255 := by omega
        omega
      · have e : a + (longest b a).size = b.length := by omega
        rw [e, pk_end (Nat.le_refl _)]
        have h7 := putL_cost (putM p (longest b a)) (b.drop b.length) (by rw [List.length_drop]; omega)
        rw [List.length_drop] at h7
        have := h7.2.2 (by omega)
        omega
    · rw [pk_few _ a rfl (by omega)]
      have h7 := putL_cost p (b.drop a) (by rw [List.length_drop]; omega)
      rw [List.length_drop] at h7
      have := h7.2.1 (by omega)
      omega

/-- from the beginning -/
theorem pk_short {b : List UInt8} {q : Nat} (hp : Period b q) (hb : b.length ≤ 2048) (k : Nat) : ∀ (fr a : Nat) (p : List UInt8), q - a ≤ k → fr ≤ a → a ≤ q → 64 * p.length ≤ 64 + 65 * fr → (pk b (b.length - a) fr a p).length ≤ q + q / 64 + 11 + 4 * ((b.length - q) / 255) := by
  obtain ⟨q1, q2, q3, -⟩ := id hp
  have hdl : ∀ fr a, fr ≤ a → a ≤ b.length → ((b.drop fr).take (a - fr)).length = a - fr := fun fr a h1 h2 => by rw [List.length_take, List.length_drop]; omega
  -- a match that reaches behind q, or begins there
  have hover : ∀ (fr a : Nat) (p : List UInt8), fr ≤ a → a ≤ q → 64 * p.length ≤ 64 + 65 * fr → a < b.length → (longest b a).size ≠ 0 → q ≤ a + (longest b a).size → (pk b (b.length - a) fr a p).length ≤ q + q / 64 + 11 + 4 * ((b.length - q) / 255) := by
    intro fr a p h1 h2 h3 h4 h5 h6
    have hg : Good b a (longest b a) := (longest_good b a).resolve_left h5
    rw [pk_take h4 h5]
    have hc := (putM_cost (putL p ((b.drop fr).take (a - fr))) (longest b a) hg.most hg.near).1
    have hl := (putL_cost p ((b.drop fr).take (a - fr)) (by rw [hdl fr a h1 (by omega)]; omega)).1
    rw [hdl fr a h1 (by omega)] at hl
    have ht := pk_tail hp hb _ (a + (longest b a).size) (putM (putL p ((b.drop fr).take (a - fr))) (longest b a)) (Nat.le_refl _) h6 hg.fits
    have hd : (b.length - (a + (longest b a).size)) / 255 ≤ (b.length - q) / 255 := Nat.div_le_div_right (by omega)
    omega
  induction k with
  | zero =>
    intro fr a p h1 h2 h3 h4
    have e : a = q := by omega
    subst e
    by_cases h5 : a + 4 ≤ b.length
    · have hs := longest_period hp (Nat.le_refl _) h5
      exact hover fr a p h2 (Nat.le_refl _) h4 (by omega) (by omega) (by omega)
    · rw [pk_few _ a rfl (by omega)]
      have hl := (putL_cost p (b.drop fr) (by rw [List.length_drop]; omega)).1
      rw [List.length_drop] at hl
      omega
  | succ k ih =>
    intro fr a p h1 h2 h3 h4
    by_cases e : a = q
    · exact (by
        subst e
        by_cases h5 : a + 4 ≤ b.length
        · have hs := longest_period hp (Nat.le_refl _) h5
          exact hover fr a p h2 (Nat.le_refl _) h4 (by omega) (by omega) (by omega)
        · rw [pk_few _ a rfl (by omega)]
          have hl := (putL_cost p (b.drop fr) (by rw [List.length_drop]; omega)).1
          rw [List.length_drop] at hl
          omega)
    · by_cases h5 : (longest b a).size = 0
      · rw [pk_skip (by omega) h5]
        exact ih fr (a + 1) p (by omega) (by omega) (by omega) h4
      · by_cases h6 : q ≤ a + (longest b a).size
        · exact hover fr a p h2 h3 h4 (by omega) h5 h6
        · have hg : Good b a (longest b a) := (longest_good b a).resolve_left h5
          rw [pk_take (by omega) h5]
          have hc := putM_cost (putL p ((b.drop fr).take (a - fr))) (longest b a) hg.most hg.near
          have hl := putL_cost p ((b.drop fr).take (a - fr)) (by rw [hdl fr a h2 (by omega)]; omega)
          rw [hdl fr a h2 (by omega)] at hl
          have hf := hg.four
          refine ih _ _ _ (by omega) (Nat.le_refl _) (by omega) ?_
          have hc1 := hc.1
          have hc2 := hc.2
          have hl1 := hl.1
          have hl2 := hl.2.1
          by_cases h7 : (longest b a).size < 64
          · have := hc2 h7
            by_cases h8 : a - fr < 64
            · have := hl2 h8
              omega
            · omega
          · omega

/-- what comes again is short -/
theorem pack_short {b : List UInt8} {q : Nat} (hp : Period b q) (hb : b.length ≤ 2048) : (pack b).out.length ≤ q + q / 8 + (b.length - q) / 32 + 16 := by
  have h := pk_short hp hb q 0 0 [1] (by omega) (Nat.le_refl _) (Nat.zero_le _) (by simp)
  rw [Nat.sub_zero] at h
  have h' : (packT b).length ≤ q + q / 64 + 11 + 4 * ((b.length - q) / 255) := h
  have h2 : (pack b).out.length ≤ (packT b).length := by
    unfold pack
    rw [if_neg (by omega)]
    split
    · exact Nat.le_refl _
    · show (0 :: b).length ≤ _
      simp; omega
  have e1 : q / 64 ≤ q / 8 := by omega
  have e2 : 4 * ((b.length - q) / 255) ≤ (b.length - q) / 32 := by omega
  omega
end Go.Proofs.Ytoojflhafmnggaa.Blk
