/- Dec, KUtf: put together. -/
import Derived.Test.YtohgmkgclgoflaaDoorM06
import Derived.Laws.RangeAny
import Derived.Test.YtohgmkgclgoflaaDoorM08

/- Plain: what a range over a string tells at a place, and right UTF-8 there. -/
namespace Go.Proofs.YtohgmkgclgoflaaDoor
open Go

/-- the k-th byte from a place on -/
theorem get_drop {s : ByteArray} {pos k : Nat} {l : List UInt8} (hl : s.data.toList.drop pos = l) (hk : k < l.length) : pos + k < s.size ∧ s.get! (pos + k) = l[k] := by
  subst hl
  have h0 : pos + k < s.size := by
    rw [List.length_drop, Array.length_toList] at hk
    show pos + k < s.data.size
    omega
  refine ⟨h0, ?_⟩
  rw [List.getElem_drop, Array.getElem_toList]
  exact get_at s (pos + k) h0
theorem size_drop {s : ByteArray} {pos : Nat} {l : List UInt8} (hl : s.data.toList.drop pos = l) (hp : pos ≤ s.size) : s.size = pos + l.length := by
  subst hl
  rw [List.length_drop, Array.length_toList]
  show s.data.size = _
  have : pos ≤ s.data.size := hp
  omega

theorem dec_eq (s : ByteArray) (i : Nat) : Utf8.decode s i = (let at' (k : Nat) : Nat := (s.get! (i + k)).toNat
  let cont (k : Nat) : Bool := i + k < s.size && at' k / 64 == 2
  let b0 := at' 0
  if b0 < 0x80 then (b0, 1)
  else if b0 / 32 == 6 && cont 1 then
    let c := (b0 % 32) * 64 + at' 1 % 64
    if c ≥ 0x80 then (c, 2) else (Utf8.runeError, 1)
  else if b0 / 16 == 14 && cont 1 && cont 2 then
    let c := (b0 % 16) * 4096 + (at' 1 % 64) * 64 + at' 2 % 64
    if c ≥ 0x800 && Utf8.valid c then (c, 3) else (Utf8.runeError, 1)
  else if b0 / 8 == 30 && cont 1 && cont 2 && cont 3 then
    let c := (b0 % 8) * 262144 + (at' 1 % 64) * 4096 + (at' 2 % 64) * 64 + at' 3 % 64
    if c ≥ 0x10000 && Utf8.valid c then (c, 4) else (Utf8.runeError, 1)
  else (Utf8.runeError, 1)) := rfl

theorem valid_may (c least : Nat) : (Utf8.valid c && decide (least ≤ c)) = U8.may least c := by
  unfold Utf8.valid U8.may
  rw [Bool.eq_iff_iff]
  simp only [Bool.and_eq_true, Bool.or_eq_true, decide_eq_true_eq, Bool.not_eq_true', Bool.and_eq_false_iff, decide_eq_false_iff_not]
  omega

/-- one character, told by its bytes -/
def dec : List UInt8 → Nat × Nat
  | [] => (65533, 1)
  | c0 :: r =>
    if c0.toNat < 128 then (c0.toNat, 1)
    else match r with
      | [] => (65533, 1)
      | c1 :: r1 =>
        if 192 ≤ c0.toNat ∧ c0.toNat < 224 then (if (128 ≤ c1.toNat ∧ c1.toNat < 192) ∧ 128 ≤ (c0.toNat - 192) * 64 + c1.toNat - 128 then ((c0.toNat - 192) * 64 + c1.toNat - 128, 2) else (65533, 1))
        else match r1 with
          | [] => (65533, 1)
          | c2 :: r2 =>
            if 224 ≤ c0.toNat ∧ c0.toNat < 240 then (if (128 ≤ c1.toNat ∧ c1.toNat < 192) ∧ (128 ≤ c2.toNat ∧ c2.toNat < 192) ∧ U8.may 2048 (((c0.toNat - 224) * 64 + c1.toNat - 128) * 64 + c2.toNat - 128) then (((c0.toNat - 224) * 64 + c1.toNat - 128) * 64 + c2.toNat - 128, 3) else (65533, 1))
            else match r2 with
              | [] => (65533, 1)
              | c3 :: _ =>
                if 240 ≤ c0.toNat ∧ c0.toNat < 248 then (if (128 ≤ c1.toNat ∧ c1.toNat < 192) ∧ (128 ≤ c2.toNat ∧ c2.toNat < 192) ∧ (128 ≤ c3.toNat ∧ c3.toNat < 192) ∧ U8.may 65536 ((((c0.toNat - 240) * 64 + c1.toNat - 128) * 64 + c2.toNat - 128) * 64 + c3.toNat - 128) then ((((c0.toNat - 240) * 64 + c1.toNat - 128) * 64 + c2.toNat - 128) * 64 + c3.toNat - 128, 4) else (65533, 1))
                else (65533, 1)

theorem lead2 (c : UInt8) : (c.toNat / 32 == 6) = decide (192 ≤ c.toNat ∧ c.toNat < 224) := by rw [Bool.eq_iff_iff]; simp; omega
theorem lead3 (c : UInt8) : (c.toNat / 16 == 14) = decide (224 ≤ c.toNat ∧ c.toNat < 240) := by rw [Bool.eq_iff_iff]; simp; omega
theorem lead4 (c : UInt8) : (c.toNat / 8 == 30) = decide (240 ≤ c.toNat ∧ c.toNat < 248) := by rw [Bool.eq_iff_iff]; simp; omega
theorem follows (c : UInt8) : (c.toNat / 64 == 2) = decide (128 ≤ c.toNat ∧ c.toNat < 192) := by rw [Bool.eq_iff_iff]; simp; omega

theorem decode_dec {s : ByteArray} {pos : Nat} {l : List UInt8} (hl : s.data.toList.drop pos = l) (hp : pos < s.size) : Utf8.decode s pos = dec l := by
  have hsz := size_drop hl (Nat.le_of_lt hp)
  have er : Utf8.runeError = 65533 := rfl
  match l, hl, hsz with
  | [], _, h => simp at h; omega
  | [c0], hl, hsz =>
    have g0 := (get_drop hl (k := 0) (by simp)).2
    have n1 : decide (pos + 1 < s.size) = false := decide_eq_false (by simp at hsz; omega)
    have n2 : decide (pos + 2 < s.size) = false := decide_eq_false (by simp at hsz; omega)
    have n3 : decide (pos + 3 < s.size) = false := decide_eq_false (by simp at hsz; omega)
    simp only [List.getElem_cons_zero] at g0
    rw [dec_eq]
    simp only [g0, n1, Bool.false_and, Bool.and_false, Bool.false_eq_true, if_false, er]
    unfold dec
    rfl
  | [c0, c1], hl, hsz =>
    have g0 := (get_drop hl (k := 0) (by simp)).2
    have g1 := (get_drop hl (k := 1) (by simp)).2
    have n1 : decide (pos + 1 < s.size) = true := decide_eq_true (by simp at hsz; omega)
    have n2 : decide (pos + 2 < s.size) = false := decide_eq_false (by simp at hsz; omega)
    simp only [List.getElem_cons_zero, List.getElem_cons_succ] at g0 g1
    rw [dec_eq]
    simp only [g0, g1, n1, n2, Bool.false_and, Bool.and_false, Bool.true_and, Bool.false_eq_true, if_false, er, lead2, follows]
    simp only [dec]
    by_cases h0 : c0.toNat < 128
    · rw [if_pos h0, if_pos h0]
    · rw [if_neg h0, if_neg h0]
      by_cases h1 : 192 ≤ c0.toNat ∧ c0.toNat < 224
      · by_cases h2 : 128 ≤ c1.toNat ∧ c1.toNat < 192
        · rw [if_pos (by simp [h1, h2]), if_pos h1]
          have e : c0.toNat % 32 * 64 + c1.toNat % 64 = (c0.toNat - 192) * 64 + c1.toNat - 128 := by omega
          rw [e]
          by_cases h3 : 128 ≤ (c0.toNat - 192) * 64 + c1.toNat - 128
          · rw [if_pos h3, if_pos ⟨h2, h3⟩]
          · rw [if_neg h3, if_neg (fun hc => h3 hc.2)]
        · rw [if_neg (by simp [h2]), if_pos h1, if_neg (fun hc => h2 hc.1)]
      · rw [if_neg (by simp [h1]), if_neg h1]
  | [c0, c1, c2], hl, hsz =>
    have g0 := (get_drop hl (k := 0) (by simp)).2
    have g1 := (get_drop hl (k := 1) (by simp)).2
    have g2 := (get_drop hl (k := 2) (by simp)).2
    have n1 : decide (pos + 1 < s.size) = true := decide_eq_true (by simp at hsz; omega)
    have n2 : decide (pos + 2 < s.size) = true := decide_eq_true (by simp at hsz; omega)
    have n3 : decide (pos + 3 < s.size) = false := decide_eq_false (by simp at hsz; omega)
    simp only [List.getElem_cons_zero, List.getElem_cons_succ] at g0 g1 g2
    rw [dec_eq]
    simp only [g0, g1, g2, n1, n2, n3, Bool.false_and, Bool.and_false, Bool.true_and, Bool.false_eq_true, if_false, er, lead2, lead3, follows]
    simp only [dec]
    by_cases h0 : c0.toNat < 128
    · rw [if_pos h0, if_pos h0]
    · rw [if_neg h0, if_neg h0]
      by_cases h1 : 192 ≤ c0.toNat ∧ c0.toNat < 224
      · by_cases h2 : 128 ≤ c1.toNat ∧ c1.toNat < 192
        · rw [if_pos (by simp [h1, h2]), if_pos h1]
          have e : c0.toNat % 32 * 64 + c1.toNat % 64 = (c0.toNat - 192) * 64 + c1.toNat - 128 := by omega
          rw [e]
          by_cases h3 : 128 ≤ (c0.toNat - 192) * 64 + c1.toNat - 128
          · rw [if_pos h3, if_pos ⟨h2, h3⟩]
          · rw [if_neg h3, if_neg (fun hc => h3 hc.2)]
        · rw [if_neg (by simp [h2]), if_neg (by simp [h2]), if_pos h1, if_neg (fun hc => h2 hc.1)]
      · rw [if_neg (by simp [h1]), if_neg h1]
        by_cases h4 : 224 ≤ c0.toNat ∧ c0.toNat < 240
        · rw [if_pos h4]
          by_cases h2 : (128 ≤ c1.toNat ∧ c1.toNat < 192) ∧ 128 ≤ c2.toNat ∧ c2.toNat < 192
          · rw [if_pos (by simp [h4, h2])]
            have e : c0.toNat % 16 * 4096 + c1.toNat % 64 * 64 + c2.toNat % 64 = ((c0.toNat - 224) * 64 + c1.toNat - 128) * 64 + c2.toNat - 128 := by omega
            rw [e]
            have hv := valid_may (((c0.toNat - 224) * 64 + c1.toNat - 128) * 64 + c2.toNat - 128) 2048
            by_cases h3 : U8.may 2048 (((c0.toNat - 224) * 64 + c1.toNat - 128) * 64 + c2.toNat - 128) = true
            · rw [if_pos (by rw [Bool.and_comm, ← h3]; exact hv), if_pos ⟨h2.1, h2.2, h3⟩]
            · rw [if_neg (by rw [Bool.and_comm]; exact fun hc => h3 (hv.symm.trans hc)), if_neg (fun hc => h3 hc.2.2)]
          · rw [if_neg (by simp only [Bool.and_eq_true, decide_eq_true_eq]; exact fun hc => h2 ⟨hc.1.2, hc.2⟩), if_neg (fun hc => h2 ⟨hc.1, hc.2.1⟩)]
        · rw [if_neg (by simp [h4]), if_neg h4]
  | c0 :: c1 :: c2 :: c3 :: t, hl, hsz =>
    have g0 := (get_drop hl (k := 0) (by simp)).2
    have g1 := (get_drop hl (k := 1) (by simp)).2
    have g2 := (get_drop hl (k := 2) (by simp)).2
    have g3 := (get_drop hl (k := 3) (by simp)).2
    have n1 : decide (pos + 1 < s.size) = true := decide_eq_true (by simp at hsz; omega)
    have n2 : decide (pos + 2 < s.size) = true := decide_eq_true (by simp at hsz; omega)
    have n3 : decide (pos + 3 < s.size) = true := decide_eq_true (by simp at hsz; omega)
    simp only [List.getElem_cons_zero, List.getElem_cons_succ] at g0 g1 g2 g3
    rw [dec_eq]
    simp only [g0, g1, g2, g3, n1, n2, n3, Bool.true_and, er, lead2, lead3, lead4, follows]
    simp only [dec]
    by_cases h0 : c0.toNat < 128
    · rw [if_pos h0, if_pos h0]
    · rw [if_neg h0, if_neg h0]
      by_cases h1 : 192 ≤ c0.toNat ∧ c0.toNat < 224
      · have h4 : ¬ (224 ≤ c0.toNat ∧ c0.toNat < 240) := by omega
        have h5 : ¬ (240 ≤ c0.toNat ∧ c0.toNat < 248) := by omega
        by_cases h2 : 128 ≤ c1.toNat ∧ c1.toNat < 192
        · rw [if_pos (by simp [h1, h2]), if_pos h1]
          have e : c0.toNat % 32 * 64 + c1.toNat % 64 = (c0.toNat - 192) * 64 + c1.toNat - 128 := by omega
          rw [e]
          by_cases h3 : 128 ≤ (c0.toNat - 192) * 64 + c1.toNat - 128
          · rw [if_pos h3, if_pos ⟨h2, h3⟩]
          · rw [if_neg h3, if_neg (fun hc => h3 hc.2)]
        · rw [if_neg (by simp [h2]), if_neg (by simp [h4]), if_neg (by simp [h5]), if_pos h1, if_neg (fun hc => h2 hc.1)]
      · rw [if_neg (by simp [h1]), if_neg h1]
        by_cases h4 : 224 ≤ c0.toNat ∧ c0.toNat < 240
        · have h5 : ¬ (240 ≤ c0.toNat ∧ c0.toNat < 248) := by omega
          rw [if_pos h4]
          by_cases h2 : (128 ≤ c1.toNat ∧ c1.toNat < 192) ∧ 128 ≤ c2.toNat ∧ c2.toNat < 192
          · rw [if_pos (by simp [h4, h2])]
            have e : c0.toNat % 16 * 4096 + c1.toNat % 64 * 64 + c2.toNat % 64 = ((c0.toNat - 224) * 64 + c1.toNat - 128) * 64 + c2.toNat - 128 := by omega
            rw [e]
            have hv := valid_may (((c0.toNat - 224) * 64 + c1.toNat - 128) * 64 + c2.toNat - 128) 2048
            by_cases h3 : U8.may 2048 (((c0.toNat - 224) * 64 + c1.toNat - 128) * 64 + c2.toNat - 128) = true
            · rw [if_pos (by rw [Bool.and_comm, ← h3]; exact hv), if_pos ⟨h2.1, h2.2, h3⟩]
            · rw [if_neg (by rw [Bool.and_comm]; exact fun hc => h3 (hv.symm.trans hc)), if_neg (fun hc => h3 hc.2.2)]
          · rw [if_neg (by simp only [Bool.and_eq_true, decide_eq_true_eq]; exact fun hc => h2 ⟨hc.1.2, hc.2⟩), if_neg (by simp [h5]), if_neg (fun hc => h2 ⟨hc.1, hc.2.1⟩)]
        · rw [if_neg (by simp [h4]), if_neg h4]
          by_cases h5 : 240 ≤ c0.toNat ∧ c0.toNat < 248
          · rw [if_pos h5]
            by_cases h2 : (128 ≤ c1.toNat ∧ c1.toNat < 192) ∧ (128 ≤ c2.toNat ∧ c2.toNat < 192) ∧ 128 ≤ c3.toNat ∧ c3.toNat < 192
            · rw [if_pos (by simp [h5, h2])]
              have e : c0.toNat % 8 * 262144 + c1.toNat % 64 * 4096 + c2.toNat % 64 * 64 + c3.toNat % 64 = (((c0.toNat - 240) * 64 + c1.toNat - 128) * 64 + c2.toNat - 128) * 64 + c3.toNat - 128 := by omega
              rw [e]
              have hv := valid_may ((((c0.toNat - 240) * 64 + c1.toNat - 128) * 64 + c2.toNat - 128) * 64 + c3.toNat - 128) 65536
              by_cases h3 : U8.may 65536 ((((c0.toNat - 240) * 64 + c1.toNat - 128) * 64 + c2.toNat - 128) * 64 + c3.toNat - 128) = true
              · rw [if_pos (by rw [Bool.and_comm, ← h3]; exact hv), if_pos ⟨h2.1, h2.2.1, h2.2.2, h3⟩]
              · rw [if_neg (by rw [Bool.and_comm]; exact fun hc => h3 (hv.symm.trans hc)), if_neg (fun hc => h3 hc.2.2.2)]
            · rw [if_neg (by simp only [Bool.and_eq_true, decide_eq_true_eq]; exact fun hc => h2 ⟨hc.1.1.2, hc.1.2, hc.2⟩), if_neg (fun hc => h2 ⟨hc.1, hc.2.1, hc.2.2.1⟩)]
          · rw [if_neg (by simp [h5]), if_neg h5]

theorem may_low {v : Nat} (h : v < 2048) (least : Nat) : U8.may least v = decide (least ≤ v) := by
  unfold U8.may
  rw [Bool.eq_iff_iff]
  simp only [Bool.and_eq_true, decide_eq_true_eq, Bool.not_eq_true', Bool.and_eq_false_iff, decide_eq_false_iff_not]
  omega
theorem kind1 {c : Nat} (h : c < 128) : U8.kind c = some (1, c, 0) := by unfold U8.kind; rw [if_pos h]
theorem kind2 {c : Nat} (h : 192 ≤ c ∧ c < 224) : U8.kind c = some (2, c - 192, 128) := by unfold U8.kind; rw [if_neg (by omega), if_pos h]
theorem kind3 {c : Nat} (h : 224 ≤ c ∧ c < 240) : U8.kind c = some (3, c - 224, 2048) := by unfold U8.kind; rw [if_neg (by omega), if_neg (by omega), if_pos h]
theorem kind4 {c : Nat} (h : 240 ≤ c ∧ c < 248) : U8.kind c = some (4, c - 240, 65536) := by unfold U8.kind; rw [if_neg (by omega), if_neg (by omega), if_neg (by omega), if_pos h]
theorem kind0 {c : Nat} (h1 : ¬ c < 128) (h2 : ¬ (192 ≤ c ∧ c < 224)) (h3 : ¬ (224 ≤ c ∧ c < 240)) (h4 : ¬ (240 ≤ c ∧ c < 248)) : U8.kind c = none := by unfold U8.kind; rw [if_neg h1, if_neg h2, if_neg h3, if_neg h4]

/-- what is told at a place: there is no right character: the mark, one byte on -/
theorem dec_bad {l : List UInt8} (h : U8.one l = none) : dec l = (65533, 1) := by
  match l, h with
  | [], _ => rfl
  | c0 :: r, h =>
    simp only [U8.one] at h
    by_cases h0 : c0.toNat < 128
    · rw [kind1 h0] at h
      simp [U8.conts, may_low (show c0.toNat < 2048 by omega)] at h
    · by_cases h1 : 192 ≤ c0.toNat ∧ c0.toNat < 224
      · rw [kind2 h1] at h
        match r, h with
        | [], _ => simp [dec, h0]
        | c1 :: r1, h =>
          simp only [dec]
          rw [if_neg h0, if_pos h1]
          by_cases h2 : 128 ≤ c1.toNat ∧ c1.toNat < 192
          · simp only [U8.conts, if_pos h2, may_low (show (c0.toNat - 192) * 64 + c1.toNat - 128 < 2048 by omega)] at h
            by_cases h3 : 128 ≤ (c0.toNat - 192) * 64 + c1.toNat - 128
            · simp [h3] at h
            · rw [if_neg (fun hc => h3 hc.2)]
          · rw [if_neg (fun hc => h2 hc.1)]
      · by_cases h4 : 224 ≤ c0.toNat ∧ c0.toNat < 240
        · rw [kind3 h4] at h
          match r, h with
          | [], _ => simp [dec, h0]
          | [c1], _ => simp [dec, h0, h1]
          | c1 :: c2 :: r2, h =>
            simp only [dec]
            rw [if_neg h0, if_neg h1, if_pos h4]
            by_cases h2 : 128 ≤ c1.toNat ∧ c1.toNat < 192
            · by_cases h3 : 128 ≤ c2.toNat ∧ c2.toNat < 192
              · simp only [U8.conts, if_pos h2, if_pos h3] at h
                by_cases h5 : U8.may 2048 (((c0.toNat - 224) * 64 + c1.toNat - 128) * 64 + c2.toNat - 128) = true
                · simp [h5] at h
                · rw [if_neg (fun hc => h5 hc.2.2)]
              · rw [if_neg (fun hc => h3 hc.2.1)]
            · rw [if_neg (fun hc => h2 hc.1)]
        · by_cases h6 : 240 ≤ c0.toNat ∧ c0.toNat < 248
          · rw [kind4 h6] at h
            match r, h with
            | [], _ => simp [dec, h0]
            | [c1], _ => simp [dec, h0, h1]
            | [c1, c2], _ => simp [dec, h0, h1, h4]
            | c1 :: c2 :: c3 :: r3, h =>
              simp only [dec]
              rw [if_neg h0, if_neg h1, if_neg h4, if_pos h6]
              by_cases h2 : 128 ≤ c1.toNat ∧ c1.toNat < 192
              · by_cases h3 : 128 ≤ c2.toNat ∧ c2.toNat < 192
                · by_cases h7 : 128 ≤ c3.toNat ∧ c3.toNat < 192
                  · simp only [U8.conts, if_pos h2, if_pos h3, if_pos h7] at h
                    by_cases h5 : U8.may 65536 ((((c0.toNat - 240) * 64 + c1.toNat - 128) * 64 + c2.toNat - 128) * 64 + c3.toNat - 128) = true
                    · simp [h5] at h
                    · rw [if_neg (fun hc => h5 hc.2.2.2)]
                  · rw [if_neg (fun hc => h7 hc.2.2.1)]
                · rw [if_neg (fun hc => h3 hc.2.1)]
              · rw [if_neg (fun hc => h2 hc.1)]
          · match r with
            | [] => simp [dec, h0]
            | [c1] => simp [dec, h0, h1]
            | [c1, c2] => simp [dec, h0, h1, h4]
            | c1 :: c2 :: c3 :: r3 => simp [dec, h0, h1, h4, h6]

/-- there is one: as many bytes on as it has; the mark itself has three -/
theorem dec_good {l : List UInt8} {n : Nat} (h : U8.one l = some n) : (dec l).2 = n ∧ ((dec l).1 = 65533 → n = 3 ∧ l.take 3 = [239, 191, 189]) ∧ (dec l).1 ≤ 1114111 := by
  match l, h with
  | [], h => simp [U8.one] at h
  | c0 :: r, h =>
    simp only [U8.one] at h
    by_cases h0 : c0.toNat < 128
    · rw [kind1 h0] at h
      have hm : U8.may 0 c0.toNat = true := by rw [may_low (by omega)]; simp
      have hn : n = 1 := by simpa [U8.conts, hm] using h.symm
      subst hn
      have hd : dec (c0 :: r) = (c0.toNat, 1) := by simp [dec, h0]
      rw [hd]
      exact ⟨rfl, fun hc => by simp only at hc; omega, by simp only; omega⟩
    · by_cases h1 : 192 ≤ c0.toNat ∧ c0.toNat < 224
      · rw [kind2 h1] at h
        match r, h with
        | [], h => simp [U8.conts] at h
        | c1 :: r1, h =>
          simp only [dec]
          rw [if_neg h0, if_pos h1]
          by_cases h2 : 128 ≤ c1.toNat ∧ c1.toNat < 192
          · simp only [U8.conts, if_pos h2, may_low (show (c0.toNat - 192) * 64 + c1.toNat - 128 < 2048 by omega)] at h
            by_cases h3 : 128 ≤ (c0.toNat - 192) * 64 + c1.toNat - 128
            · simp only [h3, decide_true, if_true, Option.some.injEq] at h
              rw [if_pos ⟨h2, h3⟩]
              exact ⟨h, fun hc => by omega, by simp only; omega⟩
            · simp [h3] at h
          · simp only [U8.conts, if_neg h2] at h
            cases h
      · by_cases h4 : 224 ≤ c0.toNat ∧ c0.toNat < 240
        · rw [kind3 h4] at h
          match r, h with
          | [], h => simp [U8.conts] at h
          | [c1], h =>
            by_cases h2 : 128 ≤ c1.toNat ∧ c1.toNat < 192
            · simp only [U8.conts, if_pos h2] at h
              cases h
            · simp only [U8.conts, if_neg h2] at h
              cases h
          | c1 :: c2 :: r2, h =>
            simp only [dec]
            rw [if_neg h0, if_neg h1, if_pos h4]
            by_cases h2 : 128 ≤ c1.toNat ∧ c1.toNat < 192
            · by_cases h3 : 128 ≤ c2.toNat ∧ c2.toNat < 192
              · simp only [U8.conts, if_pos h2, if_pos h3] at h
                by_cases h5 : U8.may 2048 (((c0.toNat - 224) * 64 + c1.toNat - 128) * 64 + c2.toNat - 128) = true
                · rw [if_pos h5] at h
                  simp only [Option.some.injEq] at h
                  rw [if_pos ⟨h2, h3, h5⟩]
                  refine ⟨h, fun hc => ⟨h.symm, ?_⟩, by simp only; omega⟩
                  simp only at hc
                  have e0 : c0 = 239 := UInt8.toNat_inj.1 (by simp; omega)
                  have e1 : c1 = 191 := UInt8.toNat_inj.1 (by simp; omega)
                  have e2 : c2 = 189 := UInt8.toNat_inj.1 (by simp; omega)
                  rw [e0, e1, e2]
                  rfl
                · rw [if_neg h5] at h
                  cases h
              · simp only [U8.conts, if_pos h2, if_neg h3] at h
                cases h
            · simp only [U8.conts, if_neg h2] at h
              cases h
        · by_cases h6 : 240 ≤ c0.toNat ∧ c0.toNat < 248
          · rw [kind4 h6] at h
            match r, h with
            | [], h => simp [U8.conts] at h
            | [c1], h =>
              by_cases h2 : 128 ≤ c1.toNat ∧ c1.toNat < 192
              · simp only [U8.conts, if_pos h2] at h
                cases h
              · simp only [U8.conts, if_neg h2] at h
                cases h
            | [c1, c2], h =>
              by_cases h2 : 128 ≤ c1.toNat ∧ c1.toNat < 192
              · by_cases h3 : 128 ≤ c2.toNat ∧ c2.toNat < 192
                · simp only [U8.conts, if_pos h2, if_pos h3] at h
                  cases h
                · simp only [U8.conts, if_pos h2, if_neg h3] at h
                  cases h
              · simp only [U8.conts, if_neg h2] at h
                cases h
            | c1 :: c2 :: c3 :: r3, h =>
              simp only [dec]
              rw [if_neg h0, if_neg h1, if_neg h4, if_pos h6]
              by_cases h2 : 128 ≤ c1.toNat ∧ c1.toNat < 192
              · by_cases h3 : 128 ≤ c2.toNat ∧ c2.toNat < 192
                · by_cases h7 : 128 ≤ c3.toNat ∧ c3.toNat < 192
                  · simp only [U8.conts, if_pos h2, if_pos h3, if_pos h7] at h
                    by_cases h5 : U8.may 65536 ((((c0.toNat - 240) * 64 + c1.toNat - 128) * 64 + c2.toNat - 128) * 64 + c3.toNat - 128) = true
                    · rw [if_pos h5] at h
                      simp only [Option.some.injEq] at h
                      rw [if_pos ⟨h2, h3, h7, h5⟩]
                      have h8 := h5
                      unfold U8.may at h8
                      simp only [Bool.and_eq_true, decide_eq_true_eq] at h8
                      exact ⟨h, fun hc => by simp only at hc; omega, h8.1.2⟩
                    · rw [if_neg h5] at h
                      cases h
                  · simp only [U8.conts, if_pos h2, if_pos h3, if_neg h7] at h
                    cases h
                · simp only [U8.conts, if_pos h2, if_neg h3] at h
                  cases h
              · simp only [U8.conts, if_neg h2] at h
                cases h
          · rw [kind0 h0 h1 h4 h6] at h
            cases h
end Go.Proofs.YtohgmkgclgoflaaDoor

/- Package value's Utf: a range over the text that tells the character fffd from a byte that belongs to none. -/
namespace Go.Proofs.YtohgmkgclgoflaaDoor
open Go.RowKit

theorem one_mark {l : List UInt8} (h : l.take 3 = [239, 191, 189]) : U8.one l = some 3 := by
  match l, h with
  | [], h => simp at h
  | [_], h => simp at h
  | [_, _], h => simp at h
  | a :: b :: c :: r, h =>
    simp only [List.take_succ_cons, List.take_zero, List.cons.injEq, and_true] at h
    obtain ⟨rfl, rfl, rfl⟩ := h
    simp [U8.one, U8.kind, U8.conts, U8.may]
theorem ext0 (t : ByteArray) : (t.extract 0 3).toList = t.data.toList.take 3 := by
  rw [ByteArray.toList_eq, ByteArray.data_extract, Array.toList_extract]
  simp
theorem extPos (t : ByteArray) (pos : Nat) : (t.extract pos t.size).data.toList = t.data.toList.drop pos := by
  rw [ByteArray.data_extract, Array.toList_extract]
  simp
  exact List.take_of_length_le (by simp [List.length_drop])

/-- a text begins with the character fffd -/
def markB (t : ByteArray) : Bool := decide (t.data.toList.take 3 = [239, 191, 189])

set_option maxRecDepth 100000 in
set_option maxHeartbeats 400000 in
theorem lite_mark (t : ByteArray) (ht : t.size ≤ 281474976702464) (w : World) : Calls Tryd.prog 68 #[.string t, .string ⟨#[239, 191, 189]⟩] w fun e w' => e = .returned (.bool (markB t)) ∧ w' = w := by
  by_cases h3 : t.size < 3
  · have h3' : ¬ (3 : Int) ≤ (t.size : Int) := by omega
    have HM : Hid (markB t = false) := by
      show decide _ = false
      rw [decide_eq_false_iff_not]
      intro hc
      have := congrArg List.length hc
      rw [List.length_take, Array.length_toList] at this
      have h4 : t.data.size = t.size := rfl
      simp at this
      omega
    go_enter Tryd.func68, Tryd.ntmps68
    go_wp2
    go_ret
    exact ⟨by rw [HM.out]; rfl, rfl⟩
  · have h3' : (3 : Int) ≤ (t.size : Int) := by omega
    have h3n : 3 ≤ t.size := by omega
    obtain ⟨r, hr⟩ : ∃ r, ((t.extract 0 3).toList == [239, 191, 189]) = r := ⟨_, rfl⟩
    have HM : Hid (markB t = r) := by
      show decide _ = r
      rw [← hr, ext0]
      rw [Bool.eq_iff_iff]
      simp
    go_enter Tryd.func68, Tryd.ntmps68
    go_wp2
    go_ret
    exact ⟨by rw [HM.out]; rfl, rfl⟩

set_option maxHeartbeats 400000 in
theorem has_mark (t : ByteArray) (ht : t.size ≤ 281474976702464) (w : World) : Calls Tryd.prog 64 #[.string t, .string ⟨#[239, 191, 189]⟩] w fun e w' => e = .returned (.bool (markB t)) ∧ w' = w := by
  have HC := Lib.hid (lite_mark t ht w)
  go_enter Tryd.func64, Tryd.ntmps64
  go_wp2_with fail
  refine HC.out.mono ?_
  rintro e w1 ⟨rfl, hw1⟩
  rw [hw1]
  clear hw1 w1
  go_wp2
  go_ret
  exact ⟨rfl, rfl⟩

set_option maxRecDepth 100000 in
set_option maxHeartbeats 1000000 in
theorem utfK (t : ByteArray) (ht : t.size ≤ 281474976702464) (w : World) : Calls Tryd.prog 60 #[.string t] w fun e w' => e = .returned (.bool (utfT t)) ∧ Below w.heap.size w w' := by
  obtain ⟨L, hL⟩ : ∃ L, L = t.data.toList := ⟨_, rfl⟩
  have HR : Hid (utfT t = U8.utf L) := by show _ = _; rw [hL]; rfl
  have HL := Lib.hid hL
  have HIt : Hid (∀ k pos, ((w.drewN k).iter t pos).iterPos w.heap.size = pos) := fun k pos => World.iterPos_iter (w.drewN k) t pos
  have HBl : Hid (∀ k pos, Below w.heap.size w ((w.drewN k).iter t pos)) := fun k pos => (below_drewN (Below.refl _ _) k).alloc (Nat.le_refl _) _
  clear hL
  have HSz : Hid (t.size = L.length) := by show _ = _; rw [HL.out, Array.length_toList]; rfl
  have HHas : Hid (∀ pos w', pos ≤ t.size → Calls Tryd.prog 64 #[.string (t.extract pos t.size), .string ⟨#[239, 191, 189]⟩] w' fun e w'' => e = .returned (.bool (decide ((L.drop pos).take 3 = [239, 191, 189]))) ∧ w'' = w') := by
    intro pos w' hp
    have h := has_mark (t.extract pos t.size) (by rw [ByteArray.size_extract]; omega) w'
    unfold markB at h
    rw [extPos, ← HL.out] at h
    exact h
  go_enter Tryd.func60, Tryd.ntmps60
  go_wp2
  go_loopw [3, 4] (fun _ _ wr => ∃ pos k : Nat, pos ≤ t.size ∧ wr = (w.drewN k).iter t pos ∧ Hid (U8.utf L = U8.utf (L.drop pos))) (fun _ _ wr => t.size - wr.iterPos w.heap.size)
  case atStart => exact ⟨0, 0, by omega, rfl, by show _ = _; rw [List.drop_zero]⟩
  case round =>
    obtain ⟨pos, k, hp, rfl, HU⟩ := hrel
    by_cases hlt : pos < t.size
    · have hnx : ∀ ty, (Instr.next (.pointer (some ⟨w.heap.size, 0, none⟩)) true ty).run Tryd.prog ((w.drewN k).iter t pos) = .ok (.tuple #[.bool true, .int .i64 pos, .int .i32 (Utf8.decode t pos).1]) ((w.drewN k).iter t (pos + (Utf8.decode t pos).2)) := fun ty => run_next_any (P := Tryd.prog) (w.drewN k) t pos ty hlt
      obtain ⟨l, hl⟩ : ∃ l, l = L.drop pos := ⟨_, rfl⟩
      have hdl : t.data.toList.drop pos = l := by rw [hl, HL.out]
      have hlen : l.length = t.size - pos := by rw [hl, List.length_drop, HSz.out]
      obtain ⟨m, hm⟩ : ∃ m, m = decide (l.take 3 = [239, 191, 189]) := ⟨_, rfl⟩
      have HC : Hid (∀ w', Calls Tryd.prog 64 #[.string (t.extract pos t.size), .string ⟨#[239, 191, 189]⟩] w' fun e w'' => e = .returned (.bool m) ∧ w'' = w') := by
        intro w'
        rw [hm, hl]
        exact HHas.out pos w' hp
      cases ho : U8.one l with
      | none =>
        have hd : Utf8.decode t pos = (65533, 1) := (decode_dec hdl hlt).trans (dec_bad ho)
        rw [hd] at hnx
        have HF : Hid (U8.utf L = false) := by show _ = _; rw [HU.out, ← hl]; exact U8.utf_bad (fun hc => by rw [hc] at hlen; simp at hlen; omega) ho
        have hm0 : m = false := by
          rw [hm, decide_eq_false_iff_not]
          intro hc
          rw [one_mark hc] at ho
          cases ho
        subst hm0
        clear hd hl hdl ho HU hm
        go_wp2_with fail
        refine (HC.out _).mono ?_
        rintro e w1 ⟨rfl, hw1⟩
        rw [hw1]
        clear hw1 w1
        go_wp2
        go_ret
        exact ⟨by rw [HR.out, HF.out]; rfl, HBl.out _ _⟩
      | some n =>
        obtain ⟨cc, hcc⟩ : ∃ cc, cc = (dec l).1 := ⟨_, rfl⟩
        obtain ⟨hg1, hg2, hg3⟩ := dec_good ho
        have hd : Utf8.decode t pos = (cc, n) := by rw [decode_dec hdl hlt, hcc, ← hg1]
        rw [hd] at hnx
        have hn := U8.one_len ho
        have HN : Hid (U8.utf L = U8.utf (L.drop (pos + n))) := by show _ = _; rw [HU.out, ← hl, U8.utf_step ho, hl, List.drop_drop]
        rw [← hcc] at hg2
        by_cases hmc : cc = 65533
        · have hm0 : m = true := by rw [hm, decide_eq_true_eq]; exact (hg2 hmc).2
          have hn3 := (hg2 hmc).1
          subst hmc hn3 hm0
          clear hd hl hdl ho HU hcc hg1 hg2 hg3 hm
          go_wp2_with fail
          refine (HC.out _).mono ?_
          rintro e w1 ⟨rfl, hw1⟩
          rw [hw1]
          clear hw1 w1
          go_wp2
          go_roundw
          case rel => exact ⟨pos + 3, k, by omega, rfl, HN⟩
          case measure => rw [HIt.out, HIt.out]; omega
        · have hx : ((cc : Int) == 65533) = false := by simp; omega
          clear hd hl hdl ho HU hcc hg1 hg2 hm
          go_wp2
          go_roundw
          case rel => exact ⟨pos + n, k, by omega, rfl, HN⟩
          case measure => rw [HIt.out, HIt.out]; omega
    · have hnx : ∀ ty, (Instr.next (.pointer (some ⟨w.heap.size, 0, none⟩)) true ty).run Tryd.prog ((w.drewN k).iter t pos) = .ok (.tuple #[.bool false]) ((w.drewN k).iter t pos) := fun ty => run_next_end (P := Tryd.prog) (w.drewN k) t pos ty hlt
      have HT : Hid (U8.utf L = true) := by show _ = _; rw [HU.out, List.drop_eq_nil_of_le (by have := HSz.out; omega)]; rfl
      clear HU
      go_wp2
      go_ret
      exact ⟨by rw [HR.out, HT.out]; rfl, HBl.out _ _⟩
end Go.Proofs.YtohgmkgclgoflaaDoor
