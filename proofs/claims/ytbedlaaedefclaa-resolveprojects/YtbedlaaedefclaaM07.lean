/- Utf, WRefL, WRefG3: put together. -/
import Derived.Test.YtbedlaaedefclaaM03
import Derived.Test.YtbedlaaedefclaaM01

/- Plain: right UTF-8, character by character, as the document tells it. -/
namespace Go.Proofs.Ytbedlaaedefclaa.U8

/-- what a first byte says: how many bytes, its own bits, the least that needs so many -/
def kind (c : Nat) : Option (Nat × Nat × Nat) :=
  if c < 128 then some (1, c, 0) else if 192 ≤ c ∧ c < 224 then some (2, c - 192, 128) else if 224 ≤ c ∧ c < 240 then some (3, c - 224, 2048) else if 240 ≤ c ∧ c < 248 then some (4, c - 240, 65536) else none
/-- so many bytes more -/
def conts : Nat → Nat → List UInt8 → Option Nat
  | 0, v, _ => some v
  | _ + 1, _, [] => none
  | k + 1, v, c :: r => if 128 ≤ c.toNat ∧ c.toNat < 192 then conts k (v * 64 + c.toNat - 128) r else none
/-- a character's number may be -/
def may (least v : Nat) : Bool := decide (least ≤ v) && decide (v ≤ 1114111) && !(decide (55296 ≤ v) && decide (v ≤ 57343))
/-- how many bytes the first character has; none: there is no right one -/
def one : List UInt8 → Option Nat
  | [] => none
  | c :: r => match kind c.toNat with
    | none => none
    | some (n, v, least) => match conts (n - 1) v r with
      | none => none
      | some v' => if may least v' then some n else none
def utfF : Nat → List UInt8 → Bool
  | _, [] => true
  | 0, _ :: _ => false
  | f + 1, c :: r => match one (c :: r) with
    | none => false
    | some n => utfF f ((c :: r).drop n)
/-- P6.4 -/
def utf (l : List UInt8) : Bool := utfF l.length l

theorem kind_pos {c n v least : Nat} (h : kind c = some (n, v, least)) : 1 ≤ n ∧ n ≤ 4 ∧ v < 128 ∧ (1 < n → v < 32) := by
  unfold kind at h
  split at h
  · simp only [Option.some.injEq, Prod.mk.injEq] at h; omega
  · split at h
    · simp only [Option.some.injEq, Prod.mk.injEq] at h; omega
    · split at h
      · simp only [Option.some.injEq, Prod.mk.injEq] at h; omega
      · split at h
        · simp only [Option.some.injEq, Prod.mk.injEq] at h; omega
        · cases h
theorem conts_len : ∀ (k v : Nat) (r : List UInt8) (v' : Nat), conts k v r = some v' → k ≤ r.length
  | 0, _, _, _, _ => Nat.zero_le _
  | k + 1, _, [], _, h => by simp [conts] at h
  | k + 1, v, c :: r, v', h => by
    rw [conts] at h
    split at h
    · have := conts_len k _ r v' h
      simp; omega
    · cases h
theorem conts_append : ∀ (k v : Nat) (r b : List UInt8) (v' : Nat), conts k v r = some v' → conts k v (r ++ b) = some v'
  | 0, _, _, _, _, h => h
  | k + 1, _, [], _, _, h => by simp [conts] at h
  | k + 1, v, c :: r, b, v', h => by
    rw [conts] at h
    rw [List.cons_append, conts]
    split at h
    · rename_i hc
      rw [if_pos hc]
      exact conts_append k _ r b v' h
    · cases h
theorem one_len {l : List UInt8} {n : Nat} (h : one l = some n) : 1 ≤ n ∧ n ≤ l.length := by
  cases l with
  | nil => simp [one] at h
  | cons c r =>
    rw [one] at h
    cases hk : kind c.toNat with
    | none => rw [hk] at h; cases h
    | some x =>
      obtain ⟨m, v, least⟩ := x
      rw [hk] at h
      simp only at h
      have h1 := (kind_pos hk).1
      cases hc : conts (m - 1) v r with
      | none => rw [hc] at h; cases h
      | some v' =>
        rw [hc] at h
        simp only at h
        have := conts_len _ _ _ _ hc
        split at h
        · cases h; simp; omega
        · cases h
theorem one_append {l : List UInt8} {n : Nat} (b : List UInt8) (h : one l = some n) : one (l ++ b) = some n := by
  cases l with
  | nil => simp [one] at h
  | cons c r =>
    rw [List.cons_append, one]
    rw [one] at h
    cases hk : kind c.toNat with
    | none => rw [hk] at h; cases h
    | some x =>
      obtain ⟨m, v, least⟩ := x
      rw [hk] at h
      simp only at h ⊢
      cases hc : conts (m - 1) v r with
      | none => rw [hc] at h; cases h
      | some v' =>
        rw [hc] at h
        rw [conts_append _ _ _ b _ hc]
        exact h
theorem utfF_fuel : ∀ (n f : Nat) (l : List UInt8), l.length ≤ n → l.length ≤ f → utfF f l = utfF l.length l := by
  intro n
  induction n with
  | zero =>
    intro f l h _
    have : l = [] := List.eq_nil_of_length_eq_zero (by omega)
    subst this
    cases f <;> rfl
  | succ n ih =>
    intro f l h hf
    cases l with
    | nil => cases f <;> rfl
    | cons c r =>
      simp only [List.length_cons] at h hf ⊢
      cases f with
      | zero => omega
      | succ f =>
        rw [utfF, utfF]
        cases ho : one (c :: r) with
        | none => rfl
        | some m =>
          have hm := one_len ho
          simp only [List.length_cons] at hm
          simp only
          have hl : ((c :: r).drop m).length ≤ r.length := by rw [List.length_drop, List.length_cons]; omega
          rw [ih f _ (by omega) (by omega), ih r.length _ (by omega) hl]
theorem utf_nil : utf [] = true := rfl
theorem utf_bad {l : List UInt8} (h0 : l ≠ []) (h : one l = none) : utf l = false := by
  cases l with
  | nil => exact absurd rfl h0
  | cons c r => unfold utf; rw [List.length_cons, utfF, h]
theorem utf_step {l : List UInt8} {n : Nat} (h : one l = some n) : utf l = utf (l.drop n) := by
  cases l with
  | nil => simp [one] at h
  | cons c r =>
    have hm := one_len h
    simp only [List.length_cons] at hm
    unfold utf
    rw [List.length_cons, utfF, h]
    simp only
    exact utfF_fuel r.length _ _ (by rw [List.length_drop, List.length_cons]; omega) (by rw [List.length_drop, List.length_cons]; omega)
/-- P6.6 -/
theorem utf_append : ∀ (n : Nat) (a b : List UInt8), a.length ≤ n → utf a = true → utf (a ++ b) = utf b := by
  intro n
  induction n with
  | zero =>
    intro a b h _
    have : a = [] := List.eq_nil_of_length_eq_zero (by omega)
    subst this
    rfl
  | succ n ih =>
    intro a b h hu
    by_cases h0 : a = []
    · subst h0; rfl
    · cases ho : one a with
      | none => rw [utf_bad h0 ho] at hu; cases hu
      | some m =>
        have hm := one_len ho
        rw [utf_step ho] at hu
        rw [utf_step (one_append b ho), List.drop_append_of_le_length hm.2]
        exact ih _ b (by rw [List.length_drop]; omega) hu

/-- the bytes behind the first one are read up to the i-th -/
def Inner (l : List UInt8) (a n v0 i v : Nat) : Prop := conts (n - 1) v0 (l.drop (a + 1)) = conts (n - i) v (l.drop (a + i)) ∧ (i ≤ 1 → v < 128) ∧ (i ≤ 2 → v < 8192) ∧ (i ≤ 3 → v < 524288) ∧ v < 33554432
theorem in_start (l : List UInt8) (a n v0 : Nat) (h : v0 < 128) : Inner l a n v0 1 v0 := ⟨rfl, fun _ => h, fun _ => by omega, fun _ => by omega, by omega⟩
section
variable {l : List UInt8} {a n v0 i v : Nat}
theorem in_short (h : Inner l a n v0 i v) (hi : i < n) (hs : l.length ≤ a + i) : conts (n - 1) v0 (l.drop (a + 1)) = none := by
  rw [h.1, List.drop_eq_nil_of_le hs, show n - i = (n - i - 1) + 1 by omega]
  rfl
theorem in_bad (h : Inner l a n v0 i v) (hi : i < n) (hs : a + i < l.length) (hb : ¬ (128 ≤ l[a + i].toNat ∧ l[a + i].toNat < 192)) : conts (n - 1) v0 (l.drop (a + 1)) = none := by
  rw [h.1, List.drop_eq_getElem_cons hs, show n - i = (n - i - 1) + 1 by omega, conts, if_neg hb]
theorem in_next (h : Inner l a n v0 i v) (h0 : 1 ≤ i) (hi : i < n) (hn : n ≤ 4) (hs : a + i < l.length) (hb : 128 ≤ l[a + i].toNat ∧ l[a + i].toNat < 192) : Inner l a n v0 (i + 1) (v * 64 + l[a + i].toNat - 128) := by
  obtain ⟨h1, h2, h3, h4, h5⟩ := h
  refine ⟨?_, fun hc => ?_, fun hc => ?_, fun hc => ?_, ?_⟩
  · rw [h1, List.drop_eq_getElem_cons hs, show n - i = (n - (i + 1)) + 1 by omega, conts, if_pos hb]
    rfl
  · omega
  · have := h2 (by omega); omega
  · have := h3 (by omega); omega
  · have := h4 (by omega); omega
theorem in_end (h : Inner l a n v0 n v) : conts (n - 1) v0 (l.drop (a + 1)) = some v := by rw [h.1, Nat.sub_self]; rfl
end
theorem one_none {l : List UInt8} {a n v0 least : Nat} (ha : a < l.length) (hk : kind l[a].toNat = some (n, v0, least)) (h : conts (n - 1) v0 (l.drop (a + 1)) = none) : one (l.drop a) = none := by
  rw [List.drop_eq_getElem_cons ha, one, hk]
  simp only
  rw [h]
theorem one_may {l : List UInt8} {a n v0 v least : Nat} (ha : a < l.length) (hk : kind l[a].toNat = some (n, v0, least)) (h : conts (n - 1) v0 (l.drop (a + 1)) = some v) : one (l.drop a) = if may least v then some n else none := by
  rw [List.drop_eq_getElem_cons ha, one, hk]
  simp only
  rw [h]
theorem one_kind {l : List UInt8} {a : Nat} (ha : a < l.length) (hk : kind l[a].toNat = none) : one (l.drop a) = none := by
  rw [List.drop_eq_getElem_cons ha, one, hk]
end Go.Proofs.Ytbedlaaedefclaa.U8

/- The walks of the document's own Put, Len, Zig, Zag, Get. -/
namespace Go.Proofs.Ytbedlaaedefclaa
open Go.RowKit

/-- what is still to be put: xs stands, m is left -/
def Leb.Putting (n : Nat) (xs : List UInt8) (m : Nat) : Prop := xs.length ≤ 9 ∧ m < 2 * 128 ^ (9 - xs.length) ∧ Leb.put n = xs ++ Leb.putF (10 - xs.length) m

theorem Leb.putting_start {n : Nat} (h : n < 18446744073709551616) : Leb.Putting n [] n := by
  have e : 2 * 128 ^ 9 = 18446744073709551616 := by decide
  exact ⟨by simp, by simpa [e] using h, rfl⟩
theorem Leb.putting_lt {n : Nat} {xs : List UInt8} {m : Nat} (h : Leb.Putting n xs m) : m < 18446744073709551616 := by
  have e : 2 * 128 ^ 9 = 18446744073709551616 := by decide
  have h1 := Nat.pow_le_pow_right (show 0 < 128 by omega) (show 9 - xs.length ≤ 9 by omega)
  have := h.2.1
  omega
theorem Leb.putting_next {n : Nat} {xs : List UInt8} {m : Nat} (h : Leb.Putting n xs m) (hm : 127 < m) : Leb.Putting n (xs ++ [UInt8.ofNat (m % 128 + 128)]) (m / 128) := by
  obtain ⟨h1, h2, h3⟩ := h
  have h4 : xs.length ≤ 8 := by
    rcases Nat.lt_or_ge 8 xs.length with h5 | h5
    · have : 9 - xs.length = 0 := by omega
      rw [this] at h2
      simp at h2
      omega
    · exact h5
  refine ⟨by simp; omega, ?_, ?_⟩
  · have e : 9 - xs.length = (9 - (xs ++ [UInt8.ofNat (m % 128 + 128)]).length) + 1 := by simp; omega
    rw [e, Nat.pow_succ] at h2
    rw [Nat.div_lt_iff_lt_mul (by omega)]
    omega
  · have e : 10 - xs.length = (10 - (xs ++ [UInt8.ofNat (m % 128 + 128)]).length) + 1 := by simp; omega
    rw [h3, e, Leb.putF, if_neg (by omega), List.append_assoc]
    rfl
theorem Leb.putting_last {n : Nat} {xs : List UInt8} {m : Nat} (h : Leb.Putting n xs m) (hm : m ≤ 127) : xs ++ [UInt8.ofNat m] = Leb.put n := by
  obtain ⟨h1, h2, h3⟩ := h
  have e : 10 - xs.length = (9 - xs.length) + 1 := by omega
  rw [h3, e, Leb.putF, if_pos (by omega)]

set_option maxHeartbeats 1000000 in
theorem refPut_any (n : Nat) (hn : n < 18446744073709551616) (w : World) :
    Calls Try.prog 80 #[.int .u64 n] w fun e w' => ∃ g cap, e = .returned (.slice (some ⟨g, 0, none⟩) (Leb.put n).length cap) ∧ Mine w' w.heap.size g cap (Leb.put n) ∧ Below w.heap.size w w' := by
  have HP := Lib.hid (Leb.putting_start hn)
  go_enter Try.func80, Try.ntmps80
  go_wp2
  go_loopw [0, 3] (fun v0 v3 wr => ∃ (m : Nat) (xs : List UInt8), v0 = .int .u64 m ∧ m < 18446744073709551616 ∧ xs.length ≤ 9 ∧ Hid (Leb.Putting n xs m ∧ Has wr w.heap.size v3 xs ∧ Below w.heap.size w wr)) (fun v0 _ _ => (intOf v0).toNat)
  case atStart => exact ⟨n, [], rfl, hn, by simp, HP.out, has_nil _ _, Below.refl _ _⟩
  case round =>
    obtain ⟨m, xs, rfl, hm, hx, HK⟩ := hrel
    have hB := HK.out.2.2.size
    have HO := Lib.hid HK.out.2.1
    by_cases hgt : 127 < m
    · have hcn := Leb.byte_high m
      have HN := Lib.hid (Leb.putting_next HK.out.1 hgt)
      generalize UInt8.ofNat (m % 128 + 128) = c at hcn HN
      go_wp2_with (at_builtin; refine wp_push HO.out c (by omega) hB (by omega) rfl rfl rfl rfl rfl ?_; intro g cap W hmine hb)
      go_roundw
      case rel => exact ⟨m / 128, xs ++ [c], by go_num, by omega, by have := HN.out.1; exact this, HN.out, by have := hmine.has; simpa using this, HK.out.2.2.trans hb⟩
      case measure => simp [intOf]; omega
    · have hcn := Leb.byte_low m (by omega)
      have HN := Lib.hid (Leb.putting_last HK.out.1 (by omega))
      generalize UInt8.ofNat m = c at hcn HN
      go_wp2_with (at_builtin; refine wp_push HO.out c (by omega) hB (by omega) rfl rfl rfl rfl rfl ?_; intro g cap W hmine hb)
      go_ret
      refine ⟨g, cap, ?_, ?_, HK.out.2.2.trans hb⟩
      · rw [← HN.out]; simp
      · rw [← HN.out]; exact hmine

theorem refZig_any (n : Int) (h1 : -9223372036854775808 ≤ n) (h2 : n ≤ 9223372036854775807) (w : World) :
    Calls Try.prog 97 #[.int .i64 n] w fun e w' => e = .returned (.int .u64 (Leb.zig n : Nat)) ∧ w' = w := by
  by_cases h0 : 0 ≤ n
  · have HE : Hid (((Leb.zig n : Nat) : Int) = 2 * n) := by
      show _ = _
      unfold Leb.zig
      rw [if_pos h0]; omega
    go_enter Try.func97, Try.ntmps97
    go_wp2
    go_ret
    exact ⟨by rw [HE.out]; rfl, rfl⟩
  · have HE : Hid (((Leb.zig n : Nat) : Int) = 2 * (-(n + 1)) + 1) := by
      show _ = _
      unfold Leb.zig
      rw [if_neg h0]; omega
    go_enter Try.func97, Try.ntmps97
    go_wp2
    go_ret
    exact ⟨by rw [HE.out]; go_num, rfl⟩

end Go.Proofs.Ytbedlaaedefclaa

/- The walk of the document's own Get. -/
namespace Go.Proofs.Ytbedlaaedefclaa
open Go.RowKit

/-- what Get answers: the number, the place behind it, the error -/
def gotV (l : List UInt8) (a : Int) : Value := .tuple #[.int .u64 ((Leb.getAt l a).n : Nat), .int .i64 (Leb.nextAt l a), .int .i64 ((Leb.getAt l a).err : Nat)]

theorem gotV_out (l : List UInt8) (a : Int) (h : a < 0 ∨ (l.length : Int) ≤ a) : gotV l a = .tuple #[.int .u64 0, .int .i64 0, .int .i64 30] := by
  have e : Leb.getAt l a = ⟨30, 0, 0⟩ := by
    unfold Leb.getAt
    by_cases h0 : a < 0
    · rw [if_pos h0]
    · rw [if_neg h0, List.drop_eq_nil_of_le (by omega)]; rfl
  unfold gotV Leb.nextAt
  rw [e]; rfl
theorem gotV_bad (l : List UInt8) (a : Nat) (c : Nat) (hc : c ≠ 0) (h : Leb.get (l.drop a) = ⟨c, 0, 0⟩) : gotV l a = .tuple #[.int .u64 0, .int .i64 0, .int .i64 c] := by
  have e : Leb.getAt l a = ⟨c, 0, 0⟩ := by
    unfold Leb.getAt
    rw [if_neg (by omega)]
    exact h
  unfold gotV Leb.nextAt
  rw [e, if_neg hc]; rfl
theorem gotV_ok (l : List UInt8) (a n k : Nat) (h : Leb.get (l.drop a) = ⟨0, n, k⟩) : gotV l a = .tuple #[.int .u64 n, .int .i64 ((a : Int) + k), .int .i64 0] := by
  have e : Leb.getAt l a = ⟨0, n, k⟩ := by
    unfold Leb.getAt
    rw [if_neg (by omega)]
    exact h
  unfold gotV Leb.nextAt
  rw [e, if_pos rfl]; rfl

end Go.Proofs.Ytbedlaaedefclaa
