/- WSameR, Utf, WRefL, WRefG3, WUtfR, WOwnR, WCheckR: put together. -/
import Derived.Test.YticmkgbjannkkaaM04
import Derived.Test.YticmkgbjannkkaaM03
import Derived.Test.YticmkgbjannkkaaM01

/- The document's Same, sameList, SameRow. -/
namespace Go.Proofs.Yticmkgbjannkkaa
open Go.RowKit

namespace V
theorem sameL_ne : ∀ (xs ys : List V), xs.length ≠ ys.length → sameL xs ys = false
  | [], [], h => absurd rfl h
  | [], _ :: _, _ => rfl
  | _ :: _, [], _ => rfl
  | x :: r, y :: s, h => by rw [sameL_cons, sameL_ne r s (by simpa using h), Bool.and_false]
theorem sameL_at : ∀ (xs ys : List V) (j : Nat) (h1 : j < xs.length) (h2 : j < ys.length), same xs[j] ys[j] = false → sameL xs ys = false
  | x :: r, y :: s, 0, _, _, h => by rw [sameL_cons]; simp at h; rw [h, Bool.false_and]
  | x :: r, y :: s, j + 1, h1, h2, h => by rw [sameL_cons, sameL_at r s j (by simpa using h1) (by simpa using h2) (by simpa using h), Bool.and_false]
theorem sameL_all : ∀ (xs ys : List V), xs.length = ys.length → (∀ j (h1 : j < xs.length) (h2 : j < ys.length), same xs[j] ys[j] = true) → sameL xs ys = true
  | [], [], _, _ => rfl
  | [], _ :: _, h, _ => by simp at h
  | _ :: _, [], h, _ => by simp at h
  | x :: r, y :: s, h, ha => by
    rw [sameL_cons, sameL_all r s (by simpa using h) (fun j h1 h2 => by have := ha (j + 1) (by simpa using h1) (by simpa using h2); simpa using this)]
    have := ha 0 (by simp) (by simp)
    simp at this
    rw [this]; rfl
end V

/-- values lie in a row -/
def Items (w : World) (p : Option Addr) (xs : List V) : Prop := ∀ j (hj : j < xs.length), ∃ u', VLies w u' xs[j] ∧ Item w p j u'
theorem Items.on {w w' : World} {p : Option Addr} {xs : List V} (h : Items w p xs) (hb : Below w.heap.size w w') : Items w' p xs := fun j hj => by
  obtain ⟨u', h1, h2⟩ := h j hj
  exact ⟨u', h1.on hb, h2.on hb⟩

set_option maxRecDepth 100000 in
set_option maxHeartbeats 400000 in
theorem refSameList_of (xs : List V) (ih : ∀ x ∈ xs, ∀ (y : V) (w : World) (u v : Array Value), VLies w u x → VLies w v y → Calls Try.prog 32 #[.agg u, .agg v] w fun e w' => e = .returned (.bool (V.same x y)) ∧ Below w.heap.size w w')
    (ys : List V) (w : World) (p q : Option Addr) (c d : Nat) (hx : Items w p xs) (hy : Items w q ys) (hxl : xs.length * 64 ≤ 140737488351232) :
    Calls Try.prog 19 #[.slice p xs.length c, .slice q ys.length d] w fun e w' => e = .returned (.bool (V.sameL xs ys)) ∧ Below w.heap.size w w' := by
  by_cases h5 : ¬ xs.length = ys.length
  · have g5 : ((xs.length : Int) != (ys.length : Int)) = true := bne_t (by omega)
    have HE : Hid (V.sameL xs ys = false) := V.sameL_ne xs ys h5
    clear ih hx hy h5
    go_enter Try.func19, Try.ntmps19
    go_wp2
    go_ret
    exact ⟨by rw [HE.out]; rfl, Below.refl _ _⟩
  replace h5 : xs.length = ys.length := Classical.not_not.1 h5
  have g5 : ((xs.length : Int) != (ys.length : Int)) = false := bne_f (by omega)
  have HX := Lib.hid hx
  have HY := Lib.hid hy
  have HIH := Lib.hid ih
  have H5 := Lib.hid h5
  clear ih hx hy h5
  go_enter Try.func19, Try.ntmps19
  go_wp2
  go_loopw [5, 6] (fun v5 _ wr => ∃ j : Nat, j ≤ xs.length ∧ v5 = .int .i64 j ∧ Hid (Below w.heap.size w wr ∧ ∀ m (h1 : m < xs.length) (h2 : m < ys.length), m < j → V.same xs[m] ys[m] = true)) (fun v5 _ _ => xs.length - (intOf v5).toNat)
  case atStart => exact ⟨0, by omega, rfl, Below.refl _ _, fun m _ _ h => by omega⟩
  case round =>
    obtain ⟨j, hj, rfl, HL⟩ := hrel
    have hbw : Below w.heap.size w wr := HL.out.1
    by_cases hlt : j < xs.length
    · have hlt2 : j < ys.length := by have := H5.out; omega
      obtain ⟨ux, hvx, hix⟩ := HX.out j hlt
      obtain ⟨uy, hvy, hiy⟩ := HY.out j hlt2
      obtain ⟨bx, ox, kx, ix, fx, tx, qx, nx, cx, rfl, _, rfl, a0, a1, a2, a3, a4⟩ := (hix.on hbw).lies
      obtain ⟨by', oy, ky, iy, fy, ty, qy, ny, cy, rfl, _, rfl, b0, b1, b2, b3, b4⟩ := (hiy.on hbw).lies
      have HC : Hid (∀ w', Below w.heap.size w w' → Calls Try.prog 32 #[.agg #[.int .i64 kx, .int .i64 ix, .float .f64 fx, .string tx, .slice qx nx cx], .agg #[.int .i64 ky, .int .i64 iy, .float .f64 fy, .string ty, .slice qy ny cy]] w' fun e w'' => e = .returned (.bool (V.same xs[j] ys[j])) ∧ Below w'.heap.size w' w'') :=
        fun w' hb => HIH.out _ (List.getElem_mem hlt) ys[j] w' _ _ (hvx.on hb) (hvy.on hb)
      have HBw := Lib.hid hbw
      have HAll := Lib.hid HL.out.2
      have hj1 : (j : Int) < (xs.length : Int) := by omega
      have hj2 : (j : Int) < (ys.length : Int) := by omega
      obtain ⟨r, hr⟩ : ∃ r, r = V.same xs[j] ys[j] := ⟨_, rfl⟩
      rw [← hr] at HC
      have HRr := Lib.hid hr
      clear hvx hvy hix hiy hbw HL hr
      go_wp2_with fail
      go_region_held3 (fun w' => w'.cell? ⟨bx, ox + j * 5, none⟩ = some (.int .i64 kx) ∧ w'.cell? ⟨bx, ox + j * 5 + 1, none⟩ = some (.int .i64 ix) ∧ w'.cell? ⟨bx, ox + j * 5 + 2, none⟩ = some (.float .f64 fx) ∧ w'.cell? ⟨bx, ox + j * 5 + 3, none⟩ = some (.string tx) ∧ w'.cell? ⟨bx, ox + j * 5 + 4, none⟩ = some (.slice qx nx cx) ∧ w'.cell? ⟨by', oy + j * 5, none⟩ = some (.int .i64 ky) ∧ w'.cell? ⟨by', oy + j * 5 + 1, none⟩ = some (.int .i64 iy) ∧ w'.cell? ⟨by', oy + j * 5 + 2, none⟩ = some (.float .f64 fy) ∧ w'.cell? ⟨by', oy + j * 5 + 3, none⟩ = some (.string ty) ∧ w'.cell? ⟨by', oy + j * 5 + 4, none⟩ = some (.slice qy ny cy)) (go_keep) (first
        | (go_at_call 32; refine (HC.out _ (below_drewN HBw.out _)).mono ?_; rintro e w4 ⟨rfl, hb4⟩; have hb5 := below_via (w := wr) hb4 (by rfl) (by rfl) (by rfl) (by rfl); have z3 := cell_on hb5 a0; have z4 := cell_on hb5 a1; have z5 := cell_on hb5 a2; have z6 := cell_on hb5 a3; have z7 := cell_on hb5 a4; have z8 := cell_on hb5 b0; have z9 := cell_on hb5 b1; have z10 := cell_on hb5 b2; have z11 := cell_on hb5 b3; have z12 := cell_on hb5 b4; have HB4 := Lib.hid hb5; clear hb4 hb5))
      clear z3 z4 z5 z6 z7 z8 z9 z10 z11 z12 a0 a1 a2 a3 a4 b0 b1 b2 b3 b4
      cases r with
      | true =>
        have HN : Hid (Below w.heap.size w w4 ∧ ∀ m (h1 : m < xs.length) (h2 : m < ys.length), m < j + 1 → V.same xs[m] ys[m] = true) := by
          refine ⟨HBw.out.trans (HB4.out.mono HBw.out.size), fun m h1 h2 hm => ?_⟩
          by_cases hmj : m = j
          · subst hmj; exact HRr.out.symm
          · exact HAll.out m h1 h2 (by omega)
        clear HB4 HAll HC
        go_wp2
        go_roundw
        case rel => exact ⟨j + 1, by omega, by go_num, HN⟩
        case measure => simp [intOf]; omega
      | false =>
        have HE : Hid (V.sameL xs ys = false) := V.sameL_at xs ys j hlt hlt2 HRr.out.symm
        have HF := Lib.hid (HBw.out.trans (HB4.out.mono HBw.out.size))
        clear HB4 HAll HC
        go_wp2
        go_ret
        exact ⟨by rw [HE.out]; rfl, HF.out⟩
    · have HE : Hid (V.sameL xs ys = true) := V.sameL_all xs ys H5.out (fun m h1 h2 => HL.out.2 m h1 h2 (by omega))
      have HF := Lib.hid hbw
      have hjn : ¬ (j : Int) < (xs.length : Int) := by omega
      clear HL hbw hlt
      go_wp2
      go_ret
      exact ⟨by rw [HE.out]; rfl, HF.out⟩
theorem beq_t {a b : Int} (h : a = b) : (a == b) = true := by rw [h]; simp
theorem beq_f {a b : Int} (h : ¬ a = b) : (a == b) = false := by rw [beq_eq_false_iff_ne]; exact h

set_option maxRecDepth 100000 in
set_option maxHeartbeats 400000 in
theorem refSame6 : ∀ (x y : V) (w : World) (u v : Array Value), VLies w u x → VLies w v y → Calls Try.prog 32 #[.agg u, .agg v] w fun e w' => e = .returned (.bool (V.same x y)) ∧ Below w.heap.size w w' := by
  intro x
  refine V.ind (P := fun x => ∀ (y : V) (w : World) (u v : Array Value), VLies w u x → VLies w v y → Calls Try.prog 32 #[.agg u, .agg v] w fun e w' => e = .returned (.bool (V.same x y)) ∧ Below w.heap.size w w') ?_ x
  rintro k i b t xs ih ⟨k', i', b', t', ys⟩ w u v hx hy
  obtain ⟨p, c, rfl, hxl, hxc, hxi⟩ := hx.open
  obtain ⟨q, d, rfl, hyl, hyc, hyi⟩ := hy.open
  unfold cells5
  have hB2 : Below w.heap.size w ((w.alloc (.cells #[.int .i64 k, .int .i64 i, .float .f64 b, .string t, .slice p xs.length c] 53)).alloc (.cells #[.int .i64 k', .int .i64 i', .float .f64 b', .string t', .slice q ys.length d] 53)) := ((Below.refl _ _).alloc (Nat.le_refl _) _).alloc (by simp) _
  have HB2 := Lib.hid hB2
  clear hB2 hx hy
  by_cases h1 : ¬ k = k'
  · have g1 := beq_f h1
    have HE : Hid (V.same (.mk k i b t xs) (.mk k' i' b' t' ys) = false) := by show _ = _; simp [V.same_mk, h1]
    clear ih hxi hyi h1
    go_enter Try.func32, Try.ntmps32
    go_wp2_with fail
    refine (refSame_any b b' _).mono ?_
    rintro e w1 ⟨rfl, hw1⟩
    rw [hw1]
    clear hw1 w1
    go_wp2
    go_ret
    exact ⟨by rw [HE.out]; rfl, HB2.out⟩
  replace h1 : k = k' := Classical.not_not.1 h1
  have g1 := beq_t h1
  by_cases h2 : ¬ i = i'
  · have g2 := beq_f h2
    have HE : Hid (V.same (.mk k i b t xs) (.mk k' i' b' t' ys) = false) := by show _ = _; simp [V.same_mk, h2]
    clear ih hxi hyi h1 h2
    go_enter Try.func32, Try.ntmps32
    go_wp2_with fail
    refine (refSame_any b b' _).mono ?_
    rintro e w1 ⟨rfl, hw1⟩
    rw [hw1]
    clear hw1 w1
    go_wp2
    go_ret
    exact ⟨by rw [HE.out]; rfl, HB2.out⟩
  replace h2 : i = i' := Classical.not_not.1 h2
  have g2 := beq_t h2
  by_cases h3 : ¬ t = t'
  · have g3 : (t.toList == t'.toList) = false := by rw [text_eq, decide_eq_false h3]
    have HE : Hid (V.same (.mk k i b t xs) (.mk k' i' b' t' ys) = false) := by show _ = _; simp [V.same_mk, h3]
    clear ih hxi hyi h1 h2 h3
    go_enter Try.func32, Try.ntmps32
    go_wp2_with fail
    refine (refSame_any b b' _).mono ?_
    rintro e w1 ⟨rfl, hw1⟩
    rw [hw1]
    clear hw1 w1
    go_wp2
    go_ret
    exact ⟨by rw [HE.out]; rfl, HB2.out⟩
  replace h3 : t = t' := Classical.not_not.1 h3
  have g3 : (t.toList == t'.toList) = true := by rw [text_eq, decide_eq_true h3]
  by_cases h4 : ¬ fixB b = fixB b'
  · have g4 : ((fixB b : Int) == (fixB b' : Int)) = false := beq_f (by omega)
    have HE : Hid (V.same (.mk k i b t xs) (.mk k' i' b' t' ys) = false) := by show _ = _; simp [V.same_mk, h4]
    clear ih hxi hyi h1 h2 h3 h4
    go_enter Try.func32, Try.ntmps32
    go_wp2_with fail
    refine (refSame_any b b' _).mono ?_
    rintro e w1 ⟨rfl, hw1⟩
    rw [hw1]
    clear hw1 w1
    go_wp2
    go_ret
    exact ⟨by rw [HE.out]; rfl, HB2.out⟩
  replace h4 : fixB b = fixB b' := Classical.not_not.1 h4
  have g4 : ((fixB b : Int) == (fixB b' : Int)) = true := beq_t (by omega)
  have HE : Hid (V.same (.mk k i b t xs) (.mk k' i' b' t' ys) = V.sameL xs ys) := by show _ = _; simp [V.same_mk, h1, h2, h3, h4]
  have hC : ∀ w', Below w.heap.size w w' → Calls Try.prog 19 #[.slice p xs.length c, .slice q ys.length d] w' fun e w'' => e = .returned (.bool (V.sameL xs ys)) ∧ Below w'.heap.size w' w'' := fun w' hb => refSameList_of xs ih ys w' p q c d (Items.on hxi hb) (Items.on hyi hb) hxl
  have HC := Lib.hid hC
  clear ih hxi hyi h1 h2 h3 h4 hC
  go_enter Try.func32, Try.ntmps32
  go_wp2_with fail
  refine (refSame_any b b' _).mono ?_
  rintro e w1 ⟨rfl, hw1⟩
  rw [hw1]
  clear hw1 w1
  go_wp2_with fail
  refine (HC.out _ HB2.out).mono ?_
  rintro e w3 ⟨rfl, hb3⟩
  have HB3 := Lib.hid (HB2.out.trans (hb3.mono HB2.out.size))
  clear hb3
  go_wp2
  go_ret
  exact ⟨by rw [HE.out]; simp, HB3.out⟩

theorem refSameList6 (xs ys : List V) (w : World) (p q : Option Addr) (c d : Nat) (hx : Items w p xs) (hy : Items w q ys) (hxl : xs.length * 64 ≤ 140737488351232) :
    Calls Try.prog 19 #[.slice p xs.length c, .slice q ys.length d] w fun e w' => e = .returned (.bool (V.sameL xs ys)) ∧ Below w.heap.size w w' := refSameList_of xs (fun x _ => refSame6 x) ys w p q c d hx hy hxl

set_option maxHeartbeats 400000 in
theorem refSameRow6 (xs ys : List V) (w : World) (p q : Option Addr) (c d : Nat) (hx : Items w p xs) (hy : Items w q ys) (hxl : xs.length * 64 ≤ 140737488351232) :
    Calls Try.prog 8 #[.agg #[.slice p xs.length c], .agg #[.slice q ys.length d]] w fun e w' => e = .returned (.bool (V.sameL xs ys)) ∧ Below w.heap.size w w' := by
  have hB2 : Below w.heap.size w ((w.alloc (.cells #[.slice p xs.length c] 27)).alloc (.cells #[.slice q ys.length d] 27)) := ((Below.refl _ _).alloc (Nat.le_refl _) _).alloc (by simp) _
  have HB2 := Lib.hid hB2
  have HC := Lib.hid (refSameList6 xs ys _ p q c d (hx.on hB2) (hy.on hB2) hxl)
  clear hB2 hx hy
  go_enter Try.func8, Try.ntmps8
  go_wp2_with fail
  refine HC.out.mono ?_
  rintro e w3 ⟨rfl, hb3⟩
  have HB3 := Lib.hid (HB2.out.trans (hb3.mono HB2.out.size))
  clear hb3
  go_wp2
  go_ret
  exact ⟨rfl, HB3.out⟩
end Go.Proofs.Yticmkgbjannkkaa

/- Plain: right UTF-8, character by character, as the document tells it. -/
namespace Go.Proofs.Yticmkgbjannkkaa.U8

/-- what a first byte says: how many bytes, its own bits, the least that needs so many -/
def kind (c : Nat) : Option (Nat × Nat × Nat) :=
  if c < 128 then some (1, c, 0) else if 192 ≤ c ∧ c < 224 then some (2, c - 192, 128) else if 224 ≤ c ∧ c < 240 then some (3, c - 224, 2048) else if 240 ≤ c ∧ c < 248 then some (4, c - 240, 65536) else none
/-- so many bytes more -/
def conts : Nat → Nat → List UInt8 → Option Nat
  | 0, v, _ => some v
  | _ + 1, _, [] => none
  | k + 1, v, c :: r => if 128 ≤ c.toNat ∧ c.toNat < 192 then conts k (v * 64 + c.toNat - 128) r else none
/-- a character's number may be -/
def may (least v : Nat) : Bool := decide (least ≤ v) && decide (v ≤ 1114111) && !(decide (55296 ≤ v) && decide (v ≤ 57343))
/-- how many bytes the first character has; none: there is no right one -/
def one : List UInt8 → Option Nat
  | [] => none
  | c :: r => match kind c.toNat with
    | none => none
    | some (n, v, least) => match conts (n - 1) v r with
      | none => none
      | some v' => if may least v' then some n else none
def utfF : Nat → List UInt8 → Bool
  | _, [] => true
  | 0, _ :: _ => false
  | f + 1, c :: r => match one (c :: r) with
    | none => false
    | some n => utfF f ((c :: r).drop n)
/-- P6.4 -/
def utf (l : List UInt8) : Bool := utfF l.length l

theorem kind_pos {c n v least : Nat} (h : kind c = some (n, v, least)) : 1 ≤ n ∧ n ≤ 4 ∧ v < 128 ∧ (1 < n → v < 32) := by
  unfold kind at h
  split at h
  · simp only [Option.some.injEq, Prod.mk.injEq] at h; omega
  · split at h
    · simp only [Option.some.injEq, Prod.mk.injEq] at h; omega
    · split at h
      · simp only [Option.some.injEq, Prod.mk.injEq] at h; omega
      · split at h
        · simp only [Option.some.injEq, Prod.mk.injEq] at h; omega
        · cases h
theorem conts_len : ∀ (k v : Nat) (r : List UInt8) (v' : Nat), conts k v r = some v' → k ≤ r.length
  | 0, _, _, _, _ => Nat.zero_le _
  | k + 1, _, [], _, h => by simp [conts] at h
  | k + 1, v, c :: r, v', h => by
    rw [conts] at h
    split at h
    · have := conts_len k _ r v' h
      simp; omega
    · cases h
theorem conts_append : ∀ (k v : Nat) (r b : List UInt8) (v' : Nat), conts k v r = some v' → conts k v (r ++ b) = some v'
  | 0, _, _, _, _, h => h
  | k + 1, _, [], _, _, h => by simp [conts] at h
  | k + 1, v, c :: r, b, v', h => by
    rw [conts] at h
    rw [List.cons_append, conts]
    split at h
    · rename_i hc
      rw [if_pos hc]
      exact conts_append k _ r b v' h
    · cases h
theorem one_len {l : List UInt8} {n : Nat} (h : one l = some n) : 1 ≤ n ∧ n ≤ l.length := by
  cases l with
  | nil => simp [one] at h
  | cons c r =>
    rw [one] at h
    cases hk : kind c.toNat with
    | none => rw [hk] at h; cases h
    | some x =>
      obtain ⟨m, v, least⟩ := x
      rw [hk] at h
      simp only at h
      have h1 := (kind_pos hk).1
      cases hc : conts (m - 1) v r with
      | none => rw [hc] at h; cases h
      | some v' =>
        rw [hc] at h
        simp only at h
        have := conts_len _ _ _ _ hc
        split at h
        · cases h; simp; omega
        · cases h
theorem one_append {l : List UInt8} {n : Nat} (b : List UInt8) (h : one l = some n) : one (l ++ b) = some n := by
  cases l with
  | nil => simp [one] at h
  | cons c r =>
    rw [List.cons_append, one]
    rw [one] at h
    cases hk : kind c.toNat with
    | none => rw [hk] at h; cases h
    | some x =>
      obtain ⟨m, v, least⟩ := x
      rw [hk] at h
      simp only at h ⊢
      cases hc : conts (m - 1) v r with
      | none => rw [hc] at h; cases h
      | some v' =>
        rw [hc] at h
        rw [conts_append _ _ _ b _ hc]
        exact h
theorem utfF_fuel : ∀ (n f : Nat) (l : List UInt8), l.length ≤ n → l.length ≤ f → utfF f l = utfF l.length l := by
  intro n
  induction n with
  | zero =>
    intro f l h _
    have : l = [] := List.eq_nil_of_length_eq_zero (by omega)
    subst this
    cases f <;> rfl
  | succ n ih =>
    intro f l h hf
    cases l with
    | nil => cases f <;> rfl
    | cons c r =>
      simp only [List.length_cons] at h hf ⊢
      cases f with
      | zero => omega
      | succ f =>
        rw [utfF, utfF]
        cases ho : one (c :: r) with
        | none => rfl
        | some m =>
          have hm := one_len ho
          simp only [List.length_cons] at hm
          simp only
          have hl : ((c :: r).drop m).length ≤ r.length := by rw [List.length_drop, List.length_cons]; omega
          rw [ih f _ (by omega) (by omega), ih r.length _ (by omega) hl]
theorem utf_nil : utf [] = true := rfl
theorem utf_bad {l : List UInt8} (h0 : l ≠ []) (h : one l = none) : utf l = false := by
  cases l with
  | nil => exact absurd rfl h0
  | cons c r => unfold utf; rw [List.length_cons, utfF, h]
theorem utf_step {l : List UInt8} {n : Nat} (h : one l = some n) : utf l = utf (l.drop n) := by
  cases l with
  | nil => simp [one] at h
  | cons c r =>
    have hm := one_len h
    simp only [List.length_cons] at hm
    unfold utf
    rw [List.length_cons, utfF, h]
    simp only
    exact utfF_fuel r.length _ _ (by rw [List.length_drop, List.length_cons]; omega) (by rw [List.length_drop, List.length_cons]; omega)
/-- P6.6 -/
theorem utf_append : ∀ (n : Nat) (a b : List UInt8), a.length ≤ n → utf a = true → utf (a ++ b) = utf b := by
  intro n
  induction n with
  | zero =>
    intro a b h _
    have : a = [] := List.eq_nil_of_length_eq_zero (by omega)
    subst this
    rfl
  | succ n ih =>
    intro a b h hu
    by_cases h0 : a = []
    · subst h0; rfl
    · cases ho : one a with
      | none => rw [utf_bad h0 ho] at hu; cases hu
      | some m =>
        have hm := one_len ho
        rw [utf_step ho] at hu
        rw [utf_step (one_append b ho), List.drop_append_of_le_length hm.2]
        exact ih _ b (by rw [List.length_drop]; omega) hu

/-- the bytes behind the first one are read up to the i-th -/
def Inner (l : List UInt8) (a n v0 i v : Nat) : Prop := conts (n - 1) v0 (l.drop (a + 1)) = conts (n - i) v (l.drop (a + i)) ∧ (i ≤ 1 → v < 128) ∧ (i ≤ 2 → v < 8192) ∧ (i ≤ 3 → v < 524288) ∧ v < 33554432
theorem in_start (l : List UInt8) (a n v0 : Nat) (h : v0 < 128) : Inner l a n v0 1 v0 := ⟨rfl, fun _ => h, fun _ => by omega, fun _ => by omega, by omega⟩
section
variable {l : List UInt8} {a n v0 i v : Nat}
theorem in_short (h : Inner l a n v0 i v) (hi : i < n) (hs : l.length ≤ a + i) : conts (n - 1) v0 (l.drop (a + 1)) = none := by
  rw [h.1, List.drop_eq_nil_of_le hs, show n - i = (n - i - 1) + 1 by omega]
  rfl
theorem in_bad (h : Inner l a n v0 i v) (hi : i < n) (hs : a + i < l.length) (hb : ¬ (128 ≤ l[a + i].toNat ∧ l[a + i].toNat < 192)) : conts (n - 1) v0 (l.drop (a + 1)) = none := by
  rw [h.1, List.drop_eq_getElem_cons hs, show n - i = (n - i - 1) + 1 by omega, conts, if_neg hb]
theorem in_next (h : Inner l a n v0 i v) (h0 : 1 ≤ i) (hi : i < n) (hn : n ≤ 4) (hs : a + i < l.length) (hb : 128 ≤ l[a + i].toNat ∧ l[a + i].toNat < 192) : Inner l a n v0 (i + 1) (v * 64 + l[a + i].toNat - 128) := by
  obtain ⟨h1, h2, h3, h4, h5⟩ := h
  refine ⟨?_, fun hc => ?_, fun hc => ?_, fun hc => ?_, ?_⟩
  · rw [h1, List.drop_eq_getElem_cons hs, show n - i = (n - (i + 1)) + 1 by omega, conts, if_pos hb]
    rfl
  · omega
  · have := h2 (by omega); omega
  · have := h3 (by omega); omega
  · have := h4 (by omega); omega
theorem in_end (h : Inner l a n v0 n v) : conts (n - 1) v0 (l.drop (a + 1)) = some v := by rw [h.1, Nat.sub_self]; rfl
end
theorem one_none {l : List UInt8} {a n v0 least : Nat} (ha : a < l.length) (hk : kind l[a].toNat = some (n, v0, least)) (h : conts (n - 1) v0 (l.drop (a + 1)) = none) : one (l.drop a) = none := by
  rw [List.drop_eq_getElem_cons ha, one, hk]
  simp only
  rw [h]
theorem one_may {l : List UInt8} {a n v0 v least : Nat} (ha : a < l.length) (hk : kind l[a].toNat = some (n, v0, least)) (h : conts (n - 1) v0 (l.drop (a + 1)) = some v) : one (l.drop a) = if may least v then some n else none := by
  rw [List.drop_eq_getElem_cons ha, one, hk]
  simp only
  rw [h]
theorem one_kind {l : List UInt8} {a : Nat} (ha : a < l.length) (hk : kind l[a].toNat = none) : one (l.drop a) = none := by
  rw [List.drop_eq_getElem_cons ha, one, hk]
end Go.Proofs.Yticmkgbjannkkaa.U8

/- The walks of the document's own Put, Len, Zig, Zag, Get. -/
namespace Go.Proofs.Yticmkgbjannkkaa
open Go.RowKit

/-- what is still to be put: xs stands, m is left -/
def Leb.Putting (n : Nat) (xs : List UInt8) (m : Nat) : Prop := xs.length ≤ 9 ∧ m < 2 * 128 ^ (9 - xs.length) ∧ Leb.put n = xs ++ Leb.putF (10 - xs.length) m

theorem Leb.putting_start {n : Nat} (h : n < 18446744073709551616) : Leb.Putting n [] n := by
  have e : 2 * 128 ^ 9 = 18446744073709551616 := by decide
  exact ⟨by simp, by simpa [e] using h, rfl⟩
theorem Leb.putting_lt {n : Nat} {xs : List UInt8} {m : Nat} (h : Leb.Putting n xs m) : m < 18446744073709551616 := by
  have e : 2 * 128 ^ 9 = 18446744073709551616 := by decide
  have h1 := Nat.pow_le_pow_right (show 0 < 128 by omega) (show 9 - xs.length ≤ 9 by omega)
  have := h.2.1
  omega
theorem Leb.putting_next {n : Nat} {xs : List UInt8} {m : Nat} (h : Leb.Putting n xs m) (hm : 127 < m) : Leb.Putting n (xs ++ [UInt8.ofNat (m % 128 + 128)]) (m / 128) := by
  obtain ⟨h1, h2, h3⟩ := h
  have h4 : xs.length ≤ 8 := by
    rcases Nat.lt_or_ge 8 xs.length with h5 | h5
    · have : 9 - xs.length = 0 := by omega
      rw [this] at h2
      simp at h2
      omega
    · exact h5
  refine ⟨by simp; omega, ?_, ?_⟩
  · have e : 9 - xs.length = (9 - (xs ++ [UInt8.ofNat (m % 128 + 128)]).length) + 1 := by simp; omega
    rw [e, Nat.pow_succ] at h2
    rw [Nat.div_lt_iff_lt_mul (by omega)]
    omega
  · have e : 10 - xs.length = (10 - (xs ++ [UInt8.ofNat (m % 128 + 128)]).length) + 1 := by simp; omega
    rw [h3, e, Leb.putF, if_neg (by omega), List.append_assoc]
    rfl
theorem Leb.putting_last {n : Nat} {xs : List UInt8} {m : Nat} (h : Leb.Putting n xs m) (hm : m ≤ 127) : xs ++ [UInt8.ofNat m] = Leb.put n := by
  obtain ⟨h1, h2, h3⟩ := h
  have e : 10 - xs.length = (9 - xs.length) + 1 := by omega
  rw [h3, e, Leb.putF, if_pos (by omega)]

end Go.Proofs.Yticmkgbjannkkaa

/- The walk of the document's own Get. -/
namespace Go.Proofs.Yticmkgbjannkkaa
open Go.RowKit

/-- what Get answers: the number, the place behind it, the error -/
def gotV (l : List UInt8) (a : Int) : Value := .tuple #[.int .u64 ((Leb.getAt l a).n : Nat), .int .i64 (Leb.nextAt l a), .int .i64 ((Leb.getAt l a).err : Nat)]

theorem gotV_out (l : List UInt8) (a : Int) (h : a < 0 ∨ (l.length : Int) ≤ a) : gotV l a = .tuple #[.int .u64 0, .int .i64 0, .int .i64 30] := by
  have e : Leb.getAt l a = ⟨30, 0, 0⟩ := by
    unfold Leb.getAt
    by_cases h0 : a < 0
    · rw [if_pos h0]
    · rw [if_neg h0, List.drop_eq_nil_of_le (by omega)]; rfl
  unfold gotV Leb.nextAt
  rw [e]; rfl
theorem gotV_bad (l : List UInt8) (a : Nat) (c : Nat) (hc : c ≠ 0) (h : Leb.get (l.drop a) = ⟨c, 0, 0⟩) : gotV l a = .tuple #[.int .u64 0, .int .i64 0, .int .i64 c] := by
  have e : Leb.getAt l a = ⟨c, 0, 0⟩ := by
    unfold Leb.getAt
    rw [if_neg (by omega)]
    exact h
  unfold gotV Leb.nextAt
  rw [e, if_neg hc]; rfl
theorem gotV_ok (l : List UInt8) (a n k : Nat) (h : Leb.get (l.drop a) = ⟨0, n, k⟩) : gotV l a = .tuple #[.int .u64 n, .int .i64 ((a : Int) + k), .int .i64 0] := by
  have e : Leb.getAt l a = ⟨0, n, k⟩ := by
    unfold Leb.getAt
    rw [if_neg (by omega)]
    exact h
  unfold gotV Leb.nextAt
  rw [e, if_pos rfl]; rfl

end Go.Proofs.Yticmkgbjannkkaa

/- The document's Utf. -/
namespace Go.Proofs.Yticmkgbjannkkaa
open Go.RowKit

theorem text_get (t : ByteArray) (i : Nat) (h : i < t.size) : t.data.toList[i]'(by simpa using h) = t[i] := by rw [Array.getElem_toList]; rfl

end Go.Proofs.Yticmkgbjannkkaa

/- The document's own(v). -/
namespace Go.Proofs.Yticmkgbjannkkaa
open Go.RowKit

end Go.Proofs.Yticmkgbjannkkaa

/- The document's at(v, depth), Check. -/
namespace Go.Proofs.Yticmkgbjannkkaa
open Go.RowKit

/-- a text is right -/
def utfT (t : ByteArray) : Bool := U8.utf t.data.toList
/-- P6.1, at a depth -/
def chk (d : Nat) (x : V) : Nat := V.check utfT d x
def chkL (d : Nat) (xs : List V) : Nat := V.checkL utfT d xs

theorem chk_mk (d : Nat) (k i : Int) (b : Nat) (t : ByteArray) (xs : List V) : chk d (.mk k i b t xs) = if 4 < d then 62 else if V.ownB k i b t xs.length = false then 60 else if 1024 < t.size then 2 else if 256 < xs.length then 3 else if k = 4 ∧ utfT t = false then 61 else chkL (d + 1) xs := by
  unfold chk chkL
  rw [V.check_mk]
  rfl
theorem chkL_all (d : Nat) : ∀ xs : List V, (∀ j (h : j < xs.length), chk d xs[j] = 0) → chkL d xs = 0
  | [], _ => by unfold chkL; rw [V.checkL_nil]
  | x :: r, h => by
    have h0 := h 0 (by simp)
    have hr := chkL_all d r (fun j hj => h (j + 1) (by simpa using hj))
    unfold chk at h0
    unfold chkL at hr ⊢
    simp only [List.getElem_cons_zero] at h0
    rw [V.checkL_cons, if_pos h0, hr]
theorem chkL_at (d : Nat) : ∀ (xs : List V) (j : Nat) (hj : j < xs.length), (∀ m (h : m < xs.length), m < j → chk d xs[m] = 0) → chk d xs[j] ≠ 0 → chkL d xs = chk d xs[j]
  | x :: r, 0, _, _, hn => by
    unfold chk at hn
    unfold chkL chk
    simp only [List.getElem_cons_zero] at hn ⊢
    rw [V.checkL_cons, if_neg hn]
  | x :: r, j + 1, hj, h, hn => by
    have h0 := h 0 (by simp) (by omega)
    have hr := chkL_at d r j (by simpa using hj) (fun m hm hmj => by have := h (m + 1) (by simpa using hm) (by omega); simpa using this) (by simpa using hn)
    unfold chk at h0
    unfold chkL at hr ⊢
    simp only [List.getElem_cons_zero] at h0
    rw [V.checkL_cons, if_pos h0, hr]
    rfl

end Go.Proofs.Yticmkgbjannkkaa
