/- WT21M, WT21N, KPt: put together. -/
import Derived.Test.YtpjcmahlnnglcaaGreatDoorWT21K
import Derived.Test.YtpjcmahlnnglcaaGreatDoorA1
import Derived.Test.YtpjcmahlnnglcaaGreatDoorK21Z

/- The document's reader of texts: end. -/
namespace Go.Proofs.YtpjcmahlnnglcaaGreatDoor
open Go.RowKit

/-- nothing may stand behind the whole -/
def fin21 {α : Type} (y : Tx.R (α × Tx.Bs)) : Tx.R α := match y with
  | .error e => .error e
  | .ok (x, r) => if r = [] then .ok x else .error (5, r.length)
/-- how a reader lies behind something -/
def RdY21 {α : Type} (w : World) (R : Nat) (S : ByteArray) : Tx.R (α × Tx.Bs) → Prop
  | .ok (_, r) => Rd21 w R S r
  | .error (e, n) => Bad21 w R S e n
def RdF21 {α : Type} (w : World) (R : Nat) (S : ByteArray) : Tx.R α → Prop
  | .ok _ => Rd21 w R S []
  | .error (e, n) => Bad21 w R S e n
section
variable {w w' : World} {R : Nat} {S : ByteArray} {l : Tx.Bs}
theorem Bad21.lt {e n : Nat} (h : Bad21 w R S e n) : R < w.heap.size := by
  obtain ⟨a, _, h2⟩ := h.lies
  exact blk_lt h2
theorem Bad21.drewN {e n : Nat} (h : Bad21 w R S e n) (k : Nat) : Bad21 (w.drewN k) R S e n := ⟨h.lies, h.bad, h.small⟩
set_option maxRecDepth 100000 in
theorem refFailBad21 {e n : Nat} (h : Bad21 w R S e n) (a b : Int) : Calls Tryz.prog 49 #[.pointer (some ⟨R, 0, none⟩), .int .i64 a, .int .i64 b] w fun r w' => r = .returned (.tuple #[]) ∧ w' = w := by
  have c2 := h.cell2
  have he := h.bad
  have b1 : ((e : Int) == 0) = false := by rw [beq_eq_false_iff_ne]; omega
  clear h
  go_enter Tryz.func49, Tryz.ntmps49
  go_wp2
  go_end0
  exact ⟨rfl, rfl⟩

set_option maxRecDepth 100000 in
set_option maxHeartbeats 4000000 in
theorem refEnd21 {α : Type} (y : Tx.R (α × Tx.Bs)) (h : RdY21 w R S y) : Calls Tryz.prog 45 #[.pointer (some ⟨R, 0, none⟩)] w fun r w' => r = .returned (.tuple #[]) ∧ RdF21 w' R S (fin21 y) ∧ Aside (fun k => k = R) w w' := by
  cases y with
  | error y =>
    obtain ⟨e, n⟩ := y
    have h : Bad21 w R S e n := h
    obtain ⟨a, ha, hl⟩ := h.lies
    have c0 : w.cell? ⟨R, 0, none⟩ = some (.string S) := blk_cell hl 0
    have c1 : w.cell? ⟨R, 1, none⟩ = some (.int .i64 (a : Int)) := blk_cell hl 1
    have hsm := h.small
    have HF := Lib.hid (fun k => refFailBad21 (h.drewN k) 5 (a : Int))
    have HB := Lib.hid (fun k => h.drewN k)
    clear h hl
    by_cases hlt : a < S.size
    · have f1 : (a : Int) < (S.size : Int) := by omega
      go_enter Tryz.func45, Tryz.ntmps45
      go_wp2_with fail
      go_quiet (fail)
      go_wp2_with fail
      refine (HF.out _).mono ?_
      rintro e w1 ⟨rfl, rfl⟩
      go_wp2
      go_end0
      exact ⟨rfl, HB.out _, aside_drewN21 _ _ _⟩
    · have f1 : ¬ (a : Int) < (S.size : Int) := by omega
      go_enter Tryz.func45, Tryz.ntmps45
      go_wp2_with fail
      go_quiet (fail)
      go_wp2
      go_end0
      exact ⟨rfl, HB.out _, aside_drewN21 _ _ _⟩
  | ok y =>
    obtain ⟨x, l⟩ := y
    have h : Rd21 w R S l := h
    have c0 : w.cell? ⟨R, 0, none⟩ = some (.string S) := h.cell 0
    have c1 : w.cell? ⟨R, 1, none⟩ = some (.int .i64 ((S.size - l.length : Nat) : Int)) := h.cell 1
    have hsm := h.small
    have hle := h.le
    by_cases hl : l = []
    · subst hl
      have HB := Lib.hid (fun k => h.drewN k)
      have f1 : ¬ ((S.size - ([] : Tx.Bs).length : Nat) : Int) < (S.size : Int) := by simp
      obtain ⟨a, ha⟩ : ∃ a, a = S.size - ([] : Tx.Bs).length := ⟨_, rfl⟩
      rw [← ha] at c1 f1
      clear h ha hle
      go_enter Tryz.func45, Tryz.ntmps45
      go_wp2_with fail
      go_quiet (fail)
      go_wp2
      go_end0
      exact ⟨rfl, HB.out _, aside_drewN21 _ _ _⟩
    · have hn : 0 < l.length := List.length_pos_iff.2 hl
      have HF := Lib.hid (fun k => refFail21 (h.drewN k) 5 l.length (by decide))
      have HE : Hid (∀ w', Bad21 w' R S 5 l.length → RdF21 w' R S (fin21 (.ok (x, l) : Tx.R (α × Tx.Bs)))) := fun w' hb => by
        have e : fin21 (.ok (x, l) : Tx.R (α × Tx.Bs)) = .error (5, l.length) := if_neg hl
        rw [e]
        exact hb
      have f1 : ((S.size - l.length : Nat) : Int) < (S.size : Int) := by omega
      obtain ⟨a, ha⟩ : ∃ a, a = S.size - l.length := ⟨_, rfl⟩
      rw [← ha] at c1 f1 HF
      clear h ha hle hl hn
      go_enter Tryz.func45, Tryz.ntmps45
      go_wp2_with fail
      go_quiet (fail)
      go_wp2_with fail
      refine (HF.out _).mono ?_
      rintro e w1 ⟨rfl, hb, ha1⟩
      have HB := Lib.hid hb
      have HA := Lib.hid ((aside_drewN21 (fun k => k = R) _ _).trans ha1 (fun _ _ h => h))
      clear hb ha1
      go_wp2
      go_end0
      exact ⟨rfl, HE.out _ HB.out, HA.out⟩
end
end Go.Proofs.YtpjcmahlnnglcaaGreatDoor

/- The document's ParseType. -/
namespace Go.Proofs.YtpjcmahlnnglcaaGreatDoor
open Go.RowKit

theorem tl_leaf21 (w : World) (k : Int) (p : Option Addr) (c : Nat) : TLies w #[.int .i64 k, .slice p 0 c] (.mk k []) := .mk (xs := []) (fun _ => #[]) (by simp) (by simp) (fun hc => absurd rfl hc) (fun j hj => by simp at hj)
/-- what 'one' answers, and how the reader lies -/
theorem One21.told {w w' : World} {R : Nat} {S : ByteArray} {y : Tx.R (Ty × Tx.Bs)} {r : Ending} (h : One21 w R S y r w') : ∃ k p n c, r = .returned (.agg #[.int .i64 k, .slice p n c]) ∧ RdY21 w' R S y ∧ Aside (fun k => k = R) w w' ∧ ∀ x l, y = .ok (x, l) → ∃ F : Nat → Prop, TOwn w' F #[.int .i64 k, .slice p n c] x ∧ ∀ i, F i → w.heap.size ≤ i ∧ i < w'.heap.size := by
  obtain ⟨h1, h2⟩ := h
  match y, h2 with
  | .error (e, m), ⟨k, p, n, c, hr, hb⟩ => exact ⟨k, p, n, c, hr, hb, h1, fun x l hc => by cases hc⟩
  | .ok (t, l), ⟨k, p, n, c, F, hr, ho, hF, hd⟩ => exact ⟨k, p, n, c, hr, hd, h1, fun x l' hc => by cases hc; exact ⟨F, ho, hF⟩⟩
/-- what is told, by what stands behind the whole -/
theorem tell_fin {α : Type} (S : ByteArray) (y : Tx.R (α × Tx.Bs)) (er : α → Nat) : tellR S y er = match fin21 y with
  | .error (k, n) => .error (k, S.size - n)
  | .ok x => if er x = 0 then .ok x else .error (er x, 0) := by
  match y with
  | .error (k, n) => rfl
  | .ok (x, r) =>
    by_cases h : r = []
    · subst h; rfl
    · have e : fin21 (.ok (x, r) : Tx.R (α × Tx.Bs)) = .error (5, r.length) := if_neg h
      rw [e]
      exact if_neg h
theorem fin_ok {α : Type} {y : Tx.R (α × Tx.Bs)} {x : α} (h : fin21 y = .ok x) : y = .ok (x, []) := by
  match y, h with
  | .error e, h => cases h
  | .ok (x', r), h =>
    by_cases hr : r = []
    · subst hr
      have : (.ok x' : Tx.R α) = .ok x := h
      injection this with this
      rw [this]
    · have e : fin21 (.ok (x', r) : Tx.R (α × Tx.Bs)) = .error (5, r.length) := if_neg hr
      rw [e] at h
      cases h
/-- a reader that is made -/
theorem Rd21.made {w : World} {S : ByteArray} (hS : S.size ≤ 140737488351232) : Rd21 (w.alloc (.cells #[.string S, .int .i64 0, .int .i64 0, .int .i64 0] 74)) w.heap.size S S.data.toList := by
  have e : S.size - S.data.toList.length = 0 := by rw [Array.length_toList]; show S.data.size - S.data.size = 0; omega
  refine ⟨?_, ?_, ?_, hS⟩
  · rw [e]; exact blk_new w _
  · rw [e]; rfl
  · rw [Array.length_toList]; exact Nat.le_refl _

set_option maxRecDepth 100000 in
set_option maxHeartbeats 8000000 in
theorem refParseType21 (S : ByteArray) (hS : S.size ≤ 140737488351232) (w : World) : Calls Tryz.prog 18 #[.string S] w fun e w' => ∃ k p n c, e = .returned (.tuple #[.agg #[.int .i64 k, .slice p n c], .int .i64 (errOf (tellR S (Tx.pty 4 S.data.toList) (Ty.check 1)) : Nat), .int .i64 (plOf (tellR S (Tx.pty 4 S.data.toList) (Ty.check 1)) : Nat)]) ∧ TLies w' #[.int .i64 k, .slice p n c] (thOf (.mk 0 []) (tellR S (Tx.pty 4 S.data.toList) (Ty.check 1))) ∧ Below w.heap.size w w' := by
  obtain ⟨W0, hW0⟩ : ∃ W, W = w.alloc (.cells #[.int .i64 0, .slice none 0 0] 24) := ⟨_, rfl⟩
  obtain ⟨W1, hW1⟩ : ∃ W, W = W0.alloc (.cells #[.string S, .int .i64 0, .int .i64 0, .int .i64 0] 74) := ⟨_, rfl⟩
  have hs0 : W0.heap.size = w.heap.size + 1 := by rw [hW0]; simp
  have hb0 : Below w.heap.size w W0 := by rw [hW0]; exact (Below.refl _ _).alloc (Nat.le_refl _) _
  have hb1 : Below w.heap.size w W1 := by rw [hW1]; exact hb0.alloc (by omega) _
  have hb01 : Below W0.heap.size W0 W1 := by rw [hW1]; exact (Below.refl _ _).alloc (Nat.le_refl _) _
  have hk0 : W0.heap[w.heap.size]? = some (.cells #[.int .i64 0, .slice none 0 0] 24 (0, 0)) := by rw [hW0]; exact blk_new w _
  have hk1 := blk_on hk0 hb01 (blk_lt hk0)
  have hR1 : Rd21 W1 (w.heap.size + 1) S S.data.toList := by rw [hW1, ← hs0]; exact Rd21.made hS
  have hz1 : w.heap.size + 1 < W1.heap.size := hR1.lt
  have HO := Lib.hid (refOne21 (R := w.heap.size + 1) (S := S) 4 W1 S.data.toList (by omega) hR1)
  obtain ⟨y, hy⟩ : ∃ y, y = Tx.pty 4 S.data.toList := ⟨_, rfl⟩
  rw [← hy] at HO ⊢
  have HB1 := Lib.hid hb1
  have HK1 := Lib.hid hk1
  have HZ1 := Lib.hid hz1
  have HW : Hid (W1 = (w.alloc (.cells #[.int .i64 0, .slice none 0 0] 24)).alloc (.cells #[.string S, .int .i64 0, .int .i64 0, .int .i64 0] 74)) := by show _ = _; rw [hW1, hW0]
  obtain ⟨T, hT⟩ : ∃ T, T = tellR S y (Ty.check 1) := ⟨_, rfl⟩
  rw [← hT]
  rw [tell_fin] at hT
  have HT := Lib.hid hT
  clear hT hW0 hW1 hs0 hb0 hb1 hb01 hk0 hk1 hR1 hz1 hy hS
  go_enter Tryz.func18, Tryz.ntmps18
  go_wp2_with fail
  rw [← HW.out]
  refine HO.out.mono ?_
  intro e w2 hone
  obtain ⟨k, p, n, c, rfl, hrd, ha2, hty⟩ := hone.told
  obtain ⟨W3, hW3⟩ : ∃ W, W = w2.alloc (.cells #[.int .i64 k, .slice p n c] 24) := ⟨_, rfl⟩
  have hb3 : Below w2.heap.size w2 W3 := by rw [hW3]; exact (Below.refl _ _).alloc (Nat.le_refl _) _
  have hk3 : W3.heap[w2.heap.size]? = some (.cells #[.int .i64 k, .slice p n c] 24 (0, 0)) := by rw [hW3]; exact blk_new w2 _
  have hlt2 := ha2.size
  have hz := HZ1.out
  have hk0 : W3.heap[w.heap.size]? = some (.cells #[.int .i64 0, .slice none 0 0] 24 (0, 0)) := blk_on ((ha2.block w.heap.size (blk_lt HK1.out) (by omega)).trans HK1.out) hb3 (by omega)
  have hrd3 : RdY21 W3 (w.heap.size + 1) S y := by
    match y, hrd with
    | .ok (_, r), h => exact Rd21.on h hb3
    | .error (e, m), h => exact Bad21.aside h (aside_new hb3 (fun _ => False)) (fun h => h)
  have hA3 : Below w.heap.size w W3 := (HB1.out.trans (ha2.below (by omega) (fun i hi he => by omega))).trans (hb3.mono (by omega))
  have HE := Lib.hid (refEnd21 y hrd3)
  have HTy : Hid (∀ x l, y = .ok (x, l) → ∃ F : Nat → Prop, TOwn W3 F #[.int .i64 k, .slice p n c] x ∧ ∀ i, F i → w.heap.size + 1 < i ∧ i < w2.heap.size) := fun x l hxl => by
    obtain ⟨F, h1, h2⟩ := hty x l hxl
    exact ⟨F, h1.under hb3 (fun i hi => (h2 i hi).2), fun i hi => by have := h2 i hi; omega⟩
  have HW3 := Lib.hid hW3
  have HK3 := Lib.hid hk3
  have HK0 := Lib.hid hk0
  have HA3 := Lib.hid hA3
  have HS2 : Hid (w.heap.size + 1 < w2.heap.size) := by show _ < _; omega
  clear hone hrd ha2 hty hb3 hk3 hlt2 hz hk0 hrd3 hA3 hW3 HO HZ1 HK1 HB1
  go_wp2_with fail
  rw [← HW3.out]
  refine HE.out.mono ?_
  rintro e w4 ⟨rfl, hf, ha4⟩
  have hs2 := HS2.out
  have hs3 := blk_lt HK3.out
  have hs4 := ha4.size
  have hk0 := (ha4.block w.heap.size (blk_lt HK0.out) (by omega)).trans HK0.out
  have hk3 := (ha4.block w2.heap.size (blk_lt HK3.out) (by omega)).trans HK3.out
  have hb4 : Below w.heap.size w w4 := HA3.out.trans (ha4.below (by omega) (fun i hi he => by omega))
  have HTy4 : Hid (∀ x l, y = .ok (x, l) → ∃ F : Nat → Prop, TOwn w4 F #[.int .i64 k, .slice p n c] x ∧ ∀ i, F i → w.heap.size + 1 < i ∧ i < w2.heap.size) := fun x l hxl => by
    obtain ⟨F, h1, h2⟩ := HTy.out x l hxl
    exact ⟨F, h1.aside ha4 (fun i hi he => by have := h2 i hi; omega), h2⟩
  have HK0 := Lib.hid hk0
  have HK3 := Lib.hid hk3
  have HB4 := Lib.hid hb4
  clear HE HTy HW3 HA3 hs2 hs3 hs4 hk0 hk3 hb4 ha4
  cases hfy : fin21 y with
  | error fe =>
    obtain ⟨er, m⟩ := fe
    rw [hfy] at hf
    have hf : Bad21 w4 (w.heap.size + 1) S er m := hf
    obtain ⟨a, -, hl⟩ := hf.lies
    have c2 : w4.cell? ⟨w.heap.size + 1, 2, none⟩ = some (.int .i64 (er : Int)) := blk_cell hl 2
    have c3 : w4.cell? ⟨w.heap.size + 1, 3, none⟩ = some (.int .i64 ((S.size - m : Nat) : Int)) := blk_cell hl 3
    have g1 : ((er : Int) != 0) = true := by have := hf.bad; rw [bne_iff_ne]; omega
    have g2 : ((er : Int) == 0) = false := by have := hf.bad; rw [beq_eq_false_iff_ne]; omega
    have m0 : w4.cell? ⟨w.heap.size, 0, none⟩ = some (.int .i64 0) := blk_cell HK0.out 0
    have m1 : w4.cell? ⟨w.heap.size, 1, none⟩ = some (.slice none 0 0) := blk_cell HK0.out 1
    have mf0 := blk_free HK0.out 0
    have mf1 := blk_free HK0.out 1
    obtain ⟨sp, hsp⟩ : ∃ sp : Nat, sp = S.size - m := ⟨_, rfl⟩
    rw [← hsp] at c3
    have HT2 : Hid (T = .error (er, sp)) := by show _ = _; rw [HT.out, hfy, hsp]
    obtain ⟨X, hX⟩ : ∃ X, X = ((w4.setCell ⟨w.heap.size, 0, none⟩ (.int .i64 0)).setCell ⟨w.heap.size, 1, none⟩ (.slice none 0 0)) := ⟨_, rfl⟩
    have HX : Hid (X.drew.heap[w.heap.size]? = some (.cells #[.int .i64 0, .slice none 0 0] 24 (0, 0)) ∧ Below w.heap.size w X.drew) := by
      have haX : Aside (fun i => i = w.heap.size) w4 X := by rw [hX]; exact (((Aside.refl (fun i => i = w.heap.size) w4).setCell (p := ⟨w.heap.size, 0, none⟩) (.inl rfl) _).setCell (p := ⟨w.heap.size, 1, none⟩) (.inl rfl) _)
      refine ⟨?_, (HB4.out.trans (haX.below HB4.out.size (fun k hk he => by omega))).drew⟩
      show X.heap[w.heap.size]? = _
      rw [hX, blk_set (blk_set HK0.out 0 _) 1 _]; rfl
    have HXe := Lib.hid hX
    clear hf hl hsp HTy4 HK3 HT hfy hX
    go_wp2_with fail
    go_region_held3 (fun w' => w'.cell? ⟨w.heap.size + 1, 2, none⟩ = some (.int .i64 (er : Int)) ∧ w'.cell? ⟨w.heap.size + 1, 3, none⟩ = some (.int .i64 (sp : Int))) (go_keep) (fail)
    go_wp2
    rw [← HXe.out]
    refine bodyPost_ret (results_row3 rfl _ _ w.heap.size _ _ _ _ rfl HX.out.1 Tryz.underlying24 rfl (by kernel_rfl)) rfl ?_
    rw [HT2.out]
    exact ⟨_, _, _, _, rfl, tl_leaf21 _ _ _ _, HX.out.2⟩
  | ok x =>
    rw [hfy] at hf
    have hf : Rd21 w4 (w.heap.size + 1) S [] := hf
    have c2 : w4.cell? ⟨w.heap.size + 1, 2, none⟩ = some (.int .i64 0) := hf.cell 2
    obtain ⟨F, hown, hF⟩ := HTy4.out x [] (fin_ok hfy)
    have m0 : w4.cell? ⟨w2.heap.size, 0, none⟩ = some (.int .i64 k) := blk_cell HK3.out 0
    have m1 : w4.cell? ⟨w2.heap.size, 1, none⟩ = some (.slice p n c) := blk_cell HK3.out 1
    have HC := Lib.hid (refCheckType7 x w4 _ hown.lies)
    have HOwn := Lib.hid hown
    have HF := Lib.hid hF
    obtain ⟨er, her⟩ : ∃ er, er = Ty.check 1 x := ⟨_, rfl⟩
    have HT2 : Hid (T = if er = 0 then .ok x else .error (er, 0)) := by show _ = _; rw [HT.out, hfy, her]
    rw [← her] at HC
    clear hf hfy hown hF HTy4 HT her
    go_wp2_with fail
    refine HC.out.mono ?_
    rintro e w5 ⟨rfl, hb5⟩
    have HB5 := Lib.hid hb5
    have HK0' := Lib.hid (blk_on HK0.out hb5 (blk_lt HK0.out))
    have HK3' := Lib.hid (blk_on HK3.out hb5 (blk_lt HK3.out))
    have m0 : w5.cell? ⟨w2.heap.size, 0, none⟩ = some (.int .i64 k) := blk_cell HK3'.out 0
    have m1 : w5.cell? ⟨w2.heap.size, 1, none⟩ = some (.slice p n c) := blk_cell HK3'.out 1
    have n0 : w5.cell? ⟨w.heap.size, 0, none⟩ = some (.int .i64 0) := blk_cell HK0'.out 0
    have n1 : w5.cell? ⟨w.heap.size, 1, none⟩ = some (.slice none 0 0) := blk_cell HK0'.out 1
    have mf0 := blk_free HK0'.out 0
    have mf1 := blk_free HK0'.out 1
    clear hb5 HC
    by_cases h0 : er = 0
    · have HT3 : Hid (T = .ok x) := by show _ = _; rw [HT2.out, if_pos h0]
      clear HT2
      subst h0
      obtain ⟨X, hX⟩ : ∃ X, X = ((w5.setCell ⟨w.heap.size, 0, none⟩ (.int .i64 k)).setCell ⟨w.heap.size, 1, none⟩ (.slice p n c)) := ⟨_, rfl⟩
      have HX : Hid (X.heap[w.heap.size]? = some (.cells #[.int .i64 k, .slice p n c] 24 (0, 0)) ∧ TLies X #[.int .i64 k, .slice p n c] x ∧ Below w.heap.size w X) := by
        have haX : Aside (fun i => i = w.heap.size) w5 X := by rw [hX]; exact (((Aside.refl (fun i => i = w.heap.size) w5).setCell (p := ⟨w.heap.size, 0, none⟩) (.inl rfl) _).setCell (p := ⟨w.heap.size, 1, none⟩) (.inl rfl) _)
        have hs4 := HB4.out.size
        have hl3 := blk_lt HK3.out
        have hb : Below w.heap.size w w5 := HB4.out.trans (HB5.out.mono hs4)
        refine ⟨by rw [hX, blk_set (blk_set HK0'.out 0 _) 1 _]; rfl, ?_, hb.trans (haX.below hb.size (fun k hk he => by omega))⟩
        exact ((HOwn.out.under HB5.out (fun i hi => by have := HF.out i hi; omega)).aside haX (fun i hi he => by have := HF.out i hi; omega)).lies
      have HXe := Lib.hid hX
      clear hX
      go_wp2
      rw [← HXe.out]
      refine bodyPost_ret (results_row3 rfl _ _ w.heap.size _ _ _ _ rfl HX.out.1 Tryz.underlying24 rfl (by kernel_rfl)) rfl ?_
      rw [HT3.out]
      exact ⟨_, _, _, _, rfl, HX.out.2.1, HX.out.2.2⟩
    · have g1 : ((er : Int) != 0) = true := by rw [bne_iff_ne]; omega
      have g2 : ((er : Int) == 0) = false := by rw [beq_eq_false_iff_ne]; omega
      obtain ⟨X, hX⟩ : ∃ X, X = ((w5.setCell ⟨w.heap.size, 0, none⟩ (.int .i64 0)).setCell ⟨w.heap.size, 1, none⟩ (.slice none 0 0)) := ⟨_, rfl⟩
      have HX : Hid (X.heap[w.heap.size]? = some (.cells #[.int .i64 0, .slice none 0 0] 24 (0, 0)) ∧ Below w.heap.size w X) := by
        have haX : Aside (fun i => i = w.heap.size) w5 X := by rw [hX]; exact (((Aside.refl (fun i => i = w.heap.size) w5).setCell (p := ⟨w.heap.size, 0, none⟩) (.inl rfl) _).setCell (p := ⟨w.heap.size, 1, none⟩) (.inl rfl) _)
        have hb : Below w.heap.size w w5 := HB4.out.trans (HB5.out.mono HB4.out.size)
        exact ⟨by rw [hX, blk_set (blk_set HK0'.out 0 _) 1 _]; rfl, hb.trans (haX.below hb.size (fun k hk he => by omega))⟩
      have HXe := Lib.hid hX
      have HN := Lib.hid h0
      clear hX h0
      go_wp2
      rw [← HXe.out]
      refine bodyPost_ret (results_row3 rfl _ _ w.heap.size _ _ _ _ rfl HX.out.1 Tryz.underlying24 rfl (by kernel_rfl)) rfl ?_
      rw [HT2.out, if_neg HN.out]
      exact ⟨_, _, _, _, rfl, tl_leaf21 _ _ _ _, HX.out.2⟩
end Go.Proofs.YtpjcmahlnnglcaaGreatDoor

/- The law TextParsesType. -/
namespace Go.Proofs.YtpjcmahlnnglcaaGreatDoor
open Go.RowKit
attribute [local go_sem] run_store_float

set_option maxRecDepth 100000 in
set_option maxHeartbeats 8000000 in
theorem textParsesType21 (S : ByteArray) (hS : S.size ≤ 140737488351232) (w : World) (hv : Hv w) :
    Calls Tryz.prog 4 #[.string S] w fun e w' => e = .returned (.bool true) ∧ Below w.heap.size w w' := by
  have HHv := Lib.hid (fun w' (hb : Below w.heap.size w w') => hv.on hb hv.size)
  have HLv := Lib.hid (live21 w hv)
  have HP := Lib.hid (fun w' (hb : Below w.heap.size w w') => ParseTypeL S hS w' (HHv.out w' hb))
  have HQ := Lib.hid (fun w' => refParseType21 S hS w')
  obtain ⟨T, hT⟩ : ∃ T, T = tellR S (Tx.pty 4 S.data.toList) (Ty.check 1) := ⟨_, rfl⟩
  rw [← hT] at HP HQ
  obtain ⟨er, her⟩ : ∃ e, e = errOf T := ⟨_, rfl⟩
  obtain ⟨pl, hpl⟩ : ∃ e, e = plOf T := ⟨_, rfl⟩
  obtain ⟨x, hx⟩ : ∃ x, x = thOf (.mk 0 []) T := ⟨_, rfl⟩
  rw [← her, ← hpl, ← hx] at HP HQ
  have HS := Lib.hid (fun w' u v (h1 : TLies w' u x) (h2 : TLies w' v x) => refSameType7 x x w' u v h1 h2)
  rw [(Ty.same_iff x x).2 rfl] at HS
  clear hT her hpl hx hv hS
  go_enter Tryz.func4, Tryz.ntmps4
  go_wp2_with fail
  refine HLv.out.mono ?_
  rintro e w1 ⟨rfl, hb⟩
  have HB1 := Lib.hid hb
  have HX := Lib.hid (HP.out _ hb)
  clear hb HLv HP
  go_wp2_with fail
  refine HX.out.mono ?_
  rintro e w2 ⟨k, p, n, c, rfl, hl, hb⟩
  obtain ⟨W2, hW⟩ : ∃ W, W = w2.alloc (.cells #[.int .i64 k, .slice p n c] 24) := ⟨_, rfl⟩
  have hbw : Below w2.heap.size w2 W2 := by rw [hW]; exact (Below.refl _ _).alloc (Nat.le_refl _) _
  have HK := Lib.hid (show W2.heap[w2.heap.size]? = some (.cells #[.int .i64 k, .slice p n c] 24 (0, 0)) by rw [hW]; exact blk_new w2 _)
  have HB2 := Lib.hid (HB1.out.trans ((hb.trans (hbw.mono hb.size)).mono HB1.out.size))
  have HL := Lib.hid (hl.on hbw)
  have HW := Lib.hid hW
  have HY := Lib.hid (HQ.out W2)
  clear hl hb hbw hW HX HB1 HQ
  go_wp2_with fail
  rw [← HW.out]
  refine HY.out.mono ?_
  rintro e w3 ⟨k3, p3, n3, c3, rfl, hl3, hb3⟩
  obtain ⟨W3, hW3⟩ : ∃ W, W = w3.alloc (.cells #[.int .i64 k3, .slice p3 n3 c3] 24) := ⟨_, rfl⟩
  have hbw : Below w3.heap.size w3 W3 := by rw [hW3]; exact (Below.refl _ _).alloc (Nat.le_refl _) _
  have hk3 : W3.heap[w3.heap.size]? = some (.cells #[.int .i64 k3, .slice p3 n3 c3] 24 (0, 0)) := by rw [hW3]; exact blk_new w3 _
  have hk2 := blk_on (blk_on HK.out hb3 (blk_lt HK.out)) hbw (by have := blk_lt HK.out; have := hb3.size; omega)
  have hb4 := hb3.trans (hbw.mono hb3.size)
  have m0 : W3.cell? ⟨w2.heap.size, 0, none⟩ = some (.int .i64 k) := blk_cell hk2 0
  have m1 : W3.cell? ⟨w2.heap.size, 1, none⟩ = some (.slice p n c) := blk_cell hk2 1
  have n0 : W3.cell? ⟨w3.heap.size, 0, none⟩ = some (.int .i64 k3) := blk_cell hk3 0
  have n1 : W3.cell? ⟨w3.heap.size, 1, none⟩ = some (.slice p3 n3 c3) := blk_cell hk3 1
  have HZ := Lib.hid (HS.out W3 _ _ (HL.out.on hb4) (hl3.on hbw))
  have HB3 := Lib.hid (HB2.out.trans (hb4.mono HB2.out.size))
  have HW3 := Lib.hid hW3
  rw [hW3] at m0 m1 n0 n1
  clear hl3 hb3 hbw hk3 hk2 hb4 hW3 HY HW HS
  go_wp2_with fail
  rw [← HW3.out]
  refine HZ.out.mono ?_
  rintro e w4 ⟨rfl, hb⟩
  have HE := Lib.hid (HB3.out.trans (hb.mono HB3.out.size))
  clear hb HZ
  go_wp2
  go_ret
  exact ⟨rfl, HE.out⟩
end Go.Proofs.YtpjcmahlnnglcaaGreatDoor
