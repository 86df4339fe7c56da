/- WScal9, WItems9: put together. -/
import Derived.Test.YtdahackmmhcjoaaGreatM12
import Derived.Test.YtdahackmmhcjoaaGreatM09
import Derived.Test.YtdahackmmhcjoaaGreatM03

/- The document's scalar. -/
namespace Go.Proofs.YtdahackmmhcjoaaGreat
open Go.RowKit

attribute [local go_sem] run_store_float

set_option maxRecDepth 100000 in
set_option maxHeartbeats 2000000 in
theorem scal_23 (i : Int) (b : Nat) (p : Option Addr) (n c : Nat) (w : World) : Calls Tryz.prog 33 #[.agg (cells5 2 i b ⟨#[]⟩ p n c), .int .i64 3] w (ValR w (if fromE i = 0 then .ok (.mk 3 0 (fromB i) ⟨#[]⟩ []) else .error 10)) := by
  unfold cells5
  obtain ⟨r, hr⟩ : ∃ r : Except Nat V, r = (if fromE i = 0 then .ok (.mk 3 0 (fromB i) ⟨#[]⟩ []) else .error 10) := ⟨_, rfl⟩
  rw [← hr]
  have HR := Lib.hid hr
  clear hr
  by_cases h0 : fromE i = 0
  · have HF : Hid (∀ w, Calls Tryz.prog 53 #[.int .i64 i] w fun e w' => e = .returned (.tuple #[.float .f64 (fromB i), .int .i64 0]) ∧ w' = w) := fun w => by have := refFromInt_any i w; rw [h0] at this; exact this
    have HR2 : Hid (r = .ok (.mk 3 0 (fromB i) ⟨#[]⟩ [])) := by show _ = _; rw [HR.out, if_pos h0]
    clear HR h0
    go_enter Tryz.func33, Tryz.ntmps33
    go_wp2_with fail
    refine (refFix_any b _).mono ?_
    rintro e w1 ⟨rfl, hw1⟩
    rw [hw1]
    clear hw1 w1
    go_wp2_with fail
    refine (HF.out _).mono ?_
    rintro e w1 ⟨rfl, hw1⟩
    rw [hw1]
    clear hw1 w1
    go_wp2
    refine end5 rfl rfl rfl rfl (al3 w _ _ _).2.1 rfl ?_
    rw [HR2.out]
    exact leaf_told (al3 w _ _ _).2.2.2.1
  · have h1 : fromE i = 10 := by
      unfold fromE at h0 ⊢
      split
      · next h => rw [if_pos h] at h0; exact absurd rfl h0
      · rfl
    have HF : Hid (∀ w, Calls Tryz.prog 53 #[.int .i64 i] w fun e w' => e = .returned (.tuple #[.float .f64 (fromB i), .int .i64 10]) ∧ w' = w) := fun w => by have := refFromInt_any i w; rw [h1] at this; exact this
    have HR2 : Hid (r = .error 10) := by show _ = _; rw [HR.out, if_neg h0]
    clear HR h0 h1
    go_enter Tryz.func33, Tryz.ntmps33
    go_wp2_with fail
    refine (refFix_any b _).mono ?_
    rintro e w1 ⟨rfl, hw1⟩
    rw [hw1]
    clear hw1 w1
    go_wp2_with fail
    refine (HF.out _).mono ?_
    rintro e w1 ⟨rfl, hw1⟩
    rw [hw1]
    clear hw1 w1
    go_wp2
    refine end5 rfl rfl rfl rfl (al3 w _ _ _).2.1 rfl ?_
    rw [HR2.out]
    exact ⟨rfl, (al3 w _ _ _).2.2.2.1⟩

set_option maxRecDepth 100000 in
set_option maxHeartbeats 2000000 in
theorem scal_32 (b : Nat) (p : Option Addr) (n c : Nat) (w : World) : Calls Tryz.prog 33 #[.agg (cells5 3 0 b ⟨#[]⟩ p n c), .int .i64 2] w (ValR w (if toE b = 0 then .ok (.mk 2 (toN b) 0 ⟨#[]⟩ []) else .error 10)) := by
  unfold cells5
  obtain ⟨r, hr⟩ : ∃ r : Except Nat V, r = (if toE b = 0 then .ok (.mk 2 (toN b) 0 ⟨#[]⟩ []) else .error 10) := ⟨_, rfl⟩
  rw [← hr]
  have HR := Lib.hid hr
  clear hr
  by_cases h0 : toE b = 0
  · have HF : Hid (∀ w, Calls Tryz.prog 54 #[.float .f64 b] w fun e w' => e = .returned (.tuple #[.int .i64 (toN b), .int .i64 0]) ∧ w' = w) := fun w => by have := refToInt_any b w; rw [h0] at this; exact this
    have HR2 : Hid (r = .ok (.mk 2 (toN b) 0 ⟨#[]⟩ [])) := by show _ = _; rw [HR.out, if_pos h0]
    clear HR h0
    go_enter Tryz.func33, Tryz.ntmps33
    go_wp2_with fail
    refine (refFix_any b _).mono ?_
    rintro e w1 ⟨rfl, hw1⟩
    rw [hw1]
    clear hw1 w1
    go_wp2_with fail
    refine (HF.out _).mono ?_
    rintro e w1 ⟨rfl, hw1⟩
    rw [hw1]
    clear hw1 w1
    go_wp2
    refine end5 rfl rfl rfl rfl (al3 w _ _ _).2.1 rfl ?_
    rw [HR2.out]
    exact leaf_told (al3 w _ _ _).2.2.2.1
  · have h1 : toE b = 10 := by
      unfold toE at h0 ⊢
      split
      · next h => rw [if_pos h] at h0; exact absurd rfl h0
      · rfl
    have HF : Hid (∀ w, Calls Tryz.prog 54 #[.float .f64 b] w fun e w' => e = .returned (.tuple #[.int .i64 (toN b), .int .i64 10]) ∧ w' = w) := fun w => by have := refToInt_any b w; rw [h1] at this; exact this
    have HR2 : Hid (r = .error 10) := by show _ = _; rw [HR.out, if_neg h0]
    clear HR h0 h1
    go_enter Tryz.func33, Tryz.ntmps33
    go_wp2_with fail
    refine (refFix_any b _).mono ?_
    rintro e w1 ⟨rfl, hw1⟩
    rw [hw1]
    clear hw1 w1
    go_wp2_with fail
    refine (HF.out _).mono ?_
    rintro e w1 ⟨rfl, hw1⟩
    rw [hw1]
    clear hw1 w1
    go_wp2
    refine end5 rfl rfl rfl rfl (al3 w _ _ _).2.1 rfl ?_
    rw [HR2.out]
    exact ⟨rfl, (al3 w _ _ _).2.2.2.1⟩

set_option maxRecDepth 100000 in
set_option maxHeartbeats 2000000 in
theorem scal_4 (j i : Int) (b : Nat) (t : ByteArray) (ht : t.size ≤ 281474976702464) (p : Option Addr) (n c : Nat) (w : World) (hj : j = 4 ∨ j = 5) : Calls Tryz.prog 33 #[.agg (cells5 j i b t p n c), .int .i64 4] w (ValR w (if utfT t = false then .error 61 else .ok (.mk 4 i (fixB b) t []))) := by
  unfold cells5
  obtain ⟨r, hr⟩ : ∃ r : Except Nat V, r = (if utfT t = false then .error 61 else .ok (.mk 4 i (fixB b) t [])) := ⟨_, rfl⟩
  rw [← hr]
  have HR := Lib.hid hr
  have HU : Hid (∀ w, Calls Tryz.prog 55 #[.string t] w fun e w' => e = .returned (.bool (utfT t)) ∧ w' = w) := fun w => refUtf6 t ht w
  have g2 : (j == 2) = false := by rw [beq_eq_false_iff_ne]; omega
  have g3 : (j == 3) = false := by rw [beq_eq_false_iff_ne]; omega
  clear hr ht hj
  cases hu : utfT t with
  | true =>
    have HR2 : Hid (r = .ok (.mk 4 i (fixB b) t [])) := by show _ = _; rw [HR.out, hu]; rfl
    rw [hu] at HU
    clear HR hu
    go_enter Tryz.func33, Tryz.ntmps33
    go_wp2_with fail
    refine (refFix_any b _).mono ?_
    rintro e w1 ⟨rfl, hw1⟩
    rw [hw1]
    clear hw1 w1
    go_wp2_with fail
    refine (HU.out _).mono ?_
    rintro e w1 ⟨rfl, hw1⟩
    rw [hw1]
    clear hw1 w1
    go_wp2
    refine end5 rfl rfl rfl rfl (al3 w _ _ _).2.1 rfl ?_
    rw [HR2.out]
    exact leaf_told (al3 w _ _ _).2.2.2.1
  | false =>
    have HR2 : Hid (r = .error 61) := by show _ = _; rw [HR.out, hu]; rfl
    rw [hu] at HU
    clear HR hu
    go_enter Tryz.func33, Tryz.ntmps33
    go_wp2_with fail
    refine (refFix_any b _).mono ?_
    rintro e w1 ⟨rfl, hw1⟩
    rw [hw1]
    clear hw1 w1
    go_wp2_with fail
    refine (HU.out _).mono ?_
    rintro e w1 ⟨rfl, hw1⟩
    rw [hw1]
    clear hw1 w1
    go_wp2
    refine end5 rfl rfl rfl rfl (al3 w _ _ _).2.1 rfl ?_
    rw [HR2.out]
    exact ⟨rfl, (al3 w _ _ _).2.2.2.1⟩

set_option maxRecDepth 100000 in
set_option maxHeartbeats 2000000 in
theorem scal_else (j k i : Int) (b : Nat) (t : ByteArray) (p : Option Addr) (n c : Nat) (w : World) (h1 : ¬ (j = 2 ∧ k = 3)) (h2 : ¬ (j = 3 ∧ k = 2)) (h3 : ¬ k = 4) : Calls Tryz.prog 33 #[.agg (cells5 j i b t p n c), .int .i64 k] w (ValR w (.ok (.mk k i (fixB b) t []))) := by
  unfold cells5
  have g4 := beq_f h3
  by_cases a2 : j = 2
  · have g2 := beq_t a2
    have g3 : (j == 3) = false := beq_f (by omega)
    have q3 : (k == 3) = false := beq_f (by omega)
    clear h1 h2 h3 a2
    go_enter Tryz.func33, Tryz.ntmps33
    go_wp2_with fail
    refine (refFix_any b _).mono ?_
    rintro e w1 ⟨rfl, hw1⟩
    rw [hw1]
    clear hw1 w1
    go_wp2
    refine end5 rfl rfl rfl rfl (al3 w _ _ _).2.1 rfl ?_
    exact leaf_told (al3 w _ _ _).2.2.2.1
  have g2 := beq_f a2
  by_cases a3 : j = 3
  · have g3 := beq_t a3
    have q3 : (k == 2) = false := beq_f (by omega)
    clear h1 h2 h3 a2 a3
    go_enter Tryz.func33, Tryz.ntmps33
    go_wp2_with fail
    refine (refFix_any b _).mono ?_
    rintro e w1 ⟨rfl, hw1⟩
    rw [hw1]
    clear hw1 w1
    go_wp2
    refine end5 rfl rfl rfl rfl (al3 w _ _ _).2.1 rfl ?_
    exact leaf_told (al3 w _ _ _).2.2.2.1
  have g3 := beq_f a3
  clear h1 h2 h3 a2 a3
  go_enter Tryz.func33, Tryz.ntmps33
  go_wp2_with fail
  refine (refFix_any b _).mono ?_
  rintro e w1 ⟨rfl, hw1⟩
  rw [hw1]
  clear hw1 w1
  go_wp2
  refine end5 rfl rfl rfl rfl (al3 w _ _ _).2.1 rfl ?_
  exact leaf_told (al3 w _ _ _).2.2.2.1

/-- P9.1, of a value without items that can be read so -/
theorem refScalar9 {dv : Nat} {j k i : Int} {b : Nat} {t : ByteArray} (p : Option Addr) (c : Nat) (w : World) (h : chk dv (.mk j i b t []) = 0) (hp : Rz.plain j k = true) : Calls Tryz.prog 33 #[.agg (cells5 j i b t p 0 c), .int .i64 k] w (ValR w (Rz.scalar k (.mk j i b t []))) := by
  obtain ⟨-, ho, ht, -, -, -⟩ := Sch.chk_open h
  obtain ⟨-, o2, o3, o4, -, -, -⟩ := Sch.own_open ho
  have hp' : j = k ∨ (j = 2 ∧ k = 3) ∨ (j = 3 ∧ k = 2) ∨ (j = 1 ∧ k = 2) ∨ (j = 4 ∧ k = 5) ∨ (j = 5 ∧ k = 4) := by
    unfold Rz.plain at hp
    simp only [Bool.and_eq_true, Bool.not_eq_true', beq_eq_false_iff_ne, ne_eq, Bool.or_eq_true, beq_iff_eq] at hp
    rcases hp.2 with ((((h | h) | h) | h) | h) | h
    · exact .inl h
    · exact .inr (.inl h)
    · exact .inr (.inr (.inl h))
    · exact .inr (.inr (.inr (.inl h)))
    · exact .inr (.inr (.inr (.inr (.inl h))))
    · exact .inr (.inr (.inr (.inr (.inr h))))
  unfold Rz.scalar
  by_cases c1 : j = 2 ∧ k = 3
  · rw [if_pos c1]
    have e3 : t = ⟨#[]⟩ := by
      rcases o4 with o4 | o4 | o4
      · omega
      · omega
      · exact o4
    obtain ⟨rfl, rfl⟩ := c1
    subst e3
    exact scal_23 i b p 0 c w
  rw [if_neg c1]
  by_cases c2 : j = 3 ∧ k = 2
  · rw [if_pos c2]
    have e3 : t = ⟨#[]⟩ := by
      rcases o4 with o4 | o4 | o4
      · omega
      · omega
      · exact o4
    have e1 : i = 0 := by omega
    obtain ⟨rfl, rfl⟩ := c2
    subst e3 e1
    exact scal_32 b p 0 c w
  rw [if_neg c2]
  by_cases c3 : k = 4
  · have hj : j = 4 ∨ j = 5 := by rcases hp' with h | h | h | h | h | h <;> omega
    subst c3
    have hh := scal_4 j i b t (by omega) p 0 c w hj
    show Calls _ _ _ _ (ValR w (if (4 : Int) = 4 ∧ utfT t = false then .error 61 else .ok (.mk 4 i (fixB b) t [])))
    simp only [true_and]
    exact hh
  · rw [if_neg (by rintro ⟨h4, -⟩; exact c3 h4)]
    exact scal_else j k i b t p 0 c w c1 c2 c3
end Go.Proofs.YtdahackmmhcjoaaGreat

/- The document's items. -/
namespace Go.Proofs.YtdahackmmhcjoaaGreat
open Go.RowKit

attribute [local go_sem] run_store_float

/-- a list and an error are answered -/
def SlR (w : World) (r : Except Nat (List V)) (e : Ending) (w' : World) : Prop := match r with
  | .error er => e = .returned (.tuple #[.slice none 0 0, .int .i64 (er : Nat)]) ∧ Below w.heap.size w w'
  | .ok ys => ∃ q c, e = .returned (.tuple #[.slice q ys.length c, .int .i64 0]) ∧ (∀ k i b t, VOwn w' (fun j => w.heap.size ≤ j ∧ j < w'.heap.size) (cells5 k i b t q ys.length c) (.mk k i b t ys)) ∧ Below w.heap.size w w'

set_option maxRecDepth 100000 in
set_option maxHeartbeats 4000000 in
theorem refItems9 (xs : List V) (kb ka : Int) (f : V → Except Nat V) (pa : Option Addr) (na ca : Nat) (p : Option Addr) (c : Nat) (pb : Option Addr) (nb cb : Nat) (w : World)
    (hne : ∀ x ∈ xs, ∀ e, f x = .error e → e ≠ 0)
    (hC : ∀ x ∈ xs, ∀ w' u, Below w.heap.size w w' → VLies w' u x → Calls Tryz.prog 16 #[.agg u, .agg (cells2 ka pa na ca), .agg (cells2 kb pb nb cb)] w' (ValR w' (f x)))
    (hx : Items w p xs) (hl : xs.length * 64 ≤ 140737488351232) :
    Calls Tryz.prog 34 #[.slice p xs.length c, .agg (cells2 ka pa na ca), .agg (cells2 kb pb nb cb)] w (SlR w (Rz.allR f xs)) := by
  obtain ⟨r, hr⟩ : ∃ r, r = Rz.allR f xs := ⟨_, rfl⟩
  rw [← hr]
  have HR := Lib.hid hr
  obtain ⟨W0, hW0⟩ : ∃ W0, W0 = (w.alloc (.cells #[.int .i64 ka, .slice pa na ca] 42)).alloc (.cells #[.int .i64 kb, .slice pb nb cb] 42) := ⟨_, rfl⟩
  obtain ⟨l0, l1, lb, ls⟩ := al2 w (.cells #[.int .i64 ka, .slice pa na ca] 42) (.cells #[.int .i64 kb, .slice pb nb cb] 42)
  rw [← hW0] at l0 l1 lb ls
  have HW0 := Lib.hid hW0
  have HB0 := Lib.hid lb
  have HS0 := Lib.hid ls
  have HL := Lib.hid (And.intro l0 l1)
  have HNe := Lib.hid hne
  have HC := Lib.hid hC
  have HX := Lib.hid hx
  unfold cells2 at HC ⊢
  clear hr hW0 l0 l1 lb ls hne hC hx
  go_enter Tryz.func34, Tryz.ntmps34
  go_wp2_with fail
  rw [← HW0.out]
  clear HW0
  go_loopw [8, 9] (fun v8 v9 wr => ∃ (zs : List V) (j : Nat) (q9 : Option Addr) (d9 : Nat), j ≤ xs.length ∧ v9 = .int .i64 j ∧ v8 = .slice q9 j d9 ∧ Hid (zs.length = j ∧ Grow W0 (.slice q9 j d9) zs wr ∧ Rz.allR f (xs.take j) = .ok zs)) (fun _ v9 _ => xs.length - (intOf v9).toNat)
  case atStart => exact ⟨[], 0, none, 0, by omega, rfl, rfl, rfl, grow_nil W0, rfl⟩
  case round =>
    obtain ⟨zs, j, q9, d9, hj, rfl, rfl, HG⟩ := hrel
    have HK : Hid (Below W0.heap.size W0 wr) := HG.out.2.1.keep
    have HBw : Hid (Below w.heap.size w wr) := HB0.out.trans (HK.out.mono (by have := HS0.out; omega))
    by_cases hlt : j < xs.length
    · obtain ⟨ux, hvx, hix⟩ := HX.out j hlt
      obtain ⟨bx, ox, kx, ix, fx, tx, qx, nx, cx, rfl, _, rfl, a0, a1, a2, a3, a4⟩ := (hix.on HBw.out).lies
      have hj1 : (j : Int) < (xs.length : Int) := by omega
      have HBa : Hid (Below wr.heap.size wr wr) := Below.refl _ _
      obtain ⟨rx, hrx⟩ : ∃ rx, rx = f xs[j] := ⟨_, rfl⟩
      have HRx := Lib.hid hrx
      have HCx : Hid (∀ W', Below wr.heap.size wr W' → Calls Tryz.prog 16 #[.agg #[.int .i64 kx, .int .i64 ix, .float .f64 fx, .string tx, .slice qx nx cx], .agg #[.int .i64 ka, .slice pa na ca], .agg #[.int .i64 kb, .slice pb nb cb]] W' (ValR W' rx)) := fun W' hb => by
        rw [hrx]
        exact HC.out _ (List.getElem_mem hlt) W' _ (HBw.out.trans (hb.mono HBw.out.size)) ((hvx.on HBw.out).on hb)
      have HRd : Hid (∀ W', Below wr.heap.size wr W' → (W'.cell? ⟨w.heap.size, 0, none⟩ = some (.int .i64 ka) ∧ W'.cell? ⟨w.heap.size, 1, none⟩ = some (.slice pa na ca) ∧ W'.cell? ⟨w.heap.size + 1, 0, none⟩ = some (.int .i64 kb) ∧ W'.cell? ⟨w.heap.size + 1, 1, none⟩ = some (.slice pb nb cb)) ∧ (W'.cell? ⟨bx, ox + j * 5, none⟩ = some (.int .i64 kx) ∧ W'.cell? ⟨bx, ox + j * 5 + 1, none⟩ = some (.int .i64 ix) ∧ W'.cell? ⟨bx, ox + j * 5 + 2, none⟩ = some (.float .f64 fx) ∧ W'.cell? ⟨bx, ox + j * 5 + 3, none⟩ = some (.string tx) ∧ W'.cell? ⟨bx, ox + j * 5 + 4, none⟩ = some (.slice qx nx cx))) := fun W' hb => by
        have hk := HK.out.trans (hb.mono HK.out.size)
        exact ⟨⟨blk_at HL.out.1 hk 0, blk_at HL.out.1 hk 1, blk_at HL.out.2 hk 0, blk_at HL.out.2 hk 1⟩, ⟨cell_on hb a0, cell_on hb a1, cell_on hb a2, cell_on hb a3, cell_on hb a4⟩⟩
      obtain ⟨⟨m0, m1, m2, m3⟩, -⟩ := HRd.out wr (Below.refl _ _)
      have HRa := fun o => HRd.out (wr.alloc o) ((Below.refl _ _).alloc (Nat.le_refl _) o)
      have m0a := fun o => (HRa o).1.1
      have m1a := fun o => (HRa o).1.2.1
      have m2a := fun o => (HRa o).1.2.2.1
      have m3a := fun o => (HRa o).1.2.2.2
      have o0a := fun o => (HRa o).2.1
      have o1a := fun o => (HRa o).2.2.1
      have o2a := fun o => (HRa o).2.2.2.1
      have o3a := fun o => (HRa o).2.2.2.2.1
      have o4a := fun o => (HRa o).2.2.2.2.2
      clear hrx hvx hix HRa HRd
      go_wp2_with fail
      go_cut [10, 11] from 12 to 34 (fun v10 v11 wx => ∃ (gb : Nat) (er : Int), v10 = .pointer (some ⟨gb, 0, none⟩) ∧ v11 = .int .i64 er ∧ Hid (Told5 wr wx gb er rx))
      case first =>
        go_region_law (first
          | (refine step_call3g (.tmp 22) (.tmp 23) (.tmp 24) 35 42 42 (by rfl) (by rfl) (by rfl) (by rfl) (by rfl) Tryz.func16 (by kernel_rfl) (by rfl) (HCx.out _ HBa.out.drew) ?_
             intro e w2 hh
             obtain ⟨k5, i5, b5, t5, p5, n5, c5, er, he, hb2, hv2⟩ := hh.any
             unfold cells5 at he
             refine ⟨_, he, ?_⟩
             have HTd : Hid (Told5 wr (w2.alloc (.cells #[.int .i64 k5, .int .i64 i5, .float .f64 b5, .string t5, .slice p5 n5 c5] 35)) w2.heap.size er rx) := told5_new HBa.out hb2 hv2
             clear he hh hb2 hv2)
          | (refine step_call3g (.tmp 22) (.tmp 23) (.tmp 24) 35 42 42 (by rfl) (by rfl) (by rfl) (by rfl) (by rfl) Tryz.func16 (by kernel_rfl) (by rfl) (HCx.out _ (by first | exact (HBa.out.alloc HBa.out.size _).drew | exact HBa.out.drew.alloc HBa.out.size _)) ?_
             intro e w2 hh
             obtain ⟨k5, i5, b5, t5, p5, n5, c5, er, he, hb2, hv2⟩ := hh.any
             unfold cells5 at he
             refine ⟨_, he, ?_⟩
             have hbk : w2.heap[wr.heap.size]? = some (.cells #[.int .i64 0, .int .i64 0, .float .f64 0, .string ⟨#[]⟩, .slice none 0 0] 35 (0, 0)) := (hb2.block _ (blk_lt (blk_new wr _))).trans (blk_new wr _)
             have v0 : w2.cell? ⟨wr.heap.size, 0, none⟩ = some (.int .i64 0) := blk_cell hbk 0
             have v1 : w2.cell? ⟨wr.heap.size, 1, none⟩ = some (.int .i64 0) := blk_cell hbk 1
             have v2 : w2.cell? ⟨wr.heap.size, 2, none⟩ = some (.float .f64 0) := blk_cell hbk 2
             have v3 : w2.cell? ⟨wr.heap.size, 3, none⟩ = some (.string ⟨#[]⟩) := blk_cell hbk 3
             have v4 : w2.cell? ⟨wr.heap.size, 4, none⟩ = some (.slice none 0 0) := blk_cell hbk 4
             have z0 := blk_free hbk 0
             have z1 := blk_free hbk 1
             have z2 := blk_free hbk 2
             have z3 := blk_free hbk 3
             have z4 := blk_free hbk 4
             have hT := told5_old HBa.out hbk hb2 hv2
             unfold put5 at hT
             have HTd := Lib.hid hT
             clear he hh hb2 hv2 hbk hT)
          | fail)
        all_goals (try go_wp2_with fail)
        all_goals go_meet
        all_goals exact ⟨_, _, rfl, rfl, HTd⟩
      case rest =>
        obtain ⟨gb, er, rfl, rfl, HTd⟩ := hcut
        have HB3 := Lib.hid HTd.out.below
        clear m0 m1 m2 m3 m0a m1a m2a m3a o0a o1a o2a o3a o4a HCx a0 a1 a2 a3 a4
        cases rx with
        | error er' =>
          have hz : er' ≠ 0 := HNe.out _ (List.getElem_mem hlt) er' HRx.out.symm
          have hee : er = (er' : Nat) := HTd.out.told
          subst hee
          have hzb : ((er' : Int) != 0) = true := bne_t (by omega)
          have HRe : Hid (r = .error er') := by
            show _ = _
            rw [HR.out, Rz.allR_err xs j hlt HG.out.2.2 HRx.out.symm]
          have HBW : Hid (Below w.heap.size w wc) := HBw.out.trans (HB3.out.mono HBw.out.size)
          clear hz HR
          go_wp2
          go_ret2
          rw [HRe.out]
          exact ⟨rfl, HBW.out⟩
        | ok x9 =>
          obtain ⟨hee, k5, i5, b5, t5, p5, n5, c5, hk3, hv3⟩ := HTd.out.told
          subst hee
          have HRt : Hid (Rz.allR f (xs.take (j + 1)) = .ok (zs ++ [x9])) := Rz.allR_step xs j hlt HG.out.2.2 HRx.out.symm
          obtain ⟨us, Fs, hbt⟩ := HG.out.2.1.built
          have HBt := Lib.hid hbt
          have HGr := Lib.hid HG.out.2.1
          have hzl := HG.out.1
          have HRow : Hid (∀ W', Below wr.heap.size wr W' → W'.ownsRow W0.heap.size 35 5 (.slice q9 j d9) j (flat us j)) := fun W' hb => by
            have := (hbt.on hb).row
            rw [hzl] at this
            exact this
          have f0 := blk_cell hk3 0
          have f1 := blk_cell hk3 1
          have f2 := blk_cell hk3 2
          have f3 := blk_cell hk3 3
          have f4 := blk_cell hk3 4
          have hs3 := HB3.out.size
          have HV3 := Lib.hid hv3
          unfold cells5 at HV3
          have HB4 : Hid (Below wc.heap.size wc (wc.alloc (.cells #[.int .i64 k5, .int .i64 i5, .float .f64 b5, .string t5, .slice p5 n5 c5] 35))) := (Below.refl _ _).alloc (Nat.le_refl _) _
          have HB4w : Hid (Below wr.heap.size wr (wc.alloc (.cells #[.int .i64 k5, .int .i64 i5, .float .f64 b5, .string t5, .slice p5 n5 c5] 35))) := HB3.out.alloc HB3.out.size _
          have hsz := HK.out.size
          clear hbt hk3 hv3
          go_wp2_with (at_builtin; refine wp_more (B := W0.heap.size) (us := us) (HRow.out _ HB4w.out) (u := #[.int .i64 k5, .int .i64 i5, .float .f64 b5, .string t5, .slice p5 n5 c5]) rfl (one5 HV3.out) (ad := wc.heap.size) (blk_new wc _) (by omega) (by simp; omega) rfl rfl rfl rfl rfl ?_
                       intro g2 cap2 w4 hr4 hg4 hn4
                       have HMK : Hid ((zs ++ [x9]).length = j + 1 ∧ Grow W0 (.slice (some ⟨g2, 0, none⟩) (j + 1) cap2) (zs ++ [x9]) w4 ∧ Rz.allR f (xs.take (j + 1)) = .ok (zs ++ [x9])) := by
                         subst hzl
                         exact ⟨by simp, HGr.out.next HBt.out HB3.out HV3.out (fun _ h => h) HB4.out hr4 hg4 hn4, HRt.out⟩
                       clear hr4 hg4 hn4)
          go_roundw
          case rel => exact ⟨zs ++ [x9], j + 1, _, _, by omega, by go_num, rfl, HMK⟩
          case measure => simp [intOf]; omega
    · have hjn : ¬ (j : Int) < (xs.length : Int) := by omega
      have hjj : j = xs.length := by omega
      have HRe : Hid (r = .ok zs) := by
        have h3 := HG.out.2.2
        rw [hjj, List.take_length] at h3
        show _ = _
        rw [HR.out, h3]
      have HZ : Hid (SlR w (.ok zs) (.returned (.tuple #[.slice q9 j d9, .int .i64 0])) wr) := by
        have h1 := HG.out.1
        have h2 := HG.out.2.1
        rw [← h1] at h2 ⊢
        exact ⟨_, _, rfl, fun k i b t => (h2.done (by omega) k i b t).mono fun m hm => by have := HS0.out; omega, HBw.out⟩
      clear hjj HG HR
      go_wp2
      go_ret2
      rw [HRe.out]
      exact HZ.out
end Go.Proofs.YtdahackmmhcjoaaGreat
