/- K11B, K11C: put together. -/
import Derived.Test.YtpkbdnilakaakaaGreatM47
import Derived.Test.YtpkbdnilakaakaaGreatM14
import Derived.Test.YtpkbdnilakaakaaGreatM26

/- The landed batch: rows that are gone through by a function, encoded. -/
namespace Go.Proofs.YtpkbdnilakaakaaGreat
open Go.RowKit Go.Shelf

attribute [local go_sem] run_store_float Oper.semAt_some

theorem boxed_cell {w : World} {b : Nat} {v : Value} {T : TypeId} (h : w.heap[b]? = some (.cells #[v] T (0, 0))) : w.cell? ⟨b, 0, none⟩ = some v := by simp [World.cell?, h]
theorem boxed_free {w : World} {b : Nat} {v : Value} {T : TypeId} (h : w.heap[b]? = some (.cells #[v] T (0, 0))) : w.frozen? ⟨b, 0, none⟩ = false := by simp [World.frozen?, h]
/-- rows that are handed over -/
structure RowsL (w : World) (p : Option Addr) (c : Nat) (l : List (List V)) : Prop where
  len : l.length * 24 ≤ 140737488351232
  cap : l.length ≤ c
  rows : ∀ j (hj : j < l.length), ∃ b o q d, p = some ⟨b, o, none⟩ ∧ b < w.heap.size ∧ w.cell? ⟨b, o + j, none⟩ = some (.slice q l[j].length d) ∧ RLies w q d l[j]
theorem RowsL.on {w w' : World} {p : Option Addr} {c : Nat} {l : List (List V)} (h : RowsL w p c l) (hb : Below w.heap.size w w') : RowsL w' p c l :=
  ⟨h.len, h.cap, fun j hj => by
    obtain ⟨b, o, q, d, h1, h2, h3, h4⟩ := h.rows j hj
    exact ⟨b, o, q, d, h1, by have := hb.size; omega, cell_on hb h3, h4.on hb⟩⟩

set_option maxRecDepth 100000 in
set_option maxHeartbeats 2000000 in
theorem encoded1K (HE : ∀ (s : List Col) (p : Option Addr) (c : Nat) (vs : List V) (q : Option Addr) (d : Nat) (w : World), SchL w p c s → RLies w q d vs → Calls Tryz.prog 50 #[.agg #[.slice p s.length c], .agg #[.slice q vs.length d]] w (Told w (Rw.err s vs) (Rw.out s vs)))
    (s : List Col) (p : Option Addr) (c : Nat) (l : List (List V)) (q : Option Addr) (d : Nat) (sb lb : Nat)
    (L : Nat) (J : Nat → World → Prop) (X : Nat → World → Prop) (W : World) (hJb : ∀ i W, J i W → SchL W p c s ∧ RowsL W q d l ∧ W.heap[sb]? = some (.cells #[.slice p s.length c] 24 (0, 0)) ∧ W.heap[lb]? = some (.cells #[.slice q l.length d] 25 (0, 0))) (hJn : ∀ i W W', J i W → Below W.heap.size W W' → J i W') (h0 : J 0 W)
    (good : ∀ m i (h : i < l.length) W qq cap, J i W → (∀ j (h : j < l.length), j < i → Rw.err s l[j] = 0) → Rw.err s l[i] = 0 → At W qq (Rw.bytes l[i]) → YieldAt Fence.wide m Tryz.prog L #[.slice qq (Rw.bytes l[i]).length cap, .int .i64 0] W fun e W' => ∃ b, e = .returned (.bool b) ∧ b = true ∧ J (i + 1) W')
    (bad : ∀ m i (h : i < l.length) W qq cap, J i W → Rw.err s l[i] ≠ 0 → YieldAt Fence.wide m Tryz.prog L #[.slice qq 0 cap, .int .i64 (Rw.err s l[i] : Nat)] W fun e W' => ∃ b, e = .returned (.bool b) ∧ b = false ∧ X (Rw.err s l[i]) W') :
    Calls Tryz.prog 49 #[.func (.yield L) #[] #[], .pointer (some ⟨lb, 0, none⟩), .pointer (some ⟨sb, 0, none⟩)] W fun e W' => (∃ v, e = .returned v) ∧ ((Bt.rowsErr s l = 0 ∧ J l.length W') ∨ (Bt.rowsErr s l ≠ 0 ∧ X (Bt.rowsErr s l) W')) := by
  have hlen := (hJb 0 W h0).2.1.len
  have HJb := Lib.hid hJb
  have HJn := Lib.hid hJn
  have H0 := Lib.hid h0
  have HG := Lib.hid good
  have HBd := Lib.hid bad
  have HEn := Lib.hid HE
  have n0 := boxed_cell (hJb 0 W h0).2.2.2
  clear hJb hJn h0 good bad HE
  refine (callsIn_wide (n := 3)).1 ?_
  refine callsIn_of_wp Tryz.func49 rfl trivial ?_ rfl
  simp only [Tryz.ntmps49, List.size_toArray, List.length_cons, List.length_nil, Nat.reduceAdd, Nat.reduceSub, Array.replicate_succ, Array.replicate_zero, List.push_toArray, List.append_toArray, List.nil_append, List.cons_append]
  gi_wp2
  gi_loopw [10] (fun v10 wr => ∃ i : Nat, i ≤ l.length ∧ v10 = .int .i64 i ∧ Hid ((∀ j (h : j < l.length), j < i → Rw.err s l[j] = 0) ∧ J i wr)) (fun v10 _ => l.length - (intOf v10).toNat)
  case atStart => exact ⟨0, by omega, rfl, fun j _ h => by omega, H0.out⟩
  case round =>
    clear n0
    obtain ⟨i, hi, rfl, HK⟩ := hrel
    obtain ⟨hS0, hL0, hsb0, hlb0⟩ := HJb.out i wr HK.out.2
    by_cases hlt : i < l.length
    · have hlt' : (i : Int) < (l.length : Int) := by omega
      obtain ⟨b, o, qr, dr, rfl, hbl, c0, hR⟩ := hL0.rows i hlt
      have HR := Lib.hid hR
      have HS := Lib.hid hS0
      obtain ⟨wa, hwa⟩ : ∃ wa, wa = wr.alloc (.cells #[.slice qr l[i].length dr] 41) := ⟨_, rfl⟩
      have hba : Below wr.heap.size wr wa := by rw [hwa]; exact (Below.refl _ _).alloc (Nat.le_refl _) _
      have n1 := fun o => cell_on ((Below.refl wr.heap.size wr).alloc (Nat.le_refl _) o) (boxed_cell hsb0)
      have HBa := Lib.hid hba
      have HWA := Lib.hid hwa
      clear hwa hba hR hS0 hL0 hsb0 hlb0
      gi_wp2
      refine ⟨trivial, ?_⟩
      refine (callsIn_wide.2 (HEn.out s p c l[i] qr dr _ (HS.out.on ?_) (HR.out.on ?_))).mono ?_
      · rw [← HWA.out]; exact HBa.out
      · rw [← HWA.out]; exact HBa.out
      rintro e w1 ⟨q1, c1, rfl, hA1, hc1, hb1⟩
      rw [← HWA.out] at hb1
      have HJ1 := Lib.hid (HJn.out i wr w1 HK.out.2 (HBa.out.trans (hb1.mono HBa.out.size)))
      obtain ⟨er, her⟩ : ∃ er, er = Rw.err s l[i] := ⟨_, rfl⟩
      by_cases he : Rw.err s l[i] = 0
      · have hout : Rw.out s l[i] = Rw.bytes l[i] := by unfold Rw.out; rw [if_pos he]
        rw [hout] at hA1 hc1 ⊢
        rw [he]
        obtain ⟨fn, tmps, assign, body, hy, hR1⟩ := HG.out 2 i hlt w1 q1 c1 HJ1.out HK.out.1 he hA1
        have HE0 := Lib.hid he
        clear hout hA1 he her
        gi_wp2
        refine hR1.mono ?_
        rintro e w2 ⟨bb, rfl, rfl, hJ2⟩
        have HJ2 := Lib.hid hJ2
        clear hJ2
        gi_wp2
        go_roundw
        case rel =>
          refine ⟨i + 1, by omega, by go_num, fun j hj hji => ?_, HJ2.out⟩
          by_cases hje : j = i
          · subst hje; exact HE0.out
          · exact HK.out.1 j hj (by omega)
        case measure => simp [intOf]; omega
      · have hout : Rw.out s l[i] = [] := by unfold Rw.out; rw [if_neg he]
        rw [hout] at hA1 hc1 ⊢
        have hy0 := HBd.out 2 i hlt w1 q1 c1 HJ1.out he
        have HE0 := Lib.hid (Bt.rowsErr_at i hlt HK.out.1 he)
        have HNe := Lib.hid he
        rw [← her] at hy0 he HE0 HNe ⊢
        obtain ⟨fn, tmps, assign, body, hy, hR1⟩ := hy0
        clear hout hA1 her
        gi_wp2
        refine hR1.mono ?_
        rintro e w2 ⟨bb, rfl, rfl, hX2⟩
        have HX2 := Lib.hid hX2
        clear hX2
        gi_wp2
        refine bodyPost_ret (results_none rfl _ _ _) rfl ?_
        exact ⟨⟨_, rfl⟩, .inr ⟨by rw [HE0.out]; exact HNe.out, by rw [HE0.out]; exact HX2.out⟩⟩
    · have hie : i = l.length := by omega
      subst hie
      gi_wp2
      go_end0
      exact ⟨⟨_, rfl⟩, .inl ⟨Bt.rowsErr_all (fun j hj => HK.out.1 j hj hj), HK.out.2⟩⟩
end Go.Proofs.YtpkbdnilakaakaaGreat

/- The landed batch: what is asked of a schema and of how many rows there are. -/
namespace Go.Proofs.YtpkbdnilakaakaaGreat
open Go.RowKit

attribute [local go_sem] run_store_float

/-- package row's functions, as batch calls them -/
structure RowsIn : Prop where
  encode : ∀ (s : List Col) (p : Option Addr) (c : Nat) (vs : List V) (q : Option Addr) (d : Nat) (w : World), SchL w p c s → RLies w q d vs → Calls Tryz.prog 50 #[.agg #[.slice p s.length c], .agg #[.slice q vs.length d]] w (Told w (Rw.err s vs) (Rw.out s vs))
  decode : ∀ (s : List Col) (p : Option Addr) (c : Nat) (l : List UInt8) (q : Option Addr) (d : Nat) (a : Int) (w : World), SchL w p c s → l.length ≤ 140737488351232 → l.length ≤ d → At w q l → -9223372036854775808 ≤ a → a ≤ 9223372036854775807 → Calls Tryz.prog 47 #[.agg #[.slice p s.length c], .slice q l.length d, .int .i64 a] w (RowA w (Rw.read s l a))

set_option maxRecDepth 100000 in
set_option maxHeartbeats 1000000 in
theorem checkSchemaK (HR : RowsIn) (s : List Col) (p : Option Addr) (c : Nat) (w : World) (hS : SchL w p c s) :
    Calls Tryz.prog 45 #[.agg #[.slice p s.length c]] w fun e w' => e = .returned (.int .i64 (Sch.err s : Nat)) ∧ Below w.heap.size w w' := by
  obtain ⟨W0, hW0⟩ : ∃ W0, W0 = w.alloc (.cells #[.slice p s.length c] 24) := ⟨_, rfl⟩
  have hb0 : Below w.heap.size w W0 := by rw [hW0]; exact (Below.refl _ _).alloc (Nat.le_refl _) _
  have hD := HR.decode s p c [] none 0 (-1) W0 (hS.on hb0) (by simp) (by simp) (.inl rfl) (by omega) (by omega)
  rw [Bt.read_none] at hD
  obtain ⟨er, her⟩ : ∃ er, er = Sch.err s := ⟨_, rfl⟩
  have hne := Bt.schErr_ne s
  rw [← her] at hD hne ⊢
  have HD := Lib.hid hD
  have HB := Lib.hid hb0
  have HW := Lib.hid hW0
  clear hD hb0 hW0 her
  go_enter Tryz.func45, Tryz.ntmps45
  go_wp2_with fail
  rw [← HW.out]
  refine HD.out.mono ?_
  rintro e w1 ⟨rfl, hb1⟩
  have HB1 := Lib.hid (HB.out.trans (hb1.mono HB.out.size))
  clear hb1
  by_cases h0 : er = 0
  · rw [if_pos h0]
    have HE := Lib.hid h0
    clear h0
    go_wp2
    go_ret
    exact ⟨by rw [HE.out]; rfl, HB1.out.alloc HB1.out.size _⟩
  · rw [if_neg h0]
    have g0 : ((er : Int) != 30) = true := bne_t (by omega)
    go_wp2
    go_ret
    exact ⟨rfl, HB1.out.alloc HB1.out.size _⟩

set_option maxRecDepth 100000 in
set_option maxHeartbeats 1000000 in
theorem checkBK (HR : RowsIn) (s : List Col) (p : Option Addr) (c : Nat) (n : Int) (w : World) (hS : SchL w p c s) :
    Calls Tryz.prog 28 #[.agg #[.slice p s.length c], .int .i64 n] w fun e w' => e = .returned (.int .i64 (Bt.numErr s n : Nat)) ∧ Below w.heap.size w w' := by
  obtain ⟨W0, hW0⟩ : ∃ W0, W0 = w.alloc (.cells #[.slice p s.length c] 24) := ⟨_, rfl⟩
  have hb0 : Below w.heap.size w W0 := by rw [hW0]; exact (Below.refl _ _).alloc (Nat.le_refl _) _
  have HD := Lib.hid (checkSchemaK HR s p c W0 (hS.on hb0))
  obtain ⟨R, hR⟩ : ∃ R, R = Bt.numErr s n := ⟨_, rfl⟩
  rw [← hR]
  unfold Bt.numErr at hR
  obtain ⟨er, her⟩ : ∃ er, er = Sch.err s := ⟨_, rfl⟩
  rw [← her] at HD hR
  have HB := Lib.hid hb0
  have HW := Lib.hid hW0
  have HRR := Lib.hid hR
  clear hb0 hW0 her hR
  go_enter Tryz.func28, Tryz.ntmps28
  go_wp2_with fail
  rw [← HW.out]
  refine HD.out.mono ?_
  rintro e w1 ⟨rfl, hb1⟩
  have HB1 := Lib.hid (HB.out.trans (hb1.mono HB.out.size))
  clear hb1
  by_cases h0 : er ≠ 0
  · have g0 : ((er : Int) != 0) = true := bne_t (by omega)
    have HE : Hid (R = er) := HRR.out.trans (if_pos h0)
    clear HRR h0
    go_wp2
    go_ret
    rw [HE.out]
    exact ⟨rfl, HB1.out⟩
  have g0 : ((er : Int) != 0) = false := bne_f (by omega)
  have HR1 := Lib.hid (HRR.out.trans (if_neg h0))
  clear HRR h0
  by_cases h1 : n < 1
  · have HE : Hid (R = 4) := HR1.out.trans (if_pos h1)
    clear HR1
    go_wp2
    go_ret
    exact ⟨by rw [HE.out]; rfl, HB1.out⟩
  have HR2 := Lib.hid (HR1.out.trans (if_neg h1))
  clear HR1
  by_cases h2 : 64 < n
  · have HE : Hid (R = 3) := HR2.out.trans (if_pos h2)
    clear HR2
    go_wp2
    go_ret
    exact ⟨by rw [HE.out]; rfl, HB1.out⟩
  · have HE : Hid (R = 0) := HR2.out.trans (if_neg h2)
    clear HR2
    go_wp2
    go_ret
    exact ⟨by rw [HE.out]; rfl, HB1.out⟩
end Go.Proofs.YtpkbdnilakaakaaGreat
