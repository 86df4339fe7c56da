/- KSame, WColR, WBytesR, K7Eight, WValR, WSchR, WReadR, WScalR: put together. -/
import Derived.Test.YticmkgbjannkkaaM06
import Derived.Test.YticmkgbjannkkaaM05
import Derived.Test.YticmkgbjannkkaaM10
import Derived.Test.YticmkgbjannkkaaM02
import Derived.Test.YticmkgbjannkkaaM04
import Derived.Test.YticmkgbjannkkaaM09

/- Package value's Same and SameRow. -/
namespace Go.Proofs.Yticmkgbjannkkaa
open Go.RowKit

attribute [local go_sem] run_store_float

set_option maxRecDepth 100000 in
set_option maxHeartbeats 1000000 in
theorem sameK : ∀ (x y : V) (w : World) (u v : Array Value), VLies w u x → VLies w v y → Calls Try.prog 74 #[.agg u, .agg v] w fun e w' => e = .returned (.bool (V.same x y)) ∧ Below w.heap.size w w' := by
  intro x
  refine V.ind (P := fun x => ∀ (y : V) (w : World) (u v : Array Value), VLies w u x → VLies w v y → Calls Try.prog 74 #[.agg u, .agg v] w fun e w' => e = .returned (.bool (V.same x y)) ∧ Below w.heap.size w w') ?_ x
  rintro k i b t xs ih ⟨k', i', b', t', ys⟩ w u v hx hy
  obtain ⟨p, c, rfl, hxl, hxc, hxi⟩ := hx.open
  obtain ⟨q, d, rfl, hyl, hyc, hyi⟩ := hy.open
  unfold cells5
  have hB2 : Below w.heap.size w ((w.alloc (.cells #[.int .i64 k, .int .i64 i, .float .f64 b, .string t, .slice p xs.length c] 53)).alloc (.cells #[.int .i64 k', .int .i64 i', .float .f64 b', .string t', .slice q ys.length d] 53)) := ((Below.refl _ _).alloc (Nat.le_refl _) _).alloc (by simp) _
  have HB2 := Lib.hid hB2
  clear hB2 hx hy
  by_cases h1 : ¬ k = k'
  · have g1 := bne_t h1
    have HE : Hid (V.same (.mk k i b t xs) (.mk k' i' b' t' ys) = false) := by show _ = _; simp [V.same_mk, h1]
    clear ih hxi hyi h1
    go_enter Try.func74, Try.ntmps74
    go_wp2
    go_ret
    exact ⟨by rw [HE.out]; rfl, HB2.out⟩
  replace h1 : k = k' := Classical.not_not.1 h1
  have g1 := bne_f h1
  by_cases h2 : ¬ i = i'
  · have g2 := bne_t h2
    have HE : Hid (V.same (.mk k i b t xs) (.mk k' i' b' t' ys) = false) := by show _ = _; simp [V.same_mk, h2]
    clear ih hxi hyi h1 h2
    go_enter Try.func74, Try.ntmps74
    go_wp2
    go_ret
    exact ⟨by rw [HE.out]; rfl, HB2.out⟩
  replace h2 : i = i' := Classical.not_not.1 h2
  have g2 := bne_f h2
  by_cases h3 : ¬ t = t'
  · have g3 : (t.toList == t'.toList) = false := by rw [text_eq, decide_eq_false h3]
    have HE : Hid (V.same (.mk k i b t xs) (.mk k' i' b' t' ys) = false) := by show _ = _; simp [V.same_mk, h3]
    clear ih hxi hyi h1 h2 h3
    go_enter Try.func74, Try.ntmps74
    go_wp2
    go_ret
    exact ⟨by rw [HE.out]; rfl, HB2.out⟩
  replace h3 : t = t' := Classical.not_not.1 h3
  have g3 : (t.toList == t'.toList) = true := by rw [text_eq, decide_eq_true h3]
  have HRS := Lib.hid (realSame_any b b')
  by_cases h4 : ¬ fixB b = fixB b'
  · have g4 : ((fixB b : Int) == (fixB b' : Int)) = false := beq_f (by omega)
    rw [g4] at HRS
    have HE : Hid (V.same (.mk k i b t xs) (.mk k' i' b' t' ys) = false) := by show _ = _; simp [V.same_mk, h4]
    clear ih hxi hyi h1 h2 h3 h4
    go_enter Try.func74, Try.ntmps74
    go_wp2_with fail
    refine (HRS.out _).mono ?_
    rintro e w1 ⟨rfl, hw1⟩
    rw [hw1]
    clear hw1 w1
    go_wp2
    go_ret
    exact ⟨by rw [HE.out]; rfl, HB2.out⟩
  replace h4 : fixB b = fixB b' := Classical.not_not.1 h4
  have g4 : ((fixB b : Int) == (fixB b' : Int)) = true := beq_t (by omega)
  rw [g4] at HRS
  by_cases h5 : ¬ xs.length = ys.length
  · have g5 : ((xs.length : Int) != (ys.length : Int)) = true := bne_t (by omega)
    have HE : Hid (V.same (.mk k i b t xs) (.mk k' i' b' t' ys) = false) := by show _ = _; simp [V.same_mk, V.sameL_ne xs ys h5]
    clear ih hxi hyi h1 h2 h3 h4 h5
    go_enter Try.func74, Try.ntmps74
    go_wp2_with fail
    refine (HRS.out _).mono ?_
    rintro e w1 ⟨rfl, hw1⟩
    rw [hw1]
    clear hw1 w1
    go_wp2
    go_ret
    exact ⟨by rw [HE.out]; rfl, HB2.out⟩
  replace h5 : xs.length = ys.length := Classical.not_not.1 h5
  have g5 : ((xs.length : Int) != (ys.length : Int)) = false := bne_f (by omega)
  have HE : Hid (V.same (.mk k i b t xs) (.mk k' i' b' t' ys) = V.sameL xs ys) := by show _ = _; simp [V.same_mk, h1, h2, h3, h4]
  have HX : Hid (Items w p xs) := hxi
  have HY : Hid (Items w q ys) := hyi
  have HIH := Lib.hid ih
  have H5 := Lib.hid h5
  clear ih hxi hyi h1 h2 h3 h4 h5
  obtain ⟨W0, hW0⟩ : ∃ W0, W0 = (w.alloc (.cells #[.int .i64 k, .int .i64 i, .float .f64 b, .string t, .slice p xs.length c] 53)).alloc (.cells #[.int .i64 k', .int .i64 i', .float .f64 b', .string t', .slice q ys.length d] 53) := ⟨_, rfl⟩
  have Y4 : Hid (W0.cell? ⟨w.heap.size + 1, 4, none⟩ = some (.slice q ys.length d)) := by show _ = _; rw [hW0]; simp
  have HB0 : Hid (Below w.heap.size w W0) := by rw [hW0]; exact HB2.out
  have HW0 := Lib.hid hW0
  clear HB2 hW0
  go_enter Try.func74, Try.ntmps74
  go_wp2_with fail
  refine (HRS.out _).mono ?_
  rintro e w1 ⟨rfl, hw1⟩
  rw [hw1]
  clear hw1 w1
  go_wp2_with fail
  rw [← HW0.out]
  clear HW0
  go_loopw [44] (fun v44 wr => ∃ j : Nat, j ≤ xs.length ∧ v44 = .int .i64 j ∧ Hid (Below W0.heap.size W0 wr ∧ ∀ m (h1 : m < xs.length) (h2 : m < ys.length), m < j → V.same xs[m] ys[m] = true)) (fun v44 _ => xs.length - (intOf v44).toNat)
  case atStart => exact ⟨0, by omega, rfl, Below.refl _ _, fun m _ _ h => by omega⟩
  case round =>
    obtain ⟨j, hj, rfl, HL⟩ := hrel
    have hbw : Below w.heap.size w wr := HB0.out.trans (HL.out.1.mono HB0.out.size)
    by_cases hlt : j < xs.length
    · have hlt2 : j < ys.length := by have := H5.out; omega
      obtain ⟨ux, hvx, hix⟩ := HX.out j hlt
      obtain ⟨uy, hvy, hiy⟩ := HY.out j hlt2
      obtain ⟨bx, ox, kx, ix, fx, tx, qx, nx, cx, rfl, _, rfl, a0, a1, a2, a3, a4⟩ := (hix.on hbw).lies
      obtain ⟨by', oy, ky, iy, fy, ty, qy, ny, cy, rfl, _, rfl, b0, b1, b2, b3, b4⟩ := (hiy.on hbw).lies
      have HC : Hid (∀ w', Below w.heap.size w w' → Calls Try.prog 74 #[.agg #[.int .i64 kx, .int .i64 ix, .float .f64 fx, .string tx, .slice qx nx cx], .agg #[.int .i64 ky, .int .i64 iy, .float .f64 fy, .string ty, .slice qy ny cy]] w' fun e w'' => e = .returned (.bool (V.same xs[j] ys[j])) ∧ Below w'.heap.size w' w'') :=
        fun w' hb => HIH.out _ (List.getElem_mem hlt) ys[j] w' _ _ (hvx.on hb) (hvy.on hb)
      have HAll := Lib.hid HL.out.2
      have hj1 : (j : Int) < (xs.length : Int) := by omega
      have hj2 : (j : Int) < (ys.length : Int) := by omega
      obtain ⟨r, hr⟩ : ∃ r, r = V.same xs[j] ys[j] := ⟨_, rfl⟩
      rw [← hr] at HC
      have HRr := Lib.hid hr
      obtain ⟨wa, hwa⟩ : ∃ wa, wa = wr.alloc (.cells #[.int .i64 kx, .int .i64 ix, .float .f64 fx, .string tx, .slice qx nx cx] 53) := ⟨_, rfl⟩
      have HBa : Hid (Below wr.heap.size wr wa) := by rw [hwa]; exact (Below.refl _ _).alloc (Nat.le_refl _) _
      have HBw : Hid (Below w.heap.size w wa) := hbw.trans (HBa.out.mono hbw.size)
      have HBW : Hid (Below W0.heap.size W0 wa) := HL.out.1.trans (HBa.out.mono HL.out.1.size)
      have HWa := Lib.hid hwa
      have HY4 : Hid (wa.cell? ⟨w.heap.size + 1, 4, none⟩ = some (.slice (some ⟨by', oy, none⟩) ys.length d)) := cell_on HBW.out Y4.out
      have HBs : Hid (wa.cell? ⟨by', oy + j * 5, none⟩ = some (.int .i64 ky) ∧ wa.cell? ⟨by', oy + j * 5 + 1, none⟩ = some (.int .i64 iy) ∧ wa.cell? ⟨by', oy + j * 5 + 2, none⟩ = some (.float .f64 fy) ∧ wa.cell? ⟨by', oy + j * 5 + 3, none⟩ = some (.string ty) ∧ wa.cell? ⟨by', oy + j * 5 + 4, none⟩ = some (.slice qy ny cy)) :=
        ⟨cell_on HBa.out b0, cell_on HBa.out b1, cell_on HBa.out b2, cell_on HBa.out b3, cell_on HBa.out b4⟩
      have HAs : Hid (wa.cell? ⟨wr.heap.size, 0, none⟩ = some (.int .i64 kx) ∧ wa.cell? ⟨wr.heap.size, 1, none⟩ = some (.int .i64 ix) ∧ wa.cell? ⟨wr.heap.size, 2, none⟩ = some (.float .f64 fx) ∧ wa.cell? ⟨wr.heap.size, 3, none⟩ = some (.string tx) ∧ wa.cell? ⟨wr.heap.size, 4, none⟩ = some (.slice qx nx cx)) := by rw [hwa]; exact ⟨by simp, by simp, by simp, by simp, by simp⟩
      clear hvx hvy hix hiy hbw HL hr hwa b0 b1 b2 b3 b4
      go_wp2_with fail
      rw [← HWa.out]
      obtain ⟨c0, c1, c2, c3, c4⟩ := HAs.out
      obtain ⟨d0, d1, d2, d3, d4⟩ := HBs.out
      have d5 := HY4.out
      clear HAs HBs HY4 HWa a0 a1 a2 a3 a4
      go_region_held3 (fun w' => w'.cell? ⟨wr.heap.size, 0, none⟩ = some (.int .i64 kx) ∧ w'.cell? ⟨wr.heap.size, 1, none⟩ = some (.int .i64 ix) ∧ w'.cell? ⟨wr.heap.size, 2, none⟩ = some (.float .f64 fx) ∧ w'.cell? ⟨wr.heap.size, 3, none⟩ = some (.string tx) ∧ w'.cell? ⟨wr.heap.size, 4, none⟩ = some (.slice qx nx cx) ∧ w'.cell? ⟨by', oy + j * 5, none⟩ = some (.int .i64 ky) ∧ w'.cell? ⟨by', oy + j * 5 + 1, none⟩ = some (.int .i64 iy) ∧ w'.cell? ⟨by', oy + j * 5 + 2, none⟩ = some (.float .f64 fy) ∧ w'.cell? ⟨by', oy + j * 5 + 3, none⟩ = some (.string ty) ∧ w'.cell? ⟨by', oy + j * 5 + 4, none⟩ = some (.slice qy ny cy) ∧ w'.cell? ⟨w.heap.size + 1, 4, none⟩ = some (.slice (some ⟨by', oy, none⟩) ys.length d)) (go_keep) (first
        | (go_at_call 74; refine (HC.out _ (below_drewN HBw.out _)).mono ?_; rintro e w4 ⟨rfl, hb4⟩; have hb5 := below_via (w := wa) hb4 (by rfl) (by rfl) (by rfl) (by rfl); have z3 := cell_on hb5 c0; have z4 := cell_on hb5 c1; have z5 := cell_on hb5 c2; have z6 := cell_on hb5 c3; have z7 := cell_on hb5 c4; have z8 := cell_on hb5 d0; have z9 := cell_on hb5 d1; have z10 := cell_on hb5 d2; have z11 := cell_on hb5 d3; have z12 := cell_on hb5 d4; have z13 := cell_on hb5 d5; have HB4 := Lib.hid hb5; clear hb4 hb5))
      clear z3 z4 z5 z6 z7 z8 z9 z10 z11 z12 z13 c0 c1 c2 c3 c4 d0 d1 d2 d3 d4 d5
      cases r with
      | true =>
        have HN : Hid (Below W0.heap.size W0 w4 ∧ ∀ m (h1 : m < xs.length) (h2 : m < ys.length), m < j + 1 → V.same xs[m] ys[m] = true) := by
          refine ⟨HBW.out.trans (HB4.out.mono HBW.out.size), fun m h1 h2 hm => ?_⟩
          by_cases hmj : m = j
          · subst hmj; exact HRr.out.symm
          · exact HAll.out m h1 h2 (by omega)
        clear HB4 HAll HC
        go_wp2
        go_roundw
        case rel => exact ⟨j + 1, by omega, by go_num, HN⟩
        case measure => simp [intOf]; omega
      | false =>
        have HF0 : Hid (V.sameL xs ys = false) := V.sameL_at xs ys j hlt hlt2 HRr.out.symm
        have HF := Lib.hid (HBw.out.trans (HB4.out.mono HBw.out.size))
        clear HB4 HAll HC
        go_wp2
        go_ret
        exact ⟨by rw [HE.out, HF0.out]; rfl, HF.out⟩
    · have HF0 : Hid (V.sameL xs ys = true) := V.sameL_all xs ys H5.out (fun m h1 h2 => HL.out.2 m h1 h2 (by omega))
      have HF := Lib.hid hbw
      have hjn : ¬ (j : Int) < (xs.length : Int) := by omega
      clear HL hbw hlt
      go_wp2
      go_ret
      exact ⟨by rw [HE.out, HF0.out]; rfl, HF.out⟩

end Go.Proofs.Yticmkgbjannkkaa

/- The document's column. -/
namespace Go.Proofs.Yticmkgbjannkkaa
open Go.RowKit

theorem any_no {l : List Col} {n : ByteArray} (h : ∀ m (hm : m < l.length), ¬ l[m].name = n) : l.any (fun x => decide (x.name = n)) = false := by
  rw [List.any_eq_false]
  intro x hx
  obtain ⟨m, hm, rfl⟩ := List.getElem_of_mem hx
  simpa using h m hm
theorem any_yes {l : List Col} {n : ByteArray} (m : Nat) (hm : m < l.length) (h : l[m].name = n) : l.any (fun x => decide (x.name = n)) = true := by
  rw [List.any_eq_true]
  exact ⟨l[m], List.getElem_mem hm, by simpa using h⟩

theorem v0_lies (w : World) (p : Option Addr) (c : Nat) : VLies w (cells5 0 0 0 ⟨#[]⟩ p 0 c) V0 :=
  VLies.mk (xs := []) (fun _ => #[]) (by simp) (by simp) (fun hc => absurd rfl hc) (fun j hj => by simp at hj)

end Go.Proofs.Yticmkgbjannkkaa

/- The document's flag, typeBytes, ValueBytes. -/
namespace Go.Proofs.Yticmkgbjannkkaa
open Go.RowKit

/-- what bytes of one's own a call answers -/
def FreshB (w : World) (l : List UInt8) (e : Ending) (w' : World) : Prop := ∃ q cap, e = .returned (.slice q l.length cap) ∧ Has w' w.heap.size (.slice q l.length cap) l ∧ Below w.heap.size w w'

end Go.Proofs.Yticmkgbjannkkaa

/- Plain: eight bytes, one by one. -/
namespace Go.Proofs.Yticmkgbjannkkaa

/-- while eight bytes are put -/
def Eight (m : Nat) (xs : List UInt8) (n : Nat) : Prop := xs.length ≤ 8 ∧ n < 18446744073709551616 ∧ Sch.le 8 m = xs ++ Sch.le (8 - xs.length) n
theorem eight_next {m n : Nat} {xs : List UInt8} (h : Eight m xs n) (h8 : xs.length < 8) : Eight m (xs ++ [UInt8.ofNat (n % 256)]) (n / 256) := by
  obtain ⟨h1, h2, h3⟩ := h
  refine ⟨by rw [List.length_append, List.length_singleton]; omega, by omega, ?_⟩
  rw [h3, List.append_assoc, List.length_append, List.length_singleton, show 8 - xs.length = (8 - (xs.length + 1)) + 1 by omega, Sch.le]
  rfl

end Go.Proofs.Yticmkgbjannkkaa

/- The document's ValueBytes. -/
namespace Go.Proofs.Yticmkgbjannkkaa
open Go.RowKit

end Go.Proofs.Yticmkgbjannkkaa

/- The document's bytesOf, Check, Encode. -/
namespace Go.Proofs.Yticmkgbjannkkaa
open Go.RowKit

attribute [local go_sem] run_store_float

/-- while bytes are put behind a slice: the blocks from a to z, which are not its own, stay as they were in w2 -/
structure Apart (a z : Nat) (w2 W : World) (v : Value) : Prop where
  own : ∀ k, v.ownBlock = some k → k < a ∨ z ≤ k
  keep : ∀ k, a ≤ k → k < z → W.heap[k]? = w2.heap[k]?
  size : z ≤ W.heap.size
theorem Apart.step {a z : Nat} {w2 W W' : World} {v v' : Value} (h : Apart a z w2 W v) (ha : Aside (fun k => v.ownBlock = some k) W W') (hb : ∀ k, v'.ownBlock = some k → v.ownBlock = some k ∨ W.heap.size ≤ k) : Apart a z w2 W' v' := by
  have hs := h.size
  refine ⟨fun k hk => ?_, fun k h1 h2 => ?_, Nat.le_trans h.size ha.size⟩
  · rcases hb k hk with h1 | h1
    · exact h.own k h1
    · exact .inr (by omega)
  · rw [ha.block k (by omega) (fun hc => by have := h.own k hc; omega)]
    exact h.keep k h1 h2
theorem Apart.on {a z : Nat} {w2 W W' : World} {v : Value} (h : Apart a z w2 W v) (hb : Below W.heap.size W W') : Apart a z w2 W' v := by
  have hs := h.size
  exact ⟨h.own, fun k h1 h2 => by rw [hb.block k (by omega)]; exact h.keep k h1 h2, Nat.le_trans h.size hb.size⟩
theorem Apart.cell {a z : Nat} {w2 W : World} {v : Value} (h : Apart a z w2 W v) {g o : Nat} {x : Value} (h1 : a ≤ g) (h2 : g < z) (hc : w2.cell? ⟨g, o, none⟩ = some x) : W.cell? ⟨g, o, none⟩ = some x := by
  rw [World.cell?_of_block (w := w2) (h.keep g h1 h2)]; exact hc
theorem Apart.at {a z : Nat} {w2 W : World} {v : Value} (h : Apart a z w2 W v) {p : Option Addr} {l : List UInt8} (hp : ∀ b o, p = some ⟨b, o, none⟩ → a ≤ b ∧ b < z) (hl : At w2 p l) : At W p l := by
  rcases hl with rfl | ⟨b, o, hpe, h2, h3⟩
  · exact .inl rfl
  · obtain ⟨h4, h5⟩ := hp b o hpe
    have hs := h.size
    exact .inr ⟨b, o, hpe, by omega, fun j hj => by rw [World.cell?_of_block (w := w2) (h.keep b h4 h5)]; exact h3 j hj⟩
/-- where a fresh slice's bytes lie -/
theorem Has.place {w : World} {B : Nat} {q : Option Addr} {n cap : Nat} {l : List UInt8} (h : Has w B (.slice q n cap) l) : ∀ b o, q = some ⟨b, o, none⟩ → B ≤ b ∧ b < w.heap.size := by
  intro b o hq
  subst hq
  exact h.lt b rfl
theorem Has.here {w : World} {B : Nat} {q : Option Addr} {cap : Nat} {l : List UInt8} (h : Has w B (.slice q l.length cap) l) : At w q l := by
  obtain ⟨p, c, he, hat, -⟩ := h.at
  injection he with he
  rw [he]; exact hat

theorem one_at (w : World) (z : Int) (c : UInt8) (hz : z = (c.toNat : Int)) : At (w.alloc (.cells #[.int .u8 z] 5)) (some ⟨w.heap.size, 0, none⟩) [c] :=
  (has_lit (B := 0) (w := w) [c] (by rw [hz]; rfl) (Nat.zero_le _) (by simp)).here

theorem colsErr_at (s : List Col) (j : Nat) (h : j < s.length) : Sch.colsErr (s.take j) (s.drop j) = if Sch.colErr (s.take j) s[j] = 0 then Sch.colsErr (s.take (j + 1)) (s.drop (j + 1)) else Sch.colErr (s.take j) s[j] := by
  rw [List.drop_eq_getElem_cons h, Sch.colsErr, List.take_succ_eq_append_getElem h]

/-- what Encode answers: bytes of one's own, or nothing and the error -/
def EncV (w : World) (s : List Col) (e : Ending) (w' : World) : Prop :=
  (Sch.err s = 0 ∧ ∃ q cap, e = .returned (.tuple #[.slice q (Sch.bytes s).length cap, .int .i64 0]) ∧ Has w' w.heap.size (.slice q (Sch.bytes s).length cap) (Sch.bytes s) ∧ Below w.heap.size w w') ∨
  (Sch.err s ≠ 0 ∧ e = .returned (.tuple #[.slice none 0 0, .int .i64 (Sch.err s : Nat)]) ∧ Below w.heap.size w w')

end Go.Proofs.Yticmkgbjannkkaa

/- The document's bit, text, float. -/
namespace Go.Proofs.Yticmkgbjannkkaa
open Go.RowKit

/-- what a number read tells -/
def numV (a : Nat) : Except Nat (Nat × Nat) → Value
  | .error e => .tuple #[.int .u64 0, .int .i64 0, .int .i64 (e : Nat)]
  | .ok (n, k) => .tuple #[.int .u64 (n : Nat), .int .i64 ((a + k : Nat) : Int), .int .i64 0]
theorem gotV_num (l : List UInt8) (a : Nat) : gotV l (a : Int) = numV a (Sch.num (l.drop a)) := by
  by_cases ha : a < l.length
  · by_cases h : (Leb.get (l.drop a)).err = 0
    · have e : Leb.get (l.drop a) = ⟨0, (Leb.get (l.drop a)).n, (Leb.get (l.drop a)).k⟩ := by rw [← h]
      rw [gotV_ok l a _ _ e, Sch.num, if_pos h]
      simp only [numV]
      rfl
    · have hb := Leb.getF_bad 10 true (l.drop a) h
      have e : Leb.get (l.drop a) = ⟨(Leb.get (l.drop a)).err, 0, 0⟩ := by
        have h1 : (Leb.get (l.drop a)).n = 0 := hb.1
        have h2 : (Leb.get (l.drop a)).k = 0 := hb.2
        generalize Leb.get (l.drop a) = g at *
        cases g
        simp_all
      rw [gotV_bad l a _ h e, Sch.num, if_neg h]
      rfl
  · rw [gotV_out l a (by omega), List.drop_eq_nil_of_le (by omega)]
    rfl

/-- what bit tells -/
def bitV (a : Nat) : Except Nat (Nat × Nat) → Value
  | .error e => .tuple #[.int .i64 0, .int .i64 0, .int .i64 (e : Nat)]
  | .ok (n, k) => .tuple #[.int .i64 (n : Nat), .int .i64 ((a + k : Nat) : Int), .int .i64 0]

/-- what text tells -/
def textV (a : Nat) : Except Nat (ByteArray × Nat) → Value
  | .error e => .tuple #[.string ⟨#[]⟩, .int .i64 0, .int .i64 (e : Nat)]
  | .ok (t, k) => .tuple #[.string t, .int .i64 ((a + k : Nat) : Int), .int .i64 0]

/-- what float tells -/
def floatV (a : Nat) : Except Nat (Nat × Nat) → Value
  | .error e => .tuple #[.float .f64 0, .int .i64 0, .int .i64 (e : Nat)]
  | .ok (n, k) => .tuple #[.float .f64 n, .int .i64 ((a + k : Nat) : Int), .int .i64 0]

/-- while eight bytes are read, the last one first -/
theorem un_drop (l : List UInt8) (i : Nat) (h : i < l.length) : Sch.un (l.drop i) = Sch.un (l.drop (i + 1)) * 256 + l[i].toNat := by
  rw [List.drop_eq_getElem_cons h, Sch.un]

end Go.Proofs.Yticmkgbjannkkaa

/- The document's scalar. -/
namespace Go.Proofs.Yticmkgbjannkkaa
open Go.RowKit

attribute [local go_sem] run_store_float

/-- what reading a value tells: the value in blocks of its own, and the place behind it; or the error alone -/
def ReadV (w : World) (a : Nat) (r : Except Nat (V × Nat)) (e : Ending) (w' : World) : Prop := match r with
  | .error er => e = .returned (.tuple #[.agg (cells5 0 0 0 ⟨#[]⟩ none 0 0), .int .i64 0, .int .i64 (er : Nat)]) ∧ Below w.heap.size w w'
  | .ok (v, k) => ∃ u, e = .returned (.tuple #[.agg u, .int .i64 ((a + k : Nat) : Int), .int .i64 0]) ∧ VOwn w' (fun k => w.heap.size ≤ k ∧ k < w'.heap.size) u v ∧ Below w.heap.size w w'

theorem bit_err {l : List UInt8} {e : Nat} (h : Sch.bit l = .error e) : e ≠ 0 := by
  cases l with
  | nil => rw [Sch.bit] at h; injection h with h; omega
  | cons c r =>
    rw [Sch.bit] at h
    split at h
    · injection h with h; omega
    · cases h
theorem num_err {l : List UInt8} {e : Nat} (h : Sch.num l = .error e) : e ≠ 0 := by
  intro hc
  rw [Sch.num] at h
  split at h
  · cases h
  · next h0 => injection h with h; rw [h] at h0; exact h0 hc
theorem float_err {l : List UInt8} {e : Nat} (h : Sch.float l = .error e) : e ≠ 0 := by
  rw [Sch.float] at h
  split at h
  · injection h with h; omega
  · split at h
    · cases h
    · injection h with h; omega
theorem text_err {m g : Nat} (hg : g ≠ 0) {l : List UInt8} {e : Nat} (h : Sch.text m g l = .error e) : e ≠ 0 := by
  rw [Sch.text] at h
  split at h
  · next e' he => injection h with h; rw [← h]; exact num_err he
  · split at h
    · injection h with h; omega
    · split at h
      · injection h with h; omega
      · cases h

theorem blk_first (w : World) (o o2 : Obj) : ((w.alloc o).alloc o2).heap[w.heap.size]? = some o := by rw [blk_old _ _ (by simp)]; exact blk_new w o
theorem bool_lit (b : Bool) : b = true ∨ b = false := by cases b <;> simp

end Go.Proofs.Yticmkgbjannkkaa
