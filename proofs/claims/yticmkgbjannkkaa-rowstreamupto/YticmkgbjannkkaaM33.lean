/- K8W: put together. -/
import Derived.Test.YticmkgbjannkkaaM32
import Derived.Test.YticmkgbjannkkaaM04
import Derived.Test.YticmkgbjannkkaaM16

/- The landed row's reader: items. -/
namespace Go.Proofs.Yticmkgbjannkkaa
open Go.RowKit

attribute [local go_sem] run_store_float

/-- what changed in block R alone, and then new blocks -/
theorem Aside.split {w w2 : World} {R : Nat} (h : Aside (fun i => i = R) w w2) (hR : R < w.heap.size) : ∃ w1, Aside (fun i => i = R) w w1 ∧ w1.heap.size = w.heap.size ∧ Below w1.heap.size w1 w2 := by
  have hs := h.size
  refine ⟨{ w with heap := w.heap.setIfInBounds R (w2.heap[R]'(by omega)) }, ⟨rfl, rfl, rfl, by simp, fun k hk hf => ?_⟩, by simp, ⟨h.os, h.tape, h.output, by simpa using hs, fun k hk => ?_⟩⟩
  · show (w.heap.setIfInBounds R _)[k]? = _
    rw [Array.getElem?_setIfInBounds_ne (fun e => hf e.symm)]
  · have hk' : k < w.heap.size := by simpa using hk
    show _ = (w.heap.setIfInBounds R _)[k]?
    by_cases e : k = R
    · subst e
      rw [Array.getElem?_setIfInBounds_self_of_lt hk']
      exact Array.getElem?_eq_getElem _
    · rw [Array.getElem?_setIfInBounds_ne (fun e2 => e e2.symm)]
      exact h.block k hk' e

/-- a type that was handed in: in blocks below R -/
structure TFar (w : World) (R : Nat) (u : Array Value) (t : Ty) : Prop where
  out : ∃ w0 : World, TLies w0 u t ∧ Below w0.heap.size w0 w ∧ w0.heap.size ≤ R
theorem TFar.aside {w w' : World} {R : Nat} {u : Array Value} {t : Ty} (h : TFar w R u t) (ha : Aside (fun i => i = R) w w') : TFar w' R u t := by
  obtain ⟨w0, h1, h2, h3⟩ := h.out
  exact ⟨w0, h1, h2.trans (ha.below h2.size (fun k hk hc => by omega)), h3⟩
theorem TFar.on {w w' : World} {R : Nat} {u : Array Value} {t : Ty} (h : TFar w R u t) (hb : Below w.heap.size w w') : TFar w' R u t := by
  obtain ⟨w0, h1, h2, h3⟩ := h.out
  exact ⟨w0, h1, h2.trans (hb.mono h2.size), h3⟩
theorem TFar.one {w : World} {R : Nat} {u : Array Value} {k : Int} {x : Ty} (h : TFar w R u (.mk k [x])) : ∃ g off c k' q n' c', u = cells2 k (some ⟨g, off, none⟩) 1 c ∧ TFar w R (cells2 k' q n' c') x ∧ g < R ∧ g < w.heap.size ∧ w.cell? ⟨g, off, none⟩ = some (.int .i64 k') ∧ w.cell? ⟨g, off + 1, none⟩ = some (.slice q n' c') := by
  obtain ⟨w0, h1, h2, h3⟩ := h.out
  obtain ⟨p, c, rfl, -, -, hxi⟩ := h1.open
  obtain ⟨u', hu', hit⟩ := hxi 0 (by simp)
  obtain ⟨b0, o0, k0, q0, n0, c0, hp0, hb0, -⟩ := hit.lies
  obtain ⟨bx, ox, kx, qx, nx, cx, hp, hlt, hu, a0, a1⟩ := (hit.on h2).lies
  subst hp hu
  injection hp0 with hp0
  injection hp0 with e1 e2
  subst e1 e2
  refine ⟨bx, ox, c, kx, qx, nx, cx, rfl, ⟨w0, hu', h2, h3⟩, by omega, hlt, by simpa using a0, by simpa using a1⟩
theorem TFar.shape {w : World} {R : Nat} {u : Array Value} {t : Ty} (h : TFar w R u t) : ∃ k p n c, u = cells2 k p n c := by
  obtain ⟨w0, h1, _⟩ := h.out
  obtain ⟨k, ts⟩ := t
  obtain ⟨p, c, hu, -⟩ := h1.open
  exact ⟨k, p, _, c, hu⟩

/-- items in a row of the call's own -/
def isIts (w : World) (vs : List V) (v : Value) (w' : World) : Prop := ∃ q c, v = .slice q vs.length c ∧ ∀ k, VOwn w' (fun i => w.heap.size ≤ i ∧ i < w'.heap.size) (cells5 k 0 0 ⟨#[]⟩ q vs.length c) (.mk k 0 0 ⟨#[]⟩ vs)
theorem isIts.open {w w' : World} {vs : List V} {v : Value} (h : isIts w vs v w') : ∃ q c, v = .slice q vs.length c ∧ ∀ k, VOwn w' (fun i => w.heap.size ≤ i ∧ i < w'.heap.size) (cells5 k 0 0 ⟨#[]⟩ q vs.length c) (.mk k 0 0 ⟨#[]⟩ vs) := h
/-- what is asked of value, at a type -/
def ValOk (t : Ty) : Prop := ∀ (L l : List UInt8) (A R : Nat) (w : World) (u : Array Value), TFar w R u t → Rdr L w A R l → Calls Try.prog 17 #[.pointer (some ⟨R, 0, none⟩), .agg u] w (RdA L w A R l (Sch.rdV t l) (isV w))

/-- while items are read -/
structure ItsIn (L : List UInt8) (w wr : World) (A R : Nat) (u : Array Value) (t : Ty) (m : Nat) (l : List UInt8) (r : Except Nat (List V × Nat)) (ys : List V) (v : Value) : Prop where
  built : ∃ us Fs, Built wr (w.heap.size + 1) v ys.length us Fs ys
  b0 : wr.heap[w.heap.size]? = some (.cells u 50 (0, 0))
  far : TFar w R u t
  left : ∃ n, Rdr L wr A R (l.drop n) ∧ r = glue ys n (Sch.rdN (Sch.rdV t) (m - ys.length) (l.drop n))
  aside : Aside (fun i => i = R) w wr
  low : R < w.heap.size
  size : w.heap.size + 1 ≤ wr.heap.size
  len : ys.length ≤ m
section
variable {L : List UInt8}
theorem itsIn_start {w : World} {A R : Nat} {u : Array Value} {t : Ty} {m : Nat} {l : List UInt8} (hf : TFar w R u t) (h : Rdr L w A R l) : ItsIn L w (w.alloc (.cells u 50)) A R u t m l (Sch.rdN (Sch.rdV t) m l) [] (.slice none 0 0) := by
  have hb : Below w.heap.size w (w.alloc (.cells u 50)) := (Below.refl _ _).alloc (Nat.le_refl _) _
  refine ⟨⟨_, _, built_nil _ _⟩, blk_new w _, hf, ⟨0, h.on hb, ?_⟩, aside_new hb _, h.lt, by simp, Nat.zero_le _⟩
  rw [List.drop_zero, List.length_nil, Nat.sub_zero]
  cases Sch.rdN (Sch.rdV t) m l with
  | error e => rfl
  | ok p => simp [glue]
/-- one more -/
theorem ItsIn.next {w wr w2 w4 : World} {A R : Nat} {u : Array Value} {t : Ty} {m : Nat} {l : List UInt8} {r : Except Nat (List V × Nat)} {ys : List V} {v : Value} (h : ItsIn L w wr A R u t m l r ys v) {us : Nat → Array Value} {Fs : Nat → Nat → Prop} (hbt : Built wr (w.heap.size + 1) v ys.length us Fs ys) {n j : Nat} {x : V} {u' : Array Value} (hlt : ys.length < m)
    (hl : r = glue ys n (Sch.rdN (Sch.rdV t) (m - ys.length) (l.drop n))) (hx : Sch.rdV t (l.drop n) = .ok (x, j)) (ha : Aside (fun i => i = R) wr w2) (hown : VOwn w2 (fun k => wr.heap.size ≤ k ∧ k < w2.heap.size) u' x) (hrd : Rdr L w2 A R ((l.drop n).drop j)) :
    (w2.alloc (.cells u' 53)).ownsRow (w.heap.size + 1) 53 5 v ys.length (flat us ys.length) ∧
    ∀ g cap, w4.ownsRow (w.heap.size + 1) 53 5 (.slice (some ⟨g, 0, none⟩) (ys.length + 1) cap) (ys.length + 1) (flat us ys.length ++ u'.toList) → (w2.alloc (.cells u' 53)).grownBy w4 v.ownBlock → (v.ownBlock = some g ∨ g = (w2.alloc (.cells u' 53)).heap.size) →
      ItsIn L w w4 A R u t m l r (ys ++ [x]) (.slice (some ⟨g, 0, none⟩) (ys.length + 1) cap) := by
  have hs := h.size
  have hlow := h.low
  have hs2 := ha.size
  have hb3 : Below w2.heap.size w2 (w2.alloc (.cells u' 53)) := (Below.refl _ _).alloc (Nat.le_refl _) _
  have hs3 := hb3.size
  obtain ⟨wx, hx1, hx2, hx3⟩ := ha.split (by omega)
  have hbx : Built wx (w.heap.size + 1) v ys.length us Fs ys := hbt.aside hx1 (fun g hg he => by have := (hbt.lt g hg).1; omega) (fun i hi k hk he => by have := (hbt.range i hi k hk).1; omega)
  refine ⟨((hbx.on hx3).on hb3).row, fun g cap hr hg hn => ?_⟩
  have hst := hbx.step hx3 hown (fun k hk => ⟨by rw [hx2]; exact hk.1, hk.2⟩) hb3 (by rw [hx2]; exact hs) hr hg hn
  have hs4 := hg.size
  have hv := fun k (hk : v.ownBlock = some k) => (hbx.lt k hk)
  have a34 : Aside (fun k => v.ownBlock = some k) w2 w4 := (aside_new hb3 _).trans (G := fun k => v.ownBlock = some k) ⟨hg.os, hg.tape, hg.output, hg.size, fun k hk hf => hg.block k hk (fun hc => hf hc.symm)⟩ (fun _ _ h => h)
  have keep : ∀ k, k ≤ w.heap.size → k ≠ R → w4.heap[k]? = wr.heap[k]? := fun k hk hne => by
    rw [a34.block k (by omega) (fun hc => by have := (hv k hc).1; omega), ha.block k (by omega) hne]
  have har : Aside (fun i => i = R) w w4 := by
    refine (h.aside.trans ha (fun _ _ h => h)).trans a34 (fun i hi hc => ?_)
    have := (hv i hc).1
    omega
  refine ⟨⟨_, _, by rw [List.length_append, List.length_singleton]; exact hst⟩, (keep _ (Nat.le_refl _) (by omega)).trans h.b0, ?_, ⟨n + j, ?_, ?_⟩, har, hlow, by omega, by rw [List.length_append, List.length_singleton]; omega⟩
  · exact h.far
  · rw [← List.drop_drop]
    exact hrd.aside a34 (fun k hk => by have := (hv k hk).1; omega)
  · rw [hl, show m - ys.length = (m - (ys ++ [x]).length) + 1 by rw [List.length_append, List.length_singleton]; omega, rdN_succ, hx, stepR, glue_glue, List.drop_drop]

set_option maxRecDepth 100000 in
set_option maxHeartbeats 2000000 in
theorem itemsK (t : Ty) (hv : ValOk t) (m : Nat) (hm : m ≤ 256) (l : List UInt8) (A R : Nat) (w : World) (u : Array Value) (hf : TFar w R u t) (h : Rdr L w A R l) : Calls Try.prog 69 #[.pointer (some ⟨R, 0, none⟩), .int .i64 m, .agg u] w (RdA L w A R l (Sch.rdN (Sch.rdV t) m l) (isIts w)) := by
  obtain ⟨k0, p0, n0, c0, hu⟩ := hf.shape
  have HS := Lib.hid (itsIn_start (m := m) hf h)
  have HV := Lib.hid hv
  have hlow := h.lt
  obtain ⟨r, hr⟩ : ∃ r, r = Sch.rdN (Sch.rdV t) m l := ⟨_, rfl⟩
  rw [← hr] at HS ⊢
  subst hu
  unfold cells2 at HS ⊢
  clear hr hf h hv
  go_enter Try.func69, Try.ntmps69
  go_wp2_with fail
  go_loopw [7, 9] (fun v7 v9 wr => ∃ (ys : List V) (q : Option Addr) (c : Nat), v9 = .int .i64 ys.length ∧ v7 = .slice q ys.length c ∧ ys.length ≤ m ∧ Hid (ItsIn L w wr A R #[.int .i64 k0, .slice p0 n0 c0] t m l r ys (.slice q ys.length c))) (fun _ v9 _ => m - (intOf v9).toNat)
  case atStart => exact ⟨[], none, 0, rfl, rfl, Nat.zero_le _, HS.out⟩
  case round =>
    obtain ⟨ys, q, c, rfl, rfl, hyl, HI⟩ := hrel
    by_cases hlt : ys.length < m
    · have hj1 : (ys.length : Int) < (m : Int) := by omega
      have b0 : wr.cell? ⟨w.heap.size, 0, none⟩ = some (.int .i64 k0) := blk_cell HI.out.b0 0
      have b1 : wr.cell? ⟨w.heap.size, 1, none⟩ = some (.slice p0 n0 c0) := blk_cell HI.out.b0 1
      obtain ⟨n, hrd, hrr⟩ := HI.out.left
      obtain ⟨us, Fs, hbt⟩ := HI.out.built
      have HC := Lib.hid (HV.out L (l.drop n) A R wr _ (HI.out.far.aside HI.out.aside) hrd)
      have HRr := Lib.hid hrr
      have HBt := Lib.hid hbt
      obtain ⟨mx, hmx⟩ : ∃ x, x = Sch.rdV t (l.drop n) := ⟨_, rfl⟩
      rw [← hmx] at HC
      have HMx := Lib.hid hmx
      clear hrd hrr hbt hmx
      cases mx with
      | error er =>
        have HRe : Hid (r = .error er) := by
          show _ = _
          rw [HRr.out, show m - ys.length = (m - ys.length - 1) + 1 by omega, rdN_succ, ← HMx.out]
          rfl
        go_wp2_with fail
        refine HC.out.mono ?_
        intro e w1 hh
        obtain ⟨he, ha⟩ := hh.bad
        subst he
        clear hh
        have HA := Lib.hid (HI.out.aside.trans ha (fun _ _ h => h))
        clear ha HC
        go_wp2
        rw [HRe.out]
        exact ⟨rfl, rfl, HA.out⟩
      | ok xj =>
        obtain ⟨x, j⟩ := xj
        go_wp2_with fail
        refine HC.out.mono ?_
        intro e w2 hh
        obtain ⟨v, he, hv, hrd, ha⟩ := hh.good
        obtain ⟨u', hv2, hown⟩ := hv.open
        clear hh hv
        obtain ⟨k', i', b', t', p', n', c', hu'⟩ := hown.shape
        subst hu'
        subst hv2
        subst he
        unfold cells5 at hown ⊢
        have HNx := Lib.hid (fun w4 => HI.out.next (w4 := w4) HBt.out hlt HRr.out HMx.out.symm ha hown hrd)
        have HOn := Lib.hid hown
        have hsz : w.heap.size + 1 ≤ w2.heap.size + 1 := by have := HI.out.size; have := ha.size; omega
        clear ha hrd hown HC b0 b1
        go_wp2_with (first
          | (at_builtin; refine wp_more (B := w.heap.size + 1) (us := us) (v := .slice q ys.length c) (n := ys.length) (HNx.out w2).1 (u := #[.int .i64 k', .int .i64 i', .float .f64 b', .string t', .slice p' n' c']) rfl (one5 HOn.out) (ad := w2.heap.size) (blk_new w2 _) (by omega) (by simpa using hsz) (H := w2.heap.size + 1) (by simp) rfl rfl rfl rfl ?_
             intro g2 cap2 w4 hr4 hg4 hn4
             have HI4 := Lib.hid ((HNx.out w4).2 g2 cap2 hr4 hg4 (by simpa using hn4))
             clear hr4 hg4 hn4))
        go_roundw
        case rel =>
          refine ⟨ys ++ [x], some ⟨g2, 0, none⟩, cap2, by simp, by simp, by simp; omega, ?_⟩
          have := HI4.out
          rw [List.length_append, List.length_singleton]
          exact this
        case measure => simp [intOf]; omega
    · have hjn : ¬ (ys.length : Int) < (m : Int) := by omega
      have hm0 : m - ys.length = 0 := by omega
      obtain ⟨n, hrd, hrr⟩ := HI.out.left
      obtain ⟨us, Fs, hbt⟩ := HI.out.built
      have HRok : Hid (r = .ok (ys, n)) := by
        show _ = _
        rw [hrr, hm0, Sch.rdN, glue, List.append_nil, Nat.add_zero]
      have HIts : Hid (isIts w ys (.slice q ys.length c) wr) := by
        refine ⟨q, c, rfl, fun k => ?_⟩
        obtain ⟨p2, c2, he, hown⟩ := hbt.done (by omega) k 0 0 ⟨#[]⟩
        injection he with e1 e2 e3
        subst e1 e3
        exact hown.mono (fun i hi => ⟨by omega, hi.2⟩)
      have HRd := Lib.hid hrd
      have HA := Lib.hid HI.out.aside
      clear hrd hrr hbt HI hm0
      go_wp2
      go_ret
      rw [HRok.out]
      exact ⟨_, rfl, HIts.out, HRd.out, HA.out⟩
end
end Go.Proofs.Yticmkgbjannkkaa
