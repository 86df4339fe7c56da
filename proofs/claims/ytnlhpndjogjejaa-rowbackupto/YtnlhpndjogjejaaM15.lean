/- K8W, K8X, K8Y, K8Z, K8Da: put together. -/
import Derived.Test.YtnlhpndjogjejaaM14
import Derived.Test.YtnlhpndjogjejaaM02
import Derived.Test.YtnlhpndjogjejaaM09
import Derived.Test.YtnlhpndjogjejaaM10
import Derived.Test.YtnlhpndjogjejaaM12
import Derived.Defers
import Derived.Recover

/- The landed row's reader: items. -/
namespace Go.Proofs.Ytnlhpndjogjejaa
open Go.RowKit

attribute [local go_sem] run_store_float

/-- what changed in block R alone, and then new blocks -/
theorem Aside.split {w w2 : World} {R : Nat} (h : Aside (fun i => i = R) w w2) (hR : R < w.heap.size) : ∃ w1, Aside (fun i => i = R) w w1 ∧ w1.heap.size = w.heap.size ∧ Below w1.heap.size w1 w2 := by
  have hs := h.size
  refine ⟨{ w with heap := w.heap.setIfInBounds R (w2.heap[R]'(by omega)) }, ⟨rfl, rfl, rfl, by simp, fun k hk hf => ?_⟩, by simp, ⟨h.os, h.tape, h.output, by simpa using hs, fun k hk => ?_⟩⟩
  · show (w.heap.setIfInBounds R _)[k]? = _
    rw [Array.getElem?_setIfInBounds_ne (fun e => hf e.symm)]
  · have hk' : k < w.heap.size := by simpa using hk
    show _ = (w.heap.setIfInBounds R _)[k]?
    by_cases e : k = R
    · subst e
      rw [Array.getElem?_setIfInBounds_self_of_lt hk']
      exact Array.getElem?_eq_getElem _
    · rw [Array.getElem?_setIfInBounds_ne (fun e2 => e e2.symm)]
      exact h.block k hk' e

/-- a type that was handed in: in blocks below R -/
structure TFar (w : World) (R : Nat) (u : Array Value) (t : Ty) : Prop where
  out : ∃ w0 : World, TLies w0 u t ∧ Below w0.heap.size w0 w ∧ w0.heap.size ≤ R
theorem TFar.aside {w w' : World} {R : Nat} {u : Array Value} {t : Ty} (h : TFar w R u t) (ha : Aside (fun i => i = R) w w') : TFar w' R u t := by
  obtain ⟨w0, h1, h2, h3⟩ := h.out
  exact ⟨w0, h1, h2.trans (ha.below h2.size (fun k hk hc => by omega)), h3⟩
theorem TFar.on {w w' : World} {R : Nat} {u : Array Value} {t : Ty} (h : TFar w R u t) (hb : Below w.heap.size w w') : TFar w' R u t := by
  obtain ⟨w0, h1, h2, h3⟩ := h.out
  exact ⟨w0, h1, h2.trans (hb.mono h2.size), h3⟩
theorem TFar.one {w : World} {R : Nat} {u : Array Value} {k : Int} {x : Ty} (h : TFar w R u (.mk k [x])) : ∃ g off c k' q n' c', u = cells2 k (some ⟨g, off, none⟩) 1 c ∧ TFar w R (cells2 k' q n' c') x ∧ g < R ∧ g < w.heap.size ∧ w.cell? ⟨g, off, none⟩ = some (.int .i64 k') ∧ w.cell? ⟨g, off + 1, none⟩ = some (.slice q n' c') := by
  obtain ⟨w0, h1, h2, h3⟩ := h.out
  obtain ⟨p, c, rfl, -, -, hxi⟩ := h1.open
  obtain ⟨u', hu', hit⟩ := hxi 0 (by simp)
  obtain ⟨b0, o0, k0, q0, n0, c0, hp0, hb0, -⟩ := hit.lies
  obtain ⟨bx, ox, kx, qx, nx, cx, hp, hlt, hu, a0, a1⟩ := (hit.on h2).lies
  subst hp hu
  injection hp0 with hp0
  injection hp0 with e1 e2
  subst e1 e2
  refine ⟨bx, ox, c, kx, qx, nx, cx, rfl, ⟨w0, hu', h2, h3⟩, by omega, hlt, by simpa using a0, by simpa using a1⟩
theorem TFar.shape {w : World} {R : Nat} {u : Array Value} {t : Ty} (h : TFar w R u t) : ∃ k p n c, u = cells2 k p n c := by
  obtain ⟨w0, h1, _⟩ := h.out
  obtain ⟨k, ts⟩ := t
  obtain ⟨p, c, hu, -⟩ := h1.open
  exact ⟨k, p, _, c, hu⟩

/-- items in a row of the call's own -/
def isIts (w : World) (vs : List V) (v : Value) (w' : World) : Prop := ∃ q c, v = .slice q vs.length c ∧ ∀ k, VOwn w' (fun i => w.heap.size ≤ i ∧ i < w'.heap.size) (cells5 k 0 0 ⟨#[]⟩ q vs.length c) (.mk k 0 0 ⟨#[]⟩ vs)
theorem isIts.open {w w' : World} {vs : List V} {v : Value} (h : isIts w vs v w') : ∃ q c, v = .slice q vs.length c ∧ ∀ k, VOwn w' (fun i => w.heap.size ≤ i ∧ i < w'.heap.size) (cells5 k 0 0 ⟨#[]⟩ q vs.length c) (.mk k 0 0 ⟨#[]⟩ vs) := h
/-- what is asked of value, at a type -/
def ValOk (t : Ty) : Prop := ∀ (L l : List UInt8) (A R : Nat) (w : World) (u : Array Value), TFar w R u t → Rdr L w A R l → Calls Try.prog 27 #[.pointer (some ⟨R, 0, none⟩), .agg u] w (RdA L w A R l (Sch.rdV t l) (isV w))

/-- while items are read -/
structure ItsIn (L : List UInt8) (w wr : World) (A R : Nat) (u : Array Value) (t : Ty) (m : Nat) (l : List UInt8) (r : Except Nat (List V × Nat)) (ys : List V) (v : Value) : Prop where
  built : ∃ us Fs, Built wr (w.heap.size + 1) v ys.length us Fs ys
  b0 : wr.heap[w.heap.size]? = some (.cells u 43 (0, 0))
  far : TFar w R u t
  left : ∃ n, Rdr L wr A R (l.drop n) ∧ r = glue ys n (Sch.rdN (Sch.rdV t) (m - ys.length) (l.drop n))
  aside : Aside (fun i => i = R) w wr
  low : R < w.heap.size
  size : w.heap.size + 1 ≤ wr.heap.size
  len : ys.length ≤ m
section
variable {L : List UInt8}
theorem itsIn_start {w : World} {A R : Nat} {u : Array Value} {t : Ty} {m : Nat} {l : List UInt8} (hf : TFar w R u t) (h : Rdr L w A R l) : ItsIn L w (w.alloc (.cells u 43)) A R u t m l (Sch.rdN (Sch.rdV t) m l) [] (.slice none 0 0) := by
  have hb : Below w.heap.size w (w.alloc (.cells u 43)) := (Below.refl _ _).alloc (Nat.le_refl _) _
  refine ⟨⟨_, _, built_nil _ _⟩, blk_new w _, hf, ⟨0, h.on hb, ?_⟩, aside_new hb _, h.lt, by simp, Nat.zero_le _⟩
  rw [List.drop_zero, List.length_nil, Nat.sub_zero]
  cases Sch.rdN (Sch.rdV t) m l with
  | error e => rfl
  | ok p => simp [glue]
/-- one more -/
theorem ItsIn.next {w wr w2 w4 : World} {A R : Nat} {u : Array Value} {t : Ty} {m : Nat} {l : List UInt8} {r : Except Nat (List V × Nat)} {ys : List V} {v : Value} (h : ItsIn L w wr A R u t m l r ys v) {us : Nat → Array Value} {Fs : Nat → Nat → Prop} (hbt : Built wr (w.heap.size + 1) v ys.length us Fs ys) {n j : Nat} {x : V} {u' : Array Value} (hlt : ys.length < m)
    (hl : r = glue ys n (Sch.rdN (Sch.rdV t) (m - ys.length) (l.drop n))) (hx : Sch.rdV t (l.drop n) = .ok (x, j)) (ha : Aside (fun i => i = R) wr w2) (hown : VOwn w2 (fun k => wr.heap.size ≤ k ∧ k < w2.heap.size) u' x) (hrd : Rdr L w2 A R ((l.drop n).drop j)) :
    (w2.alloc (.cells u' 46)).ownsRow (w.heap.size + 1) 46 5 v ys.length (flat us ys.length) ∧
    ∀ g cap, w4.ownsRow (w.heap.size + 1) 46 5 (.slice (some ⟨g, 0, none⟩) (ys.length + 1) cap) (ys.length + 1) (flat us ys.length ++ u'.toList) → (w2.alloc (.cells u' 46)).grownBy w4 v.ownBlock → (v.ownBlock = some g ∨ g = (w2.alloc (.cells u' 46)).heap.size) →
      ItsIn L w w4 A R u t m l r (ys ++ [x]) (.slice (some ⟨g, 0, none⟩) (ys.length + 1) cap) := by
  have hs := h.size
  have hlow := h.low
  have hs2 := ha.size
  have hb3 : Below w2.heap.size w2 (w2.alloc (.cells u' 46)) := (Below.refl _ _).alloc (Nat.le_refl _) _
  have hs3 := hb3.size
  obtain ⟨wx, hx1, hx2, hx3⟩ := ha.split (by omega)
  have hbx : Built wx (w.heap.size + 1) v ys.length us Fs ys := hbt.aside hx1 (fun g hg he => by have := (hbt.lt g hg).1; omega) (fun i hi k hk he => by have := (hbt.range i hi k hk).1; omega)
  refine ⟨((hbx.on hx3).on hb3).row, fun g cap hr hg hn => ?_⟩
  have hst := hbx.step hx3 hown (fun k hk => ⟨by rw [hx2]; exact hk.1, hk.2⟩) hb3 (by rw [hx2]; exact hs) hr hg hn
  have hs4 := hg.size
  have hv := fun k (hk : v.ownBlock = some k) => (hbx.lt k hk)
  have a34 : Aside (fun k => v.ownBlock = some k) w2 w4 := (aside_new hb3 _).trans (G := fun k => v.ownBlock = some k) ⟨hg.os, hg.tape, hg.output, hg.size, fun k hk hf => hg.block k hk (fun hc => hf hc.symm)⟩ (fun _ _ h => h)
  have keep : ∀ k, k ≤ w.heap.size → k ≠ R → w4.heap[k]? = wr.heap[k]? := fun k hk hne => by
    rw [a34.block k (by omega) (fun hc => by have := (hv k hc).1; omega), ha.block k (by omega) hne]
  have har : Aside (fun i => i = R) w w4 := by
    refine (h.aside.trans ha (fun _ _ h => h)).trans a34 (fun i hi hc => ?_)
    have := (hv i hc).1
    omega
  refine ⟨⟨_, _, by rw [List.length_append, List.length_singleton]; exact hst⟩, (keep _ (Nat.le_refl _) (by omega)).trans h.b0, ?_, ⟨n + j, ?_, ?_⟩, har, hlow, by omega, by rw [List.length_append, List.length_singleton]; omega⟩
  · exact h.far
  · rw [← List.drop_drop]
    exact hrd.aside a34 (fun k hk => by have := (hv k hk).1; omega)
  · rw [hl, show m - ys.length = (m - (ys ++ [x]).length) + 1 by rw [List.length_append, List.length_singleton]; omega, rdN_succ, hx, stepR, glue_glue, List.drop_drop]

set_option maxRecDepth 100000 in
set_option maxHeartbeats 2000000 in
theorem itemsK (t : Ty) (hv : ValOk t) (m : Nat) (hm : m ≤ 256) (l : List UInt8) (A R : Nat) (w : World) (u : Array Value) (hf : TFar w R u t) (h : Rdr L w A R l) : Calls Try.prog 109 #[.pointer (some ⟨R, 0, none⟩), .int .i64 m, .agg u] w (RdA L w A R l (Sch.rdN (Sch.rdV t) m l) (isIts w)) := by
  obtain ⟨k0, p0, n0, c0, hu⟩ := hf.shape
  have HS := Lib.hid (itsIn_start (m := m) hf h)
  have HV := Lib.hid hv
  have hlow := h.lt
  obtain ⟨r, hr⟩ : ∃ r, r = Sch.rdN (Sch.rdV t) m l := ⟨_, rfl⟩
  rw [← hr] at HS ⊢
  subst hu
  unfold cells2 at HS ⊢
  clear hr hf h hv
  go_enter Try.func109, Try.ntmps109
  go_wp2_with fail
  go_loopw [7, 9] (fun v7 v9 wr => ∃ (ys : List V) (q : Option Addr) (c : Nat), v9 = .int .i64 ys.length ∧ v7 = .slice q ys.length c ∧ ys.length ≤ m ∧ Hid (ItsIn L w wr A R #[.int .i64 k0, .slice p0 n0 c0] t m l r ys (.slice q ys.length c))) (fun _ v9 _ => m - (intOf v9).toNat)
  case atStart => exact ⟨[], none, 0, rfl, rfl, Nat.zero_le _, HS.out⟩
  case round =>
    obtain ⟨ys, q, c, rfl, rfl, hyl, HI⟩ := hrel
    by_cases hlt : ys.length < m
    · have hj1 : (ys.length : Int) < (m : Int) := by omega
      have b0 : wr.cell? ⟨w.heap.size, 0, none⟩ = some (.int .i64 k0) := blk_cell HI.out.b0 0
      have b1 : wr.cell? ⟨w.heap.size, 1, none⟩ = some (.slice p0 n0 c0) := blk_cell HI.out.b0 1
      obtain ⟨n, hrd, hrr⟩ := HI.out.left
      obtain ⟨us, Fs, hbt⟩ := HI.out.built
      have HC := Lib.hid (HV.out L (l.drop n) A R wr _ (HI.out.far.aside HI.out.aside) hrd)
      have HRr := Lib.hid hrr
      have HBt := Lib.hid hbt
      obtain ⟨mx, hmx⟩ : ∃ x, x = Sch.rdV t (l.drop n) := ⟨_, rfl⟩
      rw [← hmx] at HC
      have HMx := Lib.hid hmx
      clear hrd hrr hbt hmx
      cases mx with
      | error er =>
        have HRe : Hid (r = .error er) := by
          show _ = _
          rw [HRr.out, show m - ys.length = (m - ys.length - 1) + 1 by omega, rdN_succ, ← HMx.out]
          rfl
        go_wp2_with fail
        refine HC.out.mono ?_
        intro e w1 hh
        obtain ⟨he, ha⟩ := hh.bad
        subst he
        clear hh
        have HA := Lib.hid (HI.out.aside.trans ha (fun _ _ h => h))
        clear ha HC
        go_wp2
        rw [HRe.out]
        exact ⟨rfl, rfl, HA.out⟩
      | ok xj =>
        obtain ⟨x, j⟩ := xj
        go_wp2_with fail
        refine HC.out.mono ?_
        intro e w2 hh
        obtain ⟨v, he, hv, hrd, ha⟩ := hh.good
        obtain ⟨u', hv2, hown⟩ := hv.open
        clear hh hv
        obtain ⟨k', i', b', t', p', n', c', hu'⟩ := hown.shape
        subst hu'
        subst hv2
        subst he
        unfold cells5 at hown ⊢
        have HNx := Lib.hid (fun w4 => HI.out.next (w4 := w4) HBt.out hlt HRr.out HMx.out.symm ha hown hrd)
        have HOn := Lib.hid hown
        have hsz : w.heap.size + 1 ≤ w2.heap.size + 1 := by have := HI.out.size; have := ha.size; omega
        clear ha hrd hown HC b0 b1
        go_wp2_with (first
          | (at_builtin; refine wp_more (B := w.heap.size + 1) (us := us) (v := .slice q ys.length c) (n := ys.length) (HNx.out w2).1 (u := #[.int .i64 k', .int .i64 i', .float .f64 b', .string t', .slice p' n' c']) rfl (one5 HOn.out) (ad := w2.heap.size) (blk_new w2 _) (by omega) (by simpa using hsz) (H := w2.heap.size + 1) (by simp) rfl rfl rfl rfl ?_
             intro g2 cap2 w4 hr4 hg4 hn4
             have HI4 := Lib.hid ((HNx.out w4).2 g2 cap2 hr4 hg4 (by simpa using hn4))
             clear hr4 hg4 hn4))
        go_roundw
        case rel =>
          refine ⟨ys ++ [x], some ⟨g2, 0, none⟩, cap2, by simp, by simp, by simp; omega, ?_⟩
          have := HI4.out
          rw [List.length_append, List.length_singleton]
          exact this
        case measure => simp [intOf]; omega
    · have hjn : ¬ (ys.length : Int) < (m : Int) := by omega
      have hm0 : m - ys.length = 0 := by omega
      obtain ⟨n, hrd, hrr⟩ := HI.out.left
      obtain ⟨us, Fs, hbt⟩ := HI.out.built
      have HRok : Hid (r = .ok (ys, n)) := by
        show _ = _
        rw [hrr, hm0, Sch.rdN, glue, List.append_nil, Nat.add_zero]
      have HIts : Hid (isIts w ys (.slice q ys.length c) wr) := by
        refine ⟨q, c, rfl, fun k => ?_⟩
        obtain ⟨p2, c2, he, hown⟩ := hbt.done (by omega) k 0 0 ⟨#[]⟩
        injection he with e1 e2 e3
        subst e1 e3
        exact hown.mono (fun i hi => ⟨by omega, hi.2⟩)
      have HRd := Lib.hid hrd
      have HA := Lib.hid HI.out.aside
      clear hrd hrr hbt HI hm0
      go_wp2
      go_ret
      rw [HRok.out]
      exact ⟨_, rfl, HIts.out, HRd.out, HA.out⟩
end
end Go.Proofs.Ytnlhpndjogjejaa

/- The landed row's reader: opts and lists. -/
namespace Go.Proofs.Ytnlhpndjogjejaa
open Go.RowKit


attribute [local go_sem] run_store_float

theorem many_6 (l : List UInt8) : Sch.many 6 l = Sch.bit l := rfl
theorem many_7 (l : List UInt8) : Sch.many 7 l = countR 256 3 l := by
  unfold Sch.many countR
  rw [if_neg (by decide)]
  rfl
theorem rdV_67 (k : Int) (h : k = 6 ∨ k = 7) (x : Ty) (l : List UInt8) : Sch.rdV (.mk k [x]) l = thenR (Sch.many k l) fun m j => thenR (Sch.rdN (Sch.rdV x) m (l.drop j)) fun vs j2 => .ok (.mk k 0 0 ⟨#[]⟩ vs, j + j2) := by
  rw [Sch.rdV_mk, if_neg (by omega)]
  cases Sch.many k l with
  | error e => rfl
  | ok p =>
    obtain ⟨m, j⟩ := p
    rw [thenR_ok]
    have e : (([x] : List Ty).map Sch.rdV).headD (fun _ => .error 0) = Sch.rdV x := rfl
    dsimp only
    rw [e]
    cases Sch.rdN (Sch.rdV x) m (l.drop j) with
    | error e => rfl
    | ok q => rfl
theorem count_le {most er : Nat} {l : List UInt8} {n k : Nat} (h : countR most er l = .ok (n, k)) : n ≤ most := by
  unfold countR at h
  split at h
  · cases h
  · split at h
    · cases h
    · injection h with h
      injection h with h1 _
      omega

section
variable {L : List UInt8}
theorem RdA.undrew {α : Type} {w w' : World} {A R : Nat} {l : List UInt8} {r : Except Nat (α × Nat)} {V : α → Value → World → Prop} {e : Ending} (h : RdA L w.drew A R l r V e w') : RdA L w A R l r V e w' := by
  cases r with
  | error k =>
    obtain ⟨h1, h2⟩ := h.bad
    exact ⟨h1, ⟨h2.os, h2.tape, h2.output, h2.size, h2.block⟩⟩
  | ok aj =>
    obtain ⟨a, j⟩ := aj
    obtain ⟨v, h1, h2, h3, h4⟩ := h.good
    exact ⟨v, h1, h2, h3, ⟨h4.os, h4.tape, h4.output, h4.size, h4.block⟩⟩
set_option maxRecDepth 100000 in
set_option maxHeartbeats 2000000 in
theorem readOptK (x : Ty) (hx : ValOk x) (l : List UInt8) (A R : Nat) (w : World) (u : Array Value) (hf : TFar w R u (.mk 6 [x])) (h : Rdr L w A R l) : Calls Try.prog 83 #[.pointer (some ⟨R, 0, none⟩), .agg u] w (RdA L w A R l (Sch.rdV (.mk 6 [x]) l) (isV w)) := by
  have hR := h.lt
  obtain ⟨g, off, c, k', q', n', c', rfl, hfx, hRg, hgw, y0, y1⟩ := hf.one
  unfold cells2
  obtain ⟨W, hW⟩ : ∃ W, W = (w.alloc (.cells #[.int .i64 6, .slice (some ⟨g, off, none⟩) 1 c] 43)).alloc (.cells #[.int .i64 0, .int .i64 0, .float .f64 0, .string ⟨#[]⟩, .slice none 0 0] 46) := ⟨_, rfl⟩
  have HI : Hid (ValIn L w W A R #[.int .i64 6, .slice (some ⟨g, off, none⟩) 1 c] l) := by rw [hW]; exact valIn_start _ h
  have HW := Lib.hid hW
  obtain ⟨r, hr⟩ : ∃ r, r = Sch.rdV (.mk 6 [x]) l := ⟨_, rfl⟩
  have HR0 := Lib.hid (hr.trans (rdV_67 6 (by omega) x l))
  rw [← hr]
  have HR : Hid (r = thenR (Sch.bit l) fun m j => thenR (Sch.rdN (Sch.rdV x) m (l.drop j)) fun vs j2 => .ok (.mk 6 0 0 ⟨#[]⟩ vs, j + j2)) := by show _ = _; rw [HR0.out, many_6]
  have HC : Hid (Calls Try.prog 102 #[.pointer (some ⟨R, 0, none⟩)] W.drew (RdA L W A R l (Sch.bit l) isI)) := (flagK l A R W.drew HI.out.rd.drew).mono fun _ _ h => h.undrew
  have HFx := Lib.hid hfx
  have HX := Lib.hid hx
  -- the cells that are read, wherever only the reader has changed
  have HCells : Hid (∀ W', Aside (fun i => i = R) W W' → W'.cell? ⟨w.heap.size, 0, none⟩ = some (.int .i64 6) ∧ W'.cell? ⟨w.heap.size, 1, none⟩ = some (.slice (some ⟨g, off, none⟩) 1 c) ∧ W'.cell? ⟨g, off, none⟩ = some (.int .i64 k') ∧ W'.cell? ⟨g, off + 1, none⟩ = some (.slice q' n' c')) := fun W' ha => by
    have hs := HI.out.size
    have hgW : g < W.heap.size := by omega
    refine ⟨?_, ?_, ?_, ?_⟩
    · rw [ha.cell (show w.heap.size < W.heap.size by omega) (show ¬ w.heap.size = R by omega)]; exact blk_cell HI.out.b0 0
    · rw [ha.cell (show w.heap.size < W.heap.size by omega) (show ¬ w.heap.size = R by omega)]; exact blk_cell HI.out.b0 1
    · rw [ha.cell (show g < W.heap.size from hgW) (show ¬ g = R by omega), HI.out.aside.cell hgw (show ¬ g = R by omega)]; exact y0
    · rw [ha.cell (show g < W.heap.size from hgW) (show ¬ g = R by omega), HI.out.aside.cell hgw (show ¬ g = R by omega)]; exact y1
  obtain ⟨x0, x1, x2, x3⟩ := HCells.out W (Aside.refl _ _)
  have q0 : W.cell? ⟨w.heap.size + 1, 0, none⟩ = some (.int .i64 0) := blk_cell HI.out.b1 0
  have qf0 : W.frozen? ⟨w.heap.size + 1, 0, none⟩ = false := blk_free HI.out.b1 0
  have q1 : W.cell? ⟨w.heap.size + 1, 1, none⟩ = some (.int .i64 0) := blk_cell HI.out.b1 1
  have qf1 : W.frozen? ⟨w.heap.size + 1, 1, none⟩ = false := blk_free HI.out.b1 1
  have q2 : W.cell? ⟨w.heap.size + 1, 2, none⟩ = some (.float .f64 0) := blk_cell HI.out.b1 2
  have qf2 : W.frozen? ⟨w.heap.size + 1, 2, none⟩ = false := blk_free HI.out.b1 2
  have q3 : W.cell? ⟨w.heap.size + 1, 3, none⟩ = some (.string ⟨#[]⟩) := blk_cell HI.out.b1 3
  have qf3 : W.frozen? ⟨w.heap.size + 1, 3, none⟩ = false := blk_free HI.out.b1 3
  have q4 : W.cell? ⟨w.heap.size + 1, 4, none⟩ = some (.slice none 0 0) := blk_cell HI.out.b1 4
  have qf4 : W.frozen? ⟨w.heap.size + 1, 4, none⟩ = false := blk_free HI.out.b1 4
  obtain ⟨m0, hm0⟩ : ∃ m, m = Sch.bit l := ⟨_, rfl⟩
  rw [← hm0] at HR HC
  have HM := Lib.hid hm0
  clear hr hm0 h hW hfx hx y0 y1 hf HR0
  cases m0 with
  | error er =>
    have HErr : Hid (∀ w2, Aside (fun i => i = R) W w2 → RdA L w A R l r (isV w) (.panicked (errV er)) w2) := fun w2 ha => by
      have e : r = .error er := HR.out
      rw [e]
      exact ⟨rfl, HI.out.aside.trans ha (fun _ _ h => h)⟩
    clear HR
    go_enter Try.func83, Try.ntmps83
    go_wp2_with fail
    rw [← HW.out]
    go_region_law (first
      | (refine step_call1b (.tmp 8) 71 (by rfl) (by rfl) (by rfl) Try.func102 (by kernel_rfl) (by rfl) HC.out (fun e w2 hh => ⟨_, hh.bad.1, rfl, HErr.out w2 hh.bad.2⟩) (.int .i64 0) ?_
         intro HF)
      | (refine step_never HF (.slice none 0 0) ?_))
    all_goals exact HF.out.elim
  | ok mj =>
    obtain ⟨m, j⟩ := mj
    have hm256 : m ≤ 256 := by have := (Sch.bit_ok HM.out.symm).1; omega
    have HR2 : Hid (r = thenR (Sch.rdN (Sch.rdV x) m (l.drop j)) fun vs j2 => .ok (.mk 6 0 0 ⟨#[]⟩ vs, j + j2)) := HR.out
    have HCi := Lib.hid (fun w1 (ha : Aside (fun i => i = R) W w1) (hrd : Rdr L w1 A R (l.drop j)) => itemsK x HX.out m hm256 (l.drop j) A R w1 _ ((HFx.out.aside HI.out.aside).aside ha) hrd)
    unfold cells2 at HCi
    obtain ⟨m1, hm1⟩ : ∃ m1, m1 = Sch.rdN (Sch.rdV x) m (l.drop j) := ⟨_, rfl⟩
    rw [← hm1] at HR2 HCi
    clear HR hm1 HM HX HFx
    cases m1 with
    | error er =>
      have HErr : Hid (∀ w1 w2, Aside (fun i => i = R) W w1 → Aside (fun i => i = R) w1 w2 → RdA L w A R l r (isV w) (.panicked (errV er)) w2) := fun w1 w2 ha ha2 => by
        have e : r = .error er := HR2.out
        rw [e]
        exact ⟨rfl, (HI.out.aside.trans ha (fun _ _ h => h)).trans ha2 (fun _ _ h => h)⟩
      clear HR2
      go_enter Try.func83, Try.ntmps83
      go_wp2_with fail
      rw [← HW.out]
      go_region_law (first
        | (refine step_call1g (.tmp 8) 71 (by rfl) (by rfl) (by rfl) Try.func102 (by kernel_rfl) (by rfl) HC.out ?_
           intro e w1 hh
           obtain ⟨v, he, hv, hrd, ha⟩ := hh.good
           clear hh
           replace hv : v = .int .i64 (m : Nat) := hv
           subst hv
           refine ⟨_, he, ?_⟩
           clear he
           have HA1 := Lib.hid ha
           have HRd1 := Lib.hid hrd
           obtain ⟨x0', x1', x2', x3'⟩ := HCells.out w1 ha
           have HI1 := Lib.hid (HI.out.step ha hrd hR)
           have r0 : w1.cell? ⟨w.heap.size + 1, 0, none⟩ = some (.int .i64 0) := blk_cell HI1.out.b1 0
           have rf0 : w1.frozen? ⟨w.heap.size + 1, 0, none⟩ = false := blk_free HI1.out.b1 0
           have r1 : w1.cell? ⟨w.heap.size + 1, 1, none⟩ = some (.int .i64 0) := blk_cell HI1.out.b1 1
           have rf1 : w1.frozen? ⟨w.heap.size + 1, 1, none⟩ = false := blk_free HI1.out.b1 1
           have r2 : w1.cell? ⟨w.heap.size + 1, 2, none⟩ = some (.float .f64 0) := blk_cell HI1.out.b1 2
           have rf2 : w1.frozen? ⟨w.heap.size + 1, 2, none⟩ = false := blk_free HI1.out.b1 2
           have r3 : w1.cell? ⟨w.heap.size + 1, 3, none⟩ = some (.string ⟨#[]⟩) := blk_cell HI1.out.b1 3
           have rf3 : w1.frozen? ⟨w.heap.size + 1, 3, none⟩ = false := blk_free HI1.out.b1 3
           have r4 : w1.cell? ⟨w.heap.size + 1, 4, none⟩ = some (.slice none 0 0) := blk_cell HI1.out.b1 4
           have rf4 : w1.frozen? ⟨w.heap.size + 1, 4, none⟩ = false := blk_free HI1.out.b1 4
           clear ha hrd)
        | (refine step_call3b (.tmp 7) (.tmp 9) (.tmp 13) 71 3 43 (by rfl) (by rfl) (by rfl) (by rfl) (by rfl) Try.func109 (by kernel_rfl) (by rfl) (HCi.out w1 HA1.out HRd1.out) (fun e w2 hh => ⟨_, hh.bad.1, rfl, HErr.out w1 w2 HA1.out hh.bad.2⟩) (.slice none 0 0) ?_
           intro HF))
      all_goals exact HF.out.elim
    | ok vj =>
      obtain ⟨vs, j2⟩ := vj
      have HRok : Hid (r = .ok (.mk 6 0 0 ⟨#[]⟩ vs, j + j2)) := HR2.out
      clear HR2
      go_enter Try.func83, Try.ntmps83
      go_wp2_with fail
      rw [← HW.out]
      go_region_law (first
        | (refine step_call1g (.tmp 8) 71 (by rfl) (by rfl) (by rfl) Try.func102 (by kernel_rfl) (by rfl) HC.out ?_
           intro e w1 hh
           obtain ⟨v, he, hv, hrd, ha⟩ := hh.good
           clear hh
           replace hv : v = .int .i64 (m : Nat) := hv
           subst hv
           refine ⟨_, he, ?_⟩
           clear he
           have HA1 := Lib.hid ha
           have HRd1 := Lib.hid hrd
           obtain ⟨x0', x1', x2', x3'⟩ := HCells.out w1 ha
           have HI1 := Lib.hid (HI.out.step ha hrd hR)
           clear ha hrd)
        | (refine step_call3g (.tmp 7) (.tmp 9) (.tmp 13) 71 3 43 (by rfl) (by rfl) (by rfl) (by rfl) (by rfl) Try.func109 (by kernel_rfl) (by rfl) (HCi.out w1 HA1.out HRd1.out) ?_
           intro e w2 hh
           obtain ⟨v, he, hv, hrd, ha⟩ := hh.good
           obtain ⟨qi, ci, hv2, hown⟩ := hv.open
           clear hh hv
           subst hv2
           refine ⟨_, he, ?_⟩
           clear he
           have HI2 := Lib.hid (HI1.out.step ha hrd hR)
           have HOn := Lib.hid hown
           have hs1 := HI1.out.size
           have hs2 := ha.size
           have k2 : w2.cell? ⟨w.heap.size, 0, none⟩ = some (.int .i64 6) := blk_cell HI2.out.b0 0
           have t0 : w2.cell? ⟨w.heap.size + 1, 0, none⟩ = some (.int .i64 0) := blk_cell HI2.out.b1 0
           have tf0 : w2.frozen? ⟨w.heap.size + 1, 0, none⟩ = false := blk_free HI2.out.b1 0
           have t1 : w2.cell? ⟨w.heap.size + 1, 1, none⟩ = some (.int .i64 0) := blk_cell HI2.out.b1 1
           have tf1 : w2.frozen? ⟨w.heap.size + 1, 1, none⟩ = false := blk_free HI2.out.b1 1
           have t2 : w2.cell? ⟨w.heap.size + 1, 2, none⟩ = some (.float .f64 0) := blk_cell HI2.out.b1 2
           have tf2 : w2.frozen? ⟨w.heap.size + 1, 2, none⟩ = false := blk_free HI2.out.b1 2
           have t3 : w2.cell? ⟨w.heap.size + 1, 3, none⟩ = some (.string ⟨#[]⟩) := blk_cell HI2.out.b1 3
           have tf3 : w2.frozen? ⟨w.heap.size + 1, 3, none⟩ = false := blk_free HI2.out.b1 3
           have t4 : w2.cell? ⟨w.heap.size + 1, 4, none⟩ = some (.slice none 0 0) := blk_cell HI2.out.b1 4
           have tf4 : w2.frozen? ⟨w.heap.size + 1, 4, none⟩ = false := blk_free HI2.out.b1 4
           clear ha hrd hown))
      all_goals
        have HFin := Lib.hid (finV (k := 6) (i := 0) (b := 0) (t := ⟨#[]⟩) (q := qi) (n := vs.length) (c := ci) (x := .mk 6 0 0 ⟨#[]⟩ vs) (N := w.heap.size + 1) hR (by omega) HI2.out.b1 (HOn.out 6) (fun i hi => ⟨by omega, by omega⟩) HI2.out.rd HI2.out.aside)
        clear x0 x1 x2 x3 x0' x1' x2' x3'
        go_wp2
        obtain ⟨f1, f2, f3, f4⟩ := HFin.out
        refine bodyPost_ret (v := .agg (cells5 6 0 0 ⟨#[]⟩ qi vs.length ci)) (results_cell_row rfl _ _ (w.heap.size + 1) _ _ _ _ rfl f1 Try.underlying46 rfl (by kernel_rfl)) rfl ?_
        rw [HRok.out]
        refine ⟨_, rfl, f2, ?_, f4⟩
        rw [← List.drop_drop]
        exact f3


set_option maxRecDepth 100000 in
set_option maxHeartbeats 2000000 in
theorem readListK (x : Ty) (hx : ValOk x) (l : List UInt8) (A R : Nat) (w : World) (u : Array Value) (hf : TFar w R u (.mk 7 [x])) (h : Rdr L w A R l) : Calls Try.prog 84 #[.pointer (some ⟨R, 0, none⟩), .agg u] w (RdA L w A R l (Sch.rdV (.mk 7 [x]) l) (isV w)) := by
  have hR := h.lt
  obtain ⟨g, off, c, k', q', n', c', rfl, hfx, hRg, hgw, y0, y1⟩ := hf.one
  unfold cells2
  obtain ⟨W, hW⟩ : ∃ W, W = (w.alloc (.cells #[.int .i64 7, .slice (some ⟨g, off, none⟩) 1 c] 43)).alloc (.cells #[.int .i64 0, .int .i64 0, .float .f64 0, .string ⟨#[]⟩, .slice none 0 0] 46) := ⟨_, rfl⟩
  have HI : Hid (ValIn L w W A R #[.int .i64 7, .slice (some ⟨g, off, none⟩) 1 c] l) := by rw [hW]; exact valIn_start _ h
  have HW := Lib.hid hW
  obtain ⟨r, hr⟩ : ∃ r, r = Sch.rdV (.mk 7 [x]) l := ⟨_, rfl⟩
  have HR0 := Lib.hid (hr.trans (rdV_67 7 (by omega) x l))
  rw [← hr]
  have HR : Hid (r = thenR (countR 256 3 l) fun m j => thenR (Sch.rdN (Sch.rdV x) m (l.drop j)) fun vs j2 => .ok (.mk 7 0 0 ⟨#[]⟩ vs, j + j2)) := by show _ = _; rw [HR0.out, many_7]
  have HC := Lib.hid (countK 256 3 (by omega) l A R W HI.out.rd)
  have HFx := Lib.hid hfx
  have HX := Lib.hid hx
  have HCells : Hid (∀ W', Aside (fun i => i = R) W W' → W'.cell? ⟨w.heap.size, 0, none⟩ = some (.int .i64 7) ∧ W'.cell? ⟨w.heap.size, 1, none⟩ = some (.slice (some ⟨g, off, none⟩) 1 c) ∧ W'.cell? ⟨g, off, none⟩ = some (.int .i64 k') ∧ W'.cell? ⟨g, off + 1, none⟩ = some (.slice q' n' c')) := fun W' ha => by
    have hs := HI.out.size
    have hgW : g < W.heap.size := by omega
    refine ⟨?_, ?_, ?_, ?_⟩
    · rw [ha.cell (show w.heap.size < W.heap.size by omega) (show ¬ w.heap.size = R by omega)]; exact blk_cell HI.out.b0 0
    · rw [ha.cell (show w.heap.size < W.heap.size by omega) (show ¬ w.heap.size = R by omega)]; exact blk_cell HI.out.b0 1
    · rw [ha.cell (show g < W.heap.size from hgW) (show ¬ g = R by omega), HI.out.aside.cell hgw (show ¬ g = R by omega)]; exact y0
    · rw [ha.cell (show g < W.heap.size from hgW) (show ¬ g = R by omega), HI.out.aside.cell hgw (show ¬ g = R by omega)]; exact y1
  obtain ⟨m0, hm0⟩ : ∃ m, m = countR 256 3 l := ⟨_, rfl⟩
  rw [← hm0] at HR HC
  have HM := Lib.hid hm0
  clear hr hm0 h hW hfx hx y0 y1 hf HR0
  cases m0 with
  | error er =>
    have HR2 : Hid (r = .error er) := HR.out
    clear HR
    go_enter Try.func84, Try.ntmps84
    go_wp2_with fail
    rw [← HW.out]
    refine HC.out.mono ?_
    intro e w1 hh
    obtain ⟨he, ha⟩ := hh.bad
    subst he
    clear hh
    have HA := Lib.hid (HI.out.aside.trans ha (fun _ _ h => h))
    clear ha HC
    go_wp2
    rw [HR2.out]
    exact ⟨rfl, rfl, HA.out⟩
  | ok mj =>
    obtain ⟨m, j⟩ := mj
    have hm256 : m ≤ 256 := count_le HM.out.symm
    have HR2 : Hid (r = thenR (Sch.rdN (Sch.rdV x) m (l.drop j)) fun vs j2 => .ok (.mk 7 0 0 ⟨#[]⟩ vs, j + j2)) := HR.out
    clear HR HM
    go_enter Try.func84, Try.ntmps84
    go_wp2_with fail
    rw [← HW.out]
    refine HC.out.mono ?_
    intro e w1 hh
    obtain ⟨v, he, hv, hrd, ha⟩ := hh.good
    clear hh
    replace hv : v = .int .i64 (m : Nat) := hv
    subst hv
    subst he
    obtain ⟨x0, x1, x2, x3⟩ := HCells.out w1 ha
    have HI1 := Lib.hid (HI.out.step ha hrd hR)
    have HCi := Lib.hid (itemsK x HX.out m hm256 (l.drop j) A R w1.drew _ (((HFx.out.aside HI.out.aside).aside ha).on (Below.refl _ _).drew) hrd.drew)
    unfold cells2 at HCi
    have q0 : w1.cell? ⟨w.heap.size + 1, 0, none⟩ = some (.int .i64 0) := blk_cell HI1.out.b1 0
    have qf0 : w1.frozen? ⟨w.heap.size + 1, 0, none⟩ = false := blk_free HI1.out.b1 0
    have q1 : w1.cell? ⟨w.heap.size + 1, 1, none⟩ = some (.int .i64 0) := blk_cell HI1.out.b1 1
    have qf1 : w1.frozen? ⟨w.heap.size + 1, 1, none⟩ = false := blk_free HI1.out.b1 1
    have q2 : w1.cell? ⟨w.heap.size + 1, 2, none⟩ = some (.float .f64 0) := blk_cell HI1.out.b1 2
    have qf2 : w1.frozen? ⟨w.heap.size + 1, 2, none⟩ = false := blk_free HI1.out.b1 2
    have q3 : w1.cell? ⟨w.heap.size + 1, 3, none⟩ = some (.string ⟨#[]⟩) := blk_cell HI1.out.b1 3
    have qf3 : w1.frozen? ⟨w.heap.size + 1, 3, none⟩ = false := blk_free HI1.out.b1 3
    have q4 : w1.cell? ⟨w.heap.size + 1, 4, none⟩ = some (.slice none 0 0) := blk_cell HI1.out.b1 4
    have qf4 : w1.frozen? ⟨w.heap.size + 1, 4, none⟩ = false := blk_free HI1.out.b1 4
    clear ha hrd HC HW HCells HFx HX
    obtain ⟨m1, hm1⟩ : ∃ m1, m1 = Sch.rdN (Sch.rdV x) m (l.drop j) := ⟨_, rfl⟩
    rw [← hm1] at HR2 HCi
    clear hm1
    cases m1 with
    | error er =>
      have HErr : Hid (r = .error er) := HR2.out
      clear HR2
      go_wp2_with fail
      go_region_law (first
        | (refine step_call3b (.tmp 10) (.tmp 11) (.tmp 15) 71 3 43 (by rfl) (by rfl) (by rfl) (by rfl) (by rfl) Try.func109 (by kernel_rfl) (by rfl) HCi.out (fun e w2 hh => ⟨_, hh.bad.1, rfl, by rw [HErr.out]; exact ⟨rfl, HI1.out.aside.drew.trans hh.bad.2 (fun _ _ h => h)⟩⟩) (.slice none 0 0) ?_
           intro HF)
        | fail)
      all_goals exact HF.out.elim
    | ok vj =>
      obtain ⟨vs, j2⟩ := vj
      have HRok : Hid (r = .ok (.mk 7 0 0 ⟨#[]⟩ vs, j + j2)) := HR2.out
      clear HR2
      go_wp2_with fail
      go_region_law (first
        | (refine step_call3g (.tmp 10) (.tmp 11) (.tmp 15) 71 3 43 (by rfl) (by rfl) (by rfl) (by rfl) (by rfl) Try.func109 (by kernel_rfl) (by rfl) HCi.out ?_
           intro e w2 hh
           obtain ⟨v, he, hv, hrd, ha⟩ := hh.good
           obtain ⟨qi, ci, hv2, hown⟩ := hv.open
           clear hh hv
           subst hv2
           refine ⟨_, he, ?_⟩
           clear he
           have HI2 := Lib.hid (HI1.out.drew.step ha hrd hR)
           have HOn := Lib.hid hown
           have hs1 := HI1.out.size
           have hs2 := ha.size
           have k2 : w2.cell? ⟨w.heap.size, 0, none⟩ = some (.int .i64 7) := blk_cell HI2.out.b0 0
           have t0 : w2.cell? ⟨w.heap.size + 1, 0, none⟩ = some (.int .i64 0) := blk_cell HI2.out.b1 0
           have tf0 : w2.frozen? ⟨w.heap.size + 1, 0, none⟩ = false := blk_free HI2.out.b1 0
           have t1 : w2.cell? ⟨w.heap.size + 1, 1, none⟩ = some (.int .i64 0) := blk_cell HI2.out.b1 1
           have tf1 : w2.frozen? ⟨w.heap.size + 1, 1, none⟩ = false := blk_free HI2.out.b1 1
           have t2 : w2.cell? ⟨w.heap.size + 1, 2, none⟩ = some (.float .f64 0) := blk_cell HI2.out.b1 2
           have tf2 : w2.frozen? ⟨w.heap.size + 1, 2, none⟩ = false := blk_free HI2.out.b1 2
           have t3 : w2.cell? ⟨w.heap.size + 1, 3, none⟩ = some (.string ⟨#[]⟩) := blk_cell HI2.out.b1 3
           have tf3 : w2.frozen? ⟨w.heap.size + 1, 3, none⟩ = false := blk_free HI2.out.b1 3
           have t4 : w2.cell? ⟨w.heap.size + 1, 4, none⟩ = some (.slice none 0 0) := blk_cell HI2.out.b1 4
           have tf4 : w2.frozen? ⟨w.heap.size + 1, 4, none⟩ = false := blk_free HI2.out.b1 4
           clear ha hrd hown)
        | fail)
      all_goals
        have HFin := Lib.hid (finV (k := 7) (i := 0) (b := 0) (t := ⟨#[]⟩) (q := qi) (n := vs.length) (c := ci) (x := .mk 7 0 0 ⟨#[]⟩ vs) (N := w.heap.size + 1) hR (by omega) HI2.out.b1 (HOn.out 7) (fun i hi => ⟨by have := hi.1; have : w1.drew.heap.size = w1.heap.size := rfl; omega, hi.2⟩) HI2.out.rd HI2.out.aside)
        go_wp2
        obtain ⟨f1, f2, f3, f4⟩ := HFin.out
        refine bodyPost_ret (v := .agg (cells5 7 0 0 ⟨#[]⟩ qi vs.length ci)) (results_cell_row rfl _ _ (w.heap.size + 1) _ _ _ _ rfl f1 Try.underlying46 rfl (by kernel_rfl)) rfl ?_
        rw [HRok.out]
        refine ⟨_, rfl, f2, ?_, f4⟩
        rw [← List.drop_drop]
        exact f3
end
end Go.Proofs.Ytnlhpndjogjejaa

/- The landed row's reader: value, by the table. -/
namespace Go.Proofs.Ytnlhpndjogjejaa
open Go.RowKit

attribute [local go_sem] run_store_float

theorem cells5_own {w : World} {F : Nat → Prop} {k i : Int} {b : Nat} {t : ByteArray} {p : Option Addr} {n c : Nat} {x : V} (h : VOwn w F #[.int .i64 k, .int .i64 i, .float .f64 b, .string t, .slice p n c] x) : VOwn w F (cells5 k i b t p n c) x := h

section
variable {L : List UInt8}

set_option maxRecDepth 100000 in
set_option maxHeartbeats 1000000 in
theorem valueR_at (k : Nat) (f : FuncId) (hk : k < 8) (hf : waysR[k]? = some (.func (.func f) #[] #[])) (l : List UInt8) (A R : Nat) (w : World) (p : Option Addr) (n c : Nat) (h : Rdr L w A R l) (rr : Except Nat (V × Nat))
    (hE : ∀ (args : Array Value) (w : World), (callFunc f args).run Try.prog w = .ok (.enter f args) w)
    (hc : ∀ w', Below w.heap.size w w' → Rdr L w' A R l → Calls Try.prog f #[.pointer (some ⟨R, 0, none⟩), .agg #[.int .i64 k, .slice p n c]] w' (RdA L w' A R l rr (isV w'))) :
    Calls Try.prog 27 #[.pointer (some ⟨R, 0, none⟩), .agg #[.int .i64 k, .slice p n c]] w (RdA L w A R l rr (isV w)) := by
  have hR := h.lt
  obtain ⟨W, hW⟩ : ∃ W, W = (w.alloc (.cells #[.int .i64 k, .slice p n c] 43)).alloc (.cells #[.int .i64 0, .int .i64 0, .float .f64 0, .string ⟨#[]⟩, .slice none 0 0] 46) := ⟨_, rfl⟩
  have HI : Hid (ValIn L w W A R #[.int .i64 k, .slice p n c] l) := by rw [hW]; exact valIn_start _ h
  have HBW : Hid (Below w.heap.size w W) := by rw [hW]; exact ((Below.refl _ _).alloc (Nat.le_refl _) _).alloc (by simp) _
  obtain ⟨T, pp, cc, a, h1, -⟩ := HI.out.rd.out
  have c0 : W.cell? ⟨R, 0, none⟩ = some (.slice (some ⟨T, 0, none⟩) 8 8) := blk_cell h1.b0 0
  have ck : W.cell? ⟨T, k, none⟩ = some (.func (.func f) #[] #[]) := (blk_cell h1.b1 k).trans hf
  have k0 : W.cell? ⟨w.heap.size, 0, none⟩ = some (.int .i64 k) := blk_cell HI.out.b0 0
  have k1 : W.cell? ⟨w.heap.size, 1, none⟩ = some (.slice p n c) := blk_cell HI.out.b0 1
  have hki : (k : Int) < 8 := by omega
  have HC := Lib.hid (hc W.drew HBW.out.drew HI.out.rd.drew)
  have HE := Lib.hid hE
  have HW := Lib.hid hW
  have q0 : W.cell? ⟨w.heap.size + 1, 0, none⟩ = some (.int .i64 0) := blk_cell HI.out.b1 0
  have q1 : W.cell? ⟨w.heap.size + 1, 1, none⟩ = some (.int .i64 0) := blk_cell HI.out.b1 1
  have q2 : W.cell? ⟨w.heap.size + 1, 2, none⟩ = some (.float .f64 0) := blk_cell HI.out.b1 2
  have q3 : W.cell? ⟨w.heap.size + 1, 3, none⟩ = some (.string ⟨#[]⟩) := blk_cell HI.out.b1 3
  have q4 : W.cell? ⟨w.heap.size + 1, 4, none⟩ = some (.slice none 0 0) := blk_cell HI.out.b1 4
  have qf0 := blk_free HI.out.b1 0
  have qf1 := blk_free HI.out.b1 1
  have qf2 := blk_free HI.out.b1 2
  have qf3 := blk_free HI.out.b1 3
  have qf4 := blk_free HI.out.b1 4
  clear h hW hc hE h1 hf
  cases rr with
  | error er =>
    go_enter Try.func27, Try.ntmps27
    go_wp2_with fail
    rw [← HW.out]
    clear HW
    go_region_law (first
      | (refine step_callv2b (.tmp 12) (.tmp 13) (.tmp 14) 71 43 (by rfl) (by rfl) (by rfl) (by rfl) (by rfl) HE.out HC.out (fun e w1 hh => ⟨_, hh.bad.1, rfl, rfl, HI.out.aside.drew.trans hh.bad.2 (fun _ _ h => h)⟩) (.agg #[.int .i64 0, .int .i64 0, .float .f64 0, .string ⟨#[]⟩, .slice none 0 0]) ?_
         intro HF)
      | fail)
    all_goals exact HF.out.elim
  | ok xj =>
    obtain ⟨x, j⟩ := xj
    go_enter Try.func27, Try.ntmps27
    go_wp2_with fail
    rw [← HW.out]
    clear HW
    go_region_law (first
      | (refine step_callv2 (.tmp 12) (.tmp 13) (.tmp 14) 71 43 (by rfl) (by rfl) (by rfl) (by rfl) (by rfl) HE.out HC.out ?_
         intro e w1 hh
         obtain ⟨v, he, hv, hrd, ha⟩ := hh.good
         obtain ⟨u, hv, hown⟩ := hv.open
         clear hh
         obtain ⟨k9, i9, b9, t9, p9, n9, c9, hu⟩ := hown.shape
         subst hu
         subst hv
         unfold cells5 at he hown
         refine ⟨_, he, ?_⟩
         clear he
         have HI1 := Lib.hid (HI.out.drew.step ha hrd hR)
         have HOn := Lib.hid hown
         have hsW := HI.out.size
         have hs1 := ha.size
         have t0 : w1.cell? ⟨w.heap.size + 1, 0, none⟩ = some (.int .i64 0) := blk_cell HI1.out.b1 0
         have t1 : w1.cell? ⟨w.heap.size + 1, 1, none⟩ = some (.int .i64 0) := blk_cell HI1.out.b1 1
         have t2 : w1.cell? ⟨w.heap.size + 1, 2, none⟩ = some (.float .f64 0) := blk_cell HI1.out.b1 2
         have t3 : w1.cell? ⟨w.heap.size + 1, 3, none⟩ = some (.string ⟨#[]⟩) := blk_cell HI1.out.b1 3
         have t4 : w1.cell? ⟨w.heap.size + 1, 4, none⟩ = some (.slice none 0 0) := blk_cell HI1.out.b1 4
         have tf0 := blk_free HI1.out.b1 0
         have tf1 := blk_free HI1.out.b1 1
         have tf2 := blk_free HI1.out.b1 2
         have tf3 := blk_free HI1.out.b1 3
         have tf4 := blk_free HI1.out.b1 4
         clear ha hrd hown)
      | fail)
    all_goals
      have hsd : W.drew.heap.size = W.heap.size := rfl
      have HFin := Lib.hid (finV (N := w.heap.size + 1) hR (by omega) HI1.out.b1 (cells5_own HOn.out) (fun i hi => ⟨by have := hi.1; omega, hi.2⟩) HI1.out.rd HI1.out.aside)
      go_wp2
      obtain ⟨f1, f2, f3, f4⟩ := HFin.out
      refine bodyPost_ret (v := .agg (cells5 k9 i9 b9 t9 p9 n9 c9)) (results_cell_row rfl _ _ (w.heap.size + 1) _ _ _ _ rfl f1 Try.underlying46 rfl (by kernel_rfl)) rfl ?_
      exact ⟨_, rfl, f2, f3, f4⟩

theorem valueR : ∀ (t : Ty) (d : Nat), Ty.check d t = 0 → ValOk t := by
  intro t
  refine Ty.ind (P := fun t => ∀ (d : Nat), Ty.check d t = 0 → ValOk t) ?_ t
  rintro k ts ih d hd L l A R w u hf hr
  obtain ⟨hd4, hk, htt⟩ := Sch.ty_open hd
  rcases htt with ⟨h67, rfl⟩ | ⟨h67, y, rfl, hy⟩
  · obtain ⟨k', p, n, c, hu⟩ := hf.shape
    have hk' : k' = k := by
      obtain ⟨w0, h1, -⟩ := hf.out
      obtain ⟨p2, c2, hu2, -⟩ := h1.open
      rw [hu] at hu2
      unfold cells2 at hu2
      simp only [Array.mk.injEq, List.cons.injEq, Value.int.injEq, true_and] at hu2
      exact hu2.1
    subst hk' hu
    unfold cells2
    have hcase : k' = 1 ∨ k' = 2 ∨ k' = 3 ∨ k' = 4 ∨ k' = 5 := by omega
    have e : Sch.rdV (.mk k' []) l = Sch.scalar k' l := by rw [Sch.rdV_mk, if_pos (by omega)]
    rw [e]
    rcases hcase with h | h | h | h | h <;> subst h
    · exact valueR_at 1 78 (by omega) rfl l A R w p n c hr _ (enters Try.func78 (by kernel_rfl) rfl) (fun w' _ h => readBoolK l A R w' p n c h)
    · exact valueR_at 2 79 (by omega) rfl l A R w p n c hr _ (enters Try.func79 (by kernel_rfl) rfl) (fun w' _ h => readIntK l A R w' p n c h)
    · exact valueR_at 3 80 (by omega) rfl l A R w p n c hr _ (enters Try.func80 (by kernel_rfl) rfl) (fun w' _ h => readFloatK l A R w' p n c h)
    · exact valueR_at 4 81 (by omega) rfl l A R w p n c hr _ (enters Try.func81 (by kernel_rfl) rfl) (fun w' _ h => readTextK l A R w' p n c h)
    · have e5 : Sch.scalar 5 l = bytesR 5 l := scalar_5 l
      rw [e5]
      exact valueR_at 5 82 (by omega) rfl l A R w p n c hr _ (enters Try.func82 (by kernel_rfl) rfl) (fun w' _ h => readBytesK 5 l A R w' p n c h)
  · obtain ⟨g, off, c, k', q', n', c', hu, -⟩ := hf.one
    have hv := ih y (by simp) (d + 1) hy
    subst hu
    unfold cells2 at hf ⊢
    rcases h67 with h | h <;> subst h
    · exact valueR_at 6 83 (by omega) rfl l A R w _ _ c hr _ (enters Try.func83 (by kernel_rfl) rfl) (fun w' hb h => readOptK y hv l A R w' _ (hf.on hb) h)
    · exact valueR_at 7 84 (by omega) rfl l A R w _ _ c hr _ (enters Try.func84 (by kernel_rfl) rfl) (fun w' hb h => readListK y hv l A R w' _ (hf.on hb) h)
end
end Go.Proofs.Ytnlhpndjogjejaa

/- The landed row's reader: readFrom; what Decode leans on. -/
namespace Go.Proofs.Ytnlhpndjogjejaa
open Go.RowKit

attribute [local go_sem] run_store_float

theorem waysToReadK (w : World) : Calls Try.prog 54 #[] w fun e w' => e = .returned (.slice (some ⟨w.heap.size, 0, none⟩) 8 8) ∧ w' = w.alloc (.cells waysR 94) := by
  go_enter Try.func54, Try.ntmps54
  go_wp2_with fail
  go_ret
  exact ⟨rfl, rfl⟩
/-- a place beside the reader is set -/
theorem Rdr.set {L : List UInt8} {w : World} {A R : Nat} {l : List UInt8} (h : Rdr L w A R l) {j : Nat} {C : Array Value} {ty : TypeId} {fr : Nat × Nat} (hj : w.heap[j]? = some (.cells C ty fr)) (hC : C.size ≠ 8) (hR : j ≠ R) (hA : A ≤ j) (m : Nat) (u : Value) : Rdr L (w.setCell ⟨j, m, none⟩ u) A R l := by
  obtain ⟨T, p, c, a, h1, h2⟩ := h.out
  have hT : T ≠ j := by
    intro he
    have := h1.b1
    rw [he, hj] at this
    injection this with this
    injection this with this
    rw [this] at hC
    exact hC rfl
  have ha : Aside (fun i => i = j) w (w.setCell ⟨j, m, none⟩ u) := aside_set _ _ _ _
  have hRw := blk_lt h1.b0
  have hTw := blk_lt h1.b1
  refine ⟨⟨T, p, c, a, ⟨(ha.block R hRw (by omega)).trans h1.b0, (ha.block T hTw (by omega)).trans h1.b1, ?_, h1.cap, h1.far, h1.tab, h1.pos⟩, h2⟩, h.small, h.low⟩
  rcases h1.lies with h3 | ⟨b, o, rfl, hb, hcs⟩
  · exact .inl h3
  · by_cases h0 : L = []
    · exact .inl h0
    · have hbA := h1.far h0 _ rfl
      refine .inr ⟨b, o, rfl, Nat.lt_of_lt_of_le hb ha.size, fun i hi => ?_⟩
      rw [World.cell?_of_block (w := w) (ha.block b hb (by show ¬ b = j; simp only at hbA; omega))]
      exact hcs i hi
/-- what readFrom answers -/
def FromA (w : World) (A : Nat) (l : List UInt8) (a : Int) (e : Ending) (w' : World) : Prop :=
  if a < 0 ∨ (l.length : Int) < a then e = .panicked (errV 30) ∧ Below w.heap.size w w'
  else e = .returned (.pointer (some ⟨w.heap.size + 1, 0, none⟩)) ∧ Rdr l w' A (w.heap.size + 1) (l.drop a.toNat) ∧ Below w.heap.size w w' ∧ w.heap.size + 2 ≤ w'.heap.size

set_option maxRecDepth 100000 in
set_option maxHeartbeats 1000000 in
theorem readFromK (l : List UInt8) (q : Option Addr) (c : Nat) (a : Int) (A : Nat) (w : World) (hl : l.length ≤ 140737488351232) (hlc : l.length ≤ c) (hat : At w q l) (hA : A ≤ w.heap.size) (hfar : l ≠ [] → ∀ d, q = some d → d.block < A) (ha1 : -9223372036854775808 ≤ a) (ha2 : a ≤ 9223372036854775807) :
    Calls Try.prog 26 #[.slice q l.length c, .int .i64 a] w (FromA w A l a) := by
  obtain ⟨W, hW⟩ : ∃ W, W = (w.alloc (.cells waysR 94)).alloc (.cells #[.slice (some ⟨w.heap.size, 0, none⟩) 8 8, .slice q l.length c, .int .i64 a] 77) := ⟨_, rfl⟩
  have HB : Hid (Below w.heap.size w W) := by rw [hW]; exact ((Below.refl _ _).alloc (Nat.le_refl _) _).alloc (by simp) _
  have hsz : W.heap.size = w.heap.size + 2 := by rw [hW]; simp
  have b0 : W.heap[w.heap.size + 1]? = some (.cells #[.slice (some ⟨w.heap.size, 0, none⟩) 8 8, .slice q l.length c, .int .i64 a] 77 (0, 0)) := by
    have := blk_new (w.alloc (.cells waysR 94)) (.cells #[.slice (some ⟨w.heap.size, 0, none⟩) 8 8, .slice q l.length c, .int .i64 a] 77)
    rw [hW]; simpa using this
  have b1 : W.heap[w.heap.size]? = some (.cells waysR 94 (0, 0)) := by
    rw [hW, blk_old _ _ (by simp)]
    exact blk_new w _
  have HOk : Hid (¬ (a < 0 ∨ (l.length : Int) < a) → Rdr l W A (w.heap.size + 1) (l.drop a.toNat)) := fun h0 => by
    have ea : ((a.toNat : Nat) : Int) = a := by omega
    exact ⟨⟨w.heap.size, q, c, a.toNat, ⟨by rw [ea]; exact b0, b1, hat.on HB.out, hlc, hfar, by omega, by omega⟩, rfl⟩, hl, by omega⟩
  have HSz := Lib.hid hsz
  have HW := Lib.hid hW
  clear hW b0 b1 hat hfar hsz
  by_cases h0 : a < 0 ∨ (l.length : Int) < a
  · have e : FromA w A l a = fun e w' => e = .panicked (errV 30) ∧ Below w.heap.size w w' := by
      funext e w'
      unfold FromA
      rw [if_pos h0]
    rw [e]
    clear e
    by_cases h1 : a < 0
    · have g0 : decide (0 ≤ a) = false := decide_eq_false (by omega)
      clear h0 HOk
      go_enter Try.func26, Try.ntmps26
      go_wp2_with fail
      refine (waysToReadK _).mono ?_
      rintro e w1 ⟨rfl, hw1⟩
      rw [hw1]
      clear hw1 w1
      go_wp2_with fail
      rw [← HW.out]
      refine (need_f _ 30 _).mono ?_
      rintro e w1 ⟨rfl, hw1⟩
      rw [hw1]
      clear hw1 w1
      go_wp2
      exact ⟨rfl, rfl, HB.out⟩
    · have g0 : decide (0 ≤ a) = true := decide_eq_true (by omega)
      have g1 : decide (a ≤ (l.length : Int)) = false := decide_eq_false (by omega)
      clear h0 HOk
      go_enter Try.func26, Try.ntmps26
      go_wp2_with fail
      refine (waysToReadK _).mono ?_
      rintro e w1 ⟨rfl, hw1⟩
      rw [hw1]
      clear hw1 w1
      go_wp2_with fail
      rw [← HW.out]
      refine (need_f _ 30 _).mono ?_
      rintro e w1 ⟨rfl, hw1⟩
      rw [hw1]
      clear hw1 w1
      go_wp2
      exact ⟨rfl, rfl, HB.out⟩
  · have e : FromA w A l a = fun e w' => e = .returned (.pointer (some ⟨w.heap.size + 1, 0, none⟩)) ∧ Rdr l w' A (w.heap.size + 1) (l.drop a.toNat) ∧ Below w.heap.size w w' ∧ w.heap.size + 2 ≤ w'.heap.size := by
      funext e w'
      unfold FromA
      rw [if_neg h0]
    rw [e]
    clear e
    have g0 : decide (0 ≤ a) = true := decide_eq_true (by omega)
    have g1 : decide (a ≤ (l.length : Int)) = true := decide_eq_true (by omega)
    have HRd := Lib.hid (HOk.out h0)
    clear HOk h0
    go_enter Try.func26, Try.ntmps26
    go_wp2_with fail
    refine (waysToReadK _).mono ?_
    rintro e w1 ⟨rfl, hw1⟩
    rw [hw1]
    clear hw1 w1
    go_wp2_with fail
    rw [← HW.out]
    refine (need_t _ 30 _).mono ?_
    rintro e w1 ⟨rfl, hw1⟩
    rw [hw1]
    clear hw1 w1
    go_wp2
    go_ret
    exact ⟨rfl, HRd.out, HB.out, by rw [HSz.out]; exact Nat.le_refl _⟩

/-- five cells are laid at a place of a row -/
def lay5o (w : World) (g o : Nat) (k i : Int) (b : Nat) (t : ByteArray) (s : Value) : World := ((((w.setCell ⟨g, o, none⟩ (.int .i64 k)).setCell ⟨g, o + 1, none⟩ (.int .i64 i)).setCell ⟨g, o + 2, none⟩ (.float .f64 b)).setCell ⟨g, o + 3, none⟩ (.string t)).setCell ⟨g, o + 4, none⟩ s
theorem lay5o_aside (w : World) (g o : Nat) (k i : Int) (b : Nat) (t : ByteArray) (s : Value) : Aside (fun j => j = g) w (lay5o w g o k i b t s) := by
  have h0 : Aside (fun j => j = g) w (w.setCell ⟨g, o, none⟩ (.int .i64 k)) := aside_set _ _ _ _
  have h1 := h0.trans (aside_set _ g (o + 1) (.int .i64 i)) (fun _ _ h => h)
  have h2 := h1.trans (aside_set _ g (o + 2) (.float .f64 b)) (fun _ _ h => h)
  have h3 := h2.trans (aside_set _ g (o + 3) (.string t)) (fun _ _ h => h)
  exact h3.trans (aside_set _ g (o + 4) s) (fun _ _ h => h)
theorem lay5o_size (w : World) (g o : Nat) (k i : Int) (b : Nat) (t : ByteArray) (s : Value) : (lay5o w g o k i b t s).heap.size = w.heap.size := by simp [lay5o, World.setCell]
theorem lay5o_owns {w : World} {B g n cap : Nat} {xs : List Value} {z0 z1 z2 z3 z4 : Value} (hx : xs.length = n * 5) (h : w.ownsRow B 46 5 (.slice (some ⟨g, 0, none⟩) (n + 1) cap) (n + 1) (xs ++ [z0, z1, z2, z3, z4])) (k i : Int) (b : Nat) (t : ByteArray) (q : Option Addr) (m c : Nat) :
    (∀ j, j < 5 → ∃ z, w.cell? ⟨g, n * 5 + j, none⟩ = some z) ∧ (∀ j, w.frozen? ⟨g, j, none⟩ = false) ∧
    (lay5o w g (n * 5) k i b t (.slice q m c)).ownsRow B 46 5 (.slice (some ⟨g, 0, none⟩) (n + 1) cap) (n + 1) (xs ++ (cells5 k i b t q m c).toList) := by
  rcases h.2 with ⟨h1, _⟩ | ⟨g', cap', cur, hv, hb, hg, hn, hc, hs, ht⟩
  · cases h1
  · injection hv with hv1 _ hv2
    injection hv1 with hv1
    injection hv1 with hv1
    subst hv1 hv2
    have hcur : cur.toList = xs ++ (z0 :: z1 :: z2 :: z3 :: z4 :: cur.toList.drop ((n + 1) * 5)) := by
      have h3 := (List.take_append_drop ((n + 1) * 5) cur.toList).symm
      rw [ht, List.append_assoc] at h3
      exact h3
    obtain ⟨C⟩ := cur
    simp only at hcur
    obtain ⟨rest, hrest⟩ : ∃ r, r = C.drop ((n + 1) * 5) := ⟨_, rfl⟩
    rw [← hrest] at hcur
    have hset : ∀ (ys : List Value) (j : Nat) (v : Value), (xs ++ ys).set (n * 5 + j) v = xs ++ ys.set j v := fun ys j v => by
      rw [← hx, List.set_append_right _ _ (by omega), Nat.add_sub_cancel_left]
    refine ⟨fun j hj => ?_, fun j => blk_free hg j, ?_, .inr ⟨g, cap, _, rfl, hb, blk_set (blk_set (blk_set (blk_set (blk_set hg (n * 5) (.int .i64 k)) (n * 5 + 1) (.int .i64 i)) (n * 5 + 2) (.float .f64 b)) (n * 5 + 3) (.string t)) (n * 5 + 4) (.slice q m c), hn, hc, by simpa using hs, ?_⟩⟩
    · have hlt : n * 5 + j < C.length := by rw [hcur, List.length_append, hx]; simp; omega
      exact ⟨C[n * 5 + j], by rw [cell_of_row w g (n * 5 + j) ⟨C⟩ 46 (0, 0) hg]; simp [hlt]⟩
    · rw [List.length_append, hx]
      unfold cells5
      simp
      omega
    · have h0 := hset (z0 :: z1 :: z2 :: z3 :: z4 :: rest) 0
      simp only [Nat.add_zero] at h0
      simp only [Array.set!_eq_setIfInBounds, Array.toList_setIfInBounds]
      rw [hcur, h0, hset, hset, hset, hset]
      unfold cells5
      have e : (n + 1) * 5 = xs.length + 5 := by rw [hx]; omega
      rw [e, List.take_append, List.take_of_length_le (by omega), Nat.add_sub_cancel_left]
      simp
end Go.Proofs.Ytnlhpndjogjejaa

/- The landed row's Decode: what stands while it reads. -/
namespace Go.Proofs.Ytnlhpndjogjejaa
open Go.RowKit

attribute [local go_sem] run_store_float

theorem setCell_comm8 (w : World) (g o j o' : Nat) (u v : Value) (h : g ≠ j) : (w.setCell ⟨j, o', none⟩ u).setCell ⟨g, o, none⟩ v = (w.setCell ⟨g, o, none⟩ v).setCell ⟨j, o', none⟩ u := by
  unfold World.setCell
  congr 1
  apply Array.ext
  · simp
  · intro i h1 h2
    simp only [Array.getElem_modify]
    by_cases e1 : g = i
    · by_cases e2 : j = i
      · omega
      · simp [e1, e2]
    · by_cases e2 : j = i
      · simp [e1, e2]
      · simp [e1, e2]
theorem lay5o_comm (w : World) (g o j : Nat) (k i : Int) (b : Nat) (t : ByteArray) (s u : Value) (h : g ≠ j) : lay5o (w.setCell ⟨j, 0, none⟩ u) g o k i b t s = (lay5o w g o k i b t s).setCell ⟨j, 0, none⟩ u := by
  unfold lay5o
  rw [setCell_comm8 _ _ _ _ _ _ _ h, setCell_comm8 _ _ _ _ _ _ _ h, setCell_comm8 _ _ _ _ _ _ _ h, setCell_comm8 _ _ _ _ _ _ _ h, setCell_comm8 _ _ _ _ _ _ _ h]

/-- while columns are read: told, behind, e; the row so far; the reader -/
structure DecL (L : List UInt8) (w wr : World) (R : Nat) (s : List Col) (m : List UInt8) (r : Except Nat (List V × Nat)) (ys : List V) (v : Value) : Prop where
  b1 : wr.heap[w.heap.size + 1]? = some (.cells #[v] 27 (0, 0))
  b2 : wr.heap[w.heap.size + 2]? = some (.cells #[.int .i64 0] 3 (0, 0))
  b3 : wr.heap[w.heap.size + 3]? = some (.cells #[.int .i64 0] 31 (0, 0))
  below : Below w.heap.size w wr
  low : w.heap.size + 4 ≤ R
  high : R < wr.heap.size
  built : ∃ us Fs, Built wr (R + 1) v ys.length us Fs ys
  left : ∃ n, Rdr L wr w.heap.size R (m.drop n) ∧ r = glue ys n (Rw.rd (s.drop ys.length) (m.drop n))
  len : ys.length ≤ s.length

/-- the zero value's cells -/
def zero5 : Array Value := #[.int .i64 0, .int .i64 0, .float .f64 0, .string ⟨#[]⟩, .slice none 0 0]

section
variable {L : List UInt8} {w wr wa w2 w3 w4 : World} {R : Nat} {s : List Col} {m : List UInt8} {r : Except Nat (List V × Nat)} {ys : List V} {v : Value} {us : Nat → Array Value} {Fs : Nat → Nat → Prop} {n j : Nat} {x : V} {k i : Int} {b : Nat} {t : ByteArray} {q : Option Addr} {nn c : Nat}

theorem DecL.row (h : DecL L w wr R s m r ys v) (hbt : Built wr (R + 1) v ys.length us Fs ys) (hba : Below wr.heap.size wr wa) (ha : Aside (fun i => i = R) wa w2) (hb3 : Below w2.heap.size w2 w3) : w3.ownsRow (R + 1) 46 5 v ys.length (flat us ys.length) ∧ w2.heap[w.heap.size + 1]? = some (.cells #[v] 27 (0, 0)) := by
  have hlow := h.low
  have hhigh := h.high
  have hsa := hba.size
  have hbx : Built wa (R + 1) v ys.length us Fs ys := hbt.on hba
  have hb2 : Built w2 (R + 1) v ys.length us Fs ys := hbx.aside ha (fun g hg he => by have := (hbx.lt g hg).1; omega) (fun i hi k hk he => by have := (hbx.range i hi k hk).1; omega)
  refine ⟨(hb2.on hb3).row, ?_⟩
  rw [ha.block _ (by omega) (by omega), hba.block _ (by omega)]
  exact h.b1

theorem DecL.next (h : DecL L w wr R s m r ys v) (hbt : Built wr (R + 1) v ys.length us Fs ys) (hlt : ys.length < s.length) (hl : r = glue ys n (Rw.rd (s.drop ys.length) (m.drop n))) (hx : Sch.rdV s[ys.length].ty (m.drop n) = .ok (x, j))
    (hba : Below wr.heap.size wr wa) (ha : Aside (fun i => i = R) wa w2) (hown : VOwn w2 (fun k => wa.heap.size ≤ k ∧ k < w2.heap.size) (cells5 k i b t q nn c) x) (hrd : Rdr L w2 w.heap.size R ((m.drop n).drop j)) (hb3 : Below w2.heap.size w2 w3) {g cap : Nat}
    (hr : w4.ownsRow (R + 1) 46 5 (.slice (some ⟨g, 0, none⟩) (ys.length + 1) cap) (ys.length + 1) (flat us ys.length ++ zero5.toList)) (hg : w3.grownBy w4 v.ownBlock) (hn : v.ownBlock = some g ∨ g = w3.heap.size) :
    (∀ j, j < 5 → ∃ z, w4.cell? ⟨g, ys.length * 5 + j, none⟩ = some z) ∧ (∀ j, w4.frozen? ⟨g, j, none⟩ = false) ∧ R < g ∧ w4.heap[w.heap.size + 1]? = some (.cells #[v] 27 (0, 0)) ∧
    DecL L w ((lay5o w4 g (ys.length * 5) k i b t (.slice q nn c)).setCell ⟨w.heap.size + 1, 0, none⟩ (.slice (some ⟨g, 0, none⟩) (ys.length + 1) cap)) R s m r (ys ++ [x]) (.slice (some ⟨g, 0, none⟩) (ys.length + 1) cap) := by
  have hlow := h.low
  have hhigh := h.high
  have hsa := hba.size
  have hs2 := ha.size
  have hs3 := hb3.size
  have hs4 := hg.size
  have hbx : Built wa (R + 1) v ys.length us Fs ys := hbt.on hba
  obtain ⟨wx, hx1, hx2, hx3⟩ := ha.split (by omega)
  have hby : Built wx (R + 1) v ys.length us Fs ys := hbx.aside hx1 (fun g hg he => by have := (hbx.lt g hg).1; omega) (fun i hi k hk he => by have := (hbx.range i hi k hk).1; omega)
  have hfl : (flat us ys.length).length = ys.length * 5 := by
    have := hbt.row.1
    exact this
  obtain ⟨p1, p2, p3⟩ := lay5o_owns (z0 := .int .i64 0) (z1 := .int .i64 0) (z2 := .float .f64 0) (z3 := .string ⟨#[]⟩) (z4 := .slice none 0 0) hfl hr k i b t q nn c
  have hgR : R < g := (hr.lt g rfl).1
  have hgs : g < w4.heap.size := (hr.lt g rfl).2
  obtain ⟨w5, hw5⟩ : ∃ w5, w5 = lay5o w4 g (ys.length * 5) k i b t (.slice q nn c) := ⟨_, rfl⟩
  have a5 : Aside (fun j => j = g) w4 w5 := by rw [hw5]; exact lay5o_aside _ _ _ _ _ _ _ _
  have s5 : w5.heap.size = w4.heap.size := by rw [hw5]; exact lay5o_size _ _ _ _ _ _ _ _
  have hg5 : w3.grownBy w5 v.ownBlock := by
    refine ⟨a5.os.trans hg.os, a5.tape.trans hg.tape, a5.output.trans hg.output, by omega, fun k hk hne => ?_⟩
    rw [a5.block k (by omega) (fun he => ?_)]
    · exact hg.block k hk hne
    · rcases hn with hn | hn
      · exact hne (by rw [hn, he])
      · omega
  rw [← hw5] at p3
  have hst := hby.step hx3 hown (fun k hk => ⟨by rw [hx2]; exact hk.1, hk.2⟩) hb3 (by rw [hx2]; omega) p3 hg5 hn
  have hv := fun k (hk : v.ownBlock = some k) => (hbx.lt k hk)
  -- what lies below stays
  have keep : ∀ k, k ≤ R → k ≠ R → k < wr.heap.size → w5.heap[k]? = wr.heap[k]? := fun k hk hne hkl => by
    rw [a5.block k (by omega) (by omega), hg.block k (by omega) (fun hc => by have := (hv k hc.symm).1; omega), hb3.block k (by omega), ha.block k (by omega) hne, hba.block k hkl]
  have t5 : w5.heap[w.heap.size + 1]? = some (.cells #[v] 27 (0, 0)) := (keep _ (by omega) (by omega) (by omega)).trans h.b1
  have t4 : w4.heap[w.heap.size + 1]? = some (.cells #[v] 27 (0, 0)) := by
    rw [← a5.block _ (by omega) (by omega)]
    exact t5
  have a34 : Aside (fun k => R < k) w2 w5 := by
    refine (aside_new hb3 (fun k => R < k)).trans (G := fun k => R < k) ⟨hg5.os, hg5.tape, hg5.output, hg5.size, fun k hk hf => hg5.block k hk (fun hc => ?_)⟩ (fun _ _ h => h)
    have := (hv k hc.symm).1
    omega
  have hrd5 : Rdr L w5 w.heap.size R ((m.drop n).drop j) := hrd.aside a34 (fun k hk => hk)
  obtain ⟨w6, hw6⟩ : ∃ w6, w6 = w5.setCell ⟨w.heap.size + 1, 0, none⟩ (.slice (some ⟨g, 0, none⟩) (ys.length + 1) cap) := ⟨_, rfl⟩
  have a6 : Aside (fun j => j = w.heap.size + 1) w5 w6 := by rw [hw6]; exact aside_set _ _ _ _
  have s6 := a6.size
  rw [← hw5, ← hw6]
  refine ⟨p1, p2, hgR, t4, ?_⟩
  have hst6 := hst.aside a6 (fun g' hg' he => by have := (hst.lt g' hg').1; omega) (fun i hi k hk he => by have := (hst.range i hi k hk).1; omega)
  refine ⟨?_, ?_, ?_, ?_, hlow, by omega, ⟨_, _, by rw [List.length_append, List.length_singleton]; exact hst6⟩, ⟨n + j, ?_, ?_⟩, by rw [List.length_append, List.length_singleton]; omega⟩
  · rw [hw6, blk_set t5 0]; rfl
  · rw [a6.block _ (by omega) (by omega), keep _ (by omega) (by omega) (by omega)]; exact h.b2
  · rw [a6.block _ (by omega) (by omega), keep _ (by omega) (by omega) (by omega)]; exact h.b3
  · refine ⟨?_, ?_, ?_, by have := h.below.size; omega, fun k hk => ?_⟩
    · rw [a6.os, hg5.os, hb3.os, ha.os, hba.os]; exact h.below.os
    · rw [a6.tape, hg5.tape, hb3.tape, ha.tape, hba.tape]; exact h.below.tape
    · rw [a6.output, hg5.output, hb3.output, ha.output, hba.output]; exact h.below.output
    · rw [a6.block k (by omega) (by omega), keep k (by omega) (by omega) (by omega)]
      exact h.below.block k hk
  · rw [← List.drop_drop, hw6]
    exact hrd5.set t5 (by simp) (by omega) (by omega) 0 _
  · rw [hl, List.length_append, List.length_singleton, List.drop_eq_getElem_cons hlt, rd_cons, hx, stepRd, glue_glue, List.drop_drop]
end
end Go.Proofs.Ytnlhpndjogjejaa
