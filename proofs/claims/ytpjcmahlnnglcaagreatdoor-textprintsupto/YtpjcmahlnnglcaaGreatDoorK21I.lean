/- The landed text: several values. -/
import Derived.Test.YtpjcmahlnnglcaaGreatDoorK21H
import Derived.Test.YtpjcmahlnnglcaaGreatDoorB02
namespace Go.Proofs.YtpjcmahlnnglcaaGreatDoor
open Go.RowKit
attribute [local go_sem] run_store_float

/-- what changed in block R alone, and then new blocks -/
theorem Aside.split {w w2 : World} {R : Nat} (h : Aside (fun i => i = R) w w2) (hR : R < w.heap.size) : ∃ w1, Aside (fun i => i = R) w w1 ∧ w1.heap.size = w.heap.size ∧ Below w1.heap.size w1 w2 := by
  have hs := h.size
  refine ⟨{ w with heap := w.heap.setIfInBounds R (w2.heap[R]'(by omega)) }, ⟨rfl, rfl, rfl, by simp, fun k hk hf => ?_⟩, by simp, ⟨h.os, h.tape, h.output, by simpa using hs, fun k hk => ?_⟩⟩
  · show (w.heap.setIfInBounds R _)[k]? = _
    rw [Array.getElem?_setIfInBounds_ne (fun e => hf e.symm)]
  · have hk' : k < w.heap.size := by simpa using hk
    show _ = (w.heap.setIfInBounds R _)[k]?
    by_cases e : k = R
    · subst e
      rw [Array.getElem?_setIfInBounds_self_of_lt hk']
      exact Array.getElem?_eq_getElem _
    · rw [Array.getElem?_setIfInBounds_ne (fun e2 => e e2.symm)]
      exact h.block k hk' e
/-- a row of one that was just made -/
theorem owns_lit {w : World} {B : Nat} {u : Array Value} {T : TypeId} {n : Nat} (hu : u.size = n) (hB : B ≤ w.heap.size) : (w.alloc (.cells u T)).ownsRow B T n (.slice (some ⟨w.heap.size, 0, none⟩) (0 + 1) 1) (0 + 1) (flat (fun _ => #[]) 0 ++ u.toList) := by
  refine ⟨by simp [flat, hu], .inr ⟨w.heap.size, 1, u, rfl, hB, blk_new w _, by omega, by unfold maxLen; omega, by rw [hu, Nat.one_mul], ?_⟩⟩
  simp [flat]
  exact List.take_of_length_le (by simp [hu])
/-- what follows the first ones -/
def sqc {α : Type} (p : Tx.Bs → Tx.R (α × Tx.Bs)) : List α → Nat → Tx.Bs → Tx.R (List α × Tx.Bs)
  | xs, 0, r => if r.head? = some 44 then .error (0, 0) else .ok (xs, r)
  | xs, n + 1, r => if r.head? = some 44 then andM (Tx.must [44, 32] r) fun r1 => andP (p r1) fun x r2 => sqc p (xs ++ [x]) n r2 else .ok (xs, r)
theorem sqc_pre {α : Type} (p : Tx.Bs → Tx.R (α × Tx.Bs)) : ∀ (n : Nat) (xs : List α) (y : α) (r : Tx.Bs), r.length ≤ n → (∀ l x r, p l = .ok (x, r) → r.length ≤ l.length) → sqc p (xs ++ [y]) n r = andP (sqc p [y] n r) fun ys r => .ok (xs ++ ys, r)
  | 0, xs, y, r, hr, _ => by
    have : r = [] := List.eq_nil_of_length_eq_zero (by omega)
    subst this
    rfl
  | n + 1, xs, y, r, hr, hp => by
    rw [sqc, sqc]
    by_cases h : r.head? = some 44
    · rw [if_pos h, if_pos h]
      cases hm : Tx.must [44, 32] r with
      | error e => rfl
      | ok r1 =>
        have hl := congrArg List.length (Tx.must_ok _ _ _ hm)
        simp only [List.length_append, List.length_cons, List.length_nil] at hl
        dsimp only [andM]
        cases hq : p r1 with
        | error e => rfl
        | ok z =>
          obtain ⟨x, r2⟩ := z
          have h2 := hp _ _ _ hq
          dsimp only [andP]
          have e1 := sqc_pre p n (xs ++ [y]) x r2 (by omega) hp
          have e2 := sqc_pre p n [y] x r2 (by omega) hp
          rw [e1, e2]
          cases sqc p [x] n r2 with
          | error e => rfl
          | ok z => show Except.ok (xs ++ [y] ++ z.1, z.2) = Except.ok (xs ++ ([y] ++ z.1), z.2); rw [List.append_assoc]
    · rw [if_neg h, if_neg h]
      rfl
theorem pseq_sqc {α : Type} (p : Tx.Bs → Tx.R (α × Tx.Bs)) (hp : ∀ l x r, p l = .ok (x, r) → r.length ≤ l.length) : ∀ (n : Nat) (l : Tx.Bs), l.length ≤ n → Tx.pseq p (n + 1) l = andP (p l) fun x r => sqc p [x] n r
  | n, l, hl => by
    rw [Tx.pseq]
    cases hq : p l with
    | error e => rfl
    | ok z =>
      obtain ⟨x, r⟩ := z
      have hr := hp _ _ _ hq
      dsimp only [andP]
      match n with
      | 0 =>
        have : r = [] := List.eq_nil_of_length_eq_zero (by omega)
        subst this
        rfl
      | n + 1 =>
        rw [sqc]
        by_cases h : r.head? = some 44
        · rw [if_pos h, if_pos h]
          cases hm : Tx.must [44, 32] r with
          | error e => rfl
          | ok r1 =>
            have h1 := congrArg List.length (Tx.must_ok _ _ _ hm)
            simp only [List.length_append, List.length_cons, List.length_nil] at h1
            dsimp only [andM]
            rw [pseq_sqc p hp n r1 (by omega)]
            cases hq2 : p r1 with
            | error e => rfl
            | ok z =>
              obtain ⟨y, r2⟩ := z
              have h2 := hp _ _ _ hq2
              dsimp only [andP]
              rw [sqc_pre p n [x] y r2 (by omega) hp]
              cases sqc p [y] n r2 with
              | error e => rfl
              | ok z => rfl
        · rw [if_neg h, if_neg h]
theorem sqc_stop {α : Type} {p : Tx.Bs → Tx.R (α × Tx.Bs)} {xs : List α} {n : Nat} {r : Tx.Bs} (h : r.head? ≠ some 44) : sqc p xs n r = .ok (xs, r) := by
  cases n with
  | zero => rw [sqc, if_neg h]
  | succ n => rw [sqc, if_neg h]
theorem sqc_go {α : Type} {p : Tx.Bs → Tx.R (α × Tx.Bs)} {xs : List α} {n : Nat} {r : Tx.Bs} (h : r.head? = some 44) (hn : r.length ≤ n) : ∃ m, n = m + 1 ∧ sqc p xs n r = andM (Tx.must [44, 32] r) fun r1 => andP (p r1) fun x r2 => sqc p (xs ++ [x]) m r2 := by
  cases n with
  | zero =>
    have : r = [] := List.eq_nil_of_length_eq_zero (by omega)
    subst this
    cases h
  | succ m => exact ⟨m, rfl, by rw [sqc, if_pos h]⟩

/-- values in blocks that are new since w -/
def isVs (w : World) (xs : List V) (v : Value) (w' : World) : Prop := (∃ us Fs, Built w' w.heap.size v xs.length us Fs xs) ∧ xs.length ≤ 1099511627777
theorem isVs.open {w w' : World} {xs : List V} {v : Value} (h : isVs w xs v w') : (∃ us Fs, Built w' w.heap.size v xs.length us Fs xs) ∧ xs.length ≤ 1099511627777 := h
/-- while they are read -/
structure SeVs (w wr : World) (P : Nat) (S : ByteArray) (p : Tx.Bs → Tx.R (V × Tx.Bs)) (R : Tx.R (List V × Tx.Bs)) (v : Value) (xs : List V) (n : Nat) (r : Tx.Bs) : Prop where
  built : ∃ us Fs, Built wr w.heap.size v xs.length us Fs xs
  prs : Prs wr P S r
  res : R = sqc p xs n r
  few : r.length ≤ n
  asd : Aside (fun i => i = P) w wr
  len : xs.length + r.length ≤ S.size + 1
/-- one more -/
theorem SeVs.more {w wr w2 w4 : World} {P : Nat} {S : ByteArray} {p : Tx.Bs → Tx.R (V × Tx.Bs)} {R' : Tx.R (List V × Tx.Bs)} {v : Value} {xs : List V} {m : Nat} {r2 : Tx.Bs} {us : Nat → Array Value} {Fs : Nat → Nat → Prop} {x : V} {u : Array Value} {g cap : Nat}
    (hP : P < w.heap.size) (h : Built wr w.heap.size v xs.length us Fs xs) (ha0 : Aside (fun i => i = P) w wr) (ha : Aside (fun i => i = P) wr w2) (hx : VOwn w2 (fun k => wr.heap.size ≤ k ∧ k < w2.heap.size) u x) (hp : Prs w2 P S r2)
    (hr : w4.ownsRow w.heap.size 31 5 (.slice (some ⟨g, 0, none⟩) (xs.length + 1) cap) (xs.length + 1) (flat us xs.length ++ u.toList)) (hg : (w2.alloc (.cells u 31)).grownBy w4 v.ownBlock) (hn : v.ownBlock = some g ∨ g = w2.heap.size + 1)
    (hres : R' = sqc p (xs ++ [x]) m r2) (hfew : r2.length ≤ m) (hlen : (xs ++ [x]).length + r2.length ≤ S.size + 1) : SeVs w w4 P S p R' (.slice (some ⟨g, 0, none⟩) (xs ++ [x]).length cap) (xs ++ [x]) m r2 := by
  have hb3 : Below w2.heap.size w2 (w2.alloc (.cells u 31)) := (Below.refl _ _).alloc (Nat.le_refl _) _
  have hs0 := ha0.size
  have hs2 := ha.size
  obtain ⟨wx, hx1, hx2, hx3⟩ := ha.split (by omega)
  have hbx : Built wx w.heap.size v xs.length us Fs xs := h.aside hx1 (fun g hg he => by have := (h.lt g hg).1; omega) (fun j hj k hk he => by have := (h.range j hj k hk).1; omega)
  have hst := hbx.step hx3 hx (fun k hk => ⟨by rw [hx2]; exact hk.1, hk.2⟩) hb3 (by rw [hx2]; omega) hr hg (by rcases hn with hn | hn; exact .inl hn; exact .inr (by rw [hn]; simp))
  have hag : Aside (fun k => v.ownBlock = some k) w2 w4 := (aside_new hb3 _).trans (aside_grew hg) (fun _ _ h => h)
  have hlt := h.lt
  have el : (xs ++ [x]).length = xs.length + 1 := by simp
  refine ⟨⟨_, _, by rw [el]; exact hst⟩, hp.aside hag (fun k hk => by have := (hlt k hk).1; omega), hres, hfew, (ha0.trans ha (fun _ _ h => h)).trans hag (fun i hi hc => by have := (hlt i hc).1; omega), hlen⟩

/-- the first one -/
theorem SeVs.first {w w2 : World} {P : Nat} {S : ByteArray} {p : Tx.Bs → Tx.R (V × Tx.Bs)} {R : Tx.R (List V × Tx.Bs)} {n : Nat} {r : Tx.Bs} {x : V} {u : Array Value} (hP : P < w.heap.size) (ha : Aside (fun i => i = P) w w2) (hx : VOwn w2 (fun k => w.heap.size ≤ k ∧ k < w2.heap.size) u x) (hu : u.size = 5) (hp : Prs w2 P S r)
    (hres : R = sqc p [x] n r) (hfew : r.length ≤ n) (hlen : 1 + r.length ≤ S.size + 1) : SeVs w (w2.alloc (.cells u 31)) P S p R (.slice (some ⟨w2.heap.size, 0, none⟩) 1 1) [x] n r := by
  obtain ⟨wx, hx1, hx2, hx3⟩ := ha.split hP
  have hs := ha.size
  have hst := (built_nil wx w.heap.size).step hx3 hx (fun k hk => ⟨by rw [hx2]; exact hk.1, hk.2⟩) (Below.refl _ _) (by rw [hx2]; exact Nat.le_refl _) (owns_lit hu hs) (World.grownBy_alloc _ _ _) (.inr rfl)
  have hb3 : Below w2.heap.size w2 (w2.alloc (.cells u 31)) := (Below.refl _ _).alloc (Nat.le_refl _) _
  exact ⟨⟨_, _, hst⟩, hp.on hb3, hres, hfew, ha.trans (aside_new hb3 (fun i => i = P)) (fun _ _ h => h), hlen⟩

set_option maxRecDepth 100000 in
set_option maxHeartbeats 8000000 in
theorem severalVs {w : World} {P : Nat} {S : ByteArray} {l : Tx.Bs} (h : Prs w P S l) (hS : S.size ≤ 1099511627776) (p : Tx.Bs → Tx.R (V × Tx.Bs)) (hp : ∀ l x r, p l = .ok (x, r) → r.length ≤ l.length) (a2 a3 : Addr)
    (hone : ∀ w' l', Aside (fun i => i = P) w w' → Prs w' P S l' → Calls Tryz.prog 137 #[.pointer (some a2), .pointer (some a3)] w' (PsA w' P S (p l') (isVa w'))) :
    Calls Tryz.prog 136 #[.pointer (some ⟨P, 0, none⟩), .func (.func 137) #[] #[.pointer (some a2), .pointer (some a3)]] w (PsA w P S (Tx.pseq p (l.length + 1) l) (isVs w)) := by
  have HO := Lib.hid hone
  have HPp := Lib.hid hp
  obtain ⟨R, hR⟩ : ∃ R, R = Tx.pseq p (l.length + 1) l := ⟨_, rfl⟩
  have HRR : Hid (R = andP (p l) fun x r => sqc p [x] l.length r) := hR.trans (pseq_sqc p hp l.length l (Nat.le_refl _))
  rw [← hR]
  have HPlt := Lib.hid h.lt
  have HO1 := Lib.hid (hone w l (Aside.refl _ _) h)
  obtain ⟨Y, hY⟩ : ∃ Y, Y = p l := ⟨_, rfl⟩
  rw [← hY] at HO1 HRR
  have hle := h.le
  have HLl := Lib.hid hle
  clear h hone hR hle
  cases Y with
  | error er =>
    obtain ⟨ek, en⟩ := er
    have HRe : Hid (R = .error (ek, en)) := HRR.out
    clear HRR hY hp
    go_enter Tryz.func136, Tryz.ntmps136
    go_wp2_with fail
    refine HO1.out.mono ?_
    intro e w1 hh
    obtain ⟨he, ha1⟩ := hh.bad
    subst he
    have HA1 := Lib.hid ha1
    clear hh ha1 HO1
    go_wp2
    rw [HRe.out]
    exact ⟨rfl, rfl, HA1.out⟩
  | ok z =>
    obtain ⟨x, r⟩ := z
    have HRk : Hid (R = sqc p [x] l.length r) := HRR.out
    have HLr := Lib.hid (hp _ _ _ hY.symm)
    clear HRR hY hp
    go_enter Tryz.func136, Tryz.ntmps136
    go_wp2_with fail
    refine HO1.out.mono ?_
    intro e w1 hh
    obtain ⟨v1, he, hv1, hp1, ha1⟩ := hh.good
    obtain ⟨u1, hu1, hown1⟩ := hv1.open
    obtain ⟨k1, i1, b1, t1, p1, n1, c1, hsh⟩ := hown1.shape
    subst hsh
    unfold cells5 at hu1 hown1
    subst hu1
    subst he
    have HI1 : Hid (SeVs w (w1.alloc (.cells #[.int .i64 k1, .int .i64 i1, .float .f64 b1, .string t1, .slice p1 n1 c1] 31)) P S p R (.slice (some ⟨w1.heap.size, 0, none⟩) 1 1) [x] l.length r) :=
      SeVs.first HPlt.out ha1 hown1 rfl hp1 HRk.out HLr.out (by have := HLr.out; have := HLl.out; omega)
    clear hh hv1 hown1 hp1 ha1 HO1 HRk HLr
    go_wp2_with fail
    go_loopw [5] (fun v5 wr => ∃ (q : Option Addr) (cap n : Nat) (xs : List V) (r : Tx.Bs), v5 = .slice q xs.length cap ∧ Hid (SeVs w wr P S p R (.slice q xs.length cap) xs n r)) (fun _ wr => S.size - atOf wr P)
    case atStart => exact ⟨_, 1, l.length, [x], r, rfl, HI1⟩
    case round =>
      obtain ⟨q, cap, n, xs, r, rfl, HI⟩ := hrel
      obtain ⟨us, Fs, hbu⟩ := HI.out.built
      have hpr := HI.out.prs
      have HBu := Lib.hid hbu
      have HSt := Lib.hid (standsK hpr 44)
      have HAt : Hid (atOf wr P = S.size - r.length) := hpr.atOf
      have hsm := hpr.small
      have hle := hpr.le
      by_cases hc : r.head? = some 44
      case neg =>
        rw [decide_eq_false hc] at HSt
        have HRk : Hid (R = .ok (xs, r)) := HI.out.res.trans (sqc_stop hc)
        clear hc hbu hpr hsm hle
        go_wp2_with fail
        refine HSt.out.mono ?_
        rintro e w2 ⟨rfl, m, hw2⟩
        have HE : Hid (isVs w xs (.slice q xs.length cap) w2 ∧ Prs w2 P S r ∧ Aside (fun i => i = P) w w2) := by
          rw [hw2]
          exact ⟨⟨⟨us, Fs, HBu.out.aside (aside_drewN (fun _ => False) wr m) (fun _ _ h => h) (fun _ _ _ _ h => h)⟩, by have := HI.out.len; omega⟩, HI.out.prs.drewN m, HI.out.asd.trans (aside_drewN _ wr m) (fun _ _ h => h)⟩
        clear hw2 HSt
        go_wp2
        go_ret
        rw [HRk.out]
        exact ⟨_, rfl, HE.out.1, HE.out.2.1, HE.out.2.2⟩
      rw [decide_eq_true hc] at HSt
      obtain ⟨m, hnm, hgo⟩ := sqc_go (p := p) (xs := xs) hc HI.out.few
      have HGo : Hid (R = andM (Tx.must [44, 32] r) fun r1 => andP (p r1) fun x r2 => sqc p (xs ++ [x]) m r2) := HI.out.res.trans hgo
      have HNm := Lib.hid hnm
      have HLn := Lib.hid HI.out.len
      have HFw := Lib.hid HI.out.few
      have HA0 := Lib.hid HI.out.asd
      have HPs : Hid (∀ k, Prs (wr.drewN k) P S r ∧ Aside (fun i => i = P) wr (wr.drewN k)) := fun k => ⟨hpr.drewN k, aside_drewN _ _ k⟩
      have HC0 : Hid (r.length ≤ S.size) := hle
      clear hc hbu hpr hsm hle hgo hnm HI
      go_wp2_with fail
      refine HSt.out.mono ?_
      rintro e w2 ⟨rfl, k, hw2⟩
      obtain ⟨hp2, ha2⟩ := HPs.out k
      rw [← hw2] at hp2 ha2
      have HPa := Lib.hid (passK hp2 ⟨#[44, 32]⟩ (by decide))
      rw [show (ByteArray.mk #[44, 32]).data.toList = [44, 32] from rfl] at HPa
      have HA2 := Lib.hid ha2
      obtain ⟨G, hG⟩ : ∃ G, G = Tx.must [44, 32] r := ⟨_, rfl⟩
      rw [← hG] at HPa HGo
      have HGe := Lib.hid hG
      clear hw2 hp2 ha2 HSt HPs hG
      cases G with
      | error er =>
        obtain ⟨ek, en⟩ := er
        have HRe : Hid (R = .error (ek, en)) := HGo.out
        clear HGo
        go_wp2_with fail
        refine HPa.out.mono ?_
        intro e w3 hh
        obtain ⟨he, ha3⟩ := hh.bad
        subst he
        have HA3 := Lib.hid ((HA0.out.trans HA2.out (fun _ _ h => h)).trans ha3 (fun _ _ h => h))
        clear hh ha3 HPa
        go_wp2
        rw [HRe.out]
        exact ⟨rfl, rfl, HA3.out⟩
      | ok r1 =>
        have hl1 := congrArg List.length (Tx.must_ok _ _ _ HGe.out.symm)
        have HL1 : Hid (r.length = r1.length + 2) := by show _ = _; rw [hl1, List.length_append]; simp; omega
        clear hl1
        go_wp2_with fail
        refine HPa.out.mono ?_
        intro e w3 hh
        obtain ⟨he, hp3, ha3⟩ := hh.good
        subst he
        have HA3 := Lib.hid (HA2.out.trans ha3 (fun _ _ h => h))
        have HO3 := Lib.hid (HO.out w3 r1 ((HA0.out.trans HA2.out (fun _ _ h => h)).trans ha3 (fun _ _ h => h)) hp3)
        have HG2 : Hid (R = andP (p r1) fun x r2 => sqc p (xs ++ [x]) m r2) := HGo.out
        obtain ⟨Y, hY⟩ : ∃ Y, Y = p r1 := ⟨_, rfl⟩
        rw [← hY] at HO3 HG2
        have HYe := Lib.hid hY
        clear hh hp3 ha3 HPa HGo hY
        cases Y with
        | error er =>
          obtain ⟨ek, en⟩ := er
          have HRe : Hid (R = .error (ek, en)) := HG2.out
          clear HG2
          go_wp2_with fail
          refine HO3.out.mono ?_
          intro e w4 hh
          obtain ⟨he, ha4⟩ := hh.bad
          subst he
          have HA4 := Lib.hid ((HA0.out.trans HA3.out (fun _ _ h => h)).trans ha4 (fun _ _ h => h))
          clear hh ha4 HO3
          go_wp2
          rw [HRe.out]
          exact ⟨rfl, rfl, HA4.out⟩
        | ok z =>
          obtain ⟨x, r2⟩ := z
          have HRk : Hid (R = sqc p (xs ++ [x]) m r2) := HG2.out
          have HL2 := Lib.hid (HPp.out _ _ _ HYe.out.symm)
          clear HG2 HYe
          go_wp2_with fail
          refine HO3.out.mono ?_
          intro e w4 hh
          obtain ⟨v1, he, hv1, hp4, ha4⟩ := hh.good
          obtain ⟨u1, hu1, hown1⟩ := hv1.open
          obtain ⟨k1, i1, b1, t1, p1, n1, c1, hsh⟩ := hown1.shape
          subst hsh
          unfold cells5 at hu1 hown1
          subst hu1
          subst he
          have hA4 : Aside (fun i => i = P) wr w4 := HA3.out.trans ha4 (fun _ _ h => h)
          have hs3 := HA3.out.size
          have hown2 : VOwn w4 (fun k => wr.heap.size ≤ k ∧ k < w4.heap.size) #[.int .i64 k1, .int .i64 i1, .float .f64 b1, .string t1, .slice p1 n1 c1] x := hown1.mono (fun k hk => ⟨by omega, hk.2⟩)
          have hrow : (w4.alloc (.cells #[.int .i64 k1, .int .i64 i1, .float .f64 b1, .string t1, .slice p1 n1 c1] 31)).ownsRow w.heap.size 31 5 (.slice q xs.length cap) xs.length (flat us xs.length) := by
            have hb4 : Below w4.heap.size w4 (w4.alloc (.cells #[.int .i64 k1, .int .i64 i1, .float .f64 b1, .string t1, .slice p1 n1 c1] 31)) := (Below.refl _ _).alloc (Nat.le_refl _) _
            have h1 := HBu.out.aside (hA4.trans (aside_new hb4 (fun i => i = P)) (fun _ _ h => h)) (fun g hg he => by have := (HBu.out.lt g hg).1; have := HPlt.out; omega) (fun j hj k hk he => by have := (HBu.out.range j hj k hk).1; have := HPlt.out; omega)
            exact h1.row
          have HRow := Lib.hid hrow
          have HOw := Lib.hid hown2
          have HA4 := Lib.hid hA4
          have HP4 := Lib.hid hp4
          have hn64 : (xs.length + 1) * 64 ≤ 140737488355328 := by have := HLn.out; omega
          have hBs : w.heap.size ≤ (w4.alloc (.cells #[.int .i64 k1, .int .i64 i1, .float .f64 b1, .string t1, .slice p1 n1 c1] 31)).heap.size := by have := HA0.out.size; have := hA4.size; simp; omega
          clear hh hv1 hown1 hown2 hp4 ha4 hA4 hs3 hrow HO3 HO
          go_wp2_with (first
            | (at_builtin; refine wp_more (B := w.heap.size) HRow.out rfl (one5 HOw.out) (ad := w4.heap.size) (by exact blk_new w4 _) hn64 hBs (H := w4.heap.size + 1) (by simp) rfl rfl rfl rfl ?_
               intro g cap2 w5 hr5 hg5 hn5
               have HI5 : Hid (SeVs w w5 P S p R (.slice (some ⟨g, 0, none⟩) (xs ++ [x]).length cap2) (xs ++ [x]) m r2) := SeVs.more HPlt.out HBu.out HA0.out HA4.out HOw.out HP4.out hr5 hg5 hn5 HRk.out (by have := HL2.out; have := HL1.out; have := HFw.out; have := HNm.out; omega) (by have := HL2.out; have := HL1.out; have := HLn.out; simp; omega)
               clear hr5 hg5 hn5)
            | fail)
          go_roundw
          case rel => exact ⟨some ⟨g, 0, none⟩, cap2, m, xs ++ [x], r2, by simp, HI5⟩
          case measure =>
            have h6 := HI5.out.prs.atOf
            have h7 := HI5.out.prs.le
            have h8 := HL1.out
            have h9 := HL2.out
            have h10 := HC0.out
            rw [h6, HAt.out]
            omega
end Go.Proofs.YtpjcmahlnnglcaaGreatDoor
