/- K7J, K7R: put together. -/
import Derived.Test.YtnjggejallnkoaaM31
import Derived.Test.YtnjggejallnkoaaM33
import Derived.Test.YtnjggejallnkoaaM25
import Derived.Test.YtnjggejallnkoaaM05
import Derived.Test.YtnjggejallnkoaaM10
import Derived.Test.YtnjggejallnkoaaM02
import Derived.Test.YtnjggejallnkoaaM06
import Derived.Test.YtnjggejallnkoaaM28

/- The landed schema: Encode, Check. -/
namespace Go.Proofs.Ytnjggejallnkoaa
open Go.RowKit

attribute [local go_sem] run_store_float

/-- the bytes that Encode tells -/
def encB (s : List Col) : List UInt8 := if Sch.err s = 0 then Sch.bytes s else []
theorem err_colsK (s : List Col) : Sch.err s = if colsK s ≠ 0 then colsK s else if 1024 < (Sch.bytes s).length then 2 else 0 := by
  unfold Sch.err colsK
  by_cases h0 : s.length = 0
  · rw [if_pos h0, if_pos h0, if_pos (by decide)]
  · rw [if_neg h0, if_neg h0]
    by_cases h1 : 16 < s.length
    · rw [if_pos h1, if_pos h1, if_pos (by decide)]
    · rw [if_neg h1, if_neg h1]

set_option maxRecDepth 100000 in
set_option maxHeartbeats 4000000 in
theorem encodeK (s : List Col) (p : Option Addr) (c : Nat) (w : World) (hs : s.length * 120 ≤ 140737488351232) (hx : Cols w p s) (hwf : ∀ x ∈ s, x.wf) :
    Calls Try.prog 26 #[.agg #[.slice p s.length c]] w fun e w' => ∃ q cap, e = .returned (.tuple #[.slice q (encB s).length cap, .int .i64 (Sch.err s : Nat)]) ∧ At w' q (encB s) ∧ (encB s).length ≤ cap ∧ Below w.heap.size w w' := by
  obtain ⟨W0, hW0⟩ : ∃ W0, W0 = w.alloc (.cells #[.slice p s.length c] 31) := ⟨_, rfl⟩
  have HB0 : Hid (Below w.heap.size w W0) := by rw [hW0]; exact (Below.refl _ _).alloc (Nat.le_refl _) _
  have HY0 : Hid (W0.cell? ⟨w.heap.size, 0, none⟩ = some (.slice p s.length c)) := by show _ = _; rw [hW0]; simp
  have HW0 := Lib.hid hW0
  have HX := Lib.hid hx
  have HWf := Lib.hid hwf
  have HE := Lib.hid (err_colsK s)
  have HC := Lib.hid (checkColumnsK s p c W0 (hx.on HB0.out) hwf)
  have HEnc : Hid (encB s = if Sch.err s = 0 then Sch.bytes s else []) := rfl
  have HK0 : Hid (colsK s = 0 → s.length ≤ 16 ∧ Sch.colsErr [] s = 0) := fun h => by
    unfold colsK at h
    split at h
    · omega
    · split at h
      · omega
      · exact ⟨by omega, h⟩
  obtain ⟨L, hL⟩ : ∃ L, L = encB s := ⟨_, rfl⟩
  obtain ⟨R, hR⟩ : ∃ R, R = Sch.err s := ⟨_, rfl⟩
  rw [← hL] at HEnc ⊢
  rw [← hR] at HE HEnc ⊢
  obtain ⟨ck, hck⟩ : ∃ n, n = colsK s := ⟨_, rfl⟩
  rw [← hck] at HC HE HK0
  clear hW0 hx hwf hL hR hck
  go_enter Try.func26, Try.ntmps26
  go_wp2_with fail
  rw [← HW0.out]
  clear HW0
  refine HC.out.mono ?_
  rintro e w1 ⟨rfl, hb1⟩
  have y1 := cell_on hb1 HY0.out
  have HB1 := Lib.hid (HB0.out.trans (hb1.mono HB0.out.size))
  clear hb1 HC HY0
  by_cases h0 : ¬ ck = 0
  · have g0 : ((ck : Int) != 0) = true := bne_t (by omega)
    have HR2 : Hid (R = ck) := by show _ = _; rw [HE.out, if_pos h0]
    have HL2 : Hid (L = []) := by show _ = _; rw [HEnc.out, HR2.out, if_neg h0]
    clear h0 HE HEnc HK0
    go_wp2
    go_ret2
    rw [HL2.out, HR2.out]
    exact ⟨none, 0, rfl, .inl rfl, Nat.le_refl _, HB1.out⟩
  replace h0 : ck = 0 := Classical.not_not.1 h0
  have g0 : ((ck : Int) != 0) = false := bne_f (by omega)
  obtain ⟨hs16, hce⟩ := HK0.out h0
  have HR2 : Hid (R = if 1024 < (Sch.bytes s).length then 2 else 0) := by show _ = _; rw [HE.out, if_neg (by omega)]
  have HCe := Lib.hid hce
  have HP := Lib.hid (put_any s.length (by omega))
  have hpl := Leb.put_length_le s.length
  have HBy : Hid (Sch.bytes s = Leb.put s.length ++ (s.map Sch.cB).flatten) := rfl
  obtain ⟨l0, hl0⟩ : ∃ l0, l0 = Leb.put s.length := ⟨_, rfl⟩
  rw [← hl0] at HP hpl HBy
  obtain ⟨by0, hby⟩ : ∃ l, l = Sch.bytes s := ⟨_, rfl⟩
  rw [← hby] at HBy HR2 HEnc
  have hs16' : (s.length : Int) ≤ 16 := by omega
  clear h0 HE HK0 hce hl0 hby
  go_wp2_with fail
  refine (HP.out _).mono ?_
  rintro e w2 ⟨g, cap0, rfl, hm, hb2⟩
  have y2 := cell_on hb2 y1
  have HH2 := Lib.hid hm.has
  have HB2 := Lib.hid hb2
  clear hm hb2 HP y1
  have HZ0 : Hid (l0 = l0 ++ ((s.take 0).map Sch.cB).flatten) := by show _ = _; simp
  go_wp2_with fail
  go_loopw [5, 22] (fun v5 v22 wr => ∃ (j : Nat) (zs : List UInt8) (q : Option Addr) (cap : Nat), j ≤ s.length ∧ v22 = .int .i64 j ∧ v5 = .slice q zs.length cap ∧ zs.length ≤ 10 + j * 3000 ∧ Hid ((zs = l0 ++ ((s.take j).map Sch.cB).flatten ∨ (1024 < zs.length ∧ 1024 < (l0 ++ ((s.take j).map Sch.cB).flatten).length)) ∧ Has wr w1.heap.size (.slice q zs.length cap) zs ∧ Below w1.heap.size w1 wr)) (fun _ v22 _ => s.length - (intOf v22).toNat)
  case atStart => exact ⟨0, l0, some ⟨g, 0, none⟩, cap0, by omega, rfl, rfl, by omega, .inl HZ0.out, HH2.out, HB2.out⟩
  case round =>
    obtain ⟨j, zs, q, cap, hj, rfl, rfl, hzl, HL⟩ := hrel
    by_cases hlt : j < s.length
    · have hbr : Below w.heap.size w wr := HB1.out.trans (HL.out.2.2.mono HB1.out.size)
      obtain ⟨bx, ox, k, tp, tn, tc, vk, vi, vb, vt, vp, vn, vc, rfl, _, h9, htx, hvx⟩ := (HX.out.on HB1.out).at j hlt
      obtain ⟨a0, a1, a2, a3, a4, a5, a6, a7, a8⟩ := h9.on HL.out.2.2
      have hj1 : (j : Int) < (s.length : Int) := by omega
      obtain ⟨l', hce⟩ := Sch.colsErr_mem s [] HCe.out s[j] (List.getElem_mem hlt)
      obtain ⟨o1, -, o3, -, o5⟩ := Sch.col_open hce
      have hnm := (Sch.name_size o1).2
      obtain ⟨wa, hwa⟩ : ∃ wa, wa = wr.alloc (.cells #[.string s[j].name, .int .i64 k, .slice tp tn tc, .bool s[j].has, .int .i64 vk, .int .i64 vi, .float .f64 vb, .string vt, .slice vp vn vc] 55) := ⟨_, rfl⟩
      have HBa : Hid (Below wr.heap.size wr wa) := by rw [hwa]; exact (Below.refl _ _).alloc (Nat.le_refl _) _
      have hsz := HL.out.2.2.size
      have hb1a : Below w1.heap.size w1 wa := HL.out.2.2.trans (HBa.out.mono hsz)
      have HB1a := Lib.hid hb1a
      have HCol := Lib.hid (appendColumnK s[j] w1 wa _ (.slice q zs.length cap) zs ⟨k, tp, tn, tc, vk, vi, vb, vt, vp, vn, vc, rfl, htx, hvx⟩ (HWf.out _ (List.getElem_mem hlt)) hnm o3 (fun h => (o5 h).1) hb1a (HL.out.2.1.on HBa.out) (by omega))
      have HHa := Lib.hid (HL.out.2.1.on HBa.out)
      have HTk := Lib.hid (Sch.flatten_take Sch.cB s j hlt)
      have HTl := Lib.hid (Sch.flatten_take_le Sch.cB s j)
      have HOld := Lib.hid HL.out.1
      unfold cells9 at HCol
      obtain ⟨cb, hcb⟩ : ∃ l, l = Sch.cB s[j] := ⟨_, rfl⟩
      rw [← hcb] at HCol HTk
      generalize s[j].name = nm at *
      generalize s[j].has = hs0 at *
      have HWa := Lib.hid hwa
      clear h9 htx hvx hce o1 o3 o5 hnm hwa hb1a HL hbr hcb
      go_wp2_with fail
      rw [← HWa.out]
      clear HWa a0 a1 a2 a3 a4 a5 a6 a7 a8
      refine HCol.out.mono ?_
      rintro e w3 ⟨ys, q3, cap3, hor, hyl, rfl, hg3⟩
      have HN : Hid ((ys = l0 ++ ((s.take (j + 1)).map Sch.cB).flatten ∨ (1024 < ys.length ∧ 1024 < (l0 ++ ((s.take (j + 1)).map Sch.cB).flatten).length)) ∧ Has w3 w1.heap.size (.slice q3 ys.length cap3) ys ∧ Below w1.heap.size w1 w3) := by
        refine ⟨?_, hg3.has, HB1a.out.trans (hg3.low HHa.out HB1a.out.size)⟩
        have hge : ∀ (A : List UInt8), (A ++ cb).length = A.length + cb.length := fun A => List.length_append
        rw [HTk.out, ← List.append_assoc]
        rcases HOld.out with h1 | h1
        · rw [← h1]; exact hor
        · refine .inr ⟨?_, ?_⟩
          · rcases hor with h2 | h2
            · rw [h2, List.length_append]; omega
            · exact h2.1
          · rw [List.length_append]; omega
      have hys : ys.length ≤ 10 + (j + 1) * 3000 := by omega
      clear hor hg3 hyl HCol HHa HTk HTl HOld
      go_wp2
      go_roundw
      case rel => exact ⟨j + 1, ys, q3, cap3, by omega, by go_num, rfl, hys, HN.out⟩
      case measure => simp [intOf]; omega
    · have hjn : ¬ (j : Int) < (s.length : Int) := by omega
      have HF : Hid (Below w.heap.size w wr) := HB1.out.trans (HL.out.2.2.mono HB1.out.size)
      have hor : (zs = by0 ∨ (1024 < zs.length ∧ 1024 < by0.length)) := by
        have h1 := HL.out.1
        rw [List.take_of_length_le (by omega), ← HBy.out] at h1
        exact h1
      have HH := Lib.hid HL.out.2.1
      clear HL
      by_cases hbig : 1024 < zs.length
      · have gb : (1024 : Int) < (zs.length : Int) := by omega
        have hby1 : 1024 < by0.length := by
          rcases hor with h1 | h1
          · rw [← h1]; exact hbig
          · exact h1.2
        have HR3 : Hid (R = 2) := by show _ = _; rw [HR2.out, if_pos hby1]
        have HL3 : Hid (L = []) := by show _ = _; rw [HEnc.out, HR3.out, if_neg (by decide)]
        clear hor hbig hby1 HR2 HEnc
        go_wp2
        go_ret2
        rw [HL3.out, HR3.out]
        exact ⟨none, 0, rfl, .inl rfl, Nat.le_refl _, HF.out⟩
      · have gb : ¬ (1024 : Int) < (zs.length : Int) := by omega
        have hzb : zs = by0 := by
          rcases hor with h1 | h1
          · exact h1
          · exact absurd h1.1 hbig
        have HR3 : Hid (R = 0) := by show _ = _; rw [HR2.out, if_neg (by rw [← hzb]; exact hbig)]
        have HL3 : Hid (L = zs) := by show _ = _; rw [HEnc.out, HR3.out, if_pos rfl, hzb]
        obtain ⟨q', cap', he, hat, hcap⟩ := HH.out.at
        injection he with e1 _ e2
        subst e1 e2
        have HAt := Lib.hid hat
        clear hor hbig hzb HR2 HEnc hat
        go_wp2
        go_ret2
        rw [HL3.out, HR3.out]
        exact ⟨_, _, rfl, HAt.out, hcap, HF.out⟩

set_option maxRecDepth 100000 in
set_option maxHeartbeats 400000 in
theorem checkSK (s : List Col) (p : Option Addr) (c : Nat) (w : World) (hs : s.length * 120 ≤ 140737488351232) (hx : Cols w p s) (hwf : ∀ x ∈ s, x.wf) :
    Calls Try.prog 13 #[.agg #[.slice p s.length c]] w fun e w' => e = .returned (.int .i64 (Sch.err s : Nat)) ∧ Below w.heap.size w w' := by
  have HB1 : Hid (Below w.heap.size w (w.alloc (.cells #[.slice p s.length c] 31))) := (Below.refl _ _).alloc (Nat.le_refl _) _
  have HC := Lib.hid (encodeK s p c _ hs (hx.on HB1.out) hwf)
  obtain ⟨R, hR⟩ : ∃ R, R = Sch.err s := ⟨_, rfl⟩
  rw [← hR] at HC ⊢
  obtain ⟨L, hL⟩ : ∃ R, R = encB s := ⟨_, rfl⟩
  rw [← hL] at HC
  clear hR hL hx hwf
  go_enter Try.func13, Try.ntmps13
  go_wp2_with fail
  refine HC.out.mono ?_
  rintro e w2 ⟨q, cap, rfl, -, -, hb2⟩
  have HB2 := Lib.hid (HB1.out.trans (hb2.mono HB1.out.size))
  clear hb2 HC
  go_wp2
  go_ret
  exact ⟨rfl, HB2.out⟩
end Go.Proofs.Ytnjggejallnkoaa

/- The landed schema's reader: what is left to read, and its small calls. -/
namespace Go.Proofs.Ytnjggejallnkoaa
open Go.RowKit

/-- a panic with an error -/
def errV (k : Nat) : List PanicEntry := [{ v := .iface 24 (.int .i64 k), recovered := false }]

/-- p[n:] -/
def cutP (p : Option Addr) (n c : Nat) : Option Addr := if c = n then p else p.map (·.add n)
/-- p[:n] -/
def cutH (p : Option Addr) (c : Nat) : Option Addr := if c = 0 then p else p.map (·.add 0)
theorem run_cut_l (p : Option Addr) (len c n : Nat) (h : n ≤ len) (w : World) : (Instr.slice 45 (.slice p len c) (some (.int .i64 n)) none none).run Try.prog w = .ok (.slice (cutP p n c) (len - n) (c - n)) w := by
  have hs : (sizeOf (Try.prog.elem 45)).run Try.prog w = .ok 1 w := by kernel_rfl
  rw [run_slice_l w 45 p len c (by kernel_rfl) .i64 (n : Int) (by omega) (by omega), hs]
  simp [sliced, cutP, Result.andThen]
theorem run_cut_h (p : Option Addr) (len c n : Nat) (h : n ≤ c) (w : World) : (Instr.slice 45 (.slice p len c) none (some (.int .i64 n)) none).run Try.prog w = .ok (.slice (cutH p c) n c) w := by
  have hs : (sizeOf (Try.prog.elem 45)).run Try.prog w = .ok 1 w := by kernel_rfl
  rw [run_slice_h w 45 p len c (by kernel_rfl) .i64 (n : Int) (by omega) (by omega), hs]
  simp [sliced, cutH, Result.andThen]
theorem add_block (a : Addr) (n : Nat) : (a.add n).block = a.block := by
  unfold Addr.add
  split <;> rfl
theorem cutP_block {p : Option Addr} {n c A : Nat} (h : ∀ a, p = some a → a.block < A) : ∀ a, cutP p n c = some a → a.block < A := by
  intro a ha
  unfold cutP at ha
  split at ha
  · exact h a ha
  · cases p with
    | none => cases ha
    | some b =>
      simp only [Option.map_some, Option.some.injEq] at ha
      subst ha
      rw [add_block]
      exact h b rfl
theorem At.cut {w : World} {p : Option Addr} {l : List UInt8} (h : At w p l) (n c : Nat) (hc : l.length ≤ c) : At w (cutP p n c) (l.drop n) := by
  by_cases h0 : l.length ≤ n
  · exact .inl (List.drop_eq_nil_of_le h0)
  · obtain ⟨b, o, rfl, hb, hcs⟩ := at_some h (by omega)
    refine .inr ⟨b, o + n, ?_, hb, cells_drop hcs n⟩
    unfold cutP
    rw [if_neg (by omega), Option.map_some, Lib.add_plain]
theorem At.head {w : World} {p : Option Addr} {l : List UInt8} (h : At w p l) (n c : Nat) : At w (cutH p c) (l.take n) := by
  rcases h with rfl | ⟨b, o, rfl, hb, hcs⟩
  · exact .inl (by simp)
  · refine .inr ⟨b, o, ?_, hb, cells_take hcs n⟩
    unfold cutH
    split
    · rfl
    · rw [Option.map_some, Lib.add_plain]; rfl

/-- the reader in block R has l left; its bytes lie below A -/
structure Rdr (w : World) (A R : Nat) (l : List UInt8) : Prop where
  out : ∃ p c, w.heap[R]? = some (.cells #[.slice p l.length c] 68 (0, 0)) ∧ At w p l ∧ l.length ≤ c ∧ (l ≠ [] → ∀ a, p = some a → a.block < A)
  small : l.length ≤ 1024
  low : A ≤ R
theorem Rdr.lt {w : World} {A R : Nat} {l : List UInt8} (h : Rdr w A R l) : R < w.heap.size := by
  obtain ⟨p, c, h1, _⟩ := h.out
  exact blk_lt h1
theorem At.keep {w w' : World} {p : Option Addr} {l : List UInt8} {A : Nat} (h : At w p l) (hp : l ≠ [] → ∀ a, p = some a → a.block < A) (hk : ∀ k, k < A → w'.heap[k]? = w.heap[k]?) (hs : w.heap.size ≤ w'.heap.size) : At w' p l := by
  rcases h with rfl | ⟨b, o, rfl, hb, hcs⟩
  · exact .inl rfl
  · refine .inr ⟨b, o, rfl, by omega, fun j hj => ?_⟩
    rw [World.cell?_of_block (w := w) (hk b (hp (List.ne_nil_of_length_pos (by omega)) _ rfl))]
    exact hcs j hj
theorem Rdr.keep {w w' : World} {A R : Nat} {l : List UInt8} (h : Rdr w A R l) (hk : ∀ k, k ≤ R → w'.heap[k]? = w.heap[k]?) (hs : w.heap.size ≤ w'.heap.size) : Rdr w' A R l := by
  obtain ⟨p, c, h1, h2, h3, h4⟩ := h.out
  have hl := h.low
  exact ⟨⟨p, c, (hk R (Nat.le_refl _)).trans h1, h2.keep h4 (fun k hk' => hk k (by omega)) hs, h3, h4⟩, h.small, h.low⟩
theorem Rdr.on {w w' : World} {A R : Nat} {l : List UInt8} (h : Rdr w A R l) (hb : Below w.heap.size w w') : Rdr w' A R l := h.keep (fun k hk => hb.block k (by have := h.lt; omega)) hb.size
theorem Rdr.aside {w w' : World} {A R : Nat} {l : List UInt8} {F : Nat → Prop} (h : Rdr w A R l) (ha : Aside F w w') (hF : ∀ k, F k → R < k) : Rdr w' A R l :=
  h.keep (fun k hk => ha.block k (by have := h.lt; omega) (fun hc => by have := hF k hc; omega)) ha.size
/-- so many bytes are taken off -/
theorem Rdr.cut {w : World} {A R : Nat} {l : List UInt8} {p : Option Addr} {c : Nat} (h : Rdr w A R l) (h1 : w.heap[R]? = some (.cells #[.slice p l.length c] 68 (0, 0))) (h2 : At w p l) (h3 : l.length ≤ c) (h4 : l ≠ [] → ∀ a, p = some a → a.block < A) (n : Nat) (hn : n ≤ l.length) :
    Rdr (w.setCell ⟨R, 0, none⟩ (.slice (cutP p n c) (l.length - n) (c - n))) A R (l.drop n) := by
  have hl := h.low
  have h5 : l.drop n ≠ [] → ∀ a, cutP p n c = some a → a.block < A := fun hne => cutP_block (h4 (fun he => hne (by rw [he]; simp)))
  refine ⟨⟨cutP p n c, c - n, ?_, ?_, by rw [List.length_drop]; omega, h5⟩, by rw [List.length_drop]; have := h.small; omega, hl⟩
  · rw [blk_set h1 0, List.length_drop]; rfl
  · refine (h2.cut n c h3).keep h5 (fun k hk => ?_) (by simp [World.setCell])
    exact Below.heap_setCell _ _ _ _ (by show k ≠ R; omega)
theorem aside_set (w : World) (R m : Nat) (u : Value) : Aside (fun i => i = R) w (w.setCell ⟨R, m, none⟩ u) := (Aside.refl (fun i => i = R) w).setCell (p := ⟨R, m, none⟩) (.inl rfl) u

/-- what a call of the reader answers -/
def RdA {α : Type} (w : World) (A R : Nat) (l : List UInt8) (r : Except Nat (α × Nat)) (V : α → Value → World → Prop) (e : Ending) (w' : World) : Prop := match r with
  | .error k => e = .panicked (errV k) ∧ Aside (fun i => i = R) w w'
  | .ok (a, j) => ∃ v, e = .returned v ∧ V a v w' ∧ Rdr w' A R (l.drop j) ∧ Aside (fun i => i = R) w w'
/-- a number -/
def isI (n : Nat) (v : Value) (_ : World) : Prop := v = .int .i64 n
def isU (n : Nat) (v : Value) (_ : World) : Prop := v = .int .u64 n
def isT (t : ByteArray) (v : Value) (_ : World) : Prop := v = .string t
def isB (b : List UInt8) (v : Value) (w : World) : Prop := ∃ q c, v = .slice q b.length c ∧ At w q b ∧ b.length ≤ c

set_option maxHeartbeats 400000 in
theorem need_t (a : Value) (k : Int) (w : World) : Calls Try.prog 50 #[a, .bool true, .int .i64 k] w fun e w' => e = .returned (.tuple #[]) ∧ w' = w := by
  go_enter Try.func50, Try.ntmps50
  go_wp2
  go_end0
  exact ⟨rfl, rfl⟩
set_option maxHeartbeats 400000 in
theorem need_f (a : Value) (k : Nat) (w : World) : Calls Try.prog 50 #[a, .bool false, .int .i64 k] w fun e w' => e = .panicked (errV k) ∧ w' = w := by
  go_enter Try.func50, Try.ntmps50
  go_wp2
  exact ⟨rfl, rfl, rfl⟩
end Go.Proofs.Ytnjggejallnkoaa
