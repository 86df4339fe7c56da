/- The landed block's unpacker: a token's literals, a token's match. -/
import Derived.Test.YtoojflhafmnggaaWGetK
import Derived.Test.YtoojflhafmnggaaOntoA
import Derived.Test.YtoojflhafmnggaaBlk
import Derived.Deep.RegionLaw
import Derived.Deep.RegionHeld3
namespace Go.Proofs.Ytoojflhafmnggaa
open Go.RowKit

/-- p[n:] -/
def cutP (p : Option Addr) (n c : Nat) : Option Addr := if c = n then p else p.map (·.add n)
/-- p[:n] -/
def cutH (p : Option Addr) (c : Nat) : Option Addr := if c = 0 then p else p.map (·.add 0)
theorem run_cut_l (K : IntKind) (p : Option Addr) (len c n : Nat) (h : n ≤ len) (w : World) : (Instr.slice 22 (.slice p len c) (some (.int K n)) none none).run Try.prog w = .ok (.slice (cutP p n c) (len - n) (c - n)) w := by
  have hs : (sizeOf (Try.prog.elem 22)).run Try.prog w = .ok 1 w := by kernel_rfl
  rw [run_slice_l w 22 p len c (by kernel_rfl) K (n : Int) (by omega) (by omega), hs]
  simp [sliced, cutP, Result.andThen]
theorem run_cut_h (K : IntKind) (p : Option Addr) (len c n : Nat) (h : n ≤ c) (w : World) : (Instr.slice 22 (.slice p len c) none (some (.int K n)) none).run Try.prog w = .ok (.slice (cutH p c) n c) w := by
  have hs : (sizeOf (Try.prog.elem 22)).run Try.prog w = .ok 1 w := by kernel_rfl
  rw [run_slice_h w 22 p len c (by kernel_rfl) K (n : Int) (by omega) (by omega), hs]
  simp [sliced, cutH, Result.andThen]
theorem add_block (a : Addr) (n : Nat) : (a.add n).block = a.block := by
  unfold Addr.add
  split <;> rfl
theorem cutP_block {p : Option Addr} {n c A : Nat} (h : ∀ a, p = some a → a.block < A) : ∀ a, cutP p n c = some a → a.block < A := by
  intro a ha
  unfold cutP at ha
  split at ha
  · exact h a ha
  · cases p with
    | none => cases ha
    | some b =>
      simp only [Option.map_some, Option.some.injEq] at ha
      subst ha
      rw [add_block]
      exact h b rfl
theorem cutH_block {p : Option Addr} {c A : Nat} (h : ∀ a, p = some a → a.block < A) : ∀ a, cutH p c = some a → a.block < A := by
  intro a ha
  unfold cutH at ha
  split at ha
  · exact h a ha
  · cases p with
    | none => cases ha
    | some b =>
      simp only [Option.map_some, Option.some.injEq] at ha
      subst ha
      rw [add_block]
      exact h b rfl
theorem At.cut {w : World} {p : Option Addr} {l : List UInt8} (h : At w p l) (n c : Nat) (hc : l.length ≤ c) : At w (cutP p n c) (l.drop n) := by
  by_cases h0 : l.length ≤ n
  · exact .inl (List.drop_eq_nil_of_le h0)
  · obtain ⟨b, o, rfl, hb, hcs⟩ := at_some h (by omega)
    refine .inr ⟨b, o + n, ?_, hb, cells_drop hcs n⟩
    unfold cutP
    rw [if_neg (by omega), Option.map_some, Lib.add_plain]
theorem At.head {w : World} {p : Option Addr} {l : List UInt8} (h : At w p l) (n c : Nat) : At w (cutH p c) (l.take n) := by
  rcases h with rfl | ⟨b, o, rfl, hb, hcs⟩
  · exact .inl (by simp)
  · refine .inr ⟨b, o, ?_, hb, cells_take hcs n⟩
    unfold cutH
    split
    · rfl
    · rw [Option.map_some, Lib.add_plain]; rfl

/-- bytes that lie below B -/
structure AtB (w : World) (B : Nat) (p : Option Addr) (l : List UInt8) : Prop where
  at_ : At w p l
  low : l ≠ [] → ∀ a, p = some a → a.block < B
theorem AtB.keep {w w' : World} {p : Option Addr} {l : List UInt8} {B : Nat} (h : AtB w B p l) (hb : Below B w w') : AtB w' B p l := by
  refine ⟨?_, h.low⟩
  rcases h.at_ with rfl | ⟨b, o, rfl, hl, hcs⟩
  · exact .inl rfl
  · refine .inr ⟨b, o, rfl, by have := hb.size; omega, fun j hj => ?_⟩
    rw [World.cell?_of_block (w := w) (hb.block b (h.low (List.ne_nil_of_length_pos (by omega)) _ rfl))]
    exact hcs j hj
theorem AtB.cut {w : World} {B : Nat} {p : Option Addr} {l : List UInt8} (h : AtB w B p l) (n c : Nat) (hc : l.length ≤ c) : AtB w B (cutP p n c) (l.drop n) :=
  ⟨h.at_.cut n c hc, fun hne => cutP_block (h.low (fun he => hne (by rw [he]; simp)))⟩
theorem AtB.head {w : World} {B : Nat} {p : Option Addr} {l : List UInt8} (h : AtB w B p l) (n c : Nat) : AtB w B (cutH p c) (l.take n) :=
  ⟨h.at_.head n c, fun hne => cutH_block (h.low (fun he => hne (by rw [he]; simp)))⟩
theorem At.atB {w : World} {p : Option Addr} {l : List UInt8} (h : At w p l) {B : Nat} (hB : w.heap.size ≤ B) : AtB w B p l := by
  refine ⟨h, fun hne a ha => ?_⟩
  rcases h with rfl | ⟨b, o, rfl, hl, hcs⟩
  · exact absurd rfl hne
  · injection ha with ha; subst ha; show b < B; omega

/-- what a token's taking tells -/
def TokV (w : World) (B : Nat) (k : Blk.Tk) (e : Ending) (w' : World) : Prop :=
  ∃ q m cap q' m' c', e = .returned (.tuple #[.slice q m cap, .slice q' m' c', .int .i64 (k.err : Nat)]) ∧ (k.err = 0 → m = k.out.length ∧ Has w' B (.slice q m cap) k.out ∧ m' = k.rest.length ∧ k.rest.length ≤ c' ∧ AtB w' B q' k.rest) ∧ Below B w w'

theorem step_ontoG {B : Nat} {v : Value} {xs l : List UInt8} {p : Option Addr} {c : Nat} {w : World} (hown : Has w B v xs) (h : At w p l) (hlen : xs.length + l.length ≤ 140737488355328) (hB : B ≤ w.heap.size)
    {ops : Array Oper} {o : Oper} {a : Act} {K : Act → World → Prop} {Q : Exit → Act → World → Prop} {E : Prop} (s x : Operand)
    (ht : o.type = 22) (hg : o.guard = none) (hop : o.op = Op.call { callee := Callee.builtin Builtin.append, args := #[s, x], argTypes := #[22, 22] })
    (hs : a.eval s = v) (hx : a.eval x = .slice p l.length c)
    (hK : ∀ q cap W ys, Hid (ys = xs ++ l) → Has W B (.slice q ys.length cap) ys → Below B w W → K (a.put o.dst (.slice q ys.length cap)) W) :
    if Region.wanted o (yielded ops a.tmps) = true then Oper.wp Try.prog o a w K Q else E := by
  have hw : Region.wanted o (yielded ops a.tmps) = true := by simp [Region.wanted, hg]
  rw [if_pos hw]
  obtain ⟨q, cap, W, ⟨hr⟩, hm, ha, -, hb3⟩ := onto_all B v xs l p c w hown h hlen hB
  unfold Oper.wp
  have he : (execOp a.eval o).run Try.prog w = .ok (.value (.slice q (xs ++ l).length cap)) W := by
    simp only [execOp, hop, resolve, invoke, builtin]
    simp [hs, hx, ht, hr, Result.andThen]
  rw [he]
  exact hK q cap W (xs ++ l) (Lib.hid rfl) hm (aside_low ha hown hB)

set_option maxRecDepth 100000 in
set_option maxHeartbeats 1000000 in
theorem takeLitK (out t : List UInt8) (n : Nat) (hn : n < 18446744073709551616) (B : Nat) (vb : Value) (q : Option Addr) (c : Nat) (w : World) (hB : B ≤ w.heap.size) (ho : out.length ≤ 2048) (ht : t.length ≤ 140737488351232) (htc : t.length ≤ c) (hb : Has w B vb out) (hq : AtB w B q t) :
    Calls Try.prog 26 #[vb, .slice q t.length c, .int .u64 n] w (TokV w B (Blk.takeL out t n)) := by
  obtain ⟨r, hr⟩ : ∃ r, r = Blk.takeL out t n := ⟨_, rfl⟩
  rw [← hr]
  unfold Blk.takeL at hr
  obtain ⟨p, cap, rfl, hp, hcap⟩ := hb.at
  have HHas := Lib.hid hb
  have HQ := Lib.hid hq
  clear hb hq hp
  by_cases h0 : n = 0
  · subst h0
    rw [if_pos rfl] at hr
    have HR := Lib.hid hr
    clear hr
    go_enter Try.func26, Try.ntmps26
    go_wp2
    try rw [Exit.noGoto_ret]
    go_ret3
    rw [HR.out]
    exact ⟨none, 0, 0, none, 0, 0, rfl, fun h => (by cases h), Below.refl _ _⟩
  · rw [if_neg h0] at hr
    have g0 : ((n : Int) == 0) = false := by rw [beq_eq_false_iff_ne]; omega
    by_cases h1 : 2048 - out.length < n
    · rw [if_pos h1] at hr
      have g1 : (2048 - (out.length : Int)) % 18446744073709551616 < (n : Int) := by omega
      have HR := Lib.hid hr
      clear hr
      go_enter Try.func26, Try.ntmps26
      go_wp2
      try rw [Exit.noGoto_ret]
      go_ret3
      rw [HR.out]
      exact ⟨none, 0, 0, none, 0, 0, rfl, fun h => (by cases h), Below.refl _ _⟩
    · rw [if_neg h1] at hr
      have g1 : ¬ (2048 - (out.length : Int)) % 18446744073709551616 < (n : Int) := by omega
      by_cases h2 : t.length < n
      · rw [if_pos h2] at hr
        have HR := Lib.hid hr
        clear hr
        go_enter Try.func26, Try.ntmps26
        go_wp2
        try rw [Exit.noGoto_ret]
        go_ret3
        rw [HR.out]
        exact ⟨none, 0, 0, none, 0, 0, rfl, fun h => (by cases h), Below.refl _ _⟩
      · rw [if_neg h2] at hr
        have s1 := fun w => run_cut_h .u64 q t.length c n (by omega) w
        have s2 := fun w => run_cut_l .u64 q t.length c n (by omega) w
        have htl : (t.take n).length = n := by rw [List.length_take]; omega
        have HT := Lib.hid (HQ.out.head n c)
        have HD := Lib.hid (HQ.out.cut n c htc)
        obtain ⟨t0, ht0⟩ : ∃ t0, t0 = t.take n := ⟨_, rfl⟩
        rw [← ht0] at htl HT hr
        obtain ⟨q1, hq1⟩ : ∃ q1, q1 = cutH q c := ⟨_, rfl⟩
        obtain ⟨q2, hq2⟩ : ∃ q2, q2 = cutP q n c := ⟨_, rfl⟩
        obtain ⟨m2, hm2⟩ : ∃ m2, m2 = t.length - n := ⟨_, rfl⟩
        obtain ⟨c2, hc2⟩ : ∃ c2, c2 = c - n := ⟨_, rfl⟩
        rw [← hq1] at HT s1
        rw [← hq2] at HD s2
        rw [← hm2] at s2
        rw [← hc2] at s2
        have HR := Lib.hid hr
        have HM2 : Hid (m2 = t.length - n ∧ m2 ≤ c2) := ⟨hm2, by omega⟩
        clear hr ht0 hq1 hq2 hm2 hc2
        subst htl
        go_enter Try.func26, Try.ntmps26
        go_wp2_with fail
        go_region_law (first
          | (refine step_ontoG (B := B) (v := .slice p out.length cap) (xs := out) (l := t0) (p := q1) (c := c) (by exact HHas.out) (by exact HT.out.at_) (by omega) (by exact hB) (.tmp 25) (.tmp 28) (by rfl) (by rfl) (by rfl) (by simp [Act.eval, Act.put]) (by simp [Act.eval, Act.put]) ?_
             intro q3 cap3 W ys HY hH hBl
             have HH := Lib.hid hH
             have HB : Hid (Below B w W) := ⟨hBl.os, hBl.tape, hBl.output, hBl.size, hBl.block⟩
             clear hH hBl)
          | fail)
        all_goals
          go_wp2
          try rw [Exit.noGoto_ret]
          go_ret3
          rw [HR.out, ← HY.out]
          exact ⟨_, _, _, _, _, _, rfl, fun _ => ⟨rfl, HH.out, by rw [HM2.out.1]; simp, by have := HM2.out; simp; omega, HD.out.keep HB.out⟩, HB.out⟩
end Go.Proofs.Ytoojflhafmnggaa
