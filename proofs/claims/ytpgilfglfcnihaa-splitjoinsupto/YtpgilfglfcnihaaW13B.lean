/- The law's lent, still. -/
import Derived.Test.YtpgilfglfcnihaaK13D
import Derived.Laws.MakeOwn
namespace Go.Proofs.Ytpgilfglfcnihaa
open Go.RowKit

theorem make_none (w : World) (c : Nat) (hc : c ≤ 10000000) : ∃ w', (Instr.makeSlice 22 (.int .i64 0) (.int .i64 (c : Int))).run Try.prog w = .ok (.slice (some ⟨w.heap.size, 0, none⟩) 0 c) w' ∧ Mine w' w.heap.size w.heap.size c [] ∧ Below w.heap.size w w' := by
  obtain ⟨i, hi, hz, hsz, hby⟩ := info_parts info8
  obtain ⟨w', h1, h2, h3⟩ := run_make_own (P := Try.prog) w w.heap.size 22 5 i (.int .u8 0) 1 Try.underlying22 hi hz hsz .i64 .i64 c (by rw [hby]; omega) (by unfold maxLen; omega) (Nat.le_refl _)
  exact ⟨w', h1, h2, (Below.refl _ _).grown h3 (Nat.le_refl _) (fun k hk => by cases hk)⟩

/-- append where there is room -/
theorem onto_room (B g cap : Nat) (xs l : List UInt8) (p : Option Addr) (c : Nat) (w : World) (hown : Mine w B g cap xs) (h : At w p l) (hroom : xs.length + l.length ≤ cap) (hlen : xs.length + l.length ≤ 140737488355328) (hB : B ≤ w.heap.size) :
    ∃ W : World, AppRun Try.prog 22 22 22 (.slice (some ⟨g, 0, none⟩) xs.length cap) (.slice p l.length c) w (.slice (some ⟨g, 0, none⟩) (xs ++ l).length cap) W ∧ Mine W B g cap (xs ++ l) ∧ Aside (fun k => k = g) w W := by
  obtain ⟨i, hi, hz, hsz, hby⟩ := info_parts info8
  obtain ⟨q, cap', W, hr, hm, ha, -, -⟩ := onto_all B (.slice (some ⟨g, 0, none⟩) xs.length cap) xs l p c w hown h hlen hB
  have hcell : ∀ j, j < (cellsOf l).length → (w.cell? ⟨g, 0 + xs.length * i.size + j, none⟩).isSome = true ∧ w.frozen? ⟨g, 0 + xs.length * i.size + j, none⟩ = false := fun j hj => by
    rw [cellsOf_length] at hj
    rcases hown.2 with ⟨h1, _⟩ | ⟨g', cap'', cur, h1, _, h3, _, _, h6, _⟩
    · cases h1
    · cases h1
      have hlt : 0 + xs.length * i.size + j < cur.size := by rw [hsz, h6]; omega
      constructor
      · simp only [World.cell?, h3]
        rw [Nat.zero_add] at hlt
        simpa using hlt
      · simp [World.frozen?, h3]
  have r := run_append_room_src (P := Try.prog) w 22 22 22 5 i Try.underlying22 hi g 0 xs.length cap (.slice p l.length c) l.length (cellsOf l) (by rw [hsz]; exact src_bytes c h) hroom (fun j hj => (hcell j hj).1) (fun j hj => (hcell j hj).2)
  have e := hr.run.symm.trans r
  injection e with e1 e2
  injection e1 with e3 _ e4
  subst e3 e4
  refine ⟨W, hr, hm, ha.mono (fun k _ hk => ?_)⟩
  simp only [Value.ownBlock, Option.some.injEq] at hk
  exact hk.symm
theorem wp_room {B g cap : Nat} {xs l : List UInt8} {p : Option Addr} {c : Nat} {w : World} (hown : Mine w B g cap xs) (h : At w p l) (hroom : xs.length + l.length ≤ cap) (hlen : xs.length + l.length ≤ 140737488355328) (hB : B ≤ w.heap.size)
    {ops : Array Oper} {rest : List Oper} {o : Oper} {a : Act} {Q : Exit → Act → World → Prop} {y x : Operand}
    (ht : o.type = 22) (hg : o.guard = none) (hop : o.op = Op.call { callee := Callee.builtin Builtin.append, args := #[y, x], argTypes := #[22, 22] })
    (hs : a.eval y = .slice (some ⟨g, 0, none⟩) xs.length cap) (hx : a.eval x = .slice p l.length c)
    (hK : ∀ ys n W, Hid (ys = xs ++ l) → n = xs.length + l.length → Mine W B g cap ys → Aside (fun k => k = g) w W → wpList Try.prog ops Q rest (a.put o.dst (.slice (some ⟨g, 0, none⟩) n cap)) W) :
    wpList Try.prog ops Q (o :: rest) a w := by
  obtain ⟨W, hr, hm, ha⟩ := onto_room B g cap xs l p c w hown h hroom hlen hB
  have hr' : AppRun Try.prog 22 22 o.type (.slice (some ⟨g, 0, none⟩) xs.length cap) (.slice p l.length c) w (.slice (some ⟨g, 0, none⟩) (xs ++ l).length cap) W := by rw [ht]; exact hr
  have := hK _ (xs ++ l).length W (Lib.hid rfl) (by simp) hm ha
  exact wpList_append_ran hr' hg hop hs hx this

set_option maxHeartbeats 1000000 in
theorem lent13 (p : Option Addr) (c : Nat) (l : List UInt8) (w : World) (h : At w p l) (hl : l.length ≤ 9000000) : Calls Try.prog 9 #[.slice p l.length c] w fun e w' => e = .returned (.slice (some ⟨w.heap.size, 0, none⟩) l.length (l.length + 2)) ∧ Mine w' w.heap.size w.heap.size (l.length + 2) (l ++ [77, 78]) ∧ Below w.heap.size w w' := by
  obtain ⟨W0, hmk, hm0, hb0⟩ := make_none w (l.length + 2) (by omega)
  rw [show (((l.length + 2 : Nat) : Int)) = (l.length : Int) + 2 by omega] at hmk
  have HA := Lib.hid (h.on hb0)
  have HM := Lib.hid hm0
  have HB := Lib.hid hb0
  have hs0 := hb0.size
  have hlt0 := hm0.base.2.1
  clear h hm0 hb0
  go_enter Try.func9, Try.ntmps9
  go_wp2_with (first
    | (at_builtin
       refine wp_room (xs := []) HM.out HA.out (by simp) (by simp; omega) (by omega) rfl rfl rfl rfl rfl ?_
       intro ys n W1 HY hn hm1 ha1
       have hn' : n = l.length := by simpa using hn
       subst hn'
       have hb1 : Below W1.heap.size W1 (W1.alloc (.cells #[.int .u8 77, .int .u8 78] 5)) := (Below.refl _ _).alloc (Nat.le_refl _) _
       have hyl : ys = l := HY.out
       have HM1 := Lib.hid (Has.on (v := .slice (some ⟨w.heap.size, 0, none⟩) ys.length (l.length + 2)) hm1 hb1)
       have HA1 : Hid (At (W1.alloc (.cells #[.int .u8 77, .int .u8 78] 5)) (some ⟨W1.heap.size, 0, none⟩) [77, 78]) := Own.at (l := [77, 78]) ⟨#[], heap_new W1 _⟩
       rw [hyl] at HM1
       have HB1 := Lib.hid (HB.out.trans (ha1.below hs0 (fun k hk hc => by omega)))
       have hs1 := HB1.out.size
       clear HY hn hm1 ha1 hb1 hyl)
    | (at_builtin
       refine wp_room HM1.out HA1.out (by simp) (by simp; omega) (by simp; omega) rfl rfl rfl rfl rfl ?_
       intro ys2 n2 W2 HY2 hn2 hm2 ha2
       have hn3 : n2 = l.length + 2 := by simpa using hn2
       subst hn3
       have HM2 := Lib.hid hm2
       have HA2 := Lib.hid ha2
       clear hn2 hm2 ha2)
    | fail)
  go_ret
  have hy2 := HY2.out
  subst hy2
  refine ⟨rfl, HM2.out, HB1.out.trans ?_⟩
  exact ((Below.refl W1.heap.size W1).alloc (Nat.le_refl _) _ |>.mono hs1).trans (HA2.out.below (by simp; omega) (fun k hk hc => by omega))

set_option maxHeartbeats 1000000 in
theorem still13 (p : Option Addr) (c : Nat) (l : List UInt8) (w : World) (B N : Nat) (hm : Mine w B N (l.length + 2) (l ++ [77, 78])) (h : At w p l) (hl : l.length ≤ 9000000) : Calls Try.prog 14 #[.slice (some ⟨N, 0, none⟩) l.length (l.length + 2), .slice p l.length c] w fun e w' => e = .returned (.bool true) ∧ w' = w := by
  have hA : At w (some ⟨N, 0, none⟩) l := by
    have := hm.free.2.1
    exact .inr ⟨N, 0, rfl, hm.base.2.1, fun j hj => by
      have h2 := this j (by simp; omega)
      rw [h2, List.getElem_append_left hj]⟩
  have h1 := conv_str hA (l.length + 2)
  have h2 := conv_str h c
  have c1 : w.cell? ⟨N, l.length, none⟩ = some (.int .u8 77) := by
    have := hm.free.2.1 l.length (by simp)
    rw [Nat.zero_add] at this
    rw [this]
    simp
  have c2 : w.cell? ⟨N, l.length + 1, none⟩ = some (.int .u8 78) := by
    have := hm.free.2.1 (l.length + 1) (by simp)
    rw [Nat.zero_add] at this
    rw [this]
    simp
  clear hm h hA
  go_enter Try.func14, Try.ntmps14
  go_wp2
  go_ret
  exact ⟨by simp, rfl⟩
end Go.Proofs.Ytpgilfglfcnihaa
