/- WFz, WTake, Var, WLenK, WStuffK, WReadK: put together. -/
import Derived.Test.YtohgmkgclgoflaaDoorM02
import Derived.Deep.RegionHeld3
import Derived.Test.YtohgmkgclgoflaaDoorM01

/- The walk of package stuff's firstZero: the place of the first zero byte, or of the end. -/
namespace Go.Proofs.YtohgmkgclgoflaaDoor
open Go.RowKit

/-- k is the place of the first zero byte, or of the end -/
def FirstZ (l : List UInt8) (k : Nat) : Prop := k ≤ l.length ∧ (∀ j (h : j < l.length), j < k → l[j] ≠ 0) ∧ ∀ h : k < l.length, l[k] = 0

set_option maxHeartbeats 1000000 in
theorem firstZero_in (b o c : Nat) (l : List UInt8) (hl : l.length ≤ 140737488351232) (w : World) (hc : Cells w b o l) :
    Calls Tryd.prog 29 #[.slice (some ⟨b, o, none⟩) l.length c] w fun e w' => ∃ k : Nat, e = .returned (.int .i64 k) ∧ FirstZ l k ∧ w' = w := by
  have HC := Lib.hid hc
  clear hc
  go_enter Tryd.func29, Tryd.ntmps29
  go_wp2
  go_loop [3, 4, 7] (fun _ _ vi => ∃ i : Nat, i ≤ l.length ∧ vi = .int .i64 i ∧ Hid (∀ j (h : j < l.length), j < i → l[j] ≠ 0)) (fun _ _ vi => l.length - (intOf vi).toNat)
  case atStart => exact ⟨0, by omega, rfl, fun j _ hj => by omega⟩
  case round =>
    obtain ⟨i, hi, rfl, HZ⟩ := hrel
    by_cases hlt : i < l.length
    · have hc1 := HC.out i hlt
      have hlt' : (i : Int) < (l.length : Int) := by omega
      by_cases h0 : l[i] = 0
      · have hF : Hid (FirstZ l i) := ⟨by omega, HZ.out, fun _ => h0⟩
        have hb : ((l[i].toNat : Int) == 0) = true := by rw [h0]; rfl
        clear HZ h0
        go_wp2
        go_ret
        exact ⟨i, rfl, hF.out, rfl⟩
      · have HZ2 : Hid (∀ j (h : j < l.length), j < i + 1 → l[j] ≠ 0) := fun j h hj => by
          rcases Nat.lt_succ_iff_lt_or_eq.1 hj with h1 | h1
          · exact HZ.out j h h1
          · subst h1; exact h0
        have hb : ((l[i].toNat : Int) == 0) = false := by
          rw [beq_eq_false_iff_ne]
          intro hc
          exact h0 (UInt8.toNat_inj.1 (by have : l[i].toNat = 0 := by omega
                                          rw [this]; rfl))
        clear HZ h0
        go_wp2
        go_round
        case rel => exact ⟨i + 1, by omega, by go_num, HZ2⟩
        case measure => simp [intOf]; omega
    · have hii : i = l.length := by omega
      subst hii
      have hF : Hid (FirstZ l l.length) := ⟨Nat.le_refl _, HZ.out, fun h => by omega⟩
      clear HZ
      go_wp2
      go_ret
      exact ⟨_, rfl, hF.out, rfl⟩

set_option maxHeartbeats 1000000 in
theorem firstZero_none (p : Option Addr) (c : Nat) (w : World) :
    Calls Tryd.prog 29 #[.slice p 0 c] w fun e w' => e = .returned (.int .i64 0) ∧ w' = w := by
  go_enter Tryd.func29, Tryd.ntmps29
  go_wp2
  go_loop [3, 4, 7] (fun _ _ vi => vi = .int .i64 0) (fun _ _ _ => 0)
  case atStart => exact rfl
  case round =>
    subst hrel
    go_wp2
    go_ret
    exact ⟨rfl, rfl⟩

theorem firstZero_ok (p : Option Addr) (c : Nat) (l : List UInt8) (hl : l.length ≤ 140737488351232) (w : World) (h : At w p l) :
    Calls Tryd.prog 29 #[.slice p l.length c] w fun e w' => ∃ k : Nat, e = .returned (.int .i64 k) ∧ FirstZ l k ∧ w' = w := by
  rcases h with rfl | ⟨b, o, rfl, _, hc⟩
  · refine (firstZero_none p c w).mono ?_
    rintro e w' ⟨rfl, rfl⟩
    exact ⟨0, rfl, ⟨Nat.le_refl _, fun j h => by simp at h, fun h => by simp at h⟩, rfl⟩
  · exact firstZero_in b o c l hl w hc
end Go.Proofs.YtohgmkgclgoflaaDoor

/- The walk of package stuff's takeGroups, whatever closure of one captured variable it tells the groups to. -/
namespace Go.Proofs.YtohgmkgclgoflaaDoor
open Go.RowKit

theorem at_drop {w : World} {b o : Nat} {l : List UInt8} (h : At w (some ⟨b, o, none⟩) l) (k : Nat) : At w (some ⟨b, o + k, none⟩) (l.drop k) := by
  rcases h with rfl | ⟨b, o, hp, h1, h2⟩
  · exact .inl (by simp)
  · cases hp
    exact .inr ⟨_, _, rfl, h1, cells_drop h2 k⟩

theorem at_take {w : World} {p : Option Addr} {l : List UInt8} (h : At w p l) (k : Nat) : At w p (l.take k) := by
  rcases h with rfl | ⟨b, o, rfl, h1, h2⟩
  · exact .inl (by simp)
  · exact .inr ⟨b, o, rfl, h1, cells_take h2 k⟩

section
open Cob
theorem take_round {l xs : List UInt8} {a k m : Nat} (h : Writing l a true xs) (hm : m = min (l.length - a) 254) (hF : FirstZ ((l.drop a).take m) k) :
    (k = l.length - a → stuff l = xs ++ [UInt8.ofNat (k + 1)] ++ (l.drop a).take k) ∧ (k < l.length - a → k < 254 → Writing l (a + k + 1) true (xs ++ [UInt8.ofNat (k + 1)] ++ (l.drop a).take k)) ∧
    (k < l.length - a → ¬ k < 254 → Writing l (a + k) true (xs ++ [UInt8.ofNat (k + 1)] ++ (l.drop a).take k)) ∧ k ≤ 254 ∧ k ≤ l.length - a ∧ xs.length + 1 + k ≤ l.length + 1 + l.length / 254 := by
  obtain ⟨h1, h2, h3⟩ := hF
  have ha := h.1
  have hml : ((l.drop a).take m).length = m := by rw [List.length_take, List.length_drop]; omega
  rw [hml] at h1
  have hz : ∀ j, j < k → ∀ h : a + j < l.length, l[a + j] ≠ 0 := fun j hj hlt => by
    have := h2 j (by rw [hml]; omega) hj
    rwa [List.getElem_take, List.getElem_drop] at this
  have hlen : ∀ ys : List UInt8, ys = xs ++ [UInt8.ofNat (k + 1)] ++ (l.drop a).take k → ys.length ≤ l.length + 1 + l.length / 254 → xs.length + 1 + k ≤ l.length + 1 + l.length / 254 := fun ys e hy => by
    rw [e] at hy
    simp only [List.length_append, List.length_cons, List.length_nil, List.length_take, List.length_drop] at hy
    omega
  by_cases h254 : k < 254
  · by_cases hend : a + k = l.length
    · have hw := writing_end h h254 hend hz
      exact ⟨fun _ => hw.2.2 rfl, fun hc => by omega, fun hc => by omega, by omega, by omega, hlen _ rfl (writing_bound hw)⟩
    · have h0 : l[a + k]'(by omega) = 0 := by
        have := h3 (by rw [hml]; omega)
        rwa [List.getElem_take, List.getElem_drop] at this
      have hw := writing_zero h h254 (by omega) hz h0
      exact ⟨fun hc => by omega, fun _ _ => hw, fun _ hc => absurd h254 hc, by omega, by omega, hlen _ rfl (writing_bound hw)⟩
  · have hk : k = 254 := by omega
    subst hk
    have hw := writing_full h (by omega) hz
    refine ⟨fun hc => hw.2.2 (decide_eq_false (by omega)), fun _ hc => absurd hc h254, fun hc _ => ?_, by omega, by omega, hlen _ rfl (writing_bound hw)⟩
    rw [decide_eq_true (show a + 254 < l.length by omega)] at hw
    exact hw
end

/-- a call of a function that has a body enters it -/
theorem enters_body {P : Program} {f : FuncId} {fn : Func} {c : Code} (hf : P.funcs[f]? = some fn) (hname : (fn.name == "runtime.NumGoroutine") = false) (hb : fn.body = some c) (args : Array Value) (w : World) :
    (callFunc f args).run P w = .ok (.enter f args) w := by
  have h1 : fn.name ≠ "runtime.NumGoroutine" := by simpa using hname
  simp [callFunc, hf, h1, hb]

def lenV : Value → Nat
  | .slice _ n _ => n
  | _ => 0

set_option maxRecDepth 100000 in
set_option maxHeartbeats 2000000 in
theorem takeGroups_any (f : FuncId) (g : Addr) (I : List UInt8 → World → Prop) (p : Option Addr) (c : Nat) (l : List UInt8) (w : World) (hl : l.length ≤ 1073741824) (hlc : l.length ≤ c)
    (hE : ∀ (args : Array Value) (w : World), (callFunc f args).run Tryd.prog w = .ok (.enter f args) w) (hA : ∀ xs w', I xs w' → At w' p l) (hI : I [] w)
    (hT : ∀ xs q k t w', I xs w' → (∀ ys w'', I ys w'' → At w'' q t) → t.length ≤ 254 → xs.length + 1 + t.length ≤ 2147483648 → t.length ≤ k →
      Calls Tryd.prog f #[.slice q t.length k, .pointer (some g)] w' fun e w'' => e = .returned (.tuple #[]) ∧ I (xs ++ [UInt8.ofNat (t.length + 1)] ++ t) w'') :
    Calls Tryd.prog 26 #[.slice p l.length c, .func (.func f) #[] #[.pointer (some g)]] w fun e w' => e = .returned (.tuple #[]) ∧ I (Cob.stuff l) w' := by
  have HA := Lib.hid hA
  have HI := Lib.hid hI
  have HT := Lib.hid hT
  clear hA hI hT
  go_enter Tryd.func26, Tryd.ntmps26
  go_wp2
  go_loopw [0, 4] (fun v0 _ wr => ∃ (a n : Nat) (xs : List UInt8) (q : Option Addr) (d : Nat), a + n = l.length ∧ v0 = .slice q n d ∧ n ≤ d ∧ Hid ((∀ ys w', I ys w' → At w' q (l.drop a)) ∧ Cob.Writing l a true xs ∧ I xs wr)) (fun v0 _ _ => lenV v0)
  case atStart => exact ⟨0, l.length, [], p, c, by omega, rfl, hlc, HA.out, Cob.writing_start l, HI.out⟩
  case round =>
    obtain ⟨a, n, xs, q, d, han, rfl, hnd, HK⟩ := hrel
    obtain ⟨m, hm0⟩ : ∃ m, m = min (l.length - a) 254 := ⟨_, rfl⟩
    have hmin : (if (254 : Int) < (n : Int) then (254 : Int) else (n : Int)) = (m : Int) := by split <;> omega
    have hmd : m ≤ d := by omega
    have hml : ((l.drop a).take m).length = m := by rw [List.length_take, List.length_drop]; omega
    have hF := firstZero_ok q d ((l.drop a).take m) (by omega) wr (at_take (HK.out.1 _ _ HK.out.2.2) m)
    rw [hml] at hF
    have HF := Lib.hid hF
    have HM := Lib.hid hm0
    clear hF hm0 hml
    go_wp2_with fail
    refine HF.out.mono ?_
    rintro e w1 ⟨k, rfl, hFz, rfl⟩
    have HR := Lib.hid (take_round HK.out.2.1 HM.out hFz)
    have hkn : k ≤ n := by have := HR.out.2.2.2.2.1; omega
    have hk254 := HR.out.2.2.2.1
    have hxb := HR.out.2.2.2.2.2
    have hkl : ((l.drop a).take k).length = k := by rw [List.length_take, List.length_drop]; omega
    have hc := HT.out xs q d ((l.drop a).take k) w1 HK.out.2.2 (fun ys w'' h => at_take (HK.out.1 ys w'' h) k) (by omega) (by omega) (by omega)
    rw [hkl] at hc
    have HCl := Lib.hid hc
    clear hFz hc hkl HF
    go_wp2_with fail
    refine HCl.out.mono ?_
    rintro e w2 ⟨rfl, hI2⟩
    have HI2 := Lib.hid hI2
    clear hI2 HCl
    by_cases hend : k = n
    · subst hend
      have hz : ((k : Int) - (k : Int) == 0) = true := by simp
      go_wp2
      all_goals
        refine bodyPost_ret (results_none rfl _ _ _) rfl ?_
        rw [HR.out.1 (by omega)]
        exact ⟨rfl, HI2.out⟩
    · obtain ⟨b, o, rfl, -⟩ := at_some (HK.out.1 _ _ HI2.out) (by rw [List.length_drop]; omega)
      by_cases h254 : k < 254
      · have h254' : (k : Int) < 254 := by omega
        go_wp2
        go_roundw
        case rel =>
          refine ⟨a + k + 1, n - k - 1, _, _, _, by omega, rfl, by omega, fun ys w' hI' => ?_, HR.out.2.1 (by omega) h254, HI2.out⟩
          have h1 := at_drop (at_drop (HK.out.1 ys w' hI') k) 1
          rw [List.drop_drop, List.drop_drop] at h1
          split
          · exact .inl (List.drop_eq_nil_of_le (by omega))
          · exact h1
        case measure => simp [lenV]; omega
      · go_wp2
        go_roundw
        case rel =>
          refine ⟨a + k, n - k, _, _, _, by omega, rfl, by omega, fun ys w' hI' => ?_, HR.out.2.2.1 (by omega) h254, HI2.out⟩
          have h1 := at_drop (HK.out.1 ys w' hI') k
          rw [List.drop_drop] at h1
          exact h1
        case measure => simp [lenV]; omega
end Go.Proofs.YtohgmkgclgoflaaDoor

/- A variable that a closure captures, which holds a slice of bytes of the call's own: appending onto it. -/
namespace Go.Proofs.YtohgmkgclgoflaaDoor
open Go.RowKit

theorem one_cell {w : World} {b : Nat} {v : Value} {T : TypeId} (h : w.heap[b]? = some (.cells #[v] T (0, 0))) : w.cell? ⟨b, 0, none⟩ = some v := by
  simp [World.cell?, h]
theorem one_free {w : World} {b : Nat} {v : Value} {T : TypeId} (h : w.heap[b]? = some (.cells #[v] T (0, 0))) : w.frozen? ⟨b, 0, none⟩ = false := by
  simp [World.frozen?, h]
theorem one_set {w : World} {b : Nat} {v : Value} {T : TypeId} (h : w.heap[b]? = some (.cells #[v] T (0, 0))) (u : Value) : (w.setCell ⟨b, 0, none⟩ u).heap[b]? = some (.cells #[u] T (0, 0)) := by
  simp [World.setCell, Array.getElem?_modify, h]
theorem one_lt {w : World} {b : Nat} {o : Obj} (h : w.heap[b]? = some o) : b < w.heap.size := (Array.getElem?_eq_some_iff.1 h).1

/-- block g is a variable that holds this slice of bytes, whose block is the call's own -/
structure Var (w : World) (B g s cap : Nat) (xs : List UInt8) : Prop where
  box : w.heap[g]? = some (.cells #[.slice (some ⟨s, 0, none⟩) xs.length cap] 22 (0, 0))
  mine : Mine w B s cap xs

theorem mine_block {w : World} {B s cap : Nat} {xs : List UInt8} (h : Mine w B s cap xs) : ∃ cur, w.heap[s]? = some (.cells cur 5 (0, 0)) := by
  rcases h.2 with ⟨h1, _⟩ | ⟨g, c, cur, h1, _, h2, _⟩
  · cases h1
  · cases h1; exact ⟨cur, h2⟩
theorem mine_ne {w : World} {B s cap g : Nat} {xs : List UInt8} {C : Array Value} {T : TypeId} (h : Mine w B s cap xs) (hg : w.heap[g]? = some (.cells C T (0, 0))) (hT : T ≠ 5) : s ≠ g := by
  rintro rfl
  obtain ⟨cur, hc⟩ := mine_block h
  rw [hc] at hg
  injection hg with h1
  injection h1 with h2 h3
  exact hT h3.symm
theorem mine_grown {w W : World} {B s cap b : Nat} {xs : List UInt8} (h : Mine w B s cap xs) (hg : w.grownBy W (some b)) (hne : s ≠ b) : Mine W B s cap xs :=
  World.ownsRow.kept h hg (.inr (fun hc => hne (Option.some.inj hc)))
theorem grown_set (W : World) (b : Nat) (v : Value) : W.grownBy (W.setCell ⟨b, 0, none⟩ v) (some b) :=
  ⟨rfl, rfl, rfl, by simp [World.setCell], fun i _ hne => Below.heap_setCell _ _ _ _ (fun hc => hne (by rw [hc]))⟩
theorem grown_trans {a b c : World} {row : Option Nat} (h : a.grownBy b row) (k : b.grownBy c row) : a.grownBy c row :=
  ⟨k.os.trans h.os, k.tape.trans h.tape, k.output.trans h.output, Nat.le_trans h.size k.size, fun i hi hne => (k.block i (Nat.lt_of_lt_of_le hi h.size) hne).trans (h.block i hi hne)⟩
theorem grown_refl (w : World) (row : Option Nat) : w.grownBy w row := ⟨rfl, rfl, rfl, Nat.le_refl _, fun _ _ _ => rfl⟩

theorem Var.ne {w : World} {B g s cap : Nat} {xs : List UInt8} (h : Var w B g s cap xs) : s ≠ g := mine_ne h.mine h.box (by decide)
/-- behind an append: the variable stands as it did -/
theorem Var.still {w W : World} {B g s cap : Nat} {xs : List UInt8} (h : Var w B g s cap xs) (hg : w.grownBy W (some s)) : W.heap[g]? = some (.cells #[.slice (some ⟨s, 0, none⟩) xs.length cap] 22 (0, 0)) :=
  (hg.block g (one_lt h.box) (fun hc => h.ne (Option.some.inj hc).symm)).trans h.box
/-- behind the store -/
theorem var_store {W : World} {B g s s' cap cap' n : Nat} {ys : List UInt8} (hb : W.heap[g]? = some (.cells #[.slice (some ⟨s, 0, none⟩) n cap] 22 (0, 0))) (hm : Mine W B s' cap' ys) :
    Var (W.setCell ⟨g, 0, none⟩ (.slice (some ⟨s', 0, none⟩) ys.length cap')) B g s' cap' ys :=
  ⟨one_set hb _, mine_grown hm (grown_set W g _) (mine_ne hm hb (by decide))⟩

theorem side_any (B s cap : Nat) (xs l : List UInt8) (p : Option Addr) (c : Nat) (w : World) (hown : Mine w B s cap xs) (h : At w p l) (hlen : xs.length + l.length ≤ 140737488355328) (hB : B ≤ w.heap.size) :
    ∃ (s' cap' : Nat) (W : World), AppRun Tryd.prog 22 22 22 (.slice (some ⟨s, 0, none⟩) xs.length cap) (.slice p l.length c) w (.slice (some ⟨s', 0, none⟩) (xs ++ l).length cap') W ∧ Mine W B s' cap' (xs ++ l) ∧ w.grownBy W (some s) := by
  obtain ⟨i, hi, hz, hsz, hby⟩ := info_parts info8
  cases p with
  | none =>
    have h0 : l = [] := by
      rcases h with rfl | ⟨b, o, hp, _, _⟩
      · rfl
      · cases hp
    subst h0
    have hr := run_append_room_src (P := Tryd.prog) w 22 22 22 5 i Tryd.underlying22 hi s 0 xs.length cap (.slice none 0 c) 0 [] (by rw [hsz]; exact src_bytes c h) (by have := hown.base.2.2; omega) (fun j hj => by simp at hj) (fun j hj => by simp at hj)
    refine ⟨s, cap, w, ⟨?_⟩, by rw [List.append_nil]; exact hown, grown_refl _ _⟩
    rw [List.append_nil]
    exact hr
  | some a =>
    have hcells : ∀ j u, (cellsOf l)[j]? = some u → w.cell? (a.add j) = some u := fun j u hj => by
      have hj2 : j < l.length := by
        have := (List.getElem?_eq_some_iff.1 hj).1
        simpa [cellsOf] using this
      rcases h with rfl | ⟨b, o, hp, _, hc⟩
      · simp at hj2
      · cases hp
        rw [cellsOf_get l j hj2] at hj
        cases hj
        rw [Lib.add_plain]
        exact hc j hj2
    obtain ⟨v', W, hr, hown', hgr, hnil⟩ := run_append_own (P := Tryd.prog) w B 22 22 5 i (.int .u8 0) 1 1 Tryd.underlying22 hi hz hsz hby rfl (by decide) _ xs.length (cellsOf xs) hown a l.length c (cellsOf l) (by rw [cellsOf_length, Nat.mul_one]) hcells
      (fun u hu => by obtain ⟨_, _, rfl⟩ := List.mem_map.1 hu; rfl) (by unfold maxLen; omega) (by omega) hB
    rw [← cellsOf_append, ← List.length_append] at hown'
    have hform : ∃ g' cap', v' = .slice (some ⟨g', 0, none⟩) (xs ++ l).length cap' := by
      rcases hown'.2 with ⟨h1, _⟩ | ⟨g', cap', _, h1, _⟩
      · have := (hnil.1 h1).1
        cases this
      · exact ⟨g', cap', h1⟩
    obtain ⟨g', cap', rfl⟩ := hform
    exact ⟨g', cap', W, ⟨hr⟩, hown', hgr⟩

/-- append of one byte, in the walk -/
theorem wp_push1 {B s cap : Nat} {xs : List UInt8} {w : World} (hown : Mine w B s cap xs) (c : UInt8) (hlen : xs.length + 1 ≤ 140737488355328) (hB : B ≤ w.heap.size)
    {z : Int} {ops : Array Oper} {rest : List Oper} {o : Oper} {a : Act} {Q : Exit → Act → World → Prop} {y x : Operand}
    (hz : z = (c.toNat : Int)) (ht : o.type = 22) (hg : o.guard = none) (hop : o.op = Op.call { callee := Callee.builtin Builtin.append, args := #[y, x], argTypes := #[22, 22] })
    (hs : a.eval y = .slice (some ⟨s, 0, none⟩) xs.length cap) {ad : Nat} (hx : a.eval x = .slice (some ⟨ad, 0, none⟩) 1 1) (had : ad = w.heap.size)
    (hK : ∀ ys s' cap' W, Hid (ys = xs ++ [c]) → Mine W B s' cap' ys → w.grownBy W (some s) → wpList Tryd.prog ops Q rest (a.put o.dst (.slice (some ⟨s', 0, none⟩) ys.length cap')) W) :
    wpList Tryd.prog ops Q (o :: rest) a (w.alloc (.cells #[.int .u8 z] 5)) := by
  subst had
  have hat : At (w.alloc (.cells #[.int .u8 z] 5)) (some ⟨w.heap.size, 0, none⟩) [c] := by
    refine .inr ⟨_, _, rfl, by simp, fun j hj => ?_⟩
    have hj0 : j = 0 := by simp at hj; omega
    subst hj0
    rw [World.cell?_alloc_new, hz]
    rfl
  have hg0 := World.grownBy_alloc w (.cells #[.int .u8 z] 5) (some s)
  obtain ⟨s', cap', W, hr, hm, hgr⟩ := side_any B s cap xs [c] (some ⟨w.heap.size, 0, none⟩) 1 _ (World.ownsRow.alloc hown _) hat (by simpa using hlen) (Nat.le_trans hB hg0.size)
  have hr' : AppRun Tryd.prog 22 22 o.type (.slice (some ⟨s, 0, none⟩) xs.length cap) (.slice (some ⟨w.heap.size, 0, none⟩) 1 1) (w.alloc (.cells #[.int .u8 z] 5)) (.slice (some ⟨s', 0, none⟩) (xs ++ [c]).length cap') W := by rw [ht]; exact hr
  exact wpList_append_ran hr' hg hop hs hx (hK _ s' cap' W (Lib.hid rfl) hm (grown_trans hg0 hgr))

/-- append of bytes, in the walk -/
theorem wp_onto1 {B s cap : Nat} {xs l : List UInt8} {p : Option Addr} {k : Nat} {w : World} (hown : Mine w B s cap xs) (h : At w p l) (hlen : xs.length + l.length ≤ 140737488355328) (hB : B ≤ w.heap.size)
    {ops : Array Oper} {rest : List Oper} {o : Oper} {a : Act} {Q : Exit → Act → World → Prop} {y x : Operand}
    (ht : o.type = 22) (hg : o.guard = none) (hop : o.op = Op.call { callee := Callee.builtin Builtin.append, args := #[y, x], argTypes := #[22, 22] })
    (hs : a.eval y = .slice (some ⟨s, 0, none⟩) xs.length cap) (hx : a.eval x = .slice p l.length k)
    (hK : ∀ ys s' cap' W, Hid (ys = xs ++ l) → Mine W B s' cap' ys → w.grownBy W (some s) → wpList Tryd.prog ops Q rest (a.put o.dst (.slice (some ⟨s', 0, none⟩) ys.length cap')) W) :
    wpList Tryd.prog ops Q (o :: rest) a w := by
  obtain ⟨s', cap', W, hr, hm, hgr⟩ := side_any B s cap xs l p k w hown h hlen hB
  have hr' : AppRun Tryd.prog 22 22 o.type (.slice (some ⟨s, 0, none⟩) xs.length cap) (.slice p l.length k) w (.slice (some ⟨s', 0, none⟩) (xs ++ l).length cap') W := by rw [ht]; exact hr
  exact wpList_append_ran hr' hg hop hs hx (hK _ s' cap' W (Lib.hid rfl) hm hgr)
end Go.Proofs.YtohgmkgclgoflaaDoor

/- The walk of package stuff's Len: what each group takes is told to a closure that counts. -/
namespace Go.Proofs.YtohgmkgclgoflaaDoor
open Go.RowKit

/-- the closure's count stands in block B, which is the call's own -/
def LenI (w : World) (xs : List UInt8) (w' : World) : Prop := Below w.heap.size w w' ∧ w'.heap[w.heap.size]? = some (.cells #[.int .i64 xs.length] 3 (0, 0))

set_option maxHeartbeats 1000000 in
theorem len_tell (w : World) (xs t : List UInt8) (q : Option Addr) (k : Nat) (w' : World) (h : LenI w xs w') (hb : xs.length + 1 + t.length ≤ 2147483648) :
    Calls Tryd.prog 37 #[.slice q t.length k, .pointer (some ⟨w.heap.size, 0, none⟩)] w' fun e w'' => e = .returned (.tuple #[]) ∧ LenI w (xs ++ [UInt8.ofNat (t.length + 1)] ++ t) w'' := by
  have hc := one_cell h.2
  have hf := one_free h.2
  have H := Lib.hid h
  clear h
  go_enter Tryd.func37, Tryd.ntmps37
  go_wp2
  go_end0
  refine ⟨rfl, H.out.1.setCell (Nat.le_refl _) _, ?_⟩
  rw [one_set H.out.2]
  simp
  omega

set_option maxHeartbeats 1000000 in
theorem lenK (p : Option Addr) (c : Nat) (l : List UInt8) (w : World) (hl : l.length ≤ 1073741824) (hlc : l.length ≤ c) (h : At w p l) :
    Calls Tryd.prog 25 #[.slice p l.length c] w fun e w' => e = .returned (.int .i64 ((Cob.stuff l).length : Nat)) ∧ Below w.heap.size w w' := by
  have HA := Lib.hid h
  clear h
  go_enter Tryd.func25, Tryd.ntmps25
  go_wp2_with fail
  refine (takeGroups_any 37 ⟨w.heap.size, 0, none⟩ (LenI w) p c l _ hl hlc (fun args w => enters_body Tryd.func37 (by kernel_rfl) rfl args w) (fun xs w' hi => HA.out.on hi.1) ?_ (fun xs q k t w' hi _ _ hb _ => len_tell w xs t q k w' hi hb)).mono ?_
  · exact ⟨(Below.refl _ _).alloc (Nat.le_refl _) _, heap_new w _⟩
  · rintro e w1 ⟨rfl, hi⟩
    have hc := one_cell hi.2
    have HB := Lib.hid hi.1
    clear hi
    go_wp2
    go_ret
    exact ⟨rfl, HB.out⟩
end Go.Proofs.YtohgmkgclgoflaaDoor

/- The walk of package stuff's Stuff: what each group takes is told to a closure that writes it. -/
namespace Go.Proofs.YtohgmkgclgoflaaDoor
open Go.RowKit

/-- the closure's slice stands in the variable g: both are the call's own -/
def StuI (w : World) (g : Nat) (xs : List UInt8) (w' : World) : Prop := Below w.heap.size w w' ∧ w.heap.size ≤ g ∧ ∃ s cap, Var w' w.heap.size g s cap xs

theorem stu_grown {w W W' : World} {s : Nat} (h : Below w.heap.size w W) (hs : w.heap.size ≤ s) (hg : W.grownBy W' (some s)) : Below w.heap.size w W' :=
  h.grown hg h.size (fun k hk => by cases hk; exact hs)

set_option maxRecDepth 100000 in
set_option maxHeartbeats 1000000 in
theorem stu_tell (w : World) (g : Nat) (xs t : List UInt8) (q : Option Addr) (k : Nat) (w' : World) (h : StuI w g xs w') (hq : ∀ ys w'', StuI w g ys w'' → At w'' q t) (ht : t.length ≤ 254) (hb : xs.length + 1 + t.length ≤ 2147483648) :
    Calls Tryd.prog 27 #[.slice q t.length k, .pointer (some ⟨g, 0, none⟩)] w' fun e w'' => e = .returned (.tuple #[]) ∧ StuI w g (xs ++ [UInt8.ofNat (t.length + 1)] ++ t) w'' := by
  obtain ⟨hbl, hg, s, cap, hv⟩ := h
  have hc := one_cell hv.box
  have hcn : (UInt8.ofNat (t.length + 1)).toNat = t.length + 1 := Cob.len_byte _ ht
  have HQ := Lib.hid hq
  have HV := Lib.hid hv
  have HB := Lib.hid hbl
  have hB := hbl.size
  clear hv hbl hq
  generalize UInt8.ofNat (t.length + 1) = cc at hcn
  go_enter Tryd.func27, Tryd.ntmps27
  go_wp2_with (first
    | (at_builtin; refine wp_push1 HV.out.mine cc (by omega) hB (by omega) rfl rfl rfl rfl rfl rfl ?_; intro ys s1 cap1 W1 HY hm1 hg1
       have hf1 := one_free (HV.out.still hg1)
       have hc0 := one_cell (HV.out.still hg1)
       have HV1 := Lib.hid (var_store (HV.out.still hg1) hm1)
       have HB1 := Lib.hid ((stu_grown HB.out HV.out.mine.base.1 hg1).setCell (p := ⟨g, 0, none⟩) hg (.slice (some ⟨s1, 0, none⟩) ys.length cap1))
       have hc1 := one_cell HV1.out.box
       have HA1 := Lib.hid (HQ.out _ _ ⟨HB1.out, hg, s1, cap1, HV1.out⟩)
       have hl1 : ys.length ≤ xs.length + 1 := by rw [HY.out]; simp
       clear hm1 hg1)
    | (at_builtin; refine wp_onto1 HV1.out.mine HA1.out (by omega) HB1.out.size rfl rfl rfl rfl rfl ?_; intro zs s2 cap2 W2 HZ hm2 hg2
       have hf2 := one_free (HV1.out.still hg2)
       have hc2 := one_cell (HV1.out.still hg2)
       have HV2 := Lib.hid (var_store (HV1.out.still hg2) hm2)
       have HB2 := Lib.hid ((stu_grown HB1.out HV1.out.mine.base.1 hg2).setCell (p := ⟨g, 0, none⟩) hg (.slice (some ⟨s2, 0, none⟩) zs.length cap2))
       clear hm2 hg2))
  go_end0
  have hz : zs = xs ++ [cc] ++ t := by rw [HZ.out, HY.out]
  rw [← hz]
  exact ⟨rfl, HB2.out, hg, s2, cap2, HV2.out⟩

set_option maxRecDepth 100000 in
set_option maxHeartbeats 1000000 in
theorem stuffK_stuff (p : Option Addr) (c : Nat) (l : List UInt8) (w : World) (hl : l.length ≤ 1073741824) (hlc : l.length ≤ c) (h : At w p l) :
    Calls Tryd.prog 18 #[.slice p l.length c] w fun e w' => ∃ g o cap, e = .returned (.slice (some ⟨g, o, none⟩) (Cob.stuff l).length cap) ∧ Free w' g o (Cob.stuff l) ∧ w.heap.size ≤ g ∧ (Cob.stuff l).length ≤ cap ∧ Below w.heap.size w w' := by
  obtain ⟨i0, hi, hz0, hz1, hz2⟩ := info_parts info8
  have HA := Lib.hid h
  have hbd := (Cob.stuff_length l).2
  obtain ⟨n, hn⟩ : ∃ n, n = (Cob.stuff l).length := ⟨_, rfl⟩
  have HLn := Lib.hid (lenK p c l w hl hlc h)
  rw [← hn] at HLn hbd
  clear h
  have HN := Lib.hid hn
  clear hn
  go_enter Tryd.func18, Tryd.ntmps18
  go_wp2_with fail
  refine HLn.out.mono ?_
  rintro e w1 ⟨rfl, hb1⟩
  have HB1 := Lib.hid hb1
  have hB1 := hb1.size
  clear hb1
  go_wp2_with (first
    | (at_make; refine wpList_make_own _ rfl _ _ 22 rfl w.heap.size 5 i0 (.int .u8 0) 1 Tryd.underlying22 hi hz0 hz1 .i64 .i64 n n rfl rfl rfl (by rw [hz2]; omega) (by unfold maxLen; omega) hB1 ?_; intro w2 hown hgrow
       have HM2 : Hid (Mine w2 w.heap.size w1.heap.size n []) := hown
       have HG2 := Lib.hid hgrow
       clear hown hgrow)
    | fail)
  have hs2 : w1.heap.size ≤ w2.heap.size := HG2.out.size
  have hB2 : Below w.heap.size w w2 := HB1.out.grown HG2.out hB1 (fun k hk => by cases hk)
  refine (takeGroups_any 27 ⟨w2.heap.size, 0, none⟩ (StuI w w2.heap.size) p c l _ hl hlc (fun args w => enters_body Tryd.func27 (by kernel_rfl) rfl args w) (fun xs w' hi => HA.out.on hi.1) ?_ (fun xs q k t w' hi hq ht hb _ => stu_tell w w2.heap.size xs t q k w' hi hq ht hb)).mono ?_
  · exact ⟨hB2.alloc (by omega) _, by omega, w1.heap.size, n, ⟨heap_new w2 _, World.ownsRow.alloc HM2.out _⟩⟩
  · rintro e w3 ⟨rfl, hb3, hg3, s, cap, hv⟩
    have hc := one_cell hv.box
    have HB3 := Lib.hid hb3
    have HV := Lib.hid hv
    clear hb3 hv hB2
    go_wp2
    go_ret
    exact ⟨s, 0, cap, rfl, HV.out.mine.free, HV.out.mine.base.1, HV.out.mine.base.2.2, HB3.out⟩
end Go.Proofs.YtohgmkgclgoflaaDoor

/- The walk of package stuff's readGroups, whatever the state of the closure of three captured variables that it tells the groups to. -/
namespace Go.Proofs.YtohgmkgclgoflaaDoor
open Go.RowKit

set_option maxHeartbeats 1000000 in
theorem readGroups_none (p : Option Addr) (c : Nat) (v : Value) (w : World) : Calls Tryd.prog 30 #[.slice p 0 c, v] w fun e w' => e = .returned (.int .i64 30) ∧ w' = w := by
  go_enter Tryd.func30, Tryd.ntmps30
  go_wp2
  go_ret
  exact ⟨rfl, rfl⟩

set_option maxRecDepth 100000 in
set_option maxHeartbeats 4000000 in
theorem readGroups_in (f : FuncId) (g1 g2 g3 : Addr) (J : List UInt8 → Nat → Nat → World → Prop) (b o c : Nat) (l : List UInt8) (w : World) (hl : l.length ≤ 140737488351232) (hlc : l.length ≤ c) (hne : l ≠ []) (hz : Cob.Nz l)
    (hE : ∀ (args : Array Value) (w : World), (callFunc f args).run Tryd.prog w = .ok (.enter f args) w) (hA : ∀ ys la ah w', J ys la ah w' → At w' (some ⟨b, o, none⟩) l) (hJ : J [] 0 0 w)
    (hT : ∀ ys la ah q k t w', J ys la ah w' → (∀ ys la ah w'', J ys la ah w'' → At w'' q t) → t.length ≤ 254 → ys.length + t.length + 1 ≤ 140737488355328 → la ≤ 254 →
      Calls Tryd.prog f #[.slice q t.length k, .pointer (some g1), .pointer (some g2), .pointer (some g3)] w' fun e w'' => e = .returned (.tuple #[]) ∧ J (ys ++ t ++ if t.length < 254 then [0] else []) t.length la w'') :
    Calls Tryd.prog 30 #[.slice (some ⟨b, o, none⟩) l.length c, .func (.func f) #[] #[.pointer (some g1), .pointer (some g2), .pointer (some g3)]] w fun e w' =>
      ∃ ys la ah, J ys la ah w' ∧ ((e = .returned (.int .i64 30) ∧ Cob.un l = (30, [])) ∨ (e = .returned (.int .i64 0) ∧ Cob.Rd l l.length ys la ah)) := by
  have HA := Lib.hid hA
  have HJ := Lib.hid hJ
  have HT := Lib.hid hT
  have HZ := Lib.hid hz
  have hpos : 0 < l.length := List.length_pos_iff.2 hne
  have HNe := Lib.hid hne
  have hne0 : ((l.length : Int) == 0) = false := by rw [beq_eq_false_iff_ne]; omega
  clear hA hJ hT hz hne
  go_enter Tryd.func30, Tryd.ntmps30
  go_wp2
  go_loopw [0, 5] (fun v0 _ wr => ∃ (a n : Nat) (ys : List UInt8) (la ah : Nat) (q : Option Addr) (d : Nat), a + n = l.length ∧ v0 = .slice q n d ∧ n ≤ d ∧ Hid ((∀ ys la ah w', J ys la ah w' → At w' q (l.drop a)) ∧ Cob.Rd l a ys la ah ∧ J ys la ah wr)) (fun v0 _ _ => lenV v0)
  case atStart => exact ⟨0, l.length, [], 0, 0, _, c, by omega, rfl, hlc, HA.out, Cob.rd_start HNe.out, HJ.out⟩
  case round =>
    obtain ⟨a, n, ys, la, ah, q, d, han, rfl, hnd, HK⟩ := hrel
    by_cases hn : n = 0
    · subst hn
      go_wp2
      go_ret
      obtain ⟨-, h2, h3⟩ := HK.out
      rw [show a = l.length by omega] at h2
      exact ⟨ys, la, ah, h3, .inr ⟨rfl, h2⟩⟩
    · have hal : a < l.length := by omega
      obtain ⟨b1, o1, rfl, hlt1, hc1⟩ := at_some (HK.out.1 _ _ _ _ HK.out.2.2) (by rw [List.length_drop]; omega)
      have hcell := hc1 0 (by rw [List.length_drop]; omega)
      rw [List.getElem_drop] at hcell
      simp only [Nat.add_zero] at hcell
      have hz0 : l[a] ≠ 0 := HZ.out _ (List.getElem_mem hal)
      have hz1 : 1 ≤ l[a].toNat := by
        rcases Nat.eq_zero_or_pos l[a].toNat with h | h
        · exact absurd (UInt8.toNat_inj.1 (by rw [h]; rfl)) hz0
        · exact h
      have hz2 := l[a].toNat_lt
      obtain ⟨k, hk⟩ : ∃ k, l[a].toNat = k + 1 := ⟨l[a].toNat - 1, by omega⟩
      rw [hk] at hcell hz2
      have HKv := Lib.hid hk
      have HCa := Lib.hid (HK.out.1)
      clear hz0 hz1 hk hc1
      by_cases hsh : n < k + 1
      · go_wp2
        go_ret
        exact ⟨ys, la, ah, HK.out.2.2, .inl ⟨rfl, Cob.rd_short HZ.out HK.out.2.1 hal (by have := HKv.out; omega)⟩⟩
      · have HRn := Lib.hid (Cob.rd_next HK.out.2.1 hal k HKv.out (by omega))
        have hle := Cob.rd_le HK.out.2.1
        have htl : ((l.drop (a + 1)).take k).length = k := by rw [List.length_take, List.length_drop]; omega
        have hk254 : k ≤ 254 := by omega
        have hcT : ∀ (q' : Option Addr) (d' : Nat), (∀ ys la ah w', J ys la ah w' → At w' q' ((l.drop (a + 1)).take k)) →
            Calls Tryd.prog f #[.slice q' k d', .pointer (some g1), .pointer (some g2), .pointer (some g3)] wr fun e w'' => e = .returned (.tuple #[]) ∧ J (ys ++ (l.drop (a + 1)).take k ++ if k < 254 then [0] else []) k la w'' := fun q' d' hq => by
          have := HT.out ys la ah q' d' ((l.drop (a + 1)).take k) wr HK.out.2.2 hq (by omega) (by omega) (by omega)
          rw [htl] at this
          exact this
        have HCT := Lib.hid hcT
        clear hcT htl
        by_cases hd : d = 1
        · have hk0 : k = 0 := by omega
          subst hk0
          go_wp2_with fail
          refine (HCT.out _ _ (fun _ _ _ _ _ => .inl rfl)).mono ?_
          rintro e w2 ⟨rfl, hJ2⟩
          have HJ2 := Lib.hid hJ2
          clear hJ2
          go_wp2
          go_roundw
          case rel =>
            refine ⟨a + 0 + 1, n - 1, _, 0, la, _, _, by omega, rfl, by omega, fun ys la ah w' hj => ?_, HRn.out, HJ2.out⟩
            exact .inl (List.drop_eq_nil_of_le (by omega))
          case measure => simp [lenV]; omega
        · go_wp2_with fail
          refine (HCT.out _ _ (fun _ _ _ _ hj => ?_)).mono ?_
          · have h1 := at_take (at_drop (HCa.out _ _ _ _ hj) 1) k
            rw [List.drop_drop] at h1
            exact h1
          rintro e w2 ⟨rfl, hJ2⟩
          have HJ2 := Lib.hid hJ2
          clear hJ2
          by_cases hdk : d = k + 1
          · subst hdk
            go_wp2
            go_roundw
            case rel =>
              refine ⟨a + k + 1, 0, _, k, la, _, _, by omega, rfl, by omega, fun ys la ah w' hj => ?_, HRn.out, HJ2.out⟩
              exact .inl (List.drop_eq_nil_of_le (by omega))
            case measure => simp [lenV]; omega
          · go_wp2
            go_roundw
            case rel =>
              refine ⟨a + k + 1, n - (k + 1), _, k, la, _, _, by omega, rfl, by omega, fun ys la ah w' hj => ?_, HRn.out, HJ2.out⟩
              have h1 := at_drop (HCa.out _ _ _ _ hj) (k + 1)
              rw [List.drop_drop] at h1
              exact h1
            case measure => simp [lenV]; omega
end Go.Proofs.YtohgmkgclgoflaaDoor
