/- The walk of package stuff's takeGroups, whatever closure of one captured variable it tells the groups to. -/
import Derived.Test.YtecophlkbomlmaaWFz
namespace Go.Proofs.Ytecophlkbomlmaa
open Go.RowKit

theorem at_drop {w : World} {b o : Nat} {l : List UInt8} (h : At w (some ⟨b, o, none⟩) l) (k : Nat) : At w (some ⟨b, o + k, none⟩) (l.drop k) := by
  rcases h with rfl | ⟨b, o, hp, h1, h2⟩
  · exact .inl (by simp)
  · cases hp
    exact .inr ⟨_, _, rfl, h1, cells_drop h2 k⟩

theorem at_take {w : World} {p : Option Addr} {l : List UInt8} (h : At w p l) (k : Nat) : At w p (l.take k) := by
  rcases h with rfl | ⟨b, o, rfl, h1, h2⟩
  · exact .inl (by simp)
  · exact .inr ⟨b, o, rfl, h1, cells_take h2 k⟩

section
open Cob
theorem take_round {l xs : List UInt8} {a k m : Nat} (h : Writing l a true xs) (hm : m = min (l.length - a) 254) (hF : FirstZ ((l.drop a).take m) k) :
    (k = l.length - a → stuff l = xs ++ [UInt8.ofNat (k + 1)] ++ (l.drop a).take k) ∧ (k < l.length - a → k < 254 → Writing l (a + k + 1) true (xs ++ [UInt8.ofNat (k + 1)] ++ (l.drop a).take k)) ∧
    (k < l.length - a → ¬ k < 254 → Writing l (a + k) true (xs ++ [UInt8.ofNat (k + 1)] ++ (l.drop a).take k)) ∧ k ≤ 254 ∧ k ≤ l.length - a ∧ xs.length + 1 + k ≤ l.length + 1 + l.length / 254 := by
  obtain ⟨h1, h2, h3⟩ := hF
  have ha := h.1
  have hml : ((l.drop a).take m).length = m := by rw [List.length_take, List.length_drop]; omega
  rw [hml] at h1
  have hz : ∀ j, j < k → ∀ h : a + j < l.length, l[a + j] ≠ 0 := fun j hj hlt => by
    have := h2 j (by rw [hml]; omega) hj
    rwa [List.getElem_take, List.getElem_drop] at this
  have hlen : ∀ ys : List UInt8, ys = xs ++ [UInt8.ofNat (k + 1)] ++ (l.drop a).take k → ys.length ≤ l.length + 1 + l.length / 254 → xs.length + 1 + k ≤ l.length + 1 + l.length / 254 := fun ys e hy => by
    rw [e] at hy
    simp only [List.length_append, List.length_cons, List.length_nil, List.length_take, List.length_drop] at hy
    omega
  by_cases h254 : k < 254
  · by_cases hend : a + k = l.length
    · have hw := writing_end h h254 hend hz
      exact ⟨fun _ => hw.2.2 rfl, fun hc => by omega, fun hc => by omega, by omega, by omega, hlen _ rfl (writing_bound hw)⟩
    · have h0 : l[a + k]'(by omega) = 0 := by
        have := h3 (by rw [hml]; omega)
        rwa [List.getElem_take, List.getElem_drop] at this
      have hw := writing_zero h h254 (by omega) hz h0
      exact ⟨fun hc => by omega, fun _ _ => hw, fun _ hc => absurd h254 hc, by omega, by omega, hlen _ rfl (writing_bound hw)⟩
  · have hk : k = 254 := by omega
    subst hk
    have hw := writing_full h (by omega) hz
    refine ⟨fun hc => hw.2.2 (decide_eq_false (by omega)), fun _ hc => absurd hc h254, fun hc _ => ?_, by omega, by omega, hlen _ rfl (writing_bound hw)⟩
    rw [decide_eq_true (show a + 254 < l.length by omega)] at hw
    exact hw
end

/-- a call of a function that has a body enters it -/
theorem enters_body {P : Program} {f : FuncId} {fn : Func} {c : Code} (hf : P.funcs[f]? = some fn) (hname : (fn.name == "runtime.NumGoroutine") = false) (hb : fn.body = some c) (args : Array Value) (w : World) :
    (callFunc f args).run P w = .ok (.enter f args) w := by
  have h1 : fn.name ≠ "runtime.NumGoroutine" := by simpa using hname
  simp [callFunc, hf, h1, hb]

def lenV : Value → Nat
  | .slice _ n _ => n
  | _ => 0

set_option maxRecDepth 100000 in
set_option maxHeartbeats 2000000 in
theorem takeGroups_any (f : FuncId) (g : Addr) (I : List UInt8 → World → Prop) (p : Option Addr) (c : Nat) (l : List UInt8) (w : World) (hl : l.length ≤ 140737488351232) (hlc : l.length ≤ c)
    (hE : ∀ (args : Array Value) (w : World), (callFunc f args).run Try.prog w = .ok (.enter f args) w) (hA : ∀ xs w', I xs w' → At w' p l) (hI : I [] w)
    (hT : ∀ xs q k t w', I xs w' → (∀ ys w'', I ys w'' → At w'' q t) → t.length ≤ 254 → xs.length + 1 + t.length ≤ 150000000000000 → t.length ≤ k →
      Calls Try.prog f #[.slice q t.length k, .pointer (some g)] w' fun e w'' => e = .returned (.tuple #[]) ∧ I (xs ++ [UInt8.ofNat (t.length + 1)] ++ t) w'') :
    Calls Try.prog 13 #[.slice p l.length c, .func (.func f) #[] #[.pointer (some g)]] w fun e w' => e = .returned (.tuple #[]) ∧ I (Cob.stuff l) w' := by
  have HA := Lib.hid hA
  have HI := Lib.hid hI
  have HT := Lib.hid hT
  clear hA hI hT
  go_enter Try.func13, Try.ntmps13
  go_wp2
  go_loopw [0, 4] (fun v0 _ wr => ∃ (a n : Nat) (xs : List UInt8) (q : Option Addr) (d : Nat), a + n = l.length ∧ v0 = .slice q n d ∧ n ≤ d ∧ Hid ((∀ ys w', I ys w' → At w' q (l.drop a)) ∧ Cob.Writing l a true xs ∧ I xs wr)) (fun v0 _ _ => lenV v0)
  case atStart => exact ⟨0, l.length, [], p, c, by omega, rfl, hlc, HA.out, Cob.writing_start l, HI.out⟩
  case round =>
    obtain ⟨a, n, xs, q, d, han, rfl, hnd, HK⟩ := hrel
    obtain ⟨m, hm0⟩ : ∃ m, m = min (l.length - a) 254 := ⟨_, rfl⟩
    have hmin : (if (254 : Int) < (n : Int) then (254 : Int) else (n : Int)) = (m : Int) := by split <;> omega
    have hmd : m ≤ d := by omega
    have hml : ((l.drop a).take m).length = m := by rw [List.length_take, List.length_drop]; omega
    have hF := firstZero_ok q d ((l.drop a).take m) (by omega) wr (at_take (HK.out.1 _ _ HK.out.2.2) m)
    rw [hml] at hF
    have HF := Lib.hid hF
    have HM := Lib.hid hm0
    clear hF hm0 hml
    go_wp2_with fail
    refine HF.out.mono ?_
    rintro e w1 ⟨k, rfl, hFz, rfl⟩
    have HR := Lib.hid (take_round HK.out.2.1 HM.out hFz)
    have hkn : k ≤ n := by have := HR.out.2.2.2.2.1; omega
    have hk254 := HR.out.2.2.2.1
    have hxb := HR.out.2.2.2.2.2
    have hkl : ((l.drop a).take k).length = k := by rw [List.length_take, List.length_drop]; omega
    have hc := HT.out xs q d ((l.drop a).take k) w1 HK.out.2.2 (fun ys w'' h => at_take (HK.out.1 ys w'' h) k) (by omega) (by omega) (by omega)
    rw [hkl] at hc
    have HCl := Lib.hid hc
    clear hFz hc hkl HF
    go_wp2_with fail
    refine HCl.out.mono ?_
    rintro e w2 ⟨rfl, hI2⟩
    have HI2 := Lib.hid hI2
    clear hI2 HCl
    by_cases hend : k = n
    · subst hend
      have hz : ((k : Int) - (k : Int) == 0) = true := by simp
      go_wp2
      all_goals
        refine bodyPost_ret (results_none rfl _ _ _) rfl ?_
        rw [HR.out.1 (by omega)]
        exact ⟨rfl, HI2.out⟩
    · obtain ⟨b, o, rfl, -⟩ := at_some (HK.out.1 _ _ HI2.out) (by rw [List.length_drop]; omega)
      by_cases h254 : k < 254
      · have h254' : (k : Int) < 254 := by omega
        go_wp2
        go_roundw
        case rel =>
          refine ⟨a + k + 1, n - k - 1, _, _, _, by omega, rfl, by omega, fun ys w' hI' => ?_, HR.out.2.1 (by omega) h254, HI2.out⟩
          have h1 := at_drop (at_drop (HK.out.1 ys w' hI') k) 1
          rw [List.drop_drop, List.drop_drop] at h1
          split
          · exact .inl (List.drop_eq_nil_of_le (by omega))
          · exact h1
        case measure => simp [lenV]; omega
      · go_wp2
        go_roundw
        case rel =>
          refine ⟨a + k, n - k, _, _, _, by omega, rfl, by omega, fun ys w' hI' => ?_, HR.out.2.2.1 (by omega) h254, HI2.out⟩
          have h1 := at_drop (HK.out.1 ys w' hI') k
          rw [List.drop_drop] at h1
          exact h1
        case measure => simp [lenV]; omega
end Go.Proofs.Ytecophlkbomlmaa
