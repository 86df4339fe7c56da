/- Slices of bytes as lists: what a slice holds, carried from world to world; the laws' own same(a, b). -/
import Derived.Test.YtecophlkbomlmaaRows
import Derived.WalkKit
import Derived.WalkSpells
import Derived.WalkLawsBesides
import Derived.Deep.QuietTactic
import Derived.BigQuiet
import Derived.Lib.Hide
namespace Go.Proofs.Ytecophlkbomlmaa
open Go.RowKit

/-- a list of bytes lies in block b from o on -/
def Cells (w : World) (b o : Nat) (l : List UInt8) : Prop := ∀ j (h : j < l.length), w.cell? ⟨b, o + j, none⟩ = some (.int .u8 (l[j].toNat : Int))

/-- a slice's address holds a list of bytes: nothing is asked of an empty one's -/
def At (w : World) (p : Option Addr) (l : List UInt8) : Prop := l = [] ∨ ∃ b o, p = some ⟨b, o, none⟩ ∧ b < w.heap.size ∧ Cells w b o l

theorem At.on {w w' : World} {p : Option Addr} {l : List UInt8} (h : At w p l) (hb : Below w.heap.size w w') : At w' p l := by
  rcases h with rfl | ⟨b, o, rfl, h1, h2⟩
  · exact .inl rfl
  · refine .inr ⟨b, o, rfl, by have := hb.size; omega, fun j hj => ?_⟩
    rw [hb.cell (p := ⟨b, o + j, none⟩) h1]
    exact h2 j hj
theorem At.drewN {w : World} {p : Option Addr} {l : List UInt8} (h : At w p l) (n : Nat) : At (w.drewN n) p l := by
  rcases h with rfl | ⟨b, o, rfl, h1, h2⟩
  · exact .inl rfl
  · exact .inr ⟨b, o, rfl, h1, h2⟩

theorem below_drewN {B : Nat} {a w : World} (h : Below B a w) (n : Nat) : Below B a (w.drewN n) := ⟨h.os, h.tape, h.output, h.size, h.block⟩

set_option maxHeartbeats 1000000 in
theorem same_len (p q : Option Addr) (n m c d : Nat) (hne : n ≠ m) (w : World) :
    Calls Try.prog 11 #[.slice p n c, .slice q m d] w fun e w' => e = .returned (.bool false) ∧ w' = w := by
  have hb : ((n : Int) != (m : Int)) = true := by rw [bne_iff_ne]; omega
  clear hne
  go_enter Try.func11, Try.ntmps11
  go_wp2
  go_ret
  exact ⟨rfl, rfl⟩

set_option maxHeartbeats 1000000 in
theorem same_none (p q : Option Addr) (c d : Nat) (w : World) :
    Calls Try.prog 11 #[.slice p 0 c, .slice q 0 d] w fun e w' => e = .returned (.bool true) ∧ w' = w := by
  go_enter Try.func11, Try.ntmps11
  go_wp2
  go_loop [5] (fun vi => vi = .int .i64 0) (fun _ => 0)
  case atStart => exact rfl
  case round =>
    subst hrel
    go_wp2
    go_ret
    exact ⟨rfl, rfl⟩

set_option maxHeartbeats 4000000 in
theorem same_some (b1 o1 b2 o2 c d : Nat) (l k : List UInt8) (hl : l.length ≤ 200000000000000) (hk : k.length = l.length) (w : World) (h1 : Cells w b1 o1 l) (h2 : Cells w b2 o2 k) :
    Calls Try.prog 11 #[.slice (some ⟨b1, o1, none⟩) l.length c, .slice (some ⟨b2, o2, none⟩) l.length d] w fun e w' => e = .returned (.bool (l == k)) ∧ ∃ n, w' = w.drewN n := by
  have H1 := Lib.hid h1
  have H2 := Lib.hid h2
  have HK := Lib.hid hk
  clear h1 h2 hk
  go_enter Try.func11, Try.ntmps11
  go_wp2
  go_loopw [5] (fun vi wr => ∃ i n : Nat, i ≤ l.length ∧ vi = .int .i64 i ∧ wr = w.drewN n ∧ Hid (l.take i = k.take i)) (fun vi _ => l.length - (intOf vi).toNat)
  case atStart => exact ⟨0, 0, by omega, rfl, rfl, rfl⟩
  case round =>
    obtain ⟨i, n, hi, rfl, rfl, HT⟩ := hrel
    by_cases hlt : i < l.length
    · have hc1 := H1.out i hlt
      have hlt2 : i < k.length := by rw [HK.out]; exact hlt
      have hc2 := H2.out i hlt2
      have hlt' : (i : Int) < (l.length : Int) := by omega
      by_cases he : l[i] = k[i]
      · have HT2 : Hid (l.take (i + 1) = k.take (i + 1)) := by
          show _ = _
          rw [List.take_succ_eq_append_getElem hlt, List.take_succ_eq_append_getElem hlt2, HT.out, he]
        rw [← he] at hc2
        clear he HT
        go_wp2
        go_quiet (fail)
        go_wp2
        go_roundw
        case rel => exact ⟨i + 1, _, by omega, by go_num, rfl, HT2⟩
        case measure => simp [intOf]; omega
      · have hb : ((l[i].toNat : Int) != (k[i].toNat : Int)) = true := by
          rw [bne_iff_ne]
          intro hc
          exact he (UInt8.toNat_inj.1 (by omega))
        have HF : Hid ((l == k) = false) := by
          show _ = _
          rw [beq_eq_false_iff_ne]
          intro hc
          subst hc
          exact he rfl
        clear he HT
        go_wp2
        go_quiet (fail)
        go_wp2
        go_ret
        exact ⟨by rw [HF.out]; rfl, _, World.drewN_drewN ..⟩
    · have hii : i = l.length := by omega
      subst hii
      have HF : Hid ((l == k) = true) := by
        show _ = _
        rw [beq_iff_eq]
        have := HT.out
        rw [List.take_length, ← HK.out, List.take_length] at this
        exact this
      clear HT
      go_wp2
      go_ret
      exact ⟨by rw [HF.out]; rfl, n, rfl⟩

/-- same(a, b): whether the two lists are one -/
theorem same_any (p q : Option Addr) (c d : Nat) (l k : List UInt8) (hl : l.length ≤ 200000000000000) (w : World) (h1 : At w p l) (h2 : At w q k) :
    Calls Try.prog 11 #[.slice p l.length c, .slice q k.length d] w fun e w' => e = .returned (.bool (l == k)) ∧ ∃ n, w' = w.drewN n := by
  by_cases hlen : l.length = k.length
  · rcases h1 with rfl | ⟨b1, o1, rfl, _, hc1⟩
    · have hk : k = [] := by
        cases k with
        | nil => rfl
        | cons _ _ => simp at hlen
      subst hk
      refine (same_none p q c d w).mono ?_
      rintro e w' ⟨rfl, rfl⟩
      exact ⟨rfl, 0, rfl⟩
    · rcases h2 with rfl | ⟨b2, o2, rfl, _, hc2⟩
      · have hk : l = [] := by
          cases l with
          | nil => rfl
          | cons _ _ => simp at hlen
        subst hk
        refine (same_none _ q c d w).mono ?_
        rintro e w' ⟨rfl, rfl⟩
        exact ⟨rfl, 0, rfl⟩
      · rw [← hlen]
        exact same_some b1 o1 b2 o2 c d l k hl hlen.symm w hc1 hc2
  · refine (same_len p q l.length k.length c d hlen w).mono ?_
    rintro e w' ⟨rfl, rfl⟩
    refine ⟨?_, 0, rfl⟩
    rw [show (l == k) = false by rw [beq_eq_false_iff_ne]; intro hc; rw [hc] at hlen; exact hlen rfl]
end Go.Proofs.Ytecophlkbomlmaa
