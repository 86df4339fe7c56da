/- Plain: how far the numbers of a file come in n steps. -/
import Derived.Test.YtoibeajcepbpjaaLDNum
namespace Go.Proofs.Ytoibeajcepbpjaa
open Go.RowKit

/-- what holds of a file's numbers behind n steps -/
structure Dv.Near (n : Nat) (s : Dv.St) : Prop where
  len : s.b.length ≤ 2097152
  sound : s.safe ≤ s.b.length
  most : s.most ≤ 1048576
  after : s.after < 9223372036854775808
  keep : s.keep < 9223372036854775808
  done : s.done ≤ n * 1048576
  told : s.told ≤ n * 2097152

theorem Dv.Near.fit {n : Nat} {s : Dv.St} (h : Dv.Near n s) (hn : n ≤ 3000000000000) : Dv.Fit s :=
  ⟨h.len, h.sound, h.most, h.after, h.keep, by have := h.done; omega, by have := h.told; omega⟩
theorem Dv.Near.more {n m : Nat} {s : Dv.St} (h : Dv.Near n s) (hm : n ≤ m) : Dv.Near m s :=
  ⟨h.len, h.sound, h.most, h.after, h.keep, Nat.le_trans h.done (Nat.mul_le_mul_right 1048576 hm), Nat.le_trans h.told (Nat.mul_le_mul_right 2097152 hm)⟩
theorem Dv.near_new (q : Nat) (hq : q ≤ 1048576) : Dv.Near 0 (Dv.new q) := ⟨by simp [Dv.new], by simp [Dv.new], hq, by simp [Dv.new], by simp [Dv.new], by simp [Dv.new], by simp [Dv.new]⟩

theorem Dv.lay_numbers : ∀ (l : List UInt8) (s : Dv.St), (Dv.lay s l).2.done ≤ s.done + l.length ∧ (Dv.lay s l).2.told = s.told ∧ (Dv.lay s l).2.after ≤ s.after ∧ (Dv.lay s l).2.keep = s.keep
  | [], s => by simp [Dv.lay]
  | c :: r, s => by
    rw [Dv.lay]
    split
    · obtain ⟨h1, h2, h3, h4⟩ := Dv.lay_numbers r { Dv.did s with b := s.b ++ [c] }
      simp only [Dv.did] at h1 h2 h3 h4
      refine ⟨by simp only [Dv.did, List.length_cons]; omega, h2, ?_, h4⟩
      simp only [Dv.did]
      split at h3 <;> simp_all <;> omega
    · simp [Dv.fails]

theorem Dv.near_write {n : Nat} {s : Dv.St} (h : Dv.Near n s) (l : List UInt8) : Dv.Near (n + 1) (Dv.write s l).2 := by
  unfold Dv.write
  split
  · exact h.more (by omega)
  · split
    · exact h.more (by omega)
    · rename_i hd hx
      obtain ⟨⟨_, _, k3, k4⟩, k5, k6, _⟩ := Dv.lay_keeps l s h.sound
      obtain ⟨n1, n2, n3, n4⟩ := Dv.lay_numbers l s
      have hl : l.length ≤ 1048576 ∧ s.b.length + l.length ≤ 2097152 := by
        by_cases he : l = []
        · rw [he]; exact ⟨by simp, by have := h.len; simpa using this⟩
        · have : ¬ s.most < s.b.length + l.length := fun hc => hx ⟨he, hc⟩
          have := h.most
          omega
      have h1 := h.after
      have h2 := h.keep
      have h3 := h.done
      have h4 := h.told
      exact ⟨by simp only; omega, k3, by simp only; rw [k4]; exact h.most, by simp only; omega, by simp only; omega, by simp only; omega, by simp only; omega⟩
theorem Dv.near_sync {n : Nat} {s : Dv.St} (h : Dv.Near n s) : Dv.Near (n + 1) (Dv.sync s).2 := by
  unfold Dv.sync
  split
  · exact h.more (by omega)
  · exact Dv.Near.more (n := n) ⟨h.len, Nat.le_refl _, h.most, h.after, h.keep, h.done, h.told⟩ (by omega)
theorem Dv.near_fails {n : Nat} {s : Dv.St} (h : Dv.Near n s) : Dv.Near n (Dv.fails s) :=
  ⟨by have := Dv.fails_len s; have := h.len; omega, Dv.fails_sound h.sound, h.most, h.after, h.keep, h.done, h.told⟩
theorem Dv.near_cut {n : Nat} {s : Dv.St} (h : Dv.Near n s) (m : Int) : Dv.Near (n + 1) (Dv.cut s m).2 := by
  unfold Dv.cut
  split
  · exact h.more (by omega)
  · split
    · exact h.more (by omega)
    · split
      · have h0 := h.len
        have h1 := h.after
        have h3 := h.done
        have h4 := h.told
        have h5 := h.sound
        refine ⟨by simp only [List.length_take]; omega, ?_, h.most, ?_, h.keep, by simp only [Dv.did]; clear h4; omega, Nat.le_trans h.told (Nat.mul_le_mul_right _ (Nat.le_succ n))⟩
        · simp only [List.length_take]; split <;> omega
        · simp only [Dv.did]; split <;> omega
      · exact (Dv.near_fails h).more (by omega)
theorem Dv.near_read {n : Nat} {s : Dv.St} (h : Dv.Near n s) (a m : Int) : Dv.Near (n + 1) (Dv.read s a m).2.2 := by
  unfold Dv.read
  split
  · exact h.more (by omega)
  · have h0 := h.len
    have h3 := h.done
    have h4 := h.told
    refine ⟨h.len, h.sound, h.most, h.after, h.keep, Nat.le_trans h.done (Nat.mul_le_mul_right _ (Nat.le_succ n)), ?_⟩
    simp only [List.length_take, List.length_drop]
    clear h3
    omega
theorem Dv.near_fail {n : Nat} {s : Dv.St} (h : Dv.Near n s) (a m : Int) (ha : a ≤ 9223372036854775807) (hm : m ≤ 9223372036854775807) : Dv.Near (n + 1) (Dv.fail s a m).2 := by
  unfold Dv.fail
  split
  · exact h.more (by omega)
  · split
    · exact h.more (by omega)
    · exact Dv.Near.more (n := n) ⟨h.len, h.sound, h.most, by simp only; omega, by simp only; omega, h.done, h.told⟩ (by omega)
theorem Dv.near_start {n : Nat} {s : Dv.St} (h : Dv.Near n s) : Dv.Near (n + 1) (Dv.start s).2 := by
  unfold Dv.start
  split
  · exact Dv.Near.more (n := n) ⟨h.len, h.sound, h.most, h.after, h.keep, h.done, h.told⟩ (by omega)
  · exact h.more (by omega)
theorem Dv.near_damage {n : Nat} {s : Dv.St} (h : Dv.Near n s) (a : Int) (v : UInt8) : Dv.Near (n + 1) (Dv.damage s a v).2 := by
  unfold Dv.damage
  split
  · exact h.more (by omega)
  · exact Dv.Near.more (n := n) ⟨by have := h.len; simpa using this, by have := h.sound; simpa using this, h.most, h.after, h.keep, h.done, h.told⟩ (by omega)
theorem Dv.near_tail {n : Nat} {s : Dv.St} (h : Dv.Near n s) (l : List UInt8) : Dv.Near (n + 1) (Dv.tail s l).2 := by
  unfold Dv.tail
  split
  · exact h.more (by omega)
  · exact Dv.Near.more (n := n) ⟨by simp only [List.length_append]; omega, Nat.le_refl _, h.most, h.after, h.keep, h.done, h.told⟩ (by omega)
end Go.Proofs.Ytoibeajcepbpjaa
