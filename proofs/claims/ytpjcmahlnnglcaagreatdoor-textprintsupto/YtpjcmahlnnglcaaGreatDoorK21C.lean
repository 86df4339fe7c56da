/- The landed text: longest. -/
import Derived.Test.YtpjcmahlnnglcaaGreatDoorK21B
import Derived.Laws.RangeAny
namespace Go.Proofs.YtpjcmahlnnglcaaGreatDoor
open Go.RowKit

theorem iter_drewN (w : World) (t : ByteArray) (pos k n : Nat) : ((w.drewN k).iter t pos).drewN n = (w.drewN (k + n)).iter t pos := by
  simp [World.iter, World.alloc, World.drewN, Nat.add_assoc]
theorem below_iter (w : World) (k : Nat) (t : ByteArray) (pos : Nat) : Below w.heap.size w ((w.drewN k).iter t pos) := (below_drewN (Below.refl _ _) k).alloc (Nat.le_refl _) _
theorem tw_take (p : UInt8 → Bool) (l : Tx.Bs) (j : Nat) (h1 : ∀ c ∈ l.take j, p c = true) (h2 : ∀ c, (l.drop j).head? = some c → p c = false) : l.takeWhile p = l.take j := by
  have h := (Tx.span p (l.take j) (l.drop j) h1 h2).1
  rw [List.take_append_drop] at h
  exact h
theorem cut_left {S : ByteArray} {l : Tx.Bs} {a : Nat} (hs : S.data.toList.drop a = l) (n : Nat) (hn : S.size ≤ n) : S.extract a n = ⟨l.toArray⟩ := by
  apply ByteArray.ext
  apply Array.toList_inj.1
  rw [← hs, ByteArray.data_extract, Array.toList_extract]
  simp
  exact List.take_of_length_le (by rw [List.length_drop, Array.length_toList]; have : S.data.size = S.size := rfl; omega)
theorem cut_head (l : Tx.Bs) (j : Nat) : (ByteArray.mk l.toArray).extract 0 j = ⟨(l.take j).toArray⟩ := by
  apply ByteArray.ext
  apply Array.toList_inj.1
  simp [ByteArray.data_extract]
section
variable {w w' : World} {P : Nat} {S : ByteArray} {l : Tx.Bs}
set_option maxRecDepth 100000 in
set_option maxHeartbeats 4000000 in
theorem longestK (h : Prs w P S l) {q : Int → Bool} {p : UInt8 → Bool} (hqp : Runes q p) (f : FuncId) (env : Array Value) (hE : ∀ (args : Array Value) (w : World), (callFunc f args).run Tryz.prog w = .ok (.enter f args) w)
    (hC : ∀ r w', Below w.heap.size w w' → Calls Tryz.prog f (#[.int .i32 r] ++ env) w' fun e w'' => e = .returned (.bool (q r)) ∧ ∃ n, w'' = w'.drewN n) :
    Calls Tryz.prog 120 #[.pointer (some ⟨P, 0, none⟩), .func (.func f) #[] env] w fun e w' => e = .returned (.string ⟨(l.takeWhile p).toArray⟩) ∧ Below w.heap.size w w' := by
  have hsm := h.small
  have hle := h.le
  have c0 : w.cell? ⟨P, 0, none⟩ = some (.string S) := h.cell 0
  have c1 : w.cell? ⟨P, 1, none⟩ = some (.int .i64 ((S.size - l.length : Nat) : Int)) := h.cell 1
  have hcut := cut_left h.suf S.size (Nat.le_refl _)
  obtain ⟨a, ha⟩ : ∃ a, S.size - l.length = a := ⟨_, rfl⟩
  rw [ha] at c1 hcut
  have haS : a ≤ S.size := by omega
  have haI : (a : Int) ≤ (S.size : Int) := by omega
  have HC := Lib.hid hC
  have HQ := Lib.hid hqp
  obtain ⟨t, ht⟩ : ∃ t, t = ByteArray.mk l.toArray := ⟨_, rfl⟩
  rw [← ht] at hcut
  have hts : t.size = l.length := by rw [ht]; show l.toArray.size = _; simp
  have HT := Lib.hid ht
  have HTs := Lib.hid hts
  have htl : t.size ≤ 140737488351232 := by omega
  clear h hqp hC ha ht hts
  have HIt : Hid (∀ k pos, ((w.drewN k).iter t pos).iterPos w.heap.size = pos) := fun k pos => World.iterPos_iter (w.drewN k) t pos
  have HBl : Hid (∀ k pos, Below w.heap.size w ((w.drewN k).iter t pos)) := fun k pos => below_iter w k t pos
  go_enter Tryz.func120, Tryz.ntmps120
  go_wp2_with fail
  go_quiet (fail)
  go_wp2
  go_loopw [6, 7] (fun _ _ wr => ∃ pos k : Nat, pos ≤ t.size ∧ wr = (w.drewN k).iter t pos ∧ Hid (∀ c ∈ l.take pos, p c = true)) (fun _ _ wr => t.size - wr.iterPos w.heap.size)
  case atStart => exact ⟨0, _, Nat.zero_le _, rfl, fun c hc => by simp at hc⟩
  case round =>
    obtain ⟨pos, k, hp, rfl, HU⟩ := hrel
    by_cases hlt : pos < t.size
    · have hnx : ∀ ty, (Instr.next (.pointer (some ⟨w.heap.size, 0, none⟩)) true ty).run Tryz.prog ((w.drewN k).iter t pos) = .ok (.tuple #[.bool true, .int .i64 pos, .int .i32 (Utf8.decode t pos).1]) ((w.drewN k).iter t (pos + (Utf8.decode t pos).2)) := fun ty => run_next_any (P := Tryz.prog) (w.drewN k) t pos ty hlt
      have hpl : pos < l.length := by have := HTs.out; omega
      have hdl : t.data.toList.drop pos = l[pos] :: l.drop (pos + 1) := by rw [HT.out]; exact List.drop_eq_getElem_cons hpl
      have hdc := decode_dec hdl hlt
      obtain ⟨c, hc⟩ : ∃ c, c = l[pos]'hpl := ⟨_, rfl⟩
      rw [← hc] at hdc
      have HCc := Lib.hid hc
      have HJ2 : Hid (p c = true → ∀ c ∈ l.take (pos + 1), p c = true) := fun hpc x hx => by
        rw [List.take_succ_eq_append_getElem hpl] at hx
        rcases List.mem_append.1 hx with hx | hx
        · exact HU.out x hx
        · rw [List.mem_singleton] at hx
          rw [hx, ← HCc.out]; exact hpc
      have HEx : Hid (p c = false → t.extract 0 pos = ⟨(l.takeWhile p).toArray⟩) := fun hpc => by
        rw [HT.out, cut_head, tw_take p l pos HU.out]
        intro x hx
        rw [List.head?_drop, List.getElem?_eq_getElem hpl] at hx
        injection hx with hx
        rw [← hx, ← HCc.out]; exact hpc
      have b2 : (pos : Int) ≤ (t.size : Int) := by omega
      clear hdl hc HU HCc
      by_cases h128 : c.toNat < 128
      · have hd : dec (c :: l.drop (pos + 1)) = (c.toNat, 1) := by simp [dec, h128]
        rw [hdc, hd] at hnx
        have HCr : Hid (∀ k pos, Calls Tryz.prog f (#[.int .i32 (c.toNat : Int)] ++ env) ((w.drewN k).iter t pos) fun e w'' => e = .returned (.bool (p c)) ∧ ∃ n, w'' = ((w.drewN k).iter t pos).drewN n) := fun k pos => by
          rw [← HQ.out.low c h128]
          exact HC.out _ _ (HBl.out k pos)
        clear hd hdc h128
        cases hpc : p c with
        | true =>
          rw [hpc] at HCr HJ2
          have HJ := Lib.hid (HJ2.out rfl)
          clear hpc HJ2 HEx
          go_wp2_with fail
          refine (HCr.out _ _).mono ?_
          rintro e w1 ⟨rfl, n, hw1⟩
          rw [iter_drewN] at hw1
          rw [hw1]
          clear hw1 w1
          go_wp2
          go_roundw
          case rel => exact ⟨pos + 1, k + n, by omega, rfl, HJ⟩
          case measure => rw [HIt.out, HIt.out]; omega
        | false =>
          rw [hpc] at HCr HEx
          have HE := Lib.hid (HEx.out rfl)
          clear hpc HJ2 HEx
          go_wp2_with fail
          refine (HCr.out _ _).mono ?_
          rintro e w1 ⟨rfl, n, hw1⟩
          rw [iter_drewN] at hw1
          rw [hw1]
          clear hw1 w1
          go_wp2
          go_ret
          rw [HE.out]
          exact ⟨rfl, HBl.out _ _⟩
      · obtain ⟨r, m, hrm⟩ : ∃ r m, dec (c :: l.drop (pos + 1)) = (r, m) := ⟨_, _, rfl⟩
        have hr : 128 ≤ r := by have := dec_high (c := c) (r := l.drop (pos + 1)) (by omega); rw [hrm] at this; exact this
        rw [hdc, hrm] at hnx
        have HCr : Hid (∀ k pos, Calls Tryz.prog f (#[.int .i32 (r : Int)] ++ env) ((w.drewN k).iter t pos) fun e w'' => e = .returned (.bool false) ∧ ∃ n, w'' = ((w.drewN k).iter t pos).drewN n) := fun k pos => by
          rw [← HQ.out.out r (by omega)]
          exact HC.out _ _ (HBl.out k pos)
        have HE := Lib.hid (HEx.out (HQ.out.hig c (by omega)))
        clear hdc h128 hrm hr HJ2 HEx
        go_wp2_with fail
        refine (HCr.out _ _).mono ?_
        rintro e w1 ⟨rfl, n, hw1⟩
        rw [iter_drewN] at hw1
        rw [hw1]
        clear hw1 w1
        go_wp2
        go_ret
        rw [HE.out]
        exact ⟨rfl, HBl.out _ _⟩
    · have hnx : ∀ ty, (Instr.next (.pointer (some ⟨w.heap.size, 0, none⟩)) true ty).run Tryz.prog ((w.drewN k).iter t pos) = .ok (.tuple #[.bool false]) ((w.drewN k).iter t pos) := fun ty => run_next_end (P := Tryz.prog) (w.drewN k) t pos ty hlt
      have HE : Hid (t = ⟨(l.takeWhile p).toArray⟩) := by
        show t = _
        rw [tw_take p l pos HU.out, List.take_of_length_le (by have := HTs.out; omega)]
        · exact HT.out
        · intro x hx
          rw [List.head?_drop, List.getElem?_eq_none (by have := HTs.out; omega)] at hx
          cases hx
      clear HU
      go_wp2
      go_ret
      exact ⟨by rw [← HE.out]; rfl, HBl.out _ _⟩
end
end Go.Proofs.YtpjcmahlnnglcaaGreatDoor
