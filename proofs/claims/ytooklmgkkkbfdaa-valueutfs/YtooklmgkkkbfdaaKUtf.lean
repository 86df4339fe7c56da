/- Package value's Utf: a range over the text that tells the character fffd from a byte that belongs to none. -/
import Derived.Test.YtooklmgkkkbfdaaDec
import Derived.Test.YtooklmgkkkbfdaaValueC
import Derived.Laws.RangeAny
namespace Go.Proofs.Ytooklmgkkkbfdaa
open Go.RowKit

theorem one_mark {l : List UInt8} (h : l.take 3 = [239, 191, 189]) : U8.one l = some 3 := by
  match l, h with
  | [], h => simp at h
  | [_], h => simp at h
  | [_, _], h => simp at h
  | a :: b :: c :: r, h =>
    simp only [List.take_succ_cons, List.take_zero, List.cons.injEq, and_true] at h
    obtain ⟨rfl, rfl, rfl⟩ := h
    simp [U8.one, U8.kind, U8.conts, U8.may]
theorem ext0 (t : ByteArray) : (t.extract 0 3).toList = t.data.toList.take 3 := by
  rw [ByteArray.toList_eq, ByteArray.data_extract, Array.toList_extract]
  simp
theorem extPos (t : ByteArray) (pos : Nat) : (t.extract pos t.size).data.toList = t.data.toList.drop pos := by
  rw [ByteArray.data_extract, Array.toList_extract]
  simp
  exact List.take_of_length_le (by simp [List.length_drop])

/-- a text begins with the character fffd -/
def markB (t : ByteArray) : Bool := decide (t.data.toList.take 3 = [239, 191, 189])

set_option maxRecDepth 100000 in
set_option maxHeartbeats 400000 in
theorem lite_mark (t : ByteArray) (ht : t.size ≤ 281474976702464) (w : World) : Calls Try.prog 40 #[.string t, .string ⟨#[239, 191, 189]⟩] w fun e w' => e = .returned (.bool (markB t)) ∧ w' = w := by
  by_cases h3 : t.size < 3
  · have h3' : ¬ (3 : Int) ≤ (t.size : Int) := by omega
    have HM : Hid (markB t = false) := by
      show decide _ = false
      rw [decide_eq_false_iff_not]
      intro hc
      have := congrArg List.length hc
      rw [List.length_take, Array.length_toList] at this
      have h4 : t.data.size = t.size := rfl
      simp at this
      omega
    go_enter Try.func40, Try.ntmps40
    go_wp2
    go_ret
    exact ⟨by rw [HM.out]; rfl, rfl⟩
  · have h3' : (3 : Int) ≤ (t.size : Int) := by omega
    have h3n : 3 ≤ t.size := by omega
    obtain ⟨r, hr⟩ : ∃ r, ((t.extract 0 3).toList == [239, 191, 189]) = r := ⟨_, rfl⟩
    have HM : Hid (markB t = r) := by
      show decide _ = r
      rw [← hr, ext0]
      rw [Bool.eq_iff_iff]
      simp
    go_enter Try.func40, Try.ntmps40
    go_wp2
    go_ret
    exact ⟨by rw [HM.out]; rfl, rfl⟩

set_option maxHeartbeats 400000 in
theorem has_mark (t : ByteArray) (ht : t.size ≤ 281474976702464) (w : World) : Calls Try.prog 32 #[.string t, .string ⟨#[239, 191, 189]⟩] w fun e w' => e = .returned (.bool (markB t)) ∧ w' = w := by
  have HC := Lib.hid (lite_mark t ht w)
  go_enter Try.func32, Try.ntmps32
  go_wp2_with fail
  refine HC.out.mono ?_
  rintro e w1 ⟨rfl, hw1⟩
  rw [hw1]
  clear hw1 w1
  go_wp2
  go_ret
  exact ⟨rfl, rfl⟩

set_option maxRecDepth 100000 in
set_option maxHeartbeats 1000000 in
theorem utfK (t : ByteArray) (ht : t.size ≤ 281474976702464) (w : World) : Calls Try.prog 21 #[.string t] w fun e w' => e = .returned (.bool (utfT t)) ∧ Below w.heap.size w w' := by
  obtain ⟨L, hL⟩ : ∃ L, L = t.data.toList := ⟨_, rfl⟩
  have HR : Hid (utfT t = U8.utf L) := by show _ = _; rw [hL]; rfl
  have HL := Lib.hid hL
  have HIt : Hid (∀ k pos, ((w.drewN k).iter t pos).iterPos w.heap.size = pos) := fun k pos => World.iterPos_iter (w.drewN k) t pos
  have HBl : Hid (∀ k pos, Below w.heap.size w ((w.drewN k).iter t pos)) := fun k pos => (below_drewN (Below.refl _ _) k).alloc (Nat.le_refl _) _
  clear hL
  have HSz : Hid (t.size = L.length) := by show _ = _; rw [HL.out, Array.length_toList]; rfl
  have HHas : Hid (∀ pos w', pos ≤ t.size → Calls Try.prog 32 #[.string (t.extract pos t.size), .string ⟨#[239, 191, 189]⟩] w' fun e w'' => e = .returned (.bool (decide ((L.drop pos).take 3 = [239, 191, 189]))) ∧ w'' = w') := by
    intro pos w' hp
    have h := has_mark (t.extract pos t.size) (by rw [ByteArray.size_extract]; omega) w'
    unfold markB at h
    rw [extPos, ← HL.out] at h
    exact h
  go_enter Try.func21, Try.ntmps21
  go_wp2
  go_loopw [3, 4] (fun _ _ wr => ∃ pos k : Nat, pos ≤ t.size ∧ wr = (w.drewN k).iter t pos ∧ Hid (U8.utf L = U8.utf (L.drop pos))) (fun _ _ wr => t.size - wr.iterPos w.heap.size)
  case atStart => exact ⟨0, 0, by omega, rfl, by show _ = _; rw [List.drop_zero]⟩
  case round =>
    obtain ⟨pos, k, hp, rfl, HU⟩ := hrel
    by_cases hlt : pos < t.size
    · have hnx : ∀ ty, (Instr.next (.pointer (some ⟨w.heap.size, 0, none⟩)) true ty).run Try.prog ((w.drewN k).iter t pos) = .ok (.tuple #[.bool true, .int .i64 pos, .int .i32 (Utf8.decode t pos).1]) ((w.drewN k).iter t (pos + (Utf8.decode t pos).2)) := fun ty => run_next_any (P := Try.prog) (w.drewN k) t pos ty hlt
      obtain ⟨l, hl⟩ : ∃ l, l = L.drop pos := ⟨_, rfl⟩
      have hdl : t.data.toList.drop pos = l := by rw [hl, HL.out]
      have hlen : l.length = t.size - pos := by rw [hl, List.length_drop, HSz.out]
      obtain ⟨m, hm⟩ : ∃ m, m = decide (l.take 3 = [239, 191, 189]) := ⟨_, rfl⟩
      have HC : Hid (∀ w', Calls Try.prog 32 #[.string (t.extract pos t.size), .string ⟨#[239, 191, 189]⟩] w' fun e w'' => e = .returned (.bool m) ∧ w'' = w') := by
        intro w'
        rw [hm, hl]
        exact HHas.out pos w' hp
      cases ho : U8.one l with
      | none =>
        have hd : Utf8.decode t pos = (65533, 1) := (decode_dec hdl hlt).trans (dec_bad ho)
        rw [hd] at hnx
        have HF : Hid (U8.utf L = false) := by show _ = _; rw [HU.out, ← hl]; exact U8.utf_bad (fun hc => by rw [hc] at hlen; simp at hlen; omega) ho
        have hm0 : m = false := by
          rw [hm, decide_eq_false_iff_not]
          intro hc
          rw [one_mark hc] at ho
          cases ho
        subst hm0
        clear hd hl hdl ho HU hm
        go_wp2_with fail
        refine (HC.out _).mono ?_
        rintro e w1 ⟨rfl, hw1⟩
        rw [hw1]
        clear hw1 w1
        go_wp2
        go_ret
        exact ⟨by rw [HR.out, HF.out]; rfl, HBl.out _ _⟩
      | some n =>
        obtain ⟨cc, hcc⟩ : ∃ cc, cc = (dec l).1 := ⟨_, rfl⟩
        obtain ⟨hg1, hg2, hg3⟩ := dec_good ho
        have hd : Utf8.decode t pos = (cc, n) := by rw [decode_dec hdl hlt, hcc, ← hg1]
        rw [hd] at hnx
        have hn := U8.one_len ho
        have HN : Hid (U8.utf L = U8.utf (L.drop (pos + n))) := by show _ = _; rw [HU.out, ← hl, U8.utf_step ho, hl, List.drop_drop]
        rw [← hcc] at hg2
        by_cases hmc : cc = 65533
        · have hm0 : m = true := by rw [hm, decide_eq_true_eq]; exact (hg2 hmc).2
          have hn3 := (hg2 hmc).1
          subst hmc hn3 hm0
          clear hd hl hdl ho HU hcc hg1 hg2 hg3 hm
          go_wp2_with fail
          refine (HC.out _).mono ?_
          rintro e w1 ⟨rfl, hw1⟩
          rw [hw1]
          clear hw1 w1
          go_wp2
          go_roundw
          case rel => exact ⟨pos + 3, k, by omega, rfl, HN⟩
          case measure => rw [HIt.out, HIt.out]; omega
        · have hx : ((cc : Int) == 65533) = false := by simp; omega
          clear hd hl hdl ho HU hcc hg1 hg2 hm
          go_wp2
          go_roundw
          case rel => exact ⟨pos + n, k, by omega, rfl, HN⟩
          case measure => rw [HIt.out, HIt.out]; omega
    · have hnx : ∀ ty, (Instr.next (.pointer (some ⟨w.heap.size, 0, none⟩)) true ty).run Try.prog ((w.drewN k).iter t pos) = .ok (.tuple #[.bool false]) ((w.drewN k).iter t pos) := fun ty => run_next_end (P := Try.prog) (w.drewN k) t pos ty hlt
      have HT : Hid (U8.utf L = true) := by show _ = _; rw [HU.out, List.drop_eq_nil_of_le (by have := HSz.out; omega)]; rfl
      clear HU
      go_wp2
      go_ret
      exact ⟨by rw [HR.out, HT.out]; rfl, HBl.out _ _⟩
end Go.Proofs.Ytooklmgkkkbfdaa
