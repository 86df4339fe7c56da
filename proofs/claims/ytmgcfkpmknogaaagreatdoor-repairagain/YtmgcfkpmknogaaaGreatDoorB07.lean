/- WTypeR, WNameR, WFindR, WIsR, K7Pl, LebC, ValueC: put together. -/
import Derived.Test.YtmgcfkpmknogaaaGreatDoorB04
import Derived.Test.YtmgcfkpmknogaaaGreatDoorB06
import Derived.Test.YtmgcfkpmknogaaaGreatDoorB05

/- The document's typeAt, CheckType. -/
namespace Go.Proofs.YtmgcfkpmknogaaaGreatDoor
open Go.RowKit

end Go.Proofs.YtmgcfkpmknogaaaGreatDoor

/- The document's Name. -/
namespace Go.Proofs.YtmgcfkpmknogaaaGreatDoor
open Go.RowKit

theorem headD_get {l : List UInt8} (h : 0 < l.length) : l.headD 0 = l[0] := by
  cases l with
  | nil => simp at h
  | cons a r => rfl
theorem name_short {t : ByteArray} (h : t.size < 1 ∨ 16 < t.size) : Sch.name t = false := by
  have hs : t.data.toList.length = t.size := by rw [Array.length_toList]; rfl
  unfold Sch.name Sch.nameL
  rw [decide_eq_false (by omega)]
  rfl
theorem name_head {t : ByteArray} (h : 0 < t.size) (hc : Sch.low t[0] = false) : Sch.name t = false := by
  have hs : t.data.toList.length = t.size := by rw [Array.length_toList]; rfl
  unfold Sch.name Sch.nameL
  have e : t.data.toList.headD 0 = t[0] := by
    rw [← text_get t 0 h]
    exact headD_get (by omega)
  rw [e, hc, Bool.and_false, Bool.false_and]
theorem name_bad {t : ByteArray} (j : Nat) (h : j < t.size) (hc : Sch.ch t[j] = false) : Sch.name t = false := by
  have hs : t.data.toList.length = t.size := by rw [Array.length_toList]; rfl
  unfold Sch.name Sch.nameL
  have : t.data.toList.all Sch.ch = false := by
    rw [List.all_eq_false]
    refine ⟨t[j], ?_, by simp [hc]⟩
    rw [← text_get t j h]
    exact List.getElem_mem _
  rw [this, Bool.and_false]
theorem name_good {t : ByteArray} (h1 : 1 ≤ t.size) (h2 : t.size ≤ 16) (h3 : Sch.low (t[0]'(by omega)) = true) (h4 : ∀ j (h : j < t.size), Sch.ch t[j] = true) : Sch.name t = true := by
  have hs : t.data.toList.length = t.size := by rw [Array.length_toList]; rfl
  unfold Sch.name Sch.nameL
  have e : t.data.toList.headD 0 = t[0]'(by omega) := by
    rw [← text_get t 0 (by omega)]
    exact headD_get (by omega)
  have : t.data.toList.all Sch.ch = true := by
    rw [List.all_eq_true]
    intro x hx
    obtain ⟨j, hj, rfl⟩ := List.getElem_of_mem hx
    rw [text_get t j (by omega)]
    exact h4 j (by omega)
  rw [e, h3, this, decide_eq_true (by omega)]
  rfl

end Go.Proofs.YtmgcfkpmknogaaaGreatDoor

/- The document's Find. -/
namespace Go.Proofs.YtmgcfkpmknogaaaGreatDoor
open Go.RowKit

end Go.Proofs.YtmgcfkpmknogaaaGreatDoor

/- The document's of, Is. -/
namespace Go.Proofs.YtmgcfkpmknogaaaGreatDoor
open Go.RowKit

end Go.Proofs.YtmgcfkpmknogaaaGreatDoor

/- Plain: when two schemas are the same, column by column. -/
namespace Go.Proofs.YtmgcfkpmknogaaaGreatDoor

theorem sameS_ne : ∀ (s t : List Col), s.length ≠ t.length → Sch.same s t = false
  | [], [], h => absurd rfl h
  | [], _ :: _, _ => rfl
  | _ :: _, [], _ => rfl
  | c :: s, d :: t, h => by rw [Sch.same, sameS_ne s t (by simpa using h), Bool.and_false]
theorem sameS_at : ∀ (s t : List Col) (j : Nat) (h1 : j < s.length) (h2 : j < t.length), Sch.colSame s[j] t[j] = false → Sch.same s t = false
  | c :: s, d :: t, 0, _, _, h => by rw [Sch.same]; simp at h; rw [h, Bool.false_and]
  | c :: s, d :: t, j + 1, h1, h2, h => by rw [Sch.same, sameS_at s t j (by simpa using h1) (by simpa using h2) (by simpa using h), Bool.and_false]
theorem sameS_all : ∀ (s t : List Col), s.length = t.length → (∀ j (h1 : j < s.length) (h2 : j < t.length), Sch.colSame s[j] t[j] = true) → Sch.same s t = true
  | [], [], _, _ => rfl
  | [], _ :: _, h, _ => by simp at h
  | _ :: _, [], h, _ => by simp at h
  | c :: s, d :: t, h, ha => by
    rw [Sch.same, sameS_all s t (by simpa using h) (fun j h1 h2 => by have := ha (j + 1) (by simpa using h1) (by simpa using h2); simpa using this)]
    have := ha 0 (by simp) (by simp)
    simp at this
    rw [this]; rfl

end Go.Proofs.YtmgcfkpmknogaaaGreatDoor

/- In this stage nothing is asked of package leb by the laws themselves: the plain facts on its numbers come from here. -/

/- In this stage nothing is asked of package value by the laws themselves. -/
