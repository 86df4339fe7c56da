/- The document's at(v, depth), Check. -/
import Derived.Test.YtooklmgkkkbfdabWOwnR
import Derived.Test.YtooklmgkkkbfdabWUtfR
namespace Go.Proofs.Ytooklmgkkkbfdab
open Go.RowKit

/-- a text is right -/
def utfT (t : ByteArray) : Bool := U8.utf t.data.toList
/-- P6.1, at a depth -/
def chk (d : Nat) (x : V) : Nat := V.check utfT d x
def chkL (d : Nat) (xs : List V) : Nat := V.checkL utfT d xs

theorem chk_mk (d : Nat) (k i : Int) (b : Nat) (t : ByteArray) (xs : List V) : chk d (.mk k i b t xs) = if 4 < d then 62 else if V.ownB k i b t xs.length = false then 60 else if 1024 < t.size then 2 else if 256 < xs.length then 3 else if k = 4 ∧ utfT t = false then 61 else chkL (d + 1) xs := by
  unfold chk chkL
  rw [V.check_mk]
  rfl
theorem chkL_all (d : Nat) : ∀ xs : List V, (∀ j (h : j < xs.length), chk d xs[j] = 0) → chkL d xs = 0
  | [], _ => by unfold chkL; rw [V.checkL_nil]
  | x :: r, h => by
    have h0 := h 0 (by simp)
    have hr := chkL_all d r (fun j hj => h (j + 1) (by simpa using hj))
    unfold chk at h0
    unfold chkL at hr ⊢
    simp only [List.getElem_cons_zero] at h0
    rw [V.checkL_cons, if_pos h0, hr]
theorem chkL_at (d : Nat) : ∀ (xs : List V) (j : Nat) (hj : j < xs.length), (∀ m (h : m < xs.length), m < j → chk d xs[m] = 0) → chk d xs[j] ≠ 0 → chkL d xs = chk d xs[j]
  | x :: r, 0, _, _, hn => by
    unfold chk at hn
    unfold chkL chk
    simp only [List.getElem_cons_zero] at hn ⊢
    rw [V.checkL_cons, if_neg hn]
  | x :: r, j + 1, hj, h, hn => by
    have h0 := h 0 (by simp) (by omega)
    have hr := chkL_at d r j (by simpa using hj) (fun m hm hmj => by have := h (m + 1) (by simpa using hm) (by omega); simpa using this) (by simpa using hn)
    unfold chk at h0
    unfold chkL at hr ⊢
    simp only [List.getElem_cons_zero] at h0
    rw [V.checkL_cons, if_pos h0, hr]
    rfl

end Go.Proofs.Ytooklmgkkkbfdab
