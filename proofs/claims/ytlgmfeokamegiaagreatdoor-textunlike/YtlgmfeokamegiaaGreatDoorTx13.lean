/- Plain, for TextUnlike: unlike ones have unlike texts; a row of one value. -/
import Derived.Test.YtlgmfeokamegiaaGreatDoorK21X
import Derived.Test.YtlgmfeokamegiaaGreatDoorTx8
namespace Go.Proofs.YtlgmfeokamegiaaGreatDoor

theorem rowErr_one (v : V) : rowErr [v] = chk 1 v := by
  unfold rowErr
  by_cases h : chk 1 v = 0
  · rw [if_pos h, h]; rfl
  · rw [if_neg h]
theorem row_one (v : V) : Tx.row text [v] = Tx.val text v := rfl
theorem bytes_eq21 (a b : Tx.Bs) : ((⟨a.toArray⟩ : ByteArray) = ⟨b.toArray⟩) ↔ a = b := by
  constructor
  · intro h
    injection h with h
    have := congrArg Array.toList h
    simpa using this
  · intro h; rw [h]
theorem unlikeT {t u : Ty} (ht : Ty.check 1 t = 0) (hu : Ty.check 1 u = 0) : ((⟨(Tx.ty t).toArray⟩ : ByteArray) = ⟨(Tx.ty u).toArray⟩) ↔ Ty.same t u = true := by
  rw [bytes_eq21, Ty.same_iff]
  constructor
  · intro h
    have h1 := Tx.type_back ht
    rw [h, Tx.type_back hu] at h1
    injection h1 with h1
    exact h1.symm
  · intro h; rw [h]
theorem unlikeV {v w : V} (hv : chk 1 v = 0) (hw : chk 1 w = 0) (wv : v.wf) (ww : w.wf) : ((⟨(Tx.val text v).toArray⟩ : ByteArray) = ⟨(Tx.val text w).toArray⟩) ↔ V.same v w = true := by
  obtain ⟨rf, hRf⟩ := rf_ex
  rw [bytes_eq21]
  exact Tx.val_inj (rf_fok hRf) hv hw wv ww
end Go.Proofs.YtlgmfeokamegiaaGreatDoor
