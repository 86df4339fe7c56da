import Derived.Test.YtllbniljgcgbeaaGreatDoorB02
import Derived.Test.YtllbniljgcgbeaaGreatDoorB04
import Derived.Test.YtllbniljgcgbeaaGreatDoorB03
namespace Go.Proofs.YtllbniljgcgbeaaGreatDoor
open Go.RowKit
end Go.Proofs.YtllbniljgcgbeaaGreatDoor
namespace Go.Proofs.YtllbniljgcgbeaaGreatDoor
open Go.RowKit
theorem headD_get {l:List UInt8} (h:0 < l.length):l.headD 0 = l[0]:=by
 cases l with
 | nil => simp at h
 | cons a r => rfl
theorem name_short {t:ByteArray} (h:t.size < 1 ∨ 16 < t.size):Sch.name t = false:=by
 have hs:t.data.toList.length = t.size:=by rw [Array.length_toList];rfl
 unfold Sch.name Sch.nameL
 rw [decide_eq_false (by omega)]
 rfl
theorem name_head {t:ByteArray} (h:0 < t.size) (hc:Sch.low t[0] = false):Sch.name t = false:=by
 have hs:t.data.toList.length = t.size:=by rw [Array.length_toList];rfl
 unfold Sch.name Sch.nameL
 have e:t.data.toList.headD 0 = t[0]:=by
  rw [← text_get t 0 h]
  exact headD_get (by omega)
 rw [e,hc,Bool.and_false,Bool.false_and]
theorem name_bad {t:ByteArray} (j:Nat) (h:j < t.size) (hc:Sch.ch t[j] = false):Sch.name t = false:=by
 have hs:t.data.toList.length = t.size:=by rw [Array.length_toList];rfl
 unfold Sch.name Sch.nameL
 have:t.data.toList.all Sch.ch = false:=by
  rw [List.all_eq_false]
  refine ⟨t[j],?_,by simp [hc]⟩
  rw [← text_get t j h]
  exact List.getElem_mem _
 rw [this,Bool.and_false]
theorem name_good {t:ByteArray} (h1:1 ≤ t.size) (h2:t.size ≤ 16) (h3:Sch.low (t[0]'(by omega)) = true) (h4:∀ j (h:j < t.size),Sch.ch t[j] = true):Sch.name t = true:=by
 have hs:t.data.toList.length = t.size:=by rw [Array.length_toList];rfl
 unfold Sch.name Sch.nameL
 have e:t.data.toList.headD 0 = t[0]'(by omega):=by
  rw [← text_get t 0 (by omega)]
  exact headD_get (by omega)
 have:t.data.toList.all Sch.ch = true:=by
  rw [List.all_eq_true]
  intro x hx
  obtain ⟨j,hj,rfl⟩:=List.getElem_of_mem hx
  rw [text_get t j (by omega)]
  exact h4 j (by omega)
 rw [e,h3,this,decide_eq_true (by omega)]
 rfl
end Go.Proofs.YtllbniljgcgbeaaGreatDoor
namespace Go.Proofs.YtllbniljgcgbeaaGreatDoor
open Go.RowKit
end Go.Proofs.YtllbniljgcgbeaaGreatDoor
namespace Go.Proofs.YtllbniljgcgbeaaGreatDoor
open Go.RowKit
end Go.Proofs.YtllbniljgcgbeaaGreatDoor
namespace Go.Proofs.YtllbniljgcgbeaaGreatDoor
end Go.Proofs.YtllbniljgcgbeaaGreatDoor
namespace Go.Proofs.YtllbniljgcgbeaaGreatDoor
open Go.RowKit
end Go.Proofs.YtllbniljgcgbeaaGreatDoor
