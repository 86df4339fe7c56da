/- WT21A, WT21B, WT21C, WT21D, WT21E: put together. -/
import Derived.Test.YtpjcmahlnnglcaaGreatDoorTxL
import Derived.Test.YtpjcmahlnnglcaaGreatDoorB07
import Derived.Test.YtpjcmahlnnglcaaGreatDoorB16
import Derived.Test.YtpjcmahlnnglcaaGreatDoorB01
import Derived.Lib.ItoaLen

/- The document's kinds, typed. -/
namespace Go.Proofs.YtpjcmahlnnglcaaGreatDoor
open Go.RowKit

/-- the words of kinds, as they lie -/
def kindsC : Array Value := #[.string ⟨#[]⟩, .string ⟨#[98, 111, 111, 108]⟩, .string ⟨#[105, 110, 116]⟩, .string ⟨#[102, 108, 111, 97, 116]⟩, .string ⟨#[116, 101, 120, 116]⟩, .string ⟨#[98, 121, 116, 101, 115]⟩, .string ⟨#[111, 112, 116]⟩, .string ⟨#[108, 105, 115, 116]⟩]
set_option maxRecDepth 100000 in
theorem refKinds21 (w : World) : Calls Tryz.prog 61 #[] w fun e w' => e = .returned (.slice (some ⟨w.heap.size, 0, none⟩) 8 8) ∧ w' = w.alloc (.cells kindsC 9) := by
  go_enter Tryz.func61, Tryz.ntmps61
  go_wp2
  go_ret
  exact ⟨rfl, rfl⟩
theorem kinds_at {m : Nat} (h : 1 ≤ m ∧ m ≤ 7) : kindsC[m]? = some (.string ⟨(Tx.word (m : Int)).toArray⟩) := by
  have h7 : m = 1 ∨ m = 2 ∨ m = 3 ∨ m = 4 ∨ m = 5 ∨ m = 6 ∨ m = 7 := by omega
  rcases h7 with rfl | rfl | rfl | rfl | rfl | rfl | rfl <;> rfl
end Go.Proofs.YtpjcmahlnnglcaaGreatDoor

/- The document's digits. -/
namespace Go.Proofs.YtpjcmahlnnglcaaGreatDoor
open Go.RowKit

end Go.Proofs.YtpjcmahlnnglcaaGreatDoor

/- The document's quoted. -/
namespace Go.Proofs.YtpjcmahlnnglcaaGreatDoor
open Go.RowKit

end Go.Proofs.YtpjcmahlnnglcaaGreatDoor

/- The document's valued. -/
namespace Go.Proofs.YtpjcmahlnnglcaaGreatDoor
open Go.RowKit
attribute [local go_sem] run_store_float

/-- what is asked of the document's Print of floats -/
structure FltP (tx : Nat → Tx.Bs) : Prop where
  print : ∀ (x : Nat), x < 18446744073709551616 → ∀ w : World, Calls Tryz.prog 66 #[.float .f64 x] w fun e w' => e = .returned (.string ⟨(tx x).toArray⟩) ∧ Below w.heap.size w w'
  len : ∀ x, (tx x).length ≤ 100

end Go.Proofs.YtpjcmahlnnglcaaGreatDoor

/- The document's PrintType, PrintValue. -/
namespace Go.Proofs.YtpjcmahlnnglcaaGreatDoor
open Go.RowKit
attribute [local go_sem] run_store_float

end Go.Proofs.YtpjcmahlnnglcaaGreatDoor
