/- DevFails at any arguments. -/
import Derived.Test.YtoibeajcepbpjaaLDFail2
namespace Go.Proofs.Ytoibeajcepbpjaa
open Go.RowKit

section
variable {I : Nat → World → Prop} {Rep : DRep}

theorem devFails_any (K : DevOk I Rep) (p q : Option Addr) (c d : Nat) (F T : List UInt8) (hFc : F.length ≤ c) (hTd : T.length ≤ d) (x y : Int) (hx1 : -9223372036854775808 ≤ x) (hx2 : x ≤ 9223372036854775807) (hy1 : -9223372036854775808 ≤ y) (hy2 : y ≤ 9223372036854775807) (w : World) (hA : At w p F) (hB : At w q T) (hI : I w.heap.size w) :
    Calls Try.prog 6 #[.agg #[.slice p F.length c, .slice q T.length d, .int .i64 x, .int .i64 y]] w fun e w' => e = .returned (.bool true) ∧ Below w.heap.size w w' := by
  have hp : F ≠ [] → ∀ b o, p = some ⟨b, o, none⟩ → b < w.heap.size := fun hne b o he => at_low hA hne b o he
  have hq : T ≠ [] → ∀ b o, q = some ⟨b, o, none⟩ → b < w.heap.size := fun hne b o he => at_low hB hne b o he
  by_cases hl : 1000 < F.length ∨ 1000 < T.length
  · exact fails_long K p q c d F.length T.length x y hl w hI
  · have hF : F.length ≤ 1000 := by omega
    have hT : T.length ≤ 1000 := by omega
    by_cases h1 : x < 0
    · exact fails_neg1 K p q c d F T hF hT hFc hTd x y h1 hx1 hx2 hy1 hy2 w hA hB hp hq hI
    · by_cases h2 : y < 0
      · exact fails_neg2 K p q c d F T hF hT hFc hTd x y (by omega) h2 hx1 hx2 hy1 hy2 w hA hB hp hq hI
      · obtain ⟨m, rfl⟩ : ∃ m : Nat, x = (m : Int) := ⟨x.toNat, by omega⟩
        obtain ⟨k, rfl⟩ : ∃ k : Nat, y = (k : Int) := ⟨y.toNat, by omega⟩
        by_cases h3 : m < T.length
        · by_cases h4 : k < m
          · exact fails_dn1 K p q c d F T hF hT hFc hTd m k (by omega) (by omega) h3 h4 w hA hB hp hq hI
          · exact fails_dn2 K p q c d F T hF hT hFc hTd m k (by omega) (by omega) h3 h4 w hA hB hp hq hI
        · exact fails_up K p q c d F T hF hT hFc hTd m k (by omega) (by omega) h3 w hA hB hp hq hI
end
end Go.Proofs.Ytoibeajcepbpjaa
