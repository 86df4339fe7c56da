/- The laws of stage 3 at the arguments as the rows hand them. LebK: that package leb's functions answer so. -/
import Derived.Test.YthbkmliggdpmoaaRowL
import Derived.Test.YthbkmliggdpmoaaLebK
import Derived.Test.YthbkmliggdpmoaaLLNum
import Derived.Test.YthbkmliggdpmoaaLLSigns
import Derived.Test.YthbkmliggdpmoaaLLUnlike
import Derived.Test.YthbkmliggdpmoaaLLBack
namespace Go.Proofs.Ythbkmliggdpmoaa
open Go.RowKit

theorem lebPuts_w (a b : Int) (ha : (Lit.int .u64 a).wf = true) (hb : (Lit.int .i64 b).wf = true) (w : World) (hI : LebI w) :
    Calls Try.prog 4 #[.int .u64 a, .int .i64 b] w fun e w' => e = .returned (.bool true) ∧ Below w.heap.size w w' := by
  obtain ⟨n, rfl, hn⟩ := u64_of ha
  obtain ⟨h1, h2⟩ := i64_bd hb
  exact lebPuts_any lebK n hn b h1 h2 w hI
theorem lebGets_w (p : Option Addr) (c : Nat) (l : List UInt8) (hl : l.length ≤ 140737488351232) (hlc : l.length ≤ c) (a : Int) (ha : (Lit.int .i64 a).wf = true) (w : World) (hI : LebI w) (h : At w p l) :
    Calls Try.prog 5 #[.slice p l.length c, .int .i64 a] w fun e w' => e = .returned (.bool true) ∧ Below w.heap.size w w' := by
  obtain ⟨h1, h2⟩ := i64_bd ha
  exact lebGets_any lebK p c l hl hlc a h1 h2 w hI h
theorem lebSigns_w (a b c : Int) (ha : (Lit.int .i64 a).wf = true) (hb : (Lit.int .i64 b).wf = true) (hc : (Lit.int .u64 c).wf = true) (w : World) (hI : LebI w) :
    Calls Try.prog 7 #[.int .i64 a, .int .i64 b, .int .u64 c] w fun e w' => e = .returned (.bool true) ∧ Below w.heap.size w w' := by
  obtain ⟨n, rfl, hn⟩ := u64_of hc
  obtain ⟨h1, h2⟩ := i64_bd ha
  obtain ⟨h3, h4⟩ := i64_bd hb
  exact lebSigns_any lebK a b n h1 h2 h3 h4 hn w hI
theorem lebUnlike_w (a b : Int) (ha : (Lit.int .u64 a).wf = true) (hb : (Lit.int .u64 b).wf = true) (w : World) (hI : LebI w) :
    Calls Try.prog 8 #[.int .u64 a, .int .u64 b] w fun e w' => e = .returned (.bool true) ∧ Below w.heap.size w w' := by
  obtain ⟨n, rfl, hn⟩ := u64_of ha
  obtain ⟨m, rfl, hm⟩ := u64_of hb
  exact lebUnlike_any lebK n m hn hm w hI
end Go.Proofs.Ythbkmliggdpmoaa
