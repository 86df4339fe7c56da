/- The walk of package stuff's Len: what each group takes is told to a closure that counts. -/
import Derived.Test.YtecophlkbomlmaaWTake
import Derived.Test.YtecophlkbomlmaaVar
namespace Go.Proofs.Ytecophlkbomlmaa
open Go.RowKit

/-- the closure's count stands in block B, which is the call's own -/
def LenI (w : World) (xs : List UInt8) (w' : World) : Prop := Below w.heap.size w w' ∧ w'.heap[w.heap.size]? = some (.cells #[.int .i64 xs.length] 3 (0, 0))

set_option maxHeartbeats 1000000 in
theorem len_tell (w : World) (xs t : List UInt8) (q : Option Addr) (k : Nat) (w' : World) (h : LenI w xs w') (hb : xs.length + 1 + t.length ≤ 150000000000000) :
    Calls Try.prog 15 #[.slice q t.length k, .pointer (some ⟨w.heap.size, 0, none⟩)] w' fun e w'' => e = .returned (.tuple #[]) ∧ LenI w (xs ++ [UInt8.ofNat (t.length + 1)] ++ t) w'' := by
  have hc := one_cell h.2
  have hf := one_free h.2
  have H := Lib.hid h
  clear h
  go_enter Try.func15, Try.ntmps15
  go_wp2
  go_end0
  refine ⟨rfl, H.out.1.setCell (Nat.le_refl _) _, ?_⟩
  rw [one_set H.out.2]
  simp
  omega

set_option maxHeartbeats 1000000 in
theorem lenK (p : Option Addr) (c : Nat) (l : List UInt8) (w : World) (hl : l.length ≤ 140737488351232) (hlc : l.length ≤ c) (h : At w p l) :
    Calls Try.prog 8 #[.slice p l.length c] w fun e w' => e = .returned (.int .i64 ((Cob.stuff l).length : Nat)) ∧ Below w.heap.size w w' := by
  have HA := Lib.hid h
  clear h
  go_enter Try.func8, Try.ntmps8
  go_wp2_with fail
  refine (takeGroups_any 15 ⟨w.heap.size, 0, none⟩ (LenI w) p c l _ hl hlc (fun args w => enters_body Try.func15 (by kernel_rfl) rfl args w) (fun xs w' hi => HA.out.on hi.1) ?_ (fun xs q k t w' hi _ _ hb _ => len_tell w xs t q k w' hi hb)).mono ?_
  · exact ⟨(Below.refl _ _).alloc (Nat.le_refl _) _, heap_new w _⟩
  · rintro e w1 ⟨rfl, hi⟩
    have hc := one_cell hi.2
    have HB := Lib.hid hi.1
    clear hi
    go_wp2
    go_ret
    exact ⟨rfl, HB.out⟩
end Go.Proofs.Ytecophlkbomlmaa
