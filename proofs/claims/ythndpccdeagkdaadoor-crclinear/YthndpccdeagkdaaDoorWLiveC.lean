/- live(): the checks that the document fixes. -/
import Derived.Test.YthndpccdeagkdaaDoorWCrc
import Derived.Lib.SlBytesConst
namespace Go.Proofs.YthndpccdeagkdaaDoor
open Go.RowKit

theorem Hv.on {w w' : World} (h : Hv w) (hb : Below w.heap.size w w') : Hv w' := fun n hn => by
  have h1 := h n hn
  rw [hb.cell (p := ⟨0, n, none⟩) (World.block_lt_of_cell? _ _ h1)]
  exact h1
theorem Hv.drewN {w : World} (h : Hv w) (n : Nat) : Hv (w.drewN n) := fun k hk => h k hk

def nine : List UInt8 := [49, 50, 51, 52, 53, 54, 55, 56, 57]
theorem sum_nine : Crc.sum nine = 3421780262 := by kernel_rfl
theorem sum_four : Crc.sum (nine.take 4) = 2615402659 := by kernel_rfl
theorem up_five : Crc.update 2615402659 (nine.drop 4) = 3421780262 := by kernel_rfl

def block9 : Obj := .cells #[.int .u8 49, .int .u8 50, .int .u8 51, .int .u8 52, .int .u8 53, .int .u8 54, .int .u8 55, .int .u8 56, .int .u8 57] 5 (9, 10)
theorem cells9 (w : World) : Cells (w.alloc block9) w.heap.size 0 nine := fun j hj => by
  have h9 : j < 9 := hj
  rw [Nat.zero_add]
  have e : (w.alloc block9).heap[w.heap.size]? = some block9 := by
    show (w.heap.push block9)[w.heap.size]? = _
    simp
  unfold World.cell?
  rw [e]
  rcases j with _ | _ | _ | _ | _ | _ | _ | _ | _ | j
  all_goals first | rfl | omega

theorem at9 (w : World) (n : Nat) : At ((w.alloc block9).drewN n) (some ⟨w.heap.size, 0, none⟩) nine :=
  At.drewN (.inr ⟨_, _, rfl, by simp, cells9 w⟩) n
theorem at4 (w : World) (n : Nat) : At ((w.alloc block9).drewN n) (some ⟨w.heap.size, 0, none⟩) (nine.take 4) :=
  At.drewN (.inr ⟨_, _, rfl, by simp, fun j hj => by
    have hj4 : j < 4 := hj
    have := cells9 w j (show j < 9 by omega)
    rw [this]
    rcases j with _ | _ | _ | _ | j
    all_goals first | rfl | omega⟩) n
theorem at5 (w : World) (n : Nat) : At ((w.alloc block9).drewN n) (some ⟨w.heap.size, 4, none⟩) (nine.drop 4) :=
  At.drewN (.inr ⟨_, _, rfl, by simp, fun j hj => by
    have hj5 : j < 5 := hj
    have := cells9 w (4 + j) (show 4 + j < 9 by omega)
    rw [Nat.zero_add] at this
    rw [this]
    rcases j with _ | _ | _ | _ | _ | j
    all_goals first | rfl | omega⟩) n

theorem hv9 {w : World} (h : Hv w) (n : Nat) : Hv ((w.alloc block9).drewN n) := (h.on ((Below.refl _ _).alloc (Nat.le_refl _) _)).drewN n

theorem live_sum9 {w : World} (h : Hv w) (n : Nat) : Calls Tryd.prog 10 #[.slice (some ⟨w.heap.size, 0, none⟩) 9 9] ((w.alloc block9).drewN n) fun e w' => e = .returned (.int .u32 3421780262) ∧ w' = (w.alloc block9).drewN n := by
  refine (sum_any _ 9 nine (by decide) _ (hv9 h n) (at9 w n)).mono ?_
  rintro e w' ⟨rfl, rfl⟩
  rw [sum_nine]
  exact ⟨rfl, rfl⟩
theorem live_slow9 (w : World) (n : Nat) : Calls Tryd.prog 11 #[.slice (some ⟨w.heap.size, 0, none⟩) 9 9] ((w.alloc block9).drewN n) fun e w' => e = .returned (.int .u32 3421780262) ∧ w' = (w.alloc block9).drewN n := by
  refine (slow_any _ 9 nine (by decide) _ (at9 w n)).mono ?_
  rintro e w' ⟨rfl, rfl⟩
  rw [sum_nine]
  exact ⟨rfl, rfl⟩
theorem live_sum4 {w : World} (h : Hv w) (n : Nat) : Calls Tryd.prog 10 #[.slice (some ⟨w.heap.size, 0, none⟩) 4 9] ((w.alloc block9).drewN n) fun e w' => e = .returned (.int .u32 2615402659) ∧ w' = (w.alloc block9).drewN n := by
  refine (sum_any _ 9 (nine.take 4) (by decide) _ (hv9 h n) (at4 w n)).mono ?_
  rintro e w' ⟨rfl, rfl⟩
  rw [sum_four]
  exact ⟨rfl, rfl⟩
theorem live_up5 {w : World} (h : Hv w) (n : Nat) : Calls Tryd.prog 12 #[.int .u32 2615402659, .slice (some ⟨w.heap.size, 4, none⟩) 5 5] ((w.alloc block9).drewN n) fun e w' => e = .returned (.int .u32 3421780262) ∧ w' = (w.alloc block9).drewN n := by
  refine (update_any 2615402659 (by decide) _ 5 (nine.drop 4) (by decide) _ (hv9 h n) (at5 w n)).mono ?_
  rintro e w' ⟨rfl, rfl⟩
  rw [up_five]
  exact ⟨rfl, rfl⟩

set_option maxHeartbeats 1000000 in
theorem live_any (w : World) (ht : Hv w) :
    Calls Tryd.prog 9 #[] w fun e w' => e = .returned (.bool true) ∧ Below w.heap.size w w' := by
  have HT := Lib.hid ht
  clear ht
  have HB : Hid (Below w.heap.size w (w.alloc block9)) := (Below.refl _ _).alloc (Nat.le_refl _) _
  have kc := fun (w : World) (C : Array Value) (n c : Nat) => Lib.run_convert_bytes_const (P := Tryd.prog) w 25 5 C n c Tryd.underlying25 Tryd.underlying5
  go_enter Tryd.func9, Tryd.ntmps9
  go_wp2
  go_quiet (first
    | (go_at_call 10; exact Calls.quiet_of_same (live_sum9 HT.out _))
    | (go_at_call 10; exact Calls.quiet_of_same (live_sum4 HT.out _))
    | (go_at_call 11; exact Calls.quiet_of_same (live_slow9 w _))
    | (go_at_call 12; exact Calls.quiet_of_same (live_up5 HT.out _)))
  go_wp2
  go_ret
  exact ⟨rfl, below_drewN HB.out _⟩
end Go.Proofs.YthndpccdeagkdaaDoor
