/- What the laws ask of package value's functions; live() over that alone. -/
import Derived.Test.YtooklmgkkkbfdaaWCheckR
import Derived.Test.YtooklmgkkkbfdaaWSpoil
namespace Go.Proofs.Ytooklmgkkkbfdaa
open Go.RowKit

/-- what package value's functions answer, in every world of which I holds -/
structure ValueOk (I : World → Prop) : Prop where
  on : ∀ {w w' : World}, I w → Below w.heap.size w w' → I w'
  check : ∀ (x : V) (u : Array Value) (w : World), VLies w u x → I w → Calls Try.prog 9 #[.agg u] w fun e w' => e = .returned (.int .i64 (chk 1 x : Nat)) ∧ Below w.heap.size w w'
  fix : ∀ (x : V) (u : Array Value) (w : World), VLies w u x → I w → Calls Try.prog 14 #[.agg u] w (Fresh w (V.fix x))
  same : ∀ (x y : V) (u v : Array Value) (w : World), VLies w u x → VLies w v y → I w → Calls Try.prog 17 #[.agg u, .agg v] w fun e w' => e = .returned (.bool (V.same x y)) ∧ Below w.heap.size w w'
  utf : ∀ (t : ByteArray) (w : World), t.size ≤ 281474976702464 → I w → Calls Try.prog 21 #[.string t] w fun e w' => e = .returned (.bool (utfT t)) ∧ Below w.heap.size w w'

/-- and its SameRow -/
def RowOk (I : World → Prop) : Prop := ∀ (xs ys : List V) (p q : Option Addr) (c d : Nat) (w : World), Items w p xs → Items w q ys → xs.length * 64 ≤ 140737488351232 → ys.length * 64 ≤ 140737488351232 → xs.length ≤ c → ys.length ≤ d → I w →
  Calls Try.prog 19 #[.agg #[.slice p xs.length c], .agg #[.slice q ys.length d]] w fun e w' => e = .returned (.bool (V.sameL xs ys)) ∧ Below w.heap.size w w'

theorem vlies_leaf (w : World) (k i : Int) (b : Nat) (t : ByteArray) (p : Option Addr) (c : Nat) : VLies w (cells5 k i b t p 0 c) (.mk k i b t []) :=
  .mk (xs := []) (fun _ => #[]) (by simp) (by simp) (fun hc => absurd rfl hc) (fun j hj => by simp at hj)
theorem vlies_one {w : World} {g : Nat} {u : Array Value} {T : TypeId} {x : V} (hg : w.heap[g]? = some (.cells u T (0, 0))) (hx : VLies w u x) (k i : Int) (b : Nat) (t : ByteArray) : VLies w (cells5 k i b t (some ⟨g, 0, none⟩) 1 1) (.mk k i b t [x]) := by
  refine .mk (xs := [x]) (fun _ => u) (by simp) (by simp) (fun _ => ⟨g, 0, rfl, blk_lt hg, fun j hj m hm => ?_⟩) (fun j hj => ?_)
  · have hj0 : j = 0 := by simp at hj; omega
    subst hj0
    rw [blk_cell hg]
    simp
  · have hj0 : j = 0 := by simp at hj; omega
    subst hj0
    exact hx
theorem VOwn.cells {w : World} {F : Nat → Prop} {u : Array Value} {k i : Int} {b : Nat} {t : ByteArray} {xs : List V} (h : VOwn w F u (.mk k i b t xs)) : ∃ p c, u = cells5 k i b t p xs.length c := by
  obtain ⟨p, c, h1, _⟩ := h.lies.open
  exact ⟨p, c, h1⟩

def lv : V := .mk 3 0 9221120237041090561 ⟨#[]⟩ []
def ll : V := .mk 7 0 0 ⟨#[]⟩ [lv]
theorem lv_chk : chk 2 lv = 0 := by unfold lv; rw [chk_mk]; kernel_rfl
theorem ll_chk : chk 1 ll = 0 := by
  have h : chkL 2 [lv] = 0 := chkL_all 2 [lv] (fun j hj => by
    have h0 : j = 0 := by simp at hj; omega
    subst h0
    exact lv_chk)
  unfold ll
  rw [chk_mk]
  have h2 : V.ownB 7 0 0 ⟨#[]⟩ [lv].length = true := by kernel_rfl
  rw [if_neg (by decide), if_neg (by rw [h2]; decide), if_neg (by decide), if_neg (by simp), if_neg (by simp), h]
theorem k8_chk : chk 1 (.mk 8 0 0 ⟨#[]⟩ []) = 60 := by rw [chk_mk]; kernel_rfl
theorem ll_fix : V.fix ll = .mk 7 0 0 ⟨#[]⟩ [V.fix lv] := by unfold ll; rw [V.fix_mk]; kernel_rfl
theorem lv_fixed : V.same lv (V.fix lv) = true := by unfold lv; rw [V.fix_mk, V.fixL_eq, V.same_mk]; kernel_rfl
theorem ll_same : V.same ll (V.fix ll) = true := by
  rw [ll_fix]
  unfold ll
  rw [V.same_mk, V.sameL_cons, lv_fixed, V.sameL_nil]
  kernel_rfl
theorem lv_same : V.same lv (.mk 3 0 0 ⟨#[]⟩ []) = false := by unfold lv; rw [V.same_mk]; kernel_rfl
theorem utf_a : utfT ⟨#[97]⟩ = true := by kernel_rfl
theorem utf_ff : utfT ⟨#[255]⟩ = false := by kernel_rfl

attribute [local go_sem] run_frombits
set_option maxHeartbeats 400000 in
theorem nan_any (w : World) : Calls Try.prog 25 #[] w fun e w' => e = .returned (.float .f64 9221120237041090561) ∧ w' = w := by
  go_enter Try.func25, Try.ntmps25
  go_wp2
  go_ret
  exact ⟨rfl, rfl⟩
end Go.Proofs.Ytooklmgkkkbfdaa
