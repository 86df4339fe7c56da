/- The law's own plain(f), small(). -/
import Derived.Test.YtclhbhhlddbocaaGreatDoorFLies
import Derived.Test.YtclhbhhlddbocaaGreatDoorB04
import Derived.Laws.Rows
namespace Go.Proofs.YtclhbhhlddbocaaGreatDoor
open Go.RowKit

attribute [local go_sem] run_store_float

set_option maxRecDepth 100000 in
set_option maxHeartbeats 2000000 in
theorem plain_1 (n : Int) (sp : Option Addr) (sn sc : Nat) (bp : Option Addr) (bc : Nat) (ep : Option Addr) (ec : Nat) (w : World) : Calls Tryz.prog 51 #[.agg #[.int .i64 1, .int .i64 n, .slice sp sn sc, .int .i64 0, .int .i64 0, .int .i64 0, .slice bp 0 bc, .int .i64 0, .int .i64 0, .int .i64 0, .slice ep 0 ec]] w fun e w' => e = .returned (.bool true) ∧ Below w.heap.size w w' := by
  have HB : Hid (∀ o, Below w.heap.size w (w.alloc o)) := fun o => (Below.refl _ _).alloc (Nat.le_refl _) _
  go_enter Tryz.func51, Tryz.ntmps51
  go_wp2
  go_ret
  exact ⟨rfl, HB.out _⟩
set_option maxRecDepth 100000 in
set_option maxHeartbeats 2000000 in
theorem plain_2 (n q f r : Int) (sp : Option Addr) (sc : Nat) (bp : Option Addr) (bn bc : Nat) (ep : Option Addr) (ec : Nat) (w : World) : Calls Tryz.prog 51 #[.agg #[.int .i64 2, .int .i64 n, .slice sp 0 sc, .int .i64 q, .int .i64 f, .int .i64 r, .slice bp bn bc, .int .i64 0, .int .i64 0, .int .i64 0, .slice ep 0 ec]] w fun e w' => e = .returned (.bool true) ∧ Below w.heap.size w w' := by
  have HB : Hid (∀ o, Below w.heap.size w (w.alloc o)) := fun o => (Below.refl _ _).alloc (Nat.le_refl _) _
  go_enter Tryz.func51, Tryz.ntmps51
  go_wp2
  go_ret
  exact ⟨rfl, HB.out _⟩
set_option maxRecDepth 100000 in
set_option maxHeartbeats 2000000 in
theorem plain_3 (a b c : Int) (sp : Option Addr) (sc : Nat) (bp : Option Addr) (bc : Nat) (ep : Option Addr) (en ec : Nat) (w : World) : Calls Tryz.prog 51 #[.agg #[.int .i64 3, .int .i64 0, .slice sp 0 sc, .int .i64 0, .int .i64 0, .int .i64 0, .slice bp 0 bc, .int .i64 a, .int .i64 b, .int .i64 c, .slice ep en ec]] w fun e w' => e = .returned (.bool true) ∧ Below w.heap.size w w' := by
  have HB : Hid (∀ o, Below w.heap.size w (w.alloc o)) := fun o => (Below.refl _ _).alloc (Nat.le_refl _) _
  go_enter Tryz.func51, Tryz.ntmps51
  go_wp2
  go_ret
  exact ⟨rfl, HB.out _⟩

/-- nothing but what counts -/
theorem norm_parts {f : Fr} (hn : Fr.norm f = f) : (f.kind = 1 → f.seq = 0 ∧ f.first = 0 ∧ f.rows = 0 ∧ f.block = [] ∧ f.index = Idx0) ∧ (f.kind = 2 → f.cols = [] ∧ f.index = Idx0) ∧ (f.kind = 3 → f.number = 0 ∧ f.seq = 0 ∧ f.first = 0 ∧ f.rows = 0 ∧ f.block = [] ∧ f.cols = []) := by
  refine ⟨fun h => ?_, fun h => ?_, fun h => ?_⟩
  · have e := hn
    unfold Fr.norm at e
    rw [if_pos h] at e
    rw [← e]
    exact ⟨rfl, rfl, rfl, rfl, rfl⟩
  · have e := hn
    unfold Fr.norm at e
    rw [if_neg (by omega), if_pos h] at e
    rw [← e]
    exact ⟨rfl, rfl⟩
  · have e := hn
    unfold Fr.norm at e
    rw [if_neg (by omega), if_neg (by omega)] at e
    rw [← e]
    exact ⟨rfl, rfl, rfl, rfl, rfl, rfl⟩
theorem plainF (f : Fr) (hn : Fr.norm f = f) (hk : f.kind = 1 ∨ f.kind = 2 ∨ f.kind = 3) (u : Array Value) (w : World) (h : FLies w u f) : Calls Tryz.prog 51 #[.agg u] w fun e w' => e = .returned (.bool true) ∧ Below w.heap.size w w' := by
  obtain ⟨sp, sc, bp, bc, ep, ec, rfl, -⟩ := h.out
  obtain ⟨p1, p2, p3⟩ := norm_parts hn
  unfold cells11
  rcases hk with hk | hk | hk
  · obtain ⟨e1, e2, e3, e4, e5⟩ := p1 hk
    rw [hk, e1, e2, e3, e4, e5]
    exact plain_1 _ _ _ _ _ _ _ _ w
  · obtain ⟨e1, e2⟩ := p2 hk
    rw [hk, e1, e2]
    exact plain_2 _ _ _ _ _ _ _ _ _ _ _ w
  · obtain ⟨e1, e2, e3, e4, e5, e6⟩ := p3 hk
    rw [hk, e1, e2, e3, e4, e5, e6]
    exact plain_3 _ _ _ _ _ _ _ _ _ _ w

/-- the schema frame of the chapter's examples -/
def smallF : Fr := { Fr0 with kind := 1, cols := [⟨⟨#[97]⟩, ⟨2, []⟩, false, V0⟩] }
theorem small_wf : smallF.wf := by
  refine ⟨by simp [smallF, Fr.i64], by simp [smallF, Fr0, Fr.i64], ?_, by simp [smallF, Fr0, Fr.i64], by simp [smallF, Fr0, Fr.i64], by simp [smallF, Fr0, Fr.i64], by simp [smallF, Fr0, Idx0, Fr.i64], by simp [smallF, Fr0, Idx0]⟩
  intro c hc
  simp [smallF] at hc
  subst hc
  exact ⟨by decide, Ty.wf_mk.2 ⟨by omega, fun x hx => by cases hx⟩, Sch.v0_wf⟩
theorem tl_leafF (w : World) (k : Int) (p : Option Addr) (c : Nat) : TLies w (cells2 k p 0 c) (.mk k []) := .mk (xs := []) (fun _ => #[]) (by simp) (by simp) (fun hc => absurd rfl hc) (fun j hj => by simp at hj)
theorem vl_leafF (w : World) (k i : Int) (b : Nat) (t : ByteArray) (p : Option Addr) (c : Nat) : VLies w (cells5 k i b t p 0 c) (.mk k i b t []) := .mk (xs := []) (fun _ => #[]) (by simp) (by simp) (fun hc => absurd rfl hc) (fun j hj => by simp at hj)

set_option maxRecDepth 100000 in
set_option maxHeartbeats 1000000 in
theorem smallK (w : World) : Calls Tryz.prog 50 #[] w fun e w' => ∃ u, e = .returned (.agg u) ∧ FLies w' u smallF ∧ Below w.heap.size w w' := by
  obtain ⟨W, hW⟩ : ∃ W, W = (w.alloc (.cells #[.int .i64 1, .int .i64 0, .slice (some ⟨w.heap.size + 1, 0, none⟩) 1 1, .int .i64 0, .int .i64 0, .int .i64 0, .slice none 0 0, .int .i64 0, .int .i64 0, .int .i64 0, .slice none 0 0] 30)).alloc (.cells #[.string ⟨#[97]⟩, .int .i64 2, .slice none 0 0, .bool false, .int .i64 0, .int .i64 0, .float .f64 0, .string ⟨#[]⟩, .slice none 0 0] 133) := ⟨_, rfl⟩
  have h0 : W.heap[w.heap.size]? = some (.cells #[.int .i64 1, .int .i64 0, .slice (some ⟨w.heap.size + 1, 0, none⟩) 1 1, .int .i64 0, .int .i64 0, .int .i64 0, .slice none 0 0, .int .i64 0, .int .i64 0, .int .i64 0, .slice none 0 0] 30 (0, 0)) := by rw [hW, blk_old _ _ (by simp)]; exact blk_new w _
  have h1 : W.heap[w.heap.size + 1]? = some (.cells #[.string ⟨#[97]⟩, .int .i64 2, .slice none 0 0, .bool false, .int .i64 0, .int .i64 0, .float .f64 0, .string ⟨#[]⟩, .slice none 0 0] 133 (0, 0)) := by
    rw [hW]
    have := blk_new (w.alloc (.cells #[.int .i64 1, .int .i64 0, .slice (some ⟨w.heap.size + 1, 0, none⟩) 1 1, .int .i64 0, .int .i64 0, .int .i64 0, .slice none 0 0, .int .i64 0, .int .i64 0, .int .i64 0, .slice none 0 0] 30)) (.cells #[.string ⟨#[97]⟩, .int .i64 2, .slice none 0 0, .bool false, .int .i64 0, .int .i64 0, .float .f64 0, .string ⟨#[]⟩, .slice none 0 0] 133)
    simpa using this
  have HB : Hid (Below w.heap.size w W) := by rw [hW]; exact ((Below.refl _ _).alloc (Nat.le_refl _) _).alloc (by simp) _
  have h3 := blk_cell h1
  have hcols : Cols W (some ⟨w.heap.size + 1, 0, none⟩) smallF.cols := by
    intro j hj
    have hj2 : j < 1 := hj
    obtain rfl : j = 0 := by omega
    refine ⟨cells9 ⟨#[97]⟩ 2 none 0 0 false 0 0 0 ⟨#[]⟩ none 0 0, ⟨2, none, 0, 0, 0, 0, 0, ⟨#[]⟩, none, 0, 0, rfl, tl_leafF W 2 none 0, vl_leafF W 0 0 0 ⟨#[]⟩ none 0⟩, ⟨w.heap.size + 1, 0, ⟨#[97]⟩, 2, none, 0, 0, false, 0, 0, 0, ⟨#[]⟩, none, 0, 0, rfl, blk_lt h1, rfl, ?_⟩⟩
    exact ⟨h3 0, h3 1, h3 2, h3 3, h3 4, h3 5, h3 6, h3 7, h3 8⟩
  have HL : Hid (FLies W #[.int .i64 1, .int .i64 0, .slice (some ⟨w.heap.size + 1, 0, none⟩) 1 1, .int .i64 0, .int .i64 0, .int .i64 0, .slice none 0 0, .int .i64 0, .int .i64 0, .int .i64 0, .slice none 0 0] smallF) :=
    ⟨some ⟨w.heap.size + 1, 0, none⟩, 1, none, 0, none, 0, rfl, by decide, by decide, hcols, by decide, by decide, .inl rfl, by decide, by decide, ents_nil _ _⟩
  have H0 := Lib.hid h0
  have HW := Lib.hid hW
  clear hcols h0 h1 h3 hW
  go_enter Tryz.func50, Tryz.ntmps50
  go_wp2
  rw [← HW.out]
  refine bodyPost_ret (results_cell_row rfl _ _ w.heap.size _ _ _ _ rfl H0.out Tryz.underlying30 rfl (by kernel_rfl)) rfl ?_
  exact ⟨_, rfl, HL.out, HB.out⟩
end Go.Proofs.YtclhbhhlddbocaaGreatDoor
