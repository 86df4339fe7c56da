/- The law's spoils: runs of one's own that are written over. -/
import Derived.Test.YtpgilfglfcnihaaK13D
namespace Go.Proofs.Ytpgilfglfcnihaa
open Go.RowKit

/-- a block of so many cells that may be written -/
def SizedB (w : World) (T : TypeId) (g n : Nat) : Prop := ∃ C : Array Value, w.heap[g]? = some (.cells C T) ∧ C.size = n
theorem SizedB.set {w : World} {T : TypeId} {g n : Nat} (h : SizedB w T g n) (g' i : Nat) (u : Value) : SizedB (w.setCell ⟨g', i, none⟩ u) T g n := by
  obtain ⟨C, h1, h2⟩ := h
  by_cases e : g' = g
  · subst e
    refine ⟨C.setIfInBounds i u, ?_, by simpa using h2⟩
    simp only [World.setCell, Array.getElem?_modify, h1, if_true, Option.map_some]
    rw [if_neg (by simp)]
  · refine ⟨C, ?_, h2⟩
    rw [Below.heap_setCell _ _ _ _ (fun hc => e hc.symm)]
    exact h1
theorem SizedB.cell {w : World} {T : TypeId} {g n : Nat} (h : SizedB w T g n) (i : Nat) (hi : i < n) : (∃ v, w.cell? ⟨g, i, none⟩ = some v) ∧ w.frozen? ⟨g, i, none⟩ = false := by
  obtain ⟨C, h1, h2⟩ := h
  constructor
  · refine ⟨C[i]'(by omega), ?_⟩
    simp only [World.cell?, h1]
    simp [h2, hi]
  · simp [World.frozen?, h1]

theorem SizedB.on {w w' : World} {T : TypeId} {g n : Nat} (h : SizedB w T g n) (hb : Below w.heap.size w w') : SizedB w' T g n := by
  obtain ⟨C, h1, h2⟩ := h
  exact ⟨C, lies_on h1 hb, h2⟩
theorem SizedB.aside {w w' : World} {T : TypeId} {F : Nat → Prop} {g n : Nat} (h : SizedB w T g n) (ha : Aside F w w') (hF : ¬ F g) : SizedB w' T g n := by
  obtain ⟨C, h1, h2⟩ := h
  exact ⟨C, by rw [ha.block g (lies_lt h1) hF]; exact h1, h2⟩
/-- runs whose bytes may be written over -/
structure SpI (W0 wr : World) (g0 : Nat) (bs : List Nat) (rs : List Run) : Prop where
  aside : Aside (fun k => k ∈ bs) W0 wr
  soft : ∀ j (hj : j < rs.length), ∃ g cap, g ∈ bs ∧ W0.cell? ⟨g0, j * 2, none⟩ = some (.int .i64 rs[j].1) ∧ W0.cell? ⟨g0, j * 2 + 1, none⟩ = some (.slice (some ⟨g, 0, none⟩) rs[j].2.length cap) ∧ SizedB wr 5 g cap ∧ rs[j].2.length ≤ cap ∧ cap ≤ 9223372036854775807
section
variable {W0 wr : World} {g0 : Nat} {bs : List Nat} {rs : List Run}
theorem SpI.byte (h : SpI W0 wr g0 bs rs) {g : Nat} (hg : g ∈ bs) (i : Nat) (u : Value) : SpI W0 (wr.setCell ⟨g, i, none⟩ u) g0 bs rs := by
  refine ⟨h.aside.setCell (p := ⟨g, i, none⟩) (.inl hg) u, fun j hj => ?_⟩
  obtain ⟨g', cap, h1, h2, h3, h4, h5⟩ := h.soft j hj
  exact ⟨g', cap, h1, h2, h3, h4.set _ _ _, h5⟩
theorem SpI.on {w' : World} (h : SpI W0 wr g0 bs rs) (hb : Below wr.heap.size wr w') : SpI W0 w' g0 bs rs := by
  refine ⟨h.aside.trans (aside_new hb (fun _ => False)) (fun _ _ hc => hc.elim), fun j hj => ?_⟩
  obtain ⟨g', cap, h1, h2, h3, h4, h5⟩ := h.soft j hj
  exact ⟨g', cap, h1, h2, h3, h4.on hb, h5⟩
end
theorem spI_start {w : World} {B g0 n c : Nat} {bs : List Nat} {rs : List Run} (h : RunsO w B (.slice (some ⟨g0, 0, none⟩) n c) bs rs) : SpI w w g0 bs rs ∧ SizedB w 39 g0 (c * 2) ∧ g0 < w.heap.size ∧ g0 ∉ bs ∧ n = rs.length ∧ n ≤ c ∧ c ≤ 9223372036854775807 := by
  obtain ⟨us, h1, hl, h2⟩ := h.out
  rcases h1.2 with ⟨he, _⟩ | ⟨g, cap, cur, he, h4, h5, h6, h7, h8, h9⟩
  · cases he
  · injection he with e1 e2 e3
    injection e1 with e1
    injection e1 with e1 _ _
    subst e1 e3
    have hc : ∀ m v, m < rs.length * 2 → us[m]? = some v → w.cell? ⟨g0, m, none⟩ = some v := fun m v hm hv => by
      rw [← h9, List.getElem?_take_of_lt hm] at hv
      simp only [World.cell?, h5]
      simpa using hv
    refine ⟨⟨Aside.refl _ _, fun j hj => ?_⟩, ⟨cur, h5, h8⟩, lies_lt h5, fun hc => ?_, e2, by omega, by unfold maxLen at h7; omega⟩
    · obtain ⟨g', cap', e1, e2, e3, hmn⟩ := h2 j hj
      refine ⟨g', cap', List.mem_of_getElem? e1, hc _ _ (by omega) e2, hc _ _ (by omega) e3, ?_⟩
      rcases hmn.2 with ⟨h1, _⟩ | ⟨g2, cap2, cur2, h1, _, h3, h4', h5', h6', _⟩
      · cases h1
      · cases h1
        exact ⟨⟨cur2, h3, by simpa using h6'⟩, h4', by unfold maxLen at h5'; omega⟩
    · obtain ⟨C, hC⟩ := h.block g0 hc
      rw [h5] at hC
      injection hC with hC
      injection hC with _ hC
      exact absurd hC (by decide)

set_option maxHeartbeats 4000000 in
theorem spoils13 (q : Option Addr) (c : Nat) (rs : List Run) (bs : List Nat) (B : Nat) (w : World) (h : RunsO w B (.slice q rs.length c) bs rs) : Calls Try.prog 13 #[.slice q rs.length c] w fun e w' => e = .returned (.tuple #[]) ∧ Aside (fun k => k ∈ bs ∨ (Value.slice q rs.length c).ownBlock = some k) w w' := by
  cases q with
  | none =>
    have h0 : rs.length = 0 ∧ c = 0 := by
      obtain ⟨us, h1, -⟩ := h.out
      rcases h1.2 with ⟨he, h3⟩ | ⟨g, cap, cur, he, _⟩
      · injection he with _ _ e3
        exact ⟨h3, e3⟩
      · cases he
    obtain ⟨h1, h2⟩ := h0
    rw [h1, h2]
    clear h
    go_enter Try.func13, Try.ntmps13
    go_wp2
    go_loopw [10] (fun v10 wr => v10 = .int .i64 0 ∧ wr = w) (fun _ _ => 0)
    case atStart => exact ⟨rfl, rfl⟩
    case round =>
      obtain ⟨rfl, rfl⟩ := hrel
      go_wp2
      go_loopw [36] (fun v36 wr2 => v36 = .int .i64 0 ∧ wr2 = wr) (fun _ _ => 0)
      case atStart => exact ⟨rfl, rfl⟩
      case round =>
        obtain ⟨rfl, rfl⟩ := hrel
        go_wp2
        go_end0
        exact ⟨rfl, Aside.refl _ _⟩
  | some a =>
    obtain ⟨g0, rfl⟩ : ∃ g0, a = ⟨g0, 0, none⟩ := by
      obtain ⟨us, h1, -⟩ := h.out
      rcases h1.2 with ⟨he, h3⟩ | ⟨g, cap, cur, he, _⟩
      · cases he
      · injection he with e1 _ _
        injection e1 with e1
        exact ⟨g, e1⟩
    obtain ⟨h1, h2, h3, h4, -, h7, h8⟩ := spI_start h
    have HI := Lib.hid h1
    have HZ := Lib.hid h2
    have H3 := Lib.hid h3
    have H4 := Lib.hid h4
    clear h h1 h2 h3 h4
    go_enter Try.func13, Try.ntmps13
    go_wp2
    go_loopw [10] (fun v10 wr => ∃ i : Nat, i ≤ rs.length ∧ v10 = .int .i64 i ∧ Hid (SpI w wr g0 bs rs)) (fun v10 _ => rs.length - (intOf v10).toNat)
    case atStart => exact ⟨0, by omega, rfl, HI.out⟩
    case round =>
      clear HI
      obtain ⟨i, hi, rfl, HI⟩ := hrel
      by_cases hlt : i < rs.length
      · have hlt' : (i : Int) < (rs.length : Int) := by omega
        obtain ⟨g, cap, hg, k0, k1, hz, hlc, hcm⟩ := HI.out.soft i hlt
        have m0 : wr.cell? ⟨g0, i * 2, none⟩ = some (.int .i64 rs[i].1) := by rw [HI.out.aside.cell (p := ⟨g0, i * 2, none⟩) H3.out H4.out]; exact k0
        have m1 : wr.cell? ⟨g0, i * 2 + 1, none⟩ = some (.slice (some ⟨g, 0, none⟩) rs[i].2.length cap) := by rw [HI.out.aside.cell (p := ⟨g0, i * 2 + 1, none⟩) H3.out H4.out]; exact k1
        have HG := Lib.hid hg
        obtain ⟨x, hx⟩ : ∃ x, x = rs[i].1 := ⟨_, rfl⟩
        obtain ⟨y, hy⟩ : ∃ y, y = rs[i].2.length := ⟨_, rfl⟩
        rw [← hx] at m0
        rw [← hy] at m1 hlc
        have HI1 := Lib.hid (HI.out.on (w' := wr.alloc (.cells #[.int .i64 (x : Int), .slice (some ⟨g, 0, none⟩) y cap] 39)) ((Below.refl _ _).alloc (Nat.le_refl _) _))
        have HZ1 := Lib.hid (hz.on (w' := wr.alloc (.cells #[.int .i64 (x : Int), .slice (some ⟨g, 0, none⟩) y cap] 39)) ((Below.refl _ _).alloc (Nat.le_refl _) _))
        clear k0 k1 hg hz hx hy HI
        go_wp2
        go_loopw [22] (fun v22 wr2 => ∃ j : Nat, j ≤ cap ∧ v22 = .int .i64 j ∧ Hid (SpI w wr2 g0 bs rs ∧ SizedB wr2 5 g cap)) (fun v22 _ => cap - (intOf v22).toNat)
        case atStart => exact ⟨0, by omega, rfl, HI1.out, HZ1.out⟩
        case round =>
          clear HI1 HZ1 m0 m1
          obtain ⟨j, hj, rfl, HJ⟩ := hrel
          by_cases hlj : j < cap
          · have hlj' : (j : Int) < (cap : Int) := by omega
            obtain ⟨⟨ov, oc⟩, fz⟩ := HJ.out.2.cell j hlj
            have HI2 := Lib.hid (HJ.out.1.byte HG.out j (.int .u8 0))
            have HZ2 := Lib.hid (HJ.out.2.set g j (.int .u8 0))
            clear HJ
            go_wp2
            go_roundw
            case rel => exact ⟨j + 1, by omega, by go_num, HI2.out, HZ2.out⟩
            case measure => simp [intOf]; omega
          · have hjj : j = cap := by omega
            subst hjj
            have HI3 := Lib.hid HJ.out.1
            clear HJ
            go_wp2
            go_roundw
            case rel => exact ⟨i + 1, by omega, by go_num, HI3.out⟩
            case measure => simp [intOf]; omega
      · have hii : i = rs.length := by omega
        subst hii
        have HZ1 : Hid (SizedB wr 39 g0 (c * 2)) := HZ.out.aside HI.out.aside H4.out
        have HA1 : Hid (Aside (fun k => k ∈ bs ∨ (Value.slice (some ⟨g0, 0, none⟩) rs.length c).ownBlock = some k) w wr) := HI.out.aside.mono (fun _ _ hc => .inl hc)
        clear HI
        go_wp2
        go_loopw [36] (fun v36 wr2 => ∃ j : Nat, j ≤ c ∧ v36 = .int .i64 j ∧ Hid (SizedB wr2 39 g0 (c * 2) ∧ Aside (fun k => k ∈ bs ∨ (Value.slice (some ⟨g0, 0, none⟩) rs.length c).ownBlock = some k) w wr2)) (fun v36 _ => c - (intOf v36).toNat)
        case atStart => exact ⟨0, by omega, rfl, HZ1.out, HA1.out⟩
        case round =>
          clear HZ1 HA1
          obtain ⟨j, hj, rfl, HJ⟩ := hrel
          by_cases hlj : j < c
          · have hlj' : (j : Int) < (c : Int) := by omega
            obtain ⟨⟨ov, oc⟩, fz⟩ := HJ.out.1.cell (j * 2) (by omega)
            have HZ2 := Lib.hid (HJ.out.1.set g0 (j * 2) (.int .i64 (-77)))
            have HA2 := Lib.hid (HJ.out.2.setCell (p := ⟨g0, j * 2, none⟩) (.inl (.inr rfl)) (.int .i64 (-77)))
            clear HJ
            go_wp2
            go_roundw
            case rel => exact ⟨j + 1, by omega, by go_num, HZ2.out, HA2.out⟩
            case measure => simp [intOf]; omega
          · have hjj : j = c := by omega
            subst hjj
            have HA3 := Lib.hid HJ.out.2
            clear HJ
            go_wp2
            go_end0
            exact ⟨rfl, HA3.out⟩
end Go.Proofs.Ytpgilfglfcnihaa
