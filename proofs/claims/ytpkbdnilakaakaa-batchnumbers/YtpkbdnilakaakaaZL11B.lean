/- BatchNumbers: the walk. -/
import Derived.Test.YtpkbdnilakaakaaM42
import Derived.Test.YtpkbdnilakaakaaM22
import Derived.Deep.RegionLaw
namespace Go.Proofs.Ytpkbdnilakaakaa
open Go.RowKit

attribute [local go_sem] run_store_float

/-- so many rows, none of which has a value -/
def bare : List (List V) := List.replicate 65 []
theorem bare_len : bare.length = 65 := by unfold bare; exact List.length_replicate
theorem bare_size : (Bt.err oneS bare = 3 ∧ (Bt.out oneS bare).length = 0) := by
  have h : Bt.numErr oneS bare.length = 3 := by
    unfold Bt.numErr
    rw [bare_len, if_neg (by rw [one_err]; simp), if_neg (by decide), if_pos (by decide)]
  have h2 : Bt.err oneS bare = 3 := by
    unfold Bt.err
    rw [h, if_pos (by decide)]
  refine ⟨h2, ?_⟩
  unfold Bt.out
  rw [h2, if_neg (by decide)]
  rfl
theorem none_pack : Bt.pack oneS [] = ⟨4, []⟩ := by
  have h : Bt.numErr oneS ((([] : List (List V)).length : Nat) : Int) = 4 := by
    unfold Bt.numErr
    rw [if_neg (by rw [one_err]; simp), if_pos (by decide)]
  have h2 : Bt.err oneS [] = 4 := by
    unfold Bt.err
    rw [h, if_pos (by decide)]
  unfold Bt.pack
  rw [h2, if_neg (by decide)]
theorem bare_lies (w : World) : RowsL (w.alloc (.cells (madeCells #[.slice none 0 0] 65) 50)) (some ⟨w.heap.size, 0, none⟩) 65 bare := by
  refine ⟨by rw [bare_len]; omega, by rw [bare_len]; omega, fun j hj => ?_⟩
  rw [bare_len] at hj
  have hb : bare[j]'(by rw [bare_len]; exact hj) = [] := List.getElem_replicate _
  refine ⟨w.heap.size, 0, none, 0, rfl, by simp, ?_, ?_⟩
  · rw [hb, blk_cell (blk_new w _)]
    simp [madeCells, hj, Nat.mod_one]
  · rw [hb]
    exact ⟨vl_leafB _ 0 0 0 ⟨#[]⟩ none 0, fun v hv => by cases hv⟩

theorem made_run (w : World) : (Instr.makeSlice 29 (.int .i64 65) (.int .i64 65)).run Try.prog w = .ok (.slice (some ⟨w.heap.size, 0, none⟩) 65 65) (w.alloc (.cells (madeCells #[.slice none 0 0] 65) 50)) := by
  obtain ⟨i, hi, hz, hsz, hby⟩ := info_parts infoRow
  have hr := run_makeSlice (P := Try.prog) w 29 50 i (.agg #[.slice none 0 0]) Try.underlying29 hi hz .i64 .i64 65 65 (by omega) (by omega) (by rw [hsz]; decide) (by rw [hby]; decide) (by omega)
  rw [hsz] at hr
  exact hr

set_option maxRecDepth 100000 in
set_option maxHeartbeats 2000000 in
theorem numbers11 (HR : RowsIn) (w : World) : Calls Try.prog 3 #[] w fun e w' => e = .returned (.bool true) ∧ Below w.heap.size w w' := by
  have HRI := Lib.hid HR
  have HOne : Hid (∀ w', Calls Try.prog 6 #[] w' fun e w'' => ∃ p c, e = .returned (.agg #[.slice p 1 c]) ∧ SchL w'' p c oneS ∧ Below w'.heap.size w' w'') := fun w' => oneK w'
  have HSz : Hid (∀ w' p c q, SchL w' p c oneS → RowsL w' q 65 bare → Calls Try.prog 5 #[.agg #[.slice p 1 c], .slice q 65 65] w' fun e w'' => e = .returned (.tuple #[.int .i64 0, .int .i64 3]) ∧ Below w'.heap.size w' w'') := fun w' p c q h1 h2 => by
    have h := sizeK HR oneS p c bare q 65 w' h1 h2
    rw [bare_size.1, bare_size.2, bare_len] at h
    exact h
  have HPk : Hid (∀ w' p c, SchL w' p c oneS → Calls Try.prog 7 #[.agg #[.slice p 1 c], .slice none 0 0] w' fun e w'' => ∃ q c', e = .returned (.tuple #[.slice q 0 c', .int .i64 4]) ∧ Below w'.heap.size w' w'') := fun w' p c h1 => by
    have h := packBK HR oneS p c [] none 0 w' h1 ⟨by simp, by simp, fun j hj => by simp at hj⟩
    rw [none_pack] at h
    refine h.mono ?_
    rintro e w'' ⟨q2, m2, c2, rfl, hm, _, hb⟩
    subst hm
    exact ⟨q2, c2, rfl, hb⟩
  clear HR
  go_enter Try.func3, Try.ntmps3
  go_wp2_with fail
  have hmk := made_run
  have hBd : Below w.heap.size w w.drew := (Below.refl _ _).drew
  have hal : ∀ w' : World, Below w'.heap.size w' (w'.alloc (.cells (madeCells #[.slice none 0 0] 65) 50)) := fun w' => (Below.refl _ _).alloc (Nat.le_refl _) _
  go_region_law (first
    | (refine step_call0 (by rfl) (by rfl) Try.func6 (by kernel_rfl) (by rfl) (HOne.out _) ?_
       rintro e wo ⟨po, co, rfl, hso, hbo⟩
       refine ⟨_, rfl, ?_⟩)
    | (refine step_call2 (.tmp 6) (.tmp 7) 27 29 (by rfl) (by rfl) (by rfl) (by rfl) Try.func5 (by kernel_rfl) (by rfl) (HSz.out _ _ _ _ (hso.on (hal wo)) (bare_lies wo)) ?_
       rintro e wz ⟨rfl, hbz⟩
       refine ⟨_, rfl, ?_⟩
       have hB := hBd.trans ((hbo.trans (((hal wo).trans (hbz.mono (hal wo).size)).mono hbo.size)).mono hBd.size)
       clear hbz hso hbo)
    | (refine step_call2 (.tmp 6) (.tmp 7) 27 29 (by rfl) (by rfl) (by rfl) (by rfl) Try.func5 (by kernel_rfl) (by rfl) (HSz.out _ _ _ _ hso ((bare_lies w.drew).on hbo)) ?_
       rintro e wz ⟨rfl, hbz⟩
       refine ⟨_, rfl, ?_⟩
       have hB := hBd.trans (((hal w.drew).trans ((hbo.trans (hbz.mono hbo.size)).mono (hal w.drew).size)).mono hBd.size)
       clear hbz hso hbo)
    | fail)
  all_goals
    have HB := Lib.hid hB
    have hs1 := hB.size
    clear hB
    go_wp2_with fail
    refine (HOne.out _).mono ?_
    rintro e w4 ⟨p4, c4, rfl, hs4, hb4⟩
    have HB4 := Lib.hid (HB.out.trans (hb4.mono hs1))
    have HP4 := Lib.hid (HPk.out w4 p4 c4 hs4)
    clear hs4 hb4
    go_wp2_with fail
    refine HP4.out.mono ?_
    rintro e w5 ⟨q5, c5, rfl, hb5⟩
    have HB5 := Lib.hid (HB4.out.trans (hb5.mono HB4.out.size))
    clear hb5
    go_wp2_with fail
    refine (live11 HRI.out w5).mono ?_
    rintro e w6 ⟨rfl, hb6⟩
    have HB6 := Lib.hid (HB5.out.trans (hb6.mono HB5.out.size))
    clear hb6
    go_wp2
    go_ret
    exact ⟨rfl, HB6.out⟩
end Go.Proofs.Ytpkbdnilakaakaa
