/- The document's Decode. -/
import Derived.Test.YtnlhpndjogjejaaGreatDoorWR12D
namespace Go.Proofs.YtnlhpndjogjejaaGreatDoor
open Go.RowKit

set_option maxRecDepth 100000 in
set_option maxHeartbeats 4000000 in
theorem refDec_long (p : Option Addr) (c : Nat) (l : List UInt8) (hl : 2200 < l.length) (hl2 : l.length ≤ 140737488351232) (w : World) :
    Calls Tryz.prog 5 #[.slice p l.length c] w (DecF w (.error 2)) := by
  have hnl : (2200 : Int) < (l.length : Int) := by omega
  go_enter Tryz.func5, Tryz.ntmps5
  go_wp2
  refine bodyPost_ret (results_row2 rfl _ _ w.heap.size _ _ _ _ rfl (blk_new w _) Tryz.underlying30 rfl (by kernel_rfl)) rfl ?_
  exact ⟨rfl, (Below.refl _ _).alloc (Nat.le_refl _) _⟩

set_option maxRecDepth 100000 in
set_option maxHeartbeats 4000000 in
theorem refDec_short (p : Option Addr) (c : Nat) (l : List UInt8) (hl : l.length ≤ 2200) (er : Nat) (body : List UInt8) (hu : Cob.un l = (er, body)) (w : World) (h : At w p l) (R : Nat) (hR : R = if er ≠ 0 then er else 30) (h5 : er = 0 → body.length < 5) :
    Calls Tryz.prog 5 #[.slice p l.length c] w (DecF w (.error R)) := by
  obtain ⟨w0, hw0⟩ : ∃ w0, w0 = w.alloc (.cells #[.int .i64 0, .int .i64 0, .slice none 0 0, .int .i64 0, .int .i64 0, .int .i64 0, .slice none 0 0, .int .i64 0, .int .i64 0, .int .i64 0, .slice none 0 0] 30) := ⟨_, rfl⟩
  have hz0 : w0.heap.size = w.heap.size + 1 := by rw [hw0]; simp
  have HB0 : Hid (Below w.heap.size w w0) := by rw [hw0]; exact (Below.refl _ _).alloc (Nat.le_refl _) _
  have hK0 : w0.heap[w.heap.size]? = some (.cells #[.int .i64 0, .int .i64 0, .slice none 0 0, .int .i64 0, .int .i64 0, .int .i64 0, .slice none 0 0, .int .i64 0, .int .i64 0, .int .i64 0, .slice none 0 0] 30 (0, 0)) := by rw [hw0]; exact blk_new w _
  have HW0 : Hid (w.alloc (.cells #[.int .i64 0, .int .i64 0, .slice none 0 0, .int .i64 0, .int .i64 0, .int .i64 0, .slice none 0 0, .int .i64 0, .int .i64 0, .int .i64 0, .slice none 0 0] 30) = w0) := by rw [hw0]; exact rfl
  have HU := Lib.hid (refUnstuff_any p c l (by omega) w0 (h.on HB0.out))
  rw [hu] at HU
  simp only at HU
  have hnl : ¬ (2200 : Int) < (l.length : Int) := by omega
  have HRr := Lib.hid hR
  clear hw0 h hu hR
  go_enter Tryz.func5, Tryz.ntmps5
  go_wp2_with fail
  rw [HW0.out]
  refine HU.out.mono ?_
  rintro e w1 ⟨v, rfl, hh, hb1⟩
  obtain ⟨q, cap, rfl, -, -⟩ := hh.at
  have HB1 := Lib.hid (HB0.out.trans (hb1.mono HB0.out.size))
  have hK1 := (hb1.block _ (by omega)).trans hK0
  have HK1 := Lib.hid hK1
  have hz1 := HB1.out.size
  obtain ⟨⟨x0, t0⟩, ⟨x1, t1⟩, ⟨x2, t2⟩, ⟨x3, t3⟩, ⟨x4, t4⟩, ⟨x5, t5⟩, ⟨x6, t6⟩, ⟨x7, t7⟩, ⟨x8, t8⟩, ⟨x9, t9⟩, ⟨x10, t10⟩⟩ := free11 hK1
  clear hh hb1 hK0 hK1 HU HW0
  by_cases he : er = 0
  · subst he
    have hlt : (body.length : Int) < 5 := by have := h5 rfl; omega
    have HR2 : Hid (R = 30) := by show _ = _; rw [HRr.out]; simp
    clear h5
    go_wp2
    refine bodyPost_ret (results_row2 rfl _ _ w.heap.size _ _ _ _ rfl (set11_block HK1.out _ _ _ _ _ _ _ _ _ _ _) Tryz.underlying30 rfl (by kernel_rfl)) rfl ?_
    rw [HR2.out]
    exact ⟨rfl, HB1.out.trans ((set11_aside w1 w.heap.size _ _ _ _ _ _ _ _ _ _ _).below hz1 (fun k hk => by omega))⟩
  · have hez : ((er : Int) != 0) = true := by rw [bne_iff_ne]; omega
    have HR2 : Hid (R = er) := by show _ = _; rw [HRr.out, if_pos he]
    clear h5
    go_wp2
    refine bodyPost_ret (results_row2 rfl _ _ w.heap.size _ _ _ _ rfl (set11_block HK1.out _ _ _ _ _ _ _ _ _ _ _) Tryz.underlying30 rfl (by kernel_rfl)) rfl ?_
    rw [HR2.out]
    exact ⟨rfl, HB1.out.trans ((set11_aside w1 w.heap.size _ _ _ _ _ _ _ _ _ _ _).below hz1 (fun k hk => by omega))⟩

/-- the document's Decode -/
theorem refDecode12 (p : Option Addr) (c : Nat) (l : List UInt8) (hl2 : l.length ≤ 140737488351232) (w : World) (h : At w p l) :
    Calls Tryz.prog 5 #[.slice p l.length c] w (DecF w (Fr.dec l)) := by
  by_cases hl : 2200 < l.length
  · have e : Fr.dec l = .error 2 := by unfold Fr.dec Fr.open_; rw [if_pos hl]
    rw [e]
    exact refDec_long p c l hl hl2 w
  · obtain ⟨er, body, hu⟩ : ∃ er body, Cob.un l = (er, body) := ⟨_, _, rfl⟩
    by_cases he : er = 0
    · subst he
      by_cases h5 : body.length < 5
      · have e : Fr.dec l = .error 30 := by unfold Fr.dec Fr.open_; rw [if_neg hl, hu]; simp [h5]
        rw [e]
        exact refDec_short p c l (by omega) 0 body hu w h 30 (by simp) (fun _ => h5)
      · obtain ⟨C, d0, d1, d2, d3, hb⟩ : ∃ C d0 d1 d2 d3, body = C ++ [d0, d1, d2, d3] := by
          have hd : (body.drop (body.length - 4)).length = 4 := by rw [List.length_drop]; omega
          match hx : body.drop (body.length - 4), hd with
          | [d0, d1, d2, d3], _ => exact ⟨body.take (body.length - 4), d0, d1, d2, d3, by rw [← hx, List.take_append_drop]⟩
        subst hb
        have hlen := Cob.un_length l
        rw [hu] at hlen
        simp only [List.length_append, List.length_cons, List.length_nil] at hlen h5
        exact refDec_mid p c l (by omega) C d0 d1 d2 d3 hu (by omega) (by omega) w h
    · have e : Fr.dec l = .error er := by unfold Fr.dec Fr.open_; rw [if_neg hl, hu]; simp [he]
      rw [e]
      exact refDec_short p c l (by omega) er body hu w h er (by rw [if_pos he]) (fun hc => absurd hc he)
end Go.Proofs.YtnlhpndjogjejaaGreatDoor
