/- WTypeR, WNameR, WFindR, WIsR, K7Pl, WRefG3, LebC, ValueC: put together. -/
import Derived.Test.YtlgmfeokamegiaaGreatDoorB02
import Derived.Test.YtlgmfeokamegiaaGreatDoorB04
import Derived.Test.YtlgmfeokamegiaaGreatDoorB03

/- The document's typeAt, CheckType. -/
namespace Go.Proofs.YtlgmfeokamegiaaGreatDoor
open Go.RowKit

set_option maxRecDepth 100000 in
set_option maxHeartbeats 400000 in
theorem refSameType7 : ∀ (x y : Ty) (w : World) (u v : Array Value), TLies w u x → TLies w v y → Calls Tryz.prog 8 #[.agg u, .agg v] w fun e w' => e = .returned (.bool (Ty.same x y)) ∧ Below w.heap.size w w' := by
  intro x
  refine Ty.ind (P := fun x => ∀ (y : Ty) (w : World) (u v : Array Value), TLies w u x → TLies w v y → Calls Tryz.prog 8 #[.agg u, .agg v] w fun e w' => e = .returned (.bool (Ty.same x y)) ∧ Below w.heap.size w w') ?_ x
  rintro k xs ih ⟨k', ys⟩ w u v hx hy
  obtain ⟨p, c, rfl, hxl, hxc, hxi⟩ := hx.open
  obtain ⟨q, d, rfl, hyl, hyc, hyi⟩ := hy.open
  unfold cells2
  obtain ⟨W0, hW0⟩ : ∃ W0, W0 = (w.alloc (.cells #[.int .i64 k, .slice p xs.length c] 24)).alloc (.cells #[.int .i64 k', .slice q ys.length d] 24) := ⟨_, rfl⟩
  have HB0 : Hid (Below w.heap.size w W0) := by rw [hW0]; exact ((Below.refl _ _).alloc (Nat.le_refl _) _).alloc (by simp) _
  have HY : Hid (W0.cell? ⟨w.heap.size, 1, none⟩ = some (.slice p xs.length c) ∧ W0.cell? ⟨w.heap.size + 1, 1, none⟩ = some (.slice q ys.length d)) := by rw [hW0]; exact ⟨by simp, by simp⟩
  have HW0 := Lib.hid hW0
  clear hW0 hx hy
  by_cases h1 : ¬ k = k'
  · have g1 := bne_t h1
    have HE : Hid (Ty.same (.mk k xs) (.mk k' ys) = false) := by show _ = _; simp [Ty.same_mk, h1]
    clear ih hxi hyi h1
    go_enter Tryz.func8, Tryz.ntmps8
    go_wp2
    rw [← HW0.out]
    go_ret
    exact ⟨by rw [HE.out]; rfl, HB0.out⟩
  replace h1 : k = k' := Classical.not_not.1 h1
  have g1 := bne_f h1
  by_cases h5 : ¬ xs.length = ys.length
  · have g5 : ((xs.length : Int) != (ys.length : Int)) = true := bne_t (by omega)
    have HE : Hid (Ty.same (.mk k xs) (.mk k' ys) = false) := by show _ = _; simp [Ty.same_mk, Ty.sameL_ne xs ys h5]
    clear ih hxi hyi h1 h5
    go_enter Tryz.func8, Tryz.ntmps8
    go_wp2
    rw [← HW0.out]
    go_ret
    exact ⟨by rw [HE.out]; rfl, HB0.out⟩
  replace h5 : xs.length = ys.length := Classical.not_not.1 h5
  have g5 : ((xs.length : Int) != (ys.length : Int)) = false := bne_f (by omega)
  have HE : Hid (Ty.same (.mk k xs) (.mk k' ys) = Ty.sameL xs ys) := by show _ = _; simp [Ty.same_mk, h1]
  have HX : Hid (∀ j (hj : j < xs.length), ∃ u', TLies w u' xs[j] ∧ ItemT w p j u') := hxi
  have HY2 : Hid (∀ j (hj : j < ys.length), ∃ u', TLies w u' ys[j] ∧ ItemT w q j u') := hyi
  have HIH := Lib.hid ih
  have H5 := Lib.hid h5
  clear ih hxi hyi h1 h5
  go_enter Tryz.func8, Tryz.ntmps8
  go_wp2_with fail
  rw [← HW0.out]
  clear HW0
  go_loopw [5, 6] (fun v5 _ wr => ∃ j : Nat, j ≤ xs.length ∧ v5 = .int .i64 j ∧ Hid (Below W0.heap.size W0 wr ∧ ∀ m (h1 : m < xs.length) (h2 : m < ys.length), m < j → Ty.same xs[m] ys[m] = true)) (fun v5 _ _ => xs.length - (intOf v5).toNat)
  case atStart => exact ⟨0, by omega, rfl, Below.refl _ _, fun m _ _ h => by omega⟩
  case round =>
    obtain ⟨j, hj, rfl, HL⟩ := hrel
    have hbw : Below w.heap.size w wr := HB0.out.trans (HL.out.1.mono HB0.out.size)
    have y1 : wr.cell? ⟨w.heap.size, 1, none⟩ = some (.slice p xs.length c) := cell_on HL.out.1 HY.out.1
    have y2 : wr.cell? ⟨w.heap.size + 1, 1, none⟩ = some (.slice q ys.length d) := cell_on HL.out.1 HY.out.2
    by_cases hlt : j < xs.length
    · have hlt2 : j < ys.length := by have := H5.out; omega
      obtain ⟨ux, hvx, hix⟩ := HX.out j hlt
      obtain ⟨uy, hvy, hiy⟩ := HY2.out j hlt2
      obtain ⟨bx, ox, kx, qx, nx, cx, rfl, _, rfl, a0, a1⟩ := (hix.on hbw).lies
      obtain ⟨by', oy, ky, qy, ny, cy, rfl, _, rfl, b0, b1⟩ := (hiy.on hbw).lies
      have HC : Hid (∀ w', Below w.heap.size w w' → Calls Tryz.prog 8 #[.agg #[.int .i64 kx, .slice qx nx cx], .agg #[.int .i64 ky, .slice qy ny cy]] w' fun e w'' => e = .returned (.bool (Ty.same xs[j] ys[j])) ∧ Below w'.heap.size w' w'') :=
        fun w' hb => HIH.out _ (List.getElem_mem hlt) ys[j] w' _ _ (hvx.on hb) (hvy.on hb)
      have HBw := Lib.hid hbw
      have HBW := Lib.hid HL.out.1
      have HAll := Lib.hid HL.out.2
      have hj1 : (j : Int) < (xs.length : Int) := by omega
      have hj2 : (j : Int) < (ys.length : Int) := by omega
      obtain ⟨r, hr⟩ : ∃ r, r = Ty.same xs[j] ys[j] := ⟨_, rfl⟩
      rw [← hr] at HC
      have HRr := Lib.hid hr
      clear hvx hvy hix hiy hbw HL hr
      go_wp2_with fail
      go_region_held3 (fun w' => w'.cell? ⟨bx, ox + j * 2, none⟩ = some (.int .i64 kx) ∧ w'.cell? ⟨bx, ox + j * 2 + 1, none⟩ = some (.slice qx nx cx) ∧ w'.cell? ⟨by', oy + j * 2, none⟩ = some (.int .i64 ky) ∧ w'.cell? ⟨by', oy + j * 2 + 1, none⟩ = some (.slice qy ny cy) ∧ w'.cell? ⟨w.heap.size, 1, none⟩ = some (.slice (some ⟨bx, ox, none⟩) xs.length c) ∧ w'.cell? ⟨w.heap.size + 1, 1, none⟩ = some (.slice (some ⟨by', oy, none⟩) ys.length d)) (go_keep) (first
        | (go_at_call 8; refine (HC.out _ (below_drewN HBw.out _)).mono ?_; rintro e w4 ⟨rfl, hb4⟩; have hb5 := below_via (w := wr) hb4 (by rfl) (by rfl) (by rfl) (by rfl); have z3 := cell_on hb5 a0; have z4 := cell_on hb5 a1; have z5 := cell_on hb5 b0; have z6 := cell_on hb5 b1; have z7 := cell_on hb5 y1; have z8 := cell_on hb5 y2; have HB4 := Lib.hid hb5; clear hb4 hb5))
      clear z3 z4 z5 z6 z7 z8 a0 a1 b0 b1 y1 y2
      cases r with
      | true =>
        have HN : Hid (Below W0.heap.size W0 w4 ∧ ∀ m (h1 : m < xs.length) (h2 : m < ys.length), m < j + 1 → Ty.same xs[m] ys[m] = true) := by
          refine ⟨HBW.out.trans (HB4.out.mono HBW.out.size), fun m h1 h2 hm => ?_⟩
          by_cases hmj : m = j
          · subst hmj; exact HRr.out.symm
          · exact HAll.out m h1 h2 (by omega)
        clear HB4 HAll HC
        go_wp2
        go_roundw
        case rel => exact ⟨j + 1, by omega, by go_num, HN⟩
        case measure => simp [intOf]; omega
      | false =>
        have HF0 : Hid (Ty.sameL xs ys = false) := Ty.sameL_at xs ys j hlt hlt2 HRr.out.symm
        have HF := Lib.hid (HBw.out.trans (HB4.out.mono HBw.out.size))
        clear HB4 HAll HC
        go_wp2
        go_ret
        exact ⟨by rw [HE.out, HF0.out]; rfl, HF.out⟩
    · have HF0 : Hid (Ty.sameL xs ys = true) := Ty.sameL_all xs ys H5.out (fun m h1 h2 => HL.out.2 m h1 h2 (by omega))
      have HF := Lib.hid hbw
      have hjn : ¬ (j : Int) < (xs.length : Int) := by omega
      clear HL hbw hlt
      go_wp2
      go_ret
      exact ⟨by rw [HE.out, HF0.out]; rfl, HF.out⟩
end Go.Proofs.YtlgmfeokamegiaaGreatDoor

/- The document's Name. -/
namespace Go.Proofs.YtlgmfeokamegiaaGreatDoor
open Go.RowKit

theorem headD_get {l : List UInt8} (h : 0 < l.length) : l.headD 0 = l[0] := by
  cases l with
  | nil => simp at h
  | cons a r => rfl
theorem name_short {t : ByteArray} (h : t.size < 1 ∨ 16 < t.size) : Sch.name t = false := by
  have hs : t.data.toList.length = t.size := by rw [Array.length_toList]; rfl
  unfold Sch.name Sch.nameL
  rw [decide_eq_false (by omega)]
  rfl
theorem name_head {t : ByteArray} (h : 0 < t.size) (hc : Sch.low t[0] = false) : Sch.name t = false := by
  have hs : t.data.toList.length = t.size := by rw [Array.length_toList]; rfl
  unfold Sch.name Sch.nameL
  have e : t.data.toList.headD 0 = t[0] := by
    rw [← text_get t 0 h]
    exact headD_get (by omega)
  rw [e, hc, Bool.and_false, Bool.false_and]
theorem name_bad {t : ByteArray} (j : Nat) (h : j < t.size) (hc : Sch.ch t[j] = false) : Sch.name t = false := by
  have hs : t.data.toList.length = t.size := by rw [Array.length_toList]; rfl
  unfold Sch.name Sch.nameL
  have : t.data.toList.all Sch.ch = false := by
    rw [List.all_eq_false]
    refine ⟨t[j], ?_, by simp [hc]⟩
    rw [← text_get t j h]
    exact List.getElem_mem _
  rw [this, Bool.and_false]
theorem name_good {t : ByteArray} (h1 : 1 ≤ t.size) (h2 : t.size ≤ 16) (h3 : Sch.low (t[0]'(by omega)) = true) (h4 : ∀ j (h : j < t.size), Sch.ch t[j] = true) : Sch.name t = true := by
  have hs : t.data.toList.length = t.size := by rw [Array.length_toList]; rfl
  unfold Sch.name Sch.nameL
  have e : t.data.toList.headD 0 = t[0]'(by omega) := by
    rw [← text_get t 0 (by omega)]
    exact headD_get (by omega)
  have : t.data.toList.all Sch.ch = true := by
    rw [List.all_eq_true]
    intro x hx
    obtain ⟨j, hj, rfl⟩ := List.getElem_of_mem hx
    rw [text_get t j (by omega)]
    exact h4 j (by omega)
  rw [e, h3, this, decide_eq_true (by omega)]
  rfl

end Go.Proofs.YtlgmfeokamegiaaGreatDoor

/- The document's Find. -/
namespace Go.Proofs.YtlgmfeokamegiaaGreatDoor
open Go.RowKit

/-- what Find tells -/
def foundV (r : Option Nat) : Value := match r with
  | some k => .tuple #[.int .i64 k, .bool true]
  | none => .tuple #[.int .i64 0, .bool false]
theorem find_ge (n : ByteArray) : ∀ (s : List Col) (k j : Nat), Sch.find n s k = some j → k ≤ j
  | [], _, _, h => by simp [Sch.find] at h
  | c :: r, k, j, h => by
    rw [Sch.find] at h
    split at h
    · injection h; omega
    · have := find_ge n r (k + 1) j h; omega
theorem find_drop (n : ByteArray) (s : List Col) (j : Nat) (hj : j < s.length) : Sch.find n (s.drop j) j = if s[j].name = n then some j else Sch.find n (s.drop (j + 1)) (j + 1) := by
  rw [List.drop_eq_getElem_cons hj, Sch.find]

end Go.Proofs.YtlgmfeokamegiaaGreatDoor

/- The document's of, Is. -/
namespace Go.Proofs.YtlgmfeokamegiaaGreatDoor
open Go.RowKit

end Go.Proofs.YtlgmfeokamegiaaGreatDoor

/- Plain: when two schemas are the same, column by column. -/
namespace Go.Proofs.YtlgmfeokamegiaaGreatDoor

theorem sameS_ne : ∀ (s t : List Col), s.length ≠ t.length → Sch.same s t = false
  | [], [], h => absurd rfl h
  | [], _ :: _, _ => rfl
  | _ :: _, [], _ => rfl
  | c :: s, d :: t, h => by rw [Sch.same, sameS_ne s t (by simpa using h), Bool.and_false]
theorem sameS_at : ∀ (s t : List Col) (j : Nat) (h1 : j < s.length) (h2 : j < t.length), Sch.colSame s[j] t[j] = false → Sch.same s t = false
  | c :: s, d :: t, 0, _, _, h => by rw [Sch.same]; simp at h; rw [h, Bool.false_and]
  | c :: s, d :: t, j + 1, h1, h2, h => by rw [Sch.same, sameS_at s t j (by simpa using h1) (by simpa using h2) (by simpa using h), Bool.and_false]
theorem sameS_all : ∀ (s t : List Col), s.length = t.length → (∀ j (h1 : j < s.length) (h2 : j < t.length), Sch.colSame s[j] t[j] = true) → Sch.same s t = true
  | [], [], _, _ => rfl
  | [], _ :: _, h, _ => by simp at h
  | _ :: _, [], h, _ => by simp at h
  | c :: s, d :: t, h, ha => by
    rw [Sch.same, sameS_all s t (by simpa using h) (fun j h1 h2 => by have := ha (j + 1) (by simpa using h1) (by simpa using h2); simpa using this)]
    have := ha 0 (by simp) (by simp)
    simp at this
    rw [this]; rfl

end Go.Proofs.YtlgmfeokamegiaaGreatDoor

/- The walk of the document's own Get. -/
namespace Go.Proofs.YtlgmfeokamegiaaGreatDoor
open Go.RowKit

/-- what Get answers: the number, the place behind it, the error -/
def gotV (l : List UInt8) (a : Int) : Value := .tuple #[.int .u64 ((Leb.getAt l a).n : Nat), .int .i64 (Leb.nextAt l a), .int .i64 ((Leb.getAt l a).err : Nat)]

theorem gotV_out (l : List UInt8) (a : Int) (h : a < 0 ∨ (l.length : Int) ≤ a) : gotV l a = .tuple #[.int .u64 0, .int .i64 0, .int .i64 30] := by
  have e : Leb.getAt l a = ⟨30, 0, 0⟩ := by
    unfold Leb.getAt
    by_cases h0 : a < 0
    · rw [if_pos h0]
    · rw [if_neg h0, List.drop_eq_nil_of_le (by omega)]; rfl
  unfold gotV Leb.nextAt
  rw [e]; rfl
theorem gotV_bad (l : List UInt8) (a : Nat) (c : Nat) (hc : c ≠ 0) (h : Leb.get (l.drop a) = ⟨c, 0, 0⟩) : gotV l a = .tuple #[.int .u64 0, .int .i64 0, .int .i64 c] := by
  have e : Leb.getAt l a = ⟨c, 0, 0⟩ := by
    unfold Leb.getAt
    rw [if_neg (by omega)]
    exact h
  unfold gotV Leb.nextAt
  rw [e, if_neg hc]; rfl
theorem gotV_ok (l : List UInt8) (a n k : Nat) (h : Leb.get (l.drop a) = ⟨0, n, k⟩) : gotV l a = .tuple #[.int .u64 n, .int .i64 ((a : Int) + k), .int .i64 0] := by
  have e : Leb.getAt l a = ⟨0, n, k⟩ := by
    unfold Leb.getAt
    rw [if_neg (by omega)]
    exact h
  unfold gotV Leb.nextAt
  rw [e, if_pos rfl]; rfl

end Go.Proofs.YtlgmfeokamegiaaGreatDoor

/- In this stage nothing is asked of package leb by the laws themselves: the plain facts on its numbers come from here. -/

/- In this stage nothing is asked of package value by the laws themselves. -/
