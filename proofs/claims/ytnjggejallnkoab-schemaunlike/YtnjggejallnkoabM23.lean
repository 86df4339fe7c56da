/- WWhole, K7Pl, TBuilt: put together. -/
import Derived.Test.YtnjggejallnkoabM12
import Derived.Test.YtnjggejallnkoabM13
import Derived.Test.YtnjggejallnkoabM04
import Derived.Test.YtnjggejallnkoabM05
import Derived.Test.YtnjggejallnkoabM10
import Derived.Test.YtnjggejallnkoabM20

/- The law's own whole(a, b): two schemas, field by field. -/
namespace Go.Proofs.Ytnjggejallnkoab
open Go.RowKit

attribute [local go_sem] run_store_float

/-- two columns, floats bit by bit -/
def colWhole (c d : Col) : Bool := decide (c.name = d.name) && (c.has == d.has) && Ty.same c.ty d.ty && V.exact c.dflt d.dflt
def wholeL : List Col → List Col → Bool
  | [], [] => true
  | c :: r, d :: s => colWhole c d && wholeL r s
  | _, _ => false
theorem colWhole_iff (c d : Col) : colWhole c d = true ↔ c = d := by
  obtain ⟨n, t, a, v⟩ := c
  obtain ⟨n', t', a', v'⟩ := d
  unfold colWhole
  simp only [Bool.and_eq_true, decide_eq_true_eq, beq_iff_eq, Ty.same_iff, V.exact_iff, Col.mk.injEq]
  constructor
  · rintro ⟨⟨⟨h1, h2⟩, h3⟩, h4⟩; exact ⟨h1, h3, h2, h4⟩
  · rintro ⟨h1, h3, h2, h4⟩; exact ⟨⟨⟨h1, h2⟩, h3⟩, h4⟩
theorem wholeL_iff : ∀ s t : List Col, wholeL s t = true ↔ s = t
  | [], [] => by simp [wholeL]
  | [], _ :: _ => by simp [wholeL]
  | _ :: _, [] => by simp [wholeL]
  | c :: s, d :: t => by rw [wholeL, Bool.and_eq_true, colWhole_iff, wholeL_iff s t, List.cons.injEq]
theorem wholeL_ne : ∀ (s t : List Col), s.length ≠ t.length → wholeL s t = false
  | [], [], h => absurd rfl h
  | [], _ :: _, _ => rfl
  | _ :: _, [], _ => rfl
  | c :: s, d :: t, h => by rw [wholeL, wholeL_ne s t (by simpa using h), Bool.and_false]
theorem wholeL_at : ∀ (s t : List Col) (j : Nat) (h1 : j < s.length) (h2 : j < t.length), colWhole s[j] t[j] = false → wholeL s t = false
  | c :: s, d :: t, 0, _, _, h => by rw [wholeL]; simp at h; rw [h, Bool.false_and]
  | c :: s, d :: t, j + 1, h1, h2, h => by rw [wholeL, wholeL_at s t j (by simpa using h1) (by simpa using h2) (by simpa using h), Bool.and_false]
theorem wholeL_all : ∀ (s t : List Col), s.length = t.length → (∀ j (h1 : j < s.length) (h2 : j < t.length), colWhole s[j] t[j] = true) → wholeL s t = true
  | [], [], _, _ => rfl
  | [], _ :: _, h, _ => by simp at h
  | _ :: _, [], h, _ => by simp at h
  | c :: s, d :: t, h, ha => by
    rw [wholeL, wholeL_all s t (by simpa using h) (fun j h1 h2 => by have := ha (j + 1) (by simpa using h1) (by simpa using h2); simpa using this)]
    have := ha 0 (by simp) (by simp)
    simp at this
    rw [this]; rfl

set_option maxRecDepth 100000 in
set_option maxHeartbeats 2000000 in
theorem whole7 (s t : List Col) (p q : Option Addr) (c d : Nat) (w : World) (hs : s.length * 120 ≤ 140737488351232) (hx : Cols w p s) (hy : Cols w q t) :
    Calls Try.prog 12 #[.agg #[.slice p s.length c], .agg #[.slice q t.length d]] w fun e w' => e = .returned (.bool (wholeL s t)) ∧ Below w.heap.size w w' := by
  obtain ⟨W0, hW0⟩ : ∃ W0, W0 = (w.alloc (.cells #[.slice p s.length c] 24)).alloc (.cells #[.slice q t.length d] 24) := ⟨_, rfl⟩
  have HB0 : Hid (Below w.heap.size w W0) := by rw [hW0]; exact ((Below.refl _ _).alloc (Nat.le_refl _) _).alloc (by simp) _
  have HY0 : Hid (W0.cell? ⟨w.heap.size, 0, none⟩ = some (.slice p s.length c) ∧ W0.cell? ⟨w.heap.size + 1, 0, none⟩ = some (.slice q t.length d)) := by rw [hW0]; exact ⟨by simp, by simp⟩
  have HW0 := Lib.hid hW0
  have HX := Lib.hid hx
  have HY := Lib.hid hy
  clear hW0 hx hy
  by_cases h5 : ¬ s.length = t.length
  · have g5 : ((s.length : Int) != (t.length : Int)) = true := bne_t (by omega)
    have HE := Lib.hid (wholeL_ne s t h5)
    clear h5
    go_enter Try.func12, Try.ntmps12
    go_wp2
    rw [← HW0.out]
    go_ret
    exact ⟨by rw [HE.out]; rfl, HB0.out⟩
  replace h5 : s.length = t.length := Classical.not_not.1 h5
  have g5 : ((s.length : Int) != (t.length : Int)) = false := bne_f (by omega)
  have H5 := Lib.hid h5
  clear h5
  go_enter Try.func12, Try.ntmps12
  go_wp2_with fail
  rw [← HW0.out]
  clear HW0
  go_loopw [5] (fun v5 wr => ∃ j : Nat, j ≤ s.length ∧ v5 = .int .i64 j ∧ Hid (Below W0.heap.size W0 wr ∧ ∀ m (h1 : m < s.length) (h2 : m < t.length), m < j → colWhole s[m] t[m] = true)) (fun v5 _ => s.length - (intOf v5).toNat)
  case atStart => exact ⟨0, by omega, rfl, Below.refl _ _, fun m _ _ h => by omega⟩
  case round =>
    obtain ⟨j, hj, rfl, HL⟩ := hrel
    have hbw : Below w.heap.size w wr := HB0.out.trans (HL.out.1.mono HB0.out.size)
    have y1 : wr.cell? ⟨w.heap.size, 0, none⟩ = some (.slice p s.length c) := cell_on HL.out.1 HY0.out.1
    have y2 : wr.cell? ⟨w.heap.size + 1, 0, none⟩ = some (.slice q t.length d) := cell_on HL.out.1 HY0.out.2
    by_cases hlt : j < s.length
    · have hlt2 : j < t.length := by have := H5.out; omega
      have hj1 : (j : Int) < (s.length : Int) := by omega
      have hj2 : (j : Int) < (t.length : Int) := by omega
      obtain ⟨bx, ox, kx, xp, xn, xc, uk, ui, ub, ut, up, un, uc, rfl, hbx, h9x, htx, hdx⟩ := HX.out.at j hlt
      obtain ⟨by', oy, ky, yp, yn, yc, vk, vi, vb, vt, vp, vn, vc, rfl, hby, h9y, hty, hdy⟩ := HY.out.at j hlt2
      have hAs := h9x.on hbw
      have hBs := h9y.on hbw
      have HTs : Hid (∀ w', Below w.heap.size w w' → Calls Try.prog 27 #[.agg #[.int .i64 kx, .slice xp xn xc], .agg #[.int .i64 ky, .slice yp yn yc]] w' fun e w'' => e = .returned (.bool (Ty.same s[j].ty t[j].ty)) ∧ Below w'.heap.size w' w'') := fun w' hb => refSameType7 _ _ w' _ _ (htx.on hb) (hty.on hb)
      have HXs : Hid (∀ w', Below w.heap.size w w' → Calls Try.prog 28 #[.agg #[.int .i64 uk, .int .i64 ui, .float .f64 ub, .string ut, .slice up un uc], .agg #[.int .i64 vk, .int .i64 vi, .float .f64 vb, .string vt, .slice vp vn vc]] w' fun e w'' => e = .returned (.bool (V.exact s[j].dflt t[j].dflt)) ∧ Below w'.heap.size w' w'') := fun w' hb => exact6 _ _ w' _ _ (hdx.on hb) (hdy.on hb)
      have HCw : Hid (colWhole s[j] t[j] = (decide (s[j].name = t[j].name) && (s[j].has == t[j].has) && Ty.same s[j].ty t[j].ty && V.exact s[j].dflt t[j].dflt)) := rfl
      have HAll := Lib.hid HL.out.2
      have HBW := Lib.hid HL.out.1
      have HFalse : Hid (colWhole s[j] t[j] = false → wholeL s t = false) := fun h => wholeL_at s t j hlt hlt2 h
      have HTrue : Hid (colWhole s[j] t[j] = true → ∀ m (h1 : m < s.length) (h2 : m < t.length), m < j + 1 → colWhole s[m] t[m] = true) := fun h m h1 h2 hm => by
        by_cases hmj : m = j
        · subst hmj; exact h
        · exact HAll.out m h1 h2 (by omega)
      obtain ⟨cw, hcw⟩ : ∃ cw, cw = colWhole s[j] t[j] := ⟨_, rfl⟩
      rw [← hcw] at HCw HFalse HTrue
      obtain ⟨rt, hrt⟩ : ∃ rt, rt = Ty.same s[j].ty t[j].ty := ⟨_, rfl⟩
      rw [← hrt] at HTs HCw
      obtain ⟨rx, hrx⟩ : ∃ rx, rx = V.exact s[j].dflt t[j].dflt := ⟨_, rfl⟩
      rw [← hrx] at HXs HCw
      clear hcw hrt hrx h9x h9y htx hty hdx hdy HL
      generalize s[j].name = nx at *
      generalize t[j].name = ny at *
      generalize s[j].has = hx at *
      generalize t[j].has = hy at *
      obtain ⟨a0, a1, a2, a3, a4, a5, a6, a7, a8⟩ := hAs
      obtain ⟨wa, hwa⟩ : ∃ wa, wa = wr.alloc (.cells #[.string nx, .int .i64 kx, .slice xp xn xc, .bool hx, .int .i64 uk, .int .i64 ui, .float .f64 ub, .string ut, .slice up un uc] 48) := ⟨_, rfl⟩
      have hba : Below wr.heap.size wr wa := by rw [hwa]; exact (Below.refl _ _).alloc (Nat.le_refl _) _
      have hsa : wa.heap.size = wr.heap.size + 1 := by rw [hwa]; simp
      obtain ⟨b0, b1, b2, b3, b4, b5, b6, b7, b8⟩ := hBs.on hba
      have y2a := cell_on hba y2
      obtain ⟨wb, hwb⟩ : ∃ wb, wb = wa.alloc (.cells #[.string ny, .int .i64 ky, .slice yp yn yc, .bool hy, .int .i64 vk, .int .i64 vi, .float .f64 vb, .string vt, .slice vp vn vc] 48) := ⟨_, rfl⟩
      have hbb : Below wa.heap.size wa wb := by rw [hwb]; exact (Below.refl _ _).alloc (Nat.le_refl _) _
      have hbrb : Below wr.heap.size wr wb := hba.trans (hbb.mono (by omega))
      have HBwb := Lib.hid (hbw.trans (hbrb.mono hbw.size))
      have HBWb := Lib.hid (HBW.out.trans (hbrb.mono HBW.out.size))
      have H9x : Hid (At9 wb wr.heap.size 0 nx kx xp xn xc hx uk ui ub ut up un uc) := At9.on (w := wa) (by rw [hwa]; exact ⟨by simp, by simp, by simp, by simp, by simp, by simp, by simp, by simp, by simp⟩) hbb
      have H9y : Hid (At9 wb (wr.heap.size + 1) 0 ny ky yp yn yc hy vk vi vb vt vp vn vc) := by
        rw [← hsa, hwb]
        exact ⟨by simp, by simp, by simp, by simp, by simp, by simp, by simp, by simp, by simp⟩
      have HWa := Lib.hid hwa
      have HWb := Lib.hid hwb
      rw [hwa] at b0 b1 b2 b3 b4 b5 b6 b7 b8 y2a
      clear hwa hwb hba hbb hbrb hbw hBs HAll HBW
      go_wp2_with fail
      rw [← HWa.out, ← HWb.out]
      clear HWa HWb a0 a1 a2 a3 a4 a5 a6 a7 a8 b0 b1 b2 b3 b4 b5 b6 b7 b8 y1 y2 y2a
      refine (HTs.out wb HBwb.out).mono ?_
      rintro e w2 ⟨rfl, hb2⟩
      have HB2 := Lib.hid (HBwb.out.trans (hb2.mono HBwb.out.size))
      have HBW2 := Lib.hid (HBWb.out.trans (hb2.mono HBWb.out.size))
      obtain ⟨a0, a1, a2, a3, a4, a5, a6, a7, a8⟩ := H9x.out.on hb2
      obtain ⟨b0, b1, b2, b3, b4, b5, b6, b7, b8⟩ := H9y.out.on hb2
      clear hb2 HTs H9x H9y HBwb HBWb
      by_cases hnm : ¬ nx = ny
      · have gn : (nx.toList == ny.toList) = false := by rw [text_eq, decide_eq_false hnm]
        have HE : Hid (wholeL s t = false) := HFalse.out (by rw [HCw.out, decide_eq_false hnm, Bool.false_and, Bool.false_and, Bool.false_and])
        clear hnm HCw HFalse HTrue
        go_wp2
        go_ret
        exact ⟨by rw [HE.out]; rfl, HB2.out⟩
      replace hnm : nx = ny := Classical.not_not.1 hnm
      have gn : (nx.toList == ny.toList) = true := by rw [text_eq, decide_eq_true hnm]
      have HCw2 : Hid (cw = (hx == hy && rt && rx)) := by show _ = _; rw [HCw.out, decide_eq_true hnm, Bool.true_and]
      clear hnm HCw
      by_cases hhb : ¬ hx = hy
      · have HE : Hid (wholeL s t = false) := HFalse.out (by rw [HCw2.out, beq_eq_false_iff_ne.2 hhb, Bool.false_and, Bool.false_and])
        clear HCw2 HFalse HTrue
        cases hx
        · cases hy
          · exact absurd rfl hhb
          · clear hhb
            go_wp2
            go_ret
            exact ⟨by rw [HE.out]; rfl, HB2.out⟩
        · cases hy
          · clear hhb
            go_wp2
            go_ret
            exact ⟨by rw [HE.out]; rfl, HB2.out⟩
          · exact absurd rfl hhb
      replace hhb : hx = hy := Classical.not_not.1 hhb
      have HCw3 : Hid (cw = (rt && rx)) := by show _ = _; rw [HCw2.out, hhb, beq_self_eq_true, Bool.true_and]
      clear HCw2
      subst hhb
      cases hx
      all_goals
        cases rt with
        | false =>
          have HE : Hid (wholeL s t = false) := HFalse.out (by rw [HCw3.out, Bool.false_and])
          clear HCw3 HFalse HTrue
          go_wp2
          go_ret
          exact ⟨by rw [HE.out]; rfl, HB2.out⟩
        | true =>
          have HCw4 : Hid (cw = rx) := by show _ = _; rw [HCw3.out, Bool.true_and]
          clear HCw3
          go_wp2_with fail
          refine (HXs.out w2 HB2.out).mono ?_
          rintro e w3 ⟨rfl, hb3⟩
          have HB3 := Lib.hid (HB2.out.trans (hb3.mono HB2.out.size))
          have HBW3 := Lib.hid (HBW2.out.trans (hb3.mono HBW2.out.size))
          clear hb3 a0 a1 a2 a3 a4 a5 a6 a7 a8 b0 b1 b2 b3 b4 b5 b6 b7 b8 HXs
          cases rx with
          | false =>
            have HE : Hid (wholeL s t = false) := HFalse.out HCw4.out
            clear HCw4 HFalse HTrue
            go_wp2
            go_ret
            exact ⟨by rw [HE.out]; rfl, HB3.out⟩
          | true =>
            have HN : Hid (Below W0.heap.size W0 w3 ∧ ∀ m (h1 : m < s.length) (h2 : m < t.length), m < j + 1 → colWhole s[m] t[m] = true) := ⟨HBW3.out, HTrue.out HCw4.out⟩
            clear HCw4 HFalse HTrue
            go_wp2
            go_roundw
            case rel => exact ⟨j + 1, by omega, by go_num, HN⟩
            case measure => simp [intOf]; omega
    · have HF0 : Hid (wholeL s t = true) := wholeL_all s t H5.out (fun m h1 h2 => HL.out.2 m h1 h2 (by omega))
      have HF := Lib.hid hbw
      have hjn : ¬ (j : Int) < (s.length : Int) := by omega
      clear HL hbw hlt
      go_wp2
      go_ret
      exact ⟨by rw [HF0.out]; rfl, HF.out⟩
end Go.Proofs.Ytnjggejallnkoab

/- Plain: when two schemas are the same, column by column. -/
namespace Go.Proofs.Ytnjggejallnkoab

theorem sameS_ne : ∀ (s t : List Col), s.length ≠ t.length → Sch.same s t = false
  | [], [], h => absurd rfl h
  | [], _ :: _, _ => rfl
  | _ :: _, [], _ => rfl
  | c :: s, d :: t, h => by rw [Sch.same, sameS_ne s t (by simpa using h), Bool.and_false]
theorem sameS_at : ∀ (s t : List Col) (j : Nat) (h1 : j < s.length) (h2 : j < t.length), Sch.colSame s[j] t[j] = false → Sch.same s t = false
  | c :: s, d :: t, 0, _, _, h => by rw [Sch.same]; simp at h; rw [h, Bool.false_and]
  | c :: s, d :: t, j + 1, h1, h2, h => by rw [Sch.same, sameS_at s t j (by simpa using h1) (by simpa using h2) (by simpa using h), Bool.and_false]
theorem sameS_all : ∀ (s t : List Col), s.length = t.length → (∀ j (h1 : j < s.length) (h2 : j < t.length), Sch.colSame s[j] t[j] = true) → Sch.same s t = true
  | [], [], _, _ => rfl
  | [], _ :: _, h, _ => by simp at h
  | _ :: _, [], h, _ => by simp at h
  | c :: s, d :: t, h, ha => by
    rw [Sch.same, sameS_all s t (by simpa using h) (fun j h1 h2 => by have := ha (j + 1) (by simpa using h1) (by simpa using h2); simpa using this)]
    have := ha 0 (by simp) (by simp)
    simp at this
    rw [this]; rfl

end Go.Proofs.Ytnjggejallnkoab

/- How a type is built, item by item. -/
namespace Go.Proofs.Ytnjggejallnkoab
open Go.RowKit

theorem flat2_len (us : Nat → Array Value) : ∀ n, (∀ j, j < n → (us j).size = 2) → (flat us n).length = n * 2
  | 0, _ => by simp [flat]
  | n + 1, h => by
    rw [flat, List.length_append, flat2_len us n fun j hj => h j (by omega), Array.length_toList, h n (by omega)]; omega
theorem flat2_get (us : Nat → Array Value) : ∀ n, (∀ j, j < n → (us j).size = 2) → ∀ j, j < n → ∀ m, m < 2 → (flat us n)[j * 2 + m]? = (us j)[m]?
  | 0, _, j, hj, _, _ => by omega
  | n + 1, h, j, hj, m, hm => by
    have hl := flat2_len us n fun j hj => h j (by omega)
    rw [flat]
    rcases Nat.lt_or_ge j n with h1 | h1
    · rw [List.getElem?_append_left (by omega), flat2_get us n (fun j hj => h j (by omega)) j h1 m hm]
    · have hjn : j = n := by omega
      subst hjn
      rw [List.getElem?_append_right (by omega), hl, Nat.add_sub_cancel_left]
      simp

def zeroT : Value := .agg (cells2 0 none 0 0)
theorem info42 : (Try.prog.info? 42).map (fun i => (i.zero, i.size, i.bytes)) = some (some zeroT, 2, 32) := by kernel_rfl
theorem one2 {w : World} {F : Nat → Prop} {u : Array Value} {x : Ty} (h : TOwn w F u x) : ∀ a ∈ u.toList, a.oneCell' = true := by
  obtain ⟨k, p, n, c, rfl⟩ := h.shape
  intro a ha
  simp [cells2] at ha
  rcases ha with rfl | rfl <;> rfl
section
variable {B : Nat} {v : Value} {n : Nat} {us : Nat → Array Value} {w : World} {u : Array Value} {ad H : Nat}
/-- in the walk -/
theorem wp_moreT (hown : w.ownsRow B 42 2 v n (flat us n)) (h5 : u.size = 2) (h1 : ∀ a ∈ u.toList, a.oneCell' = true) (hblk : w.heap[ad]? = some (.cells u 42 (0, 0))) (hn : (n + 1) * 32 ≤ 140737488355328) (hB : B ≤ w.heap.size) (hH : w.heap.size = H)
    {ops : Array Oper} {rest : List Oper} {o : Oper} {a : Act} {Q : Exit → Act → World → Prop} {y x : Operand}
    (hg : o.guard = none) (hop : o.op = Op.call { callee := Callee.builtin Builtin.append, args := #[y, x], argTypes := #[40, 40] })
    (hs : a.eval y = v) (hx : a.eval x = .slice (some ⟨ad, 0, none⟩) 1 1)
    (hK : ∀ g cap w', w'.ownsRow B 42 2 (.slice (some ⟨g, 0, none⟩) (n + 1) cap) (n + 1) (flat us n ++ u.toList) → w.grownBy w' v.ownBlock → (v.ownBlock = some g ∨ g = H) → wpList Try.prog ops Q rest (a.put o.dst (.slice (some ⟨g, 0, none⟩) (n + 1) cap)) w') :
    wpList Try.prog ops Q (o :: rest) a w := by
  obtain ⟨i, hi, hz, hsz, hby⟩ := info_parts info42
  exact wpList_append_lies w hg y x 40 hop B 42 i zeroT 2 32 Try.underlying40 hi hz hsz hby rfl (by decide) v n (flat us n) hs hown ⟨ad, 0, none⟩ 1 1 u.toList hx (by simp [h5])
    (World.news_of_block hblk) h1 (by decide) (by unfold maxLen; omega) hn hB H hH fun g cap w' h2 h3 h4 _ => hK g cap w' h2 h3 h4
/-- at a step of a region that draws -/
theorem step_moreT (hown : w.ownsRow B 42 2 v n (flat us n)) (h5 : u.size = 2) (h1 : ∀ a ∈ u.toList, a.oneCell' = true) (hblk : w.heap[ad]? = some (.cells u 42 (0, 0))) (hn : (n + 1) * 32 ≤ 140737488355328) (hB : B ≤ w.heap.size) (hH : w.heap.size = H)
    {ops : Array Oper} {o : Oper} {a : Act} {K : Act → World → Prop} {Q : Exit → Act → World → Prop} {E : Prop} (y x : Operand)
    (hg : o.guard = none) (hop : o.op = Op.call { callee := Callee.builtin Builtin.append, args := #[y, x], argTypes := #[40, 40] })
    (hs : a.eval y = v) (hx : a.eval x = .slice (some ⟨ad, 0, none⟩) 1 1)
    (hK : ∀ g cap w', w'.ownsRow B 42 2 (.slice (some ⟨g, 0, none⟩) (n + 1) cap) (n + 1) (flat us n ++ u.toList) → w.grownBy w' v.ownBlock → (v.ownBlock = some g ∨ g = H) → K (a.put o.dst (.slice (some ⟨g, 0, none⟩) (n + 1) cap)) w') :
    if Region.wanted o (yielded ops a.tmps) = true then Oper.wp Try.prog o a w K Q else E := by
  obtain ⟨i, hi, hz, hsz, hby⟩ := info_parts info42
  exact step_append_lies w hg y x 40 hop B 42 i zeroT 2 32 Try.underlying40 hi hz hsz hby rfl (by decide) v n (flat us n) hs hown ⟨ad, 0, none⟩ 1 1 u.toList hx (by simp [h5])
    (World.news_of_block hblk) h1 (by decide) (by unfold maxLen; omega) hn hB H hH fun g cap w' h2 h3 h4 _ => hK g cap w' h2 h3 h4
end


/-- types that are built: they lie in a row of the call's own, and each in blocks of its own -/
structure TBuilt (w : World) (B : Nat) (v : Value) (n : Nat) (us : Nat → Array Value) (Fs : Nat → Nat → Prop) (ys : List Ty) : Prop where
  len : ys.length = n
  five : ∀ j, j < n → (us j).size = 2
  row : w.ownsRow B 42 2 v n (flat us n)
  own : ∀ j (h : j < ys.length), TOwn w (Fs j) (us j) ys[j]
  apart : ∀ j m, j < n → m < n → j ≠ m → ∀ k, Fs j k → ¬ Fs m k
  beside : ∀ g, v.ownBlock = some g → ∀ j, j < n → ¬ Fs j g
  range : ∀ j, j < n → ∀ k, Fs j k → B ≤ k ∧ k < w.heap.size

theorem tbuilt_nil (w : World) (B : Nat) : TBuilt w B (.slice none 0 0) 0 (fun _ => #[]) (fun _ _ => False) [] :=
  ⟨rfl, fun j hj => by omega, World.ownsRow_nil _ _ _ _, fun j hj => by simp at hj, fun j m hj => by omega, fun g hg => by simp [Value.ownBlock] at hg, fun j hj => by omega⟩

section
variable {w w' : World} {B : Nat} {v : Value} {n : Nat} {us : Nat → Array Value} {Fs : Nat → Nat → Prop} {ys : List Ty}
theorem TBuilt.aside {G : Nat → Prop} (h : TBuilt w B v n us Fs ys) (ha : Aside G w w') (h1 : ∀ g, v.ownBlock = some g → ¬ G g) (h2 : ∀ j, j < n → ∀ k, Fs j k → ¬ G k) : TBuilt w' B v n us Fs ys := by
  refine ⟨h.len, h.five, ?_, fun j hj => (h.own j hj).aside ha (h2 j (by rw [← h.len]; exact hj)), h.apart, h.beside, fun j hj k hk => ⟨(h.range j hj k hk).1, Nat.lt_of_lt_of_le (h.range j hj k hk).2 ha.size⟩⟩
  refine ⟨h.row.1, ?_⟩
  rcases h.row.2 with h3 | ⟨g, cap, cur, rfl, h4, h5, h6⟩
  · exact .inl h3
  · exact .inr ⟨g, cap, cur, rfl, h4, by rw [ha.block g (Array.getElem?_eq_some_iff.1 h5).1 (h1 g rfl)]; exact h5, h6⟩
theorem TBuilt.lt (h : TBuilt w B v n us Fs ys) : ∀ g, v.ownBlock = some g → B ≤ g ∧ g < w.heap.size := World.ownsRow.lt h.row
theorem TBuilt.on (h : TBuilt w B v n us Fs ys) (hb : Below w.heap.size w w') : TBuilt w' B v n us Fs ys :=
  h.aside (aside_new hb (fun _ => False)) (fun _ _ hc => hc) (fun _ _ _ _ hc => hc)
theorem TBuilt.set (h : TBuilt w B v n us Fs ys) (p : Addr) (u : Value) (hp : p.block < B) : TBuilt (w.setCell p u) B v n us Fs ys :=
  h.aside (G := fun k => k = p.block) ((Aside.refl (fun k => k = p.block) w).setCell (p := p) (.inl rfl) u) (fun g hg hc => by have := (h.lt g hg).1; omega) (fun j hj k hk hc => by have := (h.range j hj k hk).1; omega)

/-- one more -/
theorem TBuilt.step {w2 w3 w4 : World} {u : Array Value} {F : Nat → Prop} {x : Ty} {g cap : Nat} (h : TBuilt w B v n us Fs ys) (hb : Below w.heap.size w w2) (hx : TOwn w2 F u x) (hF : ∀ k, F k → w.heap.size ≤ k ∧ k < w2.heap.size) (hb3 : Below w2.heap.size w2 w3) (hB : B ≤ w.heap.size)
    (hr : w4.ownsRow B 42 2 (.slice (some ⟨g, 0, none⟩) (n + 1) cap) (n + 1) (flat us n ++ u.toList)) (hg : w3.grownBy w4 v.ownBlock) (hn : v.ownBlock = some g ∨ g = w3.heap.size) :
    TBuilt w4 B (.slice (some ⟨g, 0, none⟩) (n + 1) cap) (n + 1) (fun j => if j = n then u else us j) (fun j => if j = n then F else Fs j) (ys ++ [x]) := by
  have hs := hb.size
  have hs3 := hb3.size
  have ha : Aside (fun k => v.ownBlock = some k) w2 w4 := by
    refine (aside_new hb3 _).trans (G := fun k => v.ownBlock = some k) ⟨hg.os, hg.tape, hg.output, hg.size, fun k hk hf => hg.block k hk (fun hc => hf hc.symm)⟩ (fun _ _ h => h)
  have hgF : ∀ k, F k → ¬ v.ownBlock = some k := fun k hk hc => by have := (h.lt k hc).2; have := (hF k hk).1; omega
  have hn1 : ∀ j, j < n + 1 → j ≠ n → j < n := fun j h1 h2 => by omega
  refine ⟨by rw [List.length_append, h.len]; rfl, fun j hj => ?_, ?_, fun j hj => ?_, fun j m hj hm hjm k hk => ?_, fun g' hg' j hj => ?_, fun j hj k hk => ?_⟩
  · split
    · exact hx.five
    · exact h.five j (by omega)
  · rw [flat, flat_congr _ us n (fun j hj => by simp [show ¬ j = n by omega])]
    simpa using hr
  · rw [List.length_append, h.len, List.length_singleton] at hj
    by_cases hjn : j = n
    · subst hjn
      rw [if_pos rfl, if_pos rfl, List.getElem_append_right (by rw [h.len]; exact Nat.le_refl _)]
      simp only [h.len, Nat.sub_self, List.getElem_singleton]
      exact hx.aside ha hgF
    · rw [if_neg hjn, if_neg hjn, List.getElem_append_left (by rw [h.len]; omega)]
      exact ((h.own j (by rw [h.len]; omega)).under hb (fun k hk => (h.range j (by omega) k hk).2)).aside ha (fun k hk hc => h.beside k hc j (by omega) hk)
  · by_cases hjn : j = n
    · rw [if_pos hjn] at hk
      rw [if_neg (by omega)]
      exact fun hc => by have := (h.range m (by omega) k hc).2; have := (hF k hk).1; omega
    · rw [if_neg hjn] at hk
      by_cases hmn : m = n
      · rw [if_pos hmn]
        exact fun hc => by have := (h.range j (by omega) k hk).2; have := (hF k hc).1; omega
      · rw [if_neg hmn]
        exact h.apart j m (by omega) (by omega) hjm k hk
  · simp only [Value.ownBlock, Option.some.injEq] at hg'
    subst hg'
    by_cases hjn : j = n
    · rw [if_pos hjn]
      intro hc
      have := hF _ hc
      rcases hn with hn | hn
      · exact hgF _ hc hn
      · omega
    · rw [if_neg hjn]
      intro hc
      rcases hn with hn | hn
      · exact h.beside _ hn j (by omega) hc
      · have := (h.range j (by omega) _ hc).2; omega
  · have h4 := ha.size
    by_cases hjn : j = n
    · rw [if_pos hjn] at hk
      have := hF k hk; omega
    · rw [if_neg hjn] at hk
      have := h.range j (by omega) k hk; omega

/-- what is built is a value that lies in blocks of its own -/
theorem TBuilt.done (h : TBuilt w B v n us Fs ys) (hl : n * 32 ≤ 140737488351232) (k : Int) : ∃ p c, v = .slice p n c ∧ TOwn w (fun k => B ≤ k ∧ k < w.heap.size) (cells2 k p n c) (.mk k ys) := by
  rcases h.row.2 with ⟨rfl, h0⟩ | ⟨g, cap, cur, rfl, h1, h2, h3, h4, h5, h6⟩
  · have hy : ys = [] := List.eq_nil_of_length_eq_zero (by rw [h.len]; exact h0)
    subst hy
    subst h0
    exact ⟨none, 0, rfl, .none⟩
  · refine ⟨_, cap, rfl, ?_⟩
    have hg := (Array.getElem?_eq_some_iff.1 h2).1
    have hlen := h.len
    have hcell : ∀ q, q < n * 2 → w.cell? ⟨g, q, none⟩ = (flat us n)[q]? := fun q hq => by
      rw [← h6, List.getElem?_take_of_lt hq]
      simp [World.cell?, h2]
    subst hlen
    refine .some us Fs hl h3 h.five ⟨hg, fun j hj m hm => ?_⟩ (fun j hj m hm => by simp [World.frozen?, h2]) ⟨h1, hg⟩ (fun j hj => h.beside g rfl j hj) h.apart (fun j hj k hk => h.range j hj k hk) h.own
    rw [Nat.zero_add, hcell _ (by omega), flat2_get us _ h.five j hj m hm]
end

/-- what a fresh value's call answers -/
def FreshT (w : World) (y : Ty) (e : Ending) (w' : World) : Prop := ∃ u', e = .returned (.agg u') ∧ TOwn w' (fun k => w.heap.size ≤ k ∧ k < w'.heap.size) u' y ∧ Below w.heap.size w w'

/-- while a value is built: its parameter stands in the first block, its answer's place in the next, the value in the third; j items are there -/
structure MakingT (w : World) (C0 : Array Value) (k : Int) (zs : List Ty) (j : Nat) (v : Value) (wr : World) : Prop where
  built : ∃ us Fs, TBuilt wr (w.heap.size + 3) v j us Fs (zs.take j)
  b0 : wr.heap[w.heap.size]? = some (.cells C0 42 (0, 0))
  b1 : wr.heap[w.heap.size + 1]? = some (.cells (cells2 0 none 0 0) 42 (0, 0))
  b2 : wr.heap[w.heap.size + 2]? = some (.cells #[.int .i64 k, v] 42 (0, 0))
  below : Below w.heap.size w wr
  size : w.heap.size + 3 ≤ wr.heap.size

section
variable {w wr : World} {C0 : Array Value} {k : Int} {zs : List Ty} {j : Nat} {v : Value}
theorem makingT_start (w : World) (C0 : Array Value) (k : Int) (zs : List Ty) :
    MakingT w C0 k zs 0 (.slice none 0 0) (((w.alloc (.cells C0 42)).alloc (.cells (cells2 0 none 0 0) 42)).alloc (.cells #[.int .i64 k, .slice none 0 0] 42)) := by
  refine ⟨⟨_, _, tbuilt_nil _ _⟩, ?_, ?_, ?_, ((((Below.refl _ w).alloc (Nat.le_refl _) _).alloc (by simp) _).alloc (by simp; omega) _), by simp⟩
  · rw [blk_old _ _ (by simp; omega), blk_old _ _ (by simp)]; exact blk_new w _
  · rw [blk_old _ _ (by simp)]
    have := blk_new (w.alloc (.cells C0 42)) (.cells (cells2 0 none 0 0) 42)
    simpa using this
  · have := blk_new ((w.alloc (.cells C0 42)).alloc (.cells (cells2 0 none 0 0) 42)) (.cells #[.int .i64 k, .slice none 0 0] 42)
    simpa using this

theorem MakingT.slice (h : MakingT w C0 k zs j v wr) : ∃ p c, v = .slice p j c := by
  obtain ⟨us, Fs, hb⟩ := h.built
  rcases hb.row.2 with ⟨h1, h2⟩ | ⟨g, cap, cur, h1, _⟩
  · exact ⟨none, 0, by rw [h1, h2]⟩
  · exact ⟨_, cap, h1⟩

theorem MakingT.next {w2 w3 w4 : World} {u : Array Value} {F : Nat → Prop} {g cap : Nat} {us : Nat → Array Value} {Fs : Nat → Nat → Prop} (h : MakingT w C0 k zs j v wr) (hbt : TBuilt wr (w.heap.size + 3) v j us Fs (zs.take j)) (hj : j < zs.length) (hb : Below wr.heap.size wr w2) (hx : TOwn w2 F u zs[j])
    (hF : ∀ k, F k → wr.heap.size ≤ k ∧ k < w2.heap.size) (hb3 : Below w2.heap.size w2 w3)
    (hr : w4.ownsRow (w.heap.size + 3) 42 2 (.slice (some ⟨g, 0, none⟩) (j + 1) cap) (j + 1) (flat us j ++ u.toList)) (hg : w3.grownBy w4 v.ownBlock) (hn : v.ownBlock = some g ∨ g = w3.heap.size) :
    Below w.heap.size w w4 ∧ (∀ n, n < 3 → w4.heap[w.heap.size + n]? = wr.heap[w.heap.size + n]?) ∧ MakingT w C0 k zs (j + 1) (.slice (some ⟨g, 0, none⟩) (j + 1) cap) (w4.setCell ⟨w.heap.size + 2, 1, none⟩ (.slice (some ⟨g, 0, none⟩) (j + 1) cap)) := by
  have hs := h.size
  have hs2 := hb.size
  have hs3 := hb3.size
  have hst := hbt.step hb hx hF hb3 hs hr hg hn
  have hold : ∀ n, n < 3 → w4.heap[w.heap.size + n]? = wr.heap[w.heap.size + n]? := fun n hn => by
    rw [hg.block _ (by omega) (fun hc => by have := (hbt.lt _ hc.symm).1; omega), hb3.block _ (by omega), hb.block _ (by omega)]
  have hb4 : Below w.heap.size w w4 := ((h.below.trans (hb.mono (by omega))).trans (hb3.mono (by omega))).grown hg (by omega) (fun k hk => by have := (hbt.lt k hk).1; omega)
  refine ⟨hb4, hold, ⟨⟨(fun n => if n = j then u else us n), (fun n => if n = j then F else Fs n), ?_⟩, ?_, ?_, ?_, ?_, ?_⟩⟩
  · rw [List.take_succ_eq_append_getElem hj]
    exact hst.set ⟨w.heap.size + 2, 1, none⟩ _ (by show w.heap.size + 2 < _; omega)
  · have := hold 0 (by omega)
    rw [Nat.add_zero] at this
    exact blk_set_far (this.trans h.b0) _ _ (by show w.heap.size ≠ w.heap.size + 2; omega)
  · exact blk_set_far ((hold 1 (by omega)).trans h.b1) _ _ (by show w.heap.size + 1 ≠ w.heap.size + 2; omega)
  · rw [blk_set ((hold 2 (by omega)).trans h.b2)]
    rfl
  · exact hb4.setCell (by show w.heap.size ≤ w.heap.size + 2; omega) _
  · have := hg.size
    simp [World.setCell]
    omega


theorem MakingT.finish {q : Option Addr} {d : Nat} (h : MakingT w C0 k zs j (.slice q j d) wr) (hj : j = zs.length) (hl : j * 32 ≤ 140737488351232) :
    (put2 wr (w.heap.size + 1) k (.slice q j d)).heap[w.heap.size + 1]? = some (.cells (cells2 k q j d) 42 (0, 0)) ∧ FreshT w (.mk k zs) (.returned (.agg (cells2 k q j d))) (put2 wr (w.heap.size + 1) k (.slice q j d)) := by
  unfold put2
  refine ⟨?_, _, rfl, ?_, ?_⟩
  · rw [blk_set (blk_set h.b1 0 _) 1 _]
    rfl
  · obtain ⟨us, Fs, hb⟩ := h.built
    have hp : ∀ m, (⟨w.heap.size + 1, m, none⟩ : Addr).block < w.heap.size + 3 := fun m => by show w.heap.size + 1 < _; omega
    have h5 := (hb.set ⟨w.heap.size + 1, 0, none⟩ (.int .i64 k) (hp 0)).set ⟨w.heap.size + 1, 1, none⟩ (.slice q j d) (hp 1)
    obtain ⟨p', c', he, hv⟩ := h5.done hl k
    injection he with h6 h7 h8
    subst h6 h8
    rw [hj, List.take_length] at hv
    rw [← hj] at hv
    exact hv.mono fun k hk => ⟨by omega, hk.2⟩
  · have hp : ∀ m, w.heap.size ≤ (⟨w.heap.size + 1, m, none⟩ : Addr).block := fun m => by show _ ≤ w.heap.size + 1; omega
    exact (h.below.setCell (hp 0) _).setCell (hp 1) _
end
end Go.Proofs.Ytnjggejallnkoab
