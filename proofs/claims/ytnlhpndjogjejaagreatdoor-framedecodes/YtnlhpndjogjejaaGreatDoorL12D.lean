/- FrameDecodes, walked. -/
import Derived.Test.YtnlhpndjogjejaaGreatDoorW12B
import Derived.Test.YtnlhpndjogjejaaGreatDoorW12F
import Derived.Test.YtnlhpndjogjejaaGreatDoorWR12S
import Derived.Test.YtnlhpndjogjejaaGreatDoorWR12I
namespace Go.Proofs.YtnlhpndjogjejaaGreatDoor
open Go.RowKit

/-- the error and the frame that are told -/
def outF : Except Nat Fr → Nat × Fr
  | .error k => (k, Fr0)
  | .ok f => (0, f)
theorem decF_all {w w' : World} {r : Except Nat Fr} {e : Ending} (h : DecF w r e w') : ∃ u, e = .returned (.tuple #[.agg u, .int .i64 ((outF r).1 : Nat)]) ∧ FOwn w' w.heap.size u (outF r).2 ∧ Below w.heap.size w w' ∧ ∀ k, r = .error k → u = #[.int .i64 0, .int .i64 0, .slice none 0 0, .int .i64 0, .int .i64 0, .int .i64 0, .slice none 0 0, .int .i64 0, .int .i64 0, .int .i64 0, .slice none 0 0] := by
  cases r with
  | error k => exact ⟨_, h.1, fown_zero _ _, h.2, fun _ _ => rfl⟩
  | ok f =>
    obtain ⟨u, h1, h2, h3⟩ := h
    exact ⟨u, h1, h2, h3, fun k hk => by cases hk⟩
theorem plain_out (l : List UInt8) (u : Array Value) (w : World) (hl : FLies w u (outF (Fr.dec l)).2) (hz : ∀ k, Fr.dec l = .error k → u = #[.int .i64 0, .int .i64 0, .slice none 0 0, .int .i64 0, .int .i64 0, .int .i64 0, .slice none 0 0, .int .i64 0, .int .i64 0, .int .i64 0, .slice none 0 0]) : Calls Tryz.prog 7 #[.agg u] w fun e w' => e = .returned (.bool true) ∧ Below w.heap.size w w' := by
  cases hd : Fr.dec l with
  | error k => rw [hz k hd]; exact plain_0 w
  | ok f =>
    rw [hd] at hl
    have h2 := Fr.dec_ok hd
    exact plainF f h2.2.2.1 h2.2.2.2.2 u w hl
/-- a block of so many cells that may be written -/
def Sized12 (w : World) (g n : Nat) : Prop := ∃ (C : Array Value) (T : TypeId), w.heap[g]? = some (.cells C T (0, 0)) ∧ C.size = n
theorem Sized12.set {w : World} {g n : Nat} (h : Sized12 w g n) (g' i : Nat) (u : Value) : Sized12 (w.setCell ⟨g', i, none⟩ u) g n := by
  obtain ⟨C, T, h1, h2⟩ := h
  by_cases e : g' = g
  · subst e
    refine ⟨C.setIfInBounds i u, T, ?_, by simpa using h2⟩
    simp only [World.setCell, Array.getElem?_modify, h1, if_true, Option.map_some]
    rw [if_neg (by simp)]
  · refine ⟨C, T, ?_, h2⟩
    rw [Below.heap_setCell _ _ _ _ (fun hc => e hc.symm)]
    exact h1
theorem Sized12.cell {w : World} {g n : Nat} (h : Sized12 w g n) (i : Nat) (hi : i < n) : (∃ v, w.cell? ⟨g, i, none⟩ = some v) ∧ w.frozen? ⟨g, i, none⟩ = false := by
  obtain ⟨C, T, h1, h2⟩ := h
  constructor
  · refine ⟨C[i]'(by omega), ?_⟩
    simp only [World.cell?, h1]
    simp [h2, hi]
  · simp [World.frozen?, h1]
theorem Sized12.aside {w w' : World} {F : Nat → Prop} {g n : Nat} (h : Sized12 w g n) (ha : Aside F w w') (hF : ¬ F g) : Sized12 w' g n := by
  obtain ⟨C, T, h1, h2⟩ := h
  exact ⟨C, T, by rw [ha.block g (lies_lt12 h1) hF]; exact h1, h2⟩
theorem has_sized {w : World} {B : Nat} {p : Option Addr} {c : Nat} {l : List UInt8} (h : Has w B (.slice p l.length c) l) (hp : 0 < l.length) : ∃ g, p = some ⟨g, 0, none⟩ ∧ B ≤ g ∧ g < w.heap.size ∧ Sized12 w g c ∧ l.length ≤ c := by
  rcases h.2 with ⟨he, h0⟩ | ⟨g, cap, cur, he, h1, h2, h3, _, h5, _⟩
  · omega
  · injection he with e1 _ e2
    subst e1 e2
    exact ⟨g, rfl, h1, lies_lt12 h2, ⟨cur, _, h2, by simpa using h5⟩, h3⟩
theorem eown_sized {w : World} {B : Nat} {p : Option Addr} {c : Nat} {es : List Ent} (h : EOwn w B (.slice p es.length c) es) (hp : 0 < es.length) : ∃ g, p = some ⟨g, 0, none⟩ ∧ B ≤ g ∧ g < w.heap.size ∧ Sized12 w g (c * 3) ∧ es.length ≤ c := by
  rcases h.2 with ⟨he, h0⟩ | ⟨g, cap, cur, he, h1, h2, h3, _, h5, _⟩
  · omega
  · injection he with e1 _ e2
    subst e1 e2
    exact ⟨g, rfl, h1, lies_lt12 h2, ⟨cur, _, h2, h5⟩, h3⟩
theorem blk_all12 {w : World} {g : Nat} {T : TypeId} {c0 c1 c2 c3 c4 c5 c6 c7 c8 c9 c10 : Value} (h : w.heap[g]? = some (.cells #[c0, c1, c2, c3, c4, c5, c6, c7, c8, c9, c10] T (0, 0))) : w.cell? ⟨g, 0, none⟩ = some c0 ∧ w.cell? ⟨g, 1, none⟩ = some c1 ∧ w.cell? ⟨g, 2, none⟩ = some c2 ∧ w.cell? ⟨g, 3, none⟩ = some c3 ∧ w.cell? ⟨g, 4, none⟩ = some c4 ∧ w.cell? ⟨g, 5, none⟩ = some c5 ∧ w.cell? ⟨g, 6, none⟩ = some c6 ∧ w.cell? ⟨g, 7, none⟩ = some c7 ∧ w.cell? ⟨g, 8, none⟩ = some c8 ∧ w.cell? ⟨g, 9, none⟩ = some c9 ∧ w.cell? ⟨g, 10, none⟩ = some c10 :=
  ⟨blk_cell h 0, blk_cell h 1, blk_cell h 2, blk_cell h 3, blk_cell h 4, blk_cell h 5, blk_cell h 6, blk_cell h 7, blk_cell h 8, blk_cell h 9, blk_cell h 10⟩

set_option maxRecDepth 100000 in
set_option maxHeartbeats 8000000 in
theorem frameDecodes_any (HRf : ∀ (p : Option Addr) (c : Nat) (l : List UInt8), l.length ≤ 140737488351232 → ∀ w : World, At w p l → Calls Tryz.prog 5 #[.slice p l.length c] w (DecF w (Fr.dec l))) (p : Option Addr) (c : Nat) (l : List UInt8) (hl : l.length ≤ 140737488351232) (hlc : l.length ≤ c) (w : World) (hv : Hv w) (h : At w p l) :
    Calls Tryz.prog 3 #[.slice p l.length c] w fun e w' => e = .returned (.bool true) ∧ Below w.heap.size w w' := by
  have HHv := Lib.hid hv
  have HAt := Lib.hid h
  have HM := Lib.hid (mine_new w).has
  have HB0 : Hid (Below w.heap.size w (w.alloc (.cells #[] 5))) := (Below.refl _ _).alloc (Nat.le_refl _) _
  have HA0 := Lib.hid (h.on HB0.out)
  have HD := Lib.hid (fun w' (hb : Below w.heap.size w w') => (decodeF p c l hl hlc w' (HHv.out.next hb) (HAt.out.on hb)).mono (fun _ _ h => decF_all h))
  obtain ⟨er, her⟩ : ∃ er, er = (outF (Fr.dec l)).1 := ⟨_, rfl⟩
  obtain ⟨F, hF⟩ : ∃ F, F = (outF (Fr.dec l)).2 := ⟨_, rfl⟩
  rw [← her, ← hF] at HD
  have HFe := Lib.hid hF
  have HEe := Lib.hid her
  clear hv h her hF
  go_enter Tryz.func3, Tryz.ntmps3
  go_wp2_with (first
    | (at_builtin
       refine wp_ontoL (xs := []) HM.out HA0.out (by simp; omega) (by simp) rfl rfl rfl rfl rfl ?_
       intro ys qi ci W1 HY hh ha _
       have HB1 := Lib.hid (HB0.out.trans (aside_low ha HM.out (by simp)))
       have HIn := Lib.hid hh
       have hz1 := HB1.out.size
       clear hh ha)
    | fail)
  have hye : ys = l := HY.out
  subst hye
  clear HY HM HB0 HA0
  refine (HD.out _ HB1.out).mono ?_
  rintro e w2 ⟨u, rfl, ho2, hb2, hzz⟩
  obtain ⟨sp, sc, bp, bc, ep, ec, hu, -, hHas, hbk, hEo, hek⟩ := ho2.out
  subst hu
  unfold cells11 at ho2 hzz ⊢
  have HZz := Lib.hid hzz
  clear hzz
  have hb3 : Below w2.heap.size w2 (w2.alloc (.cells #[.int .i64 F.kind, .int .i64 F.number, .slice sp F.cols.length sc, .int .i64 F.seq, .int .i64 F.first, .int .i64 F.rows, .slice bp F.block.length bc, .int .i64 F.index.at_, .int .i64 F.index.frames, .int .i64 F.index.rows, .slice ep F.index.entries.length ec] 30)) := (Below.refl _ _).alloc (Nat.le_refl _) _
  have HO3 := Lib.hid (ho2.aside (aside_new hb3 (fun _ => False)) (fun _ _ _ hc => hc))
  have HHas := Lib.hid hHas
  have HEo := Lib.hid hEo
  have HB2 := Lib.hid hb2
  have hz2 := hb2.size
  have HB13 := Lib.hid (hb2.trans (hb3.mono hz2))
  obtain ⟨w3, hw3⟩ : ∃ w3, w3 = w2.alloc (.cells #[.int .i64 F.kind, .int .i64 F.number, .slice sp F.cols.length sc, .int .i64 F.seq, .int .i64 F.first, .int .i64 F.rows, .slice bp F.block.length bc, .int .i64 F.index.at_, .int .i64 F.index.frames, .int .i64 F.index.rows, .slice ep F.index.entries.length ec] 30) := ⟨_, rfl⟩
  have HW3 : Hid (w2.alloc (.cells #[.int .i64 F.kind, .int .i64 F.number, .slice sp F.cols.length sc, .int .i64 F.seq, .int .i64 F.first, .int .i64 F.rows, .slice bp F.block.length bc, .int .i64 F.index.at_, .int .i64 F.index.frames, .int .i64 F.index.rows, .slice ep F.index.entries.length ec] 30) = w3) := by rw [hw3]; exact rfl
  have HK3 : Hid (w3.heap[w2.heap.size]? = some (.cells #[.int .i64 F.kind, .int .i64 F.number, .slice sp F.cols.length sc, .int .i64 F.seq, .int .i64 F.first, .int .i64 F.rows, .slice bp F.block.length bc, .int .i64 F.index.at_, .int .i64 F.index.frames, .int .i64 F.index.rows, .slice ep F.index.entries.length ec] 30 (0, 0))) := by rw [hw3]; exact blk_new w2 _
  have hz3 : w3.heap.size = w2.heap.size + 1 := by rw [hw3]; simp
  rw [← hw3] at HO3 HB13 hb3
  have HB23 := Lib.hid hb3
  have HIn3 := Lib.hid (HIn.out.on HB13.out)
  have HIo : Hid (ys = [] ∨ ∃ b o, qi = some ⟨b, o, none⟩ ∧ b < W1.heap.size) := by
    obtain ⟨p', c', he, hA, -⟩ := HIn.out.at
    injection he with e1 _ e3
    subst e1
    rcases hA with h0 | ⟨b, o, h1, h2, -⟩
    · exact .inl h0
    · exact .inr ⟨b, o, h1, h2⟩
  have HRd : Hid (Calls Tryz.prog 5 #[.slice qi ys.length ci] w3 fun e w' => ∃ v, e = .returned (.tuple #[.agg v, .int .i64 (er : Nat)]) ∧ FOwn w' w3.heap.size v F ∧ Below w3.heap.size w3 w') := by
    obtain ⟨p', c', he, hA, -⟩ := HIn3.out.at
    injection he with e1 _ e3
    subst e1 e3
    rw [HEe.out, HFe.out]
    exact (HRf qi ci ys hl w3 hA).mono (fun _ _ h => by obtain ⟨v, h1, h2, h3, -⟩ := decF_all h; exact ⟨v, h1, h2, h3⟩)
  clear hw3 ho2 hHas hEo hb2 HIn
  go_wp2_with fail
  rw [HW3.out]
  refine HRd.out.mono ?_
  rintro e w4 ⟨v, rfl, ho4, hb4⟩
  obtain ⟨sq, sd, bq, bd, eq, ed, hvv, -⟩ := ho4.out
  subst hvv
  unfold cells11 at ho4 ⊢
  have hb5 : Below w4.heap.size w4 (w4.alloc (.cells #[.int .i64 F.kind, .int .i64 F.number, .slice sq F.cols.length sd, .int .i64 F.seq, .int .i64 F.first, .int .i64 F.rows, .slice bq F.block.length bd, .int .i64 F.index.at_, .int .i64 F.index.frames, .int .i64 F.index.rows, .slice eq F.index.entries.length ed] 30)) := (Below.refl _ _).alloc (Nat.le_refl _) _
  obtain ⟨w5, hw5⟩ : ∃ w5, w5 = w4.alloc (.cells #[.int .i64 F.kind, .int .i64 F.number, .slice sq F.cols.length sd, .int .i64 F.seq, .int .i64 F.first, .int .i64 F.rows, .slice bq F.block.length bd, .int .i64 F.index.at_, .int .i64 F.index.frames, .int .i64 F.index.rows, .slice eq F.index.entries.length ed] 30) := ⟨_, rfl⟩
  have HW5 : Hid (w4.alloc (.cells #[.int .i64 F.kind, .int .i64 F.number, .slice sq F.cols.length sd, .int .i64 F.seq, .int .i64 F.first, .int .i64 F.rows, .slice bq F.block.length bd, .int .i64 F.index.at_, .int .i64 F.index.frames, .int .i64 F.index.rows, .slice eq F.index.entries.length ed] 30) = w5) := by rw [hw5]; exact rfl
  have hK5 : w5.heap[w4.heap.size]? = some (.cells #[.int .i64 F.kind, .int .i64 F.number, .slice sq F.cols.length sd, .int .i64 F.seq, .int .i64 F.first, .int .i64 F.rows, .slice bq F.block.length bd, .int .i64 F.index.at_, .int .i64 F.index.frames, .int .i64 F.index.rows, .slice eq F.index.entries.length ed] 30 (0, 0)) := by rw [hw5]; exact blk_new w4 _
  have hz5 : w5.heap.size = w4.heap.size + 1 := by rw [hw5]; simp
  have hz4 := hb4.size
  rw [← hw5] at hb5
  have hb35 : Below w3.heap.size w3 w5 := hb4.trans (hb5.mono hz4)
  have HO5 := Lib.hid (ho4.aside (aside_new hb5 (fun _ => False)) (fun _ _ _ hc => hc))
  have HU5 := Lib.hid (HO3.out.aside (aside_new hb35 (fun _ => False)) (fun _ _ _ hc => hc))
  have hKf5 := (hb35.block _ (by omega)).trans HK3.out
  obtain ⟨a0, a1, a2, a3, a4, a5, a6, a7, a8, a9, a10⟩ := blk_all12 hKf5
  obtain ⟨b0, b1, b2, b3, b4, b5, b6, b7, b8, b9, b10⟩ := blk_all12 hK5
  have HSm := Lib.hid (refSame12 F F #[.int .i64 F.kind, .int .i64 F.number, .slice sp F.cols.length sc, .int .i64 F.seq, .int .i64 F.first, .int .i64 F.rows, .slice bp F.block.length bc, .int .i64 F.index.at_, .int .i64 F.index.frames, .int .i64 F.index.rows, .slice ep F.index.entries.length ec] #[.int .i64 F.kind, .int .i64 F.number, .slice sq F.cols.length sd, .int .i64 F.seq, .int .i64 F.first, .int .i64 F.rows, .slice bq F.block.length bd, .int .i64 F.index.at_, .int .i64 F.index.frames, .int .i64 F.index.rows, .slice eq F.index.entries.length ed] w5 HU5.out.lies HO5.out.lies)
  rw [Fr.same_refl] at HSm
  clear hw5 ho4 hb4
  have hee : ((er : Int) == (er : Int)) = true := by simp
  rw [← HW5.out] at a0 a1 a2 a3 a4 a5 a6 a7 a8 a9 a10 b0 b1 b2 b3 b4 b5 b6 b7 b8 b9 b10
  go_wp2_with fail
  rw [HW5.out]
  refine HSm.out.mono ?_
  rintro e w6 ⟨rfl, hb6⟩
  have hz6 := hb6.size
  have hKf6 := (hb6.block _ (by omega)).trans hKf5
  have hK6 := (hb6.block _ (by omega)).trans hK5
  have HU6 := Lib.hid (HU5.out.aside (aside_new hb6 (fun _ => False)) (fun _ _ _ hc => hc))
  have HO6 := Lib.hid (HO5.out.aside (aside_new hb6 (fun _ => False)) (fun _ _ _ hc => hc))
  have HPl : Hid (Calls Tryz.prog 7 #[.agg #[.int .i64 F.kind, .int .i64 F.number, .slice sp F.cols.length sc, .int .i64 F.seq, .int .i64 F.first, .int .i64 F.rows, .slice bp F.block.length bc, .int .i64 F.index.at_, .int .i64 F.index.frames, .int .i64 F.index.rows, .slice ep F.index.entries.length ec]] w6 fun e w' => e = .returned (.bool true) ∧ Below w6.heap.size w6 w') := plain_out ys #[.int .i64 F.kind, .int .i64 F.number, .slice sp F.cols.length sc, .int .i64 F.seq, .int .i64 F.first, .int .i64 F.rows, .slice bp F.block.length bc, .int .i64 F.index.at_, .int .i64 F.index.frames, .int .i64 F.index.rows, .slice ep F.index.entries.length ec] w6 (by rw [← HFe.out]; exact HU6.out.lies) HZz.out
  have hB36 := hb35.trans (hb6.mono (by omega))
  clear a0 a1 a2 a3 a4 a5 a6 a7 a8 a9 a10 b0 b1 b2 b3 b4 b5 b6 b7 b8 b9 b10 HSm HW5 HW3 HU5 HO5 hKf5 hK5 hb6 hb35 hb5 hb3
  obtain ⟨a0, a1, a2, a3, a4, a5, a6, a7, a8, a9, a10⟩ := blk_all12 hKf6
  obtain ⟨b0, b1, b2, b3, b4, b5, b6, b7, b8, b9, b10⟩ := blk_all12 hK6
  go_wp2_with fail
  refine HPl.out.mono ?_
  rintro e w7 ⟨rfl, hb7⟩
  have hz7 := hb7.size
  have hKf7 := (hb7.block _ (by omega)).trans hKf6
  have hK7 := (hb7.block _ (by omega)).trans hK6
  have HU7 := Lib.hid (HU6.out.aside (aside_new hb7 (fun _ => False)) (fun _ _ _ hc => hc))
  have HO7 := Lib.hid (HO6.out.aside (aside_new hb7 (fun _ => False)) (fun _ _ _ hc => hc))
  have HFl := Lib.hid (floats12 F #[.int .i64 F.kind, .int .i64 F.number, .slice sp F.cols.length sc, .int .i64 F.seq, .int .i64 F.first, .int .i64 F.rows, .slice bp F.block.length bc, .int .i64 F.index.at_, .int .i64 F.index.frames, .int .i64 F.index.rows, .slice ep F.index.entries.length ec] #[.int .i64 F.kind, .int .i64 F.number, .slice sq F.cols.length sd, .int .i64 F.seq, .int .i64 F.first, .int .i64 F.rows, .slice bq F.block.length bd, .int .i64 F.index.at_, .int .i64 F.index.frames, .int .i64 F.index.rows, .slice eq F.index.entries.length ed] w7 HU7.out.lies HO7.out.lies)
  have hB37 := hB36.trans (hb7.mono (by omega))
  clear a0 a1 a2 a3 a4 a5 a6 a7 a8 a9 a10 b0 b1 b2 b3 b4 b5 b6 b7 b8 b9 b10 HPl HU6 HO6 hKf6 hK6 hb7 hB36
  obtain ⟨a0, a1, a2, a3, a4, a5, a6, a7, a8, a9, a10⟩ := blk_all12 hKf7
  obtain ⟨b0, b1, b2, b3, b4, b5, b6, b7, b8, b9, b10⟩ := blk_all12 hK7
  go_wp2_with fail
  refine HFl.out.mono ?_
  rintro e w8 ⟨rfl, hb8⟩
  have hz8 := hb8.size
  have hKf8 := (hb8.block _ (by omega)).trans hKf7
  have hK8 := (hb8.block _ (by omega)).trans hK7
  have hB38 := hB37.trans (hb8.mono (by omega))
  have hB18 := HB13.out.trans (hB38.mono (by omega))
  have hIn8 : At w8 qi ys := by
    obtain ⟨p', c', he, hA, -⟩ := (HIn3.out.on hB38).at
    injection he with e1 _ e3
    subst e1
    exact hA
  have HO8 := Lib.hid (HO7.out.aside (aside_new hb8 (fun _ => False)) (fun _ _ _ hc => hc))
  have HS1 := Lib.hid (same_any p qi c ci ys ys hl w8 (HAt.out.on (HB1.out.trans (hB18.mono hz1))) hIn8)
  rw [show (ys == ys) = true from beq_self_eq_true _] at HS1
  clear a0 a1 a2 a3 a4 a5 a6 a7 a8 a9 a10 b0 b1 b2 b3 b4 b5 b6 b7 b8 b9 b10 HFl HU7 HO7 hKf7 hK7 hb8 hB37
  go_wp2_with fail
  refine HS1.out.mono ?_
  rintro e w9 ⟨rfl, n9, hw9⟩
  have hb9 : Below w8.heap.size w8 w9 := by rw [hw9]; exact below_drewN (Below.refl _ _) n9
  have hz9 := hb9.size
  have HKf9 := Lib.hid ((hb9.block _ (by omega)).trans hKf8)
  have HK9 := Lib.hid ((hb9.block _ (by omega)).trans hK8)
  have HO9 := Lib.hid (HO8.out.aside (aside_new hb9 (fun _ => False)) (fun _ _ _ hc => hc))
  have HIn9 := Lib.hid (hIn8.on hb9)
  have HB29 := Lib.hid (HB23.out.trans ((hB38.trans (hb9.mono (by omega))).mono (by omega)))
  have HB19 := Lib.hid (hB18.trans (hb9.mono (by omega)))
  have HB39 := Lib.hid (hB38.trans (hb9.mono (by omega)))
  clear hw9 hb9 HS1 hKf8 hK8 HO8 hIn8 hB38 hB18
  have HOb : Hid (∀ k, (Value.slice bp F.block.length bc).ownBlock = some k → W1.heap.size ≤ k ∧ k < w2.heap.size) := HHas.out.lt
  have HOe : Hid (∀ k, (Value.slice ep F.index.entries.length ec).ownBlock = some k → W1.heap.size ≤ k ∧ k < w2.heap.size) := HEo.out.lt
  have HSb : Hid (0 < F.block.length → ∃ g, bp = some ⟨g, 0, none⟩ ∧ Sized12 w9 g bc ∧ F.block.length ≤ bc) := by
    intro hp
    obtain ⟨g, h1, h2, h3, h4, h5⟩ := has_sized HHas.out hp
    exact ⟨g, h1, h4.aside (F := fun k => w2.heap.size ≤ k) (aside_of HB29.out (fun _ _ h => h)) (by omega), h5⟩
  have HSe : Hid (0 < F.index.entries.length → ∃ g5, ep = some ⟨g5, 0, none⟩ ∧ Sized12 w9 g5 (ec * 3) ∧ F.index.entries.length ≤ ec) := by
    intro hp
    obtain ⟨g, h1, h2, h3, h4, h5⟩ := eown_sized HEo.out hp
    exact ⟨g, h1, h4.aside (F := fun k => w2.heap.size ≤ k) (aside_of HB29.out (fun _ _ h => h)) (by omega), h5⟩
  clear HHas HEo HB29 HO3 HZz
  have HKc6 : Hid (∀ W, Aside (fun k => (Value.slice bp F.block.length bc).ownBlock = some k ∨ (Value.slice ep F.index.entries.length ec).ownBlock = some k) w9 W → W.heap[w2.heap.size]? = some (.cells #[.int .i64 F.kind, .int .i64 F.number, .slice sp F.cols.length sc, .int .i64 F.seq, .int .i64 F.first, .int .i64 F.rows, .slice bp F.block.length bc, .int .i64 F.index.at_, .int .i64 F.index.frames, .int .i64 F.index.rows, .slice ep F.index.entries.length ec] 30 (0, 0))) := by
    intro W hW
    rw [hW.block _ (lies_lt12 HKf9.out) (fun hc => by
      rcases hc with hc | hc
      · have := (HOb.out _ hc).2; omega
      · have := (HOe.out _ hc).2; omega)]
    exact HKf9.out
  go_wp2
  go_loopw [9] (fun v9 wr => ∃ i : Nat, i ≤ F.block.length ∧ v9 = .int .i64 i ∧ Hid (Aside (fun k => (Value.slice bp F.block.length bc).ownBlock = some k ∨ (Value.slice ep F.index.entries.length ec).ownBlock = some k) w9 wr ∧ (0 < F.block.length → ∃ g, bp = some ⟨g, 0, none⟩ ∧ Sized12 wr g bc ∧ F.block.length ≤ bc) ∧ (0 < F.index.entries.length → ∃ g5, ep = some ⟨g5, 0, none⟩ ∧ Sized12 wr g5 (ec * 3) ∧ F.index.entries.length ≤ ec))) (fun v9 _ => F.block.length - (intOf v9).toNat)
  case atStart => exact ⟨0, by omega, rfl, Aside.refl _ _, HSb.out, HSe.out⟩
  case round =>
    clear HSb HSe
    obtain ⟨i, hi, rfl, HI⟩ := hrel
    have hKr := HKc6.out wr HI.out.1
    have x6 := blk_cell hKr 6
    simp only [List.getElem?_toArray, List.getElem?_cons_zero, List.getElem?_cons_succ] at x6
    by_cases hlt : i < F.block.length
    · have hlt' : (i : Int) < (F.block.length : Int) := by omega
      obtain ⟨g, hg, hsz, hle⟩ := HI.out.2.1 (by omega)
      obtain ⟨⟨ov, oc⟩, fz⟩ := hsz.cell i (by omega)
      have HI2 : Hid (Aside (fun k => (Value.slice bp F.block.length bc).ownBlock = some k ∨ (Value.slice ep F.index.entries.length ec).ownBlock = some k) w9 (wr.setCell ⟨g, i, none⟩ (.int .u8 77)) ∧ (0 < F.block.length → ∃ g', bp = some ⟨g', 0, none⟩ ∧ Sized12 (wr.setCell ⟨g, i, none⟩ (.int .u8 77)) g' bc ∧ F.block.length ≤ bc) ∧ (0 < F.index.entries.length → ∃ g5, ep = some ⟨g5, 0, none⟩ ∧ Sized12 (wr.setCell ⟨g, i, none⟩ (.int .u8 77)) g5 (ec * 3) ∧ F.index.entries.length ≤ ec)) := by
        refine ⟨HI.out.1.setCell (p := ⟨g, i, none⟩) (.inl (.inl (by rw [hg]; rfl))) _, fun _ => ⟨g, hg, hsz.set _ _ _, hle⟩, fun hp => ?_⟩
        obtain ⟨g2, h1, h2, h3⟩ := HI.out.2.2 hp
        exact ⟨g2, h1, h2.set _ _ _, h3⟩
      rw [hg] at x6
      have HGe := Lib.hid hg
      clear HI hKr hsz hg
      go_wp2
      go_roundw
      case rel => exact ⟨i + 1, by omega, by go_num, HI2.out⟩
      case measure => simp [intOf]; omega
    · have hii : i = F.block.length := by omega
      subst hii
      have HA1 := Lib.hid HI.out.1
      have HSe1 := Lib.hid HI.out.2.2
      clear HI hKr
      go_wp2
      go_loopw [10] (fun v10 wr2 => ∃ i : Nat, i ≤ F.index.entries.length ∧ v10 = .int .i64 i ∧ Hid (Aside (fun k => (Value.slice bp F.block.length bc).ownBlock = some k ∨ (Value.slice ep F.index.entries.length ec).ownBlock = some k) w9 wr2 ∧ (0 < F.index.entries.length → ∃ g5, ep = some ⟨g5, 0, none⟩ ∧ Sized12 wr2 g5 (ec * 3) ∧ F.index.entries.length ≤ ec))) (fun v10 _ => F.index.entries.length - (intOf v10).toNat)
      case atStart => exact ⟨0, by omega, rfl, HA1.out, HSe1.out⟩
      case round =>
        clear HA1 HSe1 x6
        obtain ⟨j, hj, rfl, HJ⟩ := hrel
        have hKr := HKc6.out wr HJ.out.1
        have x10 := blk_cell hKr 10
        simp only [List.getElem?_toArray, List.getElem?_cons_zero, List.getElem?_cons_succ] at x10
        by_cases hlj : j < F.index.entries.length
        · have hlj' : (j : Int) < (F.index.entries.length : Int) := by omega
          obtain ⟨g, hg, hsz, hle⟩ := HJ.out.2 (by omega)
          obtain ⟨⟨o0, c0⟩, f0⟩ := hsz.cell (j * 3) (by omega)
          obtain ⟨⟨o1, c1⟩, f1⟩ := hsz.cell (j * 3 + 1) (by omega)
          obtain ⟨⟨o2, c2⟩, f2⟩ := hsz.cell (j * 3 + 2) (by omega)
          have hown : (Value.slice ep F.index.entries.length ec).ownBlock = some g := by rw [hg]; rfl
          have HJ2 : Hid (Aside (fun k => (Value.slice bp F.block.length bc).ownBlock = some k ∨ (Value.slice ep F.index.entries.length ec).ownBlock = some k) w9 (((wr.setCell ⟨g, j * 3, none⟩ (.int .i64 77)).setCell ⟨g, j * 3 + 1, none⟩ (.int .i64 0)).setCell ⟨g, j * 3 + 2, none⟩ (.int .i64 0)) ∧ (0 < F.index.entries.length → ∃ g5, ep = some ⟨g5, 0, none⟩ ∧ Sized12 (((wr.setCell ⟨g, j * 3, none⟩ (.int .i64 77)).setCell ⟨g, j * 3 + 1, none⟩ (.int .i64 0)).setCell ⟨g, j * 3 + 2, none⟩ (.int .i64 0)) g5 (ec * 3) ∧ F.index.entries.length ≤ ec)) :=
            ⟨((HJ.out.1.setCell (p := ⟨g, j * 3, none⟩) (.inl (.inr hown)) _).setCell (p := ⟨g, j * 3 + 1, none⟩) (.inl (.inr hown)) _).setCell (p := ⟨g, j * 3 + 2, none⟩) (.inl (.inr hown)) _, fun _ => ⟨g, hg, ((hsz.set _ _ _).set _ _ _).set _ _ _, hle⟩⟩
          rw [hg] at x10
          have HGe := Lib.hid hg
          clear HJ hKr hsz hg hown
          go_wp2
          go_roundw
          case rel => exact ⟨j + 1, by omega, by go_num, HJ2.out⟩
          case measure => simp [intOf]; omega
        · have hjj : j = F.index.entries.length := by omega
          subst hjj
          have HAl := Lib.hid HJ.out.1
          have HBl : Hid (Below W1.heap.size w9 wr) := HJ.out.1.below (by have := HB19.out.size; omega) (fun k hk hc => by
            rcases hc with hc | hc
            · have := (HOb.out k hc).1; omega
            · have := (HOe.out k hc).1; omega)
          have HBw : Hid (Below w.heap.size w wr) := HB1.out.trans ((HB19.out.trans HBl.out).mono hz1)
          have hz10 := HAl.out.size
          have HK10 : Hid (wr.heap[w4.heap.size]? = some (.cells #[.int .i64 F.kind, .int .i64 F.number, .slice sq F.cols.length sd, .int .i64 F.seq, .int .i64 F.first, .int .i64 F.rows, .slice bq F.block.length bd, .int .i64 F.index.at_, .int .i64 F.index.frames, .int .i64 F.index.rows, .slice eq F.index.entries.length ed] 30 (0, 0))) := by
            show _ = _
            rw [HAl.out.block _ (lies_lt12 HK9.out) (fun hc => by
              rcases hc with hc | hc
              · have := (HOb.out _ hc).2; omega
              · have := (HOe.out _ hc).2; omega)]
            exact HK9.out
          have HO10 := Lib.hid (HO9.out.aside HAl.out (fun k hk _ hc => by
            rcases hc with hc | hc
            · have := (HOb.out _ hc).2; omega
            · have := (HOe.out _ hc).2; omega))
          clear HJ hKr
          go_wp2_with fail
          refine (HD.out _ HBw.out).mono ?_
          rintro e w11 ⟨u', rfl, ho11, hb11, -⟩
          obtain ⟨sx, sy, bx, by_, ex, ey, hu', -⟩ := ho11.out
          subst hu'
          unfold cells11 at ho11 ⊢
          have hz11 := hb11.size
          have hb12 : Below w11.heap.size w11 (w11.alloc (.cells #[.int .i64 F.kind, .int .i64 F.number, .slice sx F.cols.length sy, .int .i64 F.seq, .int .i64 F.first, .int .i64 F.rows, .slice bx F.block.length by_, .int .i64 F.index.at_, .int .i64 F.index.frames, .int .i64 F.index.rows, .slice ex F.index.entries.length ey] 30)) := (Below.refl _ _).alloc (Nat.le_refl _) _
          obtain ⟨w12, hw12⟩ : ∃ w12, w12 = w11.alloc (.cells #[.int .i64 F.kind, .int .i64 F.number, .slice sx F.cols.length sy, .int .i64 F.seq, .int .i64 F.first, .int .i64 F.rows, .slice bx F.block.length by_, .int .i64 F.index.at_, .int .i64 F.index.frames, .int .i64 F.index.rows, .slice ex F.index.entries.length ey] 30) := ⟨_, rfl⟩
          have HW12 : Hid (w11.alloc (.cells #[.int .i64 F.kind, .int .i64 F.number, .slice sx F.cols.length sy, .int .i64 F.seq, .int .i64 F.first, .int .i64 F.rows, .slice bx F.block.length by_, .int .i64 F.index.at_, .int .i64 F.index.frames, .int .i64 F.index.rows, .slice ex F.index.entries.length ey] 30) = w12) := by rw [hw12]; exact rfl
          have HKx : Hid (w12.heap[w11.heap.size]? = some (.cells #[.int .i64 F.kind, .int .i64 F.number, .slice sx F.cols.length sy, .int .i64 F.seq, .int .i64 F.first, .int .i64 F.rows, .slice bx F.block.length by_, .int .i64 F.index.at_, .int .i64 F.index.frames, .int .i64 F.index.rows, .slice ex F.index.entries.length ey] 30 (0, 0))) := by rw [hw12]; exact blk_new w11 _
          have hz12 : w12.heap.size = w11.heap.size + 1 := by rw [hw12]; simp
          rw [← hw12] at hb12
          have hb1012 : Below wr.heap.size wr w12 := hb11.trans (hb12.mono hz11)
          have HX12 := Lib.hid (ho11.aside (aside_new hb12 (fun _ => False)) (fun _ _ _ hc => hc))
          have HBw12 := Lib.hid (HBw.out.trans (hb1012.mono HBw.out.size))
          have HLv := Lib.hid (live12 w12 (HHv.out.next HBw12.out))
          have HB1012 := Lib.hid hb1012
          clear hw12 ho11 hb11 hb12 hb1012
          go_wp2_with fail
          rw [HW12.out]
          refine HLv.out.mono ?_
          rintro e w13 ⟨rfl, hb13⟩
          have hz13 := hb13.size
          have hb1013 := HB1012.out.trans (hb13.mono (by omega))
          have hKx13 := (hb13.block _ (lies_lt12 HKx.out)).trans HKx.out
          have hKg13 := (hb1013.block _ (lies_lt12 HK10.out)).trans HK10.out
          obtain ⟨a0, a1, a2, a3, a4, a5, a6, a7, a8, a9, a10⟩ := blk_all12 hKx13
          obtain ⟨b0, b1, b2, b3, b4, b5, b6, b7, b8, b9, b10⟩ := blk_all12 hKg13
          have HX13 := Lib.hid (HX12.out.aside (aside_new hb13 (fun _ => False)) (fun _ _ _ hc => hc))
          have HO13 := Lib.hid (HO10.out.aside (aside_new hb1013 (fun _ => False)) (fun _ _ _ hc => hc))
          have HSm2 := Lib.hid (refSame12 F F #[.int .i64 F.kind, .int .i64 F.number, .slice sx F.cols.length sy, .int .i64 F.seq, .int .i64 F.first, .int .i64 F.rows, .slice bx F.block.length by_, .int .i64 F.index.at_, .int .i64 F.index.frames, .int .i64 F.index.rows, .slice ex F.index.entries.length ey] #[.int .i64 F.kind, .int .i64 F.number, .slice sq F.cols.length sd, .int .i64 F.seq, .int .i64 F.first, .int .i64 F.rows, .slice bq F.block.length bd, .int .i64 F.index.at_, .int .i64 F.index.frames, .int .i64 F.index.rows, .slice eq F.index.entries.length ed] w13 HX13.out.lies HO13.out.lies)
          rw [Fr.same_refl] at HSm2
          have HB13' := Lib.hid (HBw12.out.trans (hb13.mono HBw12.out.size))
          have hIn13 : At w13 qi ys := by
            have h1 := HIn9.out
            rcases HIo.out with h0 | ⟨bI, oI, hI, hI2⟩
            · exact .inl h0
            · refine (h1.aside HAl.out (fun b o hb hc => ?_)).on hb1013
              rw [hI] at hb
              injection hb with hb
              injection hb with e1 _
              subst e1
              rcases hc with hc | hc
              · have := (HOb.out _ hc).1; omega
              · have := (HOe.out _ hc).1; omega
          have HIn13 := Lib.hid hIn13
          clear hb13 hb1013 HLv hKx13 hKg13 HX12 hIn13
          go_wp2_with fail
          refine HSm2.out.mono ?_
          rintro e w14 ⟨rfl, hb14⟩
          have HB14 := Lib.hid (HB13'.out.trans (hb14.mono HB13'.out.size))
          have HS2 := Lib.hid (same_any p qi c ci ys ys hl w14 (HAt.out.on HB14.out) (HIn13.out.on hb14))
          rw [show (ys == ys) = true from beq_self_eq_true _] at HS2
          clear hb14
          go_wp2_with fail
          refine HS2.out.mono ?_
          rintro e w15 ⟨rfl, n15, hw15⟩
          rw [hw15]
          clear hw15 w15
          go_wp2
          go_ret
          exact ⟨rfl, below_drewN HB14.out n15⟩
end Go.Proofs.YtnlhpndjogjejaaGreatDoor
