/- The landed text: checkRow; the whole of a text. -/
import Derived.Test.YtpjcmahlnnglcaaGreatDoorK21M
import Derived.Test.YtpjcmahlnnglcaaGreatDoorB12
namespace Go.Proofs.YtpjcmahlnnglcaaGreatDoor
open Go.RowKit
attribute [local go_sem] run_store_float

/-- the error of the first value that is refused -/
def rowErr : List V → Nat
  | [] => 0
  | x :: xs => if chk 1 x = 0 then rowErr xs else chk 1 x
theorem rowErr_take : ∀ (xs : List V) (j : Nat), (∀ i (h : i < xs.length), i < j → chk 1 xs[i] = 0) → rowErr xs = rowErr (xs.drop j)
  | [], j, _ => by simp
  | x :: xs, 0, _ => rfl
  | x :: xs, j + 1, h => by
    have h0 := h 0 (by simp) (by omega)
    simp only [List.getElem_cons_zero] at h0
    rw [rowErr, if_pos h0, List.drop_succ_cons]
    exact rowErr_take xs j fun i hi hj => by have := h (i + 1) (by simp; omega) (by omega); simpa using this
set_option maxRecDepth 100000 in
set_option maxHeartbeats 2000000 in
theorem checkRowX (xs : List V) (p : Option Addr) (c : Nat) (w : World) (hx : Items w p xs) (hl : xs.length * 64 ≤ 140737488351232) : Calls Tryz.prog 40 #[.agg #[.slice p xs.length c]] w fun e w' => e = .returned (.int .i64 (rowErr xs : Nat)) ∧ Below w.heap.size w w' := by
  obtain ⟨R, hR⟩ : ∃ R, R = rowErr xs := ⟨_, rfl⟩
  rw [← hR]
  have HR := Lib.hid hR
  obtain ⟨W0, hW0⟩ : ∃ W0, W0 = w.alloc (.cells #[.slice p xs.length c] 33) := ⟨_, rfl⟩
  have hb0 : Below w.heap.size w W0 := by rw [hW0]; exact (Below.refl _ _).alloc (Nat.le_refl _) _
  have HB0 := Lib.hid hb0
  have HW0 := Lib.hid hW0
  have HX := Lib.hid hx
  have hlI : (xs.length : Int) ≤ 140737488351232 := by omega
  clear hR hb0 hW0 hx hl
  go_enter Tryz.func40, Tryz.ntmps40
  go_wp2_with fail
  try rw [← HW0.out]
  go_loopw [9] (fun v9 wr => ∃ j : Nat, j ≤ xs.length ∧ v9 = .int .i64 (j : Nat) ∧ Hid ((∀ i (h : i < xs.length), i < j → chk 1 xs[i] = 0) ∧ Below w.heap.size w wr)) (fun v9 _ => xs.length - (intOf v9).toNat)
  case atStart => exact ⟨0, Nat.zero_le _, rfl, fun i hi hj => by omega, HB0.out⟩
  case round =>
    obtain ⟨j, hj, rfl, HI⟩ := hrel
    by_cases hlt : j < xs.length
    · have f1 : (j : Int) < (xs.length : Int) := by omega
      obtain ⟨u', hu, hit⟩ := HX.out j hlt
      obtain ⟨bx, ox, kx, ex, fx, gx, qx, nx, cx, rfl, hbx, rfl, a0, a1, a2, a3, a4⟩ := (hit.on HI.out.2).lies
      unfold cells5 at hu
      have HBx := Lib.hid (HI.out.2.alloc HI.out.2.size (.cells #[.int .i64 kx, .int .i64 ex, .float .f64 fx, .string gx, .slice qx nx cx] 31))
      have HC := Lib.hid (checkK xs[j] (wr.alloc (.cells #[.int .i64 kx, .int .i64 ex, .float .f64 fx, .string gx, .slice qx nx cx] 31)) _ (hu.on HBx.out))
      obtain ⟨er, her⟩ : ∃ er, er = chk 1 (xs[j]'hlt) := ⟨_, rfl⟩
      rw [← her] at HC
      by_cases h0 : er = 0
      · subst h0
        have HI2 : Hid (∀ i (h : i < xs.length), i < j + 1 → chk 1 xs[i] = 0) := fun i hi hj2 => by
          by_cases he : i = j
          · subst he; exact her.symm
          · exact HI.out.1 i hi (by omega)
        clear hu hit her hbx
        go_wp2_with fail
        refine HC.out.mono ?_
        rintro e w1 ⟨rfl, hb1⟩
        have HB1 := Lib.hid (HBx.out.trans (hb1.mono HBx.out.size))
        clear hb1 HC
        go_wp2
        go_roundw
        case rel => exact ⟨j + 1, by omega, by go_num, HI2.out, HB1.out⟩
        case measure => simp [intOf]; omega
      · have HRe : Hid (R = er) := by
          show R = _
          rw [HR.out, rowErr_take xs j HI.out.1, List.drop_eq_getElem_cons hlt, rowErr, ← her, if_neg h0]
        have g0 : ((er : Int) != 0) = true := bne_nt (by omega)
        clear hu hit her hbx h0
        go_wp2_with fail
        refine HC.out.mono ?_
        rintro e w1 ⟨rfl, hb1⟩
        have HB1 := Lib.hid (HBx.out.trans (hb1.mono HBx.out.size))
        clear hb1 HC
        go_wp2
        go_ret
        rw [HRe.out]
        exact ⟨rfl, HB1.out⟩
    · have f1 : ¬ (j : Int) < (xs.length : Int) := by omega
      have HR0 : Hid (R = 0) := by
        show R = _
        rw [HR.out, rowErr_take xs j HI.out.1, List.drop_eq_nil_of_le (by omega)]
        rfl
      go_wp2
      go_ret
      rw [HR0.out]
      exact ⟨rfl, HI.out.2⟩

set_option maxRecDepth 100000 in
set_option maxHeartbeats 2000000 in
theorem wholeTypeX {w : World} {P : Nat} {S : ByteArray} {l : Tx.Bs} (h : Prs w P S l) : Calls Tryz.prog 43 #[.pointer (some ⟨P, 0, none⟩)] w (PsA w P S (Tx.pty 4 l) (isTy w)) := by
  obtain ⟨W0, hW0⟩ : ∃ W0, W0 = w.alloc (.cells #[.int .i64 0, .slice none 0 0] 24) := ⟨_, rfl⟩
  have HB0 : Hid (Below w.heap.size w W0) := by rw [hW0]; exact (Below.refl _ _).alloc (Nat.le_refl _) _
  have HN0 : Hid (W0.heap[w.heap.size]? = some (.cells #[.int .i64 0, .slice none 0 0] 24 (0, 0))) := by rw [hW0]; exact blk_new w _
  have HW0 := Lib.hid hW0
  have HV : Hid (Calls Tryz.prog 77 #[.pointer (some ⟨P, 0, none⟩), .int .i64 1] W0 (PsA W0 P S (Tx.pty 4 l) (isTy W0))) := typeAtX 4 1 l P S W0 (by omega) (h.on HB0.out)
  obtain ⟨R, hR⟩ : ∃ R, R = Tx.pty 4 l := ⟨_, rfl⟩
  rw [← hR] at HV ⊢
  have HPlt := Lib.hid h.lt
  have hPN : ¬ w.heap.size = P := by have := h.lt; omega
  have HA0 := Lib.hid (aside_new HB0.out (fun i => i = P))
  clear h hW0 hR
  go_enter Tryz.func43, Tryz.ntmps43
  go_wp2_with fail
  rw [← HW0.out]
  refine HV.out.mono ?_
  intro e w1 hh
  cases R with
  | error er =>
    obtain ⟨ek, en⟩ := er
    obtain ⟨he, ha1⟩ := hh.bad
    subst he
    have HA1 := Lib.hid (HA0.out.trans ha1 (fun _ _ h => h))
    clear hh ha1 HV
    go_wp2
    exact ⟨rfl, rfl, HA1.out⟩
  | ok z =>
    obtain ⟨x, r⟩ := z
    obtain ⟨v1, he, hv1, hp1, ha1⟩ := hh.good
    obtain ⟨u1, hu1, hown1⟩ := hv1.open
    obtain ⟨k1, p1, n1, c1, hsh⟩ := hown1.shape
    subst hsh
    subst hu1
    subst he
    have HN1 : Hid (w1.heap[w.heap.size]? = some (.cells #[.int .i64 0, .slice none 0 0] 24 (0, 0))) := (ha1.block _ (blk_lt HN0.out) hPN).trans HN0.out
    have hls := blk_lt HN0.out
    have HFin := Lib.hid (fun w5 hw5 => finT (w5 := w5) HPlt.out HN1.out hown1 (fun k hk => ⟨by omega, hk.2⟩) hp1 (HA0.out.trans ha1 (fun _ _ h => h)) hw5)
    unfold cells2
    have zf0 := blk_free HN1.out 0
    have zf1 := blk_free HN1.out 1
    have z0 : w1.cell? ⟨w.heap.size, 0, none⟩ = some (.int .i64 0) := blk_cell HN1.out 0
    have z1 : w1.cell? ⟨w.heap.size, 1, none⟩ = some (.slice none 0 0) := blk_cell HN1.out 1
    clear hh hv1 hown1 hp1 ha1 HV hls
    go_wp2
    obtain ⟨f1, f2, f3, f4⟩ := HFin.out _ rfl
    refine bodyPost_ret (v := .agg (cells2 k1 p1 n1 c1)) (results_cell_row rfl _ _ w.heap.size _ _ _ _ rfl f1 Tryz.underlying24 rfl (by kernel_rfl)) rfl ?_
    exact ⟨_, rfl, f2, f3, f4⟩

set_option maxRecDepth 100000 in
set_option maxHeartbeats 2000000 in
theorem wholeValueX {rf : Tx.Bs → Option Nat} (hRf : RfOk rf) {w : World} {P : Nat} {S : ByteArray} {l : Tx.Bs} (h : Prs w P S l) (hS : S.size ≤ 1099511627776) : Calls Tryz.prog 54 #[.pointer (some ⟨P, 0, none⟩)] w (PsA w P S (Tx.pval rf 4 l) (isVa w)) := by
  obtain ⟨W0, hW0⟩ : ∃ W0, W0 = w.alloc (.cells #[.int .i64 0, .int .i64 0, .float .f64 0, .string ⟨#[]⟩, .slice none 0 0] 31) := ⟨_, rfl⟩
  have HB0 : Hid (Below w.heap.size w W0) := by rw [hW0]; exact (Below.refl _ _).alloc (Nat.le_refl _) _
  have HN0 : Hid (W0.heap[w.heap.size]? = some (.cells zero5 31 (0, 0))) := by rw [hW0]; exact blk_new w _
  have HW0 := Lib.hid hW0
  have HV : Hid (Calls Tryz.prog 90 #[.pointer (some ⟨P, 0, none⟩), .int .i64 1] W0 (PsA W0 P S (Tx.pval rf 4 l) (isVa W0))) := valueX hRf 4 1 l P S W0 (by omega) hS (h.on HB0.out)
  obtain ⟨R, hR⟩ : ∃ R, R = Tx.pval rf 4 l := ⟨_, rfl⟩
  rw [← hR] at HV ⊢
  have HPlt := Lib.hid h.lt
  have hPN : ¬ w.heap.size = P := by have := h.lt; omega
  have HA0 := Lib.hid (aside_new HB0.out (fun i => i = P))
  clear h hW0 hR hRf
  go_enter Tryz.func54, Tryz.ntmps54
  go_wp2_with fail
  rw [← HW0.out]
  refine HV.out.mono ?_
  intro e w1 hh
  cases R with
  | error er =>
    obtain ⟨ek, en⟩ := er
    obtain ⟨he, ha1⟩ := hh.bad
    subst he
    have HA1 := Lib.hid (HA0.out.trans ha1 (fun _ _ h => h))
    clear hh ha1 HV
    go_wp2
    exact ⟨rfl, rfl, HA1.out⟩
  | ok z =>
    obtain ⟨x, r⟩ := z
    obtain ⟨v1, he, hv1, hp1, ha1⟩ := hh.good
    obtain ⟨u1, hu1, hown1⟩ := hv1.open
    obtain ⟨k1, i1, b1, t1, p1, n1, c1, hsh⟩ := hown1.shape
    subst hsh
    subst hu1
    subst he
    have HN1 : Hid (w1.heap[w.heap.size]? = some (.cells zero5 31 (0, 0))) := (ha1.block _ (blk_lt HN0.out) hPN).trans HN0.out
    have hls := blk_lt HN0.out
    have HFin := Lib.hid (fun w5 hw5 => finV (w5 := w5) HPlt.out HN1.out hown1 (fun k hk => ⟨by omega, hk.2⟩) hp1 (HA0.out.trans ha1 (fun _ _ h => h)) hw5)
    unfold cells5
    have zf0 := blk_free HN1.out 0
    have zf1 := blk_free HN1.out 1
    have zf2 := blk_free HN1.out 2
    have zf3 := blk_free HN1.out 3
    have zf4 := blk_free HN1.out 4
    have z0 : w1.cell? ⟨w.heap.size, 0, none⟩ = some (.int .i64 0) := blk_cell HN1.out 0
    have z1 : w1.cell? ⟨w.heap.size, 1, none⟩ = some (.int .i64 0) := blk_cell HN1.out 1
    have z2 : w1.cell? ⟨w.heap.size, 2, none⟩ = some (.float .f64 0) := blk_cell HN1.out 2
    have z3 : w1.cell? ⟨w.heap.size, 3, none⟩ = some (.string ⟨#[]⟩) := blk_cell HN1.out 3
    have z4 : w1.cell? ⟨w.heap.size, 4, none⟩ = some (.slice none 0 0) := blk_cell HN1.out 4
    clear hh hv1 hown1 hp1 ha1 HV hls
    go_wp2
    obtain ⟨f1, f2, f3, f4⟩ := HFin.out _ rfl
    refine bodyPost_ret (v := .agg (cells5 k1 i1 b1 t1 p1 n1 c1)) (results_cell_row rfl _ _ w.heap.size _ _ _ _ rfl f1 Tryz.underlying31 rfl (by kernel_rfl)) rfl ?_
    exact ⟨_, rfl, f2, f3, f4⟩

/-- a schema, a row in blocks that are new since w -/
def isSc (w : World) (xs : List Col) (v : Value) (w' : World) : Prop := ∃ q c, v = .agg #[.slice q xs.length c] ∧ isCs w xs (.slice q xs.length c) w'
def isRo (w : World) (xs : List V) (v : Value) (w' : World) : Prop := ∃ q c, v = .agg #[.slice q xs.length c] ∧ isVs w xs (.slice q xs.length c) w'
theorem isSc.open {w w' : World} {xs : List Col} {v : Value} (h : isSc w xs v w') : ∃ q c, v = .agg #[.slice q xs.length c] ∧ isCs w xs (.slice q xs.length c) w' := h
theorem isRo.open {w w' : World} {xs : List V} {v : Value} (h : isRo w xs v w') : ∃ q c, v = .agg #[.slice q xs.length c] ∧ isVs w xs (.slice q xs.length c) w' := h
theorem slice_form {w : World} {B : Nat} {T : TypeId} {n m : Nat} {v : Value} {xs : List Value} (h : w.ownsRow B T m v n xs) : ∃ q c, v = .slice q n c ∧ n ≤ c := by
  rcases h.2 with ⟨rfl, h0⟩ | ⟨g, cap, cur, rfl, _, _, h3, _⟩
  · exact ⟨none, 0, by rw [h0], by omega⟩
  · exact ⟨_, cap, rfl, h3⟩

set_option maxRecDepth 100000 in
set_option maxHeartbeats 2000000 in
theorem wholeSchemaX {rf : Tx.Bs → Option Nat} (hRf : RfOk rf) {w : World} {P : Nat} {S : ByteArray} {l : Tx.Bs} (h : Prs w P S l) (hS : S.size ≤ 1099511627776) : Calls Tryz.prog 47 #[.pointer (some ⟨P, 0, none⟩)] w (PsA w P S (Tx.pseq (Tx.pcol rf) (l.length + 1) l) (isSc w)) := by
  obtain ⟨W0, hW0⟩ : ∃ W0, W0 = w.alloc (.cells #[.slice none 0 0] 27) := ⟨_, rfl⟩
  have HB0 : Hid (Below w.heap.size w W0) := by rw [hW0]; exact (Below.refl _ _).alloc (Nat.le_refl _) _
  have HN0 : Hid (W0.heap[w.heap.size]? = some (.cells #[.slice none 0 0] 27 (0, 0))) := by rw [hW0]; exact blk_new w _
  have HW0 := Lib.hid hW0
  have HV := Lib.hid (severalCs (h.on HB0.out) hS (Tx.pcol rf) (fun l x r hp => by
    have := congrArg List.length (Tx.pcol_fore (rf_fok hRf) hp).1
    rw [List.length_append] at this
    omega) (fun w' l' _ h' => columnX hRf h' hS))
  obtain ⟨R, hR⟩ : ∃ R, R = Tx.pseq (Tx.pcol rf) (l.length + 1) l := ⟨_, rfl⟩
  rw [← hR] at HV ⊢
  have HPlt := Lib.hid h.lt
  have hPN : ¬ w.heap.size = P := by have := h.lt; omega
  have hPN2 : ¬ P = w.heap.size := by omega
  have HA0 := Lib.hid (aside_new HB0.out (fun i => i = P))
  clear h hW0 hR hRf
  go_enter Tryz.func47, Tryz.ntmps47
  go_wp2_with fail
  rw [← HW0.out]
  refine HV.out.mono ?_
  intro e w1 hh
  cases R with
  | error er =>
    obtain ⟨ek, en⟩ := er
    obtain ⟨he, ha1⟩ := hh.bad
    subst he
    have HA1 := Lib.hid (HA0.out.trans ha1 (fun _ _ h => h))
    clear hh ha1 HV
    go_wp2
    exact ⟨rfl, rfl, HA1.out⟩
  | ok z =>
    obtain ⟨xs, r⟩ := z
    obtain ⟨v1, he, hv1, hp1, ha1⟩ := hh.good
    obtain ⟨⟨us, Fs, hbu⟩, hl1⟩ := hv1.open
    obtain ⟨q1, c1, hvq, -⟩ := slice_form hbu.row
    subst hvq
    subst he
    have hN1 : w1.heap[w.heap.size]? = some (.cells #[.slice none 0 0] 27 (0, 0)) := (ha1.block _ (blk_lt HN0.out) hPN).trans HN0.out
    have z0 : w1.cell? ⟨w.heap.size, 0, none⟩ = some (.slice none 0 0) := blk_cell hN1 0
    have zf0 := blk_free hN1 0
    have hls := blk_lt HN0.out
    have hPl := HPlt.out
    have HFin : Hid (∀ w5, w5 = w1.setCell ⟨w.heap.size, 0, none⟩ (.slice q1 xs.length c1) → w5.heap[w.heap.size]? = some (.cells #[.slice q1 xs.length c1] 27 (0, 0)) ∧ isSc w xs (.agg #[.slice q1 xs.length c1]) w5 ∧ Prs w5 P S r ∧ Aside (fun i => i = P) w w5) := fun w5 hw5 => by
      have ha5 : Aside (fun i => i = w.heap.size) w1 w5 := by rw [hw5]; exact (Aside.refl (fun k => k = w.heap.size) _).setCell (p := ⟨w.heap.size, 0, none⟩) (.inl rfl) _
      refine ⟨by rw [hw5, blk_set hN1 0]; rfl, ⟨q1, c1, rfl, ⟨us, Fs, ?_⟩, hl1⟩, hp1.aside ha5 (fun k hk => by omega), (HA0.out.trans ha1 (fun _ _ h => h)).trans ha5 (fun i hi he => by omega)⟩
      exact (hbu.aside ha5 (fun g hg he => by have := (hbu.lt g hg).1; omega) (fun j hj k hk he => by have := (hbu.range j hj k hk).1; omega)).low (by omega)
    clear hh hv1 hbu hp1 ha1 HV hls hPl hN1
    go_wp2
    obtain ⟨f1, f2, f3, f4⟩ := HFin.out _ rfl
    refine bodyPost_ret (v := .agg #[.slice q1 xs.length c1]) (results_cell_row rfl _ _ w.heap.size _ _ _ _ rfl f1 Tryz.underlying27 rfl (by kernel_rfl)) rfl ?_
    exact ⟨_, rfl, f2, f3, f4⟩

/-- what is read of a row: of the whole text -/
def prow (rf : Tx.Bs → Option Nat) (l : Tx.Bs) : Tx.R (List V × Tx.Bs) := if l = [] then .ok ([], []) else Tx.pseq (Tx.pval rf 4) (l.length + 1) l
set_option maxRecDepth 100000 in
set_option maxHeartbeats 2000000 in
theorem wholeRowX {rf : Tx.Bs → Option Nat} (hRf : RfOk rf) {w : World} {P : Nat} {S : ByteArray} {l : Tx.Bs} (h : Prs w P S l) (hl : l = S.data.toList) (hS : S.size ≤ 1099511627776) : Calls Tryz.prog 58 #[.pointer (some ⟨P, 0, none⟩)] w (PsA w P S (prow rf l) (isRo w)) := by
  obtain ⟨W0, hW0⟩ : ∃ W0, W0 = w.alloc (.cells #[.slice none 0 0] 33) := ⟨_, rfl⟩
  have HB0 : Hid (Below w.heap.size w W0) := by rw [hW0]; exact (Below.refl _ _).alloc (Nat.le_refl _) _
  have HN0 : Hid (W0.heap[w.heap.size]? = some (.cells #[.slice none 0 0] 33 (0, 0))) := by rw [hW0]; exact blk_new w _
  have HW0 := Lib.hid hW0
  have HV : Hid (Calls Tryz.prog 93 #[.pointer (some ⟨P, 0, none⟩), .int .i64 1] W0 (PsA W0 P S (Tx.pseq (Tx.pval rf 4) (l.length + 1) l) (isVs W0))) := valuesX (h.on HB0.out) hS 1 (Tx.pval rf 4) (fun l x r hp => by
    have := congrArg List.length (Tx.pval_fore (rf_fok hRf) 4 l x r hp).text
    rw [List.length_append] at this
    omega) (fun w' l' h' => valueX hRf 4 1 l' P S w' (by omega) hS h')
  obtain ⟨R, hR⟩ : ∃ R, R = prow rf l := ⟨_, rfl⟩
  have HR : Hid (R = if l = [] then .ok ([], []) else Tx.pseq (Tx.pval rf 4) (l.length + 1) l) := hR
  rw [← hR]
  have HPlt := Lib.hid h.lt
  have hPN : ¬ w.heap.size = P := by have := h.lt; omega
  have hPN2 : ¬ P = w.heap.size := by omega
  have HA0 := Lib.hid (aside_new HB0.out (fun i => i = P))
  have HH := Lib.hid h
  have c0 : w.cell? ⟨P, 0, none⟩ = some (.string S) := h.cell 0
  have hPl0 : P < w.heap.size := h.lt
  have e9 : S.toList = l := by rw [hl]; exact ByteArray.toList_eq S
  clear h hW0 hR hRf hl
  by_cases q0 : l = []
  · have HRk : Hid (R = .ok ([], [])) := HR.out.trans (if_pos q0)
    have e8 : (l == []) = true := by rw [q0]; rfl
    have HP0 : Hid (Prs w P S []) := by rw [q0] at HH; exact HH.out
    have HFin : Hid (∀ w5, w5 = w.alloc (.cells #[.slice none 0 0] 33) → w5.heap[w.heap.size]? = some (.cells #[.slice none 0 0] 33 (0, 0)) ∧ isRo w [] (.agg #[.slice none 0 0]) w5 ∧ Prs w5 P S [] ∧ Aside (fun i => i = P) w w5) := fun w5 hw5 => by
      have hb : Below w.heap.size w w5 := by rw [hw5]; exact (Below.refl _ _).alloc (Nat.le_refl _) _
      exact ⟨by rw [hw5]; exact blk_new w _, ⟨none, 0, rfl, ⟨_, _, built_nil w5 w.heap.size⟩, by simp⟩, HP0.out.on hb, aside_new hb _⟩
    clear q0 HR HV HH HP0
    go_enter Tryz.func58, Tryz.ntmps58
    go_wp2
    obtain ⟨f1, f2, f3, f4⟩ := HFin.out _ rfl
    refine bodyPost_ret (v := .agg #[.slice none 0 0]) (results_cell_row rfl _ _ w.heap.size _ _ _ _ rfl f1 Tryz.underlying33 rfl (by kernel_rfl)) rfl ?_
    rw [HRk.out]
    exact ⟨_, rfl, f2, f3, f4⟩
  have HR2 := Lib.hid (HR.out.trans (if_neg q0))
  have e8 : (l == []) = false := str_ne q0
  obtain ⟨Y, hY⟩ : ∃ Y, Y = Tx.pseq (Tx.pval rf 4) (l.length + 1) l := ⟨_, rfl⟩
  rw [← hY] at HV HR2
  clear q0 HR HH hY
  go_enter Tryz.func58, Tryz.ntmps58
  go_wp2_with fail
  rw [← HW0.out]
  refine HV.out.mono ?_
  intro e w1 hh
  cases Y with
  | error er =>
    obtain ⟨ek, en⟩ := er
    have HRe : Hid (R = .error (ek, en)) := HR2.out
    obtain ⟨he, ha1⟩ := hh.bad
    subst he
    have HA1 := Lib.hid (HA0.out.trans ha1 (fun _ _ h => h))
    clear hh ha1 HV HR2
    go_wp2
    rw [HRe.out]
    exact ⟨rfl, rfl, HA1.out⟩
  | ok z =>
    obtain ⟨xs, r⟩ := z
    have HRk : Hid (R = .ok (xs, r)) := HR2.out
    obtain ⟨v1, he, hv1, hp1, ha1⟩ := hh.good
    obtain ⟨⟨us, Fs, hbu⟩, hl1⟩ := hv1.open
    obtain ⟨q1, c1, hvq, -⟩ := slice_form hbu.row
    subst hvq
    subst he
    have hN1 : w1.heap[w.heap.size]? = some (.cells #[.slice none 0 0] 33 (0, 0)) := (ha1.block _ (blk_lt HN0.out) hPN).trans HN0.out
    have z0 : w1.cell? ⟨w.heap.size, 0, none⟩ = some (.slice none 0 0) := blk_cell hN1 0
    have zf0 := blk_free hN1 0
    have hls := blk_lt HN0.out
    have HFin : Hid (∀ w5, w5 = w1.setCell ⟨w.heap.size, 0, none⟩ (.slice q1 xs.length c1) → w5.heap[w.heap.size]? = some (.cells #[.slice q1 xs.length c1] 33 (0, 0)) ∧ isRo w xs (.agg #[.slice q1 xs.length c1]) w5 ∧ Prs w5 P S r ∧ Aside (fun i => i = P) w w5) := fun w5 hw5 => by
      have ha5 : Aside (fun i => i = w.heap.size) w1 w5 := by rw [hw5]; exact (Aside.refl (fun k => k = w.heap.size) _).setCell (p := ⟨w.heap.size, 0, none⟩) (.inl rfl) _
      refine ⟨by rw [hw5, blk_set hN1 0]; rfl, ⟨q1, c1, rfl, ⟨us, Fs, ?_⟩, hl1⟩, hp1.aside ha5 (fun k hk => by omega), (HA0.out.trans ha1 (fun _ _ h => h)).trans ha5 (fun i hi he => by omega)⟩
      exact (hbu.aside ha5 (fun g hg he => by have := (hbu.lt g hg).1; omega) (fun j hj k hk he => by have := (hbu.range j hj k hk).1; omega)).low (by omega)
    clear hh hv1 hbu hp1 ha1 HV hls hN1 HR2 c0
    go_wp2
    obtain ⟨f1, f2, f3, f4⟩ := HFin.out _ rfl
    refine bodyPost_ret (v := .agg #[.slice q1 xs.length c1]) (results_cell_row rfl _ _ w.heap.size _ _ _ _ rfl f1 Tryz.underlying33 rfl (by kernel_rfl)) rfl ?_
    rw [HRk.out]
    exact ⟨_, rfl, f2, f3, f4⟩
end Go.Proofs.YtpjcmahlnnglcaaGreatDoor
