/- K7Zd: put together. -/
import Derived.Test.YtnlhpndjogjejaaGreatDoorB10
import Derived.Defers
import Derived.Recover

/- The landed schema: Decode. -/
namespace Go.Proofs.YtnlhpndjogjejaaGreatDoor
open Go.RowKit

theorem colsR_le {l : List UInt8} {s : List Col} {k : Nat} (h : colsR l = .ok (s, k)) : k ≤ l.length ∧ s.length ≤ 16 := by
  unfold colsR at h
  cases h1 : countR 16 3 l with
  | error e => rw [h1] at h; cases h
  | ok nk =>
    obtain ⟨n, k0⟩ := nk
    rw [h1, thenR_ok] at h
    split at h
    · cases h
    · cases h2 : Sch.rdCs n [] (l.drop k0) with
      | error e => rw [h2] at h; cases h
      | ok sj =>
        obtain ⟨s', j⟩ := sj
        rw [h2, thenR_ok] at h
        injection h with h
        injection h with hss h
        obtain ⟨s2, hs2, hs3, h5, ⟨rr, h6⟩, _⟩ := Sch.rdCs_ok n [] (l.drop k0) s' j h2
        have h16 : n ≤ 16 := count_le h1
        have hsl : s.length ≤ 16 := by rw [← hss, hs2, List.nil_append, hs3]; exact h16
        have h3 : k0 ≤ l.length := by
          unfold countR at h1
          split at h1
          · cases h1
          · next n' k' hn =>
            split at h1
            · cases h1
            · injection h1 with h1
              injection h1 with _ h1
              have := (num_le hn).1
              omega
        have h7 := congrArg List.length h6
        rw [List.length_drop, List.length_append] at h7
        exact ⟨by omega, hsl⟩
theorem read_eq (b : List UInt8) : Sch.read b = if 1024 < b.length then .error 2 else thenR (colsR b) fun s k => if k = b.length then .ok s else .error 5 := by
  unfold Sch.read
  split
  · rfl
  · unfold colsR countR
    cases Sch.num b with
    | error e => rfl
    | ok nk =>
      obtain ⟨n, k⟩ := nk
      dsimp only
      by_cases h0 : n = 0
      · subst h0
        rw [if_pos rfl, if_neg (by omega), thenR_ok, if_pos rfl]
        rfl
      · rw [if_neg h0]
        by_cases h1 : 16 < n
        · rw [if_pos h1, if_pos h1]; rfl
        · rw [if_neg h1, if_neg h1, thenR_ok, if_neg h0]
          cases Sch.rdCs n [] (b.drop k) with
          | error e => rfl
          | ok lj => rfl

theorem run_assert (k : Int) (w : World) : (Instr.typeAssert (.iface 31 (.int .i64 k)) 20 31 false).run Tryz.prog w = .ok (.int .i64 k) w := by kernel_rfl

set_option maxHeartbeats 1000000 in
theorem catch_panicking (p q : Addr) (x : Value) (y : Int) (k : Int) (w : World) (hc : w.cell? p = some x) (hz : w.frozen? p = false) (hc2 : w.cell? q = some (.int .i64 y)) (hz2 : w.frozen? q = false) (hpq : p ≠ q) :
    CallsD Tryz.prog 60 #[.pointer (some p), .pointer (some q)] (.panicking [{ v := .iface 31 (.int .i64 k), recovered := false }]) w fun e u' w' =>
      e = .returned (.tuple #[]) ∧ u' = .panicking [{ v := .iface 31 (.int .i64 k), recovered := true }] ∧ w' = ((w.setCell p (.slice none 0 0)).setCell q (.int .i64 k)).drew := by
  have hta := run_assert k
  refine callsD_of_wpS Tryz.func60 rfl fun c₀ cs hu => ?_
  apply wpS_seq
  apply wpS_region
  simp [wpOpsS, go_sem, recoverD, hu, Tryz.ntmps60, Exit.thenS]
  refine wpS_of_wp ?_
  go_wp2_with fail
  go_region_law (fail)
  all_goals
    show bodyPostS Tryz.prog Tryz.f60 c₀ cs _ Exit.normal _ _ _
    simp [bodyPostS, results, Tryz.results60]

set_option maxHeartbeats 1000000 in
theorem catch_idle (p q : Addr) (w : World) :
    CallsD Tryz.prog 60 #[.pointer (some p), .pointer (some q)] .returning w fun e u' w' => e = .returned (.tuple #[]) ∧ u' = .returning ∧ w' = w := by
  refine callsD_of_wpS Tryz.func60 rfl fun c₀ cs hu => ?_
  apply wpS_seq
  apply wpS_region
  simp [wpOpsS, go_sem, recoverD, hu, Tryz.ntmps60, Exit.thenS]
  refine wpS_of_wp ?_
  go_wp2_with fail
  cases c₀
  simp_all [bodyPostS, results, Tryz.results60]

theorem results_rowcell {P : Program} {fn : Func} {p q : Tmp} {ty ty2 : TypeId} (h : fn.results = #[.cell p ty, .cell q ty2]) (tmps : Array Value) (w : World) (g g2 : Nat) (t : TypeId) (cs : Array Value) (fr : Nat × Nat) (d : TypeDesc) (x : Int)
    (hp : tmps.getD p undef = .pointer (some ⟨g, 0, none⟩)) (hg : w.heap[g]? = some (.cells cs t fr)) (hu : P.underlying ty = some d) (hd : (match d with | .struct _ | .array _ _ => true | _ => false) = true) (hi : (P.info? ty).map (·.size) = some cs.size)
    (hq : tmps.getD q undef = .pointer (some ⟨g2, 0, none⟩)) (hg2 : w.cell? ⟨g2, 0, none⟩ = some (.int .i64 x)) (hu2 : P.underlying ty2 = some (.int .i64)) :
    (results fn tmps).run P w = .ok (.tuple #[.agg cs, .int .i64 x]) w := by
  have hp' : tmps[p]?.getD undef = .pointer (some ⟨g, 0, none⟩) := by simpa using hp
  have hq' : tmps[q]?.getD undef = .pointer (some ⟨g2, 0, none⟩) := by simpa using hq
  have h1 := run_loadVar_row w g t ty cs fr d hg hu hd hi
  have h2 : (loadVar ty2 ⟨g2, 0, none⟩).run P w = .ok (.int .i64 x) w := by
    simp [go_sem, isAgg, run_underlying hu2, hg2]
  simp [results, h, hp', hq', asAddr, h1, h2]

/-- while Decode runs: its two results' places -/
structure DecIn (w W : World) (x : Value) (y : Int) : Prop where
  b0 : W.heap[w.heap.size]? = some (.cells #[x] 25 (0, 0))
  b1 : W.heap[w.heap.size + 1]? = some (.cells #[.int .i64 y] 31 (0, 0))
  size : w.heap.size + 3 ≤ W.heap.size
  below : Below w.heap.size w W
theorem decIn_start {w : World} {p : Option Addr} {l : List UInt8} {c : Nat} (hat : At w p l) (hlc : l.length ≤ c) (hl : l.length ≤ 1024) : DecIn w (((w.alloc (.cells #[.slice none 0 0] 25)).alloc (.cells #[.int .i64 0] 31)).alloc (.cells #[.slice p l.length c] 114)) (.slice none 0 0) 0 ∧ Rdr (((w.alloc (.cells #[.slice none 0 0] 25)).alloc (.cells #[.int .i64 0] 31)).alloc (.cells #[.slice p l.length c] 114)) w.heap.size (w.heap.size + 1 + 1) l := by
  have hb : Below w.heap.size w (((w.alloc (.cells #[.slice none 0 0] 25)).alloc (.cells #[.int .i64 0] 31)).alloc (.cells #[.slice p l.length c] 114)) := (((Below.refl _ _).alloc (Nat.le_refl _) _).alloc (by simp) _).alloc (by simp; omega) _
  refine ⟨⟨?_, ?_, by simp, hb⟩, ⟨⟨p, c, ?_, hat.on hb, hlc, fun hne a ha => ?_⟩, hl, by omega⟩⟩
  · rw [blk_old _ _ (by simp; omega), blk_old _ _ (by simp)]; exact blk_new w _
  · rw [blk_old _ _ (by simp)]
    have := blk_new (w.alloc (.cells #[.slice none 0 0] 25)) (.cells #[.int .i64 0] 31)
    simpa using this
  · have := blk_new ((w.alloc (.cells #[.slice none 0 0] 25)).alloc (.cells #[.int .i64 0] 31)) (.cells #[.slice p l.length c] 114)
    simpa using this
  · obtain ⟨b, o, hp, hb, _⟩ := at_some hat (List.length_pos_iff.2 hne)
    rw [hp] at ha
    injection ha with ha
    subst ha
    exact hb
theorem DecIn.step {w W W' : World} {x : Value} {y : Int} (h : DecIn w W x y) (ha : Aside (fun i => i = w.heap.size + 1 + 1) W W') : DecIn w W' x y := by
  have hs := h.size
  exact ⟨by rw [ha.block _ (by omega) (by omega)]; exact h.b0, by rw [ha.block _ (by omega) (by omega)]; exact h.b1, Nat.le_trans hs ha.size, h.below.trans (ha.below (by omega) (fun k hk => by omega))⟩
theorem DecIn.setS {w W : World} {x : Value} {y : Int} (h : DecIn w W x y) (x' : Value) : DecIn w (W.setCell ⟨w.heap.size, 0, none⟩ x') x' y := by
  have hs := h.size
  have ha : Aside (fun i => i = w.heap.size) W (W.setCell ⟨w.heap.size, 0, none⟩ x') := aside_set _ _ _ _
  exact ⟨by rw [blk_set h.b0 0]; rfl, by rw [ha.block _ (by omega) (by omega)]; exact h.b1, Nat.le_trans hs ha.size, h.below.trans (ha.below (by omega) (fun k hk => by omega))⟩
theorem DecIn.setE {w W : World} {x : Value} {y : Int} (h : DecIn w W x y) (y' : Int) : DecIn w (W.setCell ⟨w.heap.size + 1, 0, none⟩ (.int .i64 y')) x y' := by
  have hs := h.size
  have ha : Aside (fun i => i = w.heap.size + 1) W (W.setCell ⟨w.heap.size + 1, 0, none⟩ (.int .i64 y')) := aside_set _ _ _ _
  exact ⟨by rw [ha.block _ (by omega) (by omega)]; exact h.b0, by rw [blk_set h.b1 0]; rfl, Nat.le_trans hs ha.size, h.below.trans (ha.below (by omega) (fun k hk => by omega))⟩
theorem DecIn.drew {w W : World} {x : Value} {y : Int} (h : DecIn w W x y) : DecIn w W.drew x y := ⟨h.b0, h.b1, h.size, h.below.drew⟩

set_option maxRecDepth 100000 in
set_option maxHeartbeats 2000000 in
theorem decodeK (p : Option Addr) (l : List UInt8) (c : Nat) (hl : l.length ≤ 140737488351232) (hlc : l.length ≤ c) (w : World) (hat : At w p l) :
    Calls Tryz.prog 45 #[.slice p l.length c] w (DecV w (Sch.read l)) := by
  have hmf : ∀ (fn : Fn) (first cap : Array Value) (w : World), (Instr.makeFunc fn first cap).run Tryz.prog w = .ok (.func fn first cap) w := fun _ _ _ _ => rfl
  obtain ⟨r, hr⟩ : ∃ r, r = Sch.read l := ⟨_, rfl⟩
  have HR := Lib.hid (hr.trans (read_eq l))
  rw [← hr]
  clear hr
  have HAt := Lib.hid hat
  by_cases hbig : 1024 < l.length
  · have g0 : (1024 : Int) < (l.length : Int) := by omega
    have HR2 : Hid (r = .error 2) := HR.out.trans (if_pos hbig)
    clear HR hat hbig
    go_enter_defers Tryz.func45, Tryz.ntmps45
    have HN : Hid (∀ o, (w.alloc (.cells #[.slice none 0 0] 25)).heap[w.heap.size]? = some (.cells #[.slice none 0 0] 25 (0, 0)) ∧ ((w.alloc (.cells #[.slice none 0 0] 25)).alloc o).heap[w.heap.size]? = some (.cells #[.slice none 0 0] 25 (0, 0)) ∧ Below w.heap.size w ((w.alloc (.cells #[.slice none 0 0] 25)).alloc o)) := fun o => ⟨blk_new w _, by rw [blk_old _ _ (by simp)]; exact blk_new w _, ((Below.refl _ _).alloc (Nat.le_refl _) _).alloc (by simp) _⟩
    go_wp2
    obtain ⟨-, n1, n2⟩ := HN.out (.cells #[.int .i64 2] 31)
    refine ⟨_, results_rowcell rfl _ _ w.heap.size (w.heap.size + 1) _ #[.slice none 0 0] _ _ 2 rfl n1 Tryz.underlying25 rfl (by kernel_rfl) rfl (by simp) Tryz.underlying31, ?_⟩
    rw [HR2.out]
    exact ⟨rfl, n2⟩
  have g0 : ¬ (1024 : Int) < (l.length : Int) := by omega
  have HR1 : Hid (r = thenR (colsR l) fun s k => if k = l.length then .ok s else .error 5) := HR.out.trans (if_neg hbig)
  obtain ⟨W, hW⟩ : ∃ W, W = ((w.alloc (.cells #[.slice none 0 0] 25)).alloc (.cells #[.int .i64 0] 31)).alloc (.cells #[.slice p l.length c] 114) := ⟨_, rfl⟩
  have HI : Hid (DecIn w W (.slice none 0 0) 0) := by rw [hW]; exact (decIn_start hat hlc (by omega)).1
  have HRd : Hid (Rdr W w.heap.size (w.heap.size + 1 + 1) l) := by rw [hW]; exact (decIn_start hat hlc (by omega)).2
  have HW := Lib.hid hW
  have HC := Lib.hid (columnsK l w.heap.size (w.heap.size + 1 + 1) W HRd.out)
  -- a panic that goes through the door
  have HDoor : Hid (∀ (er : Nat) (W2 : World) (x : Value) (y : Int), r = .error er → DecIn w W2 x y → ∀ (tmps : Array Value) (ds : List Deferred), tmps.getD 2 undef = .pointer (some ⟨w.heap.size, 0, none⟩) → tmps.getD 3 undef = .pointer (some ⟨w.heap.size + 1, 0, none⟩) → ds = [{ target := .fn (.func 60) #[.pointer (some ⟨w.heap.size, 0, none⟩), .pointer (some ⟨w.heap.size + 1, 0, none⟩)], args := #[] }] → bodyPostD Tryz.prog Tryz.f45 (DecV w r) (Exit.panic (errV er)) { tmps := tmps, defers := ds } W2) := by
    intro er W2 x y he hI tmps ds h2 h3 hds
    subst hds
    refine leaves_cons (f := 60) (args := #[.pointer (some ⟨w.heap.size, 0, none⟩), .pointer (some ⟨w.heap.size + 1, 0, none⟩)]) (by simp) (by simp [go_sem]) ?_
    refine (catch_panicking ⟨w.heap.size, 0, none⟩ ⟨w.heap.size + 1, 0, none⟩ x y er W2 (blk_cell hI.b0 0) (blk_free hI.b0 0) (blk_cell hI.b1 0) (blk_free hI.b1 0) (by intro hc; injection hc; omega)).mono ?_
    rintro e u' w'' ⟨rfl, rfl, rfl⟩
    have hI3 := ((hI.setS (.slice none 0 0)).setE er).drew
    refine ⟨_, results_rowcell rfl tmps _ w.heap.size (w.heap.size + 1) _ #[.slice none 0 0] _ _ (er : Int) h2 hI3.b0 Tryz.underlying25 rfl (by kernel_rfl) h3 (blk_cell hI3.b1 0) Tryz.underlying31, ?_⟩
    rw [he]
    exact ⟨rfl, hI3.below⟩
  obtain ⟨m, hm⟩ : ∃ m, m = colsR l := ⟨_, rfl⟩
  rw [← hm] at HR1 HC
  have HM := Lib.hid hm
  clear HR hW hm hat hbig
  cases m with
  | error er =>
    have HR2 : Hid (r = .error er) := HR1.out
    go_enter_defers Tryz.func45, Tryz.ntmps45
    go_wp2_with fail
    rw [← HW.out]
    refine HC.out.mono ?_
    intro e w1 hh
    obtain ⟨he, ha⟩ := hh.bad
    subst he
    have HI1 := Lib.hid (HI.out.step ha)
    clear hh ha
    go_wp2
    exact HDoor.out er w1 _ _ HR2.out HI1.out _ _ rfl rfl rfl
  | ok sk =>
    obtain ⟨s, k⟩ := sk
    obtain ⟨hk, hs16⟩ := colsR_le HM.out.symm
    have HR2 : Hid (r = if k = l.length then .ok s else .error 5) := HR1.out
    go_enter_defers Tryz.func45, Tryz.ntmps45
    go_wp2_with fail
    rw [← HW.out]
    refine HC.out.mono ?_
    intro e w1 hh
    obtain ⟨v, he, hv, hrd, ha⟩ := hh.good
    subst he
    have HI1 := Lib.hid (HI.out.step ha)
    have HCs := Lib.hid hv
    have HRd1 := Lib.hid hrd
    obtain ⟨p1, c1, hb1, hat1, hc1, -⟩ := hrd.out
    have hsW := HI.out.size
    have n0 : w1.cell? ⟨w.heap.size, 0, none⟩ = some (.slice none 0 0) := blk_cell HI1.out.b0 0
    have nf0 := blk_free HI1.out.b0 0
    have m0 : w1.cell? ⟨w.heap.size + 1, 0, none⟩ = some (.int .i64 0) := blk_cell HI1.out.b1 0
    have mf0 := blk_free HI1.out.b1 0
    have r0 : w1.cell? ⟨w.heap.size + 1 + 1, 0, none⟩ = some (.slice p1 (l.drop k).length c1) := blk_cell hb1 0
    clear hh hv hrd ha hb1 hat1 hc1 HC HW HM HR1
    obtain ⟨us, Fs, hbt⟩ := HCs.out
    obtain ⟨qv, cv, rfl, -, -⟩ := hbt.cols (by omega)
    have HBt := Lib.hid hbt
    obtain ⟨L, hL⟩ : ∃ L, L = (l.drop k).length := ⟨_, rfl⟩
    rw [← hL] at r0
    rw [List.length_drop] at hL
    clear hbt HCs
    by_cases hkl : k = l.length
    · have HR3 : Hid (r = .ok s) := HR2.out.trans (if_pos hkl)
      have hL0 : L = 0 := by omega
      subst hL0
      clear HR2 hL hkl
      go_wp2_with fail
      refine (need_t _ 5 _).mono ?_
      rintro e w2 ⟨rfl, hw2⟩
      rw [hw2]
      clear hw2 w2
      go_wp2
      refine leaves_cons (f := 60) (args := #[.pointer (some ⟨w.heap.size, 0, none⟩), .pointer (some ⟨w.heap.size + 1, 0, none⟩)]) (by simp) (by simp [go_sem]) ?_
      refine (catch_idle ⟨w.heap.size, 0, none⟩ ⟨w.heap.size + 1, 0, none⟩ _).mono ?_
      rintro e u' w'' ⟨rfl, rfl, rfl⟩
      have hI3 := ((HI1.out.setS (.slice qv s.length cv)).setS (.slice qv s.length cv)).setE 0
      have hA : Aside (fun i => i = w.heap.size ∨ i = w.heap.size + 1) w1 (((w1.setCell ⟨w.heap.size, 0, none⟩ (.slice qv s.length cv)).setCell ⟨w.heap.size, 0, none⟩ (.slice qv s.length cv)).setCell ⟨w.heap.size + 1, 0, none⟩ (.int .i64 0)) :=
        (((aside_set w1 w.heap.size 0 (.slice qv s.length cv)).mono (fun _ _ h => .inl h)).trans (aside_set _ w.heap.size 0 (.slice qv s.length cv)) (fun _ _ h => .inl h)).trans (aside_set _ (w.heap.size + 1) 0 (.int .i64 0)) (fun _ _ h => .inr h)
      have hB := (HBt.out.aside hA (fun g hg he => by have := (HBt.out.lt g hg).1; omega) (fun j hj k hk he => by have := (HBt.out.range j hj k hk).1; omega)).low (B' := w.heap.size) (by omega)
      refine ⟨_, results_rowcell rfl _ _ w.heap.size (w.heap.size + 1) _ #[.slice qv s.length cv] _ _ 0 rfl hI3.b0 Tryz.underlying25 rfl (by kernel_rfl) rfl (blk_cell hI3.b1 0) Tryz.underlying31, ?_⟩
      rw [HR3.out]
      exact ⟨_, rfl, ⟨_, us, Fs, rfl, hB, by omega⟩, hI3.below⟩
    · have HR3 : Hid (r = .error 5) := HR2.out.trans (if_neg hkl)
      have gL : ((L : Int) == 0) = false := beq_f (by omega)
      have HI2 := Lib.hid (HI1.out.setS (.slice qv s.length cv))
      clear HR2 hkl hL
      go_wp2_with fail
      refine (need_f _ 5 _).mono ?_
      rintro e w2 ⟨rfl, hw2⟩
      rw [hw2]
      clear hw2 w2
      go_wp2
      exact HDoor.out 5 _ _ _ HR3.out HI2.out _ _ rfl rfl rfl
end Go.Proofs.YtnlhpndjogjejaaGreatDoor
