/- K11G, W11A: put together. -/
import Derived.Test.YtpkbdnilakaakaaGreatM49
import Derived.Test.YtpkbdnilakaakaaGreatM50
import Derived.Test.YtpkbdnilakaakaaGreatM42
import Derived.Test.YtpkbdnilakaakaaGreatM48
import Derived.Test.YtpkbdnilakaakaaGreatM04
import Derived.Deep.RegionHeld3

/- The landed batch: Unpack. -/
namespace Go.Proofs.YtpkbdnilakaakaaGreat
open Go.RowKit Go.Shelf

attribute [local go_sem] run_store_float Oper.semAt_some

/-- what Unpack answers: rows of the caller's own, or the error alone -/
def UnpA (w : World) (r : Except Nat (List (List V))) (e : Ending) (w' : World) : Prop := match r with
  | .error er => e = .returned (.tuple #[.slice none 0 0, .int .i64 (er : Nat)]) ∧ Below w.heap.size w w'
  | .ok l => ∃ q c, e = .returned (.tuple #[.slice q l.length c, .int .i64 0]) ∧ RowsB w' w.heap.size (.slice q l.length c) l ∧ Below w.heap.size w w'

theorem decodedK (s : List Col) (p : Option Addr) (c m : Nat) (q : Option Addr) (d : Nat) (n : Int) (w : World) :
    Calls Tryz.prog 29 #[.agg #[.slice p s.length c], .slice q m d, .int .i64 n] w fun e w' => e = .returned (.func (.func 46) #[] #[.pointer (some ⟨w.heap.size + 1 + 1, 0, none⟩), .pointer (some ⟨w.heap.size, 0, none⟩), .pointer (some ⟨w.heap.size + 1, 0, none⟩)]) ∧ w' = ((w.alloc (.cells #[.slice p s.length c] 24)).alloc (.cells #[.slice q m d] 29)).alloc (.cells #[.int .i64 n] 3) := by
  go_enter Tryz.func29, Tryz.ntmps29
  go_wp2
  go_ret
  exact ⟨rfl, rfl⟩

/-- while rows are read: w, the world at the beginning; w3, the one ahead of the loop; B, where the rows' variable lies -/
structure UnpI (w w3 : World) (B : Nat) (rec : Loop) (v : Value) (ys : List (List V)) (W : World) : Prop where
  below : Below w.heap.size w W
  same : ∀ k, k < w3.heap.size → k ≠ B → W.heap[k]? = w3.heap[k]?
  box : W.heap[B]? = some (.cells #[v] 25 (0, 0))
  has : RowsB W (w3.heap.size + 2) v ys
  dfr : W.heap[w3.heap.size]? = some (.deferred (some []))
  lp : W.heap[w3.heap.size + 1]? = some (.loop rec)
  size : w3.heap.size + 2 ≤ W.heap.size
/-- there was an error -/
structure UnpX (w w3 : World) (rec : Loop) (er : Nat) (W : World) : Prop where
  below : Below w.heap.size w W
  r1 : W.heap[w.heap.size + 1]? = some (.cells #[.slice none 0 0] 25 (0, 0))
  r2 : W.heap[w.heap.size + 1 + 1]? = some (.cells #[.int .i64 er] 26 (0, 0))
  dfr : W.heap[w3.heap.size]? = some (.deferred (some []))
  lp : W.heap[w3.heap.size + 1]? = some (.loop rec)
section
variable {w w3 W W' : World} {B : Nat} {rec : Loop} {v v' : Value} {xs ys : List (List V)}
theorem UnpI.on (h : UnpI w w3 B rec v xs W) (hb : Below W.heap.size W W') : UnpI w w3 B rec v xs W' := by
  have hs := h.size
  have hw := h.below.size
  have hB := blk_lt h.box
  exact ⟨h.below.trans (hb.mono hw), fun k hk hne => (hb.block k (by omega)).trans (h.same k hk hne), blk_on h.box hb hB, h.has.on hb, blk_on h.dfr hb (by omega), blk_on h.lp hb (by omega), by have := hb.size; omega⟩
theorem UnpI.turn (h : UnpI w w3 B rec v xs W) (hw : w.heap.size ≤ w3.heap.size) (hB : B < w3.heap.size) (rec' : Loop) : UnpI w w3 B rec' v xs (W.putObj (w3.heap.size + 1) (.loop rec')) := by
  have hs := h.size
  exact ⟨h.below.trans (below_put _ (by omega) h.below.size), fun k hk hne => (World.putObj_heap_other (by omega)).trans (h.same k hk hne), (World.putObj_heap_other (by omega)).trans h.box, h.has.aside (aside_put _) (fun k hk _ hc => by omega), (World.putObj_heap_other (by omega)).trans h.dfr, World.putObj_heap_same (by omega), by simp; omega⟩
theorem UnpI.more (h : UnpI w w3 B rec v xs W) (hw : w.heap.size ≤ B) (hB : B < w3.heap.size) (ha : Aside (fun k => v.ownBlock = some k) W W') (hh : RowsB W' (w3.heap.size + 2) v' ys) :
    W'.heap[B]? = some (.cells #[v] 25 (0, 0)) ∧ UnpI w w3 B rec v' ys (W'.setCell ⟨B, 0, none⟩ v') := by
  have hs := h.size
  have hold : ∀ k, k < w3.heap.size + 2 → W'.heap[k]? = W.heap[k]? := fun k hk => ha.block k (by omega) (fun hc => by have := (h.has.lt k hc).1; omega)
  have hbx : W'.heap[B]? = some (.cells #[v] 25 (0, 0)) := (hold B (by omega)).trans h.box
  have hset : ∀ k, k ≠ B → (W'.setCell ⟨B, 0, none⟩ v').heap[k]? = W'.heap[k]? := fun k hk => Below.heap_setCell _ _ _ _ hk
  have hbW : Below w.heap.size W W' := ha.below h.below.size (fun k hk hc => by have := (h.has.lt k hc).1; omega)
  refine ⟨hbx, ⟨(h.below.trans hbW).setCell (p := ⟨B, 0, none⟩) hw _, fun k hk hne => ?_, by simpa using blk_set hbx 0 v', ?_, ?_, ?_, ?_⟩⟩
  · rw [hset k hne, hold k (by omega)]; exact h.same k hk hne
  · exact hh.aside ((Aside.refl (fun k => k = B) W').setCell (p := ⟨B, 0, none⟩) (.inl rfl) v') (fun k hk _ hc => by omega)
  · rw [hset _ (by omega), hold _ (by omega)]; exact h.dfr
  · rw [hset _ (by omega), hold _ (by omega)]; exact h.lp
  · have := ha.size
    have : (W'.setCell ⟨B, 0, none⟩ v').heap.size = W'.heap.size := by simp [World.setCell]
    omega
end
theorem At.keepB {w w' : World} {p : Option Addr} {l : List UInt8} {A : Nat} (h : At w p l) (hp : ∀ b o, p = some ⟨b, o, none⟩ → b < A) (hk : ∀ k, k < A → w'.heap[k]? = w.heap[k]?) (hs : w.heap.size ≤ w'.heap.size) : At w' p l := by
  rcases h with rfl | ⟨b, o, rfl, h1, h2⟩
  · exact .inl rfl
  · refine .inr ⟨b, o, rfl, by omega, fun j hj => ?_⟩
    rw [World.cell?_of_block (w := w) (hk b (hp b o rfl))]
    exact h2 j hj
/-- append of a row, in a round -/
theorem wpIn_rowB {F : Fence} {n : Nat} {B : Nat} {v : Value} {ys : List (List V)} {w : World} (h : RowsB w B v ys) (hB : B ≤ w.heap.size) (y : List V) (q : Option Addr) (d ad : Nat) (hblk : w.heap[ad]? = some (.cells #[.slice q y.length d] 41 (0, 0))) (hn : ys.length ≤ 1000000)
    (hy : ROwn w (fun k => B ≤ k ∧ k < w.heap.size ∧ v.ownBlock ≠ some k) q d y)
    {ops : Array Oper} {rest : List Oper} {o : Oper} {a : Act} {Q : Exit → Act → World → Prop} {yy x : Operand}
    (ht : o.type = 25) (hg : o.guard = none) (hop : o.op = Op.call { callee := Callee.builtin Builtin.append, args := #[yy, x], argTypes := #[25, 25] })
    (hs : a.eval yy = v) (hx : a.eval x = .slice (some ⟨ad, 0, none⟩) 1 1)
    (hK : ∀ zs g cap W, Hid (zs = ys ++ [y]) → RowsB W B (.slice (some ⟨g, 0, none⟩) zs.length cap) zs → Aside (fun k => v.ownBlock = some k) w W → wpListIn F n Tryz.prog ops Q rest (a.put o.dst (.slice (some ⟨g, 0, none⟩) zs.length cap)) W) :
    wpListIn F n Tryz.prog ops Q (o :: rest) a w := by
  obtain ⟨g, cap, W, hr, hm, ha⟩ := rows_run h hB y q d ad hblk hn hy
  have hr' : AppRun Tryz.prog 25 25 o.type v (.slice (some ⟨ad, 0, none⟩) 1 1) w (.slice (some ⟨g, 0, none⟩) (ys ++ [y]).length cap) W := by rw [ht]; exact hr
  exact wpListIn_append_ran hr' hg hop hs hx (hK _ g cap W (Lib.hid rfl) hm ha)

set_option maxRecDepth 100000 in
set_option maxHeartbeats 4000000 in
theorem unpackBK (HR : RowsIn) (s : List Col) (p : Option Addr) (c : Nat) (b : List UInt8) (q : Option Addr) (d : Nat) (n : Int) (w : World) (hS : SchL w p c s) (hbl : b.length ≤ 140737488351232) (hbd : b.length ≤ d) (hat : At w q b) :
    Calls Tryz.prog 16 #[.agg #[.slice p s.length c], .slice q b.length d, .int .i64 n] w (UnpA w (Bt.unpack s b n)) := by
  obtain ⟨W0, hW0⟩ : ∃ W0, W0 = ((w.alloc (.cells #[.slice p s.length c] 24)).alloc (.cells #[.slice none 0 0] 25)).alloc (.cells #[.int .i64 0] 26) := ⟨_, rfl⟩
  obtain ⟨k0, k1, k2, hb0, hs0⟩ := al3 w (.cells #[.slice p s.length c] 24) (.cells #[.slice none 0 0] 25) (.cells #[.int .i64 0] 26)
  rw [← hW0] at k0 k1 k2 hb0 hs0
  have HC := Lib.hid (checkBK HR s p c n W0 (hS.on hb0))
  have HK := Lib.hid (And.intro k0 (And.intro k1 k2))
  have HB0 := Lib.hid hb0
  have HW0 := Lib.hid hW0
  have HS := Lib.hid hS
  have HA := Lib.hid hat
  have HRI := Lib.hid HR
  obtain ⟨R, hR⟩ : ∃ R, R = Bt.unpack s b n := ⟨_, rfl⟩
  rw [← hR]
  unfold Bt.unpack at hR
  obtain ⟨en, hen⟩ : ∃ en, en = Bt.numErr s n := ⟨_, rfl⟩
  rw [← hen] at HC hR
  have HRR := Lib.hid hR
  have HEn := Lib.hid hen
  clear hb0 hW0 hS HR hR hen k0 k1 k2 hat
  refine (callsIn_wide (n := 5)).1 ?_
  refine callsIn_of_wp_marks Tryz.func16 rfl trivial ?_ rfl
  simp only [Tryz.ntmps16, List.size_toArray, List.length_cons, List.length_nil, Nat.reduceAdd, Nat.reduceSub, Array.replicate_succ, Array.replicate_zero, List.push_toArray, List.append_toArray, List.nil_append, List.cons_append]
  gi_wp2
  refine ⟨trivial, ?_⟩
  rw [← HW0.out]
  refine (callsIn_wide.2 HC.out).mono ?_
  rintro e w1 ⟨rfl, hb1⟩
  have HBw1 := Lib.hid (HB0.out.trans (hb1.mono HB0.out.size))
  have hs1 := hb1.size
  have j0 := blk_on HK.out.1 hb1 (by omega)
  have j1 := blk_on HK.out.2.1 hb1 (by omega)
  have j2 := blk_on HK.out.2.2 hb1 (by omega)
  have n0 := boxed_cell j0
  have n1 := boxed_cell j1
  have n2 := boxed_cell j2
  have f1 := boxed_free j1
  have f2 := boxed_free j2
  have HJ := Lib.hid (And.intro j0 (And.intro j1 j2))
  clear hb1 HC HW0 HK j0 j1 j2
  by_cases h0 : en ≠ 0
  · have g0 : ((en : Int) != 0) = true := bne_t (by omega)
    have HE : Hid (R = .error en) := HRR.out.trans (if_pos h0)
    clear HRR h0
    gi_wp2
    have j2 := blk_set (blk_set_far HJ.out.2.2 ⟨w.heap.size + 1, 0, none⟩ (.slice none 0 0) (by simp)) 0 (.int .i64 en)
    have j1 := blk_set_far (blk_set HJ.out.2.1 0 (.slice none 0 0)) ⟨w.heap.size + 1 + 1, 0, none⟩ (.int .i64 en) (by simp)
    refine ⟨_, results_two rfl _ _ (w.heap.size + 1) (w.heap.size + 1 + 1) _ _ rfl (boxed_cell j1) Tryz.underlying25 rfl (boxed_cell j2) Tryz.underlying26, ?_⟩
    rw [HE.out]
    exact ⟨rfl, (HBw1.out.setCell (p := ⟨w.heap.size + 1, 0, none⟩) (by simp) _).setCell (p := ⟨w.heap.size + 1 + 1, 0, none⟩) (by simp; omega) _⟩
  have g0 : ((en : Int) != 0) = false := bne_f (by omega)
  have HR1 := Lib.hid (HRR.out.trans (if_neg h0))
  have HEn0 : Hid (Bt.numErr s n = 0) := by show _ = 0; rw [← HEn.out]; omega
  obtain ⟨nn, hnn⟩ : ∃ nn : Nat, n = nn := ⟨n.toNat, by have := (Bt.numErr_open HEn0.out).2.1; omega⟩
  subst hnn
  have hn64 : nn ≤ 64 := by have := (Bt.numErr_open HEn0.out).2.2; omega
  rw [Int.toNat_natCast] at HR1
  clear HRR h0 HEn
  have HU := Lib.hid (unpackK b q d w1 hbl hbd (HA.out.on HBw1.out))
  have hul := (Blk.unpack_len b).1
  obtain ⟨U, hU⟩ : ∃ U, U = Blk.unpack b := ⟨_, rfl⟩
  rw [← hU] at HU HR1 hul
  clear hU
  gi_wp2
  refine ⟨trivial, ?_⟩
  refine (callsIn_wide.2 HU.out).mono ?_
  rintro e w2 ⟨q2, m2, c2, rfl, hm2, hh2, hb2⟩
  subst hm2
  have HBw2 := Lib.hid (HBw1.out.trans (hb2.mono HBw1.out.size))
  have hs2 := hb2.size
  have j0 := blk_on HJ.out.1 hb2 (by omega)
  have j1 := blk_on HJ.out.2.1 hb2 (by omega)
  have j2 := blk_on HJ.out.2.2 hb2 (by omega)
  have n0 := boxed_cell j0
  have n1 := boxed_cell j1
  have n2 := boxed_cell j2
  have f1 := boxed_free j1
  have f2 := boxed_free j2
  have HJ2 := Lib.hid (And.intro j0 (And.intro j1 j2))
  have HH2 := Lib.hid hh2
  clear hb2 hh2 HU HJ j0 j1 j2
  by_cases h1 : U.err ≠ 0
  · have g1 : ((U.err : Int) != 0) = true := bne_t (by omega)
    have HE : Hid (R = .error U.err) := HR1.out.trans (if_pos h1)
    clear HR1 h1
    gi_wp2
    have j2 := blk_set (blk_set_far HJ2.out.2.2 ⟨w.heap.size + 1, 0, none⟩ (.slice none 0 0) (by simp)) 0 (.int .i64 U.err)
    have j1 := blk_set_far (blk_set HJ2.out.2.1 0 (.slice none 0 0)) ⟨w.heap.size + 1 + 1, 0, none⟩ (.int .i64 U.err) (by simp)
    refine ⟨_, results_two rfl _ _ (w.heap.size + 1) (w.heap.size + 1 + 1) _ _ rfl (boxed_cell j1) Tryz.underlying25 rfl (boxed_cell j2) Tryz.underlying26, ?_⟩
    rw [HE.out]
    exact ⟨rfl, (HBw2.out.setCell (p := ⟨w.heap.size + 1, 0, none⟩) (by simp) _).setCell (p := ⟨w.heap.size + 1 + 1, 0, none⟩) (by simp; omega) _⟩
  have g1 : ((U.err : Int) != 0) = false := bne_f (by omega)
  have HR2 := Lib.hid (HR1.out.trans (if_neg h1))
  clear HR1 h1
  have z0 := fun o => cell_on ((Below.refl w2.heap.size w2).alloc (Nat.le_refl _) o) n0
  clear n1 n2 f1 f2
  gi_wp2
  refine ⟨trivial, ?_⟩
  refine (callsIn_wide.2 (decodedK s p c U.out.length q2 c2 nn _)).mono ?_
  rintro e w3 ⟨rfl, hw3⟩
  obtain ⟨m0, m1, m2, m3, mb, ms⟩ := al4 w2 (.cells #[.slice none 0 0] 25) (.cells #[.slice p s.length c] 24) (.cells #[.slice q2 U.out.length c2] 29) (.cells #[.int .i64 nn] 3)
  rw [← hw3] at m0 m1 m2 m3 mb ms
  have hms : w2.heap.size + 4 ≤ w3.heap.size := by omega
  have HM := Lib.hid (And.intro m0 (And.intro m1 (And.intro m2 (And.intro m3 mb))))
  have hBw3 := Lib.hid (HBw2.out.trans (mb.mono HBw2.out.size))
  have hh3 := HH2.out.on mb
  obtain ⟨pv, cv, hpv, hat3, hcv⟩ := hh3.at
  injection hpv with e1 _ e2
  subst e1 e2
  have HAt3 := Lib.hid hat3
  have HLow : Hid (∀ b o, q2 = some ⟨b, o, none⟩ → b < w2.heap.size) := fun b o hq => (HH2.out.place b o hq).2
  clear hw3 m0 m1 m2 m3 mb ms z0 n0 hh3 hat3
  gi_wp2
  refine range_ran (gf := 46) rfl (enters_of Tryz.func46 (by kernel_rfl) rfl) ?_
  intro fn
  generalize hrec : recd fn _ _ _ _ _ = rec
  have hlo : w.heap.size + 3 ≤ w2.heap.size := by omega
  have hww : w.heap.size ≤ w3.heap.size := by omega
  have HREC := Lib.hid hrec
  clear hrec
  refine (decoded1K HRI.out s p c U.out q2 c2 nn hul hn64 hcv (w2.heap.size + 1) (w2.heap.size + 1 + 1) (w2.heap.size + 1 + 1 + 1) (w3.heap.size + 1) (fun ys W => ∃ v, UnpI w w3 w2.heap.size (rec .ready none) v ys W) (fun er W => UnpX w w3 (rec .done (some .ret)) er W) _ ?hJb ?hJn ?h0 ?good ?bad).mono ?_
  case hJb =>
    rintro ys W ⟨v, h⟩
    refine ⟨HS.out.on h.below, ?_, (h.same _ (by omega) (by omega)).trans HM.out.2.1, (h.same _ (by omega) (by omega)).trans HM.out.2.2.1, (h.same _ (by omega) (by omega)).trans HM.out.2.2.2.1⟩
    exact At.keepB (A := w2.heap.size) HAt3.out HLow.out (fun k hk => h.same k (by omega) (by omega)) (by have := h.size; omega)
  case hJn =>
    rintro ys W W' ⟨v, h⟩ hb
    exact ⟨v, h.on hb⟩
  case h0 =>
    obtain ⟨a0, a1, ab, asz⟩ := al2 w3 (.deferred (some [])) (.loop (rec .ready none))
    exact ⟨.slice none 0 0, hBw3.out.trans (ab.mono hww), fun k hk _ => ab.block k hk, blk_on HM.out.1 ab (by omega), rowsB_nil _ _, a0, a1, by omega⟩
  case good =>
    rintro m ys y W1 W2 qq dd hyn ⟨v, h1⟩ hb12 hown
    have h2 := h1.on hb12
    have hlp := h2.lp
    rw [← HREC.out] at hlp
    refine round_ran (R := fun b W' => b = true ∧ ∃ v, UnpI w w3 w2.heap.size (rec .ready none) v (ys ++ [y]) W') hlp rfl ?_
    obtain ⟨Wr, hWr⟩ : ∃ Wr, Wr = W2.alloc (.cells #[.slice qq y.length dd] 41) := ⟨_, rfl⟩
    have hb2r : Below W2.heap.size W2 Wr := by rw [hWr]; exact (Below.refl _ _).alloc (Nat.le_refl _) _
    have hrb : Wr.heap[W2.heap.size]? = some (.cells #[.slice qq y.length dd] 41 (0, 0)) := by rw [hWr]; exact blk_new W2 _
    have hr := h2.on hb2r
    have hlr := hr.lp
    rw [← HREC.out] at hlr
    obtain ⟨Wb, hWb⟩ : ∃ Wb, Wb = Wr.putObj (w3.heap.size + 1) (.loop (rec .busy none)) := ⟨_, rfl⟩
    have hb := hr.turn hww (by omega) (rec .busy none)
    have hbb : Wb.heap[W2.heap.size]? = some (.cells #[.slice qq y.length dd] 41 (0, 0)) := by rw [hWb]; exact (World.putObj_heap_other (by have := h2.size; omega)).trans hrb
    have ha2b : Aside (fun k => k = w3.heap.size + 1) W2 Wb := by rw [hWb]; exact (aside_new hb2r _).trans (aside_put _) (fun _ _ h => h)
    rw [← hWb] at hb
    rw [← HREC.out] at hWb
    have hob : ROwn Wb (fun k => w3.heap.size + 2 ≤ k ∧ k < Wb.heap.size ∧ v.ownBlock ≠ some k) qq dd y := by
      refine (VOwn.aside hown ha2b (fun k hk hc => ?_)).mono (fun k hk => ⟨?_, ?_, fun hc => ?_⟩)
      · have := h1.size; omega
      · have := h1.size; omega
      · have := ha2b.size; omega
      · have := (h1.has.lt k hc).2; omega
    obtain ⟨Wc, hWc⟩ : ∃ Wc, Wc = Wb.alloc (.cells #[.slice qq y.length dd] 41) := ⟨_, rfl⟩
    have hbc : Below Wb.heap.size Wb Wc := by rw [hWc]; exact (Below.refl _ _).alloc (Nat.le_refl _) _
    have hc := hb.on hbc
    have hcb : Wc.heap[Wb.heap.size]? = some (.cells #[.slice qq y.length dd] 41 (0, 0)) := by rw [hWc]; exact blk_new Wb _
    have hoc : ROwn Wc (fun k => w3.heap.size + 2 ≤ k ∧ k < Wc.heap.size ∧ v.ownBlock ≠ some k) qq dd y := (VOwn.aside hob (aside_new hbc (fun _ => False)) (fun _ _ hc => hc)).mono (fun k hk => ⟨hk.1, by have := hbc.size; omega, hk.2.2⟩)
    have n7 := boxed_cell hb.box
    have n12 := boxed_cell hbb
    have HC := Lib.hid hc
    have HCB := Lib.hid hcb
    have HOC := Lib.hid hoc
    have HWr := Lib.hid hWr
    have HWb := Lib.hid hWb
    have HWc := Lib.hid hWc
    have HLr := Lib.hid hlr
    have hy6 : ys.length ≤ 1000000 := by omega
    clear h1 h2 hr hb hc hWr hWb hWc hlr hlp hown hob hoc hb12 hb2r hrb hbb ha2b hbc hcb
    gi_wp2
    rw [← HWr.out]
    refine ⟨HLr.out, ?_⟩
    rw [← HWb.out]
    gi_wp2_with (first
      | (gi_at_builtin
         rw [← HWc.out]
         refine wpIn_rowB HC.out.has HC.out.size y qq dd _ HCB.out hy6 HOC.out rfl rfl rfl rfl rfl ?_
         intro zs g3 cap3 W5 HY hh ha
         obtain ⟨hbx, hj⟩ := HC.out.more (by omega) (by omega) ha hh
         have n8 := boxed_cell hbx
         have f8 := boxed_free hbx
         have HJ3 := Lib.hid hj
         clear hh ha hbx hj)
      | fail)
    have hlp3 := HJ3.out.lp
    rw [← HREC.out] at hlp3
    refine ⟨hlp3, rfl, .slice (some ⟨g3, 0, none⟩) zs.length cap3, ?_⟩
    have ht := HJ3.out.turn hww (by omega) (rec .ready none)
    rw [HREC.out, ← HY.out]
    exact ht
  case bad =>
    rintro m ys W er ⟨v, h⟩ he
    have g2 : ((er : Int) != 0) = true := bne_t (by omega)
    have hlp := h.lp
    rw [← HREC.out] at hlp
    refine round_ran (R := fun b W' => b = false ∧ UnpX w w3 (rec .done (some .ret)) er W') hlp rfl ?_
    obtain ⟨Wr, hWr⟩ : ∃ Wr, Wr = W.alloc (.cells #[.slice none 0 0] 41) := ⟨_, rfl⟩
    have hbr : Below W.heap.size W Wr := by rw [hWr]; exact (Below.refl _ _).alloc (Nat.le_refl _) _
    have hr := h.on hbr
    have hlr := hr.lp
    rw [← HREC.out] at hlr
    have j1 : Wr.heap[w.heap.size + 1]? = some (.cells #[.slice none 0 0] 25 (0, 0)) := (hr.same _ (by omega) (by omega)).trans (blk_on HJ2.out.2.1 HM.out.2.2.2.2 (by omega))
    have j2 : Wr.heap[w.heap.size + 1 + 1]? = some (.cells #[.int .i64 0] 26 (0, 0)) := (hr.same _ (by omega) (by omega)).trans (blk_on HJ2.out.2.2 HM.out.2.2.2.2 (by omega))
    obtain ⟨Wb, hWb⟩ : ∃ Wb, Wb = Wr.putObj (w3.heap.size + 1) (.loop (rec .busy none)) := ⟨_, rfl⟩
    have hb := hr.turn hww (by omega) (rec .busy none)
    have b1 : Wb.heap[w.heap.size + 1]? = some (.cells #[.slice none 0 0] 25 (0, 0)) := by rw [hWb]; exact (World.putObj_heap_other (by omega)).trans j1
    have b2 : Wb.heap[w.heap.size + 1 + 1]? = some (.cells #[.int .i64 0] 26 (0, 0)) := by rw [hWb]; exact (World.putObj_heap_other (by omega)).trans j2
    rw [← hWb] at hb
    rw [← HREC.out] at hWb
    have HBd := Lib.hid hb
    have HLr := Lib.hid hlr
    have n1 := boxed_cell b1
    have f1 := boxed_free b1
    have n2 := boxed_cell b2
    have f2 := boxed_free b2
    have HB12 := Lib.hid (And.intro b1 b2)
    have HWb := Lib.hid hWb
    have HWr := Lib.hid hWr
    clear hlp hlr hb hr hbr j1 j2 b1 b2 hWb hWr h he
    gi_wp2
    rw [← HWr.out]
    refine ⟨HLr.out, ?_⟩
    rw [← HWb.out]
    gi_wp2
    have c2' := blk_set (blk_set_far HB12.out.2 ⟨w.heap.size + 1, 0, none⟩ (.slice none 0 0) (by simp)) 0 (.int .i64 er)
    have c1' := blk_set_far (blk_set HB12.out.1 0 (.slice none 0 0)) ⟨w.heap.size + 1 + 1, 0, none⟩ (.int .i64 er) (by simp)
    have hset : ∀ k, w.heap.size + 2 < k → ((Wb.setCell ⟨w.heap.size + 1, 0, none⟩ (.slice none 0 0)).setCell ⟨w.heap.size + 1 + 1, 0, none⟩ (.int .i64 er)).heap[k]? = Wb.heap[k]? := fun k hk => by
      rw [Below.heap_setCell _ _ _ _ (by simp; omega), Below.heap_setCell _ _ _ _ (by simp; omega)]
    have hbl := ((HBd.out.below.setCell (p := ⟨w.heap.size + 1, 0, none⟩) (by simp) (.slice none 0 0)).setCell (p := ⟨w.heap.size + 1 + 1, 0, none⟩) (by simp; omega) (.int .i64 er))
    have hlp2 := (hset (w3.heap.size + 1) (by omega)).trans HBd.out.lp
    have hdf2 := (hset w3.heap.size (by omega)).trans HBd.out.dfr
    rw [← HREC.out] at hlp2
    refine ⟨hlp2, rfl, ?_⟩
    rw [HREC.out]
    exact ⟨hbl.trans (below_put _ (by omega) hbl.size), (World.putObj_heap_other (by omega)).trans (by simpa using c1'), (World.putObj_heap_other (by omega)).trans (by simpa using c2'), (World.putObj_heap_other (by omega)).trans hdf2, World.putObj_heap_same (blk_lt hlp2)⟩
  rintro e W4 ⟨⟨v4, rfl⟩, hend⟩
  rw [← HR2.out] at hend
  clear HR2
  cases R with
  | ok l =>
    obtain ⟨v, hJ4⟩ := hend
    have h5 := hJ4.turn hww (by omega) (rec .exhausted none)
    refine ⟨⟨_, rfl⟩, .inl ⟨hJ4.lp, ?_⟩⟩
    obtain ⟨W5, hW5⟩ : ∃ W5, W5 = W4.putObj (w3.heap.size + 1) (.loop (rec .exhausted none)) := ⟨_, rfl⟩
    rw [← hW5] at h5 ⊢
    obtain ⟨pv, cv, rfl, hcv2⟩ := h5.has.form
    have j1 : W5.heap[w.heap.size + 1]? = some (.cells #[.slice none 0 0] 25 (0, 0)) := (h5.same _ (by omega) (by omega)).trans (blk_on HJ2.out.2.1 HM.out.2.2.2.2 (by omega))
    have j2 : W5.heap[w.heap.size + 1 + 1]? = some (.cells #[.int .i64 0] 26 (0, 0)) := (h5.same _ (by omega) (by omega)).trans (blk_on HJ2.out.2.2 HM.out.2.2.2.2 (by omega))
    have H5 := Lib.hid h5
    have n7 := boxed_cell h5.box
    have n1 := boxed_cell j1
    have f1 := boxed_free j1
    have n2 := boxed_cell j2
    have f2 := boxed_free j2
    have HJ12 := Lib.hid (And.intro j1 j2)
    clear hJ4 h5 j1 j2 hW5
    gi_wp2
    have c2' := blk_set (blk_set_far HJ12.out.2 ⟨w.heap.size + 1, 0, none⟩ (.slice pv l.length cv) (by simp)) 0 (.int .i64 0)
    have c1' := blk_set_far (blk_set HJ12.out.1 0 (.slice pv l.length cv)) ⟨w.heap.size + 1 + 1, 0, none⟩ (.int .i64 0) (by simp)
    have hdf : ((W5.setCell ⟨w.heap.size + 1, 0, none⟩ (.slice pv l.length cv)).setCell ⟨w.heap.size + 1 + 1, 0, none⟩ (.int .i64 0)).heap[w3.heap.size]? = some (.deferred (some [])) := by
      rw [Below.heap_setCell _ _ _ _ (by simp; omega), Below.heap_setCell _ _ _ _ (by simp; omega)]; exact H5.out.dfr
    have hbl := ((H5.out.below.setCell (p := ⟨w.heap.size + 1, 0, none⟩) (by simp) (.slice pv l.length cv)).setCell (p := ⟨w.heap.size + 1 + 1, 0, none⟩) (by simp; omega) (.int .i64 0))
    have hh := (H5.out.has.aside ((((Aside.refl (fun k => k < w3.heap.size + 1) W5).setCell (p := ⟨w.heap.size + 1, 0, none⟩) (.inl (by simp; omega)) (.slice pv l.length cv)).setCell (p := ⟨w.heap.size + 1 + 1, 0, none⟩) (.inl (by simp; omega)) (.int .i64 0))) (fun k hk _ hc => by omega))
    have hh2 := hh.aside (aside_put (l := w3.heap.size) (.deferred none)) (fun k hk _ hc => by omega)
    refine ⟨by simp, .inl ⟨_, _, rfl, run_takeDeferred hdf, ?_⟩⟩
    refine ⟨_, results_two rfl _ _ (w.heap.size + 1) (w.heap.size + 1 + 1) _ _ rfl (boxed_cell ((World.putObj_heap_other (by omega)).trans c1')) Tryz.underlying25 rfl (boxed_cell ((World.putObj_heap_other (by omega)).trans c2')) Tryz.underlying26, ?_⟩
    exact ⟨pv, cv, rfl, hh2.lower (by omega), hbl.trans (below_put _ (by omega) hbl.size)⟩
  | error er =>
    have hX4 : UnpX w w3 (rec .done (some .ret)) er W4 := hend
    refine ⟨⟨_, rfl⟩, .inr ⟨hX4.lp, ?_⟩⟩
    have HX := Lib.hid hX4
    clear hX4 hend
    gi_wp2
    have hdf : (W4.putObj (w3.heap.size + 1) (.loop (rec .exhausted (some .ret)))).heap[w3.heap.size]? = some (.deferred (some [])) := (World.putObj_heap_other (by omega)).trans HX.out.dfr
    have hbl := HX.out.below.trans (below_put (l := w3.heap.size + 1) (.loop (rec .exhausted (some .ret))) (by omega) HX.out.below.size)
    refine ⟨by simp, .inl ⟨_, _, rfl, run_takeDeferred hdf, ?_⟩⟩
    refine ⟨_, results_two rfl _ _ (w.heap.size + 1) (w.heap.size + 1 + 1) _ _ rfl (boxed_cell ((World.putObj_heap_other (by omega)).trans ((World.putObj_heap_other (by omega)).trans HX.out.r1))) Tryz.underlying25 rfl (boxed_cell ((World.putObj_heap_other (by omega)).trans ((World.putObj_heap_other (by omega)).trans HX.out.r2))) Tryz.underlying26, ?_⟩
    exact ⟨rfl, hbl.trans (below_put _ (by omega) hbl.size)⟩
end Go.Proofs.YtpkbdnilakaakaaGreat

/- The law's own all(a, b): two lists of rows. -/
namespace Go.Proofs.YtpkbdnilakaakaaGreat
open Go.RowKit

attribute [local go_sem] run_store_float

set_option maxRecDepth 100000 in
set_option maxHeartbeats 2000000 in
theorem allK (l : List (List V)) (p q : Option Addr) (c d : Nat) (w : World) (hp : RowsL w p c l) (hq : RowsL w q d l) :
    Calls Tryz.prog 17 #[.slice p l.length c, .slice q l.length d] w fun e w' => e = .returned (.bool true) ∧ Below w.heap.size w w' := by
  have hlen := hp.len
  have HP := Lib.hid hp
  have HQ := Lib.hid hq
  clear hp hq
  go_enter Tryz.func17, Tryz.ntmps17
  go_wp2
  go_loopw [5] (fun v5 wr => ∃ j : Nat, j ≤ l.length ∧ v5 = .int .i64 j ∧ Hid (Below w.heap.size w wr)) (fun v5 _ => l.length - (intOf v5).toNat)
  case atStart => exact ⟨0, by omega, rfl, Below.refl _ _⟩
  case round =>
    obtain ⟨j, hj, rfl, HL⟩ := hrel
    by_cases hlt : j < l.length
    · obtain ⟨b1, o1, q1, d1, rfl, hb1, hc1, hr1⟩ := HP.out.rows j hlt
      obtain ⟨b2, o2, q2, d2, rfl, hb2, hc2, hr2⟩ := HQ.out.rows j hlt
      have a1 := cell_on HL.out hc1
      have a2 := cell_on HL.out hc2
      have HC : Hid (∀ w', Below w.heap.size w w' → Calls Tryz.prog 30 #[.agg #[.int .i64 0, .int .i64 0, .float .f64 0, .string ⟨#[]⟩, .slice q1 l[j].length d1], .agg #[.int .i64 0, .int .i64 0, .float .f64 0, .string ⟨#[]⟩, .slice q2 l[j].length d2]] w' fun e w'' => e = .returned (.bool true) ∧ Below w'.heap.size w' w'') := fun w' hb => by
        have h := exact6 _ _ w' _ _ (hr1.1.on hb) (hr2.1.on hb)
        rw [(V.exact_iff _ _).2 rfl] at h
        exact h
      have hj1 : (j : Int) < (l.length : Int) := by omega
      have HBw := Lib.hid HL.out
      clear hc1 hc2 hr1 hr2 HL
      go_wp2_with fail
      go_region_held3 (fun w' => w'.cell? ⟨b1, o1 + j, none⟩ = some (.slice q1 l[j].length d1) ∧ w'.cell? ⟨b2, o2 + j, none⟩ = some (.slice q2 l[j].length d2)) (go_keep) (first
        | (go_at_call 30; refine (HC.out _ (below_drewN HBw.out _)).mono ?_; rintro e w4 ⟨rfl, hb4⟩; have hb5 := below_via (w := wr) hb4 (by rfl) (by rfl) (by rfl) (by rfl); have z1 := cell_on hb5 a1; have z2 := cell_on hb5 a2; have HB4 := Lib.hid hb5; clear hb4 hb5)
        | fail)
      clear z1 z2 a1 a2
      have HN := Lib.hid (HBw.out.trans (HB4.out.mono HBw.out.size))
      clear HB4
      go_wp2
      go_roundw
      case rel => exact ⟨j + 1, by omega, by go_num, HN⟩
      case measure => simp [intOf]; omega
    · have hjn : ¬ (j : Int) < (l.length : Int) := by omega
      clear hlt
      go_wp2
      go_ret
      exact ⟨rfl, HL.out⟩
end Go.Proofs.YtpkbdnilakaakaaGreat
