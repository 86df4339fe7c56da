/- ResolveBlind over the landed resolve. -/
import Derived.Test.YtdahackmmhcjoaaLRzTyped
import Derived.Test.YtdahackmmhcjoaaWRows9
import Derived.Test.YtdahackmmhcjoaaGrowD9
import Derived.Test.YtdahackmmhcjoaaM05
import Derived.Test.YtdahackmmhcjoaaM20
import Derived.Deep.RegionLaw
namespace Go.Proofs.Ytdahackmmhcjoaa
open Go.RowKit

attribute [local go_sem] run_store_float

/-- the value that stands there in the other row -/
def pickB (s t : List Col) (vs os : List V) (i : Nat) : V := if ((Sch.find (Rz.colAt s i).name t 0).isSome || !Sch.is (os.getD i V0) (Rz.colAt s i).ty) = true then vs.getD i V0 else os.getD i V0
def blindL (s t : List Col) (vs os : List V) (n : Nat) : List V := (List.range n).map (pickB s t vs os)
theorem blind_len (s t : List Col) (vs os : List V) (n : Nat) : (blindL s t vs os n).length = n := by simp [blindL]
theorem blind_row {s t : List Col} {vs os ys : List V} (h : Rz.row s t vs = .ok ys) (hl : os.length = vs.length) : Rz.row s t (blindL s t vs os vs.length) = .ok ys := by
  refine Rz.row_blind h (blind_len ..) (fun i h1 h2 h3 => ?_)
  have e : (blindL s t vs os vs.length)[i] = pickB s t vs os i := by simp [blindL]
  rw [e]
  unfold pickB
  rw [Rz.colAt_get h1, Rz.getD_get h2, Rz.getD_get (show i < os.length by omega)]
  split
  · exact .inl rfl
  · rename_i hc
    simp only [Bool.or_eq_true, not_or, Bool.not_eq_true, Bool.not_eq_false'] at hc
    exact .inr ⟨Option.not_isSome_iff_eq_none.1 (by simp [hc.1]), hc.2⟩
theorem pick_wf {s t : List Col} {vs os : List V} (hv : ∀ x ∈ vs, x.wf) (ho : ∀ x ∈ os, x.wf) (hl : os.length = vs.length) : ∀ x ∈ blindL s t vs os vs.length, x.wf := by
  intro x hx
  simp only [blindL, List.mem_map, List.mem_range] at hx
  obtain ⟨i, hi, rfl⟩ := hx
  unfold pickB
  rw [Rz.getD_get hi, Rz.getD_get (show i < os.length by omega)]
  split
  · exact hv _ (List.getElem_mem _)
  · exact ho _ (List.getElem_mem _)

/-- block O holds a row that grows; v: its n values, which lie in w already -/
structure GrowB (w W1 : World) (O : Nat) (v : Value) (n : Nat) (f : Nat → V) (wr : World) : Prop where
  cell : wr.heap[O]? = some (.cells #[v] 42 (0, 0))
  keep : Aside (fun k => k = O) W1 wr
  low : O < W1.heap.size
  built : ∃ us : Nat → Array Value, (∀ j, j < n → (us j).size = 5) ∧ wr.ownsRow W1.heap.size 28 5 v n (flat us n) ∧ ∀ j, j < n → VLies w (us j) (f j)
theorem growB_nil {w W1 : World} {O : Nat} {f : Nat → V} (h : W1.heap[O]? = some (.cells #[.slice none 0 0] 42 (0, 0))) : GrowB w W1 O (.slice none 0 0) 0 f W1 :=
  ⟨h, Aside.refl _ _, blk_lt h, fun _ => #[], fun j hj => by omega, World.ownsRow_nil _ _ _ _, fun j hj => by omega⟩
theorem GrowB.lt {w W1 wr : World} {O n : Nat} {v : Value} {f : Nat → V} (h : GrowB w W1 O v n f wr) : ∀ g, v.ownBlock = some g → W1.heap.size ≤ g ∧ g < wr.heap.size := by
  obtain ⟨us, -, hrow, -⟩ := h.built
  exact World.ownsRow.lt hrow
theorem GrowB.on {w W1 wr w' : World} {O n : Nat} {v : Value} {f : Nat → V} (h : GrowB w W1 O v n f wr) (hb : Below wr.heap.size wr w') : GrowB w W1 O v n f w' := by
  obtain ⟨us, h5, hrow, hcl⟩ := h.built
  exact ⟨(hb.block O (blk_lt h.cell)).trans h.cell, h.keep.trans (aside_new hb (fun k => k = O)) (fun _ _ h => h), h.low, us, h5, ownsRow_aside hrow (aside_new hb (fun _ => False)) (fun _ _ hc => hc), hcl⟩
theorem GrowB.items {w W1 wr : World} {O n d : Nat} {q : Option Addr} {f : Nat → V} (h : GrowB w W1 O (.slice q n d) n f wr) (hw : Below w.heap.size w wr) : Items wr q ((List.range n).map f) := by
  obtain ⟨us, h5, hrow, hcl⟩ := h.built
  intro j hj
  simp only [List.length_map, List.length_range] at hj
  rw [List.getElem_map, List.getElem_range]
  have hl := (hcl j hj).on hw
  refine ⟨us j, hl, ?_⟩
  rcases hrow.2 with ⟨-, h0⟩ | ⟨g, cap, cur, hv, h1, h2, h3, h4, h6, h7⟩
  · omega
  · injection hv with hq _ _
    subst hq
    have hcell : ∀ q, q < n * 5 → wr.cell? ⟨g, q, none⟩ = (flat us n)[q]? := fun q hq => by
      rw [← h7, List.getElem?_take_of_lt hq]
      simp [World.cell?, h2]
    obtain ⟨k, i, b, t, p, c, xs, us', e1, -⟩ := hl.inv
    have hc5 : ∀ m, m < 5 → wr.cell? ⟨g, 0 + j * 5 + m, none⟩ = (us j)[m]? := fun m hm => by
      rw [Nat.zero_add, hcell _ (by omega), flat_get us _ h5 j hj m hm]
    rw [e1] at hc5
    exact ⟨g, 0, k, i, b, t, p, xs.length, c, rfl, blk_lt h2, e1, hc5 0 (by omega), hc5 1 (by omega), hc5 2 (by omega), hc5 3 (by omega), hc5 4 (by omega)⟩
/-- one value more -/
theorem GrowB.next {w W1 wr W7 W8 : World} {O n g cap : Nat} {v : Value} {f : Nat → V} {u : Array Value} {us : Nat → Array Value} (h : GrowB w W1 O v n f wr) (h5 : ∀ j, j < n → (us j).size = 5) (hcl : ∀ j, j < n → VLies w (us j) (f j)) (hx : VLies w u (f n)) (hu : u.size = 5) (hb : Below wr.heap.size wr W7)
    (hr : W8.ownsRow W1.heap.size 28 5 (.slice (some ⟨g, 0, none⟩) (n + 1) cap) (n + 1) (flat us n ++ u.toList)) (hg : W7.grownBy W8 v.ownBlock) (hn : v.ownBlock = some g ∨ g = W7.heap.size) :
    GrowB w W1 O (.slice (some ⟨g, 0, none⟩) (n + 1) cap) (n + 1) f (W8.setCell ⟨O, 0, none⟩ (.slice (some ⟨g, 0, none⟩) (n + 1) cap)) := by
  have hs := hb.size
  have hOl := h.low
  have hOr := blk_lt h.cell
  have hk1 := h.keep.size
  have ha78 : Aside (fun i => v.ownBlock = some i) W7 W8 := ⟨hg.os, hg.tape, hg.output, hg.size, fun i hi hf => hg.block i hi (fun hc => hf hc.symm)⟩
  have h89 : Aside (fun i => i = O) W8 (W8.setCell ⟨O, 0, none⟩ (.slice (some ⟨g, 0, none⟩) (n + 1) cap)) := (Aside.refl (fun i => i = O) W8).setCell (p := ⟨O, 0, none⟩) (.inl rfl) _
  have hvO : ¬ v.ownBlock = some O := fun hc => by have := (h.lt O hc).1; omega
  have hgO : g ≠ O := by
    rcases hn with hn | hn
    · exact fun hc => hvO (by rw [← hc]; exact hn)
    · omega
  have hOw8 : W8.heap[O]? = some (.cells #[v] 42 (0, 0)) := by
    rw [ha78.block O (by omega) hvO, hb.block O hOr]
    exact h.cell
  have hr9 : Aside (fun i => v.ownBlock = some i ∨ i = O) wr (W8.setCell ⟨O, 0, none⟩ (.slice (some ⟨g, 0, none⟩) (n + 1) cap)) :=
    ((aside_new hb (fun i => v.ownBlock = some i ∨ i = O)).trans ha78 (fun i _ hc => .inl hc)).trans h89 (fun i _ hc => .inr hc)
  refine ⟨blk_set hOw8 0 _, ?_, hOl, fun j => if j = n then u else us j, fun j hj => ?_, ?_, fun j hj => ?_⟩
  · exact (h.keep.trans hr9 (fun i hi hc => by
      rcases hc with hc | hc
      · have := (h.lt i hc).1; omega
      · exact hc))
  · dsimp only
    split
    · exact hu
    · exact h5 j (by omega)
  · rw [flat, flat_congr _ us n (fun j hj => by simp [show ¬ j = n by omega])]
    have := ownsRow_aside hr h89 (fun i hi hc => by
      simp only [Value.ownBlock, Option.some.injEq] at hi
      exact hgO (by rw [hi, hc]))
    simpa using this
  · dsimp only
    by_cases e : j = n
    · subst e
      rw [if_pos rfl]
      exact hx
    · rw [if_neg e]
      exact hcl j (by omega)
theorem found_form (r : Option Nat) : ∃ k : Int, foundV r = .tuple #[.int .i64 k, .bool r.isSome] := by
  cases r with
  | none => exact ⟨0, rfl⟩
  | some k => exact ⟨k, rfl⟩

set_option maxRecDepth 100000 in
set_option maxHeartbeats 4000000 in
theorem resolveBlind9 (s t : List Col) (vs os : List V) (p1 p2 p3 p4 : Option Addr) (c1 c2 c3 c4 : Nat) (w : World) (hS : SchL w p1 c1 s) (hT : SchL w p2 c2 t) (hV : RLies w p3 c3 vs) (hO : RLies w p4 c4 os) :
    Calls Try.prog 4 #[.agg #[.slice p1 s.length c1, .slice p2 t.length c2, .slice p3 vs.length c3, .slice p4 os.length c4]] w fun e w' => e = .returned (.bool true) ∧ Below w.heap.size w w' := by
  obtain ⟨W0, hW0⟩ : ∃ W0, W0 = ((((w.alloc (.cells #[.slice p1 s.length c1, .slice p2 t.length c2, .slice p3 vs.length c3, .slice p4 os.length c4] 44)).alloc (.cells #[.slice p1 s.length c1] 40)).alloc (.cells #[.slice p2 t.length c2] 40)).alloc (.cells #[.slice p3 vs.length c3] 42)).alloc (.cells #[.slice p4 os.length c4] 42) := ⟨_, rfl⟩
  obtain ⟨l0, l1, l2, l3, l4, lb, ls⟩ := al5 w (.cells #[.slice p1 s.length c1, .slice p2 t.length c2, .slice p3 vs.length c3, .slice p4 os.length c4] 44) (.cells #[.slice p1 s.length c1] 40) (.cells #[.slice p2 t.length c2] 40) (.cells #[.slice p3 vs.length c3] 42) (.cells #[.slice p4 os.length c4] 42)
  rw [← hW0] at l0 l1 l2 l3 l4 lb ls
  have HW0 := Lib.hid hW0
  have HB0 := Lib.hid lb
  have HCl : Hid (∀ w', Below W0.heap.size W0 w' → w'.cell? ⟨w.heap.size + 1, 0, none⟩ = some (.slice p1 s.length c1) ∧ w'.cell? ⟨w.heap.size + 1 + 1, 0, none⟩ = some (.slice p2 t.length c2) ∧ w'.cell? ⟨w.heap.size + 1 + 1 + 1, 0, none⟩ = some (.slice p3 vs.length c3) ∧ w'.cell? ⟨w.heap.size + 1 + 1 + 1 + 1, 0, none⟩ = some (.slice p4 os.length c4)) := fun w' h => ⟨blk_at l1 h 0, blk_at l2 h 0, blk_at l3 h 0, blk_at l4 h 0⟩
  have HRw := Lib.hid (fun w' (h : Below w.heap.size w w') (l : List V) p c (hi : Items w' p l) (hw : ∀ x ∈ l, x.wf) => rowK9 s t l p1 p2 p c1 c2 c w' hS.len hT.len (hS.cols.on h) (hT.cols.on h) hi hS.wf hT.wf hw)
  have HR := Lib.hid (HRw.out W0 lb vs p3 c3 (hV.items.2.2.on9 lb) hV.2)
  have HTy := Lib.hid (fun ys h => Rz.row_typed (s := s) (t := t) (vs := vs) (ys := ys) h hV.2 hT.wf)
  have HNe := Lib.hid (fun e h => Rz.row_ne (s := s) (t := t) (vs := vs) (e := e) h hV.2 hT.wf)
  have HBl := Lib.hid (fun ys h hl => blind_row (s := s) (t := t) (vs := vs) (os := os) (ys := ys) h hl)
  have HPw := Lib.hid (fun hl => pick_wf (s := s) (t := t) hV.2 hO.2 hl)
  obtain ⟨r, hr⟩ : ∃ r, r = Rz.row s t vs := ⟨_, rfl⟩
  rw [← hr] at HR HTy HNe HBl
  have HS := Lib.hid hS
  have HT := Lib.hid hT
  have HV := Lib.hid hV
  have HO := Lib.hid hO
  have hvl := hV.items.1
  clear hr hW0 l0 l1 l2 l3 l4 lb ls hS hT hV hO
  obtain ⟨c11, c12, c13, c14⟩ := HCl.out W0 (Below.refl _ _)
  go_enter Try.func4, Try.ntmps4
  go_wp2_with fail
  rw [← HW0.out]
  clear HW0 c11 c12 c13 c14
  refine HR.out.mono ?_
  intro e w1 hh
  cases r with
  | error er =>
    obtain ⟨rfl, hb1⟩ := hh
    have hz : er ≠ 0 := HNe.out er rfl
    have gz : ((er : Int) != 0) = true := bne_t (by omega)
    obtain ⟨W1, hW1⟩ : ∃ W, W = w1.alloc (.cells #[.slice none 0 0] 42) := ⟨_, rfl⟩
    have hb1' : Below w.heap.size w w1 := HB0.out.trans (hb1.mono HB0.out.size)
    have HB1 : Hid (Below w.heap.size w W1) := by rw [hW1]; exact hb1'.alloc hb1'.size _
    have HW1 := Lib.hid hW1
    clear hW1 hb1 hb1' hz HR
    go_wp2_with fail
    rw [← HW1.out]
    clear HW1
    refine (live9 W1).mono ?_
    rintro e w2 ⟨rfl, hb2⟩
    have HB2 := Lib.hid (HB1.out.trans (hb2.mono HB1.out.size))
    clear hb2
    go_wp2
    go_ret
    exact ⟨rfl, HB2.out⟩
  | ok ys =>
    obtain ⟨q1, d1, rfl, hv1, hb1⟩ := hh
    obtain ⟨t1, t2, t3, t4, t5⟩ := HTy.out ys rfl
    have hsl := (Rz.given_open t2).1
    obtain ⟨W1, hW1⟩ : ∃ W, W = w1.alloc (.cells #[.slice q1 ys.length d1] 42) := ⟨_, rfl⟩
    have h11 : Below w1.heap.size w1 W1 := by rw [hW1]; exact (Below.refl _ _).alloc (Nat.le_refl _) _
    have hb1' : Below W0.heap.size W0 W1 := hb1.trans (h11.mono hb1.size)
    have HB1W := Lib.hid hb1'
    have HB1 : Hid (Below w.heap.size w W1) := HB0.out.trans (hb1'.mono HB0.out.size)
    have hs1 : W1.heap.size = w1.heap.size + 1 := by rw [hW1]; simp
    have HK1 : Hid (W1.heap[w1.heap.size]? = some (.cells #[.slice q1 ys.length d1] 42 (0, 0))) := by rw [hW1]; exact blk_new w1 _
    have HX1 := Lib.hid (hv1.lies.on h11)
    have HW1 := Lib.hid hW1
    have HSl := Lib.hid hsl
    have HBl2 := Lib.hid (fun hl => HBl.out ys rfl hl)
    obtain ⟨c11, c12, c13, c14⟩ := HCl.out W1 hb1'
    rw [hW1] at c11 c12 c13 c14
    clear hW1 hb1 hb1' hv1 h11 HR t1 t2 t3 t4 t5 hsl HBl HTy HNe
    by_cases hlen : os.length = vs.length
    · have gl : ((os.length : Int) != (vs.length : Int)) = false := bne_f (by omega)
      have HLn := Lib.hid hlen
      have HBl3 := Lib.hid (HBl2.out hlen)
      have HPw2 := Lib.hid (HPw.out hlen)
      obtain ⟨W2, hW2⟩ : ∃ W, W = W1.alloc (.cells #[.slice none 0 0] 42) := ⟨_, rfl⟩
      have h12 : Below W1.heap.size W1 W2 := by rw [hW2]; exact (Below.refl _ _).alloc (Nat.le_refl _) _
      have HB12 := Lib.hid h12
      have hs2 : W2.heap.size = w1.heap.size + 1 + 1 := by rw [hW2]; simp [hs1]
      obtain ⟨f, hf⟩ : ∃ f, f = pickB s t vs os := ⟨_, rfl⟩
      have HG0 : Hid (GrowB w W2 (w1.heap.size + 1) (.slice none 0 0) 0 f W2) := growB_nil (by rw [hW2, ← hs1]; exact blk_new W1 _)
      have HF := Lib.hid hf
      have HS2 := Lib.hid hs2
      have HS1 := Lib.hid hs1
      rw [HW1.out] at hW2
      have HW2 := Lib.hid hW2
      clear hW2 h12 hlen hf hs1 hs2 HBl2 HPw
      go_wp2_with fail
      rw [← HW2.out]
      clear HW2 c11 c12 c13 c14
      go_loopw [10] (fun v10 wr => ∃ (j : Nat) (q9 : Option Addr) (d9 : Nat), j ≤ vs.length ∧ v10 = .int .i64 j ∧ Hid (GrowB w W2 (w1.heap.size + 1) (.slice q9 j d9) j f wr)) (fun v10 _ => vs.length - (intOf v10).toNat)
      case atStart => exact ⟨0, none, 0, by omega, rfl, HG0.out⟩
      case round =>
        obtain ⟨j, q9, d9, hj, rfl, HG⟩ := hrel
        have hgc := HG.out
        have hB1r : Below W1.heap.size W1 wr := HB12.out.trans (hgc.keep.below HB12.out.size (fun k hk hc => by have := HS1.out; omega))
        have HB1r := Lib.hid hB1r
        have hBW0 : Below W0.heap.size W0 wr := HB1W.out.trans (hB1r.mono HB1W.out.size)
        have HBW := Lib.hid hBW0
        have hBw : Below w.heap.size w wr := HB0.out.trans (hBW0.mono HB0.out.size)
        have HBw := Lib.hid hBw
        have o0 : wr.cell? ⟨w1.heap.size + 1, 0, none⟩ = some (.slice q9 j d9) := blk_cell hgc.cell 0
        have o1 : wr.frozen? ⟨w1.heap.size + 1, 0, none⟩ = false := blk_free hgc.cell 0
        obtain ⟨c11, c12, c13, c14⟩ := HCl.out wr hBW0
        by_cases hlt : j < vs.length
        · have hjs : j < s.length := by have := HSl.out; omega
          have hjo : j < os.length := by have := HLn.out; omega
          obtain ⟨bx, ox, k, tp, tn, tc, vk, vi, vb, vt, vp, vn, vc, rfl, _, h9, hTy, -⟩ := HS.out.cols.at j hjs
          obtain ⟨a0, a1, a2, -⟩ := h9.on hBw
          obtain ⟨uv, hv1, hv2⟩ := HV.out.items.2.2 j hlt
          obtain ⟨by', oy, ky, iy, fy, ty, qy, ny, cy, rfl, _, rfl, b0, b1, b2, b3, b4⟩ := (hv2.on hBw).lies
          obtain ⟨uo, ho1, ho2⟩ := HO.out.items.2.2 j hjo
          obtain ⟨bz, oz, kz, iz, fz, tz, qz, nz, cz, rfl, _, rfl, e0, e1, e2, e3, e4⟩ := (ho2.on hBw).lies
          have hj1 : (j : Int) < (s.length : Int) := by omega
          have hj2 : (j : Int) < (vs.length : Int) := by omega
          have hj3 : (j : Int) < (os.length : Int) := by omega
          have HFd : Hid (∀ w', Below wr.heap.size wr w' → Calls Try.prog 11 #[.agg #[.slice p2 t.length c2], .string s[j].name] w' fun e w'' => e = .returned (foundV (Sch.find s[j].name t 0)) ∧ Below w'.heap.size w' w'') := fun w' h => refFind7 t s[j].name p2 c2 w' HT.out.len (HT.out.cols.on (hBw.trans (h.mono hBw.size)))
          have HIs : Hid (∀ w', Below wr.heap.size wr w' → Calls Try.prog 12 #[.agg #[.int .i64 kz, .int .i64 iz, .float .f64 fz, .string tz, .slice qz nz cz], .agg #[.int .i64 k, .slice tp tn tc]] w' fun e w'' => e = .returned (.bool (Sch.is os[j] s[j].ty)) ∧ Below w'.heap.size w' w'') := fun w' h => refIs7 os[j] s[j].ty w' _ _ (ho1.on (hBw.trans (h.mono hBw.size))) (hTy.on (hBw.trans (h.mono hBw.size)))
          have HPk : Hid (f j = if ((Sch.find s[j].name t 0).isSome || !Sch.is os[j] s[j].ty) = true then vs[j] else os[j]) := by
            show _ = _
            rw [HF.out]
            unfold pickB
            rw [Rz.colAt_get hjs, Rz.getD_get hlt, Rz.getD_get hjo]
          have HV1 := Lib.hid hv1
          have HO1 := Lib.hid ho1
          obtain ⟨fk, hfk⟩ := found_form (Sch.find s[j].name t 0)
          rw [hfk] at HFd
          generalize (Sch.find s[j].name t 0).isSome = fb at *
          generalize Sch.is os[j] s[j].ty = ib at *
          generalize s[j].name = nm at *
          unfold cells5 at HV1 HO1
          clear hv1 hv2 ho1 ho2 hTy hfk hBw hBW0 hB1r h9 hgc
          go_wp2_with fail
          go_region_held3 (fun w' => w'.cell? ⟨w.heap.size + 1 + 1, 0, none⟩ = some (.slice p2 t.length c2) ∧ w'.cell? ⟨w.heap.size + 1, 0, none⟩ = some (.slice (some ⟨bx, ox, none⟩) s.length c1) ∧ w'.cell? ⟨bx, ox + j * 9, none⟩ = some (.string nm)) (go_keep) (first
            | (go_at_call 11; refine (HFd.out _ (below_drewN (Below.refl _ _) _)).mono ?_; rintro e w2 ⟨rfl, hb4⟩; have hb5 := below_via (w := wr) hb4 (by rfl) (by rfl) (by rfl) (by rfl); have z0 := cell_on hb5 c12; have z1 := cell_on hb5 c11; have z2 := cell_on hb5 a0; have HB2 := Lib.hid hb5; clear hb4 hb5))
          have x11 := cell_on HB2.out c11
          have x14 := cell_on HB2.out c14
          have xa1 := cell_on HB2.out a1
          have xa2 := cell_on HB2.out a2
          have xe0 := cell_on HB2.out e0
          have xe1 := cell_on HB2.out e1
          have xe2 := cell_on HB2.out e2
          have xe3 := cell_on HB2.out e3
          have xe4 := cell_on HB2.out e4
          have HIs2 : Hid (∀ w', Below w2.heap.size w2 w' → Calls Try.prog 12 #[.agg #[.int .i64 kz, .int .i64 iz, .float .f64 fz, .string tz, .slice qz nz cz], .agg #[.int .i64 k, .slice tp tn tc]] w' fun e w'' => e = .returned (.bool ib) ∧ Below w'.heap.size w' w'') := fun w' h => HIs.out w' (HB2.out.trans (h.mono HB2.out.size))
          have HD0 := Lib.hid (And.intro o0 (And.intro o1 (And.intro c13 c14)))
          have HD1 := Lib.hid (And.intro b0 (And.intro b1 (And.intro b2 (And.intro b3 b4))))
          have HD2 := Lib.hid (And.intro e0 (And.intro e1 (And.intro e2 (And.intro e3 e4))))
          clear z0 z1 z2 c11 c12 c13 c14 a0 a1 a2 b0 b1 b2 b3 b4 e0 e1 e2 e3 e4 o0 o1 HFd HIs
          go_wp2_with fail
          go_region_held3 (fun w' => w'.cell? ⟨w.heap.size + 1 + 1 + 1 + 1, 0, none⟩ = some (.slice (some ⟨bz, oz, none⟩) os.length c4) ∧ w'.cell? ⟨w.heap.size + 1, 0, none⟩ = some (.slice (some ⟨bx, ox, none⟩) s.length c1) ∧ w'.cell? ⟨bx, ox + j * 9 + 1, none⟩ = some (.int .i64 k) ∧ w'.cell? ⟨bx, ox + j * 9 + 2, none⟩ = some (.slice tp tn tc) ∧ w'.cell? ⟨bz, oz + j * 5, none⟩ = some (.int .i64 kz) ∧ w'.cell? ⟨bz, oz + j * 5 + 1, none⟩ = some (.int .i64 iz) ∧ w'.cell? ⟨bz, oz + j * 5 + 2, none⟩ = some (.float .f64 fz) ∧ w'.cell? ⟨bz, oz + j * 5 + 3, none⟩ = some (.string tz) ∧ w'.cell? ⟨bz, oz + j * 5 + 4, none⟩ = some (.slice qz nz cz)) (go_keep) (first
            | (go_at_call 12; refine (HIs2.out _ (below_drewN (Below.refl _ _) _)).mono ?_; rintro e w3 ⟨rfl, hb4⟩; have hb5 := below_via (w := w2) hb4 (by rfl) (by rfl) (by rfl) (by rfl); have z0 := cell_on hb5 x14; have z1 := cell_on hb5 x11; have z2 := cell_on hb5 xa1; have z3 := cell_on hb5 xa2; have z4 := cell_on hb5 xe0; have z5 := cell_on hb5 xe1; have z6 := cell_on hb5 xe2; have z7 := cell_on hb5 xe3; have z8 := cell_on hb5 xe4; have HB3 := Lib.hid (HB2.out.trans (hb5.mono HB2.out.size)); clear hb4 hb5))
          clear z0 z1 z2 z3 z4 z5 z6 z7 z8 x11 x14 xa1 xa2 xe0 xe1 xe2 xe3 xe4 HIs2
          have HG3 := Lib.hid (HG.out.on HB3.out)
          obtain ⟨us, hu5, hrow, hcl⟩ := HG3.out.built
          have HU := Lib.hid (And.intro hu5 hcl)
          have HRow : Hid (∀ o, (w3.alloc o).ownsRow W2.heap.size 28 5 (.slice q9 j d9) j (flat us j)) := fun o => ownsRow_aside hrow (aside_new ((Below.refl _ _).alloc (Nat.le_refl _) o) (fun _ => False)) (fun _ _ hc => hc)
          have hOlt : w1.heap.size + 1 < w3.heap.size := blk_lt HG3.out.cell
          have hW23 : W2.heap.size ≤ w3.heap.size := HG3.out.keep.size
          have m0 : w3.cell? ⟨w1.heap.size + 1, 0, none⟩ = some (.slice q9 j d9) := blk_cell HG3.out.cell 0
          have m0a : ∀ o, (w3.alloc o).cell? ⟨w1.heap.size + 1, 0, none⟩ = some (.slice q9 j d9) := fun o => cell_on ((Below.refl _ _).alloc (Nat.le_refl _) o) m0
          have m2 := cell_on HB3.out HD0.out.2.2.1
          have m3 := cell_on HB3.out HD0.out.2.2.2
          have n0 := cell_on HB3.out HD1.out.1
          have n1 := cell_on HB3.out HD1.out.2.1
          have n2 := cell_on HB3.out HD1.out.2.2.1
          have n3 := cell_on HB3.out HD1.out.2.2.2.1
          have n4 := cell_on HB3.out HD1.out.2.2.2.2
          have r0 := cell_on HB3.out HD2.out.1
          have r1 := cell_on HB3.out HD2.out.2.1
          have r2 := cell_on HB3.out HD2.out.2.2.1
          have r3 := cell_on HB3.out HD2.out.2.2.2.1
          have r4 := cell_on HB3.out HD2.out.2.2.2.2
          clear hu5 hcl hrow
          have hcase : (fb = true ∨ (fb = false ∧ ib = false)) ∨ (fb = false ∧ ib = true) := by cases fb <;> cases ib <;> simp
          rcases hcase with (rfl | ⟨rfl, rfl⟩) | ⟨rfl, rfl⟩
          · have HNx : Hid (VLies w #[.int .i64 ky, .int .i64 iy, .float .f64 fy, .string ty, .slice qy ny cy] (f j)) := by show VLies _ _ _; rw [HPk.out, if_pos (by simp)]; exact HV1.out
            go_wp2_with fail
            go_region_law (
                (refine step_more (B := W2.heap.size) (us := us) (v := .slice q9 j d9) (n := j) (by exact HRow.out _) (u := #[.int .i64 ky, .int .i64 iy, .float .f64 fy, .string ty, .slice qy ny cy]) rfl (by intro a ha; simp at ha; rcases ha with rfl | rfl | rfl | rfl | rfl <;> rfl) (ad := w3.heap.size) (by exact blk_new w3 _) (by omega) (by simp; omega) (H := w3.heap.size + 1) (by simp) (.tmp 80) (.tmp 86) (by rfl) (by rfl) (by rfl) (by rfl) ?_
                 intro g8 cap8 W8 hr8 hg8 hn8
                 have hg8' : (w3.alloc (.cells #[.int .i64 ky, .int .i64 iy, .float .f64 fy, .string ty, .slice qy ny cy] 28)).grownBy W8 (Value.slice q9 j d9).ownBlock := by exact ⟨hg8.os, hg8.tape, hg8.output, hg8.size, hg8.block⟩
                 have hnx := HG3.out.next (W7 := w3.alloc (.cells #[.int .i64 ky, .int .i64 iy, .float .f64 fy, .string ty, .slice qy ny cy] 28)) HU.out.1 HU.out.2 HNx.out rfl ((Below.refl _ _).alloc (Nat.le_refl _) _) hr8 hg8' (by simpa using hn8)
                 have hc8 : W8.heap[w1.heap.size + 1]? = some (.cells #[.slice q9 j d9] 42 (0, 0)) := (hg8'.block _ (by simp; omega) (fun hc => by have := (HG3.out.lt _ hc.symm).1; have := HS2.out; omega)).trans ((blk_old w3 _ hOlt).trans HG3.out.cell)
                 have o8 : W8.cell? ⟨w1.heap.size + 1, 0, none⟩ = some (.slice q9 j d9) := blk_cell hc8 0
                 have p8 : W8.frozen? ⟨w1.heap.size + 1, 0, none⟩ = false := blk_free hc8 0
                 have HNX := Lib.hid hnx
                 clear hr8 hg8 hg8' hn8 hc8 hnx))
            all_goals
              go_wp2
              go_roundw
              case rel => exact ⟨j + 1, _, _, by omega, by go_num, HNX⟩
              case measure => simp [intOf]; omega
          · have HNx : Hid (VLies w #[.int .i64 ky, .int .i64 iy, .float .f64 fy, .string ty, .slice qy ny cy] (f j)) := by show VLies _ _ _; rw [HPk.out, if_pos (by simp)]; exact HV1.out
            go_wp2_with fail
            go_region_law (
                (refine step_more (B := W2.heap.size) (us := us) (v := .slice q9 j d9) (n := j) (by exact HRow.out _) (u := #[.int .i64 ky, .int .i64 iy, .float .f64 fy, .string ty, .slice qy ny cy]) rfl (by intro a ha; simp at ha; rcases ha with rfl | rfl | rfl | rfl | rfl <;> rfl) (ad := w3.heap.size) (by exact blk_new w3 _) (by omega) (by simp; omega) (H := w3.heap.size + 1) (by simp) (.tmp 80) (.tmp 86) (by rfl) (by rfl) (by rfl) (by rfl) ?_
                 intro g8 cap8 W8 hr8 hg8 hn8
                 have hg8' : (w3.alloc (.cells #[.int .i64 ky, .int .i64 iy, .float .f64 fy, .string ty, .slice qy ny cy] 28)).grownBy W8 (Value.slice q9 j d9).ownBlock := by exact ⟨hg8.os, hg8.tape, hg8.output, hg8.size, hg8.block⟩
                 have hnx := HG3.out.next (W7 := w3.alloc (.cells #[.int .i64 ky, .int .i64 iy, .float .f64 fy, .string ty, .slice qy ny cy] 28)) HU.out.1 HU.out.2 HNx.out rfl ((Below.refl _ _).alloc (Nat.le_refl _) _) hr8 hg8' (by simpa using hn8)
                 have hc8 : W8.heap[w1.heap.size + 1]? = some (.cells #[.slice q9 j d9] 42 (0, 0)) := (hg8'.block _ (by simp; omega) (fun hc => by have := (HG3.out.lt _ hc.symm).1; have := HS2.out; omega)).trans ((blk_old w3 _ hOlt).trans HG3.out.cell)
                 have o8 : W8.cell? ⟨w1.heap.size + 1, 0, none⟩ = some (.slice q9 j d9) := blk_cell hc8 0
                 have p8 : W8.frozen? ⟨w1.heap.size + 1, 0, none⟩ = false := blk_free hc8 0
                 have HNX := Lib.hid hnx
                 clear hr8 hg8 hg8' hn8 hc8 hnx))
            all_goals
              go_wp2
              go_roundw
              case rel => exact ⟨j + 1, _, _, by omega, by go_num, HNX⟩
              case measure => simp [intOf]; omega
          · have HNx : Hid (VLies w #[.int .i64 kz, .int .i64 iz, .float .f64 fz, .string tz, .slice qz nz cz] (f j)) := by show VLies _ _ _; rw [HPk.out, if_neg (by simp)]; exact HO1.out
            go_wp2_with fail
            go_region_law (
                (refine step_more (B := W2.heap.size) (us := us) (v := .slice q9 j d9) (n := j) (by exact HRow.out _) (u := #[.int .i64 kz, .int .i64 iz, .float .f64 fz, .string tz, .slice qz nz cz]) rfl (by intro a ha; simp at ha; rcases ha with rfl | rfl | rfl | rfl | rfl <;> rfl) (ad := w3.heap.size) (by exact blk_new w3 _) (by omega) (by simp; omega) (H := w3.heap.size + 1) (by simp) (.tmp 90) (.tmp 96) (by rfl) (by rfl) (by rfl) (by rfl) ?_
                 intro g8 cap8 W8 hr8 hg8 hn8
                 have hg8' : (w3.alloc (.cells #[.int .i64 kz, .int .i64 iz, .float .f64 fz, .string tz, .slice qz nz cz] 28)).grownBy W8 (Value.slice q9 j d9).ownBlock := by exact ⟨hg8.os, hg8.tape, hg8.output, hg8.size, hg8.block⟩
                 have hnx := HG3.out.next (W7 := w3.alloc (.cells #[.int .i64 kz, .int .i64 iz, .float .f64 fz, .string tz, .slice qz nz cz] 28)) HU.out.1 HU.out.2 HNx.out rfl ((Below.refl _ _).alloc (Nat.le_refl _) _) hr8 hg8' (by simpa using hn8)
                 have hc8 : W8.heap[w1.heap.size + 1]? = some (.cells #[.slice q9 j d9] 42 (0, 0)) := (hg8'.block _ (by simp; omega) (fun hc => by have := (HG3.out.lt _ hc.symm).1; have := HS2.out; omega)).trans ((blk_old w3 _ hOlt).trans HG3.out.cell)
                 have o8 : W8.cell? ⟨w1.heap.size + 1, 0, none⟩ = some (.slice q9 j d9) := blk_cell hc8 0
                 have p8 : W8.frozen? ⟨w1.heap.size + 1, 0, none⟩ = false := blk_free hc8 0
                 have HNX := Lib.hid hnx
                 clear hr8 hg8 hg8' hn8 hc8 hnx))
            all_goals
              go_wp2
              go_roundw
              case rel => exact ⟨j + 1, _, _, by omega, by go_num, HNX⟩
              case measure => simp [intOf]; omega
        · have hjn : ¬ (j : Int) < (vs.length : Int) := by omega
          have hjj : j = vs.length := by omega
          subst hjj
          have hit := hgc.items hBw
          rw [HF.out] at hit
          have HC := Lib.hid (HRw.out wr hBw (blindL s t vs os vs.length) q9 d9 hit HPw2.out)
          rw [HBl3.out, blind_len] at HC
          have HXr := Lib.hid (HX1.out.on hB1r)
          have HKr := Lib.hid (blk_go HK1.out hB1r)
          clear hit hgc hjn hlt hB1r hBW0 hBw hj HG HF
          go_wp2_with fail
          refine HC.out.mono ?_
          rintro e w4 ⟨q4, d4, rfl, hv4, hb4⟩
          obtain ⟨W4, hW4⟩ : ∃ W, W = w4.alloc (.cells #[.slice q4 ys.length d4] 42) := ⟨_, rfl⟩
          have h44 : Below w4.heap.size w4 W4 := by rw [hW4]; exact (Below.refl _ _).alloc (Nat.le_refl _) _
          have hb4' : Below wr.heap.size wr W4 := hb4.trans (h44.mono hb4.size)
          have HB4 := Lib.hid (HBw.out.trans (hb4'.mono HBw.out.size))
          have HK4 : Hid (W4.heap[w4.heap.size]? = some (.cells #[.slice q4 ys.length d4] 42 (0, 0)) ∧ W4.heap[w1.heap.size]? = some (.cells #[.slice q1 ys.length d1] 42 (0, 0))) := ⟨by rw [hW4]; exact blk_new w4 _, blk_go HKr.out hb4'⟩
          have HL4 := Lib.hid (And.intro (HXr.out.on hb4') (hv4.lies.on h44))
          have HW4 := Lib.hid hW4
          clear hW4 h44 hb4 hb4' hv4 HC HKr HXr
          go_wp2_with fail
          rw [← HW4.out]
          clear HW4 c11 c12 c13 c14 o0 o1
          refine (live9 W4).mono ?_
          rintro e w5 ⟨rfl, hb5⟩
          have HB5 := Lib.hid (HB4.out.trans (hb5.mono HB4.out.size))
          have m4 : w5.cell? ⟨w4.heap.size, 0, none⟩ = some (.slice q4 ys.length d4) := blk_cell (blk_go HK4.out.1 hb5) 0
          have m1 : w5.cell? ⟨w1.heap.size, 0, none⟩ = some (.slice q1 ys.length d1) := blk_cell (blk_go HK4.out.2 hb5) 0
          have HX := Lib.hid (rows9 ys ys q1 q4 d1 d4 w5 (HL4.out.1.on hb5) (HL4.out.2.on hb5))
          rw [(V.exact_iff _ _).2 rfl] at HX
          clear hb5 HL4 HK4
          go_wp2_with fail
          refine HX.out.mono ?_
          rintro e w6 ⟨rfl, hb6⟩
          have HB6 := Lib.hid (HB5.out.trans (hb6.mono HB5.out.size))
          clear hb6
          go_wp2
          go_ret
          exact ⟨rfl, HB6.out⟩
    · have gl : ((os.length : Int) != (vs.length : Int)) = true := bne_t (by omega)
      clear hlen
      go_wp2_with fail
      rw [← HW1.out]
      clear HW1 c11 c12 c13 c14
      refine (live9 W1).mono ?_
      rintro e w2 ⟨rfl, hb2⟩
      have HB2 := Lib.hid (HB1.out.trans (hb2.mono HB1.out.size))
      clear hb2
      go_wp2
      go_ret
      exact ⟨rfl, HB2.out⟩
end Go.Proofs.Ytdahackmmhcjoaa
