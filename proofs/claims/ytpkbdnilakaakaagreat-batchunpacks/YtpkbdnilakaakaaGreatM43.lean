/- K10G: put together. -/
import Derived.Test.YtpkbdnilakaakaaGreatM42
import Derived.Deep.OwnRows
import Derived.BigRegion

/- The landed block's lookUp: where four bytes stood last. -/
namespace Go.Proofs.YtpkbdnilakaakaaGreat
open Go.RowKit Go.Maps

theorem infoI : (Tryz.prog.info? 3).map (fun i => (i.zero, i.size, i.bytes)) = some (some (.int .i64 0), 1, 8) := by kernel_rfl
theorem makeMap_hint (n : Int) (w : World) : (Instr.makeMap 119 (some (.int .i64 n))).run Tryz.prog w = .ok (.map (some w.heap.size)) (w.alloc (.map #[] 0)) := by
  simp [Instr.makeMap, run_underlying Tryz.underlying119, asInt, asIntOf]

/-- the map tells of any four bytes where they stood last below i -/
structure Lasts (w : World) (M n : Nat) (b : List UInt8) (i : Nat) : Prop where
  out : ∃ D : DataW Unit, w.ownsMap Tryz.prog 121 (plainElem Tryz.prog 3) M n D ∧ ∀ f : List UInt8, f.length = 4 → D.atKey (.string f) (.lit (.int .i64 0)) = .lit (.int .i64 (Blk.last b f i : Nat))
theorem lasts_made (w : World) (b : List UInt8) : Lasts (w.alloc (.map #[] 0)) w.heap.size 0 b 0 := ⟨.map [], World.ownsMap_made _ _ _ _, fun _ _ => rfl⟩
theorem Lasts.keep {w w' : World} {M n i : Nat} {b : List UInt8} (h : Lasts w M n b i) (hb : w'.heap[M]? = w.heap[M]?) : Lasts w' M n b i := by
  obtain ⟨D, ⟨es, clock, h1, h2⟩, h3⟩ := h.out
  exact ⟨D, ⟨es, clock, hb.trans h1, h2⟩, h3⟩
/-- what is seen of the bytes below i -/
structure Seen (w wr : World) (b : List UInt8) (i : Nat) : Prop where
  low : Below w.heap.size w wr
  map : Lasts wr w.heap.size i b i
  row : wr.rowIs (w.heap.size + 1) 3 b.length (fun j => .int .i64 ((if j < i then Blk.ahead b j else 0 : Nat) : Int))
  var : wr.rowIs (w.heap.size + 1 + 1) 120 1 (fun _ => .slice (some ⟨w.heap.size + 1, 0, none⟩) b.length b.length)
theorem seen_start (w : World) (b : List UInt8) : Seen w (((w.alloc (.map #[] 0)).alloc (.cells (madeCells #[.int .i64 0] b.length) 3)).alloc (.cells #[.slice (some ⟨w.heap.size + 1, 0, none⟩) b.length b.length] 120)) b 0 := by
  have s1 : (w.alloc (.map #[] 0)).heap.size = w.heap.size + 1 := by simp
  have s2 : ((w.alloc (.map #[] 0)).alloc (.cells (madeCells #[.int .i64 0] b.length) 3)).heap.size = w.heap.size + 1 + 1 := by simp
  refine ⟨(((Below.refl _ _).alloc (Nat.le_refl _) _).alloc (by rw [s1]; omega) _).alloc (by rw [s2]; omega) _, ?_, ?_, ?_⟩
  · exact (lasts_made w b).keep (((MapKept.heap_alloc _ _).2 _ (by rw [s2]; omega)).trans ((MapKept.heap_alloc _ _).2 _ (by rw [s1]; omega)))
  · have h := World.rowIs_made (w.alloc (.map #[] 0)) (.int .i64 0) b.length 3
    rw [s1] at h
    exact (h.alloc _).congr (fun j _ => by rw [if_neg (by omega)]; rfl)
  · have h := World.rowIs_alloc ((w.alloc (.map #[] 0)).alloc (.cells (madeCells #[.int .i64 0] b.length) 3)) #[.slice (some ⟨w.heap.size + 1, 0, none⟩) b.length b.length] 120 (fun _ => .slice (some ⟨w.heap.size + 1, 0, none⟩) b.length b.length) (fun i hi => by
      have : i = 0 := by simp at hi; omega
      subst this; rfl)
    rw [s2] at h
    exact h

theorem four_at (b : List UInt8) (i : Nat) (h : i + 4 ≤ b.length) : Blk.four b i = [UInt8.ofNat b[i].toNat, UInt8.ofNat b[i + 1].toNat, UInt8.ofNat b[i + 2].toNat, UInt8.ofNat b[i + 3].toNat] := by
  unfold Blk.four
  rw [List.drop_eq_getElem_cons (by omega), List.drop_eq_getElem_cons (by omega), List.drop_eq_getElem_cons (by omega), List.drop_eq_getElem_cons (by omega)]
  simp only [List.take_succ_cons, List.take_zero, UInt8.ofNat_toNat]
theorem last_succ (b f : List UInt8) (i : Nat) : Blk.last b f (i + 1) = if Blk.four b i = f then i + 1 else Blk.last b f i := rfl
/-- the place is told, and taken down -/
theorem Seen.next {w wr W : World} {b : List UInt8} {i : Nat} {D : DataW Unit} (h : Seen w wr b i) (hi : i + 4 ≤ b.length)
    (hD : ∀ f : List UInt8, f.length = 4 → D.atKey (.string f) (.lit (.int .i64 0)) = .lit (.int .i64 (Blk.last b f i : Nat))) (hM : Maps.IsMap D)
    (hW : W.ownsMap Tryz.prog 121 (plainElem Tryz.prog 3) w.heap.size (i + 1) (D.put (.string (Blk.four b i)) (.lit (.int .i64 ((i + 1 : Nat) : Int)))))
    (hlow : Below w.heap.size w W)
    (hrow : W.rowIs (w.heap.size + 1) 3 b.length (fun j => if j = i then .int .i64 (Blk.ahead b i : Nat) else .int .i64 ((if j < i then Blk.ahead b j else 0 : Nat) : Int)))
    (hvar : W.rowIs (w.heap.size + 1 + 1) 120 1 (fun _ => .slice (some ⟨w.heap.size + 1, 0, none⟩) b.length b.length)) : Seen w W b (i + 1) := by
  refine ⟨hlow, ⟨_, hW, fun f hf => ?_⟩, hrow.congr (fun j _ => ?_), hvar⟩
  · rw [last_succ]
    by_cases e : Blk.four b i = f
    · subst e
      rw [if_pos rfl, Maps.atKey_put_same hM (by trivial)]
    · rw [if_neg e, Maps.atKey_put_other (fun hc => e (by injection hc with hc; exact hc.symm)), hD f hf]
  · by_cases e : j = i
    · subst e
      rw [if_pos rfl, if_pos (by omega)]
    · rw [if_neg e]
      by_cases e2 : j < i
      · rw [if_pos e2, if_pos (by omega)]
      · rw [if_neg e2, if_neg (by omega)]
/-- behind the last place there are no four bytes -/
theorem Seen.end {w wr : World} {b : List UInt8} {i : Nat} (h : Seen w wr b i) (hi : ¬ i + 4 ≤ b.length) : wr.rowIs (w.heap.size + 1) 3 b.length (fun j => .int .i64 ((Blk.ahead b j : Nat) : Int)) := by
  refine h.row.congr (fun j _ => ?_)
  by_cases e : j < i
  · rw [if_pos e]
  · rw [if_neg e, show Blk.ahead b j = 0 by unfold Blk.ahead; rw [if_neg (by omega)]]

/-- what is looked up: block G holds the closure's variable, block A the places -/
structure Look (w : World) (G A : Nat) (b : List UInt8) : Prop where
  row : w.rowIs A 3 b.length (fun j => .int .i64 ((Blk.ahead b j : Nat) : Int))
  var : w.rowIs G 120 1 (fun _ => .slice (some ⟨A, 0, none⟩) b.length b.length)

set_option maxRecDepth 100000 in
set_option maxHeartbeats 4000000 in
theorem lookUpK (b : List UInt8) (q : Option Addr) (c : Nat) (w : World) (hb : b.length ≤ 2048) (hq : At w q b) :
    Calls Tryz.prog 51 #[.slice q b.length c] w fun e w' => e = .returned (.func (.func 76) #[] #[.pointer (some ⟨w.heap.size + 1 + 1, 0, none⟩)]) ∧ Look w' (w.heap.size + 1 + 1) (w.heap.size + 1) b ∧ Below w.heap.size w w' := by
  have hmm := makeMap_hint
  have hmk : ∀ w : World, (Instr.makeSlice 120 (.int .i64 b.length) (.int .i64 b.length)).run Tryz.prog w = .ok (.slice (some ⟨w.heap.size, 0, none⟩) b.length b.length) (w.alloc (.cells (madeCells #[.int .i64 0] b.length) 3)) := run_make_row' (P := Tryz.prog) 120 3 (.int .i64 0) 8 Tryz.underlying120 infoI rfl .i64 .i64 b.length (by omega) (by omega)
  have HS := Lib.hid (seen_start w b)
  have HQ := Lib.hid (hq.atB (Nat.le_refl w.heap.size))
  clear hq
  go_enter Tryz.func51, Tryz.ntmps51
  go_wp2_with fail
  generalize (((w.alloc (.map #[] 0)).alloc (.cells (madeCells #[.int .i64 0] b.length) 3)).alloc (.cells #[.slice (some ⟨w.heap.size + 1, 0, none⟩) b.length b.length] 120)) = W0 at HS ⊢
  go_loopw [16] (fun v16 wr => ∃ i : Nat, i ≤ b.length - 3 ∧ v16 = .int .i64 i ∧ Hid (Seen w wr b i)) (fun v16 _ => b.length - (intOf v16).toNat)
  case atStart => exact ⟨0, Nat.zero_le _, rfl, HS⟩
  case round =>
    obtain ⟨i, hi, rfl, HK⟩ := hrel
    by_cases hlt : i + 4 ≤ b.length
    · obtain ⟨bb, o, rfl, hbl, hcs⟩ := at_some HQ.out.at_ (by omega)
      have hcs' : Cells wr bb o b := fun j hj => by
        rw [HK.out.low.cell (p := ⟨bb, o + j, none⟩) hbl]
        exact hcs j hj
      have d0 := hcs' i (by omega)
      have d1 := hcs' (i + 1) (by omega)
      have d2 := hcs' (i + 2) (by omega)
      have d3 := hcs' (i + 3) (by omega)
      have n0 : b[i].toNat < 256 := b[i].toNat_lt
      have n1 : b[i + 1].toNat < 256 := b[i + 1].toNat_lt
      have n2 : b[i + 2].toNat < 256 := b[i + 2].toNat_lt
      have n3 : b[i + 3].toNat < 256 := b[i + 3].toNat_lt
      have hfo := four_at b i hlt
      generalize b[i].toNat = x0 at d0 n0 hfo
      generalize b[i + 1].toNat = x1 at d1 n1 hfo
      generalize b[i + 2].toNat = x2 at d2 n2 hfo
      generalize b[i + 3].toNat = x3 at d3 n3 hfo
      clear hcs hcs'
      have p1 : (0 : Int) ≤ (i : Int) + 1 := by omega
      have q1 : (i : Int) + 1 < (b.length : Int) := by omega
      have p2 : (0 : Int) ≤ (i : Int) + 2 := by omega
      have q2 : (i : Int) + 2 < (b.length : Int) := by omega
      have p3 : (0 : Int) ≤ (i : Int) + 3 := by omega
      have q3 : (i : Int) + 3 < (b.length : Int) := by omega
      have t2 : ((i : Int) + 2).toNat = i + 2 := by omega
      have t3 : ((i : Int) + 3).toNat = i + 3 := by omega
      have a0 : ∀ ob, (wr.alloc ob).cell? ⟨bb, o + i, none⟩ = some (.int .u8 x0) := fun ob => by rw [((Below.refl wr.heap.size wr).alloc (Nat.le_refl _) ob).cell (p := ⟨bb, o + i, none⟩) (by have := HK.out.low.size; show bb < _; omega)]; exact d0
      have a1 : ∀ ob, (wr.alloc ob).cell? ⟨bb, o + (i + 1), none⟩ = some (.int .u8 x1) := fun ob => by rw [((Below.refl wr.heap.size wr).alloc (Nat.le_refl _) ob).cell (p := ⟨bb, o + (i + 1), none⟩) (by have := HK.out.low.size; show bb < _; omega)]; exact d1
      have a2 : ∀ ob, (wr.alloc ob).cell? ⟨bb, o + (i + 2), none⟩ = some (.int .u8 x2) := fun ob => by rw [((Below.refl wr.heap.size wr).alloc (Nat.le_refl _) ob).cell (p := ⟨bb, o + (i + 2), none⟩) (by have := HK.out.low.size; show bb < _; omega)]; exact d2
      have a3 : ∀ ob, (wr.alloc ob).cell? ⟨bb, o + (i + 3), none⟩ = some (.int .u8 x3) := fun ob => by rw [((Below.refl wr.heap.size wr).alloc (Nat.le_refl _) ob).cell (p := ⟨bb, o + (i + 3), none⟩) (by have := HK.out.low.size; show bb < _; omega)]; exact d3
      have l0 : i < b.length := by omega
      have l1 : i + 1 < b.length := by omega
      have l2 : i + 2 < b.length := by omega
      have l3 : i + 3 < b.length := by omega
      have w1 : IntKind.i64.wrap ((i : Int) + 1) = ((i + 1 : Nat) : Int) := by rw [IntKind.wrap_i64]; omega
      have w2 : IntKind.i64.wrap ((i : Int) + 2) = ((i + 2 : Nat) : Int) := by rw [IntKind.wrap_i64]; omega
      have w3 : IntKind.i64.wrap ((i : Int) + 3) = ((i + 3 : Nat) : Int) := by rw [IntKind.wrap_i64]; omega
      obtain ⟨D, hown, hD⟩ := HK.out.map.out
      have hkey := key4_of x0 x1 x2 x3 n0 n1 n2 n3
      rw [← hfo] at hkey
      have hfl : (Blk.four b i).length = 4 := by rw [hfo]; rfl
      have hah : Blk.last b (Blk.four b i) i = Blk.ahead b i := by unfold Blk.ahead; rw [if_pos hlt]
      have hDi := hD _ hfl
      rw [hah] at hDi
      have hsz := HK.out.row.lt
      have hsz2 := HK.out.var.lt
      have hah2 := Blk.ahead_le b i
      obtain ⟨L, hL⟩ : ∃ L, L = Blk.ahead b i := ⟨_, rfl⟩
      rw [← hL] at hDi hah2
      obtain ⟨W1, hW1⟩ : ∃ W1, W1 = (wr.alloc (.cells #[.int .u8 x0, .int .u8 x1, .int .u8 x2, .int .u8 x3] 121)).drew := ⟨_, rfl⟩
      have hrow1 : W1.rowIs (w.heap.size + 1) 3 b.length (fun j => .int .i64 ((if j < i then Blk.ahead b j else 0 : Nat) : Int)) := by rw [hW1]; exact (HK.out.row.alloc _).drew
      have hvar1 : W1.rowIs (w.heap.size + 1 + 1) 120 1 (fun _ => .slice (some ⟨w.heap.size + 1, 0, none⟩) b.length b.length) := by rw [hW1]; exact (HK.out.var.alloc _).drew
      have hfour1 : W1.heap[wr.heap.size]? = some (.cells #[.int .u8 x0, .int .u8 x1, .int .u8 x2, .int .u8 x3] 121) := by rw [hW1]; exact (MapKept.heap_alloc wr _).1
      have hown1 : W1.ownsMap Tryz.prog 121 (plainElem Tryz.prog 3) w.heap.size i D := by rw [hW1]; exact (hown.alloc _).drew
      have hlow1 : Below w.heap.size w W1 := by
        rw [hW1]
        have := HK.out.low.alloc HK.out.low.size (.cells #[.int .u8 x0, .int .u8 x1, .int .u8 x2, .int .u8 x3] 121)
        exact ⟨this.os, this.tape, this.output, this.size, this.block⟩
      obtain ⟨W2, hW2⟩ : ∃ W2, W2 = (W1.setCell ⟨w.heap.size + 1, i, none⟩ (.int .i64 L)).drew := ⟨_, rfl⟩
      have hrow2 := (hrow1.set i (.int .i64 L)).drew
      rw [← hW2] at hrow2
      have hvar2 : W2.rowIs (w.heap.size + 1 + 1) 120 1 (fun _ => .slice (some ⟨w.heap.size + 1, 0, none⟩) b.length b.length) := by rw [hW2]; exact (hvar1.setOther (by show _ ≠ w.heap.size + 1; omega) _).drew
      have hfour2 : W2.heap[wr.heap.size]? = some (.cells #[.int .u8 x0, .int .u8 x1, .int .u8 x2, .int .u8 x3] 121) := by
        rw [hW2]
        show (W1.setCell _ _).heap[wr.heap.size]? = _
        rw [Below.heap_setCell _ _ _ _ (by show _ ≠ w.heap.size + 1; omega)]; exact hfour1
      have hown2 : W2.ownsMap Tryz.prog 121 (plainElem Tryz.prog 3) w.heap.size i D := by
        obtain ⟨es, clock, h1, h2⟩ := hown1
        refine ⟨es, clock, ?_, h2⟩
        rw [hW2]
        show (W1.setCell _ _).heap[w.heap.size]? = _
        rw [Below.heap_setCell _ _ _ _ (by show _ ≠ w.heap.size + 1; omega)]; exact h1
      have hlow2 : Below w.heap.size w W2 := by
        rw [hW2]
        have hd := hlow1.setCell (p := ⟨w.heap.size + 1, i, none⟩) (by show w.heap.size ≤ w.heap.size + 1; omega) (.int .i64 L)
        exact ⟨hd.os, hd.tape, hd.output, hd.size, hd.block⟩
      have f0 := hvar1.cell (i := 0) (by omega)
      have f1 := hrow1.cell (i := i) (by omega)
      have f2 := hrow1.frozen i
      have g0 : W1.cell? ⟨wr.heap.size, 0, none⟩ = some (.int .u8 x0) := by simp [World.cell?, hfour1]
      have g1 : W1.cell? ⟨wr.heap.size, 1, none⟩ = some (.int .u8 x1) := by simp [World.cell?, hfour1]
      have g2 : W1.cell? ⟨wr.heap.size, 2, none⟩ = some (.int .u8 x2) := by simp [World.cell?, hfour1]
      have g3 : W1.cell? ⟨wr.heap.size, 3, none⟩ = some (.int .u8 x3) := by simp [World.cell?, hfour1]
      have h0 : W2.cell? ⟨wr.heap.size, 0, none⟩ = some (.int .u8 x0) := by simp [World.cell?, hfour2]
      have h1 : W2.cell? ⟨wr.heap.size, 1, none⟩ = some (.int .u8 x1) := by simp [World.cell?, hfour2]
      have h2 : W2.cell? ⟨wr.heap.size, 2, none⟩ = some (.int .u8 x2) := by simp [World.cell?, hfour2]
      have h3 : W2.cell? ⟨wr.heap.size, 3, none⟩ = some (.int .u8 x3) := by simp [World.cell?, hfour2]
      obtain ⟨Lc, hlook, hat, -⟩ := hown1.lookup_int law4 Tryz.underlying119 Tryz.underlying3 (zeroI10 _) hkey
      obtain ⟨Ld, hlookd, hatd, -⟩ := (hown1.drew).lookup_int law4 Tryz.underlying119 Tryz.underlying3 (zeroI10 _) hkey
      rw [hDi] at hat hatd
      injection hat with hat
      injection hat with _ hat
      injection hatd with hatd
      injection hatd with _ hatd
      rw [← hat] at hlook
      rw [← hatd] at hlookd
      have HW1 := Lib.hid hW1
      have HW2 := Lib.hid hW2
      have HLow := Lib.hid hlow2
      have HRow := Lib.hid hrow2
      have HVar := Lib.hid hvar2
      have HOwn := Lib.hid hown2
      have HL := Lib.hid hL
      have HKey := Lib.hid hkey
      have HD := Lib.hid hD
      clear hW1 hW2 hrow1 hvar1 hfour1 hown1 hlow1 hrow2 hvar2 hfour2 hown2 hlow2 hown hD hkey hDi hah hL hfo hat hatd hsz hsz2
      go_wp2_with fail
      go_region
      go_wp2_with fail
      rw [← HW1.out]
      clear a0 a1 a2 a3 d0 d1 d2 d3 p1 p2 p3 q1 q2 q3 w1 w2 w3 t2 t3 l1 l2 l3
      go_region
      rw [← HW2.out]
      have wi : IntKind.i64.wrap ((i : Int) + 1) = ((i + 1 : Nat) : Int) := by rw [IntKind.wrap_i64]; omega
      clear f0 f1 f2 g0 g1 g2 g3 hlook hlookd
      have hIM : Maps.IsMap D := HOwn.out.isMap
      go_wp2_with (first
        | (at_mapUpdate
           refine wpList_mapUpdate_own _ rfl _ _ _ 119 rfl 121 3 law4 Tryz.underlying119 _ w.heap.size i D rfl HOwn.out (by unfold maxLen; omega) _ _ _ rfl rfl HKey.out _ [] (plainElem_int Tryz.underlying3 (WalkArith.wf_i64 (by omega))) ?_
           intro W3 hown3 hgr3
           have HO3 := Lib.hid hown3
           have HG3 := Lib.hid hgr3
           clear hown3 hgr3)
        | fail)
      go_roundw
      case rel =>
        refine ⟨i + 1, by omega, by go_num, ?_⟩
        refine HK.out.next hlt HD.out hIM ?_ ?_ ?_ ?_
        · exact HO3.out
        · exact HLow.out.grown HG3.out (by have := HLow.out.size; omega) (fun k hk => by injection hk with hk; omega)
        · rw [← HL.out]
          exact HRow.out.of_block (HG3.out.block _ HRow.out.lt (fun hc => by injection hc with hc; omega))
        · exact HVar.out.of_block (HG3.out.block _ HVar.out.lt (fun hc => by injection hc with hc; omega))
      case measure => simp [intOf]; omega
    · have hin : ¬ (i : Int) < (b.length : Int) - 3 := by omega
      have HE := Lib.hid (HK.out.end hlt)
      go_wp2
      go_ret
      exact ⟨rfl, ⟨HE.out, HK.out.var⟩, HK.out.low⟩
end Go.Proofs.YtpkbdnilakaakaaGreat
