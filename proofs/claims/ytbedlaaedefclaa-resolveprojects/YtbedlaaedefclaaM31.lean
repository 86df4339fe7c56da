/- K7J, KFix, Al: put together. -/
import Derived.Test.YtbedlaaedefclaaM28
import Derived.Test.YtbedlaaedefclaaM30
import Derived.Test.YtbedlaaedefclaaM06
import Derived.Test.YtbedlaaedefclaaM05

/- The landed schema: Encode, Check. -/
namespace Go.Proofs.Ytbedlaaedefclaa
open Go.RowKit

attribute [local go_sem] run_store_float

/-- the bytes that Encode tells -/
def encB (s : List Col) : List UInt8 := if Sch.err s = 0 then Sch.bytes s else []
theorem err_colsK (s : List Col) : Sch.err s = if colsK s ≠ 0 then colsK s else if 1024 < (Sch.bytes s).length then 2 else 0 := by
  unfold Sch.err colsK
  by_cases h0 : s.length = 0
  · rw [if_pos h0, if_pos h0, if_pos (by decide)]
  · rw [if_neg h0, if_neg h0]
    by_cases h1 : 16 < s.length
    · rw [if_pos h1, if_pos h1, if_pos (by decide)]
    · rw [if_neg h1, if_neg h1]

set_option maxRecDepth 100000 in
set_option maxHeartbeats 4000000 in
theorem encodeK (s : List Col) (p : Option Addr) (c : Nat) (w : World) (hs : s.length * 120 ≤ 140737488351232) (hx : Cols w p s) (hwf : ∀ x ∈ s, x.wf) :
    Calls Try.prog 57 #[.agg #[.slice p s.length c]] w fun e w' => ∃ q cap, e = .returned (.tuple #[.slice q (encB s).length cap, .int .i64 (Sch.err s : Nat)]) ∧ At w' q (encB s) ∧ (encB s).length ≤ cap ∧ Below w.heap.size w w' := by
  obtain ⟨W0, hW0⟩ : ∃ W0, W0 = w.alloc (.cells #[.slice p s.length c] 37) := ⟨_, rfl⟩
  have HB0 : Hid (Below w.heap.size w W0) := by rw [hW0]; exact (Below.refl _ _).alloc (Nat.le_refl _) _
  have HY0 : Hid (W0.cell? ⟨w.heap.size, 0, none⟩ = some (.slice p s.length c)) := by show _ = _; rw [hW0]; simp
  have HW0 := Lib.hid hW0
  have HX := Lib.hid hx
  have HWf := Lib.hid hwf
  have HE := Lib.hid (err_colsK s)
  have HC := Lib.hid (checkColumnsK s p c W0 (hx.on HB0.out) hwf)
  have HEnc : Hid (encB s = if Sch.err s = 0 then Sch.bytes s else []) := rfl
  have HK0 : Hid (colsK s = 0 → s.length ≤ 16 ∧ Sch.colsErr [] s = 0) := fun h => by
    unfold colsK at h
    split at h
    · omega
    · split at h
      · omega
      · exact ⟨by omega, h⟩
  obtain ⟨L, hL⟩ : ∃ L, L = encB s := ⟨_, rfl⟩
  obtain ⟨R, hR⟩ : ∃ R, R = Sch.err s := ⟨_, rfl⟩
  rw [← hL] at HEnc ⊢
  rw [← hR] at HE HEnc ⊢
  obtain ⟨ck, hck⟩ : ∃ n, n = colsK s := ⟨_, rfl⟩
  rw [← hck] at HC HE HK0
  clear hW0 hx hwf hL hR hck
  go_enter Try.func57, Try.ntmps57
  go_wp2_with fail
  rw [← HW0.out]
  clear HW0
  refine HC.out.mono ?_
  rintro e w1 ⟨rfl, hb1⟩
  have y1 := cell_on hb1 HY0.out
  have HB1 := Lib.hid (HB0.out.trans (hb1.mono HB0.out.size))
  clear hb1 HC HY0
  by_cases h0 : ¬ ck = 0
  · have g0 : ((ck : Int) != 0) = true := bne_t (by omega)
    have HR2 : Hid (R = ck) := by show _ = _; rw [HE.out, if_pos h0]
    have HL2 : Hid (L = []) := by show _ = _; rw [HEnc.out, HR2.out, if_neg h0]
    clear h0 HE HEnc HK0
    go_wp2
    go_ret2
    rw [HL2.out, HR2.out]
    exact ⟨none, 0, rfl, .inl rfl, Nat.le_refl _, HB1.out⟩
  replace h0 : ck = 0 := Classical.not_not.1 h0
  have g0 : ((ck : Int) != 0) = false := bne_f (by omega)
  obtain ⟨hs16, hce⟩ := HK0.out h0
  have HR2 : Hid (R = if 1024 < (Sch.bytes s).length then 2 else 0) := by show _ = _; rw [HE.out, if_neg (by omega)]
  have HCe := Lib.hid hce
  have HP := Lib.hid (put_any s.length (by omega))
  have hpl := Leb.put_length_le s.length
  have HBy : Hid (Sch.bytes s = Leb.put s.length ++ (s.map Sch.cB).flatten) := rfl
  obtain ⟨l0, hl0⟩ : ∃ l0, l0 = Leb.put s.length := ⟨_, rfl⟩
  rw [← hl0] at HP hpl HBy
  obtain ⟨by0, hby⟩ : ∃ l, l = Sch.bytes s := ⟨_, rfl⟩
  rw [← hby] at HBy HR2 HEnc
  have hs16' : (s.length : Int) ≤ 16 := by omega
  clear h0 HE HK0 hce hl0 hby
  go_wp2_with fail
  refine (HP.out _).mono ?_
  rintro e w2 ⟨g, cap0, rfl, hm, hb2⟩
  have y2 := cell_on hb2 y1
  have HH2 := Lib.hid hm.has
  have HB2 := Lib.hid hb2
  clear hm hb2 HP y1
  have HZ0 : Hid (l0 = l0 ++ ((s.take 0).map Sch.cB).flatten) := by show _ = _; simp
  go_wp2_with fail
  go_loopw [5, 22] (fun v5 v22 wr => ∃ (j : Nat) (zs : List UInt8) (q : Option Addr) (cap : Nat), j ≤ s.length ∧ v22 = .int .i64 j ∧ v5 = .slice q zs.length cap ∧ zs.length ≤ 10 + j * 3000 ∧ Hid ((zs = l0 ++ ((s.take j).map Sch.cB).flatten ∨ (1024 < zs.length ∧ 1024 < (l0 ++ ((s.take j).map Sch.cB).flatten).length)) ∧ Has wr w1.heap.size (.slice q zs.length cap) zs ∧ Below w1.heap.size w1 wr)) (fun _ v22 _ => s.length - (intOf v22).toNat)
  case atStart => exact ⟨0, l0, some ⟨g, 0, none⟩, cap0, by omega, rfl, rfl, by omega, .inl HZ0.out, HH2.out, HB2.out⟩
  case round =>
    obtain ⟨j, zs, q, cap, hj, rfl, rfl, hzl, HL⟩ := hrel
    by_cases hlt : j < s.length
    · have hbr : Below w.heap.size w wr := HB1.out.trans (HL.out.2.2.mono HB1.out.size)
      obtain ⟨bx, ox, k, tp, tn, tc, vk, vi, vb, vt, vp, vn, vc, rfl, _, h9, htx, hvx⟩ := (HX.out.on HB1.out).at j hlt
      obtain ⟨a0, a1, a2, a3, a4, a5, a6, a7, a8⟩ := h9.on HL.out.2.2
      have hj1 : (j : Int) < (s.length : Int) := by omega
      obtain ⟨l', hce⟩ := Sch.colsErr_mem s [] HCe.out s[j] (List.getElem_mem hlt)
      obtain ⟨o1, -, o3, -, o5⟩ := Sch.col_open hce
      have hnm := (Sch.name_size o1).2
      obtain ⟨wa, hwa⟩ : ∃ wa, wa = wr.alloc (.cells #[.string s[j].name, .int .i64 k, .slice tp tn tc, .bool s[j].has, .int .i64 vk, .int .i64 vi, .float .f64 vb, .string vt, .slice vp vn vc] 58) := ⟨_, rfl⟩
      have HBa : Hid (Below wr.heap.size wr wa) := by rw [hwa]; exact (Below.refl _ _).alloc (Nat.le_refl _) _
      have hsz := HL.out.2.2.size
      have hb1a : Below w1.heap.size w1 wa := HL.out.2.2.trans (HBa.out.mono hsz)
      have HB1a := Lib.hid hb1a
      have HCol := Lib.hid (appendColumnK s[j] w1 wa _ (.slice q zs.length cap) zs ⟨k, tp, tn, tc, vk, vi, vb, vt, vp, vn, vc, rfl, htx, hvx⟩ (HWf.out _ (List.getElem_mem hlt)) hnm o3 (fun h => (o5 h).1) hb1a (HL.out.2.1.on HBa.out) (by omega))
      have HHa := Lib.hid (HL.out.2.1.on HBa.out)
      have HTk := Lib.hid (Sch.flatten_take Sch.cB s j hlt)
      have HTl := Lib.hid (Sch.flatten_take_le Sch.cB s j)
      have HOld := Lib.hid HL.out.1
      unfold cells9 at HCol
      obtain ⟨cb, hcb⟩ : ∃ l, l = Sch.cB s[j] := ⟨_, rfl⟩
      rw [← hcb] at HCol HTk
      generalize s[j].name = nm at *
      generalize s[j].has = hs0 at *
      have HWa := Lib.hid hwa
      clear h9 htx hvx hce o1 o3 o5 hnm hwa hb1a HL hbr hcb
      go_wp2_with fail
      rw [← HWa.out]
      clear HWa a0 a1 a2 a3 a4 a5 a6 a7 a8
      refine HCol.out.mono ?_
      rintro e w3 ⟨ys, q3, cap3, hor, hyl, rfl, hg3⟩
      have HN : Hid ((ys = l0 ++ ((s.take (j + 1)).map Sch.cB).flatten ∨ (1024 < ys.length ∧ 1024 < (l0 ++ ((s.take (j + 1)).map Sch.cB).flatten).length)) ∧ Has w3 w1.heap.size (.slice q3 ys.length cap3) ys ∧ Below w1.heap.size w1 w3) := by
        refine ⟨?_, hg3.has, HB1a.out.trans (hg3.low HHa.out HB1a.out.size)⟩
        have hge : ∀ (A : List UInt8), (A ++ cb).length = A.length + cb.length := fun A => List.length_append
        rw [HTk.out, ← List.append_assoc]
        rcases HOld.out with h1 | h1
        · rw [← h1]; exact hor
        · refine .inr ⟨?_, ?_⟩
          · rcases hor with h2 | h2
            · rw [h2, List.length_append]; omega
            · exact h2.1
          · rw [List.length_append]; omega
      have hys : ys.length ≤ 10 + (j + 1) * 3000 := by omega
      clear hor hg3 hyl HCol HHa HTk HTl HOld
      go_wp2
      go_roundw
      case rel => exact ⟨j + 1, ys, q3, cap3, by omega, by go_num, rfl, hys, HN.out⟩
      case measure => simp [intOf]; omega
    · have hjn : ¬ (j : Int) < (s.length : Int) := by omega
      have HF : Hid (Below w.heap.size w wr) := HB1.out.trans (HL.out.2.2.mono HB1.out.size)
      have hor : (zs = by0 ∨ (1024 < zs.length ∧ 1024 < by0.length)) := by
        have h1 := HL.out.1
        rw [List.take_of_length_le (by omega), ← HBy.out] at h1
        exact h1
      have HH := Lib.hid HL.out.2.1
      clear HL
      by_cases hbig : 1024 < zs.length
      · have gb : (1024 : Int) < (zs.length : Int) := by omega
        have hby1 : 1024 < by0.length := by
          rcases hor with h1 | h1
          · rw [← h1]; exact hbig
          · exact h1.2
        have HR3 : Hid (R = 2) := by show _ = _; rw [HR2.out, if_pos hby1]
        have HL3 : Hid (L = []) := by show _ = _; rw [HEnc.out, HR3.out, if_neg (by decide)]
        clear hor hbig hby1 HR2 HEnc
        go_wp2
        go_ret2
        rw [HL3.out, HR3.out]
        exact ⟨none, 0, rfl, .inl rfl, Nat.le_refl _, HF.out⟩
      · have gb : ¬ (1024 : Int) < (zs.length : Int) := by omega
        have hzb : zs = by0 := by
          rcases hor with h1 | h1
          · exact h1
          · exact absurd h1.1 hbig
        have HR3 : Hid (R = 0) := by show _ = _; rw [HR2.out, if_neg (by rw [← hzb]; exact hbig)]
        have HL3 : Hid (L = zs) := by show _ = _; rw [HEnc.out, HR3.out, if_pos rfl, hzb]
        obtain ⟨q', cap', he, hat, hcap⟩ := HH.out.at
        injection he with e1 _ e2
        subst e1 e2
        have HAt := Lib.hid hat
        clear hor hbig hzb HR2 HEnc hat
        go_wp2
        go_ret2
        rw [HL3.out, HR3.out]
        exact ⟨_, _, rfl, HAt.out, hcap, HF.out⟩

set_option maxRecDepth 100000 in
set_option maxHeartbeats 400000 in
theorem checkSK (s : List Col) (p : Option Addr) (c : Nat) (w : World) (hs : s.length * 120 ≤ 140737488351232) (hx : Cols w p s) (hwf : ∀ x ∈ s, x.wf) :
    Calls Try.prog 33 #[.agg #[.slice p s.length c]] w fun e w' => e = .returned (.int .i64 (Sch.err s : Nat)) ∧ Below w.heap.size w w' := by
  have HB1 : Hid (Below w.heap.size w (w.alloc (.cells #[.slice p s.length c] 37))) := (Below.refl _ _).alloc (Nat.le_refl _) _
  have HC := Lib.hid (encodeK s p c _ hs (hx.on HB1.out) hwf)
  obtain ⟨R, hR⟩ : ∃ R, R = Sch.err s := ⟨_, rfl⟩
  rw [← hR] at HC ⊢
  obtain ⟨L, hL⟩ : ∃ R, R = encB s := ⟨_, rfl⟩
  rw [← hL] at HC
  clear hR hL hx hwf
  go_enter Try.func33, Try.ntmps33
  go_wp2_with fail
  refine HC.out.mono ?_
  rintro e w2 ⟨q, cap, rfl, -, -, hb2⟩
  have HB2 := Lib.hid (HB1.out.trans (hb2.mono HB1.out.size))
  clear hb2 HC
  go_wp2
  go_ret
  exact ⟨rfl, HB2.out⟩
end Go.Proofs.Ytbedlaaedefclaa

/- Package value's Fix. -/
namespace Go.Proofs.Ytbedlaaedefclaa
open Go.RowKit

attribute [local go_sem] run_store_float

/-- while the items are fixed: the parameter stands in the first block, the answer's place in the next; j items are there -/
structure MakingK (w : World) (C0 : Array Value) (zs : List V) (j : Nat) (v : Value) (wr : World) : Prop where
  built : ∃ us Fs, Built wr (w.heap.size + 2) v j us Fs (zs.take j)
  b0 : wr.heap[w.heap.size]? = some (.cells C0 28 (0, 0))
  b1 : wr.heap[w.heap.size + 1]? = some (.cells (cells5 0 0 0 ⟨#[]⟩ none 0 0) 28 (0, 0))
  below : Below w.heap.size w wr
  size : w.heap.size + 2 ≤ wr.heap.size

section
variable {w wr : World} {C0 : Array Value} {zs : List V} {j : Nat} {v : Value}
theorem makingK_start (w : World) (C0 : Array Value) (zs : List V) :
    MakingK w C0 zs 0 (.slice none 0 0) ((w.alloc (.cells C0 28)).alloc (.cells (cells5 0 0 0 ⟨#[]⟩ none 0 0) 28)) := by
  refine ⟨⟨_, _, built_nil _ _⟩, ?_, ?_, (((Below.refl _ w).alloc (Nat.le_refl _) _).alloc (by simp) _), by simp⟩
  · rw [blk_old _ _ (by simp)]; exact blk_new w _
  · have := blk_new (w.alloc (.cells C0 28)) (.cells (cells5 0 0 0 ⟨#[]⟩ none 0 0) 28)
    simpa using this

theorem MakingK.slice (h : MakingK w C0 zs j v wr) : ∃ p c, v = .slice p j c := by
  obtain ⟨us, Fs, hb⟩ := h.built
  rcases hb.row.2 with ⟨h1, h2⟩ | ⟨g, cap, cur, h1, _⟩
  · exact ⟨none, 0, by rw [h1, h2]⟩
  · exact ⟨_, cap, h1⟩

theorem MakingK.next {w2 w3 w4 : World} {u : Array Value} {F : Nat → Prop} {g cap : Nat} {us : Nat → Array Value} {Fs : Nat → Nat → Prop} (h : MakingK w C0 zs j v wr) (hbt : Built wr (w.heap.size + 2) v j us Fs (zs.take j)) (hj : j < zs.length) (hb : Below wr.heap.size wr w2) (hx : VOwn w2 F u zs[j])
    (hF : ∀ k, F k → wr.heap.size ≤ k ∧ k < w2.heap.size) (hb3 : Below w2.heap.size w2 w3)
    (hr : w4.ownsRow (w.heap.size + 2) 28 5 (.slice (some ⟨g, 0, none⟩) (j + 1) cap) (j + 1) (flat us j ++ u.toList)) (hg : w3.grownBy w4 v.ownBlock) (hn : v.ownBlock = some g ∨ g = w3.heap.size) :
    MakingK w C0 zs (j + 1) (.slice (some ⟨g, 0, none⟩) (j + 1) cap) w4 := by
  have hs := h.size
  have hs2 := hb.size
  have hs3 := hb3.size
  have hst := hbt.step hb hx hF hb3 hs hr hg hn
  have hold : ∀ n, n < 2 → w4.heap[w.heap.size + n]? = wr.heap[w.heap.size + n]? := fun n hn => by
    rw [hg.block _ (by omega) (fun hc => by have := (hbt.lt _ hc.symm).1; omega), hb3.block _ (by omega), hb.block _ (by omega)]
  have hb4 : Below w.heap.size w w4 := ((h.below.trans (hb.mono (by omega))).trans (hb3.mono (by omega))).grown hg (by omega) (fun k hk => by have := (hbt.lt k hk).1; omega)
  refine ⟨⟨(fun n => if n = j then u else us n), (fun n => if n = j then F else Fs n), ?_⟩, ?_, ?_, hb4, ?_⟩
  · rw [List.take_succ_eq_append_getElem hj]
    exact hst
  · have := hold 0 (by omega)
    rw [Nat.add_zero] at this
    exact this.trans h.b0
  · exact (hold 1 (by omega)).trans h.b1
  · have := hg.size
    omega

theorem MakingK.finish {k i : Int} {b : Nat} {t : ByteArray} {s : Value} {q : Option Addr} {d : Nat} (h : MakingK w #[.int .i64 k, .int .i64 i, .float .f64 b, .string t, s] zs j (.slice q j d) wr) (hj : j = zs.length) (hl : j * 64 ≤ 140737488351232) (b' : Nat) :
    (put5 ((wr.setCell ⟨w.heap.size, 2, none⟩ (.float .f64 b')).setCell ⟨w.heap.size, 4, none⟩ (.slice q j d)) (w.heap.size + 1) k i b' t (.slice q j d)).heap[w.heap.size + 1]? = some (.cells (cells5 k i b' t q j d) 28 (0, 0)) ∧ Fresh w (.mk k i b' t zs) (.returned (.agg (cells5 k i b' t q j d))) (put5 ((wr.setCell ⟨w.heap.size, 2, none⟩ (.float .f64 b')).setCell ⟨w.heap.size, 4, none⟩ (.slice q j d)) (w.heap.size + 1) k i b' t (.slice q j d)) := by
  have hb1 := blk_set_far (blk_set_far h.b1 ⟨w.heap.size, 2, none⟩ (.float .f64 b') (by show w.heap.size + 1 ≠ w.heap.size; omega)) ⟨w.heap.size, 4, none⟩ (.slice q j d) (by show w.heap.size + 1 ≠ w.heap.size; omega)
  unfold put5
  refine ⟨?_, _, rfl, ?_, ?_⟩
  · rw [blk_set (blk_set (blk_set (blk_set (blk_set hb1 0 _) 1 _) 2 _) 3 _) 4 _]
    rfl
  · obtain ⟨us, Fs, hb⟩ := h.built
    have hp0 : ∀ m, (⟨w.heap.size, m, none⟩ : Addr).block < w.heap.size + 2 := fun m => by show w.heap.size < _; omega
    have hp : ∀ m, (⟨w.heap.size + 1, m, none⟩ : Addr).block < w.heap.size + 2 := fun m => by show w.heap.size + 1 < _; omega
    have h5 := ((((((hb.set ⟨w.heap.size, 2, none⟩ (.float .f64 b') (hp0 2)).set ⟨w.heap.size, 4, none⟩ (.slice q j d) (hp0 4)).set ⟨w.heap.size + 1, 0, none⟩ (.int .i64 k) (hp 0)).set ⟨w.heap.size + 1, 1, none⟩ (.int .i64 i) (hp 1)).set ⟨w.heap.size + 1, 2, none⟩ (.float .f64 b') (hp 2)).set ⟨w.heap.size + 1, 3, none⟩ (.string t) (hp 3)).set ⟨w.heap.size + 1, 4, none⟩ (.slice q j d) (hp 4)
    obtain ⟨p', c', he, hv⟩ := h5.done hl k i b' t
    injection he with h6 h7 h8
    subst h6 h8
    rw [hj, List.take_length] at hv
    rw [← hj] at hv
    exact hv.mono fun k hk => ⟨by omega, hk.2⟩
  · have hp0 : ∀ m, w.heap.size ≤ (⟨w.heap.size, m, none⟩ : Addr).block := fun m => Nat.le_refl _
    have hp : ∀ m, w.heap.size ≤ (⟨w.heap.size + 1, m, none⟩ : Addr).block := fun m => by show _ ≤ w.heap.size + 1; omega
    exact ((((((h.below.setCell (hp0 2) _).setCell (hp0 4) _).setCell (hp 0) _).setCell (hp 1) _).setCell (hp 2) _).setCell (hp 3) _).setCell (hp 4) _
end

set_option maxRecDepth 100000 in
set_option maxHeartbeats 1000000 in
theorem fixK : ∀ (x : V) (w : World) (u : Array Value), VLies w u x → Calls Try.prog 60 #[.agg u] w (Fresh w (V.fix x)) := by
  intro x
  refine V.ind (P := fun x => ∀ (w : World) (u : Array Value), VLies w u x → Calls Try.prog 60 #[.agg u] w (Fresh w (V.fix x))) ?_ x
  intro k i b t xs ih w u hx
  rw [V.fix_mk]
  obtain ⟨p, c, rfl, hl, hc, hxi⟩ := hx.open
  unfold cells5
  have HIH := Lib.hid ih
  have HX : Hid (∀ j (hj : j < xs.length), ∃ u', VLies w u' xs[j] ∧ Item w p j u') := hxi
  clear ih hxi hx
  go_enter Try.func60, Try.ntmps60
  go_wp2_with fail
  go_loopw [3, 9] (fun v3 v9 wr => ∃ (j : Nat) (q : Option Addr) (d : Nat), j ≤ xs.length ∧ v9 = .int .i64 j ∧ v3 = .slice q j d ∧ Hid (MakingK w #[.int .i64 k, .int .i64 i, .float .f64 b, .string t, .slice p xs.length c] (V.fixL xs) j (.slice q j d) wr)) (fun _ v9 _ => xs.length - (intOf v9).toNat)
  case atStart => exact ⟨0, none, 0, by omega, rfl, rfl, makingK_start w _ _⟩
  case round =>
    obtain ⟨j, q, d, hj, rfl, rfl, HM⟩ := hrel
    by_cases hlt : j < xs.length
    · obtain ⟨ux, hvx, hix⟩ := HX.out j hlt
      obtain ⟨bx, ox, kx, ix, fx, tx, qx, nx, cx, rfl, _, rfl, a0, a1, a2, a3, a4⟩ := (hix.on HM.out.below).lies
      have HC : Hid (∀ w', Below wr.heap.size wr w' → Calls Try.prog 60 #[.agg #[.int .i64 kx, .int .i64 ix, .float .f64 fx, .string tx, .slice qx nx cx]] w' (Fresh w' (V.fix xs[j]))) := fun w' hb => HIH.out _ (List.getElem_mem hlt) w' _ ((hvx.on HM.out.below).on hb)
      have hj1 : (j : Int) < (xs.length : Int) := by omega
      have HBa : Hid (∀ o, Below wr.heap.size wr (wr.alloc o)) := fun o => (Below.refl _ _).alloc (Nat.le_refl _) o
      clear hvx hix
      go_wp2_with fail
      refine (HC.out _ (HBa.out _)).mono ?_
      rintro e w2 ⟨u', rfl, hv, hb2⟩
      obtain ⟨k', i', b', t', p', n', c', rfl⟩ := hv.shape
      obtain ⟨us, Fs, hbt⟩ := HM.out.built
      have hb2' : Below wr.heap.size wr w2 := (HBa.out _).trans (hb2.mono (by simp))
      have HV := Lib.hid (hv.mono (G := fun k => wr.heap.size ≤ k ∧ k < w2.heap.size) fun k hk => ⟨by have := hk.1; simp at this; omega, hk.2⟩)
      have HB2 := Lib.hid hb2'
      have HBt := Lib.hid hbt
      have hsz : w.heap.size + 2 ≤ w2.heap.size := Nat.le_trans HM.out.size hb2'.size
      have hjl : (V.fixL xs).length = xs.length := by rw [V.fixL_eq, List.length_map]
      have hfj : (V.fixL xs)[j]'(by omega) = V.fix xs[j] := by simp [V.fixL_eq]
      have HFJ := Lib.hid hfj
      clear hv hb2 hb2' hbt a0 a1 a2 a3 a4 HC hfj HBa
      unfold cells5 at HV ⊢
      have HB3 : Hid (Below w2.heap.size w2 (w2.alloc (.cells #[.int .i64 k', .int .i64 i', .float .f64 b', .string t', .slice p' n' c'] 28))) := (Below.refl _ _).alloc (Nat.le_refl _) _
      go_wp2_with (at_builtin; refine wp_more (B := w.heap.size + 2) (us := us) ((HBt.out.on HB2.out).on HB3.out).row (u := #[.int .i64 k', .int .i64 i', .float .f64 b', .string t', .slice p' n' c']) rfl (one5 HV.out) (ad := w2.heap.size) (blk_new w2 _) (by omega) (by simp; omega) rfl rfl rfl rfl rfl ?_
                   intro g2 cap2 w4 hr4 hg4 hn4
                   have HMK := Lib.hid (HM.out.next HBt.out (by omega) HB2.out (by rw [HFJ.out]; exact HV.out) (fun _ h => h) HB3.out hr4 hg4 hn4)
                   clear hr4 hg4 hn4)
      go_roundw
      case rel => exact ⟨j + 1, _, _, by omega, by go_num, rfl, HMK⟩
      case measure => simp [intOf]; omega
    · have hjn : ¬ (j : Int) < (xs.length : Int) := by omega
      have hjj : j = xs.length := by omega
      have e0 : wr.cell? ⟨w.heap.size, 0, none⟩ = some (.int .i64 k) := blk_cell HM.out.b0 0
      have e1 : wr.cell? ⟨w.heap.size, 1, none⟩ = some (.int .i64 i) := blk_cell HM.out.b0 1
      have e2 : wr.cell? ⟨w.heap.size, 2, none⟩ = some (.float .f64 b) := blk_cell HM.out.b0 2
      have e3 : wr.cell? ⟨w.heap.size, 3, none⟩ = some (.string t) := blk_cell HM.out.b0 3
      have e4 : wr.cell? ⟨w.heap.size, 4, none⟩ = some (.slice p xs.length c) := blk_cell HM.out.b0 4
      have f2 := blk_free HM.out.b0 2
      have f4 := blk_free HM.out.b0 4
      have r0 : wr.cell? ⟨w.heap.size + 1, 0, none⟩ = some (.int .i64 0) := blk_cell HM.out.b1 0
      have r1 : wr.cell? ⟨w.heap.size + 1, 1, none⟩ = some (.int .i64 0) := blk_cell HM.out.b1 1
      have r2 : wr.cell? ⟨w.heap.size + 1, 2, none⟩ = some (.float .f64 0) := blk_cell HM.out.b1 2
      have r3 : wr.cell? ⟨w.heap.size + 1, 3, none⟩ = some (.string ⟨#[]⟩) := blk_cell HM.out.b1 3
      have r4 : wr.cell? ⟨w.heap.size + 1, 4, none⟩ = some (.slice none 0 0) := blk_cell HM.out.b1 4
      have s0 := blk_free HM.out.b1 0
      have s1 := blk_free HM.out.b1 1
      have s2 := blk_free HM.out.b1 2
      have s3 := blk_free HM.out.b1 3
      have s4 := blk_free HM.out.b1 4
      have hfl : (V.fixL xs).length = xs.length := by rw [V.fixL_eq, List.length_map]
      have HF := Lib.hid (HM.out.finish (by omega) (by omega) (fixB b))
      subst hjj
      go_wp2_with fail
      refine (realFix_any b _).mono ?_
      rintro e w1 ⟨rfl, hw1⟩
      rw [hw1]
      clear hw1 w1
      go_wp2
      refine bodyPost_ret (v := .agg (cells5 k i (fixB b) t q xs.length d)) (results_cell_row rfl _ _ (w.heap.size + 1) _ _ _ _ rfl HF.out.1 Try.underlying28 rfl (by kernel_rfl)) rfl ?_
      exact HF.out.2
end Go.Proofs.Ytbedlaaedefclaa

/- Blocks that are made one behind the other; what a row of calls keeps. -/
namespace Go.Proofs.Ytbedlaaedefclaa
open Go.RowKit

/-- two blocks more -/
theorem al2 (w : World) (o0 o1 : Obj) : ((w.alloc o0).alloc o1).heap[w.heap.size]? = some o0 ∧ ((w.alloc o0).alloc o1).heap[w.heap.size + 1]? = some o1 ∧ Below w.heap.size w ((w.alloc o0).alloc o1) ∧ ((w.alloc o0).alloc o1).heap.size = w.heap.size + 2 := by
  refine ⟨?_, ?_, ((Below.refl _ _).alloc (Nat.le_refl _) _).alloc (by simp) _, by simp⟩
  · rw [blk_old _ _ (by simp)]; exact blk_new w _
  · have := blk_new (w.alloc o0) o1
    simpa using this
theorem al3 (w : World) (o0 o1 o2 : Obj) : (((w.alloc o0).alloc o1).alloc o2).heap[w.heap.size]? = some o0 ∧ (((w.alloc o0).alloc o1).alloc o2).heap[w.heap.size + 1]? = some o1 ∧ (((w.alloc o0).alloc o1).alloc o2).heap[w.heap.size + 1 + 1]? = some o2 ∧ Below w.heap.size w (((w.alloc o0).alloc o1).alloc o2) ∧ (((w.alloc o0).alloc o1).alloc o2).heap.size = w.heap.size + 3 := by
  obtain ⟨h0, h1, hb, hs⟩ := al2 w o0 o1
  refine ⟨?_, ?_, ?_, hb.alloc (by rw [hs]; omega) _, ?_⟩
  · rw [blk_old _ _ (by rw [hs]; omega)]; exact h0
  · rw [blk_old _ _ (by rw [hs]; omega)]; exact h1
  · have := blk_new ((w.alloc o0).alloc o1) o2
    rw [hs] at this
    exact this
  · simp
theorem al4 (w : World) (o0 o1 o2 o3 : Obj) : ((((w.alloc o0).alloc o1).alloc o2).alloc o3).heap[w.heap.size]? = some o0 ∧ ((((w.alloc o0).alloc o1).alloc o2).alloc o3).heap[w.heap.size + 1]? = some o1 ∧ ((((w.alloc o0).alloc o1).alloc o2).alloc o3).heap[w.heap.size + 1 + 1]? = some o2 ∧ ((((w.alloc o0).alloc o1).alloc o2).alloc o3).heap[w.heap.size + 1 + 1 + 1]? = some o3 ∧ Below w.heap.size w ((((w.alloc o0).alloc o1).alloc o2).alloc o3) ∧ ((((w.alloc o0).alloc o1).alloc o2).alloc o3).heap.size = w.heap.size + 4 := by
  obtain ⟨h0, h1, h2, hb, hs⟩ := al3 w o0 o1 o2
  refine ⟨?_, ?_, ?_, ?_, hb.alloc (by rw [hs]; omega) _, ?_⟩
  · rw [blk_old _ _ (by rw [hs]; omega)]; exact h0
  · rw [blk_old _ _ (by rw [hs]; omega)]; exact h1
  · rw [blk_old _ _ (by rw [hs]; omega)]; exact h2
  · have := blk_new (((w.alloc o0).alloc o1).alloc o2) o3
    rw [hs] at this
    exact this
  · simp
theorem al5 (w : World) (o0 o1 o2 o3 o4 : Obj) : (((((w.alloc o0).alloc o1).alloc o2).alloc o3).alloc o4).heap[w.heap.size]? = some o0 ∧ (((((w.alloc o0).alloc o1).alloc o2).alloc o3).alloc o4).heap[w.heap.size + 1]? = some o1 ∧ (((((w.alloc o0).alloc o1).alloc o2).alloc o3).alloc o4).heap[w.heap.size + 1 + 1]? = some o2 ∧ (((((w.alloc o0).alloc o1).alloc o2).alloc o3).alloc o4).heap[w.heap.size + 1 + 1 + 1]? = some o3 ∧ (((((w.alloc o0).alloc o1).alloc o2).alloc o3).alloc o4).heap[w.heap.size + 1 + 1 + 1 + 1]? = some o4 ∧ Below w.heap.size w (((((w.alloc o0).alloc o1).alloc o2).alloc o3).alloc o4) ∧ (((((w.alloc o0).alloc o1).alloc o2).alloc o3).alloc o4).heap.size = w.heap.size + 5 := by
  obtain ⟨h0, h1, h2, h3, hb, hs⟩ := al4 w o0 o1 o2 o3
  refine ⟨?_, ?_, ?_, ?_, ?_, hb.alloc (by rw [hs]; omega) _, ?_⟩
  · rw [blk_old _ _ (by rw [hs]; omega)]; exact h0
  · rw [blk_old _ _ (by rw [hs]; omega)]; exact h1
  · rw [blk_old _ _ (by rw [hs]; omega)]; exact h2
  · rw [blk_old _ _ (by rw [hs]; omega)]; exact h3
  · have := blk_new ((((w.alloc o0).alloc o1).alloc o2).alloc o3) o4
    rw [hs] at this
    exact this
  · simp
theorem blk_at {w w' : World} {g : Nat} {C : Array Value} {T : TypeId} {fr : Nat × Nat} (h : w.heap[g]? = some (.cells C T fr)) (hb : Below w.heap.size w w') (m : Nat) : w'.cell? ⟨g, m, none⟩ = C[m]? :=
  blk_cell ((hb.block _ (blk_lt h)).trans h) m
end Go.Proofs.Ytbedlaaedefclaa
