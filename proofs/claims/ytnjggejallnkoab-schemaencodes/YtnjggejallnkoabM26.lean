/- WCopied7: put together. -/
import Derived.Test.YtnjggejallnkoabM24
import Derived.Test.YtnjggejallnkoabM13
import Derived.Test.YtnjggejallnkoabM25

/- The law's own copied(s). -/
namespace Go.Proofs.Ytnjggejallnkoab
open Go.RowKit

attribute [local go_sem] run_store_float

section
variable {B : Nat} {v : Value} {n : Nat} {us : Nat → Array Value} {w : World} {u : Array Value} {ad H : Nat}
/-- at a step of a region that draws -/
theorem step_moreC (hown : w.ownsRow B 48 9 v n (flat us n)) (h5 : u.size = 9) (h1 : ∀ a ∈ u.toList, a.oneCell' = true) (hblk : w.heap[ad]? = some (.cells u 48 (0, 0))) (hn : (n + 1) * 120 ≤ 140737488355328) (hB : B ≤ w.heap.size) (hH : w.heap.size = H)
    {ops : Array Oper} {o : Oper} {a : Act} {K : Act → World → Prop} {Q : Exit → Act → World → Prop} {E : Prop} (y x : Operand)
    (hg : o.guard = none) (hop : o.op = Op.call { callee := Callee.builtin Builtin.append, args := #[y, x], argTypes := #[22, 22] })
    (hs : a.eval y = v) (hx : a.eval x = .slice (some ⟨ad, 0, none⟩) 1 1)
    (hK : ∀ g cap w', w'.ownsRow B 48 9 (.slice (some ⟨g, 0, none⟩) (n + 1) cap) (n + 1) (flat us n ++ u.toList) → w.grownBy w' v.ownBlock → (v.ownBlock = some g ∨ g = H) → K (a.put o.dst (.slice (some ⟨g, 0, none⟩) (n + 1) cap)) w') :
    if Region.wanted o (yielded ops a.tmps) = true then Oper.wp Try.prog o a w K Q else E := by
  obtain ⟨i, hi, hz, hsz, hby⟩ := info_parts info48
  exact step_append_lies w hg y x 22 hop B 48 i zeroC 9 120 Try.underlying22 hi hz hsz hby rfl (by decide) v n (flat us n) hs hown ⟨ad, 0, none⟩ 1 1 u.toList hx (by simp [h5])
    (World.news_of_block hblk) h1 (by decide) (by unfold maxLen; omega) hn hB H hH fun g cap w' h2 h3 h4 _ => hK g cap w' h2 h3 h4
end


/-- what a fresh schema's call answers -/
def FreshS (w : World) (s : List Col) (e : Ending) (w' : World) : Prop := ∃ u', e = .returned (.agg u') ∧ SOwn w' w.heap.size u' s ∧ Below w.heap.size w w'

/-- while a schema is copied: the parameter in the first block, the answer's place in the next, the schema in the third -/
structure MakingC (w : World) (C0 : Array Value) (zs : List Col) (j : Nat) (v : Value) (wr : World) : Prop where
  built : ∃ us Fs, CBuilt wr (w.heap.size + 3) v j us Fs (zs.take j)
  b0 : wr.heap[w.heap.size]? = some (.cells C0 24 (0, 0))
  b1 : wr.heap[w.heap.size + 1]? = some (.cells #[.slice none 0 0] 24 (0, 0))
  b2 : wr.heap[w.heap.size + 2]? = some (.cells #[v] 24 (0, 0))
  below : Below w.heap.size w wr
  size : w.heap.size + 3 ≤ wr.heap.size
theorem makingC_start (w : World) (C0 : Array Value) (zs : List Col) :
    MakingC w C0 zs 0 (.slice none 0 0) (((w.alloc (.cells C0 24)).alloc (.cells #[.slice none 0 0] 24)).alloc (.cells #[.slice none 0 0] 24)) := by
  refine ⟨⟨_, _, cbuilt_nil _ _⟩, ?_, ?_, ?_, ((((Below.refl _ w).alloc (Nat.le_refl _) _).alloc (by simp) _).alloc (by simp; omega) _), by simp⟩
  · rw [blk_old _ _ (by simp; omega), blk_old _ _ (by simp)]; exact blk_new w _
  · rw [blk_old _ _ (by simp)]
    exact blk_second w _ _
  · have := blk_second (w.alloc (.cells C0 24)) (.cells #[.slice none 0 0] 24) (.cells #[.slice none 0 0] 24)
    simpa using this
theorem MakingC.next {w wr w2 w3 w4 : World} {C0 : Array Value} {zs : List Col} {j : Nat} {v : Value} {u : Array Value} {F : Nat → Prop} {g cap : Nat} {us : Nat → Array Value} {Fs : Nat → Nat → Prop} (h : MakingC w C0 zs j v wr) (hbt : CBuilt wr (w.heap.size + 3) v j us Fs (zs.take j)) (hj : j < zs.length) (hb : Below wr.heap.size wr w2) (hx : COwn w2 F u zs[j])
    (hF : ∀ k, F k → wr.heap.size ≤ k ∧ k < w2.heap.size) (hb3 : Below w2.heap.size w2 w3)
    (hr : w4.ownsRow (w.heap.size + 3) 48 9 (.slice (some ⟨g, 0, none⟩) (j + 1) cap) (j + 1) (flat us j ++ u.toList)) (hg : w3.grownBy w4 v.ownBlock) (hn : v.ownBlock = some g ∨ g = w3.heap.size) :
    (∀ n, n < 3 → w4.heap[w.heap.size + n]? = wr.heap[w.heap.size + n]?) ∧ MakingC w C0 zs (j + 1) (.slice (some ⟨g, 0, none⟩) (j + 1) cap) (w4.setCell ⟨w.heap.size + 2, 0, none⟩ (.slice (some ⟨g, 0, none⟩) (j + 1) cap)) := by
  have hs := h.size
  have hs2 := hb.size
  have hs3 := hb3.size
  have hst := hbt.step hb hx hF hb3 hs hr hg hn
  have hold : ∀ n, n < 3 → w4.heap[w.heap.size + n]? = wr.heap[w.heap.size + n]? := fun n hn => by
    rw [hg.block _ (by omega) (fun hc => by have := (hbt.lt _ hc.symm).1; omega), hb3.block _ (by omega), hb.block _ (by omega)]
  have hb4 : Below w.heap.size w w4 := ((h.below.trans (hb.mono (by omega))).trans (hb3.mono (by omega))).grown hg (by omega) (fun k hk => by have := (hbt.lt k hk).1; omega)
  refine ⟨hold, ⟨⟨(fun n => if n = j then u else us n), (fun n => if n = j then F else Fs n), ?_⟩, ?_, ?_, ?_, ?_, ?_⟩⟩
  · rw [List.take_succ_eq_append_getElem hj]
    exact hst.set ⟨w.heap.size + 2, 0, none⟩ _ (by show w.heap.size + 2 < _; omega)
  · have := hold 0 (by omega)
    rw [Nat.add_zero] at this
    exact blk_set_far (this.trans h.b0) _ _ (by show w.heap.size ≠ w.heap.size + 2; omega)
  · exact blk_set_far ((hold 1 (by omega)).trans h.b1) _ _ (by show w.heap.size + 1 ≠ w.heap.size + 2; omega)
  · rw [blk_set ((hold 2 (by omega)).trans h.b2)]
    rfl
  · exact hb4.setCell (by show w.heap.size ≤ w.heap.size + 2; omega) _
  · have := hg.size
    simp [World.setCell]
    omega

set_option maxRecDepth 100000 in
set_option maxHeartbeats 2000000 in
theorem copied7 (s : List Col) (p : Option Addr) (c : Nat) (w : World) (hl : s.length * 120 ≤ 140737488351232) (hx : Cols w p s) : Calls Try.prog 7 #[.agg #[.slice p s.length c]] w (FreshS w s) := by
  have HX := Lib.hid hx
  clear hx
  go_enter Try.func7, Try.ntmps7
  go_wp2_with fail
  go_loopw [4] (fun v4 wr => ∃ (j : Nat) (q : Option Addr) (d : Nat), j ≤ s.length ∧ v4 = .int .i64 j ∧ Hid (MakingC w #[.slice p s.length c] s j (.slice q j d) wr)) (fun v4 _ => s.length - (intOf v4).toNat)
  case atStart => exact ⟨0, none, 0, by omega, rfl, makingC_start w _ _⟩
  case round =>
    obtain ⟨j, q, d, hj, rfl, HM⟩ := hrel
    have c0 : wr.cell? ⟨w.heap.size, 0, none⟩ = some (.slice p s.length c) := blk_cell HM.out.b0 0
    have c2 : wr.cell? ⟨w.heap.size + 1 + 1, 0, none⟩ = some (.slice q j d) := blk_cell HM.out.b2 0
    by_cases hlt : j < s.length
    · obtain ⟨bx, ox, kx, xp, xn, xc, uk, ui, ub, ut, up, un, uc, rfl, hbx, h9x, htx, hdx⟩ := HX.out.at j hlt
      have hj1 : (j : Int) < (s.length : Int) := by omega
      obtain ⟨a0, a1, a2, a3, a4, a5, a6, a7, a8⟩ := h9x.on HM.out.below
      obtain ⟨nx, ty, hx, dv, hcj⟩ : ∃ nx ty hx dv, s[j] = ⟨nx, ty, hx, dv⟩ := ⟨_, _, _, _, rfl⟩
      rw [hcj] at a0 a3 htx hdx
      simp only at a0 a3 htx hdx
      have HKd : Hid (∀ w', Below w.heap.size w w' → Calls Try.prog 18 #[.agg #[.int .i64 kx, .slice xp xn xc]] w' (FreshT w' ty)) := fun w' hb => kind7 ty w' _ (htx.on hb)
      have HVl : Hid (∀ w', Below w.heap.size w w' → Calls Try.prog 19 #[.agg #[.int .i64 uk, .int .i64 ui, .float .f64 ub, .string ut, .slice up un uc]] w' (Fresh w' dv)) := fun w' hb => value7 dv w' _ (hdx.on hb)
      have HCj := Lib.hid hcj
      obtain ⟨us, Fs, hbt⟩ := HM.out.built
      have HBt := Lib.hid hbt
      obtain ⟨wa, hwa⟩ : ∃ wa, wa = wr.alloc (.cells #[.string nx, .int .i64 kx, .slice xp xn xc, .bool hx, .int .i64 uk, .int .i64 ui, .float .f64 ub, .string ut, .slice up un uc] 48) := ⟨_, rfl⟩
      have hba : Below wr.heap.size wr wa := by rw [hwa]; exact (Below.refl _ _).alloc (Nat.le_refl _) _
      have HBa := Lib.hid hba
      have HBwa := Lib.hid (HM.out.below.trans (hba.mono HM.out.below.size))
      have hsa : wa.heap.size = wr.heap.size + 1 := by rw [hwa]; simp
      have HXa : Hid (At9 wa wr.heap.size 0 nx kx xp xn xc hx uk ui ub ut up un uc) := by rw [hwa]; exact ⟨by simp, by simp, by simp, by simp, by simp, by simp, by simp, by simp, by simp⟩
      have HWa := Lib.hid hwa
      have c2a := cell_on hba c2
      have hn2 : ¬ wr.heap.size = w.heap.size + 1 + 1 := by have := HM.out.size; omega
      clear hwa hba h9x htx hdx hbt hcj
      go_wp2_with fail
      rw [← HWa.out]
      clear HWa a0 a1 a2 a3 a4 a5 a6 a7 a8 c0 c2
      obtain ⟨a0, a1, a2, a3, a4, a5, a6, a7, a8⟩ := HXa.out
      have hS0 : (fun w' : World => w'.cell? ⟨wr.heap.size, 0, none⟩ = some (.string nx) ∧ w'.cell? ⟨wr.heap.size, 1, none⟩ = some (.int .i64 kx) ∧ w'.cell? ⟨wr.heap.size, 2, none⟩ = some (.slice xp xn xc) ∧ w'.cell? ⟨wr.heap.size, 3, none⟩ = some (.bool hx) ∧ w'.cell? ⟨wr.heap.size, 4, none⟩ = some (.int .i64 uk) ∧ w'.cell? ⟨wr.heap.size, 5, none⟩ = some (.int .i64 ui) ∧ w'.cell? ⟨wr.heap.size, 6, none⟩ = some (.float .f64 ub) ∧ w'.cell? ⟨wr.heap.size, 7, none⟩ = some (.string ut) ∧ w'.cell? ⟨wr.heap.size, 8, none⟩ = some (.slice up un uc) ∧ w'.cell? ⟨w.heap.size + 1 + 1, 0, none⟩ = some (.slice q j d)) wa.drew := ⟨a0, a1, a2, a3, a4, a5, a6, a7, a8, c2a⟩
      refine wp_region_last (fun w' : World => w'.cell? ⟨wr.heap.size, 0, none⟩ = some (.string nx) ∧ w'.cell? ⟨wr.heap.size, 1, none⟩ = some (.int .i64 kx) ∧ w'.cell? ⟨wr.heap.size, 2, none⟩ = some (.slice xp xn xc) ∧ w'.cell? ⟨wr.heap.size, 3, none⟩ = some (.bool hx) ∧ w'.cell? ⟨wr.heap.size, 4, none⟩ = some (.int .i64 uk) ∧ w'.cell? ⟨wr.heap.size, 5, none⟩ = some (.int .i64 ui) ∧ w'.cell? ⟨wr.heap.size, 6, none⟩ = some (.float .f64 ub) ∧ w'.cell? ⟨wr.heap.size, 7, none⟩ = some (.string ut) ∧ w'.cell? ⟨wr.heap.size, 8, none⟩ = some (.slice up un uc) ∧ w'.cell? ⟨w.heap.size + 1 + 1, 0, none⟩ = some (.slice q j d)) 16 (by kernel_rfl) hS0 (fun hHeld => ?_)
      clear hS0
      refine AnyN.take (i := 0) (oi := { dst := some 18, op := Op.fieldAddr 24 (Operand.tmp 3) 0, type := 0, pos := "law.go:77", after := #[], guard := none }) (v := ?_) rfl (by kernel_rfl) (by kernel_rfl) (by kernel_rfl) (by kernel_rfl) (fun _ _ _ h => h) (Or.inl ⟨by rfl, ?_⟩) (by assumption) ?_
      rotate_left
      · (intro w' hSw; (try dsimp only at hSw); go_simp; try with_reducible rfl)
      simp only [Act.put, List.setIfInBounds_toArray, List.set_cons_zero, List.set_cons_succ]
      refine AnyN.take (i := 1) (oi := { dst := some 19, op := Op.load 22 (Operand.tmp 18), type := 22, pos := "law.go:77", after := #[{ on := 0, ground := Ground.data }], guard := none }) (v := ?_) rfl (by kernel_rfl) (by kernel_rfl) (by kernel_rfl) (by kernel_rfl) (fun _ _ _ h => h) (Or.inl ⟨by rfl, ?_⟩) (by assumption) ?_
      rotate_left
      · (intro w' hSw; (try dsimp only at hSw); go_simp; try with_reducible rfl)
      simp only [Act.put, List.setIfInBounds_toArray, List.set_cons_zero, List.set_cons_succ]
      refine AnyN.take (i := 2) (oi := { dst := some 20, op := Op.fieldAddr 48 (Operand.tmp 5) 0, type := 0, pos := "law.go:77", after := #[], guard := none }) (v := ?_) rfl (by kernel_rfl) (by kernel_rfl) (by kernel_rfl) (by kernel_rfl) (fun _ _ _ h => h) (Or.inl ⟨by rfl, ?_⟩) (by assumption) ?_
      rotate_left
      · (intro w' hSw; (try dsimp only at hSw); go_simp; try with_reducible rfl)
      simp only [Act.put, List.setIfInBounds_toArray, List.set_cons_zero, List.set_cons_succ]
      refine AnyN.take (i := 3) (oi := { dst := some 21, op := Op.load 9 (Operand.tmp 20), type := 9, pos := "law.go:77", after := #[{ on := 2, ground := Ground.data }], guard := none }) (v := ?_) rfl (by kernel_rfl) (by kernel_rfl) (by kernel_rfl) (by kernel_rfl) (fun _ _ _ h => h) (Or.inl ⟨by rfl, ?_⟩) (by assumption) ?_
      rotate_left
      · (intro w' hSw; (try dsimp only at hSw); go_simp; try with_reducible rfl)
      simp only [Act.put, List.setIfInBounds_toArray, List.set_cons_zero, List.set_cons_succ]
      refine AnyN.take (i := 4) (oi := { dst := some 22, op := Op.fieldAddr 48 (Operand.tmp 5) 1, type := 0, pos := "law.go:77", after := #[], guard := none }) (v := ?_) rfl (by kernel_rfl) (by kernel_rfl) (by kernel_rfl) (by kernel_rfl) (fun _ _ _ h => h) (Or.inl ⟨by rfl, ?_⟩) (by assumption) ?_
      rotate_left
      · (intro w' hSw; (try dsimp only at hSw); go_simp; try with_reducible rfl)
      simp only [Act.put, List.setIfInBounds_toArray, List.set_cons_zero, List.set_cons_succ]
      refine AnyN.take (i := 5) (oi := { dst := some 23, op := Op.load 42 (Operand.tmp 22), type := 42, pos := "law.go:77", after := #[{ on := 4, ground := Ground.data }], guard := none }) (v := ?_) rfl (by kernel_rfl) (by kernel_rfl) (by kernel_rfl) (by kernel_rfl) (fun _ _ _ h => h) (Or.inl ⟨by rfl, ?_⟩) (by assumption) ?_
      rotate_left
      · (intro w' hSw; (try dsimp only at hSw); go_simp; try with_reducible rfl)
      simp only [Act.put, List.setIfInBounds_toArray, List.set_cons_zero, List.set_cons_succ]
      refine AnyN.take (i := 7) (oi := { dst := some 25, op := Op.fieldAddr 48 (Operand.tmp 5) 2, type := 0, pos := "law.go:77", after := #[], guard := none }) (v := ?_) rfl (by kernel_rfl) (by kernel_rfl) (by kernel_rfl) (by kernel_rfl) (fun _ _ _ h => h) (Or.inl ⟨by rfl, ?_⟩) (by assumption) ?_
      rotate_left
      · (intro w' hSw; (try dsimp only at hSw); go_simp; try with_reducible rfl)
      simp only [Act.put, List.setIfInBounds_toArray, List.set_cons_zero, List.set_cons_succ]
      refine AnyN.take (i := 8) (oi := { dst := some 26, op := Op.load 4 (Operand.tmp 25), type := 4, pos := "law.go:77", after := #[{ on := 7, ground := Ground.data }], guard := none }) (v := ?_) rfl (by kernel_rfl) (by kernel_rfl) (by kernel_rfl) (by kernel_rfl) (fun _ _ _ h => h) (Or.inl ⟨by rfl, ?_⟩) (by assumption) ?_
      rotate_left
      · (intro w' hSw; (try dsimp only at hSw); go_simp; try with_reducible rfl)
      simp only [Act.put, List.setIfInBounds_toArray, List.set_cons_zero, List.set_cons_succ]
      refine AnyN.take (i := 9) (oi := { dst := some 27, op := Op.fieldAddr 48 (Operand.tmp 5) 3, type := 0, pos := "law.go:77", after := #[], guard := none }) (v := ?_) rfl (by kernel_rfl) (by kernel_rfl) (by kernel_rfl) (by kernel_rfl) (fun _ _ _ h => h) (Or.inl ⟨by rfl, ?_⟩) (by assumption) ?_
      rotate_left
      · (intro w' hSw; (try dsimp only at hSw); go_simp; try with_reducible rfl)
      simp only [Act.put, List.setIfInBounds_toArray, List.set_cons_zero, List.set_cons_succ]
      refine AnyN.take (i := 10) (oi := { dst := some 28, op := Op.load 46 (Operand.tmp 27), type := 46, pos := "law.go:77", after := #[{ on := 9, ground := Ground.data }], guard := none }) (v := ?_) rfl (by kernel_rfl) (by kernel_rfl) (by kernel_rfl) (by kernel_rfl) (fun _ _ _ h => h) (Or.inl ⟨by rfl, ?_⟩) (by assumption) ?_
      rotate_left
      · (intro w' hSw; (try dsimp only at hSw); go_simp; try with_reducible rfl)
      simp only [Act.put, List.setIfInBounds_toArray, List.set_cons_zero, List.set_cons_succ]
      refine AnyN.ready (rs := [6]) (by kernel_rfl) (by simp) (AllN.cons (o := { dst := some 24, op := Op.call { callee := Callee.value (Operand.func 18), args := #[Operand.tmp 23], argTypes := #[42] }, type := 42, pos := "law.go:77", after := #[{ on := 5, ground := Ground.data }], guard := none }) rfl (fun K hK => ?_) AllN.nil)
      refine step_call1 (.tmp 23) 42 (by rfl) (by rfl) (by rfl) Try.func18 (by kernel_rfl) (by rfl) (HKd.out _ HBwa.out.drew) ?_
      intro e w2 hf
      obtain ⟨u', rfl, hv, hb2⟩ := freshT_from (w := wa) hf (by rfl) (by rfl) (by rfl) (by rfl)
      obtain ⟨k', p', n', c', rfl⟩ := hv.shape
      refine ⟨_, rfl, ?_⟩
      unfold cells2 at hv ⊢
      obtain ⟨x0, x1, x2, x3, x4, x5, x6, x7, x8⟩ := HXa.out.on hb2
      have z2 := cell_on hb2 c2a
      have HV := Lib.hid hv
      have HB2 := Lib.hid hb2
      have HBw2 := Lib.hid (HBwa.out.trans (hb2.mono HBwa.out.size))
      clear hv hb2 hf
      refine hK.out _ _ (fun _ => ⟨x0, x1, x2, x3, x4, x5, x6, x7, x8, z2⟩) (fun hHeld => ?_)
      clear hK K
      simp only [Act.put, List.setIfInBounds_toArray, List.set_cons_zero, List.set_cons_succ]
      refine AnyN.ready (rs := [11]) (by kernel_rfl) (by simp) (AllN.cons (o := { dst := some 29, op := Op.call { callee := Callee.value (Operand.func 19), args := #[Operand.tmp 28], argTypes := #[46] }, type := 46, pos := "law.go:77", after := #[{ on := 10, ground := Ground.data }, { on := 6, ground := Ground.chain }], guard := none }) rfl (fun K hK => ?_) AllN.nil)
      refine step_call1 (.tmp 28) 46 (by rfl) (by rfl) (by rfl) Try.func19 (by kernel_rfl) (by rfl) (HVl.out _ HBw2.out) ?_
      intro e w3 hf
      obtain ⟨u'', rfl, hv2, hb3⟩ := hf
      obtain ⟨k2, i2, b2, t2, p2, n2, c2', rfl⟩ := hv2.shape
      refine ⟨_, rfl, ?_⟩
      unfold cells5 at hv2 ⊢
      obtain ⟨v0, v1, v2, v3, v4, v5, v6, v7, v8⟩ := (HXa.out.on HB2.out).on hb3
      have z3 := cell_on hb3 z2
      have z4 : ∀ o, (w3.alloc o).cell? ⟨w.heap.size + 1 + 1, 0, none⟩ = some (.slice q j d) := fun o => cell_on (hb3.alloc hb3.size o) z2
      have HV2 := Lib.hid hv2
      have HB3 := Lib.hid hb3
      have hsz3 : w.heap.size + 3 ≤ w3.heap.size := Nat.le_trans HM.out.size (Nat.le_trans (by omega) (Nat.le_trans HB2.out.size hb3.size))
      have HB4 : Hid (Below w3.heap.size w3 (w3.alloc (.cells #[.string nx, .int .i64 k', .slice p' n' c', .bool hx, .int .i64 k2, .int .i64 i2, .float .f64 b2, .string t2, .slice p2 n2 c2'] 48))) := (Below.refl _ _).alloc (Nat.le_refl _) _
      have HBr3 : Hid (Below wr.heap.size wr w3) := (HBa.out.trans (HB2.out.mono HBa.out.size)).trans (hb3.mono (by have := HB2.out.size; omega))
      have HOw : Hid (COwn w3 (fun k => wa.heap.size ≤ k ∧ k < w3.heap.size) #[.string nx, .int .i64 k', .slice p' n' c', .bool hx, .int .i64 k2, .int .i64 i2, .float .f64 b2, .string t2, .slice p2 n2 c2'] s[j]) := by
        show COwn _ _ _ _
        have hs2 := HB2.out.size
        have hs3 := hb3.size
        rw [HCj.out]
        exact ⟨fun k => wa.heap.size ≤ k ∧ k < w2.heap.size, fun k => w2.heap.size ≤ k ∧ k < w3.heap.size, k', p', n', c', k2, i2, b2, t2, p2, n2, c2', rfl, HV.out.under hb3 (fun k hk => hk.2), hv2, fun k hk => ⟨hk.1, by omega⟩, fun k hk => ⟨by omega, hk.2⟩, fun k hk hc => by omega⟩
      clear hv2 hb3
      refine hK.out _ _ (fun _ => ⟨v0, v1, v2, v3, v4, v5, v6, v7, v8, z3⟩) (fun hHeld => ?_)
      clear hK K
      simp only [Act.put, List.setIfInBounds_toArray, List.set_cons_zero, List.set_cons_succ]
      refine AnyN.ready (rs := [12]) (by kernel_rfl) (by simp) (AllN.cons (o := { dst := some 30, op := Op.build 48 #[(0, Operand.tmp 21), (1, Operand.tmp 24), (2, Operand.tmp 26), (3, Operand.tmp 29)], type := 48, pos := "law.go:77", after := #[{ on := 3, ground := Ground.data }, { on := 6, ground := Ground.data }, { on := 8, ground := Ground.data }, { on := 11, ground := Ground.data }], guard := none }) rfl (fun K hK => ?_) AllN.nil)
      go_simp
      refine hK.out _ _ (fun _ => ⟨v0, v1, v2, v3, v4, v5, v6, v7, v8, z3⟩) (fun hHeld => ?_)
      clear hK K
      have y0 := cell_on HB4.out v0
      have y1 := cell_on HB4.out v1
      have y2 := cell_on HB4.out v2
      have y3 := cell_on HB4.out v3
      have y4 := cell_on HB4.out v4
      have y5 := cell_on HB4.out v5
      have y6 := cell_on HB4.out v6
      have y7 := cell_on HB4.out v7
      have y8 := cell_on HB4.out v8
      refine AnyN.ready (rs := [13]) (by kernel_rfl) (by simp) (AllN.cons (o := { dst := some 31, op := Op.buildSlice 22 1 #[(0, Operand.tmp 30)], type := 22, pos := "law.go:77", after := #[{ on := 12, ground := Ground.data }], guard := none }) rfl (fun K hK => ?_) AllN.nil)
      go_simp
      refine hK.out _ _ (fun _ => ⟨y0, y1, y2, y3, y4, y5, y6, y7, y8, z4 _⟩) (fun hHeld => ?_)
      clear hK K
      refine AnyN.ready (rs := [14]) (by kernel_rfl) (by simp) (AllN.cons (o := { dst := some 32, op := Op.call { callee := Callee.builtin Builtin.append, args := #[Operand.tmp 19, Operand.tmp 31], argTypes := #[22, 22] }, type := 22, pos := "law.go:77", after := #[{ on := 1, ground := Ground.data }, { on := 13, ground := Ground.data }, { on := 11, ground := Ground.chain }], guard := none }) rfl (fun K hK => ?_) AllN.nil)
      refine step_moreC (B := w.heap.size + 3) (us := us) (v := .slice q j d) (n := j) (by exact ((HBt.out.on HBr3.out).on HB4.out).row) (u := #[.string nx, .int .i64 k', .slice p' n' c', .bool hx, .int .i64 k2, .int .i64 i2, .float .f64 b2, .string t2, .slice p2 n2 c2']) rfl HOw.out.one9 (ad := w3.heap.size) (by exact blk_new w3 _) (by omega) (by simp; omega) (H := w3.heap.size + 1) (by simp) (.tmp 19) (.tmp 31) (by rfl) (by rfl) (by rfl) (by rfl) ?_
      intro g2 cap2 w4 hr4 hg4 hn4
      obtain ⟨hold, hmk⟩ := HM.out.next (w3 := w3.alloc (.cells #[.string nx, .int .i64 k', .slice p' n' c', .bool hx, .int .i64 k2, .int .i64 i2, .float .f64 b2, .string t2, .slice p2 n2 c2'] 48)) HBt.out hlt HBr3.out HOw.out (fun k hk => ⟨by omega, hk.2⟩) HB4.out hr4 (by exact ⟨hg4.os, hg4.tape, hg4.output, hg4.size, hg4.block⟩) (by simpa using hn4)
      have f4 : w4.frozen? ⟨w.heap.size + 1 + 1, 0, none⟩ = false := blk_free ((hold 2 (by omega)).trans HM.out.b2) 0
      have g4 : w4.cell? ⟨w.heap.size + 1 + 1, 0, none⟩ = some (.slice q j d) := blk_cell ((hold 2 (by omega)).trans HM.out.b2) 0
      have HMK := Lib.hid hmk
      have hne : some wr.heap.size ≠ (Value.slice q j d).ownBlock := fun hc => by have := (HBt.out.lt _ hc.symm).2; omega
      have t0 := hg4.cell y0 hne
      have t1 := hg4.cell y1 hne
      have t2 := hg4.cell y2 hne
      have t3 := hg4.cell y3 hne
      have t4 := hg4.cell y4 hne
      have t5 := hg4.cell y5 hne
      have t6 := hg4.cell y6 hne
      have t7 := hg4.cell y7 hne
      have t8 := hg4.cell y8 hne
      clear hold hmk hr4 hg4 hn4 hne
      refine hK.out _ _ (fun _ => ⟨t0, t1, t2, t3, t4, t5, t6, t7, t8, g4⟩) (fun hHeld => ?_)
      clear hK K
      simp only [Act.put, List.setIfInBounds_toArray, List.set_cons_zero, List.set_cons_succ]
      refine AnyN.ready (rs := [15]) (by kernel_rfl) (by simp) (AllN.cons (o := { dst := some 33, op := Op.fieldAddr 24 (Operand.tmp 3) 0, type := 0, pos := "law.go:77", after := #[{ on := 0, ground := Ground.phase }, { on := 1, ground := Ground.phase }, { on := 2, ground := Ground.phase }, { on := 3, ground := Ground.phase }, { on := 4, ground := Ground.phase }, { on := 5, ground := Ground.phase }, { on := 6, ground := Ground.phase }, { on := 7, ground := Ground.phase }, { on := 8, ground := Ground.phase }, { on := 9, ground := Ground.phase }, { on := 10, ground := Ground.phase }, { on := 11, ground := Ground.phase }, { on := 12, ground := Ground.phase }, { on := 13, ground := Ground.phase }, { on := 14, ground := Ground.phase }], guard := none }) rfl (fun K hK => ?_) AllN.nil)
      go_simp
      refine hK.out _ _ (fun _ => ⟨t0, t1, t2, t3, t4, t5, t6, t7, t8, g4⟩) (fun hHeld => ?_)
      clear hK K
      refine AnyN.ready (rs := [16]) (by kernel_rfl) (by simp) (AllN.cons (o := { dst := none, op := Op.store 22 (Operand.tmp 33) (Operand.tmp 32), type := 0, pos := "law.go:77", after := #[{ on := 15, ground := Ground.data }, { on := 14, ground := Ground.data }, { on := 14, ground := Ground.chain }, { on := 0, ground := Ground.phase }, { on := 1, ground := Ground.phase }, { on := 2, ground := Ground.phase }, { on := 3, ground := Ground.phase }, { on := 4, ground := Ground.phase }, { on := 5, ground := Ground.phase }, { on := 6, ground := Ground.phase }, { on := 7, ground := Ground.phase }, { on := 8, ground := Ground.phase }, { on := 9, ground := Ground.phase }, { on := 10, ground := Ground.phase }, { on := 11, ground := Ground.phase }, { on := 12, ground := Ground.phase }, { on := 13, ground := Ground.phase }, { on := 14, ground := Ground.phase }], guard := none }) rfl (fun K hK => ?_) AllN.nil)
      go_simp
      refine hK.out _ _ (fun h => absurd rfl h) (fun _ => ?_)
      clear hK K
      refine AnyN.done (by kernel_rfl) ?_
      go_wp2
      go_roundw
      case rel => exact ⟨j + 1, _, _, by omega, by go_num, HMK⟩
      case measure => simp [intOf]; omega
    · have hjn : ¬ (j : Int) < (s.length : Int) := by omega
      have hjj : j = s.length := by omega
      have r0 : wr.cell? ⟨w.heap.size + 1, 0, none⟩ = some (.slice none 0 0) := blk_cell HM.out.b1 0
      have s0 := blk_free HM.out.b1 0
      have HZf : Hid ((wr.setCell ⟨w.heap.size + 1, 0, none⟩ (.slice q s.length d)).heap[w.heap.size + 1]? = some (.cells #[.slice q s.length d] 24 (0, 0))) := by
        show _ = _
        exact blk_set HM.out.b1 0 _
      have HBf : Hid (Below w.heap.size w (wr.setCell ⟨w.heap.size + 1, 0, none⟩ (.slice q s.length d))) := HM.out.below.setCell (by show _ ≤ w.heap.size + 1; omega) _
      have HOf : Hid (SOwn (wr.setCell ⟨w.heap.size + 1, 0, none⟩ (.slice q s.length d)) w.heap.size #[.slice q s.length d] s) := by
        obtain ⟨us, Fs, hbt⟩ := HM.out.built
        rw [hjj, List.take_length] at hbt
        exact ⟨_, us, Fs, rfl, (hbt.set ⟨w.heap.size + 1, 0, none⟩ _ (by show w.heap.size + 1 < _; omega)).low (by omega), hl⟩
      subst hjj
      go_wp2
      refine bodyPost_ret (v := .agg #[.slice q s.length d]) (results_cell_row rfl _ _ (w.heap.size + 1) _ _ _ _ rfl HZf.out Try.underlying24 rfl (by kernel_rfl)) rfl ?_
      exact ⟨_, rfl, HOf.out, HBf.out⟩
end Go.Proofs.Ytnjggejallnkoab
