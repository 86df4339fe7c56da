/- K11F: put together. -/
import Derived.Test.YtpkbdnilakaakaaGreatM48
import Derived.Test.YtpkbdnilakaakaaGreatM46

/- The landed batch: rows that are read one behind the other, by a function; rows in memory of one's own. -/
namespace Go.Proofs.YtpkbdnilakaakaaGreat
open Go.RowKit Go.Shelf

attribute [local go_sem] run_store_float Oper.semAt_some

theorem infoRow : (Tryz.prog.info? 41).map (fun i => (i.zero, i.size, i.bytes)) = some (some (.agg #[.slice none 0 0]), 1, 24) := by kernel_rfl

/-- a row in blocks of one's own -/
def ROwn (w : World) (F : Nat → Prop) (q : Option Addr) (d : Nat) (vs : List V) : Prop := VOwn w F (cells5 0 0 0 ⟨#[]⟩ q vs.length d) (.mk 0 0 0 ⟨#[]⟩ vs)
/-- rows in memory of one's own, from the block B on -/
structure RowsB (w : World) (B : Nat) (v : Value) (ys : List (List V)) : Prop where
  out : ∃ us : List Value, w.ownsRow B 41 1 v ys.length us ∧ ∀ j (hj : j < ys.length), ∃ q d, us[j]? = some (.slice q ys[j].length d) ∧ ROwn w (fun k => B ≤ k ∧ k < w.heap.size ∧ v.ownBlock ≠ some k) q d ys[j]
theorem rowsB_nil (w : World) (B : Nat) : RowsB w B (.slice none 0 0) [] := ⟨[], ⟨rfl, .inl ⟨rfl, rfl⟩⟩, fun j hj => by simp at hj⟩
section
variable {w w' : World} {B : Nat} {v : Value} {ys : List (List V)}
theorem RowsB.lt (h : RowsB w B v ys) : ∀ k, v.ownBlock = some k → B ≤ k ∧ k < w.heap.size := by
  obtain ⟨us, h1, _⟩ := h.out
  exact World.ownsRow.lt h1
theorem RowsB.aside {G : Nat → Prop} (h : RowsB w B v ys) (ha : Aside G w w') (hG : ∀ k, B ≤ k → k < w.heap.size → ¬ G k) : RowsB w' B v ys := by
  have hlt := h.lt
  obtain ⟨us, h1, h2⟩ := h.out
  have hs := ha.size
  refine ⟨us, ⟨h1.1, ?_⟩, fun j hj => ?_⟩
  · rcases h1.2 with h3 | ⟨g, cap, cur, rfl, h4, h5, h6⟩
    · exact .inl h3
    · exact .inr ⟨g, cap, cur, rfl, h4, by rw [ha.block g (Array.getElem?_eq_some_iff.1 h5).1 (hG g h4 (Array.getElem?_eq_some_iff.1 h5).1)]; exact h5, h6⟩
  · obtain ⟨q, d, e1, e2⟩ := h2 j hj
    exact ⟨q, d, e1, (VOwn.aside e2 ha (fun k hk => hG k hk.1 hk.2.1)).mono (fun k hk => ⟨hk.1, by omega, hk.2.2⟩)⟩
theorem RowsB.on (h : RowsB w B v ys) (hb : Below w.heap.size w w') : RowsB w' B v ys := h.aside (aside_new hb (fun _ => False)) (fun _ _ _ hc => hc)
theorem RowsB.lower {B' : Nat} (h : RowsB w B v ys) (hB : B' ≤ B) : RowsB w B' v ys := by
  obtain ⟨us, h1, h2⟩ := h.out
  refine ⟨us, ⟨h1.1, ?_⟩, fun j hj => ?_⟩
  · rcases h1.2 with h3 | ⟨g, cap, cur, rfl, h4, h5, h6⟩
    · exact .inl h3
    · exact .inr ⟨g, cap, cur, rfl, by omega, h5, h6⟩
  · obtain ⟨q, d, e1, e2⟩ := h2 j hj
    exact ⟨q, d, e1, VOwn.mono e2 (fun k hk => ⟨by omega, hk.2⟩)⟩
theorem RowsB.form (h : RowsB w B v ys) : ∃ q c, v = .slice q ys.length c ∧ ys.length ≤ c := by
  obtain ⟨us, h1, h2⟩ := h.out
  rcases h1.2 with ⟨rfl, h3⟩ | ⟨g, cap, cur, rfl, _, _, h4, _⟩
  · exact ⟨none, 0, by rw [h3], by omega⟩
  · exact ⟨_, _, rfl, h4⟩
/-- they are rows that may be handed over -/
theorem RowsB.rows {q : Option Addr} {c : Nat} (h : RowsB w B (.slice q ys.length c) ys) (hl : ys.length * 24 ≤ 140737488351232) (hw : ∀ y ∈ ys, ∀ x ∈ y, x.wf) : RowsL w q c ys := by
  obtain ⟨us, h1, h2⟩ := h.out
  rcases h1.2 with ⟨he, h3⟩ | ⟨g, cap, cur, he, h4, h5, h6, h7, h8, h9⟩
  · injection he with e1 _ e2
    exact ⟨hl, by omega, fun j hj => by omega⟩
  · injection he with e1 _ e2
    subst e1 e2
    refine ⟨hl, h6, fun j hj => ?_⟩
    obtain ⟨qj, dj, e3, e4⟩ := h2 j hj
    refine ⟨g, 0, qj, dj, rfl, (Array.getElem?_eq_some_iff.1 h5).1, ?_, VOwn.lies e4, hw _ (List.getElem_mem hj)⟩
    rw [blk_cell h5]
    rw [← h9, List.getElem?_take] at e3
    simp only [Nat.mul_one] at e3
    rw [if_pos hj] at e3
    simpa using e3
end
/-- one row more -/
theorem rows_run {w : World} {B : Nat} {v : Value} {ys : List (List V)} (h : RowsB w B v ys) (hB : B ≤ w.heap.size) (y : List V) (q : Option Addr) (d ad : Nat) (hblk : w.heap[ad]? = some (.cells #[.slice q y.length d] 41 (0, 0))) (hn : ys.length ≤ 1000000)
    (hy : ROwn w (fun k => B ≤ k ∧ k < w.heap.size ∧ v.ownBlock ≠ some k) q d y) :
    ∃ g cap W, AppRun Tryz.prog 25 25 25 v (.slice (some ⟨ad, 0, none⟩) 1 1) w (.slice (some ⟨g, 0, none⟩) (ys ++ [y]).length cap) W ∧ RowsB W B (.slice (some ⟨g, 0, none⟩) (ys ++ [y]).length cap) (ys ++ [y]) ∧ Aside (fun k => v.ownBlock = some k) w W := by
  obtain ⟨i, hi, hz, hsz, hby⟩ := info_parts infoRow
  obtain ⟨us, h1, h2⟩ := h.out
  have hul : us.length = ys.length := by rw [h1.1]; omega
  obtain ⟨g, cap, W, hr, ho, hg, hor, hlt⟩ := run_append_lies (P := Tryz.prog) w 25 25 B 41 i (.agg #[.slice none 0 0]) 1 24 Tryz.underlying25 hi hz hsz hby rfl (by decide) v ys.length us h1 ⟨ad, 0, none⟩ 1 1 [.slice q y.length d] rfl (World.news_of_block hblk) (by simp [Value.oneCell']) (by decide) (by unfold maxLen; omega) (by omega) hB w.heap.size rfl
  have hlen : (ys ++ [y]).length = ys.length + 1 := by simp
  have hag := aside_grew hg
  have hsW := hag.size
  have hgn : ∀ k, k < w.heap.size → v.ownBlock ≠ some k → g ≠ k := fun k hk hv hc => by
    subst hc
    rcases hor with h3 | h3
    · exact hv h3
    · omega
  refine ⟨g, cap, W, ⟨by rw [hlen]; exact hr⟩, ⟨us ++ [.slice q y.length d], by rw [hlen]; exact ho, fun j hj => ?_⟩, hag⟩
  have keep : ∀ {q' : Option Addr} {d' : Nat} {z : List V}, ROwn w (fun k => B ≤ k ∧ k < w.heap.size ∧ v.ownBlock ≠ some k) q' d' z → ROwn W (fun k => B ≤ k ∧ k < W.heap.size ∧ (Value.slice (some ⟨g, 0, none⟩) (ys ++ [y]).length cap).ownBlock ≠ some k) q' d' z := fun hz =>
    (VOwn.aside hz hag (fun k hk hc => hk.2.2 hc)).mono (fun k hk => ⟨hk.1, by omega, fun hc => by
      simp only [Value.ownBlock, Option.some.injEq] at hc
      exact hgn k hk.2.1 hk.2.2 hc⟩)
  by_cases hje : j < ys.length
  · obtain ⟨q', d', e1, e2⟩ := h2 j hje
    refine ⟨q', d', ?_, ?_⟩
    · rw [List.getElem?_append_left (by omega), e1, List.getElem_append_left hje]
    · rw [List.getElem_append_left hje]
      exact keep e2
  · have hj2 : j = ys.length := by rw [hlen] at hj; omega
    subst hj2
    refine ⟨q, d, ?_, ?_⟩
    · rw [List.getElem?_append_right (by omega), hul]
      simp
    · simp only [List.getElem_append_right (Nat.le_refl _), Nat.sub_self, List.getElem_cons_zero]
      exact keep hy

/-- how a reading of rows ends -/
def WholeEnd (J : List (List V) → World → Prop) (X : Nat → World → Prop) (W : World) : Except Nat (List (List V)) → Prop
  | .ok l => J l W
  | .error er => X er W

set_option maxRecDepth 100000 in
set_option maxHeartbeats 2000000 in
theorem decoded1K (HR : RowsIn) (s : List Col) (p : Option Addr) (c : Nat) (b : List UInt8) (q : Option Addr) (d : Nat) (n : Nat) (hb : b.length ≤ 2048) (hn : n ≤ 64) (hbd : b.length ≤ d) (sb bb nb : Nat)
    (L : Nat) (J : List (List V) → World → Prop) (X : Nat → World → Prop) (W : World) (hJb : ∀ ys W, J ys W → SchL W p c s ∧ At W q b ∧ W.heap[sb]? = some (.cells #[.slice p s.length c] 24 (0, 0)) ∧ W.heap[bb]? = some (.cells #[.slice q b.length d] 29 (0, 0)) ∧ W.heap[nb]? = some (.cells #[.int .i64 n] 3 (0, 0))) (hJn : ∀ ys W W', J ys W → Below W.heap.size W W' → J ys W') (h0 : J [] W)
    (good : ∀ m ys y W1 W2 qq dd, ys.length < n → J ys W1 → Below W1.heap.size W1 W2 → ROwn W2 (fun k => W1.heap.size ≤ k ∧ k < W2.heap.size) qq dd y → YieldAt Fence.wide m Tryz.prog L #[.agg #[.slice qq y.length dd], .int .i64 0] W2 fun e W' => ∃ b, e = .returned (.bool b) ∧ b = true ∧ J (ys ++ [y]) W')
    (bad : ∀ m ys W (er : Nat), J ys W → er ≠ 0 → YieldAt Fence.wide m Tryz.prog L #[.agg #[.slice none 0 0], .int .i64 er] W fun e W' => ∃ b, e = .returned (.bool b) ∧ b = false ∧ X er W') :
    Calls Tryz.prog 46 #[.func (.yield L) #[] #[], .pointer (some ⟨nb, 0, none⟩), .pointer (some ⟨sb, 0, none⟩), .pointer (some ⟨bb, 0, none⟩)] W fun e W' => (∃ v, e = .returned v) ∧ WholeEnd J X W' (Bt.whole s b n) := by
  have n0 := boxed_cell (hJb [] W h0).2.2.2.2
  have HJb := Lib.hid hJb
  have HJn := Lib.hid hJn
  have H0 := Lib.hid h0
  have HG := Lib.hid good
  have HBd := Lib.hid bad
  have HRI := Lib.hid HR
  clear hJb hJn h0 good bad HR
  refine (callsIn_wide (n := 3)).1 ?_
  refine callsIn_of_wp Tryz.func46 rfl trivial ?_ rfl
  simp only [Tryz.ntmps46, List.size_toArray, List.length_cons, List.length_nil, Nat.reduceAdd, Nat.reduceSub, Array.replicate_succ, Array.replicate_zero, List.push_toArray, List.append_toArray, List.nil_append, List.cons_append]
  gi_wp2
  gi_loopw [5, 10] (fun v5 v10 wr => ∃ (i a : Nat) (ys : List (List V)), i ≤ n ∧ v10 = .int .i64 i ∧ v5 = .int .i64 a ∧ a ≤ b.length ∧ Hid (Bt.rows s b i 0 = .ok (ys, a) ∧ ys.length = i ∧ J ys wr)) (fun _ v10 _ => n - (intOf v10).toNat)
  case atStart => exact ⟨0, 0, [], by omega, rfl, rfl, by omega, rfl, rfl, H0.out⟩
  case round =>
    clear n0
    obtain ⟨i, a, ys, hi, rfl, rfl, ha, HK⟩ := hrel
    obtain ⟨hS0, hA0, hsb0, hbb0, -⟩ := HJb.out ys wr HK.out.2.2
    by_cases hlt : i < n
    · have hlt' : (i : Int) < (n : Int) := by omega
      have n1 := boxed_cell hsb0
      have n2 := boxed_cell hbb0
      have hD := HRI.out.decode s p c b q d a wr hS0 (by omega) hbd hA0 (by omega) (by omega)
      have hsn := Bt.rows_snoc i 0 ys a HK.out.1
      cases hrd : Rw.read s b a with
      | error er =>
        rw [hrd] at hD hsn
        have hne := Rw.read_err hrd
        have HW : Hid (Bt.whole s b n = .error er) := by
          show _ = _
          have := Bt.rows_stop (i + 1) 0 er (n - (i + 1)) hsn
          rw [show i + 1 + (n - (i + 1)) = n by omega] at this
          unfold Bt.whole
          rw [this]
        have HD := Lib.hid hD
        clear hD hsn hS0 hA0 hsb0 hbb0 hrd
        gi_wp2
        refine ⟨trivial, ?_⟩
        refine (callsIn_wide.2 HD.out).mono ?_
        rintro e w1 ⟨rfl, hb1⟩
        have g1 : ((er : Int) != 0) = true := bne_t (by omega)
        obtain ⟨w2, hw2⟩ : ∃ w2, w2 = w1.alloc (.cells #[.slice none 0 0] 41) := ⟨_, rfl⟩
        have hb2 : Below wr.heap.size wr w2 := by rw [hw2]; exact hb1.alloc hb1.size _
        obtain ⟨fn, tmps, assign, body, hy, hR1⟩ := HBd.out 2 ys w2 er (HJn.out ys wr w2 HK.out.2.2 hb2) hne
        rw [hw2] at hy hR1
        clear hb1 hb2 hw2 HD
        gi_wp2
        refine hR1.mono ?_
        rintro e w3 ⟨bb, rfl, rfl, hX3⟩
        have HX3 := Lib.hid hX3
        clear hX3
        gi_wp2
        refine bodyPost_ret (results_none rfl _ _ _) rfl ?_
        refine ⟨⟨_, rfl⟩, ?_⟩
        rw [HW.out]
        exact HX3.out
      | ok pr =>
        obtain ⟨y, k⟩ := pr
        rw [hrd] at hD hsn
        have hk := (Rw.read_ok hrd).2.2.2.1
        have HD := Lib.hid hD
        have HSn := Lib.hid hsn
        clear hD hsn hS0 hA0 hsb0 hbb0 hrd
        gi_wp2
        refine ⟨trivial, ?_⟩
        refine (callsIn_wide.2 HD.out).mono ?_
        rintro e w1 ⟨qq, dd, rfl, hown, hb1⟩
        obtain ⟨w2, hw2⟩ : ∃ w2, w2 = w1.alloc (.cells #[.slice qq y.length dd] 41) := ⟨_, rfl⟩
        have hb2 : Below wr.heap.size wr w2 := by rw [hw2]; exact hb1.alloc hb1.size _
        have hs2 : w2.heap.size = w1.heap.size + 1 := by rw [hw2]; simp
        have hb12 : Below w1.heap.size w1 w2 := by rw [hw2]; exact (Below.refl _ _).alloc (Nat.le_refl _) _
        obtain ⟨fn, tmps, assign, body, hy, hR1⟩ := HG.out 2 ys y wr w2 qq dd (by rw [HK.out.2.1]; exact hlt) HK.out.2.2 hb2 ((hown.under hb12 (fun k hk => hk.2)).mono (fun k hk => ⟨hk.1, by omega⟩))
        rw [hw2] at hy hR1
        clear hb1 hb2 hw2 hs2 hb12 HD hown
        gi_wp2
        refine hR1.mono ?_
        rintro e w3 ⟨bb, rfl, rfl, hJ3⟩
        have HJ3 := Lib.hid hJ3
        clear hJ3
        gi_wp2
        go_roundw
        case rel =>
          refine ⟨i + 1, k, ys ++ [y], by omega, by go_num, rfl, hk, HSn.out, by simp [HK.out.2.1], HJ3.out⟩
        case measure => simp [intOf]; omega
    · have hie : i = n := by omega
      subst hie
      have n2 := boxed_cell hbb0
      by_cases hend : a < b.length
      · have hend' : (a : Int) < (b.length : Int) := by omega
        have HW : Hid (Bt.whole s b i = .error 5) := by
          show _ = _
          unfold Bt.whole
          rw [HK.out.1]
          exact if_pos hend
        obtain ⟨fn, tmps, assign, body, hy, hR1⟩ := HBd.out 2 ys wr 5 HK.out.2.2 (by decide)
        simp only [Int.cast_ofNat_Int] at hy
        clear hS0 hA0 hsb0 hbb0
        gi_wp2
        refine hR1.mono ?_
        rintro e w3 ⟨bb, rfl, rfl, hX3⟩
        have HX3 := Lib.hid hX3
        clear hX3
        gi_wp2
        go_end0
        refine ⟨⟨_, rfl⟩, ?_⟩
        rw [HW.out]
        exact HX3.out
      · have HW : Hid (Bt.whole s b i = .ok ys) := by
          show _ = _
          unfold Bt.whole
          rw [HK.out.1]
          exact if_neg hend
        have hend' : ¬ (a : Int) < (b.length : Int) := by omega
        clear hS0 hA0 hsb0 hbb0
        gi_wp2
        go_end0
        refine ⟨⟨_, rfl⟩, ?_⟩
        rw [HW.out]
        exact HK.out.2.2
end Go.Proofs.YtpkbdnilakaakaaGreat
