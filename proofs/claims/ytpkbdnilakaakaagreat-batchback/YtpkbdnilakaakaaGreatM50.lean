/- K11F, K11G, W11A, W11B, W11C, L11A: put together. -/
import Derived.Test.YtpkbdnilakaakaaGreatM47
import Derived.Test.YtpkbdnilakaakaaGreatM46
import Derived.Test.YtpkbdnilakaakaaGreatM42
import Derived.Test.YtpkbdnilakaakaaGreatM04
import Derived.Deep.RegionHeld3

/- The landed batch: rows that are read one behind the other, by a function; rows in memory of one's own. -/
namespace Go.Proofs.YtpkbdnilakaakaaGreat
open Go.RowKit Go.Shelf

attribute [local go_sem] run_store_float Oper.semAt_some

theorem infoRow : (Tryz.prog.info? 41).map (fun i => (i.zero, i.size, i.bytes)) = some (some (.agg #[.slice none 0 0]), 1, 24) := by kernel_rfl

/-- a row in blocks of one's own -/
def ROwn (w : World) (F : Nat → Prop) (q : Option Addr) (d : Nat) (vs : List V) : Prop := VOwn w F (cells5 0 0 0 ⟨#[]⟩ q vs.length d) (.mk 0 0 0 ⟨#[]⟩ vs)
/-- rows in memory of one's own, from the block B on -/
structure RowsB (w : World) (B : Nat) (v : Value) (ys : List (List V)) : Prop where
  out : ∃ us : List Value, w.ownsRow B 41 1 v ys.length us ∧ ∀ j (hj : j < ys.length), ∃ q d, us[j]? = some (.slice q ys[j].length d) ∧ ROwn w (fun k => B ≤ k ∧ k < w.heap.size ∧ v.ownBlock ≠ some k) q d ys[j]
theorem rowsB_nil (w : World) (B : Nat) : RowsB w B (.slice none 0 0) [] := ⟨[], ⟨rfl, .inl ⟨rfl, rfl⟩⟩, fun j hj => by simp at hj⟩
section
variable {w w' : World} {B : Nat} {v : Value} {ys : List (List V)}
theorem RowsB.lt (h : RowsB w B v ys) : ∀ k, v.ownBlock = some k → B ≤ k ∧ k < w.heap.size := by
  obtain ⟨us, h1, _⟩ := h.out
  exact World.ownsRow.lt h1
theorem RowsB.aside {G : Nat → Prop} (h : RowsB w B v ys) (ha : Aside G w w') (hG : ∀ k, B ≤ k → k < w.heap.size → ¬ G k) : RowsB w' B v ys := by
  have hlt := h.lt
  obtain ⟨us, h1, h2⟩ := h.out
  have hs := ha.size
  refine ⟨us, ⟨h1.1, ?_⟩, fun j hj => ?_⟩
  · rcases h1.2 with h3 | ⟨g, cap, cur, rfl, h4, h5, h6⟩
    · exact .inl h3
    · exact .inr ⟨g, cap, cur, rfl, h4, by rw [ha.block g (Array.getElem?_eq_some_iff.1 h5).1 (hG g h4 (Array.getElem?_eq_some_iff.1 h5).1)]; exact h5, h6⟩
  · obtain ⟨q, d, e1, e2⟩ := h2 j hj
    exact ⟨q, d, e1, (VOwn.aside e2 ha (fun k hk => hG k hk.1 hk.2.1)).mono (fun k hk => ⟨hk.1, by omega, hk.2.2⟩)⟩
theorem RowsB.on (h : RowsB w B v ys) (hb : Below w.heap.size w w') : RowsB w' B v ys := h.aside (aside_new hb (fun _ => False)) (fun _ _ _ hc => hc)
theorem RowsB.lower {B' : Nat} (h : RowsB w B v ys) (hB : B' ≤ B) : RowsB w B' v ys := by
  obtain ⟨us, h1, h2⟩ := h.out
  refine ⟨us, ⟨h1.1, ?_⟩, fun j hj => ?_⟩
  · rcases h1.2 with h3 | ⟨g, cap, cur, rfl, h4, h5, h6⟩
    · exact .inl h3
    · exact .inr ⟨g, cap, cur, rfl, by omega, h5, h6⟩
  · obtain ⟨q, d, e1, e2⟩ := h2 j hj
    exact ⟨q, d, e1, VOwn.mono e2 (fun k hk => ⟨by omega, hk.2⟩)⟩
theorem RowsB.form (h : RowsB w B v ys) : ∃ q c, v = .slice q ys.length c ∧ ys.length ≤ c := by
  obtain ⟨us, h1, h2⟩ := h.out
  rcases h1.2 with ⟨rfl, h3⟩ | ⟨g, cap, cur, rfl, _, _, h4, _⟩
  · exact ⟨none, 0, by rw [h3], by omega⟩
  · exact ⟨_, _, rfl, h4⟩
/-- they are rows that may be handed over -/
theorem RowsB.rows {q : Option Addr} {c : Nat} (h : RowsB w B (.slice q ys.length c) ys) (hl : ys.length * 24 ≤ 140737488351232) (hw : ∀ y ∈ ys, ∀ x ∈ y, x.wf) : RowsL w q c ys := by
  obtain ⟨us, h1, h2⟩ := h.out
  rcases h1.2 with ⟨he, h3⟩ | ⟨g, cap, cur, he, h4, h5, h6, h7, h8, h9⟩
  · injection he with e1 _ e2
    exact ⟨hl, by omega, fun j hj => by omega⟩
  · injection he with e1 _ e2
    subst e1 e2
    refine ⟨hl, h6, fun j hj => ?_⟩
    obtain ⟨qj, dj, e3, e4⟩ := h2 j hj
    refine ⟨g, 0, qj, dj, rfl, (Array.getElem?_eq_some_iff.1 h5).1, ?_, VOwn.lies e4, hw _ (List.getElem_mem hj)⟩
    rw [blk_cell h5]
    rw [← h9, List.getElem?_take] at e3
    simp only [Nat.mul_one] at e3
    rw [if_pos hj] at e3
    simpa using e3
end
/-- one row more -/
theorem rows_run {w : World} {B : Nat} {v : Value} {ys : List (List V)} (h : RowsB w B v ys) (hB : B ≤ w.heap.size) (y : List V) (q : Option Addr) (d ad : Nat) (hblk : w.heap[ad]? = some (.cells #[.slice q y.length d] 41 (0, 0))) (hn : ys.length ≤ 1000000)
    (hy : ROwn w (fun k => B ≤ k ∧ k < w.heap.size ∧ v.ownBlock ≠ some k) q d y) :
    ∃ g cap W, AppRun Tryz.prog 25 25 25 v (.slice (some ⟨ad, 0, none⟩) 1 1) w (.slice (some ⟨g, 0, none⟩) (ys ++ [y]).length cap) W ∧ RowsB W B (.slice (some ⟨g, 0, none⟩) (ys ++ [y]).length cap) (ys ++ [y]) ∧ Aside (fun k => v.ownBlock = some k) w W := by
  obtain ⟨i, hi, hz, hsz, hby⟩ := info_parts infoRow
  obtain ⟨us, h1, h2⟩ := h.out
  have hul : us.length = ys.length := by rw [h1.1]; omega
  obtain ⟨g, cap, W, hr, ho, hg, hor, hlt⟩ := run_append_lies (P := Tryz.prog) w 25 25 B 41 i (.agg #[.slice none 0 0]) 1 24 Tryz.underlying25 hi hz hsz hby rfl (by decide) v ys.length us h1 ⟨ad, 0, none⟩ 1 1 [.slice q y.length d] rfl (World.news_of_block hblk) (by simp [Value.oneCell']) (by decide) (by unfold maxLen; omega) (by omega) hB w.heap.size rfl
  have hlen : (ys ++ [y]).length = ys.length + 1 := by simp
  have hag := aside_grew hg
  have hsW := hag.size
  have hgn : ∀ k, k < w.heap.size → v.ownBlock ≠ some k → g ≠ k := fun k hk hv hc => by
    subst hc
    rcases hor with h3 | h3
    · exact hv h3
    · omega
  refine ⟨g, cap, W, ⟨by rw [hlen]; exact hr⟩, ⟨us ++ [.slice q y.length d], by rw [hlen]; exact ho, fun j hj => ?_⟩, hag⟩
  have keep : ∀ {q' : Option Addr} {d' : Nat} {z : List V}, ROwn w (fun k => B ≤ k ∧ k < w.heap.size ∧ v.ownBlock ≠ some k) q' d' z → ROwn W (fun k => B ≤ k ∧ k < W.heap.size ∧ (Value.slice (some ⟨g, 0, none⟩) (ys ++ [y]).length cap).ownBlock ≠ some k) q' d' z := fun hz =>
    (VOwn.aside hz hag (fun k hk hc => hk.2.2 hc)).mono (fun k hk => ⟨hk.1, by omega, fun hc => by
      simp only [Value.ownBlock, Option.some.injEq] at hc
      exact hgn k hk.2.1 hk.2.2 hc⟩)
  by_cases hje : j < ys.length
  · obtain ⟨q', d', e1, e2⟩ := h2 j hje
    refine ⟨q', d', ?_, ?_⟩
    · rw [List.getElem?_append_left (by omega), e1, List.getElem_append_left hje]
    · rw [List.getElem_append_left hje]
      exact keep e2
  · have hj2 : j = ys.length := by rw [hlen] at hj; omega
    subst hj2
    refine ⟨q, d, ?_, ?_⟩
    · rw [List.getElem?_append_right (by omega), hul]
      simp
    · simp only [List.getElem_append_right (Nat.le_refl _), Nat.sub_self, List.getElem_cons_zero]
      exact keep hy

/-- how a reading of rows ends -/
def WholeEnd (J : List (List V) → World → Prop) (X : Nat → World → Prop) (W : World) : Except Nat (List (List V)) → Prop
  | .ok l => J l W
  | .error er => X er W

set_option maxRecDepth 100000 in
set_option maxHeartbeats 2000000 in
theorem decoded1K (HR : RowsIn) (s : List Col) (p : Option Addr) (c : Nat) (b : List UInt8) (q : Option Addr) (d : Nat) (n : Nat) (hb : b.length ≤ 2048) (hn : n ≤ 64) (hbd : b.length ≤ d) (sb bb nb : Nat)
    (L : Nat) (J : List (List V) → World → Prop) (X : Nat → World → Prop) (W : World) (hJb : ∀ ys W, J ys W → SchL W p c s ∧ At W q b ∧ W.heap[sb]? = some (.cells #[.slice p s.length c] 24 (0, 0)) ∧ W.heap[bb]? = some (.cells #[.slice q b.length d] 29 (0, 0)) ∧ W.heap[nb]? = some (.cells #[.int .i64 n] 3 (0, 0))) (hJn : ∀ ys W W', J ys W → Below W.heap.size W W' → J ys W') (h0 : J [] W)
    (good : ∀ m ys y W1 W2 qq dd, ys.length < n → J ys W1 → Below W1.heap.size W1 W2 → ROwn W2 (fun k => W1.heap.size ≤ k ∧ k < W2.heap.size) qq dd y → YieldAt Fence.wide m Tryz.prog L #[.agg #[.slice qq y.length dd], .int .i64 0] W2 fun e W' => ∃ b, e = .returned (.bool b) ∧ b = true ∧ J (ys ++ [y]) W')
    (bad : ∀ m ys W (er : Nat), J ys W → er ≠ 0 → YieldAt Fence.wide m Tryz.prog L #[.agg #[.slice none 0 0], .int .i64 er] W fun e W' => ∃ b, e = .returned (.bool b) ∧ b = false ∧ X er W') :
    Calls Tryz.prog 46 #[.func (.yield L) #[] #[], .pointer (some ⟨nb, 0, none⟩), .pointer (some ⟨sb, 0, none⟩), .pointer (some ⟨bb, 0, none⟩)] W fun e W' => (∃ v, e = .returned v) ∧ WholeEnd J X W' (Bt.whole s b n) := by
  have n0 := boxed_cell (hJb [] W h0).2.2.2.2
  have HJb := Lib.hid hJb
  have HJn := Lib.hid hJn
  have H0 := Lib.hid h0
  have HG := Lib.hid good
  have HBd := Lib.hid bad
  have HRI := Lib.hid HR
  clear hJb hJn h0 good bad HR
  refine (callsIn_wide (n := 3)).1 ?_
  refine callsIn_of_wp Tryz.func46 rfl trivial ?_ rfl
  simp only [Tryz.ntmps46, List.size_toArray, List.length_cons, List.length_nil, Nat.reduceAdd, Nat.reduceSub, Array.replicate_succ, Array.replicate_zero, List.push_toArray, List.append_toArray, List.nil_append, List.cons_append]
  gi_wp2
  gi_loopw [5, 10] (fun v5 v10 wr => ∃ (i a : Nat) (ys : List (List V)), i ≤ n ∧ v10 = .int .i64 i ∧ v5 = .int .i64 a ∧ a ≤ b.length ∧ Hid (Bt.rows s b i 0 = .ok (ys, a) ∧ ys.length = i ∧ J ys wr)) (fun _ v10 _ => n - (intOf v10).toNat)
  case atStart => exact ⟨0, 0, [], by omega, rfl, rfl, by omega, rfl, rfl, H0.out⟩
  case round =>
    clear n0
    obtain ⟨i, a, ys, hi, rfl, rfl, ha, HK⟩ := hrel
    obtain ⟨hS0, hA0, hsb0, hbb0, -⟩ := HJb.out ys wr HK.out.2.2
    by_cases hlt : i < n
    · have hlt' : (i : Int) < (n : Int) := by omega
      have n1 := boxed_cell hsb0
      have n2 := boxed_cell hbb0
      have hD := HRI.out.decode s p c b q d a wr hS0 (by omega) hbd hA0 (by omega) (by omega)
      have hsn := Bt.rows_snoc i 0 ys a HK.out.1
      cases hrd : Rw.read s b a with
      | error er =>
        rw [hrd] at hD hsn
        have hne := Rw.read_err hrd
        have HW : Hid (Bt.whole s b n = .error er) := by
          show _ = _
          have := Bt.rows_stop (i + 1) 0 er (n - (i + 1)) hsn
          rw [show i + 1 + (n - (i + 1)) = n by omega] at this
          unfold Bt.whole
          rw [this]
        have HD := Lib.hid hD
        clear hD hsn hS0 hA0 hsb0 hbb0 hrd
        gi_wp2
        refine ⟨trivial, ?_⟩
        refine (callsIn_wide.2 HD.out).mono ?_
        rintro e w1 ⟨rfl, hb1⟩
        have g1 : ((er : Int) != 0) = true := bne_t (by omega)
        obtain ⟨w2, hw2⟩ : ∃ w2, w2 = w1.alloc (.cells #[.slice none 0 0] 41) := ⟨_, rfl⟩
        have hb2 : Below wr.heap.size wr w2 := by rw [hw2]; exact hb1.alloc hb1.size _
        obtain ⟨fn, tmps, assign, body, hy, hR1⟩ := HBd.out 2 ys w2 er (HJn.out ys wr w2 HK.out.2.2 hb2) hne
        rw [hw2] at hy hR1
        clear hb1 hb2 hw2 HD
        gi_wp2
        refine hR1.mono ?_
        rintro e w3 ⟨bb, rfl, rfl, hX3⟩
        have HX3 := Lib.hid hX3
        clear hX3
        gi_wp2
        refine bodyPost_ret (results_none rfl _ _ _) rfl ?_
        refine ⟨⟨_, rfl⟩, ?_⟩
        rw [HW.out]
        exact HX3.out
      | ok pr =>
        obtain ⟨y, k⟩ := pr
        rw [hrd] at hD hsn
        have hk := (Rw.read_ok hrd).2.2.2.1
        have HD := Lib.hid hD
        have HSn := Lib.hid hsn
        clear hD hsn hS0 hA0 hsb0 hbb0 hrd
        gi_wp2
        refine ⟨trivial, ?_⟩
        refine (callsIn_wide.2 HD.out).mono ?_
        rintro e w1 ⟨qq, dd, rfl, hown, hb1⟩
        obtain ⟨w2, hw2⟩ : ∃ w2, w2 = w1.alloc (.cells #[.slice qq y.length dd] 41) := ⟨_, rfl⟩
        have hb2 : Below wr.heap.size wr w2 := by rw [hw2]; exact hb1.alloc hb1.size _
        have hs2 : w2.heap.size = w1.heap.size + 1 := by rw [hw2]; simp
        have hb12 : Below w1.heap.size w1 w2 := by rw [hw2]; exact (Below.refl _ _).alloc (Nat.le_refl _) _
        obtain ⟨fn, tmps, assign, body, hy, hR1⟩ := HG.out 2 ys y wr w2 qq dd (by rw [HK.out.2.1]; exact hlt) HK.out.2.2 hb2 ((hown.under hb12 (fun k hk => hk.2)).mono (fun k hk => ⟨hk.1, by omega⟩))
        rw [hw2] at hy hR1
        clear hb1 hb2 hw2 hs2 hb12 HD hown
        gi_wp2
        refine hR1.mono ?_
        rintro e w3 ⟨bb, rfl, rfl, hJ3⟩
        have HJ3 := Lib.hid hJ3
        clear hJ3
        gi_wp2
        go_roundw
        case rel =>
          refine ⟨i + 1, k, ys ++ [y], by omega, by go_num, rfl, hk, HSn.out, by simp [HK.out.2.1], HJ3.out⟩
        case measure => simp [intOf]; omega
    · have hie : i = n := by omega
      subst hie
      have n2 := boxed_cell hbb0
      by_cases hend : a < b.length
      · have hend' : (a : Int) < (b.length : Int) := by omega
        have HW : Hid (Bt.whole s b i = .error 5) := by
          show _ = _
          unfold Bt.whole
          rw [HK.out.1]
          exact if_pos hend
        obtain ⟨fn, tmps, assign, body, hy, hR1⟩ := HBd.out 2 ys wr 5 HK.out.2.2 (by decide)
        simp only [Int.cast_ofNat_Int] at hy
        clear hS0 hA0 hsb0 hbb0
        gi_wp2
        refine hR1.mono ?_
        rintro e w3 ⟨bb, rfl, rfl, hX3⟩
        have HX3 := Lib.hid hX3
        clear hX3
        gi_wp2
        go_end0
        refine ⟨⟨_, rfl⟩, ?_⟩
        rw [HW.out]
        exact HX3.out
      · have HW : Hid (Bt.whole s b i = .ok ys) := by
          show _ = _
          unfold Bt.whole
          rw [HK.out.1]
          exact if_neg hend
        have hend' : ¬ (a : Int) < (b.length : Int) := by omega
        clear hS0 hA0 hsb0 hbb0
        gi_wp2
        go_end0
        refine ⟨⟨_, rfl⟩, ?_⟩
        rw [HW.out]
        exact HK.out.2.2
end Go.Proofs.YtpkbdnilakaakaaGreat

/- The landed batch: Unpack. -/
namespace Go.Proofs.YtpkbdnilakaakaaGreat
open Go.RowKit Go.Shelf

attribute [local go_sem] run_store_float Oper.semAt_some

/-- what Unpack answers: rows of the caller's own, or the error alone -/
def UnpA (w : World) (r : Except Nat (List (List V))) (e : Ending) (w' : World) : Prop := match r with
  | .error er => e = .returned (.tuple #[.slice none 0 0, .int .i64 (er : Nat)]) ∧ Below w.heap.size w w'
  | .ok l => ∃ q c, e = .returned (.tuple #[.slice q l.length c, .int .i64 0]) ∧ RowsB w' w.heap.size (.slice q l.length c) l ∧ Below w.heap.size w w'

theorem decodedK (s : List Col) (p : Option Addr) (c m : Nat) (q : Option Addr) (d : Nat) (n : Int) (w : World) :
    Calls Tryz.prog 29 #[.agg #[.slice p s.length c], .slice q m d, .int .i64 n] w fun e w' => e = .returned (.func (.func 46) #[] #[.pointer (some ⟨w.heap.size + 1 + 1, 0, none⟩), .pointer (some ⟨w.heap.size, 0, none⟩), .pointer (some ⟨w.heap.size + 1, 0, none⟩)]) ∧ w' = ((w.alloc (.cells #[.slice p s.length c] 24)).alloc (.cells #[.slice q m d] 29)).alloc (.cells #[.int .i64 n] 3) := by
  go_enter Tryz.func29, Tryz.ntmps29
  go_wp2
  go_ret
  exact ⟨rfl, rfl⟩

/-- while rows are read: w, the world at the beginning; w3, the one ahead of the loop; B, where the rows' variable lies -/
structure UnpI (w w3 : World) (B : Nat) (rec : Loop) (v : Value) (ys : List (List V)) (W : World) : Prop where
  below : Below w.heap.size w W
  same : ∀ k, k < w3.heap.size → k ≠ B → W.heap[k]? = w3.heap[k]?
  box : W.heap[B]? = some (.cells #[v] 25 (0, 0))
  has : RowsB W (w3.heap.size + 2) v ys
  dfr : W.heap[w3.heap.size]? = some (.deferred (some []))
  lp : W.heap[w3.heap.size + 1]? = some (.loop rec)
  size : w3.heap.size + 2 ≤ W.heap.size
/-- there was an error -/
structure UnpX (w w3 : World) (rec : Loop) (er : Nat) (W : World) : Prop where
  below : Below w.heap.size w W
  r1 : W.heap[w.heap.size + 1]? = some (.cells #[.slice none 0 0] 25 (0, 0))
  r2 : W.heap[w.heap.size + 1 + 1]? = some (.cells #[.int .i64 er] 26 (0, 0))
  dfr : W.heap[w3.heap.size]? = some (.deferred (some []))
  lp : W.heap[w3.heap.size + 1]? = some (.loop rec)
section
variable {w w3 W W' : World} {B : Nat} {rec : Loop} {v v' : Value} {xs ys : List (List V)}
theorem UnpI.on (h : UnpI w w3 B rec v xs W) (hb : Below W.heap.size W W') : UnpI w w3 B rec v xs W' := by
  have hs := h.size
  have hw := h.below.size
  have hB := blk_lt h.box
  exact ⟨h.below.trans (hb.mono hw), fun k hk hne => (hb.block k (by omega)).trans (h.same k hk hne), blk_on h.box hb hB, h.has.on hb, blk_on h.dfr hb (by omega), blk_on h.lp hb (by omega), by have := hb.size; omega⟩
theorem UnpI.turn (h : UnpI w w3 B rec v xs W) (hw : w.heap.size ≤ w3.heap.size) (hB : B < w3.heap.size) (rec' : Loop) : UnpI w w3 B rec' v xs (W.putObj (w3.heap.size + 1) (.loop rec')) := by
  have hs := h.size
  exact ⟨h.below.trans (below_put _ (by omega) h.below.size), fun k hk hne => (World.putObj_heap_other (by omega)).trans (h.same k hk hne), (World.putObj_heap_other (by omega)).trans h.box, h.has.aside (aside_put _) (fun k hk _ hc => by omega), (World.putObj_heap_other (by omega)).trans h.dfr, World.putObj_heap_same (by omega), by simp; omega⟩
theorem UnpI.more (h : UnpI w w3 B rec v xs W) (hw : w.heap.size ≤ B) (hB : B < w3.heap.size) (ha : Aside (fun k => v.ownBlock = some k) W W') (hh : RowsB W' (w3.heap.size + 2) v' ys) :
    W'.heap[B]? = some (.cells #[v] 25 (0, 0)) ∧ UnpI w w3 B rec v' ys (W'.setCell ⟨B, 0, none⟩ v') := by
  have hs := h.size
  have hold : ∀ k, k < w3.heap.size + 2 → W'.heap[k]? = W.heap[k]? := fun k hk => ha.block k (by omega) (fun hc => by have := (h.has.lt k hc).1; omega)
  have hbx : W'.heap[B]? = some (.cells #[v] 25 (0, 0)) := (hold B (by omega)).trans h.box
  have hset : ∀ k, k ≠ B → (W'.setCell ⟨B, 0, none⟩ v').heap[k]? = W'.heap[k]? := fun k hk => Below.heap_setCell _ _ _ _ hk
  have hbW : Below w.heap.size W W' := ha.below h.below.size (fun k hk hc => by have := (h.has.lt k hc).1; omega)
  refine ⟨hbx, ⟨(h.below.trans hbW).setCell (p := ⟨B, 0, none⟩) hw _, fun k hk hne => ?_, by simpa using blk_set hbx 0 v', ?_, ?_, ?_, ?_⟩⟩
  · rw [hset k hne, hold k (by omega)]; exact h.same k hk hne
  · exact hh.aside ((Aside.refl (fun k => k = B) W').setCell (p := ⟨B, 0, none⟩) (.inl rfl) v') (fun k hk _ hc => by omega)
  · rw [hset _ (by omega), hold _ (by omega)]; exact h.dfr
  · rw [hset _ (by omega), hold _ (by omega)]; exact h.lp
  · have := ha.size
    have : (W'.setCell ⟨B, 0, none⟩ v').heap.size = W'.heap.size := by simp [World.setCell]
    omega
end
theorem At.keepB {w w' : World} {p : Option Addr} {l : List UInt8} {A : Nat} (h : At w p l) (hp : ∀ b o, p = some ⟨b, o, none⟩ → b < A) (hk : ∀ k, k < A → w'.heap[k]? = w.heap[k]?) (hs : w.heap.size ≤ w'.heap.size) : At w' p l := by
  rcases h with rfl | ⟨b, o, rfl, h1, h2⟩
  · exact .inl rfl
  · refine .inr ⟨b, o, rfl, by omega, fun j hj => ?_⟩
    rw [World.cell?_of_block (w := w) (hk b (hp b o rfl))]
    exact h2 j hj
/-- append of a row, in a round -/
theorem wpIn_rowB {F : Fence} {n : Nat} {B : Nat} {v : Value} {ys : List (List V)} {w : World} (h : RowsB w B v ys) (hB : B ≤ w.heap.size) (y : List V) (q : Option Addr) (d ad : Nat) (hblk : w.heap[ad]? = some (.cells #[.slice q y.length d] 41 (0, 0))) (hn : ys.length ≤ 1000000)
    (hy : ROwn w (fun k => B ≤ k ∧ k < w.heap.size ∧ v.ownBlock ≠ some k) q d y)
    {ops : Array Oper} {rest : List Oper} {o : Oper} {a : Act} {Q : Exit → Act → World → Prop} {yy x : Operand}
    (ht : o.type = 25) (hg : o.guard = none) (hop : o.op = Op.call { callee := Callee.builtin Builtin.append, args := #[yy, x], argTypes := #[25, 25] })
    (hs : a.eval yy = v) (hx : a.eval x = .slice (some ⟨ad, 0, none⟩) 1 1)
    (hK : ∀ zs g cap W, Hid (zs = ys ++ [y]) → RowsB W B (.slice (some ⟨g, 0, none⟩) zs.length cap) zs → Aside (fun k => v.ownBlock = some k) w W → wpListIn F n Tryz.prog ops Q rest (a.put o.dst (.slice (some ⟨g, 0, none⟩) zs.length cap)) W) :
    wpListIn F n Tryz.prog ops Q (o :: rest) a w := by
  obtain ⟨g, cap, W, hr, hm, ha⟩ := rows_run h hB y q d ad hblk hn hy
  have hr' : AppRun Tryz.prog 25 25 o.type v (.slice (some ⟨ad, 0, none⟩) 1 1) w (.slice (some ⟨g, 0, none⟩) (ys ++ [y]).length cap) W := by rw [ht]; exact hr
  exact wpListIn_append_ran hr' hg hop hs hx (hK _ g cap W (Lib.hid rfl) hm ha)

set_option maxRecDepth 100000 in
set_option maxHeartbeats 4000000 in
theorem unpackBK (HR : RowsIn) (s : List Col) (p : Option Addr) (c : Nat) (b : List UInt8) (q : Option Addr) (d : Nat) (n : Int) (w : World) (hS : SchL w p c s) (hbl : b.length ≤ 140737488351232) (hbd : b.length ≤ d) (hat : At w q b) :
    Calls Tryz.prog 16 #[.agg #[.slice p s.length c], .slice q b.length d, .int .i64 n] w (UnpA w (Bt.unpack s b n)) := by
  obtain ⟨W0, hW0⟩ : ∃ W0, W0 = ((w.alloc (.cells #[.slice p s.length c] 24)).alloc (.cells #[.slice none 0 0] 25)).alloc (.cells #[.int .i64 0] 26) := ⟨_, rfl⟩
  obtain ⟨k0, k1, k2, hb0, hs0⟩ := al3 w (.cells #[.slice p s.length c] 24) (.cells #[.slice none 0 0] 25) (.cells #[.int .i64 0] 26)
  rw [← hW0] at k0 k1 k2 hb0 hs0
  have HC := Lib.hid (checkBK HR s p c n W0 (hS.on hb0))
  have HK := Lib.hid (And.intro k0 (And.intro k1 k2))
  have HB0 := Lib.hid hb0
  have HW0 := Lib.hid hW0
  have HS := Lib.hid hS
  have HA := Lib.hid hat
  have HRI := Lib.hid HR
  obtain ⟨R, hR⟩ : ∃ R, R = Bt.unpack s b n := ⟨_, rfl⟩
  rw [← hR]
  unfold Bt.unpack at hR
  obtain ⟨en, hen⟩ : ∃ en, en = Bt.numErr s n := ⟨_, rfl⟩
  rw [← hen] at HC hR
  have HRR := Lib.hid hR
  have HEn := Lib.hid hen
  clear hb0 hW0 hS HR hR hen k0 k1 k2 hat
  refine (callsIn_wide (n := 5)).1 ?_
  refine callsIn_of_wp_marks Tryz.func16 rfl trivial ?_ rfl
  simp only [Tryz.ntmps16, List.size_toArray, List.length_cons, List.length_nil, Nat.reduceAdd, Nat.reduceSub, Array.replicate_succ, Array.replicate_zero, List.push_toArray, List.append_toArray, List.nil_append, List.cons_append]
  gi_wp2
  refine ⟨trivial, ?_⟩
  rw [← HW0.out]
  refine (callsIn_wide.2 HC.out).mono ?_
  rintro e w1 ⟨rfl, hb1⟩
  have HBw1 := Lib.hid (HB0.out.trans (hb1.mono HB0.out.size))
  have hs1 := hb1.size
  have j0 := blk_on HK.out.1 hb1 (by omega)
  have j1 := blk_on HK.out.2.1 hb1 (by omega)
  have j2 := blk_on HK.out.2.2 hb1 (by omega)
  have n0 := boxed_cell j0
  have n1 := boxed_cell j1
  have n2 := boxed_cell j2
  have f1 := boxed_free j1
  have f2 := boxed_free j2
  have HJ := Lib.hid (And.intro j0 (And.intro j1 j2))
  clear hb1 HC HW0 HK j0 j1 j2
  by_cases h0 : en ≠ 0
  · have g0 : ((en : Int) != 0) = true := bne_t (by omega)
    have HE : Hid (R = .error en) := HRR.out.trans (if_pos h0)
    clear HRR h0
    gi_wp2
    have j2 := blk_set (blk_set_far HJ.out.2.2 ⟨w.heap.size + 1, 0, none⟩ (.slice none 0 0) (by simp)) 0 (.int .i64 en)
    have j1 := blk_set_far (blk_set HJ.out.2.1 0 (.slice none 0 0)) ⟨w.heap.size + 1 + 1, 0, none⟩ (.int .i64 en) (by simp)
    refine ⟨_, results_two rfl _ _ (w.heap.size + 1) (w.heap.size + 1 + 1) _ _ rfl (boxed_cell j1) Tryz.underlying25 rfl (boxed_cell j2) Tryz.underlying26, ?_⟩
    rw [HE.out]
    exact ⟨rfl, (HBw1.out.setCell (p := ⟨w.heap.size + 1, 0, none⟩) (by simp) _).setCell (p := ⟨w.heap.size + 1 + 1, 0, none⟩) (by simp; omega) _⟩
  have g0 : ((en : Int) != 0) = false := bne_f (by omega)
  have HR1 := Lib.hid (HRR.out.trans (if_neg h0))
  have HEn0 : Hid (Bt.numErr s n = 0) := by show _ = 0; rw [← HEn.out]; omega
  obtain ⟨nn, hnn⟩ : ∃ nn : Nat, n = nn := ⟨n.toNat, by have := (Bt.numErr_open HEn0.out).2.1; omega⟩
  subst hnn
  have hn64 : nn ≤ 64 := by have := (Bt.numErr_open HEn0.out).2.2; omega
  rw [Int.toNat_natCast] at HR1
  clear HRR h0 HEn
  have HU := Lib.hid (unpackK b q d w1 hbl hbd (HA.out.on HBw1.out))
  have hul := (Blk.unpack_len b).1
  obtain ⟨U, hU⟩ : ∃ U, U = Blk.unpack b := ⟨_, rfl⟩
  rw [← hU] at HU HR1 hul
  clear hU
  gi_wp2
  refine ⟨trivial, ?_⟩
  refine (callsIn_wide.2 HU.out).mono ?_
  rintro e w2 ⟨q2, m2, c2, rfl, hm2, hh2, hb2⟩
  subst hm2
  have HBw2 := Lib.hid (HBw1.out.trans (hb2.mono HBw1.out.size))
  have hs2 := hb2.size
  have j0 := blk_on HJ.out.1 hb2 (by omega)
  have j1 := blk_on HJ.out.2.1 hb2 (by omega)
  have j2 := blk_on HJ.out.2.2 hb2 (by omega)
  have n0 := boxed_cell j0
  have n1 := boxed_cell j1
  have n2 := boxed_cell j2
  have f1 := boxed_free j1
  have f2 := boxed_free j2
  have HJ2 := Lib.hid (And.intro j0 (And.intro j1 j2))
  have HH2 := Lib.hid hh2
  clear hb2 hh2 HU HJ j0 j1 j2
  by_cases h1 : U.err ≠ 0
  · have g1 : ((U.err : Int) != 0) = true := bne_t (by omega)
    have HE : Hid (R = .error U.err) := HR1.out.trans (if_pos h1)
    clear HR1 h1
    gi_wp2
    have j2 := blk_set (blk_set_far HJ2.out.2.2 ⟨w.heap.size + 1, 0, none⟩ (.slice none 0 0) (by simp)) 0 (.int .i64 U.err)
    have j1 := blk_set_far (blk_set HJ2.out.2.1 0 (.slice none 0 0)) ⟨w.heap.size + 1 + 1, 0, none⟩ (.int .i64 U.err) (by simp)
    refine ⟨_, results_two rfl _ _ (w.heap.size + 1) (w.heap.size + 1 + 1) _ _ rfl (boxed_cell j1) Tryz.underlying25 rfl (boxed_cell j2) Tryz.underlying26, ?_⟩
    rw [HE.out]
    exact ⟨rfl, (HBw2.out.setCell (p := ⟨w.heap.size + 1, 0, none⟩) (by simp) _).setCell (p := ⟨w.heap.size + 1 + 1, 0, none⟩) (by simp; omega) _⟩
  have g1 : ((U.err : Int) != 0) = false := bne_f (by omega)
  have HR2 := Lib.hid (HR1.out.trans (if_neg h1))
  clear HR1 h1
  have z0 := fun o => cell_on ((Below.refl w2.heap.size w2).alloc (Nat.le_refl _) o) n0
  clear n1 n2 f1 f2
  gi_wp2
  refine ⟨trivial, ?_⟩
  refine (callsIn_wide.2 (decodedK s p c U.out.length q2 c2 nn _)).mono ?_
  rintro e w3 ⟨rfl, hw3⟩
  obtain ⟨m0, m1, m2, m3, mb, ms⟩ := al4 w2 (.cells #[.slice none 0 0] 25) (.cells #[.slice p s.length c] 24) (.cells #[.slice q2 U.out.length c2] 29) (.cells #[.int .i64 nn] 3)
  rw [← hw3] at m0 m1 m2 m3 mb ms
  have hms : w2.heap.size + 4 ≤ w3.heap.size := by omega
  have HM := Lib.hid (And.intro m0 (And.intro m1 (And.intro m2 (And.intro m3 mb))))
  have hBw3 := Lib.hid (HBw2.out.trans (mb.mono HBw2.out.size))
  have hh3 := HH2.out.on mb
  obtain ⟨pv, cv, hpv, hat3, hcv⟩ := hh3.at
  injection hpv with e1 _ e2
  subst e1 e2
  have HAt3 := Lib.hid hat3
  have HLow : Hid (∀ b o, q2 = some ⟨b, o, none⟩ → b < w2.heap.size) := fun b o hq => (HH2.out.place b o hq).2
  clear hw3 m0 m1 m2 m3 mb ms z0 n0 hh3 hat3
  gi_wp2
  refine range_ran (gf := 46) rfl (enters_of Tryz.func46 (by kernel_rfl) rfl) ?_
  intro fn
  generalize hrec : recd fn _ _ _ _ _ = rec
  have hlo : w.heap.size + 3 ≤ w2.heap.size := by omega
  have hww : w.heap.size ≤ w3.heap.size := by omega
  have HREC := Lib.hid hrec
  clear hrec
  refine (decoded1K HRI.out s p c U.out q2 c2 nn hul hn64 hcv (w2.heap.size + 1) (w2.heap.size + 1 + 1) (w2.heap.size + 1 + 1 + 1) (w3.heap.size + 1) (fun ys W => ∃ v, UnpI w w3 w2.heap.size (rec .ready none) v ys W) (fun er W => UnpX w w3 (rec .done (some .ret)) er W) _ ?hJb ?hJn ?h0 ?good ?bad).mono ?_
  case hJb =>
    rintro ys W ⟨v, h⟩
    refine ⟨HS.out.on h.below, ?_, (h.same _ (by omega) (by omega)).trans HM.out.2.1, (h.same _ (by omega) (by omega)).trans HM.out.2.2.1, (h.same _ (by omega) (by omega)).trans HM.out.2.2.2.1⟩
    exact At.keepB (A := w2.heap.size) HAt3.out HLow.out (fun k hk => h.same k (by omega) (by omega)) (by have := h.size; omega)
  case hJn =>
    rintro ys W W' ⟨v, h⟩ hb
    exact ⟨v, h.on hb⟩
  case h0 =>
    obtain ⟨a0, a1, ab, asz⟩ := al2 w3 (.deferred (some [])) (.loop (rec .ready none))
    exact ⟨.slice none 0 0, hBw3.out.trans (ab.mono hww), fun k hk _ => ab.block k hk, blk_on HM.out.1 ab (by omega), rowsB_nil _ _, a0, a1, by omega⟩
  case good =>
    rintro m ys y W1 W2 qq dd hyn ⟨v, h1⟩ hb12 hown
    have h2 := h1.on hb12
    have hlp := h2.lp
    rw [← HREC.out] at hlp
    refine round_ran (R := fun b W' => b = true ∧ ∃ v, UnpI w w3 w2.heap.size (rec .ready none) v (ys ++ [y]) W') hlp rfl ?_
    obtain ⟨Wr, hWr⟩ : ∃ Wr, Wr = W2.alloc (.cells #[.slice qq y.length dd] 41) := ⟨_, rfl⟩
    have hb2r : Below W2.heap.size W2 Wr := by rw [hWr]; exact (Below.refl _ _).alloc (Nat.le_refl _) _
    have hrb : Wr.heap[W2.heap.size]? = some (.cells #[.slice qq y.length dd] 41 (0, 0)) := by rw [hWr]; exact blk_new W2 _
    have hr := h2.on hb2r
    have hlr := hr.lp
    rw [← HREC.out] at hlr
    obtain ⟨Wb, hWb⟩ : ∃ Wb, Wb = Wr.putObj (w3.heap.size + 1) (.loop (rec .busy none)) := ⟨_, rfl⟩
    have hb := hr.turn hww (by omega) (rec .busy none)
    have hbb : Wb.heap[W2.heap.size]? = some (.cells #[.slice qq y.length dd] 41 (0, 0)) := by rw [hWb]; exact (World.putObj_heap_other (by have := h2.size; omega)).trans hrb
    have ha2b : Aside (fun k => k = w3.heap.size + 1) W2 Wb := by rw [hWb]; exact (aside_new hb2r _).trans (aside_put _) (fun _ _ h => h)
    rw [← hWb] at hb
    rw [← HREC.out] at hWb
    have hob : ROwn Wb (fun k => w3.heap.size + 2 ≤ k ∧ k < Wb.heap.size ∧ v.ownBlock ≠ some k) qq dd y := by
      refine (VOwn.aside hown ha2b (fun k hk hc => ?_)).mono (fun k hk => ⟨?_, ?_, fun hc => ?_⟩)
      · have := h1.size; omega
      · have := h1.size; omega
      · have := ha2b.size; omega
      · have := (h1.has.lt k hc).2; omega
    obtain ⟨Wc, hWc⟩ : ∃ Wc, Wc = Wb.alloc (.cells #[.slice qq y.length dd] 41) := ⟨_, rfl⟩
    have hbc : Below Wb.heap.size Wb Wc := by rw [hWc]; exact (Below.refl _ _).alloc (Nat.le_refl _) _
    have hc := hb.on hbc
    have hcb : Wc.heap[Wb.heap.size]? = some (.cells #[.slice qq y.length dd] 41 (0, 0)) := by rw [hWc]; exact blk_new Wb _
    have hoc : ROwn Wc (fun k => w3.heap.size + 2 ≤ k ∧ k < Wc.heap.size ∧ v.ownBlock ≠ some k) qq dd y := (VOwn.aside hob (aside_new hbc (fun _ => False)) (fun _ _ hc => hc)).mono (fun k hk => ⟨hk.1, by have := hbc.size; omega, hk.2.2⟩)
    have n7 := boxed_cell hb.box
    have n12 := boxed_cell hbb
    have HC := Lib.hid hc
    have HCB := Lib.hid hcb
    have HOC := Lib.hid hoc
    have HWr := Lib.hid hWr
    have HWb := Lib.hid hWb
    have HWc := Lib.hid hWc
    have HLr := Lib.hid hlr
    have hy6 : ys.length ≤ 1000000 := by omega
    clear h1 h2 hr hb hc hWr hWb hWc hlr hlp hown hob hoc hb12 hb2r hrb hbb ha2b hbc hcb
    gi_wp2
    rw [← HWr.out]
    refine ⟨HLr.out, ?_⟩
    rw [← HWb.out]
    gi_wp2_with (first
      | (gi_at_builtin
         rw [← HWc.out]
         refine wpIn_rowB HC.out.has HC.out.size y qq dd _ HCB.out hy6 HOC.out rfl rfl rfl rfl rfl ?_
         intro zs g3 cap3 W5 HY hh ha
         obtain ⟨hbx, hj⟩ := HC.out.more (by omega) (by omega) ha hh
         have n8 := boxed_cell hbx
         have f8 := boxed_free hbx
         have HJ3 := Lib.hid hj
         clear hh ha hbx hj)
      | fail)
    have hlp3 := HJ3.out.lp
    rw [← HREC.out] at hlp3
    refine ⟨hlp3, rfl, .slice (some ⟨g3, 0, none⟩) zs.length cap3, ?_⟩
    have ht := HJ3.out.turn hww (by omega) (rec .ready none)
    rw [HREC.out, ← HY.out]
    exact ht
  case bad =>
    rintro m ys W er ⟨v, h⟩ he
    have g2 : ((er : Int) != 0) = true := bne_t (by omega)
    have hlp := h.lp
    rw [← HREC.out] at hlp
    refine round_ran (R := fun b W' => b = false ∧ UnpX w w3 (rec .done (some .ret)) er W') hlp rfl ?_
    obtain ⟨Wr, hWr⟩ : ∃ Wr, Wr = W.alloc (.cells #[.slice none 0 0] 41) := ⟨_, rfl⟩
    have hbr : Below W.heap.size W Wr := by rw [hWr]; exact (Below.refl _ _).alloc (Nat.le_refl _) _
    have hr := h.on hbr
    have hlr := hr.lp
    rw [← HREC.out] at hlr
    have j1 : Wr.heap[w.heap.size + 1]? = some (.cells #[.slice none 0 0] 25 (0, 0)) := (hr.same _ (by omega) (by omega)).trans (blk_on HJ2.out.2.1 HM.out.2.2.2.2 (by omega))
    have j2 : Wr.heap[w.heap.size + 1 + 1]? = some (.cells #[.int .i64 0] 26 (0, 0)) := (hr.same _ (by omega) (by omega)).trans (blk_on HJ2.out.2.2 HM.out.2.2.2.2 (by omega))
    obtain ⟨Wb, hWb⟩ : ∃ Wb, Wb = Wr.putObj (w3.heap.size + 1) (.loop (rec .busy none)) := ⟨_, rfl⟩
    have hb := hr.turn hww (by omega) (rec .busy none)
    have b1 : Wb.heap[w.heap.size + 1]? = some (.cells #[.slice none 0 0] 25 (0, 0)) := by rw [hWb]; exact (World.putObj_heap_other (by omega)).trans j1
    have b2 : Wb.heap[w.heap.size + 1 + 1]? = some (.cells #[.int .i64 0] 26 (0, 0)) := by rw [hWb]; exact (World.putObj_heap_other (by omega)).trans j2
    rw [← hWb] at hb
    rw [← HREC.out] at hWb
    have HBd := Lib.hid hb
    have HLr := Lib.hid hlr
    have n1 := boxed_cell b1
    have f1 := boxed_free b1
    have n2 := boxed_cell b2
    have f2 := boxed_free b2
    have HB12 := Lib.hid (And.intro b1 b2)
    have HWb := Lib.hid hWb
    have HWr := Lib.hid hWr
    clear hlp hlr hb hr hbr j1 j2 b1 b2 hWb hWr h he
    gi_wp2
    rw [← HWr.out]
    refine ⟨HLr.out, ?_⟩
    rw [← HWb.out]
    gi_wp2
    have c2' := blk_set (blk_set_far HB12.out.2 ⟨w.heap.size + 1, 0, none⟩ (.slice none 0 0) (by simp)) 0 (.int .i64 er)
    have c1' := blk_set_far (blk_set HB12.out.1 0 (.slice none 0 0)) ⟨w.heap.size + 1 + 1, 0, none⟩ (.int .i64 er) (by simp)
    have hset : ∀ k, w.heap.size + 2 < k → ((Wb.setCell ⟨w.heap.size + 1, 0, none⟩ (.slice none 0 0)).setCell ⟨w.heap.size + 1 + 1, 0, none⟩ (.int .i64 er)).heap[k]? = Wb.heap[k]? := fun k hk => by
      rw [Below.heap_setCell _ _ _ _ (by simp; omega), Below.heap_setCell _ _ _ _ (by simp; omega)]
    have hbl := ((HBd.out.below.setCell (p := ⟨w.heap.size + 1, 0, none⟩) (by simp) (.slice none 0 0)).setCell (p := ⟨w.heap.size + 1 + 1, 0, none⟩) (by simp; omega) (.int .i64 er))
    have hlp2 := (hset (w3.heap.size + 1) (by omega)).trans HBd.out.lp
    have hdf2 := (hset w3.heap.size (by omega)).trans HBd.out.dfr
    rw [← HREC.out] at hlp2
    refine ⟨hlp2, rfl, ?_⟩
    rw [HREC.out]
    exact ⟨hbl.trans (below_put _ (by omega) hbl.size), (World.putObj_heap_other (by omega)).trans (by simpa using c1'), (World.putObj_heap_other (by omega)).trans (by simpa using c2'), (World.putObj_heap_other (by omega)).trans hdf2, World.putObj_heap_same (blk_lt hlp2)⟩
  rintro e W4 ⟨⟨v4, rfl⟩, hend⟩
  rw [← HR2.out] at hend
  clear HR2
  cases R with
  | ok l =>
    obtain ⟨v, hJ4⟩ := hend
    have h5 := hJ4.turn hww (by omega) (rec .exhausted none)
    refine ⟨⟨_, rfl⟩, .inl ⟨hJ4.lp, ?_⟩⟩
    obtain ⟨W5, hW5⟩ : ∃ W5, W5 = W4.putObj (w3.heap.size + 1) (.loop (rec .exhausted none)) := ⟨_, rfl⟩
    rw [← hW5] at h5 ⊢
    obtain ⟨pv, cv, rfl, hcv2⟩ := h5.has.form
    have j1 : W5.heap[w.heap.size + 1]? = some (.cells #[.slice none 0 0] 25 (0, 0)) := (h5.same _ (by omega) (by omega)).trans (blk_on HJ2.out.2.1 HM.out.2.2.2.2 (by omega))
    have j2 : W5.heap[w.heap.size + 1 + 1]? = some (.cells #[.int .i64 0] 26 (0, 0)) := (h5.same _ (by omega) (by omega)).trans (blk_on HJ2.out.2.2 HM.out.2.2.2.2 (by omega))
    have H5 := Lib.hid h5
    have n7 := boxed_cell h5.box
    have n1 := boxed_cell j1
    have f1 := boxed_free j1
    have n2 := boxed_cell j2
    have f2 := boxed_free j2
    have HJ12 := Lib.hid (And.intro j1 j2)
    clear hJ4 h5 j1 j2 hW5
    gi_wp2
    have c2' := blk_set (blk_set_far HJ12.out.2 ⟨w.heap.size + 1, 0, none⟩ (.slice pv l.length cv) (by simp)) 0 (.int .i64 0)
    have c1' := blk_set_far (blk_set HJ12.out.1 0 (.slice pv l.length cv)) ⟨w.heap.size + 1 + 1, 0, none⟩ (.int .i64 0) (by simp)
    have hdf : ((W5.setCell ⟨w.heap.size + 1, 0, none⟩ (.slice pv l.length cv)).setCell ⟨w.heap.size + 1 + 1, 0, none⟩ (.int .i64 0)).heap[w3.heap.size]? = some (.deferred (some [])) := by
      rw [Below.heap_setCell _ _ _ _ (by simp; omega), Below.heap_setCell _ _ _ _ (by simp; omega)]; exact H5.out.dfr
    have hbl := ((H5.out.below.setCell (p := ⟨w.heap.size + 1, 0, none⟩) (by simp) (.slice pv l.length cv)).setCell (p := ⟨w.heap.size + 1 + 1, 0, none⟩) (by simp; omega) (.int .i64 0))
    have hh := (H5.out.has.aside ((((Aside.refl (fun k => k < w3.heap.size + 1) W5).setCell (p := ⟨w.heap.size + 1, 0, none⟩) (.inl (by simp; omega)) (.slice pv l.length cv)).setCell (p := ⟨w.heap.size + 1 + 1, 0, none⟩) (.inl (by simp; omega)) (.int .i64 0))) (fun k hk _ hc => by omega))
    have hh2 := hh.aside (aside_put (l := w3.heap.size) (.deferred none)) (fun k hk _ hc => by omega)
    refine ⟨by simp, .inl ⟨_, _, rfl, run_takeDeferred hdf, ?_⟩⟩
    refine ⟨_, results_two rfl _ _ (w.heap.size + 1) (w.heap.size + 1 + 1) _ _ rfl (boxed_cell ((World.putObj_heap_other (by omega)).trans c1')) Tryz.underlying25 rfl (boxed_cell ((World.putObj_heap_other (by omega)).trans c2')) Tryz.underlying26, ?_⟩
    exact ⟨pv, cv, rfl, hh2.lower (by omega), hbl.trans (below_put _ (by omega) hbl.size)⟩
  | error er =>
    have hX4 : UnpX w w3 (rec .done (some .ret)) er W4 := hend
    refine ⟨⟨_, rfl⟩, .inr ⟨hX4.lp, ?_⟩⟩
    have HX := Lib.hid hX4
    clear hX4 hend
    gi_wp2
    have hdf : (W4.putObj (w3.heap.size + 1) (.loop (rec .exhausted (some .ret)))).heap[w3.heap.size]? = some (.deferred (some [])) := (World.putObj_heap_other (by omega)).trans HX.out.dfr
    have hbl := HX.out.below.trans (below_put (l := w3.heap.size + 1) (.loop (rec .exhausted (some .ret))) (by omega) HX.out.below.size)
    refine ⟨by simp, .inl ⟨_, _, rfl, run_takeDeferred hdf, ?_⟩⟩
    refine ⟨_, results_two rfl _ _ (w.heap.size + 1) (w.heap.size + 1 + 1) _ _ rfl (boxed_cell ((World.putObj_heap_other (by omega)).trans ((World.putObj_heap_other (by omega)).trans HX.out.r1))) Tryz.underlying25 rfl (boxed_cell ((World.putObj_heap_other (by omega)).trans ((World.putObj_heap_other (by omega)).trans HX.out.r2))) Tryz.underlying26, ?_⟩
    exact ⟨rfl, hbl.trans (below_put _ (by omega) hbl.size)⟩
end Go.Proofs.YtpkbdnilakaakaaGreat

/- The law's own all(a, b): two lists of rows. -/
namespace Go.Proofs.YtpkbdnilakaakaaGreat
open Go.RowKit

attribute [local go_sem] run_store_float

set_option maxRecDepth 100000 in
set_option maxHeartbeats 2000000 in
theorem allK (l : List (List V)) (p q : Option Addr) (c d : Nat) (w : World) (hp : RowsL w p c l) (hq : RowsL w q d l) :
    Calls Tryz.prog 17 #[.slice p l.length c, .slice q l.length d] w fun e w' => e = .returned (.bool true) ∧ Below w.heap.size w w' := by
  have hlen := hp.len
  have HP := Lib.hid hp
  have HQ := Lib.hid hq
  clear hp hq
  go_enter Tryz.func17, Tryz.ntmps17
  go_wp2
  go_loopw [5] (fun v5 wr => ∃ j : Nat, j ≤ l.length ∧ v5 = .int .i64 j ∧ Hid (Below w.heap.size w wr)) (fun v5 _ => l.length - (intOf v5).toNat)
  case atStart => exact ⟨0, by omega, rfl, Below.refl _ _⟩
  case round =>
    obtain ⟨j, hj, rfl, HL⟩ := hrel
    by_cases hlt : j < l.length
    · obtain ⟨b1, o1, q1, d1, rfl, hb1, hc1, hr1⟩ := HP.out.rows j hlt
      obtain ⟨b2, o2, q2, d2, rfl, hb2, hc2, hr2⟩ := HQ.out.rows j hlt
      have a1 := cell_on HL.out hc1
      have a2 := cell_on HL.out hc2
      have HC : Hid (∀ w', Below w.heap.size w w' → Calls Tryz.prog 30 #[.agg #[.int .i64 0, .int .i64 0, .float .f64 0, .string ⟨#[]⟩, .slice q1 l[j].length d1], .agg #[.int .i64 0, .int .i64 0, .float .f64 0, .string ⟨#[]⟩, .slice q2 l[j].length d2]] w' fun e w'' => e = .returned (.bool true) ∧ Below w'.heap.size w' w'') := fun w' hb => by
        have h := exact6 _ _ w' _ _ (hr1.1.on hb) (hr2.1.on hb)
        rw [(V.exact_iff _ _).2 rfl] at h
        exact h
      have hj1 : (j : Int) < (l.length : Int) := by omega
      have HBw := Lib.hid HL.out
      clear hc1 hc2 hr1 hr2 HL
      go_wp2_with fail
      go_region_held3 (fun w' => w'.cell? ⟨b1, o1 + j, none⟩ = some (.slice q1 l[j].length d1) ∧ w'.cell? ⟨b2, o2 + j, none⟩ = some (.slice q2 l[j].length d2)) (go_keep) (first
        | (go_at_call 30; refine (HC.out _ (below_drewN HBw.out _)).mono ?_; rintro e w4 ⟨rfl, hb4⟩; have hb5 := below_via (w := wr) hb4 (by rfl) (by rfl) (by rfl) (by rfl); have z1 := cell_on hb5 a1; have z2 := cell_on hb5 a2; have HB4 := Lib.hid hb5; clear hb4 hb5)
        | fail)
      clear z1 z2 a1 a2
      have HN := Lib.hid (HBw.out.trans (HB4.out.mono HBw.out.size))
      clear HB4
      go_wp2
      go_roundw
      case rel => exact ⟨j + 1, by omega, by go_num, HN⟩
      case measure => simp [intOf]; omega
    · have hjn : ¬ (j : Int) < (l.length : Int) := by omega
      clear hlt
      go_wp2
      go_ret
      exact ⟨rfl, HL.out⟩
end Go.Proofs.YtpkbdnilakaakaaGreat

/- The law's own one(), number(n); plain facts on the chapter's examples. -/
namespace Go.Proofs.YtpkbdnilakaakaaGreat
open Go.RowKit

attribute [local go_sem] run_store_float

theorem tl_leafB (w : World) (k : Int) (p : Option Addr) (c : Nat) : TLies w (cells2 k p 0 c) (.mk k []) := .mk (xs := []) (fun _ => #[]) (by simp) (by simp) (fun hc => absurd rfl hc) (fun j hj => by simp at hj)
theorem vl_leafB (w : World) (k i : Int) (b : Nat) (t : ByteArray) (p : Option Addr) (c : Nat) : VLies w (cells5 k i b t p 0 c) (.mk k i b t []) := .mk (xs := []) (fun _ => #[]) (by simp) (by simp) (fun hc => absurd rfl hc) (fun j hj => by simp at hj)

/-- the schema of the chapter's examples -/
def oneA : Col := ⟨⟨#[97]⟩, .mk 2 [], false, V0⟩
def oneS : List Col := [oneA]
theorem oneA_err : Sch.colErr [] oneA = 0 := Sch.col_make (by kernel_rfl) rfl (Sch.ty_leaf (by omega) (by omega) (by omega)) (fun _ => Sch.v0_fix) (fun h => by cases h)
theorem one_bytes : Sch.bytes oneS = [1, 1, 97, 2, 0] := by
  unfold Sch.bytes oneS oneA Sch.cB
  simp only [List.map_cons, List.map_nil, Sch.tyB_mk]
  kernel_rfl
theorem one_err : Sch.err oneS = 0 := Sch.err_make (by decide) (by decide) (by
  unfold oneS
  rw [Sch.colsErr, if_pos oneA_err, Sch.colsErr]) (by rw [one_bytes]; decide)
theorem one_wf : ∀ c ∈ oneS, c.wf := by
  intro c hc
  unfold oneS at hc
  rcases List.mem_cons.1 hc with rfl | hc
  · exact ⟨by decide, Ty.wf_mk.2 ⟨by omega, fun x hx => by cases hx⟩, Sch.v0_wf⟩
  · cases hc
/-- a row of a number -/
def numR (n : Int) : List V := [.mk 2 n 0 ⟨#[]⟩ []]
theorem nrow_wf {n : Int} (h1 : -9223372036854775808 ≤ n) (h2 : n ≤ 9223372036854775807) : ∀ v ∈ numR n, v.wf := by
  intro v hv
  unfold numR at hv
  rcases List.mem_cons.1 hv with rfl | hv
  · exact V.wf_mk.2 ⟨by omega, by omega, by omega, Nat.zero_le _, fun x hx => by cases hx⟩
  · cases hv
theorem nrow_fix (n : Int) : (numR n).map V.fix = numR n := by
  unfold numR
  simp only [List.map_cons, List.map_nil, V.fix_mk, Sch.fixB_zero, V.fixL]
theorem nrow_bytes (n : Int) : Rw.bytes (numR n) = Leb.put (Leb.zig n) := by
  unfold Rw.bytes numR
  simp only [List.map_cons, List.map_nil, Sch.vB_mk]
  simp [Sch.vH]
theorem nrow_err (n : Int) (hl : (Leb.put (Leb.zig n)).length ≤ 1024) : Rw.err oneS (numR n) = 0 := Rw.err_make one_err rfl (by
  have h1 : Rw.vErr (.mk 2 []) (.mk 2 n 0 ⟨#[]⟩ []) = 0 := Rw.vErr_make (Sch.ty_leaf (by omega) (by omega) (by omega)) (Sch.chk_make (by omega) (by unfold V.ownB; simp [Sch.fixB_zero]) (Nat.zero_le _) (by simp) (fun h => by cases h) (fun x hx => by cases hx)) (by rw [Sch.of_mk]; rfl)
  unfold oneS numR oneA
  rw [Rw.colsErr, if_pos h1, Rw.colsErr]
  · intro c s v r h; cases h) (by rw [nrow_bytes]; exact hl)
theorem lebP1 : Leb.put (Leb.zig 1) = [2] := by kernel_rfl
theorem lebM1 : Leb.put (Leb.zig (-1)) = [1] := by kernel_rfl
theorem lebP64 : Leb.put (Leb.zig 64) = [128, 1] := by kernel_rfl
def three : List (List V) := [numR 1, numR (-1), numR 64]
theorem three_rows : Bt.rowsErr oneS three = 0 := by
  unfold three
  rw [Bt.rowsErr, if_pos (nrow_err 1 (by rw [lebP1]; decide)), Bt.rowsErr, if_pos (nrow_err (-1) (by rw [lebM1]; decide)), Bt.rowsErr, if_pos (nrow_err 64 (by rw [lebP64]; decide)), Bt.rowsErr]
theorem three_bytes : Bt.bytes three = [2, 1, 128, 1] := by
  unfold three
  simp only [Bt.bytes, nrow_bytes, lebP1, lebM1, lebP64]
  rfl
theorem three_err : Bt.err oneS three = 0 := Bt.err_make (Bt.numErr_make one_err (by decide) (by decide)) three_rows (by rw [three_bytes]; decide)
theorem three_wf : ∀ x ∈ three, ∀ v ∈ x, v.wf := by
  intro x hx
  unfold three at hx
  rcases List.mem_cons.1 hx with rfl | hx
  · exact nrow_wf (by omega) (by omega)
  rcases List.mem_cons.1 hx with rfl | hx
  · exact nrow_wf (by omega) (by omega)
  rcases List.mem_cons.1 hx with rfl | hx
  · exact nrow_wf (by omega) (by omega)
  · cases hx
theorem three_fix : three.map (fun x => x.map V.fix) = three := by
  unfold three
  simp only [List.map_cons, List.map_nil, nrow_fix]
theorem three_out : (Bt.out oneS three).length = 4 := by
  unfold Bt.out
  rw [if_pos three_err, three_bytes]
  rfl
theorem raw_five : Blk.unpack [0, 2, 1, 128, 1] = ⟨0, [2, 1, 128, 1]⟩ := by
  rw [Blk.unpack, if_neg (by decide), if_neg (by decide), if_neg (by decide)]
theorem unpack_three : Bt.unpack oneS [0, 2, 1, 128, 1] 3 = .ok three := by
  unfold Bt.unpack
  rw [Bt.numErr_make one_err (by omega) (by omega), if_neg (by simp), raw_five, if_neg (by simp)]
  have h := Bt.whole_put three_rows three_wf
  rw [three_bytes, three_fix] at h
  exact h
theorem unpack_two : Bt.unpack oneS [0, 2, 1, 128, 1] 2 = .error 5 := by
  unfold Bt.unpack
  rw [Bt.numErr_make one_err (by omega) (by omega), if_neg (by simp), raw_five, if_neg (by simp)]
  have h := Bt.rows_put (s := oneS) [128, 1] [numR 1, numR (-1)] [] (by
    rw [Bt.rowsErr, if_pos (nrow_err 1 (by rw [lebP1]; decide)), Bt.rowsErr, if_pos (nrow_err (-1) (by rw [lebM1]; decide)), Bt.rowsErr]) (fun x hx => three_wf x (by
      unfold three
      rcases List.mem_cons.1 hx with rfl | hx
      · simp
      rcases List.mem_cons.1 hx with rfl | hx
      · simp
      · cases hx))
  simp only [Bt.bytes, nrow_bytes, lebP1, lebM1, List.nil_append, List.append_nil, List.cons_append, List.length_cons, List.length_nil] at h
  unfold Bt.whole
  rw [show (2 : Int).toNat = 2 from rfl, h]
  exact if_pos (by decide)

set_option maxRecDepth 100000 in
set_option maxHeartbeats 1000000 in
theorem oneK (w : World) : Calls Tryz.prog 21 #[] w fun e w' => ∃ p c, e = .returned (.agg #[.slice p oneS.length c]) ∧ SchL w' p c oneS ∧ Below w.heap.size w w' := by
  obtain ⟨W, hW⟩ : ∃ W, W = (w.alloc (.cells #[.slice (some ⟨w.heap.size + 1, 0, none⟩) 1 1] 24)).alloc (.cells #[.string ⟨#[97]⟩, .int .i64 2, .slice none 0 0, .bool false, .int .i64 0, .int .i64 0, .float .f64 0, .string ⟨#[]⟩, .slice none 0 0] 69) := ⟨_, rfl⟩
  obtain ⟨h0, h1, hb, hs⟩ := al2 w (.cells #[.slice (some ⟨w.heap.size + 1, 0, none⟩) 1 1] 24) (.cells #[.string ⟨#[97]⟩, .int .i64 2, .slice none 0 0, .bool false, .int .i64 0, .int .i64 0, .float .f64 0, .string ⟨#[]⟩, .slice none 0 0] 69)
  rw [← hW] at h0 h1 hb hs
  have h3 := blk_cell h1
  have hcols : Cols W (some ⟨w.heap.size + 1, 0, none⟩) oneS := by
    intro j hj
    have hj2 : j < 1 := hj
    obtain rfl : j = 0 := by omega
    refine ⟨cells9 ⟨#[97]⟩ 2 none 0 0 false 0 0 0 ⟨#[]⟩ none 0 0, ⟨2, none, 0, 0, 0, 0, 0, ⟨#[]⟩, none, 0, 0, rfl, tl_leafB W 2 none 0, vl_leafB W 0 0 0 ⟨#[]⟩ none 0⟩, ⟨w.heap.size + 1, 0, ⟨#[97]⟩, 2, none, 0, 0, false, 0, 0, 0, ⟨#[]⟩, none, 0, 0, rfl, by omega, rfl, ?_⟩⟩
    exact ⟨h3 0, h3 1, h3 2, h3 3, h3 4, h3 5, h3 6, h3 7, h3 8⟩
  have HC : Hid (SchL W (some ⟨w.heap.size + 1, 0, none⟩) 1 oneS) := ⟨by decide, by decide, hcols, one_wf⟩
  have H0 := Lib.hid h0
  have HW := Lib.hid hW
  have HB := Lib.hid hb
  clear hcols h0 h1 h3 hs hW hb
  go_enter Tryz.func21, Tryz.ntmps21
  go_wp2
  rw [← HW.out]
  refine bodyPost_ret (results_cell_row rfl _ _ w.heap.size _ _ _ _ rfl H0.out Tryz.underlying24 rfl (by kernel_rfl)) rfl ?_
  exact ⟨_, _, rfl, HC.out, HB.out⟩

set_option maxRecDepth 100000 in
set_option maxHeartbeats 1000000 in
theorem numRowK (n : Int) (hn1 : -9223372036854775808 ≤ n) (hn2 : n ≤ 9223372036854775807) (w : World) : Calls Tryz.prog 20 #[.int .i64 n] w fun e w' => ∃ q d, e = .returned (.agg #[.slice q (numR n).length d]) ∧ RLies w' q d (numR n) ∧ Below w.heap.size w w' := by
  obtain ⟨W, hW⟩ : ∃ W, W = (w.alloc (.cells #[.slice (some ⟨w.heap.size + 1, 0, none⟩) 1 1] 41)).alloc (.cells #[.int .i64 2, .int .i64 n, .float .f64 0, .string ⟨#[]⟩, .slice none 0 0] 44) := ⟨_, rfl⟩
  obtain ⟨h0, h1, hb, hs⟩ := al2 w (.cells #[.slice (some ⟨w.heap.size + 1, 0, none⟩) 1 1] 41) (.cells #[.int .i64 2, .int .i64 n, .float .f64 0, .string ⟨#[]⟩, .slice none 0 0] 44)
  rw [← hW] at h0 h1 hb hs
  have HL : Hid (RLies W (some ⟨w.heap.size + 1, 0, none⟩) 1 (numR n)) := by
    refine ⟨?_, nrow_wf hn1 hn2⟩
    refine .mk (xs := numR n) (fun _ => cells5 2 n 0 ⟨#[]⟩ none 0 0) (by simp [numR]) (by simp [numR]) (fun _ => ⟨w.heap.size + 1, 0, rfl, by omega, fun j hj m hm => ?_⟩) (fun j hj => ?_)
    · have hj0 : j = 0 := by simp [numR] at hj; omega
      subst hj0
      simp [World.cell?, h1, cells5]
    · have hj0 : j = 0 := by simp [numR] at hj; omega
      subst hj0
      exact vl_leafB W 2 n 0 ⟨#[]⟩ none 0
  have H0 := Lib.hid h0
  have HW := Lib.hid hW
  have HB := Lib.hid hb
  clear h0 h1 hs hW hb
  go_enter Tryz.func20, Tryz.ntmps20
  go_wp2
  rw [← HW.out]
  refine bodyPost_ret (results_cell_row rfl _ _ w.heap.size _ _ _ _ rfl H0.out Tryz.underlying41 rfl (by kernel_rfl)) rfl ?_
  exact ⟨_, _, rfl, HL.out, HB.out⟩
end Go.Proofs.YtpkbdnilakaakaaGreat

/- The law's own live(). -/
namespace Go.Proofs.YtpkbdnilakaakaaGreat
open Go.RowKit

attribute [local go_sem] run_store_float

set_option maxRecDepth 100000 in
set_option maxHeartbeats 4000000 in
theorem live11 (HR : RowsIn) (w : World) : Calls Tryz.prog 10 #[] w fun e w' => e = .returned (.bool true) ∧ Below w.heap.size w w' := by
  have HRI := Lib.hid HR
  clear HR
  go_enter Tryz.func10, Tryz.ntmps10
  go_wp2_with fail
  refine (numRowK 1 (by omega) (by omega) w).mono ?_
  rintro e w1 ⟨q1, d1, rfl, hr1, hb1⟩
  have HR1 := Lib.hid hr1
  have HB1 := Lib.hid hb1
  clear hr1 hb1
  go_wp2_with fail
  refine (numRowK (-1) (by omega) (by omega) w1).mono ?_
  rintro e w2 ⟨q2, d2, rfl, hr2, hb2⟩
  have HR2 := Lib.hid hr2
  have HB2 := Lib.hid hb2
  clear hr2 hb2
  go_wp2_with fail
  refine (numRowK 64 (by omega) (by omega) w2).mono ?_
  rintro e w3 ⟨q3, d3, rfl, hr3, hb3⟩
  obtain ⟨W, hW⟩ : ∃ W, W = w3.alloc (.cells #[.slice q1 (numR 1).length d1, .slice q2 (numR (-1)).length d2, .slice q3 (numR 64).length d3] 41) := ⟨_, rfl⟩
  have hbW : Below w3.heap.size w3 W := by rw [hW]; exact (Below.refl _ _).alloc (Nat.le_refl _) _
  have hblk : W.heap[w3.heap.size]? = some (.cells #[.slice q1 (numR 1).length d1, .slice q2 (numR (-1)).length d2, .slice q3 (numR 64).length d3] 41 (0, 0)) := by rw [hW]; exact blk_new w3 _
  have h3W : Below w2.heap.size w2 W := hb3.trans (hbW.mono hb3.size)
  have h2W : Below w1.heap.size w1 W := HB2.out.trans (h3W.mono HB2.out.size)
  have HBW := Lib.hid (HB1.out.trans (h2W.mono HB1.out.size))
  have HRW : Hid (RowsL W (some ⟨w3.heap.size, 0, none⟩) 3 three) := by
    refine ⟨by decide, by decide, fun j hj => ?_⟩
    have hj3 : j < 3 := hj
    rcases (show j = 0 ∨ j = 1 ∨ j = 2 by omega) with rfl | rfl | rfl
    · exact ⟨w3.heap.size, 0, q1, d1, rfl, blk_lt hblk, by rw [blk_cell hblk]; rfl, HR1.out.on h2W⟩
    · exact ⟨w3.heap.size, 0, q2, d2, rfl, blk_lt hblk, by rw [blk_cell hblk]; rfl, HR2.out.on h3W⟩
    · exact ⟨w3.heap.size, 0, q3, d3, rfl, blk_lt hblk, by rw [blk_cell hblk]; rfl, hr3.on hbW⟩
  have HW := Lib.hid hW
  clear hr3 hb3 hbW hW hblk h3W h2W HR1 HR2 HB1 HB2
  go_wp2_with fail
  rw [← HW.out]
  clear HW
  refine (oneK W).mono ?_
  rintro e w4 ⟨p4, c4, rfl, hs4, hb4⟩
  have hZ := sizeK HRI.out oneS p4 c4 three (some ⟨w3.heap.size, 0, none⟩) 3 w4 hs4 (HRW.out.on hb4)
  rw [three_err, three_out] at hZ
  have HZ := Lib.hid hZ
  have HB4 := Lib.hid hb4
  clear hZ hs4 hb4
  go_wp2_with fail
  refine HZ.out.mono ?_
  rintro e w5 ⟨rfl, hb5⟩
  have HB5 := Lib.hid (HB4.out.trans (hb5.mono HB4.out.size))
  clear hb5 HB4 HZ
  go_wp2_with fail
  refine (oneK w5).mono ?_
  rintro e w6 ⟨p6, c6, rfl, hs6, hb6⟩
  obtain ⟨wa, hwa⟩ : ∃ wa, wa = w6.alloc (.cells #[.int .u8 0, .int .u8 2, .int .u8 1, .int .u8 128, .int .u8 1] 5) := ⟨_, rfl⟩
  have hba : Below w6.heap.size w6 wa := by rw [hwa]; exact (Below.refl _ _).alloc (Nat.le_refl _) _
  have hata : At wa (some ⟨w6.heap.size, 0, none⟩) [0, 2, 1, 128, 1] := by rw [hwa]; exact (has_lit (B := 0) (w := w6) [0, 2, 1, 128, 1] rfl (Nat.zero_le _) (by decide)).here
  have hU := unpackBK HRI.out oneS p6 c6 [0, 2, 1, 128, 1] (some ⟨w6.heap.size, 0, none⟩) 5 3 wa (hs6.on hba) (by decide) (by decide) hata
  rw [unpack_three] at hU
  have HU := Lib.hid hU
  have HB6 := Lib.hid (HB5.out.trans ((hb6.trans (hba.mono hb6.size)).mono HB5.out.size))
  have HWa := Lib.hid hwa
  clear hU hata hba hwa hs6 hb6 HB5
  go_wp2_with fail
  rw [← HWa.out]
  clear HWa
  refine HU.out.mono ?_
  rintro e w7 ⟨q7, c7, rfl, hr7, hb7⟩
  have HR7 := Lib.hid (hr7.rows (by decide) three_wf)
  have HB7 := Lib.hid (HB6.out.trans (hb7.mono HB6.out.size))
  clear hr7 hb7 HU HB6
  go_wp2_with fail
  refine (oneK w7).mono ?_
  rintro e w8 ⟨p8, c8, rfl, hs8, hb8⟩
  obtain ⟨wb, hwb⟩ : ∃ wb, wb = w8.alloc (.cells #[.int .u8 0, .int .u8 2, .int .u8 1, .int .u8 128, .int .u8 1] 5) := ⟨_, rfl⟩
  have hbb : Below w8.heap.size w8 wb := by rw [hwb]; exact (Below.refl _ _).alloc (Nat.le_refl _) _
  have hatb : At wb (some ⟨w8.heap.size, 0, none⟩) [0, 2, 1, 128, 1] := by rw [hwb]; exact (has_lit (B := 0) (w := w8) [0, 2, 1, 128, 1] rfl (Nat.zero_le _) (by decide)).here
  have hU := unpackBK HRI.out oneS p8 c8 [0, 2, 1, 128, 1] (some ⟨w8.heap.size, 0, none⟩) 5 2 wb (hs8.on hbb) (by decide) (by decide) hatb
  rw [unpack_two] at hU
  have HU := Lib.hid hU
  have HB78 := Lib.hid (hb8.trans (hbb.mono hb8.size))
  have HWb := Lib.hid hwb
  clear hU hatb hbb hwb hs8 hb8
  go_wp2_with fail
  rw [← HWb.out]
  clear HWb
  refine HU.out.mono ?_
  rintro e w9 ⟨rfl, hb9⟩
  have HB79 := Lib.hid (HB78.out.trans (hb9.mono HB78.out.size))
  have HB9 := Lib.hid (HB7.out.trans (HB79.out.mono HB7.out.size))
  clear hb9 HB78 HU
  go_wp2_with fail
  refine (oneK w9).mono ?_
  rintro e w10 ⟨p10, c10, rfl, hs10, hb10⟩
  have HP := Lib.hid (packBK HRI.out oneS p10 c10 three (some ⟨w3.heap.size, 0, none⟩) 3 w10 hs10 (HRW.out.on (HB9.out.trans (hb10.mono HB9.out.size))))
  have HB910 := Lib.hid hb10
  clear hs10 hb10
  go_wp2_with fail
  refine HP.out.mono ?_
  rintro e w11 ⟨q11, m11, c11, rfl, hm11, hh11, hb11⟩
  subst hm11
  obtain ⟨ep, hep⟩ := Bt.pack_unpack three_err three_wf
  rw [ep]
  have HH11 := Lib.hid hh11
  have HB911 := Lib.hid (HB910.out.trans (hb11.mono HB910.out.size))
  have HEp := Lib.hid hep
  clear hh11 hb11 HP HB910 ep hep
  obtain ⟨P, hP⟩ : ∃ P, P = (Bt.pack oneS three).out := ⟨_, rfl⟩
  have hpl : P.length ≤ 5 := by
    rw [hP]
    unfold Bt.pack
    rw [if_pos three_err]
    have := (Blk.pack_back (b := Bt.bytes three) (by rw [three_bytes]; decide)).2.2
    rw [three_bytes] at this ⊢
    exact this
  rw [← hP] at HH11 HEp ⊢
  clear hP
  go_wp2_with fail
  refine (oneK w11).mono ?_
  rintro e w12 ⟨p12, c12, rfl, hs12, hb12⟩
  obtain ⟨pv, cv, hpv, hat, hcv⟩ := (HH11.out.on hb12).at
  injection hpv with e1 _ e2
  subst e1 e2
  have hU := unpackBK HRI.out oneS p12 c12 P q11 c11 3 w12 hs12 (by omega) hcv hat
  have e3 : ((three.length : Nat) : Int) = 3 := rfl
  rw [← e3, HEp.out, three_fix, e3] at hU
  have HU := Lib.hid hU
  have HB912 := Lib.hid (HB911.out.trans (hb12.mono HB911.out.size))
  clear hU hat hs12 hb12 HB911 HEp HH11 e3
  go_wp2_with fail
  refine HU.out.mono ?_
  rintro e w13 ⟨q13, c13, rfl, hr13, hb13⟩
  have HR13 := Lib.hid (hr13.rows (by decide) three_wf)
  have HB913 := Lib.hid (HB912.out.trans (hb13.mono HB912.out.size))
  have HB713 := Lib.hid (HB79.out.trans (HB913.out.mono HB79.out.size))
  have HBW13 := Lib.hid (HB7.out.trans (HB713.out.mono HB7.out.size))
  clear hr13 hb13 HU HB912 HB913 HB79 HB9
  go_wp2_with fail
  refine (allK three q7 (some ⟨w3.heap.size, 0, none⟩) c7 3 w13 (HR7.out.on HB713.out) (HRW.out.on HBW13.out)).mono ?_
  rintro e w14 ⟨rfl, hb14⟩
  have HB14 := Lib.hid hb14
  have HBW14 := Lib.hid (HBW13.out.trans (hb14.mono HBW13.out.size))
  clear hb14
  go_wp2_with fail
  refine (allK three q13 (some ⟨w3.heap.size, 0, none⟩) c13 3 w14 (HR13.out.on HB14.out) (HRW.out.on HBW14.out)).mono ?_
  rintro e w15 ⟨rfl, hb15⟩
  have HBF := Lib.hid (HBW.out.trans ((HBW14.out.trans (hb15.mono HBW14.out.size)).mono HBW.out.size))
  clear hb15
  go_wp2
  go_ret
  exact ⟨rfl, HBF.out⟩
end Go.Proofs.YtpkbdnilakaakaaGreat

/- BatchOnce: the walk. -/
namespace Go.Proofs.YtpkbdnilakaakaaGreat
open Go.RowKit

attribute [local go_sem] run_store_float

/-- the error of an answer -/
def Bt.code : Except Nat (List (List V)) → Nat
  | .ok _ => 0
  | .error er => er
theorem UnpA.any {w w' : World} {R : Except Nat (List (List V))} {e : Ending} (h : UnpA w R e w') : ∃ q m c, e = .returned (.tuple #[.slice q m c, .int .i64 (Bt.code R : Nat)]) ∧ Below w.heap.size w w' := by
  cases R with
  | error er => exact ⟨none, 0, 0, h.1, h.2⟩
  | ok l =>
    obtain ⟨q, c, h1, _, h3⟩ := h
    exact ⟨q, _, c, h1, h3⟩
theorem Bt.code_zero {s : List Col} {b : List UInt8} {n : Int} (h : Bt.code (Bt.unpack s b n) = 0) : ∃ l, Bt.unpack s b n = .ok l := by
  cases hr : Bt.unpack s b n with
  | ok l => exact ⟨l, rfl⟩
  | error er =>
    rw [hr] at h
    exact absurd h (Bt.unpack_err hr)

/-- the law's argument, as it lies -/
structure BothL (w : World) (p : Option Addr) (c : Nat) (s : List Col) (q : Option Addr) (d : Nat) (l : List (List V)) (r : Option Addr) (e : Nat) (b : List UInt8) : Prop where
  sch : SchL w p c s
  rows : RowsL w q d l
  at_ : At w r b
  len : b.length ≤ 140737488351232
  cap : b.length ≤ e
theorem BothL.on {w w' : World} {p : Option Addr} {c : Nat} {s : List Col} {q : Option Addr} {d : Nat} {l : List (List V)} {r : Option Addr} {e : Nat} {b : List UInt8} (h : BothL w p c s q d l r e b) (hb : Below w.heap.size w w') : BothL w' p c s q d l r e b := ⟨h.sch.on hb, h.rows.on hb, h.at_.on hb, h.len, h.cap⟩

end Go.Proofs.YtpkbdnilakaakaaGreat
