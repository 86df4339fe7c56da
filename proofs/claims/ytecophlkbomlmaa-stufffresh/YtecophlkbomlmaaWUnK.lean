/- The walk of package stuff's Unstuff: each group is told to a closure that puts it and its zero byte; the last zero byte is taken off. -/
import Derived.Test.YtecophlkbomlmaaWReadK
namespace Go.Proofs.Ytecophlkbomlmaa
open Go.RowKit

/-- the closure's variables: the bytes in g, how many the last group has in g + 2, the one ahead of it in g + 1 -/
structure UnI (w : World) (g : Nat) (ys : List UInt8) (la ah : Nat) (w' : World) : Prop where
  below : Below w.heap.size w w'
  base : w.heap.size ≤ g
  var : ∃ s cap, Var w' w.heap.size g s cap ys
  last : w'.heap[g + 2]? = some (.cells #[.int .i64 la] 3 (0, 0))
  ahead : w'.heap[g + 1]? = some (.cells #[.int .i64 ah] 3 (0, 0))

theorem kept_far {W W' : World} {s b : Nat} {o : Obj} (h : W.heap[b]? = some o) (hg : W.grownBy W' (some s)) (hne : b ≠ s) : W'.heap[b]? = some o :=
  (hg.block b (one_lt h) (fun hc => hne (Option.some.inj hc))).trans h

/-- the bytes are put: what else stands stays -/
theorem un_put {w W W' : World} {g s cap s' cap' la ah : Nat} {ys zs : List UInt8} (hb : Below w.heap.size w W) (hg : w.heap.size ≤ g) (hv : Var W w.heap.size g s cap ys) (hl : W.heap[g + 2]? = some (.cells #[.int .i64 la] 3 (0, 0)))
    (ha : W.heap[g + 1]? = some (.cells #[.int .i64 ah] 3 (0, 0))) (hm : Mine W' w.heap.size s' cap' zs) (hgr : W.grownBy W' (some s)) :
    UnI w g zs la ah (W'.setCell ⟨g, 0, none⟩ (.slice (some ⟨s', 0, none⟩) zs.length cap')) := by
  have h2 := kept_far hl hgr (fun hc => mine_ne hv.mine hl (by decide) hc.symm)
  have h1 := kept_far ha hgr (fun hc => mine_ne hv.mine ha (by decide) hc.symm)
  refine ⟨(stu_grown hb hv.mine.base.1 hgr).setCell (p := ⟨g, 0, none⟩) hg _, hg, ⟨s', cap', var_store (hv.still hgr) hm⟩, kept_far h2 (grown_set W' g _) (by omega), kept_far h1 (grown_set W' g _) (by omega)⟩
/-- the two counts are told -/
theorem un_told {w W : World} {g la ah : Nat} {ys : List UInt8} (h : UnI w g ys la ah W) (n : Nat) :
    UnI w g ys n la ((W.setCell ⟨g + 1, 0, none⟩ (.int .i64 la)).setCell ⟨g + 2, 0, none⟩ (.int .i64 n)) := by
  obtain ⟨hb, hg, ⟨s, cap, hv⟩, hl, ha⟩ := h
  have m1 := mine_grown hv.mine (grown_set W (g + 1) (.int .i64 la)) (mine_ne hv.mine ha (by decide))
  have b1 := kept_far hv.box (grown_set W (g + 1) (.int .i64 la)) (by omega)
  have l1 := kept_far hl (grown_set W (g + 1) (.int .i64 la)) (by omega)
  have a1 := one_set ha (.int .i64 la)
  refine ⟨(hb.setCell (p := ⟨g + 1, 0, none⟩) (by show w.heap.size ≤ g + 1; omega) _).setCell (p := ⟨g + 2, 0, none⟩) (by show w.heap.size ≤ g + 2; omega) _, hg, ⟨s, cap, ?_, ?_⟩, one_set l1 _, kept_far a1 (grown_set _ (g + 2) _) (by omega)⟩
  · exact kept_far b1 (grown_set _ (g + 2) _) (by omega)
  · exact mine_grown m1 (grown_set _ (g + 2) _) (mine_ne m1 l1 (by decide))

set_option maxRecDepth 100000 in
set_option maxHeartbeats 2000000 in
theorem un_tell (w : World) (g : Nat) (ys t : List UInt8) (la ah : Nat) (q : Option Addr) (k : Nat) (w' : World) (h : UnI w g ys la ah w') (hq : ∀ ys la ah w'', UnI w g ys la ah w'' → At w'' q t) (ht : t.length ≤ 254) (hb : ys.length + t.length + 1 ≤ 150000000004096) :
    Calls Try.prog 18 #[.slice q t.length k, .pointer (some ⟨g, 0, none⟩), .pointer (some ⟨g + 2, 0, none⟩), .pointer (some ⟨g + 1, 0, none⟩)] w' fun e w'' => e = .returned (.tuple #[]) ∧ UnI w g (ys ++ t ++ if t.length < 254 then [0] else []) t.length la w'' := by
  have HU := Lib.hid h
  obtain ⟨hbl, hg, ⟨s, cap, hv⟩, hl, ha⟩ := h
  have hc := one_cell hv.box
  have HA0 := Lib.hid (hq _ _ _ _ HU.out)
  have HV := Lib.hid hv
  have HB := Lib.hid hbl
  have HL := Lib.hid hl
  have HH := Lib.hid ha
  have hB := hbl.size
  clear hv hbl hl ha hq
  by_cases h254 : t.length < 254
  · have h254' : (t.length : Int) < 254 := by omega
    rw [if_pos h254]
    go_enter Try.func18, Try.ntmps18
    go_wp2_with (first
      | (at_builtin; refine wp_onto1 HV.out.mine HA0.out (by omega) hB rfl rfl rfl rfl rfl ?_; intro zs s1 cap1 W1 HZ hm1 hg1
         have hf1 := one_free (HV.out.still hg1)
         have hc0 := one_cell (HV.out.still hg1)
         have HU1 := Lib.hid (un_put HB.out hg HV.out HL.out HH.out hm1 hg1)
         have HV1 := Lib.hid (var_store (HV.out.still hg1) hm1)
         have hc1 := one_cell HV1.out.box
         have hl1 : zs.length ≤ ys.length + t.length := by rw [HZ.out]; simp
         clear hm1 hg1 HV HA0)
      | (at_builtin; refine wp_push1 HV1.out.mine 0 (by omega) HU1.out.below.size rfl rfl rfl rfl rfl rfl (by simp [World.setCell]) ?_; intro us s2 cap2 W2 HY hm2 hg2
         have hf2 := one_free (HV1.out.still hg2)
         have hc2 := one_cell (HV1.out.still hg2)
         have HU2 := Lib.hid (un_put HU1.out.below hg HV1.out HU1.out.last HU1.out.ahead hm2 hg2)
         have hcl := one_cell HU2.out.last
         have hca := one_cell HU2.out.ahead
         have hfl := one_free HU2.out.last
         have hfa := one_free HU2.out.ahead
         clear hm2 hg2 HV1))
    go_end0
    have hu : ys ++ t ++ [0] = us := by rw [HY.out, HZ.out]
    rw [hu]
    exact ⟨rfl, un_told HU2.out _⟩
  · rw [if_neg h254, List.append_nil]
    go_enter Try.func18, Try.ntmps18
    go_wp2_with (at_builtin; refine wp_onto1 HV.out.mine HA0.out (by omega) hB rfl rfl rfl rfl rfl ?_; intro zs s1 cap1 W1 HZ hm1 hg1
                 have hf1 := one_free (HV.out.still hg1)
                 have hc0 := one_cell (HV.out.still hg1)
                 have HU1 := Lib.hid (un_put HB.out hg HV.out HL.out HH.out hm1 hg1)
                 have hcl := one_cell HU1.out.last
                 have hca := one_cell HU1.out.ahead
                 have hfl := one_free HU1.out.last
                 have hfa := one_free HU1.out.ahead
                 clear hm1 hg1 HV HA0)
    go_end0
    rw [← HZ.out]
    exact ⟨rfl, un_told HU1.out _⟩

theorem heap_old (w : World) (o : Obj) {k : Nat} (h : k < w.heap.size) : (w.alloc o).heap[k]? = w.heap[k]? := by
  show (w.heap.push o)[k]? = _
  rw [Array.getElem?_push, if_neg (by omega)]

theorem free_left {w : World} {g o : Nat} {xs zs : List UInt8} (h : Free w g o (xs ++ zs)) : Free w g o xs :=
  ⟨h.1, fun j hj => by
    have := h.2.1 j (by rw [List.length_append]; omega)
    rwa [List.getElem_append_left hj] at this, fun j hj => h.2.2 j (by rw [List.length_append]; omega)⟩

/-- what Unstuff's answer is asked to be -/
def UnPost (w : World) (l : List UInt8) (e : Ending) (w' : World) : Prop :=
  ∃ q cap, e = .returned (.tuple #[.slice q (Cob.un l).2.length cap, .int .i64 ((Cob.un l).1 : Nat)]) ∧ At w' q (Cob.un l).2 ∧ (Cob.un l).2.length ≤ cap ∧ ((Cob.un l).2 ≠ [] → ∃ g o, q = some ⟨g, o, none⟩ ∧ w.heap.size ≤ g ∧ Free w' g o (Cob.un l).2) ∧ Below w.heap.size w w'
theorem un_none_post {w w' : World} {l : List UInt8} {c : Nat} (h : Cob.un l = (c, [])) (hb : Below w.heap.size w w') : UnPost w l (.returned (.tuple #[.slice none 0 0, .int .i64 c])) w' := by
  unfold UnPost
  rw [h]
  exact ⟨none, 0, rfl, .inl rfl, Nat.le_refl _, fun hc => absurd rfl hc, hb⟩
theorem un_some_post {w w' : World} {l xs : List UInt8} {s cap : Nat} (h : Cob.un l = (0, xs)) (hf : Free w' s 0 xs) (hs : w.heap.size ≤ s) (hc : xs.length ≤ cap) (hb : Below w.heap.size w w') : UnPost w l (.returned (.tuple #[.slice (some ⟨s, 0, none⟩) xs.length cap, .int .i64 0])) w' := by
  unfold UnPost
  rw [h]
  exact ⟨_, cap, rfl, hf.at, hc, fun _ => ⟨s, 0, rfl, hs, hf⟩, hb⟩

theorem nz_of_first {l : List UInt8} (h : FirstZ l l.length) : Cob.Nz l := by
  intro c hc
  obtain ⟨j, hj, rfl⟩ := List.getElem_of_mem hc
  exact h.2.1 j hj hj

set_option maxRecDepth 100000 in
set_option maxHeartbeats 2000000 in
theorem unstuffK (p : Option Addr) (c : Nat) (l : List UInt8) (w : World) (hl : l.length ≤ 150000000000000) (hlc : l.length ≤ c) (h : At w p l) :
    Calls Try.prog 12 #[.slice p l.length c] w fun e w' => UnPost w l e w' := by
  obtain ⟨i0, hi, hz0, hz1, hz2⟩ := info_parts info8
  have HA := Lib.hid h
  have HF := Lib.hid (firstZero_ok p c l hl w h)
  clear h
  go_enter Try.func12, Try.ntmps12
  go_wp2_with fail
  refine HF.out.mono ?_
  rintro e w1 ⟨k, rfl, hFz, rfl⟩
  have hkl := hFz.1
  have HFz := Lib.hid hFz
  clear hFz HF
  by_cases hk : k < l.length
  · have hk' : (k : Int) < (l.length : Int) := by omega
    have h0 : Cob.un l = (40, []) := Cob.un_zero (by rw [← HFz.out.2.2 hk]; exact List.getElem_mem hk)
    have H0 := Lib.hid h0
    clear h0
    go_wp2
    go_ret2
    exact un_none_post H0.out (Below.refl _ _)
  · have hkk : k = l.length := by omega
    subst hkk
    have HZ := Lib.hid (nz_of_first HFz.out)
    clear HFz hk
    go_wp2_with (first
      | (at_make; refine wpList_make_own _ rfl _ _ 22 rfl w1.heap.size 5 i0 (.int .u8 0) 1 Try.underlying22 hi hz0 hz1 .i64 .i64 l.length l.length rfl rfl rfl (by rw [hz2]; omega) (by unfold maxLen; omega) (Nat.le_refl _) ?_; intro w2 hown hgrow
         have HM2 : Hid (Mine w2 w1.heap.size w1.heap.size l.length []) := hown
         have HG2 := Lib.hid hgrow
         clear hown hgrow)
      | fail)
    have hs2 : w1.heap.size ≤ w2.heap.size := HG2.out.size
    have hB2 : Below w1.heap.size w1 w2 := (Below.refl _ _).grown HG2.out (Nat.le_refl _) (fun k hk => by cases hk)
    have HR : Hid (Calls Try.prog 17 #[.slice p l.length c, .func (.func 18) #[] #[.pointer (some ⟨w2.heap.size, 0, none⟩), .pointer (some ⟨w2.heap.size + 2, 0, none⟩), .pointer (some ⟨w2.heap.size + 1, 0, none⟩)]]
        (((w2.alloc (.cells #[.slice (some ⟨w1.heap.size, 0, none⟩) 0 l.length] 22)).alloc (.cells #[.int .i64 0] 3)).alloc (.cells #[.int .i64 0] 3))
        fun e w' => ∃ ys la ah, UnI w1 w2.heap.size ys la ah w' ∧ ((e = .returned (.int .i64 30) ∧ Cob.un l = (30, [])) ∨ (e = .returned (.int .i64 0) ∧ l ≠ [] ∧ Cob.Rd l l.length ys la ah))) := by
      have hst : UnI w1 w2.heap.size [] 0 0 (((w2.alloc (.cells #[.slice (some ⟨w1.heap.size, 0, none⟩) 0 l.length] 22)).alloc (.cells #[.int .i64 0] 3)).alloc (.cells #[.int .i64 0] 3)) := by
        refine ⟨((hB2.alloc (by omega) _).alloc (by simp; omega) _).alloc (by simp; omega) _, hs2, ⟨w1.heap.size, l.length, ?_, ?_⟩, ?_, ?_⟩
        · rw [heap_old _ _ (by simp; omega), heap_old _ _ (by simp)]
          exact heap_new w2 _
        · exact World.ownsRow.alloc (World.ownsRow.alloc (World.ownsRow.alloc HM2.out _) _) _
        · have := heap_new ((w2.alloc (.cells #[.slice (some ⟨w1.heap.size, 0, none⟩) 0 l.length] 22)).alloc (.cells #[.int .i64 0] 3)) (.cells #[.int .i64 0] 3)
          simpa using this
        · rw [heap_old _ _ (by simp)]
          have := heap_new (w2.alloc (.cells #[.slice (some ⟨w1.heap.size, 0, none⟩) 0 l.length] 22)) (.cells #[.int .i64 0] 3)
          simpa using this
      show Calls _ _ _ _ _
      by_cases hne : l = []
      · subst hne
        refine (readGroups_none p c _ _).mono ?_
        rintro e w' ⟨rfl, rfl⟩
        exact ⟨[], 0, 0, hst, .inl ⟨rfl, Cob.un_none⟩⟩
      · obtain ⟨b, o, rfl, -, -⟩ := at_some HA.out (List.length_pos_iff.2 hne)
        refine (readGroups_in 18 ⟨w2.heap.size, 0, none⟩ ⟨w2.heap.size + 2, 0, none⟩ ⟨w2.heap.size + 1, 0, none⟩ (UnI w1 w2.heap.size) b o c l _ hl hlc hne HZ.out (fun args w => enters_body Try.func18 (by kernel_rfl) rfl args w)
          (fun ys la ah w' hu => HA.out.on hu.below) hst (fun ys la ah q k t w' hu hq ht hb _ => un_tell w1 w2.heap.size ys t la ah q k w' hu hq ht hb)).mono ?_
        rintro e w' ⟨ys, la, ah, hu, h1 | h1⟩
        · exact ⟨ys, la, ah, hu, .inl h1⟩
        · exact ⟨ys, la, ah, hu, .inr ⟨h1.1, hne, h1.2⟩⟩
    refine HR.out.mono ?_
    rintro e w3 ⟨ys, la, ah, hu, hcase⟩
    have HU := Lib.hid hu
    clear HR hB2
    rcases hcase with ⟨rfl, h30⟩ | ⟨rfl, hne, hrd⟩
    · have H30 := Lib.hid h30
      clear h30 hu
      go_wp2
      go_ret2
      exact un_none_post H30.out HU.out.below
    · obtain ⟨s, cap, hv⟩ := hu.var
      have HV := Lib.hid hv
      have hcv := one_cell hv.box
      have hfv := one_free hv.box
      have hcl := one_cell hu.last
      have hca := one_cell hu.ahead
      obtain ⟨xs, hys, hun⟩ := Cob.rd_end HZ.out hne hrd
      have hyb := (Cob.rd_le hrd).1
      clear hv hu hrd hne
      by_cases hah : ah = 254
      · have hb1 : ((ah : Int) == 254) = true := by rw [beq_iff_eq]; omega
        by_cases hl0 : la = 0
        · have hb2 : ((la : Int) == 0) = true := by rw [beq_iff_eq]; omega
          rw [if_pos ⟨hah, hl0⟩] at hun
          have HUN := Lib.hid hun
          clear hun hys
          go_wp2
          go_ret2
          exact un_none_post HUN.out HU.out.below
        · have hb2 : ((la : Int) == 0) = false := by rw [beq_eq_false_iff_ne]; omega
          rw [if_neg (fun hc => hl0 hc.2)] at hun
          have HUN := Lib.hid hun
          clear hun
          by_cases hla : la < 254
          · have hla' : (la : Int) < 254 := by omega
            rw [if_pos hla] at hys
            have hyl : ys.length = xs.length + 1 := by rw [hys]; simp
            have hcl : xs.length ≤ cap := by have := HV.out.mine.base.2.2; omega
            have HYS := Lib.hid hys
            have HYL := Lib.hid hyl
            have hyp : 1 ≤ ys.length := by omega
            have hxb : xs.length ≤ 150000000000001 := by omega
            have hym : (ys.length : Int) - 1 = (xs.length : Int) := by omega
            clear hys hyl
            go_wp2
            go_ret2
            refine un_some_post HUN.out (free_left (zs := [0]) ?_) HV.out.mine.base.1 hcl (HU.out.below.setCell (p := ⟨w2.heap.size, 0, none⟩) (by show w1.heap.size ≤ w2.heap.size; exact hs2) _)
            have hm := mine_grown HV.out.mine (grown_set w3 w2.heap.size (.slice (some ⟨s, 0, none⟩) xs.length cap)) HV.out.ne
            rw [← HYS.out]
            exact hm.free
          · have hla' : ¬ (la : Int) < 254 := by omega
            rw [if_neg hla, List.append_nil] at hys
            subst hys
            go_wp2
            go_ret2
            exact un_some_post HUN.out HV.out.mine.free HV.out.mine.base.1 HV.out.mine.base.2.2 HU.out.below
      · have hb1 : ((ah : Int) == 254) = false := by rw [beq_eq_false_iff_ne]; omega
        rw [if_neg (fun hc => hah hc.1)] at hun
        have HUN := Lib.hid hun
        clear hun
        by_cases hla : la < 254
        · have hla' : (la : Int) < 254 := by omega
          rw [if_pos hla] at hys
          have hyl : ys.length = xs.length + 1 := by rw [hys]; simp
          have hcl : xs.length ≤ cap := by have := HV.out.mine.base.2.2; omega
          have HYS := Lib.hid hys
          have HYL := Lib.hid hyl
          have hyp : 1 ≤ ys.length := by omega
          have hxb : xs.length ≤ 150000000000001 := by omega
          have hym : (ys.length : Int) - 1 = (xs.length : Int) := by omega
          clear hys hyl
          go_wp2
          go_ret2
          refine un_some_post HUN.out (free_left (zs := [0]) ?_) HV.out.mine.base.1 hcl (HU.out.below.setCell (p := ⟨w2.heap.size, 0, none⟩) (by show w1.heap.size ≤ w2.heap.size; exact hs2) _)
          have hm := mine_grown HV.out.mine (grown_set w3 w2.heap.size (.slice (some ⟨s, 0, none⟩) xs.length cap)) HV.out.ne
          rw [← HYS.out]
          exact hm.free
        · have hla' : ¬ (la : Int) < 254 := by omega
          rw [if_neg hla, List.append_nil] at hys
          subst hys
          go_wp2
          go_ret2
          exact un_some_post HUN.out HV.out.mine.free HV.out.mine.base.1 HV.out.mine.base.2.2 HU.out.below
end Go.Proofs.Ytecophlkbomlmaa
