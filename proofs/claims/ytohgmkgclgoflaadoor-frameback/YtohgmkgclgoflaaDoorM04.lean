/- WUnK, WRefC, WCrc, Leb, WFix6: put together. -/
import Derived.Test.YtohgmkgclgoflaaDoorM03
import Derived.Test.YtohgmkgclgoflaaDoorM01
import Derived.Test.YtohgmkgclgoflaaDoorM02
import Derived.WalkKit
import Derived.WalkSpells
import Derived.WalkLawsBesides
import Derived.Laws.BitsAllLaws
import Derived.Lib.Hide
import Derived.Lib.LaidTab
import Derived.Test.YtohgmkgclgoflaaDoorRows
import Derived.Below

/- The walk of package stuff's Unstuff: each group is told to a closure that puts it and its zero byte; the last zero byte is taken off. -/
namespace Go.Proofs.YtohgmkgclgoflaaDoor
open Go.RowKit

/-- the closure's variables: the bytes in g, how many the last group has in g + 2, the one ahead of it in g + 1 -/
structure UnI (w : World) (g : Nat) (ys : List UInt8) (la ah : Nat) (w' : World) : Prop where
  below : Below w.heap.size w w'
  base : w.heap.size ≤ g
  var : ∃ s cap, Var w' w.heap.size g s cap ys
  last : w'.heap[g + 2]? = some (.cells #[.int .i64 la] 3 (0, 0))
  ahead : w'.heap[g + 1]? = some (.cells #[.int .i64 ah] 3 (0, 0))

theorem kept_far {W W' : World} {s b : Nat} {o : Obj} (h : W.heap[b]? = some o) (hg : W.grownBy W' (some s)) (hne : b ≠ s) : W'.heap[b]? = some o :=
  (hg.block b (one_lt h) (fun hc => hne (Option.some.inj hc))).trans h

/-- the bytes are put: what else stands stays -/
theorem un_put {w W W' : World} {g s cap s' cap' la ah : Nat} {ys zs : List UInt8} (hb : Below w.heap.size w W) (hg : w.heap.size ≤ g) (hv : Var W w.heap.size g s cap ys) (hl : W.heap[g + 2]? = some (.cells #[.int .i64 la] 3 (0, 0)))
    (ha : W.heap[g + 1]? = some (.cells #[.int .i64 ah] 3 (0, 0))) (hm : Mine W' w.heap.size s' cap' zs) (hgr : W.grownBy W' (some s)) :
    UnI w g zs la ah (W'.setCell ⟨g, 0, none⟩ (.slice (some ⟨s', 0, none⟩) zs.length cap')) := by
  have h2 := kept_far hl hgr (fun hc => mine_ne hv.mine hl (by decide) hc.symm)
  have h1 := kept_far ha hgr (fun hc => mine_ne hv.mine ha (by decide) hc.symm)
  refine ⟨(stu_grown hb hv.mine.base.1 hgr).setCell (p := ⟨g, 0, none⟩) hg _, hg, ⟨s', cap', var_store (hv.still hgr) hm⟩, kept_far h2 (grown_set W' g _) (by omega), kept_far h1 (grown_set W' g _) (by omega)⟩
/-- the two counts are told -/
theorem un_told {w W : World} {g la ah : Nat} {ys : List UInt8} (h : UnI w g ys la ah W) (n : Nat) :
    UnI w g ys n la ((W.setCell ⟨g + 1, 0, none⟩ (.int .i64 la)).setCell ⟨g + 2, 0, none⟩ (.int .i64 n)) := by
  obtain ⟨hb, hg, ⟨s, cap, hv⟩, hl, ha⟩ := h
  have m1 := mine_grown hv.mine (grown_set W (g + 1) (.int .i64 la)) (mine_ne hv.mine ha (by decide))
  have b1 := kept_far hv.box (grown_set W (g + 1) (.int .i64 la)) (by omega)
  have l1 := kept_far hl (grown_set W (g + 1) (.int .i64 la)) (by omega)
  have a1 := one_set ha (.int .i64 la)
  refine ⟨(hb.setCell (p := ⟨g + 1, 0, none⟩) (by show w.heap.size ≤ g + 1; omega) _).setCell (p := ⟨g + 2, 0, none⟩) (by show w.heap.size ≤ g + 2; omega) _, hg, ⟨s, cap, ?_, ?_⟩, one_set l1 _, kept_far a1 (grown_set _ (g + 2) _) (by omega)⟩
  · exact kept_far b1 (grown_set _ (g + 2) _) (by omega)
  · exact mine_grown m1 (grown_set _ (g + 2) _) (mine_ne m1 l1 (by decide))

set_option maxRecDepth 100000 in
set_option maxHeartbeats 2000000 in
theorem un_tell (w : World) (g : Nat) (ys t : List UInt8) (la ah : Nat) (q : Option Addr) (k : Nat) (w' : World) (h : UnI w g ys la ah w') (hq : ∀ ys la ah w'', UnI w g ys la ah w'' → At w'' q t) (ht : t.length ≤ 254) (hb : ys.length + t.length + 1 ≤ 140737488355328) :
    Calls Tryd.prog 31 #[.slice q t.length k, .pointer (some ⟨g, 0, none⟩), .pointer (some ⟨g + 2, 0, none⟩), .pointer (some ⟨g + 1, 0, none⟩)] w' fun e w'' => e = .returned (.tuple #[]) ∧ UnI w g (ys ++ t ++ if t.length < 254 then [0] else []) t.length la w'' := by
  have HU := Lib.hid h
  obtain ⟨hbl, hg, ⟨s, cap, hv⟩, hl, ha⟩ := h
  have hc := one_cell hv.box
  have HA0 := Lib.hid (hq _ _ _ _ HU.out)
  have HV := Lib.hid hv
  have HB := Lib.hid hbl
  have HL := Lib.hid hl
  have HH := Lib.hid ha
  have hB := hbl.size
  clear hv hbl hl ha hq
  by_cases h254 : t.length < 254
  · have h254' : (t.length : Int) < 254 := by omega
    rw [if_pos h254]
    go_enter Tryd.func31, Tryd.ntmps31
    go_wp2_with (first
      | (at_builtin; refine wp_onto1 HV.out.mine HA0.out (by omega) hB rfl rfl rfl rfl rfl ?_; intro zs s1 cap1 W1 HZ hm1 hg1
         have hf1 := one_free (HV.out.still hg1)
         have hc0 := one_cell (HV.out.still hg1)
         have HU1 := Lib.hid (un_put HB.out hg HV.out HL.out HH.out hm1 hg1)
         have HV1 := Lib.hid (var_store (HV.out.still hg1) hm1)
         have hc1 := one_cell HV1.out.box
         have hl1 : zs.length ≤ ys.length + t.length := by rw [HZ.out]; simp
         clear hm1 hg1 HV HA0)
      | (at_builtin; refine wp_push1 HV1.out.mine 0 (by omega) HU1.out.below.size rfl rfl rfl rfl rfl rfl (by simp [World.setCell]) ?_; intro us s2 cap2 W2 HY hm2 hg2
         have hf2 := one_free (HV1.out.still hg2)
         have hc2 := one_cell (HV1.out.still hg2)
         have HU2 := Lib.hid (un_put HU1.out.below hg HV1.out HU1.out.last HU1.out.ahead hm2 hg2)
         have hcl := one_cell HU2.out.last
         have hca := one_cell HU2.out.ahead
         have hfl := one_free HU2.out.last
         have hfa := one_free HU2.out.ahead
         clear hm2 hg2 HV1))
    go_end0
    have hu : ys ++ t ++ [0] = us := by rw [HY.out, HZ.out]
    rw [hu]
    exact ⟨rfl, un_told HU2.out _⟩
  · rw [if_neg h254, List.append_nil]
    go_enter Tryd.func31, Tryd.ntmps31
    go_wp2_with (at_builtin; refine wp_onto1 HV.out.mine HA0.out (by omega) hB rfl rfl rfl rfl rfl ?_; intro zs s1 cap1 W1 HZ hm1 hg1
                 have hf1 := one_free (HV.out.still hg1)
                 have hc0 := one_cell (HV.out.still hg1)
                 have HU1 := Lib.hid (un_put HB.out hg HV.out HL.out HH.out hm1 hg1)
                 have hcl := one_cell HU1.out.last
                 have hca := one_cell HU1.out.ahead
                 have hfl := one_free HU1.out.last
                 have hfa := one_free HU1.out.ahead
                 clear hm1 hg1 HV HA0)
    go_end0
    rw [← HZ.out]
    exact ⟨rfl, un_told HU1.out _⟩

theorem heap_old (w : World) (o : Obj) {k : Nat} (h : k < w.heap.size) : (w.alloc o).heap[k]? = w.heap[k]? := by
  show (w.heap.push o)[k]? = _
  rw [Array.getElem?_push, if_neg (by omega)]

theorem free_left {w : World} {g o : Nat} {xs zs : List UInt8} (h : Free w g o (xs ++ zs)) : Free w g o xs :=
  ⟨h.1, fun j hj => by
    have := h.2.1 j (by rw [List.length_append]; omega)
    rwa [List.getElem_append_left hj] at this, fun j hj => h.2.2 j (by rw [List.length_append]; omega)⟩

/-- what Unstuff's answer is asked to be -/
def UnPost (w : World) (l : List UInt8) (e : Ending) (w' : World) : Prop :=
  ∃ q cap, e = .returned (.tuple #[.slice q (Cob.un l).2.length cap, .int .i64 ((Cob.un l).1 : Nat)]) ∧ At w' q (Cob.un l).2 ∧ (Cob.un l).2.length ≤ cap ∧ ((Cob.un l).2 ≠ [] → ∃ g o, q = some ⟨g, o, none⟩ ∧ w.heap.size ≤ g ∧ Free w' g o (Cob.un l).2) ∧ Below w.heap.size w w'
theorem un_none_post {w w' : World} {l : List UInt8} {c : Nat} (h : Cob.un l = (c, [])) (hb : Below w.heap.size w w') : UnPost w l (.returned (.tuple #[.slice none 0 0, .int .i64 c])) w' := by
  unfold UnPost
  rw [h]
  exact ⟨none, 0, rfl, .inl rfl, Nat.le_refl _, fun hc => absurd rfl hc, hb⟩
theorem un_some_post {w w' : World} {l xs : List UInt8} {s cap : Nat} (h : Cob.un l = (0, xs)) (hf : Free w' s 0 xs) (hs : w.heap.size ≤ s) (hc : xs.length ≤ cap) (hb : Below w.heap.size w w') : UnPost w l (.returned (.tuple #[.slice (some ⟨s, 0, none⟩) xs.length cap, .int .i64 0])) w' := by
  unfold UnPost
  rw [h]
  exact ⟨_, cap, rfl, hf.at, hc, fun _ => ⟨s, 0, rfl, hs, hf⟩, hb⟩

theorem nz_of_first {l : List UInt8} (h : FirstZ l l.length) : Cob.Nz l := by
  intro c hc
  obtain ⟨j, hj, rfl⟩ := List.getElem_of_mem hc
  exact h.2.1 j hj hj

set_option maxRecDepth 100000 in
set_option maxHeartbeats 2000000 in
theorem unstuffK (p : Option Addr) (c : Nat) (l : List UInt8) (w : World) (hl : l.length ≤ 140737488351232) (hlc : l.length ≤ c) (h : At w p l) :
    Calls Tryd.prog 20 #[.slice p l.length c] w fun e w' => UnPost w l e w' := by
  obtain ⟨i0, hi, hz0, hz1, hz2⟩ := info_parts info8
  have HA := Lib.hid h
  have HF := Lib.hid (firstZero_ok p c l hl w h)
  clear h
  go_enter Tryd.func20, Tryd.ntmps20
  go_wp2_with fail
  refine HF.out.mono ?_
  rintro e w1 ⟨k, rfl, hFz, rfl⟩
  have hkl := hFz.1
  have HFz := Lib.hid hFz
  clear hFz HF
  by_cases hk : k < l.length
  · have hk' : (k : Int) < (l.length : Int) := by omega
    have h0 : Cob.un l = (40, []) := Cob.un_zero (by rw [← HFz.out.2.2 hk]; exact List.getElem_mem hk)
    have H0 := Lib.hid h0
    clear h0
    go_wp2
    go_ret2
    exact un_none_post H0.out (Below.refl _ _)
  · have hkk : k = l.length := by omega
    subst hkk
    have HZ := Lib.hid (nz_of_first HFz.out)
    clear HFz hk
    go_wp2_with (first
      | (at_make; refine wpList_make_own _ rfl _ _ 22 rfl w1.heap.size 5 i0 (.int .u8 0) 1 Tryd.underlying22 hi hz0 hz1 .i64 .i64 l.length l.length rfl rfl rfl (by rw [hz2]; omega) (by unfold maxLen; omega) (Nat.le_refl _) ?_; intro w2 hown hgrow
         have HM2 : Hid (Mine w2 w1.heap.size w1.heap.size l.length []) := hown
         have HG2 := Lib.hid hgrow
         clear hown hgrow)
      | fail)
    have hs2 : w1.heap.size ≤ w2.heap.size := HG2.out.size
    have hB2 : Below w1.heap.size w1 w2 := (Below.refl _ _).grown HG2.out (Nat.le_refl _) (fun k hk => by cases hk)
    have HR : Hid (Calls Tryd.prog 30 #[.slice p l.length c, .func (.func 31) #[] #[.pointer (some ⟨w2.heap.size, 0, none⟩), .pointer (some ⟨w2.heap.size + 2, 0, none⟩), .pointer (some ⟨w2.heap.size + 1, 0, none⟩)]]
        (((w2.alloc (.cells #[.slice (some ⟨w1.heap.size, 0, none⟩) 0 l.length] 22)).alloc (.cells #[.int .i64 0] 3)).alloc (.cells #[.int .i64 0] 3))
        fun e w' => ∃ ys la ah, UnI w1 w2.heap.size ys la ah w' ∧ ((e = .returned (.int .i64 30) ∧ Cob.un l = (30, [])) ∨ (e = .returned (.int .i64 0) ∧ l ≠ [] ∧ Cob.Rd l l.length ys la ah))) := by
      have hst : UnI w1 w2.heap.size [] 0 0 (((w2.alloc (.cells #[.slice (some ⟨w1.heap.size, 0, none⟩) 0 l.length] 22)).alloc (.cells #[.int .i64 0] 3)).alloc (.cells #[.int .i64 0] 3)) := by
        refine ⟨((hB2.alloc (by omega) _).alloc (by simp; omega) _).alloc (by simp; omega) _, hs2, ⟨w1.heap.size, l.length, ?_, ?_⟩, ?_, ?_⟩
        · rw [heap_old _ _ (by simp; omega), heap_old _ _ (by simp)]
          exact heap_new w2 _
        · exact World.ownsRow.alloc (World.ownsRow.alloc (World.ownsRow.alloc HM2.out _) _) _
        · have := heap_new ((w2.alloc (.cells #[.slice (some ⟨w1.heap.size, 0, none⟩) 0 l.length] 22)).alloc (.cells #[.int .i64 0] 3)) (.cells #[.int .i64 0] 3)
          simpa using this
        · rw [heap_old _ _ (by simp)]
          have := heap_new (w2.alloc (.cells #[.slice (some ⟨w1.heap.size, 0, none⟩) 0 l.length] 22)) (.cells #[.int .i64 0] 3)
          simpa using this
      show Calls _ _ _ _ _
      by_cases hne : l = []
      · subst hne
        refine (readGroups_none p c _ _).mono ?_
        rintro e w' ⟨rfl, rfl⟩
        exact ⟨[], 0, 0, hst, .inl ⟨rfl, Cob.un_none⟩⟩
      · obtain ⟨b, o, rfl, -, -⟩ := at_some HA.out (List.length_pos_iff.2 hne)
        refine (readGroups_in 31 ⟨w2.heap.size, 0, none⟩ ⟨w2.heap.size + 2, 0, none⟩ ⟨w2.heap.size + 1, 0, none⟩ (UnI w1 w2.heap.size) b o c l _ hl hlc hne HZ.out (fun args w => enters_body Tryd.func31 (by kernel_rfl) rfl args w)
          (fun ys la ah w' hu => HA.out.on hu.below) hst (fun ys la ah q k t w' hu hq ht hb _ => un_tell w1 w2.heap.size ys t la ah q k w' hu hq ht hb)).mono ?_
        rintro e w' ⟨ys, la, ah, hu, h1 | h1⟩
        · exact ⟨ys, la, ah, hu, .inl h1⟩
        · exact ⟨ys, la, ah, hu, .inr ⟨h1.1, hne, h1.2⟩⟩
    refine HR.out.mono ?_
    rintro e w3 ⟨ys, la, ah, hu, hcase⟩
    have HU := Lib.hid hu
    clear HR hB2
    rcases hcase with ⟨rfl, h30⟩ | ⟨rfl, hne, hrd⟩
    · have H30 := Lib.hid h30
      clear h30 hu
      go_wp2
      go_ret2
      exact un_none_post H30.out HU.out.below
    · obtain ⟨s, cap, hv⟩ := hu.var
      have HV := Lib.hid hv
      have hcv := one_cell hv.box
      have hfv := one_free hv.box
      have hcl := one_cell hu.last
      have hca := one_cell hu.ahead
      obtain ⟨xs, hys, hun⟩ := Cob.rd_end HZ.out hne hrd
      have hyb := (Cob.rd_le hrd).1
      clear hv hu hrd hne
      by_cases hah : ah = 254
      · have hb1 : ((ah : Int) == 254) = true := by rw [beq_iff_eq]; omega
        by_cases hl0 : la = 0
        · have hb2 : ((la : Int) == 0) = true := by rw [beq_iff_eq]; omega
          rw [if_pos ⟨hah, hl0⟩] at hun
          have HUN := Lib.hid hun
          clear hun hys
          go_wp2
          go_ret2
          exact un_none_post HUN.out HU.out.below
        · have hb2 : ((la : Int) == 0) = false := by rw [beq_eq_false_iff_ne]; omega
          rw [if_neg (fun hc => hl0 hc.2)] at hun
          have HUN := Lib.hid hun
          clear hun
          by_cases hla : la < 254
          · have hla' : (la : Int) < 254 := by omega
            rw [if_pos hla] at hys
            have hyl : ys.length = xs.length + 1 := by rw [hys]; simp
            have hcl : xs.length ≤ cap := by have := HV.out.mine.base.2.2; omega
            have HYS := Lib.hid hys
            have HYL := Lib.hid hyl
            have hyp : 1 ≤ ys.length := by omega
            have hxb : xs.length ≤ 140737488351233 := by omega
            have hym : (ys.length : Int) - 1 = (xs.length : Int) := by omega
            clear hys hyl
            go_wp2
            go_ret2
            refine un_some_post HUN.out (free_left (zs := [0]) ?_) HV.out.mine.base.1 hcl (HU.out.below.setCell (p := ⟨w2.heap.size, 0, none⟩) (by show w1.heap.size ≤ w2.heap.size; exact hs2) _)
            have hm := mine_grown HV.out.mine (grown_set w3 w2.heap.size (.slice (some ⟨s, 0, none⟩) xs.length cap)) HV.out.ne
            rw [← HYS.out]
            exact hm.free
          · have hla' : ¬ (la : Int) < 254 := by omega
            rw [if_neg hla, List.append_nil] at hys
            subst hys
            go_wp2
            go_ret2
            exact un_some_post HUN.out HV.out.mine.free HV.out.mine.base.1 HV.out.mine.base.2.2 HU.out.below
      · have hb1 : ((ah : Int) == 254) = false := by rw [beq_eq_false_iff_ne]; omega
        rw [if_neg (fun hc => hah hc.1)] at hun
        have HUN := Lib.hid hun
        clear hun
        by_cases hla : la < 254
        · have hla' : (la : Int) < 254 := by omega
          rw [if_pos hla] at hys
          have hyl : ys.length = xs.length + 1 := by rw [hys]; simp
          have hcl : xs.length ≤ cap := by have := HV.out.mine.base.2.2; omega
          have HYS := Lib.hid hys
          have HYL := Lib.hid hyl
          have hyp : 1 ≤ ys.length := by omega
          have hxb : xs.length ≤ 140737488351233 := by omega
          have hym : (ys.length : Int) - 1 = (xs.length : Int) := by omega
          clear hys hyl
          go_wp2
          go_ret2
          refine un_some_post HUN.out (free_left (zs := [0]) ?_) HV.out.mine.base.1 hcl (HU.out.below.setCell (p := ⟨w2.heap.size, 0, none⟩) (by show w1.heap.size ≤ w2.heap.size; exact hs2) _)
          have hm := mine_grown HV.out.mine (grown_set w3 w2.heap.size (.slice (some ⟨s, 0, none⟩) xs.length cap)) HV.out.ne
          rw [← HYS.out]
          exact hm.free
        · have hla' : ¬ (la : Int) < 254 := by omega
          rw [if_neg hla, List.append_nil] at hys
          subst hys
          go_wp2
          go_ret2
          exact un_some_post HUN.out HV.out.mine.free HV.out.mine.base.1 HV.out.mine.base.2.2 HU.out.below
end Go.Proofs.YtohgmkgclgoflaaDoor

/- The walk of the document's own Update. -/
namespace Go.Proofs.YtohgmkgclgoflaaDoor
open Go.RowKit

theorem xor32 (a b : Nat) (ha : a < 4294967296) (hb : b < 4294967296) : bits .xor .u32 (a : Int) (b : Int) = ((a ^^^ b : Nat) : Int) := u32_xor_nat a b ha hb
theorem not32 (a : Nat) (ha : a < 4294967296) : bits .xor .u32 IntKind.u32.max (a : Int) = ((a ^^^ Crc.full : Nat) : Int) := by
  rw [Nat.xor_comm]; exact u32_xor_nat 4294967295 a (by omega) ha

end Go.Proofs.YtohgmkgclgoflaaDoor

/- The walks of package crc: shiftHalf, shiftBit, Update, Sum, Slow. -/
namespace Go.Proofs.YtohgmkgclgoflaaDoor
open Go.RowKit

/-- the table of sixteen words lies as the document's steps make it -/
def Hv (w : World) : Prop := ∀ n (_ : n < 16), w.cell? ⟨0, n, none⟩ = some (.int .u32 (Crc.steps 4 n : Nat))

theorem and15 (r : Nat) (hr : r < 4294967296) : bits .and .u32 (r : Int) 15 = ((r % 16 : Nat) : Int) := by
  have := u32_and_nat r 15 hr (by omega)
  rw [show (15 : Nat) = 2 ^ 4 - 1 from rfl, Nat.and_two_pow_sub_one_eq_mod] at this
  exact this
theorem and1 (r : Nat) (hr : r < 4294967296) : bits .and .u32 (r : Int) 1 = ((r % 2 : Nat) : Int) := by
  have := u32_and_nat r 1 hr (by omega)
  rw [show (1 : Nat) = 2 ^ 1 - 1 from rfl, Nat.and_two_pow_sub_one_eq_mod] at this
  exact this

set_option maxHeartbeats 1000000 in
theorem shiftHalf_any (r : Nat) (hr : r < 4294967296) (w : World) (ht : Hv w) :
    Calls Tryd.prog 43 #[.int .u32 r] w fun e w' => e = .returned (.int .u32 (Crc.steps 4 r : Nat)) ∧ w' = w := by
  have ha := and15 r hr
  have hc := ht (r % 16) (Nat.mod_lt _ (by omega))
  have hm16 : r % 16 < 16 := Nat.mod_lt _ (by omega)
  have hlt : Crc.steps 4 (r % 16) < 4294967296 := Crc.steps_lt 4 (by omega)
  have hx : bits .xor .u32 ((r : Int) / 16) ((Crc.steps 4 (r % 16) : Nat) : Int) = ((r / 16 ^^^ Crc.steps 4 (r % 16) : Nat) : Int) := xor32 (r / 16) _ (by omega) hlt
  have HE : Hid (r / 16 ^^^ Crc.steps 4 (r % 16) = Crc.steps 4 r) := (Crc.nibble r).symm
  generalize Crc.steps 4 (r % 16) = v at hc hlt hx HE
  generalize r / 16 ^^^ v = z at hx HE
  clear ht
  go_enter Tryd.func43, Tryd.ntmps43
  go_wp2
  go_ret
  exact ⟨by rw [← HE.out]; rfl, rfl⟩

set_option maxHeartbeats 2000000 in
theorem update_some (s : Nat) (hs : s < 4294967296) (b o c : Nat) (l : List UInt8) (hl : l.length ≤ 140737488351232) (w : World) (ht : Hv w) (hc : Cells w b o l) :
    Calls Tryd.prog 38 #[.int .u32 s, .slice (some ⟨b, o, none⟩) l.length c] w fun e w' => e = .returned (.int .u32 (Crc.update s l : Nat)) ∧ w' = w := by
  have hn := not32 s hs
  have HC := Lib.hid hc
  have HT := Lib.hid ht
  clear hc ht
  obtain ⟨r0, hr0⟩ : ∃ r0, r0 = s ^^^ Crc.full := ⟨_, rfl⟩
  rw [← hr0] at hn
  have hr0lt : r0 < 4294967296 := by rw [hr0]; exact Nat.xor_lt_two_pow (n := 32) hs (by decide)
  have HU : Hid (Crc.update s l = Crc.take r0 l ^^^ Crc.full) := by rw [hr0]; exact rfl
  clear hr0
  go_enter Tryd.func38, Tryd.ntmps38
  go_wp2
  go_loop [5, 12] (fun vr vi => ∃ (k r : Nat), k ≤ l.length ∧ vi = .int .i64 k ∧ vr = .int .u32 r ∧ r < 4294967296 ∧ Hid (r = Crc.take r0 (l.take k))) (fun _ vi => l.length - (intOf vi).toNat)
  case atStart => exact ⟨0, r0, by omega, rfl, rfl, hr0lt, rfl⟩
  case round =>
    obtain ⟨k, r, hk, rfl, rfl, hr, HR⟩ := hrel
    by_cases hlt : k < l.length
    · have hcell := HC.out k hlt
      have hc256 : l[k].toNat < 256 := l[k].toNat_lt
      have hx := xor32 r l[k].toNat hr (by omega)
      obtain ⟨q0, hq0⟩ : ∃ q0, q0 = r ^^^ l[k].toNat := ⟨_, rfl⟩
      rw [← hq0] at hx
      have hq0lt : q0 < 4294967296 := by rw [hq0]; exact Nat.xor_lt_two_pow (n := 32) hr (by omega)
      have HN : Hid (Crc.steps 4 (Crc.steps 4 q0) = Crc.take r0 (l.take (k + 1))) := by
        show Crc.steps 4 (Crc.steps 4 q0) = _
        rw [← Crc.byte_nibbles, List.take_succ_eq_append_getElem hlt, Crc.take_snoc, ← HR.out, hq0]; rfl
      have hq1lt : Crc.steps 4 q0 < 4294967296 := Crc.steps_lt 4 hq0lt
      have hq2lt : Crc.steps 4 (Crc.steps 4 q0) < 4294967296 := Crc.steps_lt 4 hq1lt
      have H1 := Lib.hid (shiftHalf_any q0 hq0lt w HT.out)
      have H2 := Lib.hid (shiftHalf_any _ hq1lt w HT.out)
      generalize Crc.steps 4 (Crc.steps 4 q0) = q2 at HN hq2lt H2
      generalize Crc.steps 4 q0 = q1 at hq1lt H1 H2
      clear hq0 HR
      go_wp2_with fail
      refine H1.out.mono ?_
      rintro e w' ⟨rfl, rfl⟩
      go_wp2_with fail
      refine H2.out.mono ?_
      rintro e w' ⟨rfl, rfl⟩
      go_wp2
      go_round
      case rel => exact ⟨k + 1, q2, by omega, by go_num, rfl, hq2lt, HN⟩
      case measure => simp [intOf]; omega
    · have hkk : k = l.length := by omega
      subst hkk
      have hn2 := not32 r hr
      have HE : Hid ((r ^^^ Crc.full : Nat) = Crc.update s l) := by
        show _ = _
        rw [HU.out, HR.out, List.take_length]
      generalize r ^^^ Crc.full = z at hn2 HE
      go_wp2
      go_ret
      exact ⟨by rw [← HE.out]; rfl, rfl⟩

set_option maxHeartbeats 1000000 in
theorem update_none (s : Nat) (hs : s < 4294967296) (p : Option Addr) (c : Nat) (w : World) :
    Calls Tryd.prog 38 #[.int .u32 s, .slice p 0 c] w fun e w' => e = .returned (.int .u32 (s : Nat)) ∧ w' = w := by
  have hn := not32 s hs
  obtain ⟨r0, hr0⟩ : ∃ r0, r0 = s ^^^ Crc.full := ⟨_, rfl⟩
  rw [← hr0] at hn
  have hr0lt : r0 < 4294967296 := by rw [hr0]; exact Nat.xor_lt_two_pow (n := 32) hs (by decide)
  have hn2 := not32 r0 hr0lt
  have e : r0 ^^^ Crc.full = s := by rw [hr0]; exact Crc.flip_flip s
  rw [e] at hn2
  clear e hr0
  go_enter Tryd.func38, Tryd.ntmps38
  go_wp2
  go_loop [5, 12] (fun vr vi => vi = .int .i64 0 ∧ vr = .int .u32 r0) (fun _ _ => 0)
  case atStart => exact ⟨rfl, rfl⟩
  case round =>
    obtain ⟨rfl, rfl⟩ := hrel
    go_wp2
    go_ret
    exact ⟨rfl, rfl⟩

/-- Update, of whatever slice -/
theorem update_any (s : Nat) (hs : s < 4294967296) (p : Option Addr) (c : Nat) (l : List UInt8) (hl : l.length ≤ 140737488351232) (w : World) (ht : Hv w) (h : At w p l) :
    Calls Tryd.prog 38 #[.int .u32 s, .slice p l.length c] w fun e w' => e = .returned (.int .u32 (Crc.update s l : Nat)) ∧ w' = w := by
  rcases h with rfl | ⟨b, o, rfl, _, hc⟩
  · rw [Crc.update_nil]
    exact update_none s hs p c w
  · exact update_some s hs b o c l hl w ht hc

set_option maxHeartbeats 1000000 in
theorem sum_any (p : Option Addr) (c : Nat) (l : List UInt8) (hl : l.length ≤ 140737488351232) (w : World) (ht : Hv w) (h : At w p l) :
    Calls Tryd.prog 28 #[.slice p l.length c] w fun e w' => e = .returned (.int .u32 (Crc.sum l : Nat)) ∧ w' = w := by
  have HU := Lib.hid (update_any 0 (by omega) p c l hl w ht h)
  have HS : Hid (Crc.update 0 l = Crc.sum l) := rfl
  clear h ht
  go_enter Tryd.func28, Tryd.ntmps28
  go_wp2_with fail
  refine HU.out.mono ?_
  rintro e w' ⟨rfl, rfl⟩
  go_wp2
  go_ret
  exact ⟨by rw [← HS.out]; rfl, rfl⟩

theorem sum_eq (l : List UInt8) : Crc.sum l = Crc.take 4294967295 l ^^^ Crc.full := by
  unfold Crc.sum Crc.update
  rw [Nat.zero_xor]; rfl

end Go.Proofs.YtohgmkgclgoflaaDoor

/- Plain facts on numbers written seven bits a byte, without any program: a number's bytes are read as it, whatever stands behind them, and what is read has just these bytes. -/
namespace Go.Proofs.YtohgmkgclgoflaaDoor.Leb

/-- a number's bytes; f: at most so many -/
def putF : Nat → Nat → List UInt8
  | 0, _ => []
  | f + 1, n => if n < 128 then [UInt8.ofNat n] else UInt8.ofNat (n % 128 + 128) :: putF f (n / 128)
def put (n : Nat) : List UInt8 := putF 10 n

/-- what is read: the number and how many bytes it took; 5: bytes that stand for none; 30: they end within -/
structure Got where
  err : Nat
  n : Nat
  k : Nat

/-- f: how many bytes may still come; first: none has come yet -/
def getF : Nat → Bool → List UInt8 → Got
  | 0, _, _ => ⟨5, 0, 0⟩
  | _ + 1, _, [] => ⟨30, 0, 0⟩
  | f + 1, first, c :: r =>
    if 127 < c.toNat then
      let g := getF f false r
      if g.err = 0 then ⟨0, g.n * 128 + c.toNat % 128, g.k + 1⟩ else g
    else if (f = 0 ∧ 1 < c.toNat) ∨ (first = false ∧ c.toNat = 0) then ⟨5, 0, 0⟩ else ⟨0, c.toNat, 1⟩
def get (l : List UInt8) : Got := getF 10 true l

theorem byte_low (n : Nat) (h : n < 128) : (UInt8.ofNat n).toNat = n := by
  rw [UInt8.toNat_ofNat']; omega
theorem byte_high (n : Nat) : (UInt8.ofNat (n % 128 + 128)).toNat = n % 128 + 128 := by
  rw [UInt8.toNat_ofNat']; omega

/-- the greatest number that f bytes hold: ten hold 64 bits -/
def cap (f : Nat) : Nat := if f = 10 then 18446744073709551616 else 128 ^ f

theorem getF_put (f : Nat) (first : Bool) (n : Nat) (r : List UInt8) (h : n < 2 * 128 ^ f) (h0 : first = true ∨ n ≠ 0) : getF (f + 1) first (putF (f + 1) n ++ r) = ⟨0, n, (putF (f + 1) n).length⟩ := by
  induction f generalizing first n with
  | zero =>
    have hn : n < 2 := by simpa using h
    have e : putF 1 n = [UInt8.ofNat n] := by simp only [putF]; rw [if_pos (by omega)]
    rw [e]
    simp only [List.cons_append, List.nil_append, getF, byte_low n (by omega), List.length_cons, List.length_nil]
    rw [if_neg (by omega), if_neg]
    rintro (⟨_, h1⟩ | ⟨h1, h2⟩)
    · omega
    · rcases h0 with h0 | h0
      · rw [h0] at h1; cases h1
      · exact h0 h2
  | succ f ih =>
    by_cases hn : n < 128
    · have e : putF (f + 1 + 1) n = [UInt8.ofNat n] := by simp only [putF]; rw [if_pos hn]
      rw [e]
      simp only [List.cons_append, List.nil_append, getF, byte_low n hn, List.length_cons, List.length_nil]
      rw [if_neg (by omega), if_neg]
      rintro (⟨h1, _⟩ | ⟨h1, h2⟩)
      · omega
      · rcases h0 with h0 | h0
        · rw [h0] at h1; cases h1
        · exact h0 h2
    · have e : putF (f + 1 + 1) n = UInt8.ofNat (n % 128 + 128) :: putF (f + 1) (n / 128) := by
        rw [putF, if_neg hn]
      have h1 : n / 128 < 2 * 128 ^ f := by
        rw [Nat.pow_succ] at h
        rw [Nat.div_lt_iff_lt_mul (by omega)]
        omega
      have hr := ih false (n / 128) h1 (.inr (by omega))
      rw [e]
      rw [List.cons_append, getF]
      simp only [hr, byte_high, List.length_cons]
      rw [if_pos (by omega), if_pos trivial]
      congr 1
      omega

/-- a number's bytes are read as it, whatever stands behind them -/
theorem get_put (n : Nat) (r : List UInt8) (h : n < 18446744073709551616) : get (put n ++ r) = ⟨0, n, (put n).length⟩ := by
  have e : 2 * 128 ^ 9 = 18446744073709551616 := by decide
  exact getF_put 9 true n r (by rw [e]; exact h) (.inl rfl)

/-- what is read has just these bytes -/
theorem getF_ok (f : Nat) (first : Bool) (l : List UInt8) (h : (getF (f + 1) first l).err = 0) :
    (getF (f + 1) first l).n < 2 * 128 ^ f ∧ (first = true ∨ (getF (f + 1) first l).n ≠ 0) ∧ l.take (getF (f + 1) first l).k = putF (f + 1) (getF (f + 1) first l).n ∧ (getF (f + 1) first l).k ≤ l.length ∧ 1 ≤ (getF (f + 1) first l).k := by
  induction f generalizing first l with
  | zero =>
    cases l with
    | nil => simp [getF] at h
    | cons c r =>
      rw [getF] at h ⊢
      by_cases hc : 127 < c.toNat
      · rw [if_pos hc] at h
        simp [getF] at h
      · rw [if_neg hc] at h ⊢
        by_cases hx : (0 = 0 ∧ 1 < c.toNat) ∨ (first = false ∧ c.toNat = 0)
        · rw [if_pos hx] at h; simp at h
        · rw [if_neg hx]
          have c1 : c.toNat < 2 := by omega
          refine ⟨by simpa using c1, ?_, ?_, by simp, by simp⟩
          · cases first
            · right; intro h2; exact hx (.inr ⟨rfl, h2⟩)
            · exact .inl rfl
          · simp only [putF, List.take_succ_cons, List.take_zero]
            rw [if_pos (by omega)]
            congr 1
            exact (UInt8.toNat_inj.1 (byte_low c.toNat (by omega))).symm
  | succ f ih =>
    cases l with
    | nil => simp [getF] at h
    | cons c r =>
      have hc256 : c.toNat < 256 := c.toNat_lt
      rw [getF] at h ⊢
      by_cases hc : 127 < c.toNat
      · rw [if_pos hc] at h ⊢
        simp only at h ⊢
        by_cases hg : (getF (f + 1) false r).err = 0
        · rw [if_pos hg]
          obtain ⟨i1, i2, i3, i4, i5⟩ := ih false r hg
          have i2' : (getF (f + 1) false r).n ≠ 0 := by
            rcases i2 with i2 | i2
            · cases i2
            · exact i2
          generalize getF (f + 1) false r = g at *
          dsimp only
          refine ⟨?_, .inr (by omega), ?_, by simp; omega, by simp⟩
          · rw [Nat.pow_succ]; omega
          · have e1 : (g.n * 128 + c.toNat % 128) / 128 = g.n := by omega
            have e2 : (g.n * 128 + c.toNat % 128) % 128 + 128 = c.toNat := by omega
            rw [putF, if_neg (by omega), e1, e2, List.take_succ_cons, i3]
            congr 1
            apply UInt8.toNat_inj.1
            rw [UInt8.toNat_ofNat']; omega
        · rw [if_neg hg] at h; exact absurd h hg
      · rw [if_neg hc] at h ⊢
        by_cases hx : (f + 1 = 0 ∧ 1 < c.toNat) ∨ (first = false ∧ c.toNat = 0)
        · rw [if_pos hx] at h; simp at h
        · rw [if_neg hx]
          have hp : 128 ≤ 128 ^ (f + 1) := by
            have := Nat.pow_le_pow_right (show 0 < 128 by omega) (show 1 ≤ f + 1 by omega)
            simpa using this
          refine ⟨by simp only; omega, ?_, ?_, by simp, by simp⟩
          · cases first
            · right; intro h2; exact hx (.inr ⟨rfl, h2⟩)
            · exact .inl rfl
          · simp only [putF, List.take_succ_cons, List.take_zero]
            rw [if_pos (by omega)]
            congr 1
            exact (UInt8.toNat_inj.1 (byte_low c.toNat (by omega))).symm

theorem get_ok (l : List UInt8) (h : (get l).err = 0) : (get l).n < 18446744073709551616 ∧ l.take (get l).k = put (get l).n ∧ (get l).k ≤ l.length ∧ 1 ≤ (get l).k := by
  have e : 2 * 128 ^ 9 = 18446744073709551616 := by decide
  obtain ⟨h1, _, h3, h4, h5⟩ := getF_ok 9 true l h
  rw [e] at h1
  exact ⟨h1, h3, h4, h5⟩

/-- where it is refused, nothing is told -/
theorem getF_bad (f : Nat) : ∀ (first : Bool) (l : List UInt8), (getF f first l).err ≠ 0 → (getF f first l).n = 0 ∧ (getF f first l).k = 0 := by
  induction f with
  | zero => intro first l _; exact ⟨rfl, rfl⟩
  | succ f ih =>
    intro first l h
    cases l with
    | nil => exact ⟨rfl, rfl⟩
    | cons c r =>
      rw [getF] at h ⊢
      by_cases hc : 127 < c.toNat
      · rw [if_pos hc] at h ⊢
        simp only at h ⊢
        by_cases hg : (getF f false r).err = 0
        · rw [if_pos hg] at h; exact absurd rfl h
        · rw [if_neg hg]; exact ih false r hg
      · rw [if_neg hc] at h ⊢
        by_cases hx : (f = 0 ∧ 1 < c.toNat) ∨ (first = false ∧ c.toNat = 0)
        · rw [if_pos hx]; exact ⟨rfl, rfl⟩
        · rw [if_neg hx] at h; exact absurd rfl h

/-- of unlike numbers neither's bytes begin the other's -/
theorem put_prefix {n m : Nat} {r : List UInt8} (hn : n < 18446744073709551616) (hm : m < 18446744073709551616) (h : put m = put n ++ r) : n = m := by
  have h1 := get_put n r hn
  have h2 := get_put m [] hm
  rw [List.append_nil, h, h1] at h2
  exact congrArg Got.n h2

theorem putF_pos (f n : Nat) : 1 ≤ (putF (f + 1) n).length := by
  rw [putF]; split <;> simp
theorem putF_le (f : Nat) : ∀ n, (putF f n).length ≤ f := by
  induction f with
  | zero => intro n; simp [putF]
  | succ f ih => intro n; rw [putF]; split <;> simp; exact ih _
/-- lesser numbers have no more bytes -/
theorem putF_mono (f : Nat) : ∀ n m, n ≤ m → (putF f n).length ≤ (putF f m).length := by
  induction f with
  | zero => intro n m _; simp [putF]
  | succ f ih =>
    intro n m h
    rw [putF, putF]
    by_cases h1 : m < 128
    · rw [if_pos (by omega), if_pos h1]; simp
    · rw [if_neg h1]
      by_cases h2 : n < 128
      · rw [if_pos h2]; simp
      · rw [if_neg h2]
        simp only [List.length_cons]
        have := ih (n / 128) (m / 128) (Nat.div_le_div_right h)
        omega

/-- a number with a sign, and back -/
def zig (n : Int) : Nat := if 0 ≤ n then 2 * n.toNat else 2 * (-(n + 1)).toNat + 1
def zag (u : Nat) : Int := if u % 2 = 0 then ((u / 2 : Nat) : Int) else -((u / 2 : Nat) : Int) - 1
theorem zag_zig (n : Int) : zag (zig n) = n := by
  unfold zig
  split
  · unfold zag; rw [if_pos (by omega)]; omega
  · unfold zag; rw [if_neg (by omega)]; omega
theorem zig_zag (u : Nat) : zig (zag u) = u := by
  unfold zag
  split
  · unfold zig; rw [if_pos (by omega)]; omega
  · unfold zig; rw [if_neg (by omega)]; omega

/-- the bits that bytes come to, the first byte's lowest -/
def val : List UInt8 → Nat
  | [] => 0
  | c :: r => val r * 128 + c.toNat % 128

/-- how many bytes of 128 or above stand first, of at most f -/
def high : Nat → List UInt8 → Nat
  | 0, _ => 0
  | _ + 1, [] => 0
  | f + 1, c :: r => if 127 < c.toNat then high f r + 1 else 0

theorem high_le (f : Nat) : ∀ r : List UInt8, high f r ≤ f ∧ high f r ≤ r.length := by
  induction f with
  | zero => intro r; simp [high]
  | succ f ih =>
    intro r
    cases r with
    | nil => simp [high]
    | cons c r =>
      rw [high]
      have := ih r
      split <;> simp <;> omega

theorem high_above (f : Nat) : ∀ (r : List UInt8) (j : Nat) (h : j < r.length), j < high f r → 127 < r[j].toNat := by
  induction f with
  | zero => intro r j h hj; simp [high] at hj
  | succ f ih =>
    intro r j h hj
    cases r with
    | nil => simp at h
    | cons c r =>
      rw [high] at hj
      by_cases hc : 127 < c.toNat
      · rw [if_pos hc] at hj
        cases j with
        | zero => exact hc
        | succ j => exact ih r j (by simpa using h) (by omega)
      · rw [if_neg hc] at hj; omega

theorem high_stop (f : Nat) : ∀ (r : List UInt8) (h : high f r < r.length), high f r < f → ¬ 127 < (r[high f r]).toNat := by
  induction f with
  | zero => intro r h hf; omega
  | succ f ih =>
    intro r h hf
    cases r with
    | nil => simp at h
    | cons c r =>
      by_cases hc : 127 < c.toNat
      · have e : high (f + 1) (c :: r) = high f r + 1 := by rw [high, if_pos hc]
        simp only [e] at h hf ⊢
        simp only [List.getElem_cons_succ]
        exact ih r (by simpa using h) (by omega)
      · have e : high (f + 1) (c :: r) = 0 := by rw [high, if_neg hc]
        simp only [e, List.getElem_cons_zero]
        exact hc

/-- what stands first tells how many: all k of them high, the next one not, or none left -/
theorem high_eq (f : Nat) : ∀ (r : List UInt8) (k : Nat), k ≤ f → (hk : k ≤ r.length) → (∀ j (h : j < r.length), j < k → 127 < r[j].toNat) → (k = f ∨ k = r.length ∨ ∃ h : k < r.length, ¬ 127 < r[k].toNat) → high f r = k := by
  induction f with
  | zero => intro r k h1 _ _ _; simp [high]; omega
  | succ f ih =>
    intro r k h1 h2 h3 h4
    cases r with
    | nil => simp at h2; simp [high]; omega
    | cons c r =>
      cases k with
      | zero =>
        rcases h4 with h4 | h4 | ⟨h4, h5⟩
        · omega
        · simp at h4
        · have h6 : ¬ 127 < c.toNat := h5
          rw [high, if_neg h6]
      | succ k =>
        have hc : 127 < c.toNat := h3 0 (by simp) (by omega)
        rw [high, if_pos hc, ih r k (by omega) (by simpa using h2) (fun j h hj => by
          have := h3 (j + 1) (by simpa using h) (by omega)
          simpa using this) ?_]
        rcases h4 with h4 | h4 | ⟨h4, h5⟩
        · exact .inl (by omega)
        · exact .inr (.inl (by simpa using h4))
        · exact .inr (.inr ⟨by simpa using h4, by simpa using h5⟩)

/-- reading, told by how many high bytes stand first -/
theorem getF_high (f : Nat) : ∀ (first : Bool) (r : List UInt8),
    (high f r = f → getF f first r = ⟨5, 0, 0⟩) ∧
    (high f r = r.length → high f r < f → getF f first r = ⟨30, 0, 0⟩) ∧
    (∀ h : high f r < r.length, high f r < f → getF f first r = if (high f r + 1 = f ∧ 1 < (r[high f r]).toNat) ∨ ((first = false ∨ 0 < high f r) ∧ (r[high f r]).toNat = 0) then ⟨5, 0, 0⟩ else ⟨0, val (r.take (high f r + 1)), high f r + 1⟩) := by
  induction f with
  | zero => intro first r; exact ⟨fun _ => rfl, fun _ h => by omega, fun _ h => by omega⟩
  | succ f ih =>
    intro first r
    cases r with
    | nil => exact ⟨fun h => by simp [high] at h, fun _ _ => rfl, fun h => by simp at h⟩
    | cons c r =>
      by_cases hc : 127 < c.toNat
      · have e : high (f + 1) (c :: r) = high f r + 1 := by rw [high, if_pos hc]
        obtain ⟨i1, i2, i3⟩ := ih false r
        rw [e]
        refine ⟨fun h => ?_, fun h h' => ?_, fun h h' => ?_⟩
        · rw [getF, if_pos hc]; simp only; rw [i1 (by omega)]; rfl
        · rw [getF, if_pos hc]; simp only; rw [i2 (by simpa using h) (by omega)]; rfl
        · have hr : high f r < r.length := by simpa using h
          have hb := high_stop f r hr (by omega)
          by_cases hx : (high f r + 1 = f ∧ 1 < (r[high f r]).toNat) ∨ ((false = false ∨ 0 < high f r) ∧ (r[high f r]).toNat = 0)
          · have i4 : getF f false r = ⟨5, 0, 0⟩ := by rw [i3 hr (by omega), if_pos hx]
            have hy : (high f r + 1 + 1 = f + 1 ∧ 1 < (r[high f r]).toNat) ∨ ((first = false ∨ 0 < high f r + 1) ∧ (r[high f r]).toNat = 0) := by
              rcases hx with ⟨x1, x2⟩ | ⟨_, x2⟩
              · exact .inl ⟨by omega, x2⟩
              · exact .inr ⟨.inr (by omega), x2⟩
            rw [getF, if_pos hc]
            simp only [i4, List.getElem_cons_succ]
            rw [if_pos hy]
            rfl
          · have i4 : getF f false r = ⟨0, val (r.take (high f r + 1)), high f r + 1⟩ := by rw [i3 hr (by omega), if_neg hx]
            have hy : ¬ ((high f r + 1 + 1 = f + 1 ∧ 1 < (r[high f r]).toNat) ∨ ((first = false ∨ 0 < high f r + 1) ∧ (r[high f r]).toNat = 0)) := by
              rintro (⟨x1, x2⟩ | ⟨_, x2⟩)
              · exact hx (.inl ⟨by omega, x2⟩)
              · exact hx (.inr ⟨.inl rfl, x2⟩)
            rw [getF, if_pos hc]
            simp only [i4, List.getElem_cons_succ]
            rw [if_neg hy]
            simp [val]
      · have e : high (f + 1) (c :: r) = 0 := by rw [high, if_neg hc]
        rw [e]
        refine ⟨fun h => by omega, fun h _ => by simp at h, fun h h' => ?_⟩
        rw [getF, if_neg hc]
        simp only [List.getElem_cons_zero]
        by_cases hx : (f = 0 ∧ 1 < c.toNat) ∨ (first = false ∧ c.toNat = 0)
        · rw [if_pos hx, if_pos]
          rcases hx with ⟨x1, x2⟩ | ⟨x1, x2⟩
          · exact .inl ⟨by omega, x2⟩
          · exact .inr ⟨.inl x1, x2⟩
        · rw [if_neg hx, if_neg]
          · have : c.toNat % 128 = c.toNat := by omega
            simp [val, this]
          · rintro (⟨x1, x2⟩ | ⟨x1 | x1, x2⟩)
            · exact hx (.inl ⟨by omega, x2⟩)
            · exact hx (.inr ⟨x1, x2⟩)
            · omega

theorem val_drop_le : ∀ (r : List UInt8) (i : Nat), val (r.drop i) ≤ val r
  | [], i => by simp [val]
  | c :: r, 0 => by simp
  | c :: r, i + 1 => by
    have := val_drop_le r i
    simp only [List.drop_succ_cons, val]
    omega
theorem val_drop (r : List UInt8) (i : Nat) (h : i < r.length) : val (r.drop i) = val (r.drop (i + 1)) * 128 + r[i].toNat % 128 := by
  rw [List.drop_eq_getElem_cons h, val]

/-- what is read at a place -/
def getAt (l : List UInt8) (at_ : Int) : Got := if at_ < 0 then ⟨30, 0, 0⟩ else get (l.drop at_.toNat)
/-- the place behind it -/
def nextAt (l : List UInt8) (at_ : Int) : Int := if (getAt l at_).err = 0 then at_ + (getAt l at_).k else 0

theorem put_length_le (n : Nat) : (put n).length ≤ 10 := putF_le 10 n
theorem put_length_pos (n : Nat) : 1 ≤ (put n).length := putF_pos 9 n
end Go.Proofs.YtohgmkgclgoflaaDoor.Leb

/- The walks of package real's and the document's Fix, Bits, Same (wip/real/WFix.lean.t over a dump that lists no variable). -/
namespace Go.Proofs.YtohgmkgclgoflaaDoor
open Go.RowKit

/-- x != x -/
def nanB (x : Nat) : Bool := FloatKind.f64.format.order x x != some .eq
/-- the bits, with the one NaN -/
def fixB (x : Nat) : Nat := if nanB x then 9221120237041090560 else x

theorem nan_t {x : Nat} (h : nanB x = true) : (FloatKind.f64.format.order x x != some .eq) = true := h
theorem nan_f {x : Nat} (h : nanB x = false) : (FloatKind.f64.format.order x x != some .eq) = false := h
theorem fix_t {x : Nat} (h : nanB x = true) : fixB x = 9221120237041090560 := by simp [fixB, h]
theorem fix_f {x : Nat} (h : nanB x = false) : fixB x = x := by simp [fixB, h]

theorem run_frombits (x : Int) (w : World) : (callFunc 66 #[.int .u64 x]).run Tryd.prog w = .ok (.value (.float .f64 x.toNat)) w := by kernel_rfl
theorem run_bits (x : Nat) (w : World) : (callFunc 67 #[.float .f64 x]).run Tryd.prog w = .ok (.value (.int .u64 x)) w := by kernel_rfl
attribute [local go_sem] run_frombits run_bits

set_option maxHeartbeats 400000 in
theorem isNaN_any (x : Nat) (w : World) :
    Calls Tryd.prog 69 #[.float .f64 x] w fun e w' => e = .returned (.bool (nanB x)) ∧ w' = w := by
  go_enter Tryd.func69, Tryd.ntmps69
  go_wp2
  go_ret
  exact ⟨rfl, rfl⟩

set_option maxHeartbeats 400000 in
theorem realFix_any (x : Nat) (w : World) :
    Calls Tryd.prog 65 #[.float .f64 x] w fun e w' => e = .returned (.float .f64 (fixB x)) ∧ w' = w := by
  cases h : nanB x
  · have h' := nan_f h
    rw [fix_f h]
    clear h
    go_enter Tryd.func65, Tryd.ntmps65
    go_wp2
    go_ret
    exact ⟨rfl, rfl⟩
  · have h' := nan_t h
    rw [fix_t h]
    clear h
    go_enter Tryd.func65, Tryd.ntmps65
    go_wp2
    go_ret
    exact ⟨rfl, rfl⟩

set_option maxHeartbeats 400000 in
theorem realBits_any (x : Nat) (w : World) :
    Calls Tryd.prog 63 #[.float .f64 x] w fun e w' => e = .returned (.int .u64 (fixB x)) ∧ w' = w := by
  go_enter Tryd.func63, Tryd.ntmps63
  go_wp2_with (go_at_call 65; refine (realFix_any _ _).mono ?_; rintro e w' ⟨rfl, rfl⟩)
  go_ret
  exact ⟨rfl, rfl⟩

set_option maxHeartbeats 400000 in
theorem realOf_any (x : Int) (w : World) :
    Calls Tryd.prog 62 #[.int .u64 x] w fun e w' => e = .returned (.float .f64 (fixB x.toNat)) ∧ w' = w := by
  go_enter Tryd.func62, Tryd.ntmps62
  go_wp2_with (go_at_call 65; refine (realFix_any _ _).mono ?_; rintro e w' ⟨rfl, rfl⟩)
  go_ret
  exact ⟨rfl, rfl⟩

set_option maxHeartbeats 400000 in
theorem realSame_any (x y : Nat) (w : World) :
    Calls Tryd.prog 110 #[.float .f64 x, .float .f64 y] w fun e w' => e = .returned (.bool ((fixB x : Int) == (fixB y : Int))) ∧ w' = w := by
  go_enter Tryd.func110, Tryd.ntmps110
  go_wp2_with (go_at_call 63; refine (realBits_any _ _).mono ?_; rintro e w' ⟨rfl, rfl⟩)
  go_ret
  exact ⟨rfl, rfl⟩

end Go.Proofs.YtohgmkgclgoflaaDoor
