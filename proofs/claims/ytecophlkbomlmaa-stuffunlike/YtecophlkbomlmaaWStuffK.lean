/- The walk of package stuff's Stuff: what each group takes is told to a closure that writes it. -/
import Derived.Test.YtecophlkbomlmaaWLenK
namespace Go.Proofs.Ytecophlkbomlmaa
open Go.RowKit

/-- the closure's slice stands in the variable g: both are the call's own -/
def StuI (w : World) (g : Nat) (xs : List UInt8) (w' : World) : Prop := Below w.heap.size w w' ∧ w.heap.size ≤ g ∧ ∃ s cap, Var w' w.heap.size g s cap xs

theorem stu_grown {w W W' : World} {s : Nat} (h : Below w.heap.size w W) (hs : w.heap.size ≤ s) (hg : W.grownBy W' (some s)) : Below w.heap.size w W' :=
  h.grown hg h.size (fun k hk => by cases hk; exact hs)

set_option maxRecDepth 100000 in
set_option maxHeartbeats 1000000 in
theorem stu_tell (w : World) (g : Nat) (xs t : List UInt8) (q : Option Addr) (k : Nat) (w' : World) (h : StuI w g xs w') (hq : ∀ ys w'', StuI w g ys w'' → At w'' q t) (ht : t.length ≤ 254) (hb : xs.length + 1 + t.length ≤ 150000000000000) :
    Calls Try.prog 14 #[.slice q t.length k, .pointer (some ⟨g, 0, none⟩)] w' fun e w'' => e = .returned (.tuple #[]) ∧ StuI w g (xs ++ [UInt8.ofNat (t.length + 1)] ++ t) w'' := by
  obtain ⟨hbl, hg, s, cap, hv⟩ := h
  have hc := one_cell hv.box
  have hcn : (UInt8.ofNat (t.length + 1)).toNat = t.length + 1 := Cob.len_byte _ ht
  have HQ := Lib.hid hq
  have HV := Lib.hid hv
  have HB := Lib.hid hbl
  have hB := hbl.size
  clear hv hbl hq
  generalize UInt8.ofNat (t.length + 1) = cc at hcn
  go_enter Try.func14, Try.ntmps14
  go_wp2_with (first
    | (at_builtin; refine wp_push1 HV.out.mine cc (by omega) hB (by omega) rfl rfl rfl rfl rfl rfl ?_; intro ys s1 cap1 W1 HY hm1 hg1
       have hf1 := one_free (HV.out.still hg1)
       have hc0 := one_cell (HV.out.still hg1)
       have HV1 := Lib.hid (var_store (HV.out.still hg1) hm1)
       have HB1 := Lib.hid ((stu_grown HB.out HV.out.mine.base.1 hg1).setCell (p := ⟨g, 0, none⟩) hg (.slice (some ⟨s1, 0, none⟩) ys.length cap1))
       have hc1 := one_cell HV1.out.box
       have HA1 := Lib.hid (HQ.out _ _ ⟨HB1.out, hg, s1, cap1, HV1.out⟩)
       have hl1 : ys.length ≤ xs.length + 1 := by rw [HY.out]; simp
       clear hm1 hg1)
    | (at_builtin; refine wp_onto1 HV1.out.mine HA1.out (by omega) HB1.out.size rfl rfl rfl rfl rfl ?_; intro zs s2 cap2 W2 HZ hm2 hg2
       have hf2 := one_free (HV1.out.still hg2)
       have hc2 := one_cell (HV1.out.still hg2)
       have HV2 := Lib.hid (var_store (HV1.out.still hg2) hm2)
       have HB2 := Lib.hid ((stu_grown HB1.out HV1.out.mine.base.1 hg2).setCell (p := ⟨g, 0, none⟩) hg (.slice (some ⟨s2, 0, none⟩) zs.length cap2))
       clear hm2 hg2))
  go_end0
  have hz : zs = xs ++ [cc] ++ t := by rw [HZ.out, HY.out]
  rw [← hz]
  exact ⟨rfl, HB2.out, hg, s2, cap2, HV2.out⟩

set_option maxRecDepth 100000 in
set_option maxHeartbeats 1000000 in
theorem stuffK_stuff (p : Option Addr) (c : Nat) (l : List UInt8) (w : World) (hl : l.length ≤ 140737488351232) (hlc : l.length ≤ c) (h : At w p l) :
    Calls Try.prog 7 #[.slice p l.length c] w fun e w' => ∃ g o cap, e = .returned (.slice (some ⟨g, o, none⟩) (Cob.stuff l).length cap) ∧ Free w' g o (Cob.stuff l) ∧ w.heap.size ≤ g ∧ (Cob.stuff l).length ≤ cap ∧ Below w.heap.size w w' := by
  obtain ⟨i0, hi, hz0, hz1, hz2⟩ := info_parts info8
  have HA := Lib.hid h
  have hbd := (Cob.stuff_length l).2
  obtain ⟨n, hn⟩ : ∃ n, n = (Cob.stuff l).length := ⟨_, rfl⟩
  have HLn := Lib.hid (lenK p c l w hl hlc h)
  rw [← hn] at HLn hbd
  clear h
  have HN := Lib.hid hn
  clear hn
  go_enter Try.func7, Try.ntmps7
  go_wp2_with fail
  refine HLn.out.mono ?_
  rintro e w1 ⟨rfl, hb1⟩
  have HB1 := Lib.hid hb1
  have hB1 := hb1.size
  clear hb1
  go_wp2_with (first
    | (at_make; refine wpList_make_own _ rfl _ _ 22 rfl w.heap.size 5 i0 (.int .u8 0) 1 Try.underlying22 hi hz0 hz1 .i64 .i64 n n rfl rfl rfl (by rw [hz2]; omega) (by unfold maxLen; omega) hB1 ?_; intro w2 hown hgrow
       have HM2 : Hid (Mine w2 w.heap.size w1.heap.size n []) := hown
       have HG2 := Lib.hid hgrow
       clear hown hgrow)
    | fail)
  have hs2 : w1.heap.size ≤ w2.heap.size := HG2.out.size
  have hB2 : Below w.heap.size w w2 := HB1.out.grown HG2.out hB1 (fun k hk => by cases hk)
  refine (takeGroups_any 14 ⟨w2.heap.size, 0, none⟩ (StuI w w2.heap.size) p c l _ hl hlc (fun args w => enters_body Try.func14 (by kernel_rfl) rfl args w) (fun xs w' hi => HA.out.on hi.1) ?_ (fun xs q k t w' hi hq ht hb _ => stu_tell w w2.heap.size xs t q k w' hi hq ht hb)).mono ?_
  · exact ⟨hB2.alloc (by omega) _, by omega, w1.heap.size, n, ⟨heap_new w2 _, World.ownsRow.alloc HM2.out _⟩⟩
  · rintro e w3 ⟨rfl, hb3, hg3, s, cap, hv⟩
    have hc := one_cell hv.box
    have HB3 := Lib.hid hb3
    have HV := Lib.hid hv
    clear hb3 hv hB2
    go_wp2
    go_ret
    exact ⟨s, 0, cap, rfl, HV.out.mine.free, HV.out.mine.base.1, HV.out.mine.base.2.2, HB3.out⟩
end Go.Proofs.Ytecophlkbomlmaa
