/- LebNumbers, LebPuts, LebGets, over what the laws ask of package leb. -/
import Derived.Test.YthbkmliggdpmoaaLebC
namespace Go.Proofs.Ythbkmliggdpmoaa
open Go.RowKit

set_option maxHeartbeats 1000000 in
theorem lebNumbers_any {I : World → Prop} (K : LebOk I) (w : World) (hI : I w) :
    Calls Try.prog 3 #[] w fun e w' => e = .returned (.bool true) ∧ Below w.heap.size w w' := by
  have HK := Lib.hid K
  have HI := Lib.hid hI
  clear hI
  go_enter Try.func3, Try.ntmps3
  go_wp2_with fail
  refine (HK.out.get none 0 [] 0 w (by decide) (by decide) (by decide) (by decide) (.inl rfl) HI.out).mono ?_
  rintro e w1 ⟨rfl, hb⟩
  have B1 := Lib.hid hb
  clear hb
  rw [got_none]
  go_wp2_with fail
  refine (HK.out.put 18446744073709551615 _ (by decide) (HK.out.on HI.out B1.out)).mono ?_
  rintro e w2 ⟨g, o, cap, rfl, -, -, -, hb⟩
  have B2 := Lib.hid (B1.out.trans (hb.mono B1.out.size))
  clear hb
  rw [len_max]
  go_wp2_with fail
  refine (HK.out.zig (-9223372036854775808) _ (by decide) (by decide) (HK.out.on HI.out B2.out)).mono ?_
  rintro e w3 ⟨rfl, hb⟩
  have B3 := Lib.hid (B2.out.trans (hb.mono B2.out.size))
  clear hb
  rw [zig_min]
  go_wp2
  go_ret
  exact ⟨rfl, B3.out⟩

set_option maxHeartbeats 1000000 in
theorem lebPuts_any {I : World → Prop} (K : LebOk I) (n : Nat) (hn : n < 18446744073709551616) (s : Int) (hs1 : -9223372036854775808 ≤ s) (hs2 : s ≤ 9223372036854775807) (w : World) (hI : I w) :
    Calls Try.prog 4 #[.int .u64 n, .int .i64 s] w fun e w' => e = .returned (.bool true) ∧ Below w.heap.size w w' := by
  have HK := Lib.hid K
  have HI := Lib.hid hI
  have hlen := Leb.put_length_le n
  clear hI
  go_enter Try.func4, Try.ntmps4
  go_wp2_with fail
  refine (HK.out.put n w hn HI.out).mono ?_
  rintro e w1 ⟨g, o, cap, rfl, hF, -, -, hb⟩
  have B1 := Lib.hid hb
  have A1 := Lib.hid hF.at
  clear hb hF
  go_wp2_with fail
  refine (refPut_any n hn w1).mono ?_
  rintro e w2 ⟨g2, cap2, rfl, hM, hb⟩
  have B2 := Lib.hid (B1.out.trans (hb.mono B1.out.size))
  have A1' := Lib.hid (A1.out.on hb)
  have A2 := Lib.hid hM.at
  clear hb hM A1
  go_wp2_with fail
  refine (lebLive_ok HK.out w2 (HK.out.on HI.out B2.out)).mono ?_
  rintro e w3 ⟨rfl, hb⟩
  have B3 := Lib.hid (B2.out.trans (hb.mono B2.out.size))
  have HS := Lib.hid (same_any (some ⟨g, o, none⟩) (some ⟨g2, 0, none⟩) cap cap2 (Leb.put n) (Leb.put n) (by omega) w3 (A1'.out.on hb) (A2.out.on hb))
  clear hb A1' A2
  go_wp2_with fail
  refine HS.out.mono ?_
  rintro e w4 ⟨rfl, k, hw⟩
  rw [beq_self_eq_true]
  have B4 : Hid (Below w.heap.size w w4) := by rw [hw]; exact below_drewN B3.out k
  clear hw HS
  go_wp2_with fail
  refine (HK.out.len n _ hn (HK.out.on HI.out B4.out)).mono ?_
  rintro e w5 ⟨rfl, hb⟩
  have B5 := Lib.hid (B4.out.trans (hb.mono B4.out.size))
  clear hb
  go_wp2_with fail
  refine (refLen_any n hn w5).mono ?_
  rintro e w' ⟨rfl, hw⟩
  rw [hw]
  clear hw w'
  generalize (Leb.put n).length = L at hlen ⊢
  go_wp2_with fail
  refine (HK.out.zig s _ hs1 hs2 (HK.out.on HI.out B5.out)).mono ?_
  rintro e w6 ⟨rfl, hb⟩
  have B6 := Lib.hid (B5.out.trans (hb.mono B5.out.size))
  clear hb
  go_wp2_with fail
  refine (refZig_any s hs1 hs2 w6).mono ?_
  rintro e w' ⟨rfl, hw⟩
  rw [hw]
  clear hw w'
  generalize Leb.zig s = zs
  go_wp2_with fail
  refine (HK.out.zag n _ hn (HK.out.on HI.out B6.out)).mono ?_
  rintro e w7 ⟨rfl, hb⟩
  have B7 := Lib.hid (B6.out.trans (hb.mono B6.out.size))
  clear hb
  go_wp2_with fail
  refine (refZag_any n hn w7).mono ?_
  rintro e w' ⟨rfl, hw⟩
  rw [hw]
  clear hw w'
  generalize Leb.zag n = zn
  go_wp2
  go_ret
  exact ⟨rfl, B7.out⟩

set_option maxHeartbeats 1000000 in
theorem lebGets_any {I : World → Prop} (K : LebOk I) (p : Option Addr) (c : Nat) (l : List UInt8) (hl : l.length ≤ 140737488351232) (hlc : l.length ≤ c) (a : Int) (ha1 : -9223372036854775808 ≤ a) (ha2 : a ≤ 9223372036854775807) (w : World) (hI : I w) (h : At w p l) :
    Calls Try.prog 5 #[.slice p l.length c, .int .i64 a] w fun e w' => e = .returned (.bool true) ∧ Below w.heap.size w w' := by
  obtain ⟨q, d, W, hrun, hW, _, hd, hB⟩ := copy_run p c l w hl h
  have HK := Lib.hid K
  have HI := Lib.hid hI
  have HA := Lib.hid (h.on hB)
  have HW := Lib.hid hW
  have B0 := Lib.hid hB
  have HR := Lib.hid (AppRun.mk hrun)
  clear hI h hW hB hrun hd
  go_enter Try.func5, Try.ntmps5
  go_wp2_with (first | (at_builtin; refine wpList_append_ran HR.out rfl rfl rfl rfl ?_))
  refine (HK.out.get p c l a W hl hlc ha1 ha2 HA.out (HK.out.on HI.out B0.out)).mono ?_
  rintro e w1 ⟨rfl, hb⟩
  have B1 := Lib.hid (B0.out.trans (hb.mono B0.out.size))
  have HA1 := Lib.hid (HA.out.on hb)
  have HW1 := Lib.hid (HW.out.on hb)
  clear hb HA HW
  have HG := Lib.hid (refGet_any (some q) d l a hl w1 HW1.out)
  unfold gotV at HG ⊢
  generalize (Leb.getAt l a).n = x at HG ⊢
  generalize Leb.nextAt l a = y at HG ⊢
  generalize (Leb.getAt l a).err = z at HG ⊢
  go_wp2_with fail
  refine HG.out.mono ?_
  rintro e w' ⟨rfl, hw⟩
  rw [hw]
  clear hw w' HG
  go_wp2_with fail
  refine (lebLive_ok HK.out w1 (HK.out.on HI.out B1.out)).mono ?_
  rintro e w3 ⟨rfl, hb⟩
  have B3 := Lib.hid (B1.out.trans (hb.mono B1.out.size))
  have HS := Lib.hid (same_any p (some q) c d l l hl w3 (HA1.out.on hb) (HW1.out.on hb))
  clear hb HA1 HW1
  go_wp2_with fail
  refine HS.out.mono ?_
  rintro e w4 ⟨rfl, k, hw⟩
  rw [beq_self_eq_true]
  have B4 : Hid (Below w.heap.size w w4) := by rw [hw]; exact below_drewN B3.out k
  clear hw HS
  go_wp2
  go_ret
  exact ⟨rfl, B4.out⟩
end Go.Proofs.Ythbkmliggdpmoaa
