/- LebBack, over what the laws ask of package leb. -/
import Derived.Test.YthbkmliggdpmoaaLebC
import Derived.Deep.RegionHeld3
namespace Go.Proofs.Ythbkmliggdpmoaa
open Go.RowKit

theorem got_back (n : Nat) (hn : n < 18446744073709551616) (x y : List UInt8) : gotV (x ++ Leb.put n ++ y) (x.length : Nat) = .tuple #[.int .u64 n, .int .i64 ((x.length : Int) + ((Leb.put n).length : Nat)), .int .i64 0] := by
  apply gotV_ok
  rw [List.append_assoc, List.drop_left]
  exact Leb.get_put n y hn

/-- what Get tells of any bytes: nothing, or a number with just these bytes -/
theorem got_cases (l : List UInt8) (a : Int) : (∃ c : Nat, c ≠ 0 ∧ gotV l a = .tuple #[.int .u64 0, .int .i64 0, .int .i64 c]) ∨
    ∃ (i n t : Nat), a = (i : Int) ∧ i < t ∧ t ≤ l.length ∧ n < 18446744073709551616 ∧ (l.drop i).take (t - i) = Leb.put n ∧ (Leb.put n).length = t - i ∧ gotV l a = .tuple #[.int .u64 n, .int .i64 (t : Nat), .int .i64 0] := by
  by_cases h0 : a < 0
  · exact .inl ⟨30, by omega, gotV_out l a (.inl h0)⟩
  · obtain ⟨i, rfl⟩ : ∃ i : Nat, a = (i : Int) := ⟨a.toNat, by omega⟩
    by_cases h1 : (Leb.get (l.drop i)).err = 0
    · obtain ⟨x1, x2, x3, x4⟩ := Leb.get_ok (l.drop i) h1
      generalize hg : Leb.get (l.drop i) = g at *
      obtain ⟨e, n, k⟩ := g
      simp only at h1 x1 x2 x3 x4
      subst h1
      rw [List.length_drop] at x3
      have e1 : i + k - i = k := by omega
      refine .inr ⟨i, n, i + k, rfl, by omega, by omega, x1, by rw [e1]; exact x2, ?_, gotV_ok l i n k hg⟩
      rw [← x2, List.length_take, List.length_drop]; omega
    · have hb := Leb.getF_bad 10 true (l.drop i) h1
      refine .inl ⟨(Leb.get (l.drop i)).err, h1, gotV_bad l i _ h1 ?_⟩
      have e : ∀ g : Leb.Got, g.n = 0 → g.k = 0 → g = ⟨g.err, 0, 0⟩ := by
        rintro ⟨e, n, k⟩ rfl rfl; rfl
      exact e _ hb.1 hb.2

set_option maxHeartbeats 400000 in
theorem lebBack_any {I : World → Prop} (K : LebOk I) (n : Nat) (hn : n < 18446744073709551616) (p q : Option Addr) (cp cq : Nat) (x y : List UInt8) (hl : x.length + y.length ≤ 1048576) (hcq : y.length ≤ cq) (a : Int) (ha1 : -9223372036854775808 ≤ a) (ha2 : a ≤ 9223372036854775807) (w : World) (hI : I w) (hx : At w p x) (hy : At w q y) :
    Calls Try.prog 6 #[.agg #[.int .u64 n, .slice p x.length cp, .slice q y.length cq, .int .i64 a]] w fun e w' => e = .returned (.bool true) ∧ Below w.heap.size w w' := by
  have HK := Lib.hid K
  have HI := Lib.hid hI
  have HX := Lib.hid hx
  have HY := Lib.hid hy
  have hlen := Leb.put_length_le n
  clear hI hx hy
  go_enter Try.func6, Try.ntmps6
  go_wp2_with fail
  have B0 : Hid (Below w.heap.size w (w.alloc (.cells #[.int .u64 n, .slice p x.length cp, .slice q y.length cq, .int .i64 a] 36))) := (Below.refl _ _).alloc (Nat.le_refl _) _
  generalize w.alloc (.cells #[.int .u64 n, .slice p x.length cp, .slice q y.length cq, .int .i64 a] 36) = w0 at B0 ⊢
  refine (HK.out.put n w0 hn (HK.out.on HI.out B0.out)).mono ?_
  rintro e w1 ⟨g, o, cap, rfl, hF, hg, hcap, h⟩
  have B1 := Lib.hid (B0.out.trans (h.mono B0.out.size))
  have AP := Lib.hid hF.at
  clear h hF hg hcap
  obtain ⟨put, hput⟩ : ∃ put, put = Leb.put n := ⟨_, rfl⟩
  rw [← hput] at AP hlen ⊢
  have D0 : Below w1.heap.size w1 (w1.alloc (.cells #[] 5)) := (Below.refl _ _).alloc (Nat.le_refl _) _
  obtain ⟨g1, c1, W1, hr1, hm1, hB1⟩ := onto_run w1.heap.size w1.heap.size 0 [] x p cp _ (mine_new w1) ((HX.out.on B1.out).on D0) (by simp; omega) D0.size
  have D1 := D0.trans hB1
  obtain ⟨g2, c2, W2, hr2, hm2, hB2⟩ := onto_run w1.heap.size g1 c1 _ put (some ⟨g, o, none⟩) cap W1 hm1 (AP.out.on D1) (by simp; omega) D1.size
  have D2 := D1.trans hB2
  obtain ⟨g3, c3, W3, hr3, hm3, hB3⟩ := onto_run w1.heap.size g2 c2 _ y q cq W2 hm2 ((HY.out.on B1.out).on D2) (by simp; omega) D2.size
  have D3 := D2.trans hB3
  rw [List.nil_append] at hr1 hr2 hr3 hm3
  obtain ⟨all, hall⟩ : ∃ all, all = x ++ put ++ y := ⟨_, rfl⟩
  rw [← hall] at hr3 hm3
  have hgot : gotV all (x.length : Nat) = .tuple #[.int .u64 n, .int .i64 ((x.length : Int) + (put.length : Nat)), .int .i64 0] := by rw [hall, hput]; exact got_back n hn x y
  have hallL : all.length ≤ 140737488351232 := by rw [hall]; simp; omega
  rw [List.length_append] at hr2 hr3
  have hallC : all.length ≤ c3 := hm3.base.2.2
  have HR1 := Lib.hid (AppRun.mk hr1)
  have HR2 := Lib.hid (AppRun.mk hr2)
  have HR3 := Lib.hid (AppRun.mk hr3)
  have B3 := Lib.hid (B1.out.trans (D3.mono B1.out.size))
  have AM := Lib.hid hm3.at
  have HG := Lib.hid hgot
  have AY := Lib.hid (HY.out.on B3.out)
  have HPut := Lib.hid hput
  clear hr1 hr2 hr3 hm1 hm2 hm3 hB1 hB2 hB3 D0 D1 D2 D3 hgot hall AP hput
  go_wp2_with (first
    | (at_builtin; refine wpList_append_ran HR1.out rfl rfl rfl rfl ?_)
    | (at_builtin; refine wpList_append_ran HR2.out rfl rfl rfl rfl ?_)
    | (at_builtin; refine wpList_append_ran HR3.out rfl rfl rfl rfl ?_))
  refine (HK.out.get (some ⟨g3, 0, none⟩) c3 all (x.length : Nat) W3 hallL hallC (by omega) (by omega) AM.out (HK.out.on HI.out B3.out)).mono ?_
  rintro e w4 ⟨rfl, h⟩
  have B4 := Lib.hid (B3.out.trans (h.mono B3.out.size))
  have AY4 := Lib.hid (AY.out.on h)
  clear h AY AM
  rw [HG.out]
  go_wp2_with fail
  refine (HK.out.len n _ hn (HK.out.on HI.out B4.out)).mono ?_
  rintro e w5 ⟨rfl, h⟩
  have B5 := Lib.hid (B4.out.trans (h.mono B4.out.size))
  have AY5 := Lib.hid (AY4.out.on h)
  clear h AY4
  rw [← HPut.out]
  go_wp2_with fail
  refine (HK.out.len n _ hn (HK.out.on HI.out B5.out)).mono ?_
  rintro e w6 ⟨rfl, h⟩
  have B6 := Lib.hid (B5.out.trans (h.mono B5.out.size))
  have AY6 := Lib.hid (AY5.out.on h)
  clear h AY5
  rw [← HPut.out]
  clear HPut
  go_wp2_with fail
  refine (HK.out.get q cq y a w6 (by omega) hcq ha1 ha2 AY6.out (HK.out.on HI.out B6.out)).mono ?_
  rintro e w7 ⟨rfl, h⟩
  have B7 := Lib.hid (B6.out.trans (h.mono B6.out.size))
  have AY7 := Lib.hid (AY6.out.on h)
  clear h AY6
  rcases got_cases y a with ⟨c, hc, hgv⟩ | ⟨i, m, t, rfl, hk1, hk2, hm, htk, hpl, hgv⟩
  · rw [hgv]
    have hc' : ((c : Int) != 0) = true := by rw [bne_iff_ne]; omega
    clear hgv hc
    go_wp2_with fail
    refine (lebLive_ok HK.out _ (HK.out.on HI.out B7.out)).mono ?_
    rintro e w8 ⟨rfl, h⟩
    have B8 := Lib.hid (B7.out.trans (h.mono B7.out.size))
    clear h
    go_wp2
    go_ret
    exact ⟨rfl, B8.out⟩
  · rw [hgv]
    obtain ⟨b, bo, rfl, hbl, hcells⟩ := at_some AY7.out (by omega)
    have hcs := cells_take (cells_drop hcells i) (t - i)
    rw [htk] at hcs
    have AT : Hid (At w7 (some ⟨b, bo + i, none⟩) (Leb.put m)) := .inr ⟨b, bo + i, rfl, hbl, hcs⟩
    have i1 : (t : Int) ≤ (y.length : Int) := by omega
    have i2 : (i : Int) < (t : Int) := by omega
    have i3 : (t : Int) ≤ (cq : Int) := by omega
    have i4 : ¬ cq = i := by omega
    have i5 : (i : Int) ≤ (t : Int) := by omega
    have hpl10 := Leb.put_length_le m
    have HP := Lib.hid hpl
    clear hgv AY7 hcells hcs htk hpl HR1 HR2 HR3 HG HX HY
    have HSame : Hid (∀ (g9 o9 c9 c8 : Nat) (w9 : World), At w9 (some ⟨g9, o9, none⟩) (Leb.put m) → At w9 (some ⟨b, bo + i, none⟩) (Leb.put m) →
        Calls Try.prog 14 #[.slice (some ⟨g9, o9, none⟩) (t - i) c9, .slice (some ⟨b, bo + i, none⟩) (t - i) c8] w9 fun e w' => e = .returned (.bool true) ∧ ∃ n, w' = w9.drewN n) := by
      intro g9 o9 c9 c8 w9 h1 h2
      have h3 := same_any _ _ c9 c8 _ _ (by omega) w9 h1 h2
      rw [HP.out, beq_self_eq_true] at h3
      exact h3
    clear hpl10
    go_wp2
    go_region_held3 (fun _ => True) (trivial) (first
      | (go_at_call 13; refine (lebLive_ok HK.out _ (HK.out.on HI.out B7.out.drew)).mono ?_; rintro e w8 ⟨rfl, h⟩; have B8 := Lib.hid (B7.out.drew.trans (h.mono B7.out.size)); have A8 := Lib.hid (At.on (w := w7.drew) AT.out h); clear h)
      | (go_at_call 10; refine (HK.out.put m _ hm (HK.out.on HI.out B8.out)).mono ?_; rintro e w9 ⟨g9, o9, cap9, rfl, hF, -, -, h⟩; have B9 := Lib.hid (B8.out.trans (h.mono B8.out.size)); have A9 := Lib.hid hF.at; have A8' := Lib.hid (A8.out.on h); clear h hF; rw [HP.out])
      | (go_at_call 14; refine (HSame.out g9 o9 cap9 _ _ A9.out A8'.out).mono ?_; rintro e w10 ⟨rfl, j, hw⟩; have B10 : Hid (Below w.heap.size w w10) := (by rw [hw]; exact below_drewN B9.out j); clear hw))
    go_wp2
    go_ret
    exact ⟨rfl, B10.out⟩
end Go.Proofs.Ythbkmliggdpmoaa
