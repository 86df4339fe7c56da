/- K8D, K8E, K8F, K8G, K8R, K8Q: put together. -/
import Derived.Test.YtnlhpndjogjejaaM12
import Derived.Test.YtnlhpndjogjejaaM10
import Derived.Deep.RegionHeld3
import Derived.Test.YtnlhpndjogjejaaM08
import Derived.Test.YtnlhpndjogjejaaM03
import Derived.Test.YtnlhpndjogjejaaM05
import Derived.Test.YtnlhpndjogjejaaM01
import Derived.Test.YtnlhpndjogjejaaM09
import Derived.Deep.RegionLaw

/- The landed row's writer: items, values. -/
namespace Go.Proofs.Ytnlhpndjogjejaa
open Go.RowKit

attribute [local go_sem] run_store_float

/-- what is asked of value, at a value -/
def ValW (x : V) : Prop := ∀ (w0 w : World) (u : Array Value) (B R : Nat) (most : Int) (xs : List UInt8), VLies w0 u x → Below w0.heap.size w0 w → w0.heap.size ≤ R → Wtr w B R most xs → xs.length + (Sch.vB x).length ≤ 80000000000000 → Calls Try.prog 24 #[.pointer (some ⟨R, 0, none⟩), .agg u] w (WrA w B R most xs (Sch.vB x))

section
variable {w : World} {B R : Nat} {most : Int} {xs : List UInt8} (h : Wtr w B R most xs)
include h

set_option maxRecDepth 100000 in
set_option maxHeartbeats 1000000 in
theorem writeItemsK (k i : Int) (b : Nat) (t : ByteArray) (items : List V) (hn : items.length ≤ 256) (ih : ∀ x ∈ items, ValW x) (p : Option Addr) (c : Nat) (w0 : World) (hx : Items w0 p items) (hb0 : Below w0.heap.size w0 w) (hr0 : w0.heap.size ≤ R) (hlen : xs.length + (Leb.put items.length ++ (items.map Sch.vB).flatten).length ≤ 80000000000000) :
    Calls Try.prog 51 #[.pointer (some ⟨R, 0, none⟩), .agg #[.int .i64 k, .int .i64 i, .float .f64 b, .string t, .slice p items.length c]] w (WrA w B R most xs (Leb.put items.length ++ (items.map Sch.vB).flatten)) := by
  obtain ⟨W0, hW0⟩ : ∃ W0, W0 = w.alloc (.cells #[.int .i64 k, .int .i64 i, .float .f64 b, .string t, .slice p items.length c] 46) := ⟨_, rfl⟩
  have HB0 : Hid (Below w.heap.size w W0) := by rw [hW0]; exact (Below.refl _ _).alloc (Nat.le_refl _) _
  have hR := h.lt
  have HHw := Lib.hid h
  have HBw := Lib.hid hb0
  have hlen' : xs.length + ((Leb.put items.length).length + (items.map Sch.vB).flatten.length) ≤ 80000000000000 := by rw [← List.length_append]; exact hlen
  have d4 : W0.cell? ⟨w.heap.size, 4, none⟩ = some (.slice p items.length c) := by rw [hW0]; simp
  have hs0 : W0.heap.size = w.heap.size + 1 := by rw [hW0]; simp
  have HN := Lib.hid (numberW items.length (by omega) xs (by omega) B R most W0 (h.on HB0.out))
  have hpl := Leb.put_length_le items.length
  obtain ⟨l0, hl0⟩ : ∃ z, z = Leb.put items.length := ⟨_, rfl⟩
  rw [← hl0] at HN hpl hlen' ⊢
  have hts : (items.length : Int) ≤ 256 := by omega
  have HW0 := Lib.hid hW0
  have HX := Lib.hid hx
  have HIH := Lib.hid ih
  clear h hl0 hW0 hlen hb0 hx ih
  go_enter Try.func51, Try.ntmps51
  go_wp2_with fail
  rw [← HW0.out]
  refine HN.out.mono ?_
  rintro e w2 ⟨rfl, hw2, ha2⟩
  have HH := Lib.hid hw2
  have HA2 := Lib.hid ha2
  have e4 : w2.cell? ⟨w.heap.size, 4, none⟩ = some (.slice p items.length c) := by
    rw [World.cell?_of_block (w := W0) (ha2.far HHw.out HB0.out (Nat.le_refl _) (by show w.heap.size < _; omega))]
    exact d4
  have HA0 : Hid (AsW R w w2) := (AsW.new hR HB0.out).trans ha2
  have HZ0 : Hid (PutW most xs (l0 ++ ((items.take 0).map Sch.vB).flatten) (xs ++ l0)) := by
    show PutW _ _ _ _
    rw [List.take_zero, List.map_nil, List.flatten_nil, List.append_nil]
    exact PutW.all
  clear hw2 ha2 HN d4
  go_wp2_with fail
  clear e4
  go_loopw [15] (fun v15 wr => ∃ (j : Nat) (zs : List UInt8), j ≤ items.length ∧ v15 = .int .i64 j ∧ zs.length ≤ 80000000000000 ∧ Hid (PutW most xs (l0 ++ ((items.take j).map Sch.vB).flatten) zs ∧ Wtr wr B R most zs ∧ AsW R w wr)) (fun v15 _ => items.length - (intOf v15).toNat)
  case atStart => exact ⟨0, xs ++ l0, by omega, rfl, by rw [List.length_append]; omega, HZ0.out, HH.out, HA0.out⟩
  case round =>
    obtain ⟨j, zs, hj, rfl, hzl, HL⟩ := hrel
    have hbr : Below w0.heap.size w0 wr := HBw.out.trans (HL.out.2.2.below HHw.out hr0)
    by_cases hlt : j < items.length
    · obtain ⟨ux, hvx, hix⟩ := HX.out j hlt
      obtain ⟨bx, ox, kx, ix, fx, tx, qx, nx, cx, rfl, _, rfl, a0, a1, a2, a3, a4⟩ := (hix.on hbr).lies
      have hj1 : (j : Int) < (items.length : Int) := by omega
      obtain ⟨wa, hwa⟩ : ∃ wa, wa = wr.alloc (.cells #[.int .i64 kx, .int .i64 ix, .float .f64 fx, .string tx, .slice qx nx cx] 46) := ⟨_, rfl⟩
      have HBa : Hid (Below wr.heap.size wr wa) := by rw [hwa]; exact (Below.refl _ _).alloc (Nat.le_refl _) _
      have HAs : Hid (wa.cell? ⟨wr.heap.size, 0, none⟩ = some (.int .i64 kx) ∧ wa.cell? ⟨wr.heap.size, 1, none⟩ = some (.int .i64 ix) ∧ wa.cell? ⟨wr.heap.size, 2, none⟩ = some (.float .f64 fx) ∧ wa.cell? ⟨wr.heap.size, 3, none⟩ = some (.string tx) ∧ wa.cell? ⟨wr.heap.size, 4, none⟩ = some (.slice qx nx cx)) := by rw [hwa]; exact ⟨by simp, by simp, by simp, by simp, by simp⟩
      have HWr := Lib.hid (HL.out.2.1.on HBa.out)
      have HAa : Hid (AsW R w wa) := HL.out.2.2.trans (AsW.new HL.out.2.1.lt HBa.out)
      obtain ⟨T, q, cap, h1, -, -, -, -⟩ := HWr.out.out
      have r1 : wa.cell? ⟨R, 1, none⟩ = some (.slice q zs.length cap) := blk_cell h1 1
      have r2 : wa.cell? ⟨R, 2, none⟩ = some (.int .i64 most) := blk_cell h1 2
      have HWa := Lib.hid hwa
      have HTk := Lib.hid (Sch.flatten_take Sch.vB items j hlt)
      have HTl := Lib.hid (Sch.flatten_take_le Sch.vB items j)
      have HTl1 := Lib.hid (Sch.flatten_take_le Sch.vB items (j + 1))
      by_cases hbig : most < zs.length
      · have gb : most < (zs.length : Int) := hbig
        have HPv : Hid (PutW most xs (l0 ++ (items.map Sch.vB).flatten) zs) := by
          have h0 := HTl.out
          have hp := HL.out.1
          have hpl := hp.len
          rw [List.length_append] at hpl
          refine ⟨.inr ⟨hbig, ?_⟩, by rw [List.length_append]; omega⟩
          have : zs.length ≤ (xs ++ (l0 ++ (items.map Sch.vB).flatten)).length := by rw [List.length_append, List.length_append]; omega
          omega
        clear hvx hix hbr HL hwa HAs hbig h1 HTk HTl HTl1
        go_wp2_with fail
        rw [← HWa.out]
        go_region_law (fail)
        all_goals
          go_wp2
          go_end0
          exact ⟨zs, HPv.out, rfl, HWr.out.drew, HAa.out.trans (AsW.new HWr.out.lt (Below.refl _ _).drew)⟩
      · have gb : ¬ most < (zs.length : Int) := hbig
        have HZ : Hid (zs = xs ++ (l0 ++ ((items.take j).map Sch.vB).flatten)) := by
          rcases HL.out.1.eq with h2 | h2
          · exact h2
          · exact absurd h2.1 hbig
        have hzb : zs.length + (Sch.vB items[j]).length ≤ 80000000000000 := by
          have h1 := HTl1.out
          rw [HTk.out, List.length_append] at h1
          rw [HZ.out, List.length_append, List.length_append]
          omega
        have HC := Lib.hid (HIH.out _ (List.getElem_mem hlt) w0 wa.drew _ B R most zs hvx (hbr.trans (HBa.out.drew.mono hbr.size)) hr0 HWr.out.drew hzb)
        unfold cells5 at HC
        obtain ⟨full, hfull⟩ : ∃ l, l = Sch.vB items[j] := ⟨_, rfl⟩
        rw [← hfull] at HC HTk hzb
        obtain ⟨s0, s1, s2, s3, s4⟩ := HAs.out
        clear hvx hix hbr HL hwa hbig hfull h1 HTl HAs
        go_wp2_with fail
        rw [← HWa.out]
        clear HWa a0 a1 a2 a3 a4
        go_region_law (fail)
        all_goals
          go_wp2_with fail
          refine HC.out.mono ?_
          rintro e w3 ⟨ys2, hpv, rfl, hw3, ha3⟩
          have HN2 : Hid (PutW most xs (l0 ++ ((items.take (j + 1)).map Sch.vB).flatten) ys2 ∧ Wtr w3 B R most ys2 ∧ AsW R w w3) := by
            refine ⟨?_, hw3, (HAa.out.trans (AsW.new HWr.out.lt (Below.refl _ _).drew)).trans ha3⟩
            have e1 : xs ++ (l0 ++ ((items.take (j + 1)).map Sch.vB).flatten) = zs ++ full := by rw [HTk.out, HZ.out]; simp
            refine ⟨by rw [e1]; exact hpv.eq, ?_⟩
            have h5 := congrArg List.length e1
            have h6 : (zs ++ full).length = zs.length + full.length := List.length_append
            have h7 : (xs ++ (l0 ++ ((items.take (j + 1)).map Sch.vB).flatten)).length = xs.length + (l0 ++ ((items.take (j + 1)).map Sch.vB).flatten).length := List.length_append
            have h8 := hpv.len
            omega
          have hys : ys2.length ≤ 80000000000000 := by have := hpv.len; omega
          clear hpv hw3 ha3 HC HTk HZ s0 s1 s2 s3 s4
          go_wp2
          go_roundw
          case rel => exact ⟨j + 1, ys2, by omega, by go_num, hys, HN2.out⟩
          case measure => simp [intOf]; omega
    · have hjn : ¬ (j : Int) < (items.length : Int) := by omega
      have HPv : Hid (PutW most xs (l0 ++ (items.map Sch.vB).flatten) zs) := by
        have h1 := HL.out.1
        rw [List.take_of_length_le (by omega)] at h1
        exact h1
      have HW := Lib.hid HL.out.2.1
      have HA := Lib.hid HL.out.2.2
      clear HL hbr
      go_wp2
      go_end0
      exact ⟨zs, HPv.out, rfl, HW.out, HA.out⟩
end
end Go.Proofs.Ytnlhpndjogjejaa

/- The landed row's writer: value, by the table. -/
namespace Go.Proofs.Ytnlhpndjogjejaa
open Go.RowKit

attribute [local go_sem] run_store_float

set_option maxRecDepth 100000 in
set_option maxHeartbeats 1000000 in
theorem valueW_at (k : Nat) (f : FuncId) (hk : k < 8) (hf : waysW[k]? = some (.func (.func f) #[] #[])) (i : Int) (b : Nat) (t : ByteArray) (p : Option Addr) (n c : Nat) {w : World} {B R : Nat} {most : Int} {xs full : List UInt8} (h : Wtr w B R most xs)
    (hE : ∀ (args : Array Value) (w : World), (callFunc f args).run Try.prog w = .ok (.enter f args) w)
    (hc : ∀ w', Below w.heap.size w w' → Wtr w' B R most xs → Calls Try.prog f #[.pointer (some ⟨R, 0, none⟩), .agg #[.int .i64 k, .int .i64 i, .float .f64 b, .string t, .slice p n c]] w' (WrA w' B R most xs full)) :
    Calls Try.prog 24 #[.pointer (some ⟨R, 0, none⟩), .agg #[.int .i64 k, .int .i64 i, .float .f64 b, .string t, .slice p n c]] w (WrA w B R most xs full) := by
  obtain ⟨W0, hW0⟩ : ∃ W0, W0 = w.alloc (.cells #[.int .i64 k, .int .i64 i, .float .f64 b, .string t, .slice p n c] 46) := ⟨_, rfl⟩
  have HB0 : Hid (Below w.heap.size w W0) := by rw [hW0]; exact (Below.refl _ _).alloc (Nat.le_refl _) _
  have hR := h.lt
  have d0 : W0.cell? ⟨w.heap.size, 0, none⟩ = some (.int .i64 k) := by rw [hW0]; simp
  have d1 : W0.cell? ⟨w.heap.size, 1, none⟩ = some (.int .i64 i) := by rw [hW0]; simp
  have d2 : W0.cell? ⟨w.heap.size, 2, none⟩ = some (.float .f64 b) := by rw [hW0]; simp
  have d3 : W0.cell? ⟨w.heap.size, 3, none⟩ = some (.string t) := by rw [hW0]; simp
  have d4 : W0.cell? ⟨w.heap.size, 4, none⟩ = some (.slice p n c) := by rw [hW0]; simp
  have HH0 := Lib.hid (h.on HB0.out)
  obtain ⟨T, q, cap, h1, h2, -, -, -⟩ := HH0.out.out
  have c0 : W0.cell? ⟨R, 0, none⟩ = some (.slice (some ⟨T, 0, none⟩) 8 8) := blk_cell h1 0
  have ck : W0.cell? ⟨T, k, none⟩ = some (.func (.func f) #[] #[]) := (blk_cell h2 k).trans hf
  have hki : (k : Int) < 8 := by omega
  have HW0 := Lib.hid hW0
  have HC := Lib.hid hc
  have HE := Lib.hid hE
  clear h hW0 hc hE h1 h2 hf
  go_enter Try.func24, Try.ntmps24
  go_wp2_with fail
  rw [← HW0.out]
  clear HW0
  go_region_law (first
    | (refine step_callv2 (.tmp 11) (.tmp 12) (.tmp 13) 92 46 (by rfl) (by rfl) (by rfl) (by rfl) (by rfl) HE.out (HC.out _ HB0.out.drew HH0.out.drew) ?_
       rintro e w1 ⟨ys, hpv, rfl, hw1, ha1⟩
       refine ⟨_, rfl, ?_⟩
       have HP := Lib.hid hpv
       have HW1 := Lib.hid hw1
       have HA1 := Lib.hid ha1
       clear hpv hw1 ha1)
    | fail)
  all_goals
    go_end0
    exact ⟨ys, HP.out, rfl, HW1.out, (AsW.new hR HB0.out.drew).trans HA1.out⟩

theorem valueW : ∀ (x : V) (d : Nat), chk d x = 0 → x.wf → ValW x := by
  intro x
  refine V.ind (P := fun x => ∀ (d : Nat), chk d x = 0 → x.wf → ValW x) ?_ x
  rintro k i b t items ih d hc hwf w0 w u B R most xs hx hb0 hr0 hW hlen
  obtain ⟨p, c, rfl, hxl, hxc, hxi⟩ := hx.open
  obtain ⟨wk, wi, wb, wt, wx⟩ := V.wf_mk.1 hwf
  obtain ⟨hd4, ho, ht, hn, -, hcx⟩ := Sch.chk_open hc
  obtain ⟨hk, -, -, -, o5, o6, o7⟩ := Sch.own_open ho
  unfold cells5
  have all : ∀ {w : World} {full : List UInt8} {e : Ending} {w' : World}, (e = .returned (.tuple #[]) ∧ Wtr w' B R most (xs ++ full) ∧ AsW R w w') → WrA w B R most xs full e w' := fun h => ⟨_, PutW.all, h.1, h.2.1, h.2.2⟩
  have hcase : k = 1 ∨ k = 2 ∨ k = 3 ∨ k = 4 ∨ k = 5 ∨ k = 6 ∨ k = 7 := by omega
  have h45 : ∀ f : FuncId, f = 50 → k = 4 ∨ k = 5 → ∀ w, Wtr w B R most xs → Calls Try.prog f #[.pointer (some ⟨R, 0, none⟩), .agg #[.int .i64 k, .int .i64 i, .float .f64 b, .string t, .slice p items.length c]] w (WrA w B R most xs (Sch.vB (.mk k i b t items))) := by
    rintro f rfl h w hw
    have e : Sch.vB (.mk k i b t items) = Leb.put t.size ++ t.data.toList := by rw [Sch.vB_mk, Sch.vH, if_neg (by omega), if_neg (by omega), if_neg (by omega), if_pos h, if_pos (by omega), List.append_nil]
    rw [e]
    exact (writeTextK hw (by omega) k i b t ht p items.length c).mono fun _ _ h => all h
  have h67 : ∀ f : FuncId, f = 51 → k = 6 ∨ k = 7 → ∀ w, Below w0.heap.size w0 w → Wtr w B R most xs → Calls Try.prog f #[.pointer (some ⟨R, 0, none⟩), .agg #[.int .i64 k, .int .i64 i, .float .f64 b, .string t, .slice p items.length c]] w (WrA w B R most xs (Sch.vB (.mk k i b t items))) := by
    rintro f rfl h w hb hw
    have e : Sch.vB (.mk k i b t items) = Leb.put items.length ++ (items.map Sch.vB).flatten := by
      rw [Sch.vB_mk, Sch.vH, if_neg (by omega), if_neg (by omega), if_neg (by omega), if_neg (by omega), if_neg (c := k = 1 ∨ k = 2 ∨ k = 3 ∨ k = 4 ∨ k = 5) (by omega)]
      congr 1
      rcases h with h | h
      · rw [if_pos h]
        have h2 := o7 h
        have h3 : items.length = 0 ∨ items.length = 1 := by omega
        rcases h3 with h3 | h3
        · rw [h3, put_0]; rfl
        · rw [h3, put_1]; rfl
      · rw [if_neg (by omega), if_pos h]
    rw [e] at hlen ⊢
    exact writeItemsK hw k i b t items hn (fun y hy => ih y hy (d + 1) (hcx y hy) (wx y hy)) p c w0 hxi hb hr0 hlen
  rcases hcase with h | h | h | h | h | h | h
  · have e : Sch.vB (.mk k i b t items) = [UInt8.ofNat i.toNat] := by rw [Sch.vB_mk, Sch.vH, if_pos h, if_pos (.inl h), List.append_nil]
    rw [e]
    subst h
    exact valueW_at 1 47 (by omega) rfl i b t p items.length c hW (enters Try.func47 (by kernel_rfl) rfl) (fun w' _ hw => (writeBoolK hw (by omega) 1 i (o6 rfl) b t p items.length c).mono fun _ _ h => all h)
  · have e : Sch.vB (.mk k i b t items) = Leb.put (Leb.zig i) := by rw [Sch.vB_mk, Sch.vH, if_neg (by omega), if_pos h, if_pos (.inr (.inl h)), List.append_nil]
    rw [e]
    subst h
    exact valueW_at 2 48 (by omega) rfl i b t p items.length c hW (enters Try.func48 (by kernel_rfl) rfl) (fun w' _ hw => (writeIntK hw (by omega) 2 i wi b t p items.length c).mono fun _ _ h => all h)
  · have e : Sch.vB (.mk k i b t items) = Sch.le 8 (fixB b) := by rw [Sch.vB_mk, Sch.vH, if_neg (by omega), if_neg (by omega), if_pos h, if_pos (.inr (.inr (.inl h))), List.append_nil]
    rw [e]
    subst h
    exact valueW_at 3 49 (by omega) rfl i b t p items.length c hW (enters Try.func49 (by kernel_rfl) rfl) (fun w' _ hw => (writeFloatK hw (by omega) 3 i b wb t p items.length c).mono fun _ _ h => all h)
  · have h' := h45 _ rfl (.inl h)
    subst h
    exact valueW_at 4 50 (by omega) rfl i b t p items.length c hW (enters Try.func50 (by kernel_rfl) rfl) (fun w' _ hw => h' w' hw)
  · have h' := h45 _ rfl (.inr h)
    subst h
    exact valueW_at 5 50 (by omega) rfl i b t p items.length c hW (enters Try.func50 (by kernel_rfl) rfl) (fun w' _ hw => h' w' hw)
  · have h' := h67 _ rfl (.inl h)
    subst h
    exact valueW_at 6 51 (by omega) rfl i b t p items.length c hW (enters Try.func51 (by kernel_rfl) rfl) (fun w' hb hw => h' w' (hb0.trans (hb.mono hb0.size)) hw)
  · have h' := h67 _ rfl (.inr h)
    subst h
    exact valueW_at 7 51 (by omega) rfl i b t p items.length c hW (enters Try.func51 (by kernel_rfl) rfl) (fun w' hb hw => h' w' (hb0.trans (hb.mono hb0.size)) hw)
end Go.Proofs.Ytnlhpndjogjejaa

/- The landed row: checkValue, EncodeValue. -/
namespace Go.Proofs.Ytnlhpndjogjejaa
open Go.RowKit

attribute [local go_sem] run_store_float

set_option maxRecDepth 100000 in
set_option maxHeartbeats 1000000 in
theorem checkValueK (y : Ty) (x : V) (w : World) (u v : Array Value) (hy : TLies w u y) (hx : VLies w v x) : Calls Try.prog 23 #[.agg u, .agg v] w fun e w' => e = .returned (.int .i64 (Rw.vErr y x : Nat)) ∧ Below w.heap.size w w' := by
  obtain ⟨k, i, b, t, xs⟩ := x
  obtain ⟨k', ys⟩ := y
  obtain ⟨p, c, rfl, -⟩ := hx.open
  obtain ⟨q, e, rfl, -⟩ := hy.open
  obtain ⟨W0, hW0⟩ : ∃ W0, W0 = (w.alloc (.cells (cells2 k' q ys.length e) 43)).alloc (.cells (cells5 k i b t p xs.length c) 46) := ⟨_, rfl⟩
  have HB0 : Hid (Below w.heap.size w W0) := by rw [hW0]; exact ((Below.refl _ _).alloc (Nat.le_refl _) _).alloc (by simp) _
  have HX := Lib.hid (hx.on HB0.out)
  have HTy := Lib.hid (hy.on HB0.out)
  have HCv := Lib.hid (checkK _ W0 _ HX.out)
  have HIs := Lib.hid (fun w' (hb : Below W0.heap.size W0 w') => isK _ _ w' _ _ (HX.out.on hb) (HTy.out.on hb))
  have HY : Hid (W0.cell? ⟨w.heap.size + 1, 0, none⟩ = some (.int .i64 k) ∧ W0.cell? ⟨w.heap.size + 1, 1, none⟩ = some (.int .i64 i) ∧ W0.cell? ⟨w.heap.size + 1, 2, none⟩ = some (.float .f64 b) ∧ W0.cell? ⟨w.heap.size + 1, 3, none⟩ = some (.string t) ∧ W0.cell? ⟨w.heap.size + 1, 4, none⟩ = some (.slice p xs.length c) ∧ W0.cell? ⟨w.heap.size, 0, none⟩ = some (.int .i64 k') ∧ W0.cell? ⟨w.heap.size, 1, none⟩ = some (.slice q ys.length e)) := by rw [hW0]; exact ⟨by simp [cells5], by simp [cells5], by simp [cells5], by simp [cells5], by simp [cells5], by simp [cells2], by simp [cells2]⟩
  have HW0 := Lib.hid hW0
  obtain ⟨R, hR⟩ : ∃ R, R = Rw.vErr (.mk k' ys) (.mk k i b t xs) := ⟨_, rfl⟩
  have HI := Lib.hid (hR.trans (by rw [Rw.vErr] : Rw.vErr (.mk k' ys) (.mk k i b t xs) = _))
  rw [← hR]
  obtain ⟨cv, hcv⟩ : ∃ cv, cv = chk 1 (.mk k i b t xs) := ⟨_, rfl⟩
  rw [← hcv] at HCv HI
  obtain ⟨co, hco⟩ : ∃ co, co = Sch.is (.mk k i b t xs) (.mk k' ys) := ⟨_, rfl⟩
  rw [← hco] at HI HIs
  clear hW0 hx hy hR hcv hco HX HTy
  unfold cells5 cells2 at *
  go_enter Try.func23, Try.ntmps23
  go_wp2_with fail
  rw [← HW0.out]
  clear HW0
  refine HCv.out.mono ?_
  rintro e w1 ⟨rfl, hb1⟩
  have HB1 := Lib.hid hb1
  clear hb1
  by_cases h1 : cv = 0
  · have g1 : ((cv : Int) != 0) = false := bne_f (by omega)
    obtain ⟨y0, y1, y2, y3, y4, y5, y6⟩ := HY.out
    have c0 := cell_on HB1.out y0
    have c1 := cell_on HB1.out y1
    have c2 := cell_on HB1.out y2
    have c3 := cell_on HB1.out y3
    have c4 := cell_on HB1.out y4
    have c5 := cell_on HB1.out y5
    have c6 := cell_on HB1.out y6
    have HI1 : Hid (R = if co then 0 else 80) := by show _ = _; rw [HI.out, if_neg (by omega)]
    have HCi := Lib.hid (HIs.out w1 HB1.out)
    clear y0 y1 y2 y3 y4 y5 y6 h1 HI HIs HY HCv
    go_wp2_with fail
    refine HCi.out.mono ?_
    rintro e w2 ⟨rfl, hb2⟩
    have HB2 := Lib.hid ((HB0.out.trans (HB1.out.mono HB0.out.size)).trans (hb2.mono (HB0.out.trans (HB1.out.mono HB0.out.size)).size))
    clear hb2 c0 c1 c2 c3 c4 c5 c6 HB1 HCi
    cases co with
    | true =>
      have HE : Hid (R = 0) := by show _ = _; rw [HI1.out]; rfl
      clear HI1
      go_wp2
      go_ret
      exact ⟨by rw [HE.out]; rfl, HB2.out⟩
    | false =>
      have HE : Hid (R = 80) := by show _ = _; rw [HI1.out]; rfl
      clear HI1
      go_wp2
      go_ret
      exact ⟨by rw [HE.out]; rfl, HB2.out⟩
  · have g1 : ((cv : Int) != 0) = true := bne_t (by omega)
    have HE : Hid (R = cv) := by show _ = _; rw [HI.out, if_pos h1]
    have HB2 := Lib.hid (HB0.out.trans (HB1.out.mono HB0.out.size))
    clear h1 HI HIs HY HCv HB1
    go_wp2
    go_ret
    exact ⟨by rw [HE.out]; rfl, HB2.out⟩

set_option maxRecDepth 100000 in
set_option maxHeartbeats 1000000 in
theorem encodeValueK (y : Ty) (x : V) (w : World) (u v : Array Value) (hy : TLies w u y) (hx : VLies w v x) (hw : x.wf) : Calls Try.prog 31 #[.agg u, .agg v] w (EncR w (Rw.encErr y x) (Sch.vB x)) := by
  obtain ⟨k, i, b, t, xs⟩ := x
  obtain ⟨k', ys⟩ := y
  obtain ⟨p, c, rfl, -⟩ := hx.open
  obtain ⟨q, e, rfl, -⟩ := hy.open
  obtain ⟨W0, hW0⟩ : ∃ W0, W0 = (w.alloc (.cells (cells2 k' q ys.length e) 43)).alloc (.cells (cells5 k i b t p xs.length c) 46) := ⟨_, rfl⟩
  have HB0 : Hid (Below w.heap.size w W0) := by rw [hW0]; exact ((Below.refl _ _).alloc (Nat.le_refl _) _).alloc (by simp) _
  have HX := Lib.hid (hx.on HB0.out)
  have HTy := Lib.hid (hy.on HB0.out)
  have HCt := Lib.hid (checkTypeK _ W0 _ HTy.out)
  have HVa := Lib.hid (fun w' (hb : Below W0.heap.size W0 w') => checkValueK _ _ w' _ _ (HTy.out.on hb) (HX.out.on hb))
  have HVb := Lib.hid (fun w' (hb : Below W0.heap.size W0 w') h1 B R (hR : W0.heap.size ≤ R) (hW : Wtr w' B R 9223372036854775807 []) => valueW _ 1 h1 hw W0 w' _ B R _ [] HX.out hb hR hW (by have := Sch.vB_small h1 (by omega); simp only [List.length_nil]; omega))
  have HVl := Lib.hid (fun h1 => Sch.vB_small (v := .mk k i b t xs) (d := 1) h1 (by omega))
  have HY : Hid (W0.cell? ⟨w.heap.size + 1, 0, none⟩ = some (.int .i64 k) ∧ W0.cell? ⟨w.heap.size + 1, 1, none⟩ = some (.int .i64 i) ∧ W0.cell? ⟨w.heap.size + 1, 2, none⟩ = some (.float .f64 b) ∧ W0.cell? ⟨w.heap.size + 1, 3, none⟩ = some (.string t) ∧ W0.cell? ⟨w.heap.size + 1, 4, none⟩ = some (.slice p xs.length c) ∧ W0.cell? ⟨w.heap.size, 0, none⟩ = some (.int .i64 k') ∧ W0.cell? ⟨w.heap.size, 1, none⟩ = some (.slice q ys.length e)) := by rw [hW0]; exact ⟨by simp [cells5], by simp [cells5], by simp [cells5], by simp [cells5], by simp [cells5], by simp [cells2], by simp [cells2]⟩
  have HW0 := Lib.hid hW0
  have HV0 : Hid (Rw.vErr (.mk k' ys) (.mk k i b t xs) = 0 → chk 1 (.mk k i b t xs) = 0) := fun h => (Rw.vErr_zero h).2.1
  obtain ⟨L, hL⟩ : ∃ L, L = Sch.vB (.mk k i b t xs) := ⟨_, rfl⟩
  rw [← hL] at HVb HVl ⊢
  obtain ⟨R, hR⟩ : ∃ R, R = Rw.encErr (.mk k' ys) (.mk k i b t xs) := ⟨_, rfl⟩
  have HI := Lib.hid (hR.trans (by rw [Rw.encErr] : Rw.encErr (.mk k' ys) (.mk k i b t xs) = _))
  rw [← hR]
  obtain ⟨ct, hct⟩ : ∃ ct, ct = Ty.check 1 (.mk k' ys) := ⟨_, rfl⟩
  rw [← hct] at HCt HI
  obtain ⟨cv, hcv⟩ : ∃ cv, cv = Rw.vErr (.mk k' ys) (.mk k i b t xs) := ⟨_, rfl⟩
  rw [← hcv] at HVa HI HV0
  replace HVb : Hid (cv = 0 → L.length ≤ 20000000000 ∧ ∀ w' B R, Below W0.heap.size W0 w' → W0.heap.size ≤ R → Wtr w' B R 9223372036854775807 [] → Calls Try.prog 24 #[.pointer (some ⟨R, 0, none⟩), .agg (cells5 k i b t p xs.length c)] w' (WrA w' B R 9223372036854775807 [] L)) := fun h => ⟨HVl.out (HV0.out h), fun w' B R hb hR hW => HVb.out w' hb (HV0.out h) B R hR hW⟩
  clear hW0 hx hy hR hct hcv hL hw HX HTy HV0 HVl
  unfold cells5 cells2 at *
  unfold EncR
  go_enter Try.func31, Try.ntmps31
  go_wp2_with fail
  rw [← HW0.out]
  clear HW0
  refine HCt.out.mono ?_
  rintro e w1 ⟨rfl, hb1⟩
  have HB1 := Lib.hid hb1
  clear hb1
  by_cases h1 : ct = 0
  · have g1 : ((ct : Int) != 0) = false := bne_f (by omega)
    obtain ⟨y0, y1, y2, y3, y4, y5, y6⟩ := HY.out
    have c0 := cell_on HB1.out y0
    have c1 := cell_on HB1.out y1
    have c2 := cell_on HB1.out y2
    have c3 := cell_on HB1.out y3
    have c4 := cell_on HB1.out y4
    have c5 := cell_on HB1.out y5
    have c6 := cell_on HB1.out y6
    have HI1 : Hid (R = cv) := by show _ = _; rw [HI.out, if_neg (by omega)]
    have HCi := Lib.hid (HVa.out w1 HB1.out)
    clear y0 y1 y2 y3 y4 y5 y6 h1 HI HVa HCt
    go_wp2_with fail
    refine HCi.out.mono ?_
    rintro e w2 ⟨rfl, hb2⟩
    have HB2 := Lib.hid (HB1.out.trans (hb2.mono HB1.out.size))
    have HBw := Lib.hid (HB0.out.trans (HB2.out.mono HB0.out.size))
    clear hb2 c0 c1 c2 c3 c4 c5 c6 HB1 HCi
    by_cases h2 : cv = 0
    · have g2 : ((cv : Int) != 0) = false := bne_f (by omega)
      obtain ⟨y0, y1, y2, y3, y4, y5, y6⟩ := HY.out
      have c0 := cell_on HB2.out y0
      have c1 := cell_on HB2.out y1
      have c2 := cell_on HB2.out y2
      have c3 := cell_on HB2.out y3
      have c4 := cell_on HB2.out y4
      have HE : Hid (R = 0) := by show _ = _; rw [HI1.out, h2]
      have HCb := Lib.hid (HVb.out h2).2
      have hLl := (HVb.out h2).1
      clear y0 y1 y2 y3 y4 y5 y6 h2 HI1 HVb HY
      obtain ⟨W3, hW3⟩ : ∃ W3, W3 = (w2.alloc (.cells waysW 91)).alloc (.cells #[.slice (some ⟨w2.heap.size, 0, none⟩) 8 8, .slice none 0 0, .int .i64 9223372036854775807] 68) := ⟨_, rfl⟩
      have HB3 : Hid (Below w2.heap.size w2 W3) := by rw [hW3]; exact ((Below.refl _ _).alloc (Nat.le_refl _) _).alloc (by simp) _
      have HWt : Hid (Wtr W3 (w2.heap.size + 2) (w2.heap.size + 1) 9223372036854775807 []) := by rw [hW3]; exact wtr_start _ _
      have hB3 : ∀ o o', Below w2.heap.size w2 ((w2.alloc o).alloc o') := fun o o' => ((Below.refl _ _).alloc (Nat.le_refl _) _).alloc (by simp) _
      have z0 := fun o o' => cell_on (hB3 o o') c0
      have z1 := fun o o' => cell_on (hB3 o o') c1
      have z2 := fun o o' => cell_on (hB3 o o') c2
      have z3 := fun o o' => cell_on (hB3 o o') c3
      have z4 := fun o o' => cell_on (hB3 o o') c4
      have hs0 := HB2.out.size
      have HC3 := Lib.hid (HCb.out W3 (w2.heap.size + 2) (w2.heap.size + 1) (HB2.out.trans (HB3.out.mono hs0)) (by omega) HWt.out)
      have HW3 := Lib.hid hW3
      clear hB3 hW3 HCb
      go_wp2_with fail
      refine (waysToWriteK _).mono ?_
      rintro e w3 ⟨rfl, hw3⟩
      rw [hw3]
      clear hw3 w3
      go_wp2_with fail
      rw [← HW3.out]
      clear HW3 z0 z1 z2 z3 z4 c0 c1 c2 c3 c4
      refine HC3.out.mono ?_
      rintro e w4 ⟨ys4, hpv, rfl, hw4, ha4⟩
      have hys : ys4 = L := by
        rcases hpv.eq with h | h
        · rw [h]; rfl
        · exact absurd h.1 (by have := hpv.len; simp only [List.length_nil] at this; omega)
      subst hys
      obtain ⟨T, q4, cap4, h1, -, h3, -, -⟩ := hw4.out
      have r1 : w4.cell? ⟨w2.heap.size + 1, 1, none⟩ = some (.slice q4 ys4.length cap4) := blk_cell h1 1
      have HQ : Hid (Has w4 w.heap.size (.slice q4 ys4.length cap4) ys4) := h3.lower (by have := HBw.out.size; omega)
      have HB4 : Hid (Below w.heap.size w w4) := HBw.out.trans ((HB3.out.trans (ha4.below HWt.out (by omega))).mono HBw.out.size)
      clear h1 h3 hw4 ha4 hpv HC3 HWt
      go_wp2
      go_ret2
      exact .inl ⟨HE.out, q4, cap4, rfl, HQ.out, HB4.out⟩
    · have g2 : ((cv : Int) != 0) = true := bne_t (by omega)
      have HE : Hid (R = cv ∧ R ≠ 0) := ⟨HI1.out, by rw [HI1.out]; exact h2⟩
      clear h2 HI1 HVb HY
      go_wp2
      go_ret2
      exact .inr ⟨HE.out.2, by rw [HE.out.1]; rfl, HBw.out⟩
  · have g1 : ((ct : Int) != 0) = true := bne_t (by omega)
    have HE : Hid (R = ct ∧ R ≠ 0) := by
      have e : R = ct := by rw [HI.out, if_pos h1]
      exact ⟨e, by rw [e]; exact h1⟩
    have HB2 := Lib.hid (HB0.out.trans (HB1.out.mono HB0.out.size))
    clear h1 HI HVa HVb HY HCt HB1
    go_wp2
    go_ret2
    exact .inr ⟨HE.out.2, by rw [HE.out.1]; rfl, HB2.out⟩
end Go.Proofs.Ytnlhpndjogjejaa

/- The landed row: Encode, Check. -/
namespace Go.Proofs.Ytnlhpndjogjejaa
open Go.RowKit

attribute [local go_sem] run_store_float

set_option maxRecDepth 100000 in
set_option maxHeartbeats 1000000 in
theorem encodeRK (s : List Col) (p : Option Addr) (cp : Nat) (vs : List V) (q : Option Addr) (cq : Nat) (w : World) (hS : SchL w p cp s) (hRl : RLies w q cq vs) :
    Calls Try.prog 6 #[.agg #[.slice p s.length cp], .agg #[.slice q vs.length cq]] w (Told w (Rw.err s vs) (Rw.out s vs)) := by
  obtain ⟨hl, hcp, hx, hw⟩ := hS
  obtain ⟨hvl, -, hv⟩ := hRl.items
  have hvw := hRl.2
  obtain ⟨W0, hW0⟩ : ∃ W0, W0 = (w.alloc (.cells #[.slice p s.length cp] 24)).alloc (.cells #[.slice q vs.length cq] 27) := ⟨_, rfl⟩
  have HB0 : Hid (Below w.heap.size w W0) := by rw [hW0]; exact ((Below.refl _ _).alloc (Nat.le_refl _) _).alloc (by simp) _
  have HY : Hid (W0.cell? ⟨w.heap.size, 0, none⟩ = some (.slice p s.length cp) ∧ W0.cell? ⟨w.heap.size + 1, 0, none⟩ = some (.slice q vs.length cq)) := by rw [hW0]; exact ⟨by simp, by simp⟩
  have hs0 : w.heap.size + 2 ≤ W0.heap.size := by rw [hW0]; simp
  have HW0 := Lib.hid hW0
  have HC := Lib.hid (checkSK s p cp W0 hl (hx.on HB0.out) hw)
  have HOp := Lib.hid (fun h => Sch.err_open (s := s) h)
  obtain ⟨R, hR⟩ : ∃ R, R = Rw.err s vs := ⟨_, rfl⟩
  have HR := Lib.hid (hR.trans (by rw [Rw.err] : Rw.err s vs = _))
  obtain ⟨O, hO⟩ : ∃ O, O = Rw.out s vs := ⟨_, rfl⟩
  have HO := Lib.hid (hO.trans (by rw [Rw.out] : Rw.out s vs = _))
  rw [← hR] at HO
  rw [← hR, ← hO]
  obtain ⟨er, her⟩ : ∃ er, er = Sch.err s := ⟨_, rfl⟩
  rw [← her] at HC HR HOp
  have HX := Lib.hid hx
  have HV := Lib.hid hv
  have HVW := Lib.hid hvw
  clear hW0 hR hO hx hw her hv hvw hRl
  go_enter Try.func6, Try.ntmps6
  go_wp2_with fail
  rw [← HW0.out]
  clear HW0
  refine HC.out.mono ?_
  rintro e w1 ⟨rfl, hb1⟩
  have HB1 := Lib.hid hb1
  have HBw1 := Lib.hid (HB0.out.trans (hb1.mono HB0.out.size))
  clear hb1 HC
  by_cases h0 : ¬ er = 0
  · have g0 : ((er : Int) != 0) = true := bne_t (by omega)
    have HE : Hid (R = er) := by show _ = _; rw [HR.out, if_pos h0]
    have HOn : Hid (O = []) := by show _ = _; rw [HO.out, HE.out, if_neg h0]
    clear HR h0 HOp HO
    go_wp2
    go_ret2
    exact ⟨none, 0, by rw [HOn.out, HE.out]; rfl, by rw [HOn.out]; exact .inl rfl, by rw [HOn.out]; exact Nat.le_refl _, HBw1.out⟩
  have g0 : ((er : Int) != 0) = false := bne_f (by omega)
  have HR1 := Lib.hid (HR.out.trans (if_neg h0))
  have hn16 : s.length ≤ 16 := (HOp.out (by omega)).2.1
  clear HR HOp h0
  have n0 := cell_on HB1.out HY.out.1
  have n1 := cell_on HB1.out HY.out.2
  by_cases h1 : ¬ vs.length = s.length
  · have g1 : ((vs.length : Int) != (s.length : Int)) = true := bne_t (by omega)
    have HE : Hid (R = 80) := by show _ = _; rw [HR1.out, if_pos h1]
    have HOn : Hid (O = []) := by show _ = _; rw [HO.out, HE.out, if_neg (by decide)]
    clear HR1 h1 HO
    go_wp2
    go_ret2
    exact ⟨none, 0, by rw [HOn.out, HE.out]; rfl, by rw [HOn.out]; exact .inl rfl, by rw [HOn.out]; exact Nat.le_refl _, HBw1.out⟩
  have g1 : ((vs.length : Int) != (s.length : Int)) = false := bne_f (by omega)
  have HR2 := Lib.hid (HR1.out.trans (if_neg h1))
  have HVS : Hid (vs.length = s.length) := by show _ = _; omega
  have hn16v : vs.length ≤ 16 := by have := HVS.out; omega
  clear HR1 h1
  obtain ⟨W3, hW3⟩ : ∃ W3, W3 = (w1.alloc (.cells waysW 91)).alloc (.cells #[.slice (some ⟨w1.heap.size, 0, none⟩) 8 8, .slice none 0 0, .int .i64 1024] 68) := ⟨_, rfl⟩
  have HB3 : Hid (Below w1.heap.size w1 W3) := by rw [hW3]; exact ((Below.refl _ _).alloc (Nat.le_refl _) _).alloc (by simp) _
  have HWt : Hid (Wtr W3 (w1.heap.size + 2) (w1.heap.size + 1) 1024 []) := by rw [hW3]; exact wtr_start _ _
  have hB3 : ∀ o o', Below w1.heap.size w1 ((w1.alloc o).alloc o') := fun o o' => ((Below.refl _ _).alloc (Nat.le_refl _) _).alloc (by simp) _
  have z0 := fun o o' => cell_on (hB3 o o') n0
  have z1 := fun o o' => cell_on (hB3 o o') n1
  have HW3 := Lib.hid hW3
  clear hB3 hW3
  go_wp2_with fail
  refine (waysToWriteK _).mono ?_
  rintro e w3 ⟨rfl, hw3⟩
  rw [hw3]
  clear hw3 w3
  go_wp2_with fail
  rw [← HW3.out]
  clear HW3 z0 z1
  have HS1 : Hid (Below w1.heap.size w1 W3 ∧ w.heap.size + 2 ≤ w1.heap.size) := ⟨HB3.out, Nat.le_trans hs0 HB1.out.size⟩
  go_loopw [28] (fun v28 wr => ∃ (j : Nat) (zs : List UInt8), j ≤ s.length ∧ v28 = .int .i64 j ∧ zs.length ≤ j * 20000000000 ∧ Hid (PutW 1024 [] (Rw.bytes (vs.take j)) zs ∧ Wtr wr (w1.heap.size + 2) (w1.heap.size + 1) 1024 zs ∧ AsW (w1.heap.size + 1) W3 wr ∧ Rw.colsErr s vs = Rw.colsErr (s.drop j) (vs.drop j))) (fun v28 _ => s.length - (intOf v28).toNat)
  case atStart => exact ⟨0, [], by omega, rfl, by simp, ⟨.inl rfl, by simp⟩, HWt.out, AsW.new HWt.out.lt (Below.refl _ _), rfl⟩
  case round =>
    clear n0 n1
    obtain ⟨j, zs, hj, rfl, hzl, HL⟩ := hrel
    have hb13 : Below w1.heap.size w1 wr := HS1.out.1.trans (HL.out.2.2.1.below HWt.out (by omega))
    have hbW : Below W0.heap.size W0 wr := HB1.out.trans (hb13.mono HB1.out.size)
    have hbw : Below w.heap.size w wr := HB0.out.trans (hbW.mono HB0.out.size)
    have n1 : wr.cell? ⟨w.heap.size + 1, 0, none⟩ = some (.slice q vs.length cq) := cell_on hbW HY.out.2
    by_cases hls : j < s.length
    · have hlt : j < vs.length := by have := HVS.out; omega
      have hj1 : (j : Int) < (vs.length : Int) := by omega
      have hj2 : (j : Int) < (s.length : Int) := by omega
      obtain ⟨bx, ox, k, tp, tn, tc, vk, vi, vb, vt, vp, vn, vc, rfl, hbx, h9, hty, -⟩ := HX.out.at j hls
      obtain ⟨a0, a1, a2, a3, a4, a5, a6, a7, a8⟩ := h9.on hbw
      obtain ⟨ux, hvx, hix⟩ := HV.out j hlt
      obtain ⟨by', oy, ky, iy, fy, ty, qy, ny, cy, rfl, _, rfl, c0, c1, c2, c3, c4⟩ := (hix.on hbw).lies
      obtain ⟨wa, hwa⟩ : ∃ wa, wa = wr.alloc (.cells #[.string s[j].name, .int .i64 k, .slice tp tn tc, .bool s[j].has, .int .i64 vk, .int .i64 vi, .float .f64 vb, .string vt, .slice vp vn vc] 61) := ⟨_, rfl⟩
      have hba : Below wr.heap.size wr wa := by rw [hwa]; exact (Below.refl _ _).alloc (Nat.le_refl _) _
      have t1 : wa.cell? ⟨wr.heap.size, 1, none⟩ = some (.int .i64 k) := by rw [hwa]; simp
      have t2 : wa.cell? ⟨wr.heap.size, 2, none⟩ = some (.slice tp tn tc) := by rw [hwa]; simp
      have d0 := cell_on hba c0
      have d1 := cell_on hba c1
      have d2 := cell_on hba c2
      have d3 := cell_on hba c3
      have d4 := cell_on hba c4
      have m1 := cell_on hba n1
      have HBa := Lib.hid hba
      have HBwa := Lib.hid (hbw.trans (hba.mono hbw.size))
      have HC : Hid (∀ w', Below w.heap.size w w' → Calls Try.prog 23 #[.agg #[.int .i64 k, .slice tp tn tc], .agg #[.int .i64 ky, .int .i64 iy, .float .f64 fy, .string ty, .slice qy ny cy]] w' fun e w'' => e = .returned (.int .i64 (Rw.vErr s[j].ty vs[j] : Nat)) ∧ Below w'.heap.size w' w'') := fun w' hb => checkValueK _ _ w' _ _ (hty.on hb) (hvx.on hb)
      have HV2 : Hid (Rw.vErr s[j].ty vs[j] = 0 → (Sch.vB vs[j]).length ≤ 20000000000 ∧ ∀ w', Below w.heap.size w w' → Wtr w' (w1.heap.size + 2) (w1.heap.size + 1) 1024 zs → Calls Try.prog 24 #[.pointer (some ⟨w1.heap.size + 1, 0, none⟩), .agg #[.int .i64 ky, .int .i64 iy, .float .f64 fy, .string ty, .slice qy ny cy]] w' (WrA w' (w1.heap.size + 2) (w1.heap.size + 1) 1024 zs (Sch.vB vs[j]))) := fun h => by
        have hck := (Rw.vErr_zero h).2.1
        have hsm := Sch.vB_small hck (by omega)
        exact ⟨hsm, fun w' hb hW => valueW _ 1 hck (HVW.out _ (List.getElem_mem hlt)) w w' _ _ _ _ zs hvx hb (by have := HS1.out.2; omega) hW (by omega)⟩
      have HAt2 := Lib.hid (HL.out.2.2.2.trans (colsErr_drop s vs j hls hlt))
      have HZp := Lib.hid HL.out.1
      have HWa := Lib.hid (HL.out.2.1.on hba)
      have HAa : Hid (AsW (w1.heap.size + 1) W3 wa) := HL.out.2.2.1.trans (AsW.new HL.out.2.1.lt hba)
      have HTk : Hid (Rw.bytes (vs.take (j + 1)) = Rw.bytes (vs.take j) ++ Sch.vB vs[j]) := by
        show _ = _
        unfold Rw.bytes
        rw [Sch.flatten_take Sch.vB vs j hlt]
      obtain ⟨z, hz⟩ : ∃ z, z = Rw.vErr s[j].ty vs[j] := ⟨_, rfl⟩
      rw [← hz] at HC HAt2 HV2
      obtain ⟨full, hfull⟩ : ∃ l, l = Sch.vB vs[j] := ⟨_, rfl⟩
      rw [← hfull] at HV2 HTk
      generalize s[j].name = nm at *
      generalize s[j].has = hs9 at *
      have HEa := Lib.hid hwa
      clear h9 hty hbw HL hz hvx hix hwa hba hfull hb13 hbW
      go_wp2_with fail
      rw [← HEa.out]
      clear HEa a0 a1 a2 a3 a4 a5 a6 a7 a8 c0 c1 c2 c3 c4 n1
      go_region_held3 (fun w' => w'.cell? ⟨wr.heap.size, 1, none⟩ = some (.int .i64 k) ∧ w'.cell? ⟨wr.heap.size, 2, none⟩ = some (.slice tp tn tc) ∧ w'.cell? ⟨by', oy + j * 5, none⟩ = some (.int .i64 ky) ∧ w'.cell? ⟨by', oy + j * 5 + 1, none⟩ = some (.int .i64 iy) ∧ w'.cell? ⟨by', oy + j * 5 + 2, none⟩ = some (.float .f64 fy) ∧ w'.cell? ⟨by', oy + j * 5 + 3, none⟩ = some (.string ty) ∧ w'.cell? ⟨by', oy + j * 5 + 4, none⟩ = some (.slice qy ny cy) ∧ w'.cell? ⟨w.heap.size + 1, 0, none⟩ = some (.slice (some ⟨by', oy, none⟩) vs.length cq)) (go_keep) (first
        | (go_at_call 23; refine (HC.out _ (below_drewN HBwa.out _)).mono ?_; rintro e w4 ⟨rfl, hb4⟩; have hb5 := below_via (w := wa) hb4 (by rfl) (by rfl) (by rfl) (by rfl); have z1 := cell_on hb5 t1; have z2 := cell_on hb5 t2; have y0 := cell_on hb5 d0; have y1 := cell_on hb5 d1; have y2 := cell_on hb5 d2; have y3 := cell_on hb5 d3; have y4 := cell_on hb5 d4; have z10 := cell_on hb5 m1; have HB4 := Lib.hid hb5; clear hb4 hb5))
      clear z1 z2 t1 t2 d0 d1 d2 d3 d4 m1
      have HW4 := Lib.hid (HWa.out.on HB4.out)
      have HA4 : Hid (AsW (w1.heap.size + 1) W3 w4) := HAa.out.trans (AsW.new HWa.out.lt HB4.out)
      have HBw4 := Lib.hid (HBwa.out.trans (HB4.out.mono HBwa.out.size))
      by_cases hz0 : z = 0
      · have hzb : ((z : Int) != 0) = false := by rw [hz0]; rfl
        have hfl := (HV2.out hz0).1
        have HC2 := Lib.hid ((HV2.out hz0).2 w4 HBw4.out HW4.out)
        have HN : Hid (Rw.colsErr s vs = Rw.colsErr (s.drop (j + 1)) (vs.drop (j + 1))) := by show _ = _; rw [HAt2.out, if_pos hz0]
        clear HB4 HC hz0 HAt2 HV2
        go_wp2_with fail
        refine HC2.out.mono ?_
        rintro e w5 ⟨ys2, hpv, rfl, hw5, ha5⟩
        have HN2 : Hid (PutW 1024 [] (Rw.bytes (vs.take (j + 1))) ys2 ∧ Wtr w5 (w1.heap.size + 2) (w1.heap.size + 1) 1024 ys2 ∧ AsW (w1.heap.size + 1) W3 w5 ∧ Rw.colsErr s vs = Rw.colsErr (s.drop (j + 1)) (vs.drop (j + 1))) := by
          refine ⟨?_, hw5, HA4.out.trans ha5, HN.out⟩
          rw [HTk.out]
          have h7 := HZp.out.len
          have h8 := hpv.len
          have h9 : (Rw.bytes (vs.take j) ++ full).length = (Rw.bytes (vs.take j)).length + full.length := List.length_append
          have h10 : (zs ++ full).length = zs.length + full.length := List.length_append
          simp only [List.length_nil, Nat.zero_add] at h7
          refine ⟨?_, by simp only [List.length_nil, Nat.zero_add]; omega⟩
          rw [List.nil_append]
          rcases HZp.out.eq with h11 | h11
          · rw [List.nil_append] at h11
            rw [← h11]
            exact hpv.eq
          · refine .inr ⟨?_, ?_⟩
            · rcases hpv.eq with h12 | h12
              · rw [h12]; omega
              · exact h12.1
            · omega
        have hys : ys2.length ≤ (j + 1) * 20000000000 := by have := hpv.len; omega
        clear hpv hw5 ha5 HC2 y0 y1 y2 y3 y4 z10
        go_wp2
        go_roundw
        case rel => exact ⟨j + 1, ys2, by omega, by go_num, hys, HN2.out⟩
        case measure => simp [intOf]; omega
      · have hzb : ((z : Int) != 0) = true := by rw [bne_iff_ne]; omega
        have HE : Hid (R = z) := by
          show _ = _
          have e : Rw.colsErr s vs = z := by rw [HAt2.out, if_neg hz0]
          rw [HR2.out, if_pos (by rw [e]; exact hz0), e]
        have HOn : Hid (O = []) := by show _ = _; rw [HO.out, HE.out, if_neg hz0]
        clear HB4 HC hz0 HAt2 HR2 HO y0 y1 y2 y3 y4 z10 HV2
        go_wp2
        go_ret2
        exact ⟨none, 0, by rw [HOn.out, HE.out]; rfl, by rw [HOn.out]; exact .inl rfl, by rw [HOn.out]; exact Nat.le_refl _, HBw4.out⟩
    · have hjn : ¬ (j : Int) < (s.length : Int) := by omega
      have hc0 : Rw.colsErr s vs = 0 := by rw [HL.out.2.2.2, List.drop_eq_nil_of_le (by omega), List.drop_eq_nil_of_le (by have := HVS.out; omega)]; rfl
      have HR3 := Lib.hid (HR2.out.trans (if_neg (by rw [hc0]; simp)))
      have hzp := HL.out.1
      rw [List.take_of_length_le (by have := HVS.out; omega)] at hzp
      have hzl2 : zs.length ≤ 320000000000 := by omega
      obtain ⟨T, q4, cap4, h1, -, h3, -, -⟩ := HL.out.2.1.out
      have r1 : wr.cell? ⟨w1.heap.size + 1, 1, none⟩ = some (.slice q4 zs.length cap4) := blk_cell h1 1
      have HH := Lib.hid h3
      have HBw := Lib.hid hbw
      obtain ⟨L, hL⟩ : ∃ L, L = Rw.bytes vs := ⟨_, rfl⟩
      rw [← hL] at HR3 hzp HO
      have HZp := Lib.hid hzp
      clear HL hbw hL hc0 HR2 h1 h3 hb13 hbW n1 hzp
      by_cases hbig : 1024 < zs.length
      · have gb : (1024 : Int) < (zs.length : Int) := by omega
        have hL1 : 1024 < L.length := by
          rcases HZp.out.eq with h1 | h1
          · rw [List.nil_append] at h1; rw [← h1]; exact hbig
          · have := h1.2; rw [List.nil_append] at this; omega
        have HE : Hid (R = 2) := by show _ = _; rw [HR3.out, if_pos hL1]
        have HOn : Hid (O = []) := by show _ = _; rw [HO.out, HE.out, if_neg (by decide)]
        clear HR3 hbig hL1 HO
        go_wp2
        go_ret2
        exact ⟨none, 0, by rw [HOn.out, HE.out]; rfl, by rw [HOn.out]; exact .inl rfl, by rw [HOn.out]; exact Nat.le_refl _, HBw.out⟩
      · have gb : ¬ (1024 : Int) < (zs.length : Int) := by omega
        have hzb : zs = L := by
          rcases HZp.out.eq with h1 | h1
          · rw [List.nil_append] at h1; exact h1
          · exact absurd h1.1 (by omega)
        have HE : Hid (R = 0) := by show _ = _; rw [HR3.out, if_neg (by rw [← hzb]; exact hbig)]
        have HOn : Hid (O = zs) := by show _ = _; rw [HO.out, HE.out, if_pos rfl, hzb]
        obtain ⟨q', cap', he, hat, hcap⟩ := HH.out.at
        injection he with e1 _ e2
        subst e1 e2
        have HAt := Lib.hid hat
        clear HR3 hbig hzb HO hat HZp
        go_wp2
        go_ret2
        rw [HOn.out, HE.out]
        exact ⟨_, _, rfl, HAt.out, hcap, HBw.out⟩
end Go.Proofs.Ytnlhpndjogjejaa

/- The landed row's reader: what is left to read, and its small calls. -/
namespace Go.Proofs.Ytnlhpndjogjejaa
open Go.RowKit

/-- a panic with an error -/
def errV (k : Nat) : List PanicEntry := [{ v := .iface 31 (.int .i64 k), recovered := false }]

/-- p[n:] -/
def cutP (p : Option Addr) (n c : Nat) : Option Addr := if c = n then p else p.map (·.add n)
theorem run_cut_lh (p : Option Addr) (len c m n : Nat) (h0 : m ≤ n) (h : n ≤ c) (w : World) : (Instr.slice 28 (.slice p len c) (some (.int .i64 m)) (some (.int .i64 n)) none).run Try.prog w = .ok (.slice (cutP p m c) (n - m) (c - m)) w := by
  have hs : (sizeOf (Try.prog.elem 28)).run Try.prog w = .ok 1 w := by kernel_rfl
  rw [run_slice_lh w 28 p len c (by kernel_rfl) .i64 .i64 (m : Int) (n : Int) (by omega) (by omega) (by omega), hs]
  simp [sliced, cutP, Result.andThen]
theorem add_block (a : Addr) (n : Nat) : (a.add n).block = a.block := by
  unfold Addr.add
  split <;> rfl
theorem cutP_block {p : Option Addr} {n c A : Nat} (h : ∀ a, p = some a → a.block < A) : ∀ a, cutP p n c = some a → a.block < A := by
  intro a ha
  unfold cutP at ha
  split at ha
  · exact h a ha
  · cases p with
    | none => cases ha
    | some b =>
      simp only [Option.map_some, Option.some.injEq] at ha
      subst ha
      rw [add_block]
      exact h b rfl
theorem At.cut {w : World} {p : Option Addr} {l : List UInt8} (h : At w p l) (n c : Nat) (hc : l.length ≤ c) : At w (cutP p n c) (l.drop n) := by
  by_cases h0 : l.length ≤ n
  · exact .inl (List.drop_eq_nil_of_le h0)
  · obtain ⟨b, o, rfl, hb, hcs⟩ := at_some h (by omega)
    refine .inr ⟨b, o + n, ?_, hb, cells_drop hcs n⟩
    unfold cutP
    rw [if_neg (by omega), Option.map_some, Lib.add_plain]
/-- the table of the reader's ways -/
def waysR : Array Value := #[.nilFunc, .func (.func 78) #[] #[], .func (.func 79) #[] #[], .func (.func 80) #[] #[], .func (.func 81) #[] #[], .func (.func 82) #[] #[], .func (.func 83) #[] #[], .func (.func 84) #[] #[]]

section
variable {L : List UInt8}
/-- how the reader in block R lies: its bytes are L, it stands at a -/
structure RdrAt (L : List UInt8) (w : World) (A R T : Nat) (p : Option Addr) (c a : Nat) : Prop where
  b0 : w.heap[R]? = some (.cells #[.slice (some ⟨T, 0, none⟩) 8 8, .slice p L.length c, .int .i64 ((a : Nat) : Int)] 77 (0, 0))
  b1 : w.heap[T]? = some (.cells waysR 94 (0, 0))
  lies : At w p L
  cap : L.length ≤ c
  far : L ≠ [] → ∀ d, p = some d → d.block < A
  tab : T < R
  pos : a ≤ L.length
/-- the reader in block R has l left, of L; its bytes lie below A -/
structure Rdr (L : List UInt8) (w : World) (A R : Nat) (l : List UInt8) : Prop where
  out : ∃ T p c a, RdrAt L w A R T p c a ∧ l = L.drop a
  small : L.length ≤ 140737488351232
  low : A ≤ R
theorem Rdr.lt {w : World} {A R : Nat} {l : List UInt8} (h : Rdr L w A R l) : R < w.heap.size := by
  obtain ⟨T, p, c, a, h1, _⟩ := h.out
  exact blk_lt h1.b0
theorem At.keep {w w' : World} {p : Option Addr} {l : List UInt8} {A : Nat} (h : At w p l) (hp : l ≠ [] → ∀ a, p = some a → a.block < A) (hk : ∀ k, k < A → w'.heap[k]? = w.heap[k]?) (hs : w.heap.size ≤ w'.heap.size) : At w' p l := by
  rcases h with rfl | ⟨b, o, rfl, hb, hcs⟩
  · exact .inl rfl
  · refine .inr ⟨b, o, rfl, by omega, fun j hj => ?_⟩
    rw [World.cell?_of_block (w := w) (hk b (hp (List.ne_nil_of_length_pos (by omega)) _ rfl))]
    exact hcs j hj
theorem RdrAt.keep {w w' : World} {A R T : Nat} {p : Option Addr} {c a : Nat} (h : RdrAt L w A R T p c a) (hl : A ≤ R) (hk : ∀ k, k ≤ R → w'.heap[k]? = w.heap[k]?) (hs : w.heap.size ≤ w'.heap.size) : RdrAt L w' A R T p c a := by
  have ht := h.tab
  exact ⟨(hk R (Nat.le_refl _)).trans h.b0, (hk T (by omega)).trans h.b1, h.lies.keep h.far (fun k hk' => hk k (by omega)) hs, h.cap, h.far, ht, h.pos⟩
theorem Rdr.keep {w w' : World} {A R : Nat} {l : List UInt8} (h : Rdr L w A R l) (hk : ∀ k, k ≤ R → w'.heap[k]? = w.heap[k]?) (hs : w.heap.size ≤ w'.heap.size) : Rdr L w' A R l := by
  obtain ⟨T, p, c, a, h1, h2⟩ := h.out
  exact ⟨⟨T, p, c, a, h1.keep h.low hk hs, h2⟩, h.small, h.low⟩
theorem Rdr.on {w w' : World} {A R : Nat} {l : List UInt8} (h : Rdr L w A R l) (hb : Below w.heap.size w w') : Rdr L w' A R l := h.keep (fun k hk => hb.block k (by have := h.lt; omega)) hb.size
theorem Rdr.aside {w w' : World} {A R : Nat} {l : List UInt8} {F : Nat → Prop} (h : Rdr L w A R l) (ha : Aside F w w') (hF : ∀ k, F k → R < k) : Rdr L w' A R l :=
  h.keep (fun k hk => ha.block k (by have := h.lt; omega) (fun hc => by have := hF k hc; omega)) ha.size
theorem Rdr.drew {w : World} {A R : Nat} {l : List UInt8} (h : Rdr L w A R l) : Rdr L w.drew A R l := h.keep (fun _ _ => rfl) (Nat.le_refl _)
/-- so many bytes are taken off -/
theorem RdrAt.move {w : World} {A R T : Nat} {p : Option Addr} {c a : Nat} (h : RdrAt L w A R T p c a) (hl : A ≤ R) (n : Nat) (hn : n ≤ L.length) : RdrAt L (w.setCell ⟨R, 2, none⟩ (.int .i64 ((n : Nat) : Int))) A R T p c n := by
  have ht := h.tab
  have ha : Aside (fun i => i = R) w (w.setCell ⟨R, 2, none⟩ (.int .i64 ((n : Nat) : Int))) := aside_set _ _ _ _
  have hR := blk_lt h.b0
  refine ⟨by rw [blk_set h.b0 2]; rfl, (ha.block T (by omega) (by omega)).trans h.b1, ?_, h.cap, h.far, ht, hn⟩
  rcases h.lies with h1 | ⟨b, o, rfl, hb, hcs⟩
  · exact .inl h1
  · by_cases h0 : L = []
    · exact .inl h0
    · have hbA := h.far h0 _ rfl
      refine .inr ⟨b, o, rfl, Nat.lt_of_lt_of_le hb ha.size, fun j hj => ?_⟩
      rw [World.cell?_of_block (w := w) (ha.block b hb (by show ¬ b = R; simp only at hbA; omega))]
      exact hcs j hj
/-- what a call of the reader answers -/
def RdA {α : Type} (L : List UInt8) (w : World) (A R : Nat) (l : List UInt8) (r : Except Nat (α × Nat)) (V : α → Value → World → Prop) (e : Ending) (w' : World) : Prop := match r with
  | .error k => e = .panicked (errV k) ∧ Aside (fun i => i = R) w w'
  | .ok (a, j) => ∃ v, e = .returned v ∧ V a v w' ∧ Rdr L w' A R (l.drop j) ∧ Aside (fun i => i = R) w w'
/-- a number -/
def isI (n : Nat) (v : Value) (_ : World) : Prop := v = .int .i64 n
def isU (n : Nat) (v : Value) (_ : World) : Prop := v = .int .u64 n
def isT (t : ByteArray) (v : Value) (_ : World) : Prop := v = .string t
def isB (b : List UInt8) (v : Value) (w : World) : Prop := ∃ q c, v = .slice q b.length c ∧ At w q b ∧ b.length ≤ c

set_option maxHeartbeats 400000 in
theorem need_t (a : Value) (k : Int) (w : World) : Calls Try.prog 28 #[a, .bool true, .int .i64 k] w fun e w' => e = .returned (.tuple #[]) ∧ w' = w := by
  go_enter Try.func28, Try.ntmps28
  go_wp2
  go_end0
  exact ⟨rfl, rfl⟩
set_option maxHeartbeats 400000 in
theorem need_f (a : Value) (k : Nat) (w : World) : Calls Try.prog 28 #[a, .bool false, .int .i64 k] w fun e w' => e = .panicked (errV k) ∧ w' = w := by
  go_enter Try.func28, Try.ntmps28
  go_wp2
  exact ⟨rfl, rfl, rfl⟩
end
end Go.Proofs.Ytnlhpndjogjejaa

/- Calls at a step of a region that draws, which return or panic. -/
namespace Go.Proofs.Ytnlhpndjogjejaa
open Go.RowKit

theorem step_call1b {w : World} {ops : Array Oper} {o : Oper} {a : Act} {K : Act → World → Prop} {Q : Exit → Act → World → Prop} {E : Prop} {f : FuncId} {fn : Func} {code : Code} {u0 : Value} {R : Ending → World → Prop} (x : Operand) (t0 : TypeId)
    (hg : o.guard = none) (hop : o.op = Op.call { callee := .value (.func f), args := #[x], argTypes := #[t0] }) (hx : a.eval x = u0)
    (hf : Try.prog.funcs[f]? = some fn) (hname : (fn.name == "runtime.NumGoroutine") = false) (hb : fn.body = some code)
    (hc : Calls Try.prog f #[u0] w R) (hR : ∀ e w', R e w' → ∃ ch, e = .panicked ch ∧ Q (.panic ch) a w') (v' : Value) (_ : Hid False → K (a.put o.dst v') w) :
    if Region.wanted o (yielded ops a.tmps) = true then Oper.wp Try.prog o a w K Q else E := by
  have hw : Region.wanted o (yielded ops a.tmps) = true := by simp [Region.wanted, hg]
  rw [if_pos hw]
  have h1 : fn.name ≠ "runtime.NumGoroutine" := by simpa using hname
  unfold Oper.wp
  have he : (execOp a.eval o).run Try.prog w = .ok (.enter f #[u0]) w := by
    have hev : a.eval (.func f) = .func (.func f) #[] #[] := rfl
    simp [execOp, hop, resolve, invoke, hx, hev, Deferred.ofValue, callFunc, hf, h1, hb]
  rw [he, Oper.upon_enter]
  refine hc.mono ?_
  intro e w' hr
  obtain ⟨z, rfl, hk⟩ := hR e w' hr
  exact hk
theorem step_call1g {w : World} {ops : Array Oper} {o : Oper} {a : Act} {K : Act → World → Prop} {Q : Exit → Act → World → Prop} {E : Prop} {f : FuncId} {fn : Func} {code : Code} {u0 : Value} {R : Ending → World → Prop} (x : Operand) (t0 : TypeId)
    (hg : o.guard = none) (hop : o.op = Op.call { callee := .value (.func f), args := #[x], argTypes := #[t0] }) (hx : a.eval x = u0)
    (hf : Try.prog.funcs[f]? = some fn) (hname : (fn.name == "runtime.NumGoroutine") = false) (hb : fn.body = some code)
    (hc : Calls Try.prog f #[u0] w R) (hR : ∀ e w', R e w' → ∃ z, e = .returned z ∧ K (a.put o.dst z) w') :
    if Region.wanted o (yielded ops a.tmps) = true then Oper.wp Try.prog o a w K Q else E := by
  have hw : Region.wanted o (yielded ops a.tmps) = true := by simp [Region.wanted, hg]
  rw [if_pos hw]
  have h1 : fn.name ≠ "runtime.NumGoroutine" := by simpa using hname
  unfold Oper.wp
  have he : (execOp a.eval o).run Try.prog w = .ok (.enter f #[u0]) w := by
    have hev : a.eval (.func f) = .func (.func f) #[] #[] := rfl
    simp [execOp, hop, resolve, invoke, hx, hev, Deferred.ofValue, callFunc, hf, h1, hb]
  rw [he, Oper.upon_enter]
  refine hc.mono ?_
  intro e w' hr
  obtain ⟨z, rfl, hk⟩ := hR e w' hr
  exact hk
theorem step_call3b {w : World} {ops : Array Oper} {o : Oper} {a : Act} {K : Act → World → Prop} {Q : Exit → Act → World → Prop} {E : Prop} {f : FuncId} {fn : Func} {code : Code} {u0 u1 u2 : Value} {R : Ending → World → Prop} (x y z : Operand) (t0 t1 t2 : TypeId)
    (hg : o.guard = none) (hop : o.op = Op.call { callee := .value (.func f), args := #[x, y, z], argTypes := #[t0, t1, t2] }) (hx : a.eval x = u0) (hy : a.eval y = u1) (hz : a.eval z = u2)
    (hf : Try.prog.funcs[f]? = some fn) (hname : (fn.name == "runtime.NumGoroutine") = false) (hb : fn.body = some code)
    (hc : Calls Try.prog f #[u0, u1, u2] w R) (hR : ∀ e w', R e w' → ∃ ch, e = .panicked ch ∧ Q (.panic ch) a w') (v' : Value) (_ : Hid False → K (a.put o.dst v') w) :
    if Region.wanted o (yielded ops a.tmps) = true then Oper.wp Try.prog o a w K Q else E := by
  have hw : Region.wanted o (yielded ops a.tmps) = true := by simp [Region.wanted, hg]
  rw [if_pos hw]
  have h1 : fn.name ≠ "runtime.NumGoroutine" := by simpa using hname
  unfold Oper.wp
  have he : (execOp a.eval o).run Try.prog w = .ok (.enter f #[u0, u1, u2]) w := by
    have hev : a.eval (.func f) = .func (.func f) #[] #[] := rfl
    simp [execOp, hop, resolve, invoke, hx, hy, hz, hev, Deferred.ofValue, callFunc, hf, h1, hb]
  rw [he, Oper.upon_enter]
  refine hc.mono ?_
  intro e w' hr
  obtain ⟨z, rfl, hk⟩ := hR e w' hr
  exact hk
theorem step_call3g {w : World} {ops : Array Oper} {o : Oper} {a : Act} {K : Act → World → Prop} {Q : Exit → Act → World → Prop} {E : Prop} {f : FuncId} {fn : Func} {code : Code} {u0 u1 u2 : Value} {R : Ending → World → Prop} (x y z : Operand) (t0 t1 t2 : TypeId)
    (hg : o.guard = none) (hop : o.op = Op.call { callee := .value (.func f), args := #[x, y, z], argTypes := #[t0, t1, t2] }) (hx : a.eval x = u0) (hy : a.eval y = u1) (hz : a.eval z = u2)
    (hf : Try.prog.funcs[f]? = some fn) (hname : (fn.name == "runtime.NumGoroutine") = false) (hb : fn.body = some code)
    (hc : Calls Try.prog f #[u0, u1, u2] w R) (hR : ∀ e w', R e w' → ∃ z, e = .returned z ∧ K (a.put o.dst z) w') :
    if Region.wanted o (yielded ops a.tmps) = true then Oper.wp Try.prog o a w K Q else E := by
  have hw : Region.wanted o (yielded ops a.tmps) = true := by simp [Region.wanted, hg]
  rw [if_pos hw]
  have h1 : fn.name ≠ "runtime.NumGoroutine" := by simpa using hname
  unfold Oper.wp
  have he : (execOp a.eval o).run Try.prog w = .ok (.enter f #[u0, u1, u2]) w := by
    have hev : a.eval (.func f) = .func (.func f) #[] #[] := rfl
    simp [execOp, hop, resolve, invoke, hx, hy, hz, hev, Deferred.ofValue, callFunc, hf, h1, hb]
  rw [he, Oper.upon_enter]
  refine hc.mono ?_
  intro e w' hr
  obtain ⟨z, rfl, hk⟩ := hR e w' hr
  exact hk

theorem step_call2b {w : World} {ops : Array Oper} {o : Oper} {a : Act} {K : Act → World → Prop} {Q : Exit → Act → World → Prop} {E : Prop} {f : FuncId} {fn : Func} {code : Code} {u v : Value} {R : Ending → World → Prop} (x y : Operand) (t t' : TypeId)
    (hg : o.guard = none) (hop : o.op = Op.call { callee := .value (.func f), args := #[x, y], argTypes := #[t, t'] }) (hx : a.eval x = u) (hy : a.eval y = v)
    (hf : Try.prog.funcs[f]? = some fn) (hname : (fn.name == "runtime.NumGoroutine") = false) (hb : fn.body = some code)
    (hc : Calls Try.prog f #[u, v] w R) (hR : ∀ e w', R e w' → ∃ ch, e = .panicked ch ∧ Q (.panic ch) a w') (v' : Value) (_ : Hid False → K (a.put o.dst v') w) :
    if Region.wanted o (yielded ops a.tmps) = true then Oper.wp Try.prog o a w K Q else E := by
  have hw : Region.wanted o (yielded ops a.tmps) = true := by simp [Region.wanted, hg]
  rw [if_pos hw]
  have h1 : fn.name ≠ "runtime.NumGoroutine" := by simpa using hname
  unfold Oper.wp
  have he : (execOp a.eval o).run Try.prog w = .ok (.enter f #[u, v]) w := by
    have hev : a.eval (.func f) = .func (.func f) #[] #[] := rfl
    simp [execOp, hop, resolve, invoke, hx, hy, hev, Deferred.ofValue, callFunc, hf, h1, hb]
  rw [he, Oper.upon_enter]
  refine hc.mono ?_
  intro e w' hr
  obtain ⟨z, rfl, hk⟩ := hR e w' hr
  exact hk
theorem step_never {w : World} {ops : Array Oper} {o : Oper} {a : Act} {K : Act → World → Prop} {Q : Exit → Act → World → Prop} {E : Prop} (h : Hid False) (v' : Value) (_ : K (a.put o.dst v') w) :
    if Region.wanted o (yielded ops a.tmps) = true then Oper.wp Try.prog o a w K Q else E := h.out.elim
theorem step_call2g {w : World} {ops : Array Oper} {o : Oper} {a : Act} {K : Act → World → Prop} {Q : Exit → Act → World → Prop} {E : Prop} {f : FuncId} {fn : Func} {code : Code} {u v : Value} {R : Ending → World → Prop} (x y : Operand) (t t' : TypeId)
    (hg : o.guard = none) (hop : o.op = Op.call { callee := .value (.func f), args := #[x, y], argTypes := #[t, t'] }) (hx : a.eval x = u) (hy : a.eval y = v)
    (hf : Try.prog.funcs[f]? = some fn) (hname : (fn.name == "runtime.NumGoroutine") = false) (hb : fn.body = some code)
    (hc : Calls Try.prog f #[u, v] w R) (hR : ∀ e w', R e w' → ∃ z, e = .returned z ∧ K (a.put o.dst z) w') :
    if Region.wanted o (yielded ops a.tmps) = true then Oper.wp Try.prog o a w K Q else E := by
  have hw : Region.wanted o (yielded ops a.tmps) = true := by simp [Region.wanted, hg]
  rw [if_pos hw]
  have h1 : fn.name ≠ "runtime.NumGoroutine" := by simpa using hname
  unfold Oper.wp
  have he : (execOp a.eval o).run Try.prog w = .ok (.enter f #[u, v]) w := by
    have hev : a.eval (.func f) = .func (.func f) #[] #[] := rfl
    simp [execOp, hop, resolve, invoke, hx, hy, hev, Deferred.ofValue, callFunc, hf, h1, hb]
  rw [he, Oper.upon_enter]
  refine hc.mono ?_
  intro e w' hr
  obtain ⟨z, rfl, hk⟩ := hR e w' hr
  exact hk

end Go.Proofs.Ytnlhpndjogjejaa
