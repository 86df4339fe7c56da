/- K9C: put together. -/
import Derived.Test.YtbedlaaedefclaaM33
import Derived.Test.YtbedlaaedefclaaM06
import Derived.Deep.Cut
import Derived.Deep.CutRange

/- The landed resolve: readItems. -/
namespace Go.Proofs.Ytbedlaaedefclaa
open Go.RowKit

attribute [local go_sem] run_store_float

/-- values grow in a row of one's own, behind all that was there in w0 -/
structure Grow (w0 : World) (v : Value) (zs : List V) (wr : World) : Prop where
  built : ∃ us Fs, Built wr w0.heap.size v zs.length us Fs zs
  keep : Below w0.heap.size w0 wr
theorem grow_nil (w0 : World) : Grow w0 (.slice none 0 0) [] w0 := ⟨⟨_, _, built_nil _ _⟩, Below.refl _ _⟩
theorem Grow.next {w0 wr w2 w3 w4 : World} {v : Value} {zs : List V} {x : V} {u : Array Value} {F : Nat → Prop} {g cap : Nat} {us : Nat → Array Value} {Fs : Nat → Nat → Prop} (h : Grow w0 v zs wr) (hbt : Built wr w0.heap.size v zs.length us Fs zs) (hb : Below wr.heap.size wr w2) (hx : VOwn w2 F u x)
    (hF : ∀ k, F k → wr.heap.size ≤ k ∧ k < w2.heap.size) (hb3 : Below w2.heap.size w2 w3)
    (hr : w4.ownsRow w0.heap.size 28 5 (.slice (some ⟨g, 0, none⟩) (zs.length + 1) cap) (zs.length + 1) (flat us zs.length ++ u.toList)) (hg : w3.grownBy w4 v.ownBlock) (hn : v.ownBlock = some g ∨ g = w3.heap.size) :
    Grow w0 (.slice (some ⟨g, 0, none⟩) (zs.length + 1) cap) (zs ++ [x]) w4 := by
  have hs := h.keep.size
  have hs2 := hb.size
  have hs3 := hb3.size
  have hst := hbt.step hb hx hF hb3 hs hr hg hn
  refine ⟨⟨_, _, by rw [List.length_append]; exact hst⟩, ((h.keep.trans (hb.mono hs)).trans (hb3.mono (by omega))).grown hg (by omega) (fun k hk => (hbt.lt k hk).1)⟩
theorem Grow.done {w0 wr : World} {p : Option Addr} {c : Nat} {zs : List V} (h : Grow w0 (.slice p zs.length c) zs wr) (hl : zs.length * 64 ≤ 140737488351232) (k i : Int) (b : Nat) (t : ByteArray) : VOwn wr (fun j => w0.heap.size ≤ j ∧ j < wr.heap.size) (cells5 k i b t p zs.length c) (.mk k i b t zs) := by
  obtain ⟨us, Fs, hb⟩ := h.built
  obtain ⟨p', c', he, hv⟩ := hb.done hl k i b t
  injection he with h1 _ h2
  subst h1 h2
  exact hv

/-- an error, or the value that lies in blocks from B on -/
def AnsR (B : Nat) (W : World) (u : Array Value) (er : Int) (r : Except Nat V) : Prop := match r with
  | .error er' => er = (er' : Nat)
  | .ok y => er = 0 ∧ VOwn W (fun j => B ≤ j ∧ j < W.heap.size) u y
/-- a value and an error, whichever -/
theorem ValR.any {w w' : World} {r : Except Nat V} {e : Ending} (h : ValR w r e w') : ∃ k i b t p n c, ∃ er : Int, e = .returned (.tuple #[.agg (cells5 k i b t p n c), .int .i64 er]) ∧ Below w.heap.size w w' ∧ AnsR w.heap.size w' (cells5 k i b t p n c) er r := by
  cases r with
  | error er => exact ⟨_, _, _, _, _, _, _, _, h.1, h.2, rfl⟩
  | ok y =>
    obtain ⟨u, he, hv, hb⟩ := h
    obtain ⟨k, i, b, t, p, n, c, rfl⟩ := hv.shape
    exact ⟨_, _, _, _, _, _, _, 0, he, hb, rfl, hv⟩
/-- a call's answer lies in a place gb, made since wr -/
structure Told5 (wr W : World) (gb : Nat) (er : Int) (r : Except Nat V) : Prop where
  below : Below wr.heap.size wr W
  told : match r with
    | .error er' => er = (er' : Nat)
    | .ok y => er = 0 ∧ ∃ k i b t p n c, W.heap[gb]? = some (.cells #[.int .i64 k, .int .i64 i, .float .f64 b, .string t, .slice p n c] 28 (0, 0)) ∧ VOwn W (fun j => wr.heap.size ≤ j ∧ j < W.heap.size) (cells5 k i b t p n c) y
theorem told5_new {wr wr1 w2 : World} {k i : Int} {b : Nat} {t : ByteArray} {p : Option Addr} {n c : Nat} {er : Int} {r : Except Nat V} (hB : Below wr.heap.size wr wr1) (hb2 : Below wr1.drew.heap.size wr1.drew w2) (hv : AnsR wr1.drew.heap.size w2 (cells5 k i b t p n c) er r) : Told5 wr (w2.alloc (.cells #[.int .i64 k, .int .i64 i, .float .f64 b, .string t, .slice p n c] 28)) w2.heap.size er r := by
  have h2 : Below wr.heap.size wr w2 := hB.drew.trans (hb2.mono hB.size)
  refine ⟨h2.alloc h2.size _, ?_⟩
  cases r with
  | error er' => exact hv
  | ok y =>
    refine ⟨hv.1, _, _, _, _, _, _, _, blk_new w2 _, ?_⟩
    have h1 : Below w2.heap.size w2 (w2.alloc (.cells #[.int .i64 k, .int .i64 i, .float .f64 b, .string t, .slice p n c] 28)) := (Below.refl _ _).alloc (Nat.le_refl _) _
    exact (hv.2.under h1 (fun j hj => hj.2)).mono fun j hj => ⟨Nat.le_trans hB.size hj.1, Nat.lt_of_lt_of_le hj.2 h1.size⟩
theorem told5_old {wr wr1 wx w2 : World} {k i : Int} {b : Nat} {t : ByteArray} {p : Option Addr} {n c : Nat} {er : Int} {r : Except Nat V} {a0 a1 a2 a3 a4 : Value} (hB : Below wr.heap.size wr wr1) (hbk : w2.heap[wr1.heap.size]? = some (.cells #[a0, a1, a2, a3, a4] 28 (0, 0))) (hb2 : Below wx.heap.size wx w2) (hv : AnsR wx.heap.size w2 (cells5 k i b t p n c) er r) (hx : wx.heap = (wr1.alloc (.cells #[a0, a1, a2, a3, a4] 28)).heap := by rfl) (ho : wx.os = wr1.os := by rfl) (ht : wx.tape = wr1.tape := by rfl) (hu : wx.output = wr1.output := by rfl) : Told5 wr (put5 w2 wr1.heap.size k i b t (.slice p n c)) wr1.heap.size er r := by
  have hs : wx.heap.size = wr1.heap.size + 1 := by rw [hx]; simp
  have h1 : Below wr1.heap.size wr1 wx := ⟨ho, ht, hu, by omega, fun j hj => by rw [hx]; exact blk_old wr1 _ hj⟩
  have h2 : Below wr.heap.size wr w2 := (hB.trans (h1.mono hB.size)).trans (hb2.mono (by have := hB.size; omega))
  refine ⟨put5_below h2 hB.size, ?_⟩
  cases r with
  | error er' => exact hv
  | ok y =>
    refine ⟨hv.1, _, _, _, _, _, _, _, put5_block hbk, ?_⟩
    rw [put5_size]
    exact (hv.2.aside (put5_aside _) (fun j hj hc => by omega)).mono fun j hj => ⟨by have := hB.size; omega, hj.2⟩

set_option maxRecDepth 100000 in
set_option maxHeartbeats 4000000 in
theorem itemsK (xs : List V) (kb ka : Int) (f : V → Except Nat V) (pa : Option Addr) (na ca : Nat) (p : Option Addr) (c : Nat) (q : Option Addr) (cb : Nat) (uy : Array Value) (w : World)
    (hne : ∀ x ∈ xs, ∀ e, f x = .error e → e ≠ 0)
    (hC : ∀ x ∈ xs, ∀ w' u, Below w.heap.size w w' → VLies w' u x → Calls Try.prog 26 #[.agg (cells2 ka pa na ca), .agg uy, .agg u] w' (ValR w' (f x)))
    (hy : ItemT w q 0 uy) (hx : Items w p xs) (hl : xs.length * 64 ≤ 140737488351232) :
    Calls Try.prog 50 #[.agg (cells2 ka pa na ca), .agg (cells2 kb q 1 cb), .slice p xs.length c] w (ValR w (match Rz.allR f xs with
      | .error e => .error e
      | .ok l => .ok (.mk kb 0 0 ⟨#[]⟩ l))) := by
  obtain ⟨r, hr⟩ : ∃ r : Except Nat V, r = (match Rz.allR f xs with
      | .error e => .error e
      | .ok l => .ok (.mk kb 0 0 ⟨#[]⟩ l)) := ⟨_, rfl⟩
  rw [← hr]
  have HR := Lib.hid hr
  obtain ⟨W0, hW0⟩ : ∃ W0, W0 = ((w.alloc (.cells #[.int .i64 ka, .slice pa na ca] 24)).alloc (.cells #[.int .i64 kb, .slice q 1 cb] 24)).alloc (.cells #[.int .i64 0, .int .i64 0, .float .f64 0, .string ⟨#[]⟩, .slice none 0 0] 28) := ⟨_, rfl⟩
  obtain ⟨l0, l1, l2, lb, ls⟩ := al3 w (.cells #[.int .i64 ka, .slice pa na ca] 24) (.cells #[.int .i64 kb, .slice q 1 cb] 24) (.cells #[.int .i64 0, .int .i64 0, .float .f64 0, .string ⟨#[]⟩, .slice none 0 0] 28)
  rw [← hW0] at l0 l1 l2 lb ls
  have HW0 := Lib.hid hW0
  have HB0 := Lib.hid lb
  have HS0 := Lib.hid ls
  have HL := Lib.hid (And.intro l0 (And.intro l1 l2))
  have HNe := Lib.hid hne
  have HC := Lib.hid hC
  have HY := Lib.hid hy
  have HX := Lib.hid hx
  unfold cells2 at HC ⊢
  clear hr hW0 l0 l1 l2 lb ls hne hC hy hx
  go_enter Try.func50, Try.ntmps50
  go_wp2_with fail
  rw [← HW0.out]
  clear HW0
  go_loopw [8, 15] (fun v8 v15 wr => ∃ (zs : List V) (j : Nat) (q9 : Option Addr) (d9 : Nat), j ≤ xs.length ∧ v15 = .int .i64 j ∧ v8 = .slice q9 j d9 ∧ Hid (zs.length = j ∧ Grow W0 (.slice q9 j d9) zs wr ∧ Rz.allR f (xs.take j) = .ok zs)) (fun _ v15 _ => xs.length - (intOf v15).toNat)
  case atStart => exact ⟨[], 0, none, 0, by omega, rfl, rfl, rfl, grow_nil W0, rfl⟩
  case round =>
    obtain ⟨zs, j, q9, d9, hj, rfl, rfl, HG⟩ := hrel
    have HK : Hid (Below W0.heap.size W0 wr) := HG.out.2.1.keep
    have HBw : Hid (Below w.heap.size w wr) := HB0.out.trans (HK.out.mono (by have := HS0.out; omega))
    by_cases hlt : j < xs.length
    · obtain ⟨ux, hvx, hix⟩ := HX.out j hlt
      obtain ⟨bx, ox, kx, ix, fx, tx, qx, nx, cx, rfl, _, rfl, a0, a1, a2, a3, a4⟩ := (hix.on HBw.out).lies
      obtain ⟨by', oy, ky, qy, ny, cy, hqe, _, rfl, y0, y1⟩ := (HY.out.on HBw.out).lies
      subst hqe
      rw [Nat.zero_mul, Nat.add_zero] at y0 y1
      have hj1 : (j : Int) < (xs.length : Int) := by omega
      obtain ⟨wr1, hwr1⟩ : ∃ W, W = wr.alloc (.cells #[.int .i64 kx, .int .i64 ix, .float .f64 fx, .string tx, .slice qx nx cx] 28) := ⟨_, rfl⟩
      have HBa : Hid (Below wr.heap.size wr wr1) := by rw [hwr1]; exact (Below.refl _ _).alloc (Nat.le_refl _) _
      have hblk : wr1.heap[wr.heap.size]? = some (.cells #[.int .i64 kx, .int .i64 ix, .float .f64 fx, .string tx, .slice qx nx cx] 28 (0, 0)) := by rw [hwr1]; exact blk_new wr _
      have HWr := Lib.hid hwr1
      have HKa : Hid (Below W0.heap.size W0 wr1) := HK.out.trans (HBa.out.mono HK.out.size)
      obtain ⟨rx, hrx⟩ : ∃ rx, rx = f xs[j] := ⟨_, rfl⟩
      have HRx := Lib.hid hrx
      have HCx : Hid (∀ W', Below wr.heap.size wr W' → Calls Try.prog 26 #[.agg #[.int .i64 ka, .slice pa na ca], .agg #[.int .i64 ky, .slice qy ny cy], .agg #[.int .i64 kx, .int .i64 ix, .float .f64 fx, .string tx, .slice qx nx cx]] W' (ValR W' rx)) := fun W' hb => by
        rw [hrx]
        exact HC.out _ (List.getElem_mem hlt) W' _ (HBw.out.trans (hb.mono HBw.out.size)) ((hvx.on HBw.out).on hb)
      -- what is read in the region, in wr1 and with one block more
      have HRd : Hid (∀ W', Below wr1.heap.size wr1 W' → (W'.cell? ⟨w.heap.size, 0, none⟩ = some (.int .i64 ka) ∧ W'.cell? ⟨w.heap.size, 1, none⟩ = some (.slice pa na ca) ∧ W'.cell? ⟨w.heap.size + 1, 1, none⟩ = some (.slice (some ⟨by', oy, none⟩) 1 cb)) ∧ (W'.cell? ⟨by', oy, none⟩ = some (.int .i64 ky) ∧ W'.cell? ⟨by', oy + 1, none⟩ = some (.slice qy ny cy)) ∧ (W'.cell? ⟨wr.heap.size, 0, none⟩ = some (.int .i64 kx) ∧ W'.cell? ⟨wr.heap.size, 1, none⟩ = some (.int .i64 ix) ∧ W'.cell? ⟨wr.heap.size, 2, none⟩ = some (.float .f64 fx) ∧ W'.cell? ⟨wr.heap.size, 3, none⟩ = some (.string tx) ∧ W'.cell? ⟨wr.heap.size, 4, none⟩ = some (.slice qx nx cx))) := fun W' hb => by
        have hk := HKa.out.trans (hb.mono HKa.out.size)
        have hy' := HBa.out.trans (hb.mono HBa.out.size)
        exact ⟨⟨blk_at HL.out.1 hk 0, blk_at HL.out.1 hk 1, blk_at HL.out.2.1 hk 1⟩, ⟨cell_on hy' y0, cell_on hy' y1⟩, ⟨blk_at hblk hb 0, blk_at hblk hb 1, blk_at hblk hb 2, blk_at hblk hb 3, blk_at hblk hb 4⟩⟩
      obtain ⟨⟨m0, m1, m2⟩, ⟨n0, n1⟩, ⟨o0, o1, o2, o3, o4⟩⟩ := HRd.out wr1 (Below.refl _ _)
      have HRa := fun o => HRd.out (wr1.alloc o) ((Below.refl _ _).alloc (Nat.le_refl _) o)
      have m0a := fun o => (HRa o).1.1
      have m1a := fun o => (HRa o).1.2.1
      have m2a := fun o => (HRa o).1.2.2
      have n0a := fun o => (HRa o).2.1.1
      have n1a := fun o => (HRa o).2.1.2
      have o0a := fun o => (HRa o).2.2.1
      have o1a := fun o => (HRa o).2.2.2.1
      have o2a := fun o => (HRa o).2.2.2.2.1
      have o3a := fun o => (HRa o).2.2.2.2.2.1
      have o4a := fun o => (HRa o).2.2.2.2.2.2
      -- behind the call: the answer's place
      have HT6 : Hid (∀ W', Below wr.heap.size wr W' → W'.heap[w.heap.size + 1 + 1]? = some (.cells #[.int .i64 0, .int .i64 0, .float .f64 0, .string ⟨#[]⟩, .slice none 0 0] 28 (0, 0))) := fun W' hb => by
        have hk := HK.out.trans (hb.mono HK.out.size)
        exact (hk.block _ (blk_lt HL.out.2.2)).trans HL.out.2.2
      have HSz : Hid (w.heap.size + 3 ≤ wr.heap.size ∧ wr1.heap.size = wr.heap.size + 1) := ⟨by have := HK.out.size; have := HS0.out; omega, by rw [hwr1]; simp⟩
      clear hrx hvx hix hwr1 y0 y1 HRa HRd hblk
      go_wp2_with fail
      rw [← HWr.out]
      clear HWr a0 a1 a2 a3 a4
      go_cut [11, 12, 15] from 15 to 37 (fun v11 v12 v15 wx => ∃ (gb : Nat) (er : Int), v11 = .pointer (some ⟨gb, 0, none⟩) ∧ v12 = .int .i64 er ∧ v15 = .int .i64 j ∧ Hid (Told5 wr wx gb er rx))
      case first =>
        go_region_law (first
          | (refine step_call3g (.tmp 20) (.tmp 24) (.tmp 25) 24 24 28 (by rfl) (by rfl) (by rfl) (by rfl) (by rfl) Try.func26 (by kernel_rfl) (by rfl) (HCx.out _ HBa.out.drew) ?_
             intro e w2 hh
             obtain ⟨k5, i5, b5, t5, p5, n5, c5, er, he, hb2, hv2⟩ := hh.any
             unfold cells5 at he
             refine ⟨_, he, ?_⟩
             have HTd : Hid (Told5 wr (w2.alloc (.cells #[.int .i64 k5, .int .i64 i5, .float .f64 b5, .string t5, .slice p5 n5 c5] 28)) w2.heap.size er rx) := told5_new HBa.out hb2 hv2
             clear he hh hb2 hv2)
          | (refine step_call3g (.tmp 20) (.tmp 24) (.tmp 25) 24 24 28 (by rfl) (by rfl) (by rfl) (by rfl) (by rfl) Try.func26 (by kernel_rfl) (by rfl) (HCx.out _ (by first | exact (HBa.out.alloc HBa.out.size _).drew | exact HBa.out.drew.alloc HBa.out.size _)) ?_
             intro e w2 hh
             obtain ⟨k5, i5, b5, t5, p5, n5, c5, er, he, hb2, hv2⟩ := hh.any
             unfold cells5 at he
             refine ⟨_, he, ?_⟩
             have hbk : w2.heap[wr1.heap.size]? = some (.cells #[.int .i64 0, .int .i64 0, .float .f64 0, .string ⟨#[]⟩, .slice none 0 0] 28 (0, 0)) := (hb2.block _ (blk_lt (blk_new wr1 _))).trans (blk_new wr1 _)
             have v0 : w2.cell? ⟨wr1.heap.size, 0, none⟩ = some (.int .i64 0) := blk_cell hbk 0
             have v1 : w2.cell? ⟨wr1.heap.size, 1, none⟩ = some (.int .i64 0) := blk_cell hbk 1
             have v2 : w2.cell? ⟨wr1.heap.size, 2, none⟩ = some (.float .f64 0) := blk_cell hbk 2
             have v3 : w2.cell? ⟨wr1.heap.size, 3, none⟩ = some (.string ⟨#[]⟩) := blk_cell hbk 3
             have v4 : w2.cell? ⟨wr1.heap.size, 4, none⟩ = some (.slice none 0 0) := blk_cell hbk 4
             have z0 := blk_free hbk 0
             have z1 := blk_free hbk 1
             have z2 := blk_free hbk 2
             have z3 := blk_free hbk 3
             have z4 := blk_free hbk 4
             have hT := told5_old HBa.out hbk hb2 hv2
             unfold put5 at hT
             have HTd := Lib.hid hT
             clear he hh hb2 hv2 hbk hT)
          | fail)
        all_goals (try go_wp2_with fail)
        all_goals go_meet
        all_goals exact ⟨_, _, rfl, rfl, rfl, HTd⟩
      case rest =>
        obtain ⟨gb, er, rfl, rfl, rfl, HTd⟩ := hcut
        have HB3 := Lib.hid HTd.out.below
        clear m0 m1 m2 n0 n1 o0 o1 o2 o3 o4 m0a m1a m2a n0a n1a o0a o1a o2a o3a o4a HCx
        cases rx with
        | error er' =>
          have hz : er' ≠ 0 := HNe.out _ (List.getElem_mem hlt) er' HRx.out.symm
          have hee : er = (er' : Nat) := HTd.out.told
          subst hee
          have hzb : ((er' : Int) != 0) = true := bne_t (by omega)
          have HRe : Hid (r = .error er') := by
            show _ = _
            rw [HR.out, Rz.allR_err xs j hlt HG.out.2.2 HRx.out.symm]
          have d2 := HT6.out wc HB3.out
          have e0 : wc.cell? ⟨w.heap.size + 1 + 1, 0, none⟩ = some (.int .i64 0) := blk_cell d2 0
          have e1 : wc.cell? ⟨w.heap.size + 1 + 1, 1, none⟩ = some (.int .i64 0) := blk_cell d2 1
          have e2 : wc.cell? ⟨w.heap.size + 1 + 1, 2, none⟩ = some (.float .f64 0) := blk_cell d2 2
          have e3 : wc.cell? ⟨w.heap.size + 1 + 1, 3, none⟩ = some (.string ⟨#[]⟩) := blk_cell d2 3
          have e4 : wc.cell? ⟨w.heap.size + 1 + 1, 4, none⟩ = some (.slice none 0 0) := blk_cell d2 4
          have g0 := blk_free d2 0
          have g1 := blk_free d2 1
          have g2 := blk_free d2 2
          have g3 := blk_free d2 3
          have g4 := blk_free d2 4
          have HD2 := Lib.hid d2
          have HBW : Hid (Below w.heap.size w wc) := HBw.out.trans (HB3.out.mono HBw.out.size)
          clear d2 hz HR
          go_wp2
          refine end5 rfl rfl rfl rfl (put5_block HD2.out) rfl ?_
          rw [HRe.out]
          exact valR_err HBW.out (by omega)
        | ok x9 =>
          obtain ⟨hee, k5, i5, b5, t5, p5, n5, c5, hk3, hv3⟩ := HTd.out.told
          subst hee
          have HRt : Hid (Rz.allR f (xs.take (j + 1)) = .ok (zs ++ [x9])) := Rz.allR_step xs j hlt HG.out.2.2 HRx.out.symm
          obtain ⟨us, Fs, hbt⟩ := HG.out.2.1.built
          have HBt := Lib.hid hbt
          have HGr := Lib.hid HG.out.2.1
          have hzl := HG.out.1
          have HRow : Hid (∀ W', Below wr.heap.size wr W' → W'.ownsRow W0.heap.size 28 5 (.slice q9 j d9) j (flat us j)) := fun W' hb => by
            have := (hbt.on hb).row
            rw [hzl] at this
            exact this
          have f0 := blk_cell hk3 0
          have f1 := blk_cell hk3 1
          have f2 := blk_cell hk3 2
          have f3 := blk_cell hk3 3
          have f4 := blk_cell hk3 4
          have hs3 := HB3.out.size
          have HV3 := Lib.hid hv3
          unfold cells5 at HV3
          have HB4 : Hid (Below wc.heap.size wc (wc.alloc (.cells #[.int .i64 k5, .int .i64 i5, .float .f64 b5, .string t5, .slice p5 n5 c5] 28))) := (Below.refl _ _).alloc (Nat.le_refl _) _
          have HB4w : Hid (Below wr.heap.size wr (wc.alloc (.cells #[.int .i64 k5, .int .i64 i5, .float .f64 b5, .string t5, .slice p5 n5 c5] 28))) := HB3.out.alloc HB3.out.size _
          have hsz := HK.out.size
          clear hbt hk3 hv3
          go_wp2_with (at_builtin; refine wp_more (B := W0.heap.size) (us := us) (HRow.out _ HB4w.out) (u := #[.int .i64 k5, .int .i64 i5, .float .f64 b5, .string t5, .slice p5 n5 c5]) rfl (one5 HV3.out) (ad := wc.heap.size) (blk_new wc _) (by omega) (by simp; omega) rfl rfl rfl rfl rfl ?_
                       intro g2 cap2 w4 hr4 hg4 hn4
                       have HMK : Hid ((zs ++ [x9]).length = j + 1 ∧ Grow W0 (.slice (some ⟨g2, 0, none⟩) (j + 1) cap2) (zs ++ [x9]) w4 ∧ Rz.allR f (xs.take (j + 1)) = .ok (zs ++ [x9])) := by
                         subst hzl
                         exact ⟨by simp, HGr.out.next HBt.out HB3.out HV3.out (fun _ h => h) HB4.out hr4 hg4 hn4, HRt.out⟩
                       clear hr4 hg4 hn4)
          go_roundw
          case rel => exact ⟨zs ++ [x9], j + 1, _, _, by omega, by go_num, rfl, HMK⟩
          case measure => simp [intOf]; omega
    · have hjn : ¬ (j : Int) < (xs.length : Int) := by omega
      have hjj : j = xs.length := by omega
      have c0 : wr.cell? ⟨w.heap.size + 1, 0, none⟩ = some (.int .i64 kb) := blk_at HL.out.2.1 HK.out 0
      have d2 : wr.heap[w.heap.size + 1 + 1]? = some (.cells #[.int .i64 0, .int .i64 0, .float .f64 0, .string ⟨#[]⟩, .slice none 0 0] 28 (0, 0)) := (HK.out.block _ (blk_lt HL.out.2.2)).trans HL.out.2.2
      have e0 : wr.cell? ⟨w.heap.size + 1 + 1, 0, none⟩ = some (.int .i64 0) := blk_cell d2 0
      have e1 : wr.cell? ⟨w.heap.size + 1 + 1, 1, none⟩ = some (.int .i64 0) := blk_cell d2 1
      have e2 : wr.cell? ⟨w.heap.size + 1 + 1, 2, none⟩ = some (.float .f64 0) := blk_cell d2 2
      have e3 : wr.cell? ⟨w.heap.size + 1 + 1, 3, none⟩ = some (.string ⟨#[]⟩) := blk_cell d2 3
      have e4 : wr.cell? ⟨w.heap.size + 1 + 1, 4, none⟩ = some (.slice none 0 0) := blk_cell d2 4
      have g0 := blk_free d2 0
      have g1 := blk_free d2 1
      have g2 := blk_free d2 2
      have g3 := blk_free d2 3
      have g4 := blk_free d2 4
      have HD2 := Lib.hid d2
      have HV : Hid (VOwn wr (fun k => W0.heap.size ≤ k ∧ k < wr.heap.size) (cells5 kb 0 0 ⟨#[]⟩ q9 j d9) (.mk kb 0 0 ⟨#[]⟩ zs)) := by
        have h1 := HG.out.1
        have h2 := HG.out.2.1
        rw [← h1] at h2 ⊢
        exact h2.done (by omega) kb 0 0 ⟨#[]⟩
      have HRe : Hid (r = .ok (.mk kb 0 0 ⟨#[]⟩ zs)) := by
        have h3 := HG.out.2.2
        rw [hjj, List.take_length] at h3
        show _ = _
        rw [HR.out, h3]
      clear d2 hjj HG HR
      go_wp2
      refine end5 rfl rfl rfl rfl (put5_block HD2.out) rfl ?_
      rw [HRe.out]
      exact valR_ok HBw.out (by omega) (by have := HS0.out; omega) HV.out
end Go.Proofs.Ytbedlaaedefclaa
