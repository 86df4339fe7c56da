/- RowsK, K8Dv, RowL: put together. -/
import Derived.Test.YtphmmmgdpbokkaaM24
import Derived.Test.YtphmmmgdpbokkaaM36
import Derived.Test.YtphmmmgdpbokkaaM44
import Derived.Test.YtphmmmgdpbokkaaM29
import Derived.Test.YtphmmmgdpbokkaaM28
import Derived.Deep.DeepHandedRow
import Derived.LaidMore
import Derived.Stop.Joined

/- Package row's functions answer as the laws ask, in any world. -/
namespace Go.Proofs.Ytphmmmgdpbokkaa
open Go.RowKit

/-- no package variable is read -/
def RowsI (_ : World) : Prop := True

set_option maxRecDepth 100000 in
set_option maxHeartbeats 400000 in
theorem checkRK (s : List Col) (p : Option Addr) (cp : Nat) (vs : List V) (q : Option Addr) (cq : Nat) (w : World) (hS : SchL w p cp s) (hR : RLies w q cq vs) :
    Calls Try.prog 12 #[.agg #[.slice p s.length cp], .agg #[.slice q vs.length cq]] w fun e w' => e = .returned (.int .i64 (Rw.err s vs : Nat)) ∧ Below w.heap.size w w' := by
  obtain ⟨W0, hW0⟩ : ∃ W0, W0 = (w.alloc (.cells #[.slice p s.length cp] 39)).alloc (.cells #[.slice q vs.length cq] 41) := ⟨_, rfl⟩
  have HB1 : Hid (Below w.heap.size w W0) := by rw [hW0]; exact ((Below.refl _ _).alloc (Nat.le_refl _) _).alloc (by simp) _
  have HC := Lib.hid (encodeRK s p cp vs q cq W0 (hS.on HB1.out) (hR.on HB1.out))
  obtain ⟨R, hR'⟩ : ∃ R, R = Rw.err s vs := ⟨_, rfl⟩
  obtain ⟨L, hL⟩ : ∃ R, R = Rw.out s vs := ⟨_, rfl⟩
  rw [← hR', ← hL] at HC
  rw [← hR']
  have HW0 := Lib.hid hW0
  clear hR' hL hS hR hW0
  go_enter Try.func12, Try.ntmps12
  go_wp2_with fail
  rw [← HW0.out]
  refine HC.out.mono ?_
  rintro e w2 ⟨q2, cap, rfl, -, -, hb2⟩
  have HB2 := Lib.hid (HB1.out.trans (hb2.mono HB1.out.size))
  clear hb2 HC
  go_wp2
  go_ret
  exact ⟨rfl, HB2.out⟩

theorem EncR.toldK {w w' : World} {y : Ty} {x : V} {e : Ending} (h : EncR w (Rw.encErr y x) (Sch.vB x) e w') : Told w (Rw.encErr y x) (Rw.encB y x) e w' := by
  rcases h with ⟨h0, q, cap, rfl, hh, hb⟩ | ⟨h0, rfl, hb⟩
  · have e1 : Rw.encB y x = Sch.vB x := by rw [Rw.encB, if_pos h0]
    obtain ⟨q', cap', he, hat, hcap⟩ := hh.at
    injection he with e2 _ e3
    subst e2 e3
    rw [e1, h0]
    exact ⟨q, cap, rfl, hat, hcap, hb⟩
  · have e1 : Rw.encB y x = [] := by rw [Rw.encB, if_neg h0]
    rw [e1]
    exact ⟨none, 0, rfl, .inl rfl, Nat.le_refl _, hb⟩

theorem rowsK : RowsOk RowsI where
  on := fun _ _ => trivial
  check := fun s p c vs q d w hs hr _ => checkRK s p c vs q d w hs hr
  encode := fun s p c vs q d w hs hr _ => encodeRK s p c vs q d w hs hr
  decode := fun s p c l q d a w hs hl hld hat h1 h2 _ => decodeRK s p c l q d a w hs hl hld hat h1 h2
  encodeValue := fun y x u v w hy _ hx wx _ => (encodeValueK y x w u v hy hx wx).mono fun _ _ h => h.toldK
end Go.Proofs.Ytphmmmgdpbokkaa

/- The landed row: DecodeValue. -/
namespace Go.Proofs.Ytphmmmgdpbokkaa
open Go.RowKit

attribute [local go_sem] run_store_float

set_option maxHeartbeats 2000000 in
theorem catch9_panicking (g : Nat) (q s : Addr) (z0 z1 z2 z3 z4 : Value) (y z : Int) (k : Int) (w : World) (h0 : w.cell? ⟨g, 0, none⟩ = some z0) (h1 : w.cell? ⟨g, 1, none⟩ = some z1) (h2 : w.cell? ⟨g, 2, none⟩ = some z2) (h3 : w.cell? ⟨g, 3, none⟩ = some z3) (h4 : w.cell? ⟨g, 4, none⟩ = some z4) (hz : ∀ j, w.frozen? ⟨g, j, none⟩ = false) (hc2 : w.cell? q = some (.int .i64 y)) (hz2 : w.frozen? q = false) (hc3 : w.cell? s = some (.int .i64 z)) (hz3 : w.frozen? s = false) (hpq : ∀ j, ¬ (⟨g, j, none⟩ : Addr) = q) (hps : ∀ j, ¬ (⟨g, j, none⟩ : Addr) = s) (hqs : ¬ q = s) :
    CallsD Try.prog 34 #[.pointer (some ⟨g, 0, none⟩), .pointer (some q), .pointer (some s)] (.panicking [{ v := .iface 26 (.int .i64 k), recovered := false }]) w fun e u' w' =>
      e = .returned (.tuple #[]) ∧ u' = .panicking [{ v := .iface 26 (.int .i64 k), recovered := true }] ∧ w' = (((lay5 w g 0 0 0 ⟨#[]⟩ (.slice none 0 0)).setCell q (.int .i64 0)).setCell s (.int .i64 k)).drew := by
  have hta := run_assert k
  unfold lay5
  refine callsD_of_wpS Try.func34 rfl fun c₀ cs hu => ?_
  apply wpS_seq
  apply wpS_region
  simp [wpOpsS, go_sem, recoverD, hu, Try.ntmps34, Exit.thenS]
  refine wpS_of_wp ?_
  go_wp2_with fail
  go_region_law (fail)
  all_goals
    show bodyPostS Try.prog Try.f34 c₀ cs _ Exit.normal _ _ _
    simp [bodyPostS, results, Try.results34]

set_option maxHeartbeats 1000000 in
theorem catch9_idle (p q s : Addr) (w : World) :
    CallsD Try.prog 34 #[.pointer (some p), .pointer (some q), .pointer (some s)] .returning w fun e u' w' => e = .returned (.tuple #[]) ∧ u' = .returning ∧ w' = w := by
  refine callsD_of_wpS Try.func34 rfl fun c₀ cs hu => ?_
  apply wpS_seq
  apply wpS_region
  simp [wpOpsS, go_sem, recoverD, hu, Try.ntmps34, Exit.thenS]
  refine wpS_of_wp ?_
  go_wp2_with fail
  cases c₀
  simp_all [bodyPostS, results, Try.results34]

/-- the results' places, while DecodeValue runs -/
structure DecW (w W : World) (C : Array Value) (x y : Int) : Prop where
  b1 : W.heap[w.heap.size + 1]? = some (.cells C 33 (0, 0))
  b2 : W.heap[w.heap.size + 2]? = some (.cells #[.int .i64 x] 3 (0, 0))
  b3 : W.heap[w.heap.size + 3]? = some (.cells #[.int .i64 y] 26 (0, 0))
  below : Below w.heap.size w W
theorem DecW.on {w W W' : World} {C : Array Value} {x y : Int} (h : DecW w W C x y) (hb : Below W.heap.size W W') : DecW w W' C x y := by
  have l1 := blk_lt h.b1
  have l2 := blk_lt h.b2
  have l3 := blk_lt h.b3
  exact ⟨by rw [hb.block _ l1]; exact h.b1, by rw [hb.block _ l2]; exact h.b2, by rw [hb.block _ l3]; exact h.b3, h.below.trans (hb.mono h.below.size)⟩
theorem DecW.aside {w W W' : World} {C : Array Value} {x y : Int} {F : Nat → Prop} (h : DecW w W C x y) (ha : Aside F W W') (hF : ∀ k, F k → w.heap.size + 4 ≤ k) : DecW w W' C x y := by
  have l1 := blk_lt h.b1
  have l2 := blk_lt h.b2
  have l3 := blk_lt h.b3
  exact ⟨by rw [ha.block _ l1 (fun hc => by have := hF _ hc; omega)]; exact h.b1, by rw [ha.block _ l2 (fun hc => by have := hF _ hc; omega)]; exact h.b2, by rw [ha.block _ l3 (fun hc => by have := hF _ hc; omega)]; exact h.b3, h.below.trans (ha.below h.below.size (fun k hk hc => by have := hF _ hc; omega))⟩
theorem DecW.set1 {w W : World} {C : Array Value} {x y : Int} (h : DecW w W C x y) (hC : C.size = 5) (k i : Int) (b : Nat) (t : ByteArray) (q : Option Addr) (n c : Nat) : DecW w (lay5 W (w.heap.size + 1) k i b t (.slice q n c)) (cells5 k i b t q n c) x y := by
  have l1 := blk_lt h.b1
  have l2 := blk_lt h.b2
  have l3 := blk_lt h.b3
  have ha := lay5_aside W (w.heap.size + 1) k i b t (.slice q n c)
  exact ⟨lay5_blk h.b1 hC k i b t q n c, by rw [ha.block _ l2 (by omega)]; exact h.b2, by rw [ha.block _ l3 (by omega)]; exact h.b3, h.below.trans (ha.below h.below.size (fun k hk => by omega))⟩
theorem DecW.set2 {w W : World} {C : Array Value} {x y : Int} (h : DecW w W C x y) (x' : Int) : DecW w (W.setCell ⟨w.heap.size + 2, 0, none⟩ (.int .i64 x')) C x' y := by
  have l1 := blk_lt h.b1
  have l2 := blk_lt h.b2
  have l3 := blk_lt h.b3
  have ha : Aside (fun i => i = w.heap.size + 2) W (W.setCell ⟨w.heap.size + 2, 0, none⟩ (.int .i64 x')) := aside_set _ _ _ _
  exact ⟨by rw [ha.block _ l1 (by omega)]; exact h.b1, by rw [blk_set h.b2 0]; rfl, by rw [ha.block _ l3 (by omega)]; exact h.b3, h.below.trans (ha.below h.below.size (fun k hk => by omega))⟩
theorem DecW.set3 {w W : World} {C : Array Value} {x y : Int} (h : DecW w W C x y) (y' : Int) : DecW w (W.setCell ⟨w.heap.size + 3, 0, none⟩ (.int .i64 y')) C x y' := by
  have l1 := blk_lt h.b1
  have l2 := blk_lt h.b2
  have l3 := blk_lt h.b3
  have ha : Aside (fun i => i = w.heap.size + 3) W (W.setCell ⟨w.heap.size + 3, 0, none⟩ (.int .i64 y')) := aside_set _ _ _ _
  exact ⟨by rw [ha.block _ l1 (by omega)]; exact h.b1, by rw [ha.block _ l2 (by omega)]; exact h.b2, by rw [blk_set h.b3 0]; rfl, h.below.trans (ha.below h.below.size (fun k hk => by omega))⟩
theorem DecW.drew {w W : World} {C : Array Value} {x y : Int} (h : DecW w W C x y) : DecW w W.drew C x y := ⟨h.b1, h.b2, h.b3, h.below.drew⟩

set_option maxRecDepth 100000 in
set_option maxHeartbeats 4000000 in
theorem decodeValueK (y : Ty) (u : Array Value) (l : List UInt8) (q : Option Addr) (d : Nat) (a : Int) (w : World) (hy : TLies w u y) (hl : l.length ≤ 140737488351232) (hld : l.length ≤ d) (hat : At w q l) (ha1 : -9223372036854775808 ≤ a) (ha2 : a ≤ 9223372036854775807) :
    Calls Try.prog 17 #[.agg u, .slice q l.length d, .int .i64 a] w (ValA w (Rw.readV y l a)) := by
  have hmf : ∀ (fn : Fn) (first cap : Array Value) (w : World), (Instr.makeFunc fn first cap).run Try.prog w = .ok (.func fn first cap) w := fun _ _ _ _ => rfl
  obtain ⟨ky, ts⟩ := y
  obtain ⟨yp, yc, rfl, -⟩ := hy.open
  obtain ⟨r, hr⟩ : ∃ r, r = Rw.readV (.mk ky ts) l a := ⟨_, rfl⟩
  have HR := Lib.hid (hr.trans (by rw [Rw.readV] : Rw.readV (.mk ky ts) l a = _))
  rw [← hr]
  obtain ⟨W0, hW0⟩ : ∃ W0, W0 = (((w.alloc (.cells (cells2 ky yp ts.length yc) 24)).alloc (.cells #[.int .i64 0, .int .i64 0, .float .f64 0, .string ⟨#[]⟩, .slice none 0 0] 33)).alloc (.cells #[.int .i64 0] 3)).alloc (.cells #[.int .i64 0] 26) := ⟨_, rfl⟩
  have hB0 : Below w.heap.size w W0 := by rw [hW0]; exact ((((Below.refl _ _).alloc (Nat.le_refl _) _).alloc (by simp) _).alloc (by simp <;> omega) _).alloc (by simp <;> omega) _
  have HD0 : Hid (DecW w W0 (cells5 0 0 0 ⟨#[]⟩ none 0 0) 0 0) := by
    refine ⟨?_, ?_, ?_, hB0⟩
    · rw [hW0, blk_old _ _ (by simp <;> omega), blk_old _ _ (by simp)]
      have := blk_new (w.alloc (.cells (cells2 ky yp ts.length yc) 24)) (.cells #[.int .i64 0, .int .i64 0, .float .f64 0, .string ⟨#[]⟩, .slice none 0 0] 33)
      simpa [cells5] using this
    · rw [hW0, blk_old _ _ (by simp)]
      have := blk_new ((w.alloc (.cells (cells2 ky yp ts.length yc) 24)).alloc (.cells #[.int .i64 0, .int .i64 0, .float .f64 0, .string ⟨#[]⟩, .slice none 0 0] 33)) (.cells #[.int .i64 0] 3)
      simpa using this
    · have := blk_new (((w.alloc (.cells (cells2 ky yp ts.length yc) 24)).alloc (.cells #[.int .i64 0, .int .i64 0, .float .f64 0, .string ⟨#[]⟩, .slice none 0 0] 33)).alloc (.cells #[.int .i64 0] 3)) (.cells #[.int .i64 0] 26)
      rw [hW0]; simpa using this
  have hY : W0.heap[w.heap.size]? = some (.cells (cells2 ky yp ts.length yc) 24 (0, 0)) := by
    rw [hW0, blk_old _ _ (by simp <;> omega), blk_old _ _ (by simp <;> omega), blk_old _ _ (by simp)]
    exact blk_new w _
  have HY := Lib.hid hY
  have hs0 : w.heap.size + 4 ≤ W0.heap.size := by rw [hW0]; simp
  have HAt := Lib.hid hat
  have HTl := Lib.hid hy
  have HC := Lib.hid (checkTypeK (.mk ky ts) W0 _ (hy.on hB0))
  obtain ⟨er, her⟩ : ∃ er, er = Ty.check 1 (.mk ky ts) := ⟨_, rfl⟩
  have HEr := Lib.hid her
  rw [← her] at HC HR
  have HW0 := Lib.hid hW0
  clear hW0 hr hy hat her hB0 hY
  unfold cells2 at HC HW0 ⊢
  go_enter_defers Try.func17, Try.ntmps17
  go_wp2_with fail
  rw [← HW0.out]
  clear HW0
  refine HC.out.mono ?_
  rintro e w1 ⟨rfl, hb1⟩
  have HD1 := Lib.hid (HD0.out.on hb1)
  have hY1 : w1.heap[w.heap.size]? = some (.cells (cells2 ky yp ts.length yc) 24 (0, 0)) := (hb1.block _ (blk_lt HY.out)).trans HY.out
  have HY1 := Lib.hid hY1
  have hs1 : w.heap.size + 4 ≤ w1.heap.size := Nat.le_trans hs0 hb1.size
  have HBw1 : Hid (Below w.heap.size w w1) := HD1.out.below
  clear hb1 HC HY HD0 hY1
  have ma0 : w1.cell? ⟨w.heap.size + 1, 0, none⟩ = some (.int .i64 0) := blk_cell HD1.out.b1 0
  have mb0 : w1.frozen? ⟨w.heap.size + 1, 0, none⟩ = false := blk_free HD1.out.b1 0
  have ma1 : w1.cell? ⟨w.heap.size + 1, 1, none⟩ = some (.int .i64 0) := blk_cell HD1.out.b1 1
  have mb1 : w1.frozen? ⟨w.heap.size + 1, 1, none⟩ = false := blk_free HD1.out.b1 1
  have ma2 : w1.cell? ⟨w.heap.size + 1, 2, none⟩ = some (.float .f64 0) := blk_cell HD1.out.b1 2
  have mb2 : w1.frozen? ⟨w.heap.size + 1, 2, none⟩ = false := blk_free HD1.out.b1 2
  have ma3 : w1.cell? ⟨w.heap.size + 1, 3, none⟩ = some (.string ⟨#[]⟩) := blk_cell HD1.out.b1 3
  have mb3 : w1.frozen? ⟨w.heap.size + 1, 3, none⟩ = false := blk_free HD1.out.b1 3
  have ma4 : w1.cell? ⟨w.heap.size + 1, 4, none⟩ = some (.slice none 0 0) := blk_cell HD1.out.b1 4
  have mb4 : w1.frozen? ⟨w.heap.size + 1, 4, none⟩ = false := blk_free HD1.out.b1 4
  have m2 : w1.cell? ⟨w.heap.size + 2, 0, none⟩ = some (.int .i64 0) := blk_cell HD1.out.b2 0
  have m3 : w1.cell? ⟨w.heap.size + 3, 0, none⟩ = some (.int .i64 0) := blk_cell HD1.out.b3 0
  have mf2 := blk_free HD1.out.b2 0
  have mf3 := blk_free HD1.out.b3 0
  by_cases h0 : ¬ er = 0
  · have g0 : ((er : Int) != 0) = true := bne_t (by omega)
    have HE : Hid (r = .error er) := by show _ = _; rw [HR.out, if_pos h0]
    have HD2 := Lib.hid (((HD1.out.set1 rfl 0 0 0 ⟨#[]⟩ none 0 0).set2 0).set3 er)
    clear HR h0
    go_wp2
    have d2 := HD2.out
    refine ⟨_, results_row8 rfl _ _ (w.heap.size + 1) (w.heap.size + 2) (w.heap.size + 3) _ (cells5 0 0 0 ⟨#[]⟩ none 0 0) _ _ 0 er rfl d2.b1 Try.underlying33 rfl (by kernel_rfl) rfl (blk_cell d2.b2 0) Try.underlying3 rfl (blk_cell d2.b3 0) Try.underlying26, ?_⟩
    rw [HE.out]
    exact ⟨rfl, d2.below⟩
  have g0 : ((er : Int) != 0) = false := bne_f (by omega)
  have HR1 := Lib.hid (HR.out.trans (if_neg h0))
  have HTy1 : Hid (Ty.check 1 (.mk ky ts) = 0) := by show _ = _; rw [← HEr.out]; omega
  clear HR h0
  have HDoor : Hid (∀ (er : Nat) (W2 : World) (C : Array Value) (x y : Int), C.size = 5 → r = .error er → DecW w W2 C x y → ∀ (tmps : Array Value) (ds : List Deferred), tmps.getD 6 undef = .pointer (some ⟨w.heap.size + 1, 0, none⟩) → tmps.getD 7 undef = .pointer (some ⟨w.heap.size + 2, 0, none⟩) → tmps.getD 8 undef = .pointer (some ⟨w.heap.size + 3, 0, none⟩) → ds = [{ target := .fn (.func 34) #[.pointer (some ⟨w.heap.size + 1, 0, none⟩), .pointer (some ⟨w.heap.size + 2, 0, none⟩), .pointer (some ⟨w.heap.size + 3, 0, none⟩)], args := #[] }] → bodyPostD Try.prog Try.f17 (ValA w r) (Exit.panic (errV er)) { tmps := tmps, defers := ds } W2) := by
    intro er W2 C x y hC he hI tmps ds h2 h3 h4 hds
    subst hds
    refine leaves_cons (f := 34) (args := #[.pointer (some ⟨w.heap.size + 1, 0, none⟩), .pointer (some ⟨w.heap.size + 2, 0, none⟩), .pointer (some ⟨w.heap.size + 3, 0, none⟩)]) (by simp) (by simp [go_sem]) ?_
    obtain ⟨Cl⟩ := C
    match Cl, hC with
    | [z0, z1, z2, z3, z4], _ =>
    refine (catch9_panicking (w.heap.size + 1) ⟨w.heap.size + 2, 0, none⟩ ⟨w.heap.size + 3, 0, none⟩ z0 z1 z2 z3 z4 x y er W2 (blk_cell hI.b1 0) (blk_cell hI.b1 1) (blk_cell hI.b1 2) (blk_cell hI.b1 3) (blk_cell hI.b1 4) (fun j => blk_free hI.b1 j) (blk_cell hI.b2 0) (blk_free hI.b2 0) (blk_cell hI.b3 0) (blk_free hI.b3 0) (fun j hc => by injection hc; omega) (fun j hc => by injection hc; omega) (by intro hc; injection hc; omega)).mono ?_
    rintro e u' w'' ⟨rfl, rfl, rfl⟩
    have d3 := (((hI.set1 rfl 0 0 0 ⟨#[]⟩ none 0 0).set2 0).set3 er).drew
    refine ⟨_, results_row8 rfl tmps _ (w.heap.size + 1) (w.heap.size + 2) (w.heap.size + 3) _ (cells5 0 0 0 ⟨#[]⟩ none 0 0) _ _ 0 (er : Int) h2 d3.b1 Try.underlying33 rfl (by kernel_rfl) h3 (blk_cell d3.b2 0) Try.underlying3 h4 (blk_cell d3.b3 0) Try.underlying26, ?_⟩
    rw [he]
    exact ⟨rfl, d3.below⟩
  have HF := Lib.hid (readFromK l q d a w.heap.size w1 hl hld (HAt.out.on HBw1.out) (by omega) (fun hne ad had => by
    obtain ⟨b, o, hq, hb, _⟩ := at_some HAt.out (List.length_pos_iff.2 hne)
    rw [hq] at had
    injection had with had
    subst had
    exact hb) ha1 ha2)
  unfold FromA at HF
  by_cases h1 : a < 0 ∨ (l.length : Int) < a
  · have HE : Hid (r = .error 30) := by show _ = _; rw [HR1.out, if_pos h1]
    simp only [if_pos h1] at HF
    clear HR1
    go_wp2_with fail
    refine HF.out.mono ?_
    rintro e w2 ⟨rfl, hb2⟩
    have HD2 := Lib.hid (HD1.out.on hb2)
    clear hb2
    go_wp2
    exact HDoor.out 30 w2 _ _ _ rfl HE.out HD2.out _ _ rfl rfl rfl rfl
  have HR2 := Lib.hid (HR1.out.trans (if_neg h1))
  simp only [if_neg h1] at HF
  have ea : ((a.toNat : Nat) : Int) = a := by omega
  have ha3 : a ≤ (l.length : Int) := by omega
  have HEa := Lib.hid ea
  clear HR1 h1 ea
  go_wp2_with fail
  refine HF.out.mono ?_
  rintro e w2 ⟨rfl, hrd2, hb2, hs2⟩
  obtain ⟨m, hm⟩ : ∃ m, m = l.drop a.toNat := ⟨_, rfl⟩
  rw [← hm] at HR2 hrd2
  have HM := Lib.hid hm
  have HD2 := Lib.hid (HD1.out.on hb2)
  have hY2 : w2.heap[w.heap.size]? = some (.cells (cells2 ky yp ts.length yc) 24 (0, 0)) := (hb2.block _ (blk_lt HY1.out)).trans HY1.out
  have o0 : w2.cell? ⟨w.heap.size, 0, none⟩ = some (.int .i64 ky) := blk_cell hY2 0
  have o1 : w2.cell? ⟨w.heap.size, 1, none⟩ = some (.slice yp ts.length yc) := blk_cell hY2 1
  have HC := Lib.hid (valueR (.mk ky ts) 1 HTy1.out l m w.heap.size (w1.heap.size + 1) w2 _ ⟨w, HTl.out, HBw1.out.trans (hb2.mono HBw1.out.size), by omega⟩ hrd2)
  unfold cells2 at HC
  obtain ⟨mx, hmx⟩ : ∃ x, x = Sch.rdV (.mk ky ts) m := ⟨_, rfl⟩
  rw [← hmx] at HC HR2
  have HMx := Lib.hid hmx
  clear hrd2 hb2 HF hm hmx hY2 HD1 ma0 ma1 ma2 ma3 ma4 mb0 mb1 mb2 mb3 mb4 m2 m3 mf2 mf3
  cases mx with
  | error er2 =>
    have HE : Hid (r = .error er2) := HR2.out
    clear HR2
    go_wp2_with fail
    refine HC.out.mono ?_
    intro e w3 hh
    obtain ⟨he, ha⟩ := hh.bad
    subst he
    have HD3 := Lib.hid (HD2.out.aside ha (fun k hk => by rw [hk]; omega))
    clear hh ha
    go_wp2
    exact HDoor.out er2 w3 _ _ _ rfl HE.out HD3.out _ _ rfl rfl rfl rfl
  | ok xj =>
    obtain ⟨x, j⟩ := xj
    have HE : Hid (r = .ok (x, a.toNat + j)) := HR2.out
    obtain ⟨hj1, ⟨rest, hj2⟩, -⟩ := Sch.rdV_ok (.mk ky ts) 1 m x j HTy1.out HMx.out.symm
    have hjm : j ≤ m.length := by rw [hj2, hj1, List.length_append]; omega
    clear HR2 hj1 hj2
    go_wp2_with fail
    refine HC.out.mono ?_
    intro e w3 hh
    obtain ⟨v, he, hv, hrd, ha⟩ := hh.good
    obtain ⟨u3, hv, hown⟩ := hv.open
    clear hh
    obtain ⟨k9, i9, b9, t9, p9, n9, c9, hu⟩ := hown.shape
    subst hu
    subst hv
    subst he
    have HD3 := Lib.hid (HD2.out.aside ha (fun k hk => by rw [hk]; omega))
    have HOn := Lib.hid hown
    obtain ⟨T, pb, cb, pos, hAt9, hpos⟩ := hrd.out
    have hml : m.length = l.length - a.toNat := by rw [HM.out, List.length_drop]
    have hp : pos = a.toNat + j := by
      have h1 := congrArg List.length hpos
      rw [List.length_drop, List.length_drop] at h1
      have h2 := hAt9.pos
      have h3 := HEa.out
      omega
    have HPos := Lib.hid hp
    have r2 : w3.cell? ⟨w1.heap.size + 1, 2, none⟩ = some (.int .i64 ((pos : Nat) : Int)) := blk_cell hAt9.b0 2
    have hs3 := ha.size
    have HEnd : Hid (∀ (W3 : World) (tmps : Array Value), DecW w W3 (cells5 k9 i9 b9 t9 p9 n9 c9) pos 0 → Aside (fun i => w.heap.size < i ∧ i < w.heap.size + 4) w3 W3 → tmps.getD 6 undef = .pointer (some ⟨w.heap.size + 1, 0, none⟩) → tmps.getD 7 undef = .pointer (some ⟨w.heap.size + 2, 0, none⟩) → tmps.getD 8 undef = .pointer (some ⟨w.heap.size + 3, 0, none⟩) → ∃ v, (results Try.f17 tmps).run Try.prog W3 = .ok v W3 ∧ ValA w r (.returned v) W3) := by
      intro W3 tmps hF hA h2 h3 h4
      refine ⟨_, results_row8 rfl tmps _ (w.heap.size + 1) (w.heap.size + 2) (w.heap.size + 3) _ (cells5 k9 i9 b9 t9 p9 n9 c9) _ _ pos 0 h2 hF.b1 Try.underlying33 rfl (by kernel_rfl) h3 (blk_cell hF.b2 0) Try.underlying3 h4 (blk_cell hF.b3 0) Try.underlying26, ?_⟩
      rw [HE.out]
      refine ⟨_, by rw [HPos.out], (HOn.out.aside hA (fun k hk he => by omega)).mono (fun i hi => ⟨by omega, by have := hA.size; omega⟩), hF.below⟩
    have va0 : w3.cell? ⟨w.heap.size + 1, 0, none⟩ = some (.int .i64 0) := blk_cell HD3.out.b1 0
    have vb0 : w3.frozen? ⟨w.heap.size + 1, 0, none⟩ = false := blk_free HD3.out.b1 0
    have va1 : w3.cell? ⟨w.heap.size + 1, 1, none⟩ = some (.int .i64 0) := blk_cell HD3.out.b1 1
    have vb1 : w3.frozen? ⟨w.heap.size + 1, 1, none⟩ = false := blk_free HD3.out.b1 1
    have va2 : w3.cell? ⟨w.heap.size + 1, 2, none⟩ = some (.float .f64 0) := blk_cell HD3.out.b1 2
    have vb2 : w3.frozen? ⟨w.heap.size + 1, 2, none⟩ = false := blk_free HD3.out.b1 2
    have va3 : w3.cell? ⟨w.heap.size + 1, 3, none⟩ = some (.string ⟨#[]⟩) := blk_cell HD3.out.b1 3
    have vb3 : w3.frozen? ⟨w.heap.size + 1, 3, none⟩ = false := blk_free HD3.out.b1 3
    have va4 : w3.cell? ⟨w.heap.size + 1, 4, none⟩ = some (.slice none 0 0) := blk_cell HD3.out.b1 4
    have vb4 : w3.frozen? ⟨w.heap.size + 1, 4, none⟩ = false := blk_free HD3.out.b1 4
    have v2 : w3.cell? ⟨w.heap.size + 2, 0, none⟩ = some (.int .i64 0) := blk_cell HD3.out.b2 0
    have v3 : w3.cell? ⟨w.heap.size + 3, 0, none⟩ = some (.int .i64 0) := blk_cell HD3.out.b3 0
    have vf2 := blk_free HD3.out.b2 0
    have vf3 := blk_free HD3.out.b3 0
    have d9 := ((((HD3.out.set1 rfl k9 i9 b9 t9 p9 n9 c9).set1 rfl k9 i9 b9 t9 p9 n9 c9).set2 pos).set3 0).drew
    have a9 : Aside (fun i => w.heap.size < i ∧ i < w.heap.size + 4) w3 (((lay5 (lay5 w3 (w.heap.size + 1) k9 i9 b9 t9 (.slice p9 n9 c9)) (w.heap.size + 1) k9 i9 b9 t9 (.slice p9 n9 c9)).setCell ⟨w.heap.size + 2, 0, none⟩ (.int .i64 (pos : Int))).setCell ⟨w.heap.size + 3, 0, none⟩ (.int .i64 0)).drew := ((((Aside.mono (lay5_aside _ _ _ _ _ _ _) (fun i _ hi => by rw [hi]; omega)).trans (lay5_aside _ _ _ _ _ _ _) (fun i _ hi => by rw [hi]; omega)).trans (aside_set _ _ _ _) (fun i _ hi => by rw [hi]; omega)).trans (aside_set _ _ _ _) (fun i _ hi => by rw [hi]; omega)).drew
    have HFin := Lib.hid (fun tmps => HEnd.out _ tmps d9 a9)
    unfold lay5 at HFin
    unfold cells5
    clear hrd ha hown hAt9 hpos hp hjm hml HC HEnd d9 a9
    go_wp2_with fail
    refine wp_calm ?_
    go_region_law (fail)
    all_goals
      rw [calm_normal]
      go_wp2
      refine leaves_cons (f := 34) (args := #[.pointer (some ⟨w.heap.size + 1, 0, none⟩), .pointer (some ⟨w.heap.size + 2, 0, none⟩), .pointer (some ⟨w.heap.size + 3, 0, none⟩)]) (by simp) (by simp [go_sem]) ?_
      refine (catch9_idle ⟨w.heap.size + 1, 0, none⟩ ⟨w.heap.size + 2, 0, none⟩ ⟨w.heap.size + 3, 0, none⟩ _).mono ?_
      rintro e u' w'' ⟨rfl, rfl, rfl⟩
      exact HFin.out _ rfl rfl rfl

theorem readsK : ReadOk RowsI where
  decodeValue := fun y u l q d a w hy _ hl hld hat h1 h2 _ => decodeValueK y u l q d a w hy hl hld hat h1 h2
end Go.Proofs.Ytphmmmgdpbokkaa

/- The rows of stage 8: no variable is listed (else as wip/crc/RowL.lean.t: Tie, Cards, what they give). -/
namespace Go.Proofs.Ytphmmmgdpbokkaa
open Go.ChangeShapes Go.WideShapes Go.ChangeAt Go.RowKit

theorem laid_gives {W : World} (_ : laidMetH Try.prog [] W) : RowsI W := trivial
theorem door_met (os : Os) (args : Array Value) : laidMet Try.prog [] ((World.holding Try.prog os ⟨#[], #[], []⟩).forCall (fun _ _ => 0) ⟨#[], args, []⟩).memory :=
  laidMet_of_run' 8 (by kernel_rfl) (by kernel_rfl)
/-- a text's bytes, bounded by what the row's weights say -/
theorem str_sized {H : Type} {ts : List TypeId} {ds : List (DataW H)} {j : Nat} {t : TypeId} {s : ByteArray} (hsz : (DataW.weightsEach Try.prog ts ds).all (· ≤ reachBytes) = true) (ht : ts[j]? = some t) (hd : ds[j]? = some (.lit (.string s.data.toList))) : s.size ≤ 140737488351232 := by
  have := List.all_eq_true.1 hsz s.data.toList.length (DataW.weights_mem_each ht hd _ (by simp [DataW.weights]))
  have er : reachBytes = 140737488351232 := by decide
  rw [er] at this
  simpa using this
end Go.Proofs.Ytphmmmgdpbokkaa
