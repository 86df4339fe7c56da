/- K9G, K9H: put together. -/
import Derived.Test.YtdahackmmhcjoaaGreatM13
import Derived.Test.YtdahackmmhcjoaaGreatM11

/- The landed resolve: readColumn, Row. -/
namespace Go.Proofs.YtdahackmmhcjoaaGreat
open Go.RowKit

attribute [local go_sem] run_store_float

theorem fresh_valR {w w1 w2 : World} {g : Nat} {y : V} {e : Ending} (h : Fresh w1 y e w2) (hb : Below w.heap.size w w1) (h1 : w.heap.size ≤ g) (h2 : g < w1.heap.size) : ∃ k i b t p n c, e = .returned (.agg (cells5 k i b t p n c)) ∧ Below w1.heap.size w1 w2 ∧ ValR w (.ok y) (.returned (.tuple #[.agg (cells5 k i b t p n c), .int .i64 0])) (put5 w2 g k i b t (.slice p n c)) := by
  obtain ⟨u, he, hv, hb2⟩ := h
  obtain ⟨k, i, b, t, p, n, c, rfl⟩ := hv.shape
  exact ⟨_, _, _, _, _, _, _, he, hb2, valR_ok (hb.trans (hb2.mono hb.size)) h1 h2 hv⟩

set_option maxRecDepth 100000 in
set_option maxHeartbeats 4000000 in
theorem readColumnK9 (s t : List Col) (vs : List V) (p q : Option Addr) (cp cq : Nat) (y : Col) (u : Array Value) (w : World) (hs : s.length * 120 ≤ 140737488351232) (hx : Cols w p s) (hv : Items w q vs) (hu : CLies w u y) (hck : Rz.check s t = 0) (hg : Rz.given s vs = 0) (hyt : y ∈ t) (hwv : ∀ v ∈ vs, v.wf) :
    Calls Tryz.prog 11 #[.agg #[.slice p s.length cp], .agg u, .agg #[.slice q vs.length cq]] w (ValR w (Rz.one s vs y)) := by
  obtain ⟨k, tp, tn, tc, vk, vi, vb, vt, vp, vn, vc, rfl, hT, hD⟩ := hu.out
  unfold cells9
  obtain ⟨hes, het, hcs⟩ := Rz.check_open hck
  obtain ⟨hgl, hgv⟩ := Rz.given_open hg
  obtain ⟨W0, hW0⟩ : ∃ W0, W0 = (((w.alloc (.cells #[.slice p s.length cp] 24)).alloc (.cells #[.string y.name, .int .i64 k, .slice tp tn tc, .bool y.has, .int .i64 vk, .int .i64 vi, .float .f64 vb, .string vt, .slice vp vn vc] 44)).alloc (.cells #[.slice q vs.length cq] 27)).alloc (.cells #[.int .i64 0, .int .i64 0, .float .f64 0, .string ⟨#[]⟩, .slice none 0 0] 35) := ⟨_, rfl⟩
  obtain ⟨l0, l1, l2, l3, lb, ls⟩ := al4 w (.cells #[.slice p s.length cp] 24) (.cells #[.string y.name, .int .i64 k, .slice tp tn tc, .bool y.has, .int .i64 vk, .int .i64 vi, .float .f64 vb, .string vt, .slice vp vn vc] 44) (.cells #[.slice q vs.length cq] 27) (.cells #[.int .i64 0, .int .i64 0, .float .f64 0, .string ⟨#[]⟩, .slice none 0 0] 35)
  rw [← hW0] at l0 l1 l2 l3 lb ls
  have HW0 := Lib.hid hW0
  have HB0 := Lib.hid lb
  have HS0 := Lib.hid ls
  have HCl : Hid (∀ w', Below W0.heap.size W0 w' → w'.cell? ⟨w.heap.size, 0, none⟩ = some (.slice p s.length cp) ∧ (w'.cell? ⟨w.heap.size + 1, 0, none⟩ = some (.string y.name) ∧ w'.cell? ⟨w.heap.size + 1, 1, none⟩ = some (.int .i64 k) ∧ w'.cell? ⟨w.heap.size + 1, 2, none⟩ = some (.slice tp tn tc)) ∧ (w'.cell? ⟨w.heap.size + 1, 4, none⟩ = some (.int .i64 vk) ∧ w'.cell? ⟨w.heap.size + 1, 5, none⟩ = some (.int .i64 vi) ∧ w'.cell? ⟨w.heap.size + 1, 6, none⟩ = some (.float .f64 vb) ∧ w'.cell? ⟨w.heap.size + 1, 7, none⟩ = some (.string vt) ∧ w'.cell? ⟨w.heap.size + 1, 8, none⟩ = some (.slice vp vn vc)) ∧ w'.cell? ⟨w.heap.size + 1 + 1, 0, none⟩ = some (.slice q vs.length cq)) := fun w' h => ⟨blk_at l0 h 0, ⟨blk_at l1 h 0, blk_at l1 h 1, blk_at l1 h 2⟩, ⟨blk_at l1 h 4, blk_at l1 h 5, blk_at l1 h 6, blk_at l1 h 7, blk_at l1 h 8⟩, blk_at l2 h 0⟩
  have HT6 : Hid (∀ w', Below W0.heap.size W0 w' → w'.heap[w.heap.size + 1 + 1 + 1]? = some (.cells #[.int .i64 0, .int .i64 0, .float .f64 0, .string ⟨#[]⟩, .slice none 0 0] 35 (0, 0))) := fun w' h => (h.block _ (blk_lt l3)).trans l3
  have HF := Lib.hid (findK s y.name p cp W0 hs (hx.on lb))
  have HE : Hid (Rz.one s vs y = match Sch.find y.name s 0 with
    | none => .ok (V.fix y.dflt)
    | some k => Rz.read 7 (vs.getD k V0) (Rz.colAt s k).ty y.ty) := rfl
  have HFi := Lib.hid (fun w' (h : Below w.heap.size w w') => fixK y.dflt w' _ (hD.on h))
  have hce := hcs y hyt
  have HRd : Hid (∀ j (h1 : j < s.length) (h2 : j < vs.length), Sch.find y.name s 0 = some j → ∀ w' us uv, Below w.heap.size w w' → TLies w' us s[j].ty → VLies w' uv vs[j] → Calls Tryz.prog 27 #[.agg us, .agg (cells2 k tp tn tc), .agg uv] w' (ValR w' (Rz.read 7 (vs.getD j V0) (Rz.colAt s j).ty y.ty))) := fun j h1 h2 hf w' us uv hb hts huv => by
    have hv' := Rw.vErr_zero (hgv j h1 h2)
    have hc' : Rz.can 7 s[j].ty y.ty = true := by
      unfold Rz.colErr at hce
      rw [hf] at hce
      have hce' : (if Rz.can 7 (Rz.colAt s j).ty y.ty then 0 else 60) = 0 := hce
      rw [Rz.colAt_get h1] at hce'
      cases h : Rz.can 7 s[j].ty y.ty with
      | true => rfl
      | false => rw [h] at hce'; cases hce'
    rw [Rz.colAt_get h1, Rz.getD_get h2]
    exact readK 7 vs[j] s[j].ty y.ty 1 1 1 w' us _ uv hv'.1 (Rz.ty_ok het hyt) hv'.2.1 hv'.2.2 (hwv _ (List.getElem_mem h2)) (by omega) hc' hts (hT.on hb) huv
  have HX := Lib.hid hx
  have HV := Lib.hid hv
  have HGl := Lib.hid hgl
  obtain ⟨r, hr⟩ : ∃ r, r = Rz.one s vs y := ⟨_, rfl⟩
  rw [← hr] at HE ⊢
  have HFo := Lib.hid (fun j h => Rz.find_here (n := y.name) (s := s) (k := j) h)
  obtain ⟨fo, hfo⟩ : ∃ fo, fo = Sch.find y.name s 0 := ⟨_, rfl⟩
  rw [← hfo] at HF HE HRd
  have HFo2 := Lib.hid hfo
  unfold cells5 at HFi
  unfold cells2 at HRd
  generalize hhs : y.has = hs' at *
  generalize hnm : y.name = nm at *
  clear hr hfo hW0 l0 l1 l2 l3 lb ls hx hu hT hD hhs hnm hes het hcs hgl hgv hck hg hyt hce hwv hv
  go_enter Tryz.func11, Tryz.ntmps11
  go_wp2_with fail
  rw [← HW0.out]
  clear HW0
  refine HF.out.mono ?_
  rintro e w1 ⟨he, hb1⟩
  have HB1 := Lib.hid hb1
  have HB1w := Lib.hid (HB0.out.trans (hb1.mono HB0.out.size))
  have HS1 : Hid (w.heap.size + 4 ≤ w1.heap.size) := by have := hb1.size; have := HS0.out; show _ ≤ _; omega
  obtain ⟨c0, ⟨c1, c2, c3⟩, ⟨c4, c5, c6, c7, c8⟩, c9⟩ := HCl.out w1 hb1
  clear hb1 HF
  cases fo with
  | none =>
    have he' : e = .returned (.tuple #[.int .i64 0, .bool false]) := he
    subst he'
    have HE2 : Hid (r = .ok (V.fix y.dflt)) := HE.out
    clear HE he HRd
    go_wp2_with fail
    refine (HFi.out w1 HB1w.out).mono ?_
    intro e w2 hh
    obtain ⟨k5, i5, b5, t5, p5, n5, c5', he, hb2, hv2⟩ := fresh_valR (w := w) (g := w.heap.size + 1 + 1 + 1) hh HB1w.out (by omega) (by have := HS1.out; omega)
    unfold cells5 at he
    subst he
    have d6 := HT6.out w2 (HB1.out.trans (hb2.mono HB1.out.size))
    have e0 : w2.cell? ⟨w.heap.size + 1 + 1 + 1, 0, none⟩ = some (.int .i64 0) := blk_cell d6 0
    have e1 : w2.cell? ⟨w.heap.size + 1 + 1 + 1, 1, none⟩ = some (.int .i64 0) := blk_cell d6 1
    have e2 : w2.cell? ⟨w.heap.size + 1 + 1 + 1, 2, none⟩ = some (.float .f64 0) := blk_cell d6 2
    have e3 : w2.cell? ⟨w.heap.size + 1 + 1 + 1, 3, none⟩ = some (.string ⟨#[]⟩) := blk_cell d6 3
    have e4 : w2.cell? ⟨w.heap.size + 1 + 1 + 1, 4, none⟩ = some (.slice none 0 0) := blk_cell d6 4
    have g0 := blk_free d6 0
    have g1 := blk_free d6 1
    have g2 := blk_free d6 2
    have g3 := blk_free d6 3
    have g4 := blk_free d6 4
    have HD6 := Lib.hid d6
    have HV2 := Lib.hid hv2
    unfold put5 at HV2
    clear hh hb2 hv2 d6
    go_wp2
    refine end5 rfl rfl rfl rfl (put5_block HD6.out) rfl ?_
    rw [HE2.out]
    exact HV2.out
  | some j =>
    have he' : e = .returned (.tuple #[.int .i64 j, .bool true]) := he
    subst he'
    obtain ⟨hj, -⟩ := HFo.out j HFo2.out.symm
    have hjv : j < vs.length := by have := HGl.out; omega
    obtain ⟨bx, ox, k', tp', tn', tc', vk', vi', vb', vt', vp', vn', vc', rfl, _, h9, hT', -⟩ := (HX.out.on HB1w.out).at j hj
    obtain ⟨-, a1, a2, -⟩ := h9
    obtain ⟨uv, hv1, hv2⟩ := HV.out j hjv
    obtain ⟨by', oy, ky, iy, fy, ty, qy, ny, cy, rfl, _, rfl, b0, b1, b2, b3, b4⟩ := (hv2.on HB1w.out).lies
    have HE2 : Hid (r = Rz.read 7 (vs.getD j V0) (Rz.colAt s j).ty y.ty) := HE.out
    have HC : Hid (∀ w', Below w1.heap.size w1 w' → Calls Tryz.prog 27 #[.agg #[.int .i64 k', .slice tp' tn' tc'], .agg #[.int .i64 k, .slice tp tn tc], .agg #[.int .i64 ky, .int .i64 iy, .float .f64 fy, .string ty, .slice qy ny cy]] w' (ValR w' r)) := fun w' hb => by
      rw [HE2.out]
      have hbw := HB1w.out.trans (hb.mono HB1w.out.size)
      exact HRd.out j hj hjv rfl w' _ _ hbw (hT'.on hb) (hv1.on hbw)
    have hj1 : (j : Int) < (s.length : Int) := by omega
    have hj2 : (j : Int) < (vs.length : Int) := by omega
    clear HE HE2 he hT' HX HV HFo HFo2 HRd hv1 hv2 HFi HCl
    go_wp2_with fail
    go_region_law (first
      | (refine step_call3g (.tmp 27) (.tmp 29) (.tmp 34) 42 42 35 (by rfl) (by rfl) (by rfl) (by rfl) (by rfl) Tryz.func27 (by kernel_rfl) (by rfl) (HC.out _ (Below.refl _ _).drew) ?_
         intro e w2 hh
         obtain ⟨k5, i5, b5, t5, p5, n5, c5', er, he, hb2, hv2⟩ := hh.pass (w0 := w) (g := w.heap.size + 1 + 1 + 1) HB1w.out.drew (by omega) (by have := HS1.out; show w.heap.size + 1 + 1 + 1 < w1.heap.size; omega)
         unfold cells5 at he
         refine ⟨_, he, ?_⟩
         have hb3 : Below W0.heap.size W0 w2 := HB1.out.drew.trans (hb2.mono HB1.out.size)
         have d6 := HT6.out w2 hb3
         have e0 : w2.cell? ⟨w.heap.size + 1 + 1 + 1, 0, none⟩ = some (.int .i64 0) := blk_cell d6 0
         have e1 : w2.cell? ⟨w.heap.size + 1 + 1 + 1, 1, none⟩ = some (.int .i64 0) := blk_cell d6 1
         have e2 : w2.cell? ⟨w.heap.size + 1 + 1 + 1, 2, none⟩ = some (.float .f64 0) := blk_cell d6 2
         have e3 : w2.cell? ⟨w.heap.size + 1 + 1 + 1, 3, none⟩ = some (.string ⟨#[]⟩) := blk_cell d6 3
         have e4 : w2.cell? ⟨w.heap.size + 1 + 1 + 1, 4, none⟩ = some (.slice none 0 0) := blk_cell d6 4
         have g0 := blk_free d6 0
         have g1 := blk_free d6 1
         have g2 := blk_free d6 2
         have g3 := blk_free d6 3
         have g4 := blk_free d6 4
         have HD6 := Lib.hid d6
         have HV2 := Lib.hid hv2
         unfold put5 at HV2
         clear he hh hb2 hb3 hv2 d6)
      | fail)
    all_goals
      go_wp2
      refine end5 rfl rfl rfl rfl (put5_block HD6.out) rfl ?_
      exact HV2.out

/-- a row and an error are answered -/
def RowR (w : World) (r : Except Nat (List V)) (e : Ending) (w' : World) : Prop := match r with
  | .error er => e = .returned (.tuple #[.agg #[.slice none 0 0], .int .i64 (er : Nat)]) ∧ Below w.heap.size w w'
  | .ok ys => ∃ q c, e = .returned (.tuple #[.agg #[.slice q ys.length c], .int .i64 0]) ∧ VOwn w' (fun k => w.heap.size ≤ k ∧ k < w'.heap.size) (cells5 0 0 0 ⟨#[]⟩ q ys.length c) (.mk 0 0 0 ⟨#[]⟩ ys) ∧ Below w.heap.size w w'
/-- the end: a row's place and an error -/
theorem endR {g : Nat} {T : TypeId} {fn : Func} {R : Ending → World → Prop} {a : Act} {W : World} {q u : Tmp} {cs : Array Value} {fr : Nat × Nat} {x : Value} (h : fn.results = #[.cell q 27, .tmp u]) (hp : a.tmps.getD q undef = .pointer (some ⟨g, 0, none⟩)) (hx : a.tmps.getD u undef = x) (hd : a.defers = []) (hg : W.heap[g]? = some (.cells cs T fr)) (hs : cs.size = 1) (hR : R (.returned (.tuple #[.agg cs, x])) W) : bodyPost Tryz.prog fn R .ret a W := by
  refine bodyPost_ret (results_row2 h _ _ g _ _ _ _ hp hg Tryz.underlying27 rfl ?_) hd (by rw [hx]; exact hR)
  rw [hs]
  kernel_rfl
theorem put1_block {w1 : World} {g : Nat} {a0 v : Value} {T : TypeId} (h : w1.heap[g]? = some (.cells #[a0] T (0, 0))) : (w1.setCell ⟨g, 0, none⟩ v).heap[g]? = some (.cells #[v] T (0, 0)) := by
  rw [blk_set h 0]
  rfl
theorem put1_below {w w1 : World} {g B : Nat} {v : Value} (h : Below B w w1) (hg : B ≤ g) : Below B w (w1.setCell ⟨g, 0, none⟩ v) := h.setCell (p := ⟨g, 0, none⟩) hg _
theorem rowR_err {w w1 : World} {g er : Nat} {v : Value} (hb : Below w.heap.size w w1) (hg : w.heap.size ≤ g) : RowR w (.error er) (.returned (.tuple #[.agg #[.slice none 0 0], .int .i64 (er : Nat)])) (w1.setCell ⟨g, 0, none⟩ v) := ⟨rfl, put1_below hb hg⟩
theorem rowR_ok {w w1 W0 : World} {g : Nat} {v : Value} {q : Option Addr} {c : Nat} {zs : List V} (hb : Below w.heap.size w w1) (hg : w.heap.size ≤ g) (hgW : g < W0.heap.size) (hG : Grow W0 (.slice q zs.length c) zs w1) (hl : zs.length * 64 ≤ 140737488351232) : RowR w (.ok zs) (.returned (.tuple #[.agg #[.slice q zs.length c], .int .i64 0])) (w1.setCell ⟨g, 0, none⟩ v) := by
  refine ⟨q, c, rfl, ?_, put1_below hb hg⟩
  have h1 := hG.done hl 0 0 0 ⟨#[]⟩
  have h2 : Aside (fun j => j = g) w1 (w1.setCell ⟨g, 0, none⟩ v) := (Aside.refl (fun j => j = g) w1).setCell (p := ⟨g, 0, none⟩) (.inl rfl) _
  have hs : (w1.setCell ⟨g, 0, none⟩ v).heap.size = w1.heap.size := by simp [World.setCell]
  rw [hs]
  exact (h1.aside h2 (fun j hj hc => by omega)).mono fun j hj => by omega
end Go.Proofs.YtdahackmmhcjoaaGreat

/- The landed resolve: Row. -/
namespace Go.Proofs.YtdahackmmhcjoaaGreat
open Go.RowKit

attribute [local go_sem] run_store_float

set_option maxRecDepth 100000 in
set_option maxHeartbeats 4000000 in
theorem rowK9 (s t : List Col) (vs : List V) (p q v : Option Addr) (cp cq cv : Nat) (w : World) (hs : s.length * 120 ≤ 140737488351232) (ht : t.length * 120 ≤ 140737488351232) (hx : Cols w p s) (hy : Cols w q t) (hv : Items w v vs) (hws : ∀ x ∈ s, x.wf) (hwt : ∀ x ∈ t, x.wf) (hwv : ∀ x ∈ vs, x.wf) :
    Calls Tryz.prog 4 #[.agg #[.slice p s.length cp], .agg #[.slice q t.length cq], .agg #[.slice v vs.length cv]] w (RowR w (Rz.row s t vs)) := by
  obtain ⟨W0, hW0⟩ : ∃ W0, W0 = (((w.alloc (.cells #[.slice p s.length cp] 24)).alloc (.cells #[.slice q t.length cq] 24)).alloc (.cells #[.slice v vs.length cv] 27)).alloc (.cells #[.slice none 0 0] 27) := ⟨_, rfl⟩
  obtain ⟨l0, l1, l2, l3, lb, ls⟩ := al4 w (.cells #[.slice p s.length cp] 24) (.cells #[.slice q t.length cq] 24) (.cells #[.slice v vs.length cv] 27) (.cells #[.slice none 0 0] 27)
  rw [← hW0] at l0 l1 l2 l3 lb ls
  have HW0 := Lib.hid hW0
  have HB0 := Lib.hid lb
  have HS0 := Lib.hid ls
  have HCl : Hid (∀ w', Below W0.heap.size W0 w' → w'.cell? ⟨w.heap.size, 0, none⟩ = some (.slice p s.length cp) ∧ w'.cell? ⟨w.heap.size + 1, 0, none⟩ = some (.slice q t.length cq) ∧ w'.cell? ⟨w.heap.size + 1 + 1, 0, none⟩ = some (.slice v vs.length cv) ∧ w'.cell? ⟨w.heap.size + 1 + 1 + 1, 0, none⟩ = some (.slice none 0 0) ∧ w'.frozen? ⟨w.heap.size + 1 + 1 + 1, 0, none⟩ = false) := fun w' h => ⟨blk_at l0 h 0, blk_at l1 h 0, blk_at l2 h 0, blk_at l3 h 0, blk_free ((h.block _ (blk_lt l3)).trans l3) 0⟩
  have HT6 : Hid (∀ w', Below W0.heap.size W0 w' → w'.heap[w.heap.size + 1 + 1 + 1]? = some (.cells #[.slice none 0 0] 27 (0, 0))) := fun w' h => (h.block _ (blk_lt l3)).trans l3
  have HCk := Lib.hid (checkK9 s t p q cp cq W0 hs ht (hx.on lb) (hy.on lb) hws hwt)
  have HCr := Lib.hid (fun w' (h : Below w.heap.size w w') => checkRowK9 s vs p v cp cv w' hs (hx.on h) (fun j hj => by obtain ⟨u, h1, h2⟩ := hv j hj; exact ⟨u, h1.on h, h2.on h⟩))
  have HRc := Lib.hid (fun w' (h : Below w.heap.size w w') y u hu hck hg hyt => readColumnK9 s t vs p v cp cv y u w' hs (hx.on h) (fun j hj => by obtain ⟨u, h1, h2⟩ := hv j hj; exact ⟨u, h1.on h, h2.on h⟩) hu hck hg hyt hwv)
  have HGd := Lib.hid (fun hck hg c hc => Rz.one_good (s := s) (t := t) (vs := vs) hck hg hwv hwt (c := c) hc)
  have HE : Hid (Rz.row s t vs = if Rz.check s t ≠ 0 then .error (Rz.check s t) else if Rz.given s vs ≠ 0 then .error (Rz.given s vs) else Rz.allR (Rz.one s vs) t) := rfl
  obtain ⟨r, hr⟩ : ∃ r, r = Rz.row s t vs := ⟨_, rfl⟩
  rw [← hr] at HE ⊢
  obtain ⟨ec, hec⟩ : ∃ n, n = Rz.check s t := ⟨_, rfl⟩
  obtain ⟨eg, heg⟩ : ∃ n, n = Rz.given s vs := ⟨_, rfl⟩
  rw [← hec] at HCk HE HRc HGd
  rw [← heg] at HCr HE HRc HGd
  have HY := Lib.hid hy
  clear hr hec heg hW0 l0 l1 l2 l3 lb ls hx hy hv hws hwt hwv
  go_enter Tryz.func4, Tryz.ntmps4
  go_wp2_with fail
  rw [← HW0.out]
  clear HW0
  refine HCk.out.mono ?_
  rintro e w1 ⟨rfl, hb1⟩
  have HB1 := Lib.hid hb1
  have HB1w := Lib.hid (HB0.out.trans (hb1.mono HB0.out.size))
  obtain ⟨c0, c1, c2, c3, c4⟩ := HCl.out w1 hb1
  clear hb1 HCk
  by_cases h0 : ¬ ec = 0
  · have g0 : ((ec : Int) != 0) = true := bne_t (by omega)
    have HE2 : Hid (r = .error ec) := by show _ = _; rw [HE.out, if_pos h0]
    clear h0 HE
    go_wp2
    refine endR rfl rfl rfl rfl (put1_block (HT6.out w1 HB1.out)) rfl ?_
    rw [HE2.out]
    exact rowR_err HB1w.out (by omega)
  replace h0 : ec = 0 := Classical.not_not.1 h0
  have g0 : ((ec : Int) != 0) = false := bne_f (by omega)
  go_wp2_with fail
  refine (HCr.out w1 HB1w.out).mono ?_
  rintro e w2 ⟨rfl, hb2⟩
  have HB2 := Lib.hid (HB1.out.trans (hb2.mono HB1.out.size))
  have HB2w := Lib.hid (HB1w.out.trans (hb2.mono HB1w.out.size))
  clear hb2 HCr c0 c1 c2 c3 c4
  obtain ⟨c0, c1, c2, c3, c4⟩ := HCl.out w2 HB2.out
  by_cases h1 : ¬ eg = 0
  · have g1 : ((eg : Int) != 0) = true := bne_t (by omega)
    have HE2 : Hid (r = .error eg) := by show _ = _; rw [HE.out, if_neg (by omega), if_pos h1]
    clear h0 h1 HE
    go_wp2
    refine endR rfl rfl rfl rfl (put1_block (HT6.out w2 HB2.out)) rfl ?_
    rw [HE2.out]
    exact rowR_err HB2w.out (by omega)
  replace h1 : eg = 0 := Classical.not_not.1 h1
  have g1 : ((eg : Int) != 0) = false := bne_f (by omega)
  have HE2 : Hid (r = Rz.allR (Rz.one s vs) t) := by show _ = _; rw [HE.out, if_neg (by omega), if_neg (by omega)]
  have HRc2 := Lib.hid (fun w' h y u hu hyt => HRc.out w' h y u hu h0 h1 hyt)
  have HNe : Hid (∀ c ∈ t, ∀ e, Rz.one s vs c = .error e → e ≠ 0) := fun c hc e he => by
    have := HGd.out h0 h1 c hc
    rw [he] at this
    exact this
  clear HE HRc HGd h0 h1
  go_wp2_with fail
  go_loopw [10, 32] (fun v10 v32 wr => ∃ (zs : List V) (j : Nat) (q9 : Option Addr) (d9 : Nat), j ≤ t.length ∧ v32 = .int .i64 j ∧ v10 = .slice q9 j d9 ∧ Hid (zs.length = j ∧ Grow w2 (.slice q9 j d9) zs wr ∧ Rz.allR (Rz.one s vs) (t.take j) = .ok zs)) (fun _ v32 _ => t.length - (intOf v32).toNat)
  case atStart => exact ⟨[], 0, none, 0, by omega, rfl, rfl, rfl, grow_nil w2, rfl⟩
  case round =>
    obtain ⟨zs, j, q9, d9, hj, rfl, rfl, HG⟩ := hrel
    have HK2 : Hid (Below w2.heap.size w2 wr) := HG.out.2.1.keep
    have HK : Hid (Below W0.heap.size W0 wr) := HB2.out.trans (HK2.out.mono HB2.out.size)
    have HBw : Hid (Below w.heap.size w wr) := HB2w.out.trans (HK2.out.mono HB2w.out.size)
    by_cases hlt : j < t.length
    · obtain ⟨bx, ox, k, tp, tn, tc, vk, vi, vb, vt, vp, vn, vc, rfl, _, h9, hT, hV⟩ := (HY.out.on HBw.out).at j hlt
      obtain ⟨a0, a1, a2, a3, a4, a5, a6, a7, a8⟩ := h9
      have hj1 : (j : Int) < (t.length : Int) := by omega
      obtain ⟨wr1, hwr1⟩ : ∃ W, W = wr.alloc (.cells #[.string t[j].name, .int .i64 k, .slice tp tn tc, .bool t[j].has, .int .i64 vk, .int .i64 vi, .float .f64 vb, .string vt, .slice vp vn vc] 44) := ⟨_, rfl⟩
      have HBa : Hid (Below wr.heap.size wr wr1) := by rw [hwr1]; exact (Below.refl _ _).alloc (Nat.le_refl _) _
      have HWr := Lib.hid hwr1
      have HC0 : Hid (∀ o, (wr.alloc o).cell? ⟨w.heap.size, 0, none⟩ = some (.slice p s.length cp) ∧ (wr.alloc o).cell? ⟨w.heap.size + 1 + 1, 0, none⟩ = some (.slice v vs.length cv)) := fun o => by
        have h := HCl.out (wr.alloc o) (HK.out.alloc HK.out.size o)
        exact ⟨h.1, h.2.2.1⟩
      have m0 := fun o => (HC0.out o).1
      have m1 := fun o => (HC0.out o).2
      obtain ⟨rx, hrx⟩ : ∃ rx, rx = Rz.one s vs t[j] := ⟨_, rfl⟩
      have HRx := Lib.hid hrx
      have HCx : Hid (Calls Tryz.prog 11 #[.agg #[.slice p s.length cp], .agg #[.string t[j].name, .int .i64 k, .slice tp tn tc, .bool t[j].has, .int .i64 vk, .int .i64 vi, .float .f64 vb, .string vt, .slice vp vn vc], .agg #[.slice v vs.length cv]] wr1 (ValR wr1 rx)) := by
        rw [hrx]
        have hb' := HBw.out.trans (HBa.out.mono HBw.out.size)
        exact HRc2.out wr1 hb' t[j] _ ⟨k, tp, tn, tc, vk, vi, vb, vt, vp, vn, vc, rfl, hT.on HBa.out, hV.on HBa.out⟩ (List.getElem_mem hlt)
      have HT6r : Hid (∀ W', Below wr.heap.size wr W' → W'.heap[w.heap.size + 1 + 1 + 1]? = some (.cells #[.slice none 0 0] 27 (0, 0))) := fun W' hb => HT6.out W' (HK.out.trans (hb.mono HK.out.size))
      generalize t[j].name = nm at *
      generalize t[j].has = hh at *
      clear hrx hwr1 hT hV HC0
      go_wp2_with fail
      rw [← HWr.out]
      clear HWr a0 a1 a2 a3 a4 a5 a6 a7 a8 m0 m1
      refine HCx.out.mono ?_
      intro e w3 hh'
      obtain ⟨k5, i5, b5, t5, p5, n5, c5, er, he, hb3, hv3⟩ := hh'.any
      unfold cells5 at he
      subst he
      obtain ⟨W3, hW3⟩ : ∃ W, W = w3.alloc (.cells #[.int .i64 k5, .int .i64 i5, .float .f64 b5, .string t5, .slice p5 n5 c5] 35) := ⟨_, rfl⟩
      have h3w : Below wr.heap.size wr w3 := HBa.out.trans (hb3.mono HBa.out.size)
      have HB3 : Hid (Below wr.heap.size wr W3) := by rw [hW3]; exact h3w.alloc h3w.size _
      have HAn := Lib.hid hv3
      have HK3 : Hid (W3.heap[w3.heap.size]? = some (.cells #[.int .i64 k5, .int .i64 i5, .float .f64 b5, .string t5, .slice p5 n5 c5] 35 (0, 0)) ∧ Below w3.heap.size w3 W3) := by rw [hW3]; exact ⟨blk_new w3 _, (Below.refl _ _).alloc (Nat.le_refl _) _⟩
      have HW3 := Lib.hid hW3
      clear hW3 hh' hb3 hv3 HCx h3w
      cases rx with
      | error er' =>
        have hz : er' ≠ 0 := HNe.out _ (List.getElem_mem hlt) er' HRx.out.symm
        have hee : er = (er' : Nat) := HAn.out
        subst hee
        have hzb : ((er' : Int) != 0) = true := bne_t (by omega)
        have HRe : Hid (r = .error er') := by
          show _ = _
          rw [HE2.out, Rz.allR_err t j hlt HG.out.2.2 HRx.out.symm]
        have d6 := HT6r.out W3 HB3.out
        have e0 : W3.cell? ⟨w.heap.size + 1 + 1 + 1, 0, none⟩ = some (.slice none 0 0) := blk_cell d6 0
        have f0 := blk_free d6 0
        have HD6 := Lib.hid d6
        have HBW : Hid (Below w.heap.size w W3) := HBw.out.trans (HB3.out.mono HBw.out.size)
        rw [HW3.out] at e0 f0
        clear d6 hz
        go_wp2
        rw [← HW3.out]
        refine endR rfl rfl rfl rfl (put1_block HD6.out) rfl ?_
        rw [HRe.out]
        exact rowR_err HBW.out (by omega)
      | ok x9 =>
        obtain ⟨hee, hv3⟩ := HAn.out
        subst hee
        have HV3 : Hid (VOwn W3 (fun k => wr.heap.size ≤ k ∧ k < W3.heap.size) #[.int .i64 k5, .int .i64 i5, .float .f64 b5, .string t5, .slice p5 n5 c5] x9) := (hv3.under HK3.out.2 (fun k hk => hk.2)).mono fun k hk => ⟨Nat.le_trans HBa.out.size hk.1, Nat.lt_of_lt_of_le hk.2 HK3.out.2.size⟩
        have HRt : Hid (Rz.allR (Rz.one s vs) (t.take (j + 1)) = .ok (zs ++ [x9])) := Rz.allR_step t j hlt HG.out.2.2 HRx.out.symm
        obtain ⟨us, Fs, hbt⟩ := HG.out.2.1.built
        have HBt := Lib.hid hbt
        have HGr := Lib.hid HG.out.2.1
        have hzl := HG.out.1
        have HRow : Hid (∀ W', Below wr.heap.size wr W' → W'.ownsRow w2.heap.size 35 5 (.slice q9 j d9) j (flat us j)) := fun W' hb => by
          have := (hbt.on hb).row
          rw [hzl] at this
          exact this
        have f0 := blk_cell HK3.out.1 0
        have f1 := blk_cell HK3.out.1 1
        have f2 := blk_cell HK3.out.1 2
        have f3 := blk_cell HK3.out.1 3
        have f4 := blk_cell HK3.out.1 4
        have hs3 := HB3.out.size
        have HB4 : Hid (Below W3.heap.size W3 (W3.alloc (.cells #[.int .i64 k5, .int .i64 i5, .float .f64 b5, .string t5, .slice p5 n5 c5] 35))) := (Below.refl _ _).alloc (Nat.le_refl _) _
        have HB4w : Hid (Below wr.heap.size wr (W3.alloc (.cells #[.int .i64 k5, .int .i64 i5, .float .f64 b5, .string t5, .slice p5 n5 c5] 35))) := HB3.out.alloc HB3.out.size _
        have HBN : Hid ((W3.alloc (.cells #[.int .i64 k5, .int .i64 i5, .float .f64 b5, .string t5, .slice p5 n5 c5] 35)).heap[w3.heap.size + 1]? = some (.cells #[.int .i64 k5, .int .i64 i5, .float .f64 b5, .string t5, .slice p5 n5 c5] 35 (0, 0)) ∧ W3.heap.size = w3.heap.size + 1) := by
          have h := blk_new W3 (.cells #[.int .i64 k5, .int .i64 i5, .float .f64 b5, .string t5, .slice p5 n5 c5] 35)
          have h2 : W3.heap.size = w3.heap.size + 1 := by rw [HW3.out]; simp
          rw [h2] at h
          exact ⟨h, h2⟩
        have hsz := HK2.out.size
        rw [HW3.out] at f0 f1 f2 f3 f4 HBN HB4w HB4 HV3 HB3
        clear hbt hv3
        go_wp2_with (at_builtin; refine wp_more (B := w2.heap.size) (us := us) (HRow.out _ HB4w.out) (u := #[.int .i64 k5, .int .i64 i5, .float .f64 b5, .string t5, .slice p5 n5 c5]) rfl (one5 HV3.out) (ad := w3.heap.size + 1) HBN.out.1 (by omega) (by have := HBN.out.2; have := HB4w.out.size; omega) rfl rfl rfl rfl rfl ?_
                     intro g2 cap2 w4 hr4 hg4 hn4
                     have HMK : Hid ((zs ++ [x9]).length = j + 1 ∧ Grow w2 (.slice (some ⟨g2, 0, none⟩) (j + 1) cap2) (zs ++ [x9]) w4 ∧ Rz.allR (Rz.one s vs) (t.take (j + 1)) = .ok (zs ++ [x9])) := by
                       subst hzl
                       exact ⟨by simp, HGr.out.next HBt.out HB3.out HV3.out (fun _ h => h) HB4.out hr4 hg4 hn4, HRt.out⟩
                     clear hr4 hg4 hn4)
        go_roundw
        case rel => exact ⟨zs ++ [x9], j + 1, _, _, by omega, by go_num, rfl, HMK⟩
        case measure => simp [intOf]; omega
    · have hjn : ¬ (j : Int) < (t.length : Int) := by omega
      have hjj : j = t.length := by omega
      have d6 := HT6.out wr HK.out
      have e0 : wr.cell? ⟨w.heap.size + 1 + 1 + 1, 0, none⟩ = some (.slice none 0 0) := blk_cell d6 0
      have f0 := blk_free d6 0
      have HD6 := Lib.hid d6
      have HRe : Hid (r = .ok zs) := by
        have h3 := HG.out.2.2
        rw [hjj, List.take_length] at h3
        show _ = _
        rw [HE2.out, h3]
      have HZ : Hid (RowR w (.ok zs) (.returned (.tuple #[.agg #[.slice q9 j d9], .int .i64 0])) (wr.setCell ⟨w.heap.size + 1 + 1 + 1, 0, none⟩ (.slice q9 j d9))) := by
        have h1 := HG.out.1
        have h2 := HG.out.2.1
        rw [← h1] at h2 ⊢
        exact rowR_ok HBw.out (by omega) (by have := HB2.out.size; have := HS0.out; omega) h2 (by omega)
      clear d6 hjj HG HE2
      go_wp2
      refine endR rfl rfl rfl rfl (put1_block HD6.out) rfl ?_
      rw [HRe.out]
      exact HZ.out
end Go.Proofs.YtdahackmmhcjoaaGreat
