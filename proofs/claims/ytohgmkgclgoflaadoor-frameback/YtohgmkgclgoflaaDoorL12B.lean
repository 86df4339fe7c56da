/- FrameBack, walked. -/
import Derived.Test.YtohgmkgclgoflaaDoorW12B
namespace Go.Proofs.YtohgmkgclgoflaaDoor
open Go.RowKit

/-- a frame's cells, as letters, in a block -/
theorem blk_all {w : World} {g : Nat} {T : TypeId} {c0 c1 c2 c3 c4 c5 c6 c7 c8 c9 c10 : Value} (h : w.heap[g]? = some (.cells #[c0, c1, c2, c3, c4, c5, c6, c7, c8, c9, c10] T (0, 0))) : w.cell? ⟨g, 0, none⟩ = some c0 ∧ w.cell? ⟨g, 1, none⟩ = some c1 ∧ w.cell? ⟨g, 2, none⟩ = some c2 ∧ w.cell? ⟨g, 3, none⟩ = some c3 ∧ w.cell? ⟨g, 4, none⟩ = some c4 ∧ w.cell? ⟨g, 5, none⟩ = some c5 ∧ w.cell? ⟨g, 6, none⟩ = some c6 ∧ w.cell? ⟨g, 7, none⟩ = some c7 ∧ w.cell? ⟨g, 8, none⟩ = some c8 ∧ w.cell? ⟨g, 9, none⟩ = some c9 ∧ w.cell? ⟨g, 10, none⟩ = some c10 :=
  ⟨blk_cell h 0, blk_cell h 1, blk_cell h 2, blk_cell h 3, blk_cell h 4, blk_cell h 5, blk_cell h 6, blk_cell h 7, blk_cell h 8, blk_cell h 9, blk_cell h 10⟩
theorem blk_all_alloc {w : World} {g : Nat} {T : TypeId} {c0 c1 c2 c3 c4 c5 c6 c7 c8 c9 c10 : Value} (h : w.heap[g]? = some (.cells #[c0, c1, c2, c3, c4, c5, c6, c7, c8, c9, c10] T (0, 0))) : (∀ o, (w.alloc o).cell? ⟨g, 0, none⟩ = some c0) ∧ (∀ o, (w.alloc o).cell? ⟨g, 1, none⟩ = some c1) ∧ (∀ o, (w.alloc o).cell? ⟨g, 2, none⟩ = some c2) ∧ (∀ o, (w.alloc o).cell? ⟨g, 3, none⟩ = some c3) ∧ (∀ o, (w.alloc o).cell? ⟨g, 4, none⟩ = some c4) ∧ (∀ o, (w.alloc o).cell? ⟨g, 5, none⟩ = some c5) ∧ (∀ o, (w.alloc o).cell? ⟨g, 6, none⟩ = some c6) ∧ (∀ o, (w.alloc o).cell? ⟨g, 7, none⟩ = some c7) ∧ (∀ o, (w.alloc o).cell? ⟨g, 8, none⟩ = some c8) ∧ (∀ o, (w.alloc o).cell? ⟨g, 9, none⟩ = some c9) ∧ (∀ o, (w.alloc o).cell? ⟨g, 10, none⟩ = some c10) := by
  have hk : ∀ o, (w.alloc o).heap[g]? = some (.cells #[c0, c1, c2, c3, c4, c5, c6, c7, c8, c9, c10] T (0, 0)) := fun o => (blk_old w o (blk_lt h)).trans h
  exact ⟨fun o => blk_cell (hk o) 0, fun o => blk_cell (hk o) 1, fun o => blk_cell (hk o) 2, fun o => blk_cell (hk o) 3, fun o => blk_cell (hk o) 4, fun o => blk_cell (hk o) 5, fun o => blk_cell (hk o) 6, fun o => blk_cell (hk o) 7, fun o => blk_cell (hk o) 8, fun o => blk_cell (hk o) 9, fun o => blk_cell (hk o) 10⟩
theorem dec_ne {l : List UInt8} {e : Nat} (h : Fr.dec l = .error e) : e ≠ 0 := by
  unfold Fr.dec at h
  split at h
  · next e' he => injection h with h; rw [← h]; exact open_ne he
  · next b hb =>
    unfold Fr.rdF at h
    have hnb : ∀ {lim : Nat} {l : List UInt8} {e : Nat}, Fr.nb lim l = .error e → e = 5 := by
      intro lim l e h
      unfold Fr.nb at h
      split at h
      · injection h with h; omega
      · split at h
        · cases h
        · injection h with h; omega
    have hnbs : ∀ (ls : List Nat) {l : List UInt8} {e : Nat}, Fr.nbs ls l = .error e → e = 5 := by
      intro ls
      induction ls with
      | nil => intro l e h; rw [Fr.nbs] at h; cases h
      | cons a ls ih =>
        intro l e h
        rw [Fr.nbs] at h
        split at h
        · next e' he => injection h with h; rw [← h]; exact hnb he
        · split at h
          · next e' he => injection h with h; rw [← h]; exact ih he
          · cases h
    have hrdE : ∀ (m : Nat) {l : List UInt8} {e : Nat}, Fr.rdE m l = .error e → e = 5 := by
      intro m
      induction m with
      | zero => intro l e h; rw [Fr.rdE] at h; cases h
      | succ m ih =>
        intro l e h
        rw [Fr.rdE] at h
        split at h
        · next e' he => injection h with h; rw [← h]; exact hnbs _ he
        · split at h
          · next e' he => injection h with h; rw [← h]; exact ih he
          · cases h
    split at h
    · unfold Fr.rdS at h
      split at h
      · next e' he => injection h with h; rw [← h, hnb he]; decide
      · split at h
        · next e' he => injection h with h; rw [← h]; exact Sch.read_ne he
        · cases h
    · split at h
      · unfold Fr.rdD at h
        split at h
        · next e' he => injection h with h; rw [← h, hnbs _ he]; decide
        · split at h
          · injection h with h; omega
          · cases h
      · split at h
        · unfold Fr.rdI at h
          split at h
          · next e' he => injection h with h; rw [← h, hnbs _ he]; decide
          · split at h
            · next e' he => injection h with h; rw [← h, hrdE _ he]; decide
            · split at h
              · cases h
              · injection h with h; omega
        · injection h with h; omega
theorem has_some {w : World} {B : Nat} {q : Option Addr} {n cap : Nat} {l : List UInt8} (hh : Has w B (.slice q n cap) l) (h0 : l ≠ []) : ∃ g, q = some ⟨g, 0, none⟩ ∧ Mine w B g cap l ∧ n = l.length := by
  rcases hh.form with ⟨h1, h2⟩ | ⟨g, cap', h1, h2⟩
  · exact absurd h2 h0
  · injection h1 with h3 h5 h4
    subst h4
    exact ⟨g, h3, h2, h5⟩

set_option maxRecDepth 100000 in
set_option maxHeartbeats 8000000 in
theorem frameBack_any (f : Fr) (hwf : f.wf) (u : Array Value) (p : Option Addr) (c : Nat) (l : List UInt8) (hl : l.length ≤ 140737488351232) (hlc : l.length ≤ c) (w : World) (hv : Hv w) (hf : FLies w u f) (h : At w p l) :
    Calls Tryd.prog 4 #[.agg u, .slice p l.length c] w fun e w' => e = .returned (.bool true) ∧ Below w.heap.size w w' := by
  obtain ⟨sp, sc, bp, bc, ep, ec, hu, -⟩ := hf.out
  have HFl := Lib.hid hf
  rw [hu] at HFl ⊢
  unfold cells11 at HFl ⊢
  have HHv := Lib.hid hv
  have HAt := Lib.hid h
  have HWf := Lib.hid hwf
  clear hu hf hv h hwf
  obtain ⟨w0, hw0⟩ : ∃ w0, w0 = w.alloc (.cells #[.int .i64 f.kind, .int .i64 f.number, .slice sp f.cols.length sc, .int .i64 f.seq, .int .i64 f.first, .int .i64 f.rows, .slice bp f.block.length bc, .int .i64 f.index.at_, .int .i64 f.index.frames, .int .i64 f.index.rows, .slice ep f.index.entries.length ec] 33) := ⟨_, rfl⟩
  have HB0 : Hid (Below w.heap.size w w0) := by rw [hw0]; exact (Below.refl _ _).alloc (Nat.le_refl _) _
  have HK0 : Hid (w0.heap[w.heap.size]? = some (.cells #[.int .i64 f.kind, .int .i64 f.number, .slice sp f.cols.length sc, .int .i64 f.seq, .int .i64 f.first, .int .i64 f.rows, .slice bp f.block.length bc, .int .i64 f.index.at_, .int .i64 f.index.frames, .int .i64 f.index.rows, .slice ep f.index.entries.length ec] 33 (0, 0))) := by show _ = _; rw [hw0]; exact blk_new w _
  have HW0 : Hid (w.alloc (.cells #[.int .i64 f.kind, .int .i64 f.number, .slice sp f.cols.length sc, .int .i64 f.seq, .int .i64 f.first, .int .i64 f.rows, .slice bp f.block.length bc, .int .i64 f.index.at_, .int .i64 f.index.frames, .int .i64 f.index.rows, .slice ep f.index.entries.length ec] 33) = w0) := by rw [hw0]; exact rfl
  have hz0 : w0.heap.size = w.heap.size + 1 := by rw [hw0]; simp
  have HE := Lib.hid (encodeF f HWf.out #[.int .i64 f.kind, .int .i64 f.number, .slice sp f.cols.length sc, .int .i64 f.seq, .int .i64 f.first, .int .i64 f.rows, .slice bp f.block.length bc, .int .i64 f.index.at_, .int .i64 f.index.frames, .int .i64 f.index.rows, .slice ep f.index.entries.length ec] w0 (HHv.out.next HB0.out) (HFl.out.on HB0.out))
  have HDr := Lib.hid (fun w' (hb : Below w.heap.size w w') => decodeF p c l hl hlc w' (HHv.out.next hb) (HAt.out.on hb))
  have HRg := Lib.hid (fun (he : Fr.err f = 0) => And.intro (Fr.dec_run he HWf.out.2.2.1) (And.intro (Fr.norm_same (Fr.err_open he).1) (Fr.err_open he).2))
  obtain ⟨rd, hrd⟩ : ∃ rd, rd = Fr.dec l := ⟨_, rfl⟩
  rw [← hrd] at HDr
  have HRd := Lib.hid hrd
  have hr6 : 6 ≤ (Fr.run f).length := Fr.run_ge
  have HNz := Lib.hid (Fr.run_nz f)
  obtain ⟨er, her⟩ : ∃ er, er = Fr.err f := ⟨_, rfl⟩
  obtain ⟨rn, hrn⟩ : ∃ rn, rn = Fr.run f := ⟨_, rfl⟩
  rw [← her, ← hrn] at HE
  rw [← her, ← hrn] at HRg
  rw [← hrn] at hr6 HNz
  clear her hrn hw0 hrd
  go_enter Tryd.func4, Tryd.ntmps4
  go_wp2_with fail
  rw [HW0.out]
  refine HE.out.mono ?_
  rintro e w1 (⟨hz, q, cap, rfl, hh, hb1⟩ | ⟨hz, rfl, hb1⟩)
  case' inl =>
    obtain ⟨hdc, hsm, h22⟩ := HRg.out hz
    obtain ⟨g, rfl, hm, -⟩ := has_some hh (by simp)
    obtain ⟨hmid, hf0, hl0, hcap⟩ := mid_at hm
    have hcells := hm.free.2.1
    have HMid := Lib.hid hmid
    have HDc := Lib.hid hdc
    have HSm := Lib.hid hsm
    have HB1 := Lib.hid (HB0.out.trans (hb1.mono HB0.out.size))
    have hK1 := (hb1.block _ (by omega)).trans HK0.out
    obtain ⟨x0, x1, x2, x3, x4, x5, x6, x7, x8, x9, x10⟩ := blk_all hK1
    have HK1 := Lib.hid hK1
    have hol : (0 :: (rn ++ [0])).length = rn.length + 2 := by simp
    rw [hol]
    have g1 : decide ((rn.length : Int) + 2 < 7) = false := decide_eq_false (by omega)
    have g2 : decide ((2202 : Int) < (rn.length : Int) + 2) = false := decide_eq_false (by omega)
    have hlc2 : (rn.length : Int) ≤ 2200 := by omega
    have HCs : Hid (∀ i (h1 : i < rn.length), w1.cell? ⟨g, i + 1, none⟩ = some (.int .u8 (rn[i].toNat : Int))) := fun i h1 => by
      have := hcells (i + 1) (by simp; omega)
      rw [Nat.zero_add] at this
      rw [this]
      simp [List.getElem_append_left h1]
    have s1 : ∀ w', (Instr.slice 22 (.slice (some ⟨g, 0, none⟩) (rn.length + 2) cap) (some (.int .i64 1)) (some (.int .i64 ((rn.length : Int) + 1))) none).run Tryd.prog w' = .ok (.slice (some ⟨g, 1, none⟩) rn.length (cap - 1)) w' := fun w' => run_mid g rn.length cap hcap w'
    clear hh hb1 hm hmid hdc hsm h22 hcells HE HRg hz hK1 hol hr6
    go_wp2_with fail
    go_loop [8] (fun v8 => ∃ k : Nat, 1 ≤ k ∧ k ≤ rn.length + 1 ∧ v8 = .int .i64 k) (fun v8 => rn.length + 1 - (intOf v8).toNat)
    case atStart => exact ⟨1, by omega, by omega, rfl⟩
    case' round =>
      obtain ⟨k, hk1, hk, rfl⟩ := hrel
      by_cases hlt : k < rn.length + 1
      · have hlt' : (k : Int) < (rn.length : Int) + 1 := by omega
        have hb2 : (k : Int) ≤ 2201 := by omega
        obtain ⟨i, rfl⟩ : ∃ i, k = i + 1 := ⟨k - 1, by omega⟩
        have hi : i < rn.length := by omega
        have hc := HCs.out i hi
        have hnz : ((rn[i].toNat : Int) == 0) = false := by
          rw [beq_eq_false_iff_ne]
          intro hc0
          have h0 : rn[i].toNat = 0 := by omega
          exact HNz.out rn[i] (List.getElem_mem hi) (UInt8.toNat_inj.1 h0)
        go_wp2
        go_round
        case rel => exact ⟨i + 1 + 1, by omega, by omega, by go_num⟩
        case measure => simp [intOf]; omega
      have hkk : ¬ (k : Int) < (rn.length : Int) + 1 := by omega
      have hD1 := decodeF (some ⟨g, 1, none⟩) (cap - 1) rn (by omega) (by omega) w1 (HHv.out.next HB1.out) HMid.out
      rw [HDc.out] at hD1
      have HD1 := Lib.hid hD1
      clear hD1 hlt
      go_wp2_with fail
      refine HD1.out.mono ?_
      rintro e w2 ⟨u2, rfl, hf2, hb2⟩
      have hl2 := hf2.lies
      obtain ⟨sp2, sc2, bp2, bc2, ep2, ec2, hu2, -⟩ := hl2.out
      rw [hu2] at hl2
      unfold cells11 at hu2 hl2
      subst hu2
      have HB2 := Lib.hid (HB1.out.trans (hb2.mono HB1.out.size))
      have hK2 := (hb2.block _ (blk_lt HK1.out)).trans HK1.out
      obtain ⟨F, hF⟩ : ∃ F, F = Fr.norm f := ⟨_, rfl⟩
      rw [← hF] at hl2 HSm ⊢
      obtain ⟨a0, ha0⟩ : ∃ a0, a0 = F.kind := ⟨_, rfl⟩
      obtain ⟨a1, ha1⟩ : ∃ a1, a1 = F.number := ⟨_, rfl⟩
      obtain ⟨a2, ha2⟩ : ∃ a2, a2 = F.cols.length := ⟨_, rfl⟩
      obtain ⟨a3, ha3⟩ : ∃ a3, a3 = F.seq := ⟨_, rfl⟩
      obtain ⟨a4, ha4⟩ : ∃ a4, a4 = F.first := ⟨_, rfl⟩
      obtain ⟨a5, ha5⟩ : ∃ a5, a5 = F.rows := ⟨_, rfl⟩
      obtain ⟨a6, ha6⟩ : ∃ a6, a6 = F.block.length := ⟨_, rfl⟩
      obtain ⟨a7, ha7⟩ : ∃ a7, a7 = F.index.at_ := ⟨_, rfl⟩
      obtain ⟨a8, ha8⟩ : ∃ a8, a8 = F.index.frames := ⟨_, rfl⟩
      obtain ⟨a9, ha9⟩ : ∃ a9, a9 = F.index.rows := ⟨_, rfl⟩
      obtain ⟨a10, ha10⟩ : ∃ a10, a10 = F.index.entries.length := ⟨_, rfl⟩
      rw [← ha0, ← ha1, ← ha2, ← ha3, ← ha4, ← ha5, ← ha6, ← ha7, ← ha8, ← ha9, ← ha10] at hl2 ⊢
      clear ha0 ha1 ha2 ha3 ha4 ha5 ha6 ha7 ha8 ha9 ha10
      obtain ⟨w3, hw3⟩ : ∃ w3, w3 = w2.alloc (.cells #[.int .i64 a0, .int .i64 a1, .slice sp2 a2 sc2, .int .i64 a3, .int .i64 a4, .int .i64 a5, .slice bp2 a6 bc2, .int .i64 a7, .int .i64 a8, .int .i64 a9, .slice ep2 a10 ec2] 33) := ⟨_, rfl⟩
      have HB23 : Hid (Below w2.heap.size w2 w3) := by rw [hw3]; exact (Below.refl _ _).alloc (Nat.le_refl _) _
      have hX := blk_new w2 (.cells #[.int .i64 a0, .int .i64 a1, .slice sp2 a2 sc2, .int .i64 a3, .int .i64 a4, .int .i64 a5, .slice bp2 a6 bc2, .int .i64 a7, .int .i64 a8, .int .i64 a9, .slice ep2 a10 ec2] 33)
      rw [← hw3] at hX
      obtain ⟨y0, y1, y2, y3, y4, y5, y6, y7, y8, y9, y10⟩ := blk_all hX
      have hZ := blk_all_alloc hK2
      obtain ⟨z0, z1, z2, z3, z4, z5, z6, z7, z8, z9, z10⟩ := hZ
      have HB3 := Lib.hid (HB2.out.trans (HB23.out.mono HB2.out.size))
      have hS := sameF F f #[.int .i64 a0, .int .i64 a1, .slice sp2 a2 sc2, .int .i64 a3, .int .i64 a4, .int .i64 a5, .slice bp2 a6 bc2, .int .i64 a7, .int .i64 a8, .int .i64 a9, .slice ep2 a10 ec2] #[.int .i64 f.kind, .int .i64 f.number, .slice sp f.cols.length sc, .int .i64 f.seq, .int .i64 f.first, .int .i64 f.rows, .slice bp f.block.length bc, .int .i64 f.index.at_, .int .i64 f.index.frames, .int .i64 f.index.rows, .slice ep f.index.entries.length ec] w3 (hl2.on HB23.out) (HFl.out.on HB3.out)
      rw [HSm.out] at hS
      have HS := Lib.hid hS
      have HW3 : Hid (w2.alloc (.cells #[.int .i64 a0, .int .i64 a1, .slice sp2 a2 sc2, .int .i64 a3, .int .i64 a4, .int .i64 a5, .slice bp2 a6 bc2, .int .i64 a7, .int .i64 a8, .int .i64 a9, .slice ep2 a10 ec2] 33) = w3) := by rw [hw3]; exact rfl
      clear hf2 hb2 hl2 hF hK2 hX hw3 hS HD1 HSm
      go_wp2_with fail
      rw [HW3.out]
      refine HS.out.mono ?_
      rintro e w5 ⟨rfl, hb5⟩
      have HB5 := Lib.hid (HB3.out.trans (hb5.mono HB3.out.size))
      clear hb5 HS HW3
      go_wp2_with fail
  case' inr =>
    have HB5 := Lib.hid (HB0.out.trans (hb1.mono HB0.out.size))
    have g0 : ((er : Int) == 0) = false := beq_f (by omega)
    obtain ⟨w5, hw5⟩ : ∃ w5, w5 = w1 := ⟨_, rfl⟩
    subst hw5
    clear hb1 HE HRg hr6
    go_wp2_with fail
  all_goals
    refine (HDr.out w5 HB5.out).mono ?_
    intro e w6 h6
    cases rd with
    | error er2 =>
      obtain ⟨rfl, hb6⟩ := h6
      have hne := dec_ne HRd.out.symm
      have g6 : ((er2 : Int) != 0) = true := by rw [bne_iff_ne]; omega
      have HB6 := Lib.hid (HB5.out.trans (hb6.mono HB5.out.size))
      obtain ⟨w7, hw7⟩ : ∃ w7, w7 = w6.alloc (.cells #[.int .i64 0, .int .i64 0, .slice none 0 0, .int .i64 0, .int .i64 0, .int .i64 0, .slice none 0 0, .int .i64 0, .int .i64 0, .int .i64 0, .slice none 0 0] 33) := ⟨_, rfl⟩
      have hb67 : Below w6.heap.size w6 w7 := by rw [hw7]; exact (Below.refl _ _).alloc (Nat.le_refl _) _
      have HB7 := Lib.hid (HB6.out.trans (hb67.mono HB6.out.size))
      have hX := blk_new w6 (.cells #[.int .i64 0, .int .i64 0, .slice none 0 0, .int .i64 0, .int .i64 0, .int .i64 0, .slice none 0 0, .int .i64 0, .int .i64 0, .int .i64 0, .slice none 0 0] 33)
      rw [← hw7] at hX
      have HX := Lib.hid hX
      have HW7 : Hid (w6.alloc (.cells #[.int .i64 0, .int .i64 0, .slice none 0 0, .int .i64 0, .int .i64 0, .int .i64 0, .slice none 0 0, .int .i64 0, .int .i64 0, .int .i64 0, .slice none 0 0] 33) = w7) := by rw [hw7]; exact rfl
      clear hb6 hne hb67 hX hw7 HDr
      go_wp2_with fail
      rw [HW7.out]
      refine (live12 w7 (HHv.out.next HB7.out)).mono ?_
      rintro e w8 ⟨rfl, hb8⟩
      have hX8 := (hb8.block _ (blk_lt HX.out)).trans HX.out
      obtain ⟨t0, t1, t2, t3, t4, t5, t6, t7, t8, t9, t10⟩ := blk_all hX8
      have HX8 := Lib.hid hX8
      have HB8 := Lib.hid (HB7.out.trans (hb8.mono HB7.out.size))
      clear hb8 hX8
      go_wp2_with fail
      refine (plain_0 w8).mono ?_
      rintro e w9 ⟨rfl, hb9⟩
      have s0 : w9.cell? ⟨w6.heap.size, 0, none⟩ = some (.int .i64 0) := blk_cell ((hb9.block _ (blk_lt HX8.out)).trans HX8.out) 0
      have HB9 := Lib.hid (HB8.out.trans (hb9.mono HB8.out.size))
      clear hb9
      go_wp2
      go_ret
      exact ⟨rfl, HB9.out⟩
    | ok F2 =>
      obtain ⟨u6, rfl, hf6, hb6⟩ := h6
      obtain ⟨q1, q2, q3, q4, q5⟩ := Fr.dec_ok HRd.out.symm
      have hl22 : l.length ≤ 2200 := by rw [← q2]; exact (Fr.err_open q1).2
      have hl6 := hf6.lies
      obtain ⟨sp3, sc3, bp3, bc3, ep3, ec3, hu6, -⟩ := hl6.out
      rw [hu6] at hl6
      unfold cells11 at hu6 hl6
      subst hu6
      obtain ⟨d0, hd0⟩ : ∃ d0, d0 = F2.kind := ⟨_, rfl⟩
      obtain ⟨d1, hd1⟩ : ∃ d1, d1 = F2.number := ⟨_, rfl⟩
      obtain ⟨d2, hd2⟩ : ∃ d2, d2 = F2.cols.length := ⟨_, rfl⟩
      obtain ⟨d3, hd3⟩ : ∃ d3, d3 = F2.seq := ⟨_, rfl⟩
      obtain ⟨d4, hd4⟩ : ∃ d4, d4 = F2.first := ⟨_, rfl⟩
      obtain ⟨d5, hd5⟩ : ∃ d5, d5 = F2.rows := ⟨_, rfl⟩
      obtain ⟨d6, hd6⟩ : ∃ d6, d6 = F2.block.length := ⟨_, rfl⟩
      obtain ⟨d7, hd7⟩ : ∃ d7, d7 = F2.index.at_ := ⟨_, rfl⟩
      obtain ⟨d8, hd8⟩ : ∃ d8, d8 = F2.index.frames := ⟨_, rfl⟩
      obtain ⟨d9, hd9⟩ : ∃ d9, d9 = F2.index.rows := ⟨_, rfl⟩
      obtain ⟨d10, hd10⟩ : ∃ d10, d10 = F2.index.entries.length := ⟨_, rfl⟩
      rw [← hd0, ← hd1, ← hd2, ← hd3, ← hd4, ← hd5, ← hd6, ← hd7, ← hd8, ← hd9, ← hd10] at hl6 ⊢
      clear hd0 hd1 hd2 hd3 hd4 hd5 hd6 hd7 hd8 hd9 hd10
      have HB6 := Lib.hid (HB5.out.trans (hb6.mono HB5.out.size))
      obtain ⟨w7, hw7⟩ : ∃ w7, w7 = w6.alloc (.cells #[.int .i64 d0, .int .i64 d1, .slice sp3 d2 sc3, .int .i64 d3, .int .i64 d4, .int .i64 d5, .slice bp3 d6 bc3, .int .i64 d7, .int .i64 d8, .int .i64 d9, .slice ep3 d10 ec3] 33) := ⟨_, rfl⟩
      have hb67 : Below w6.heap.size w6 w7 := by rw [hw7]; exact (Below.refl _ _).alloc (Nat.le_refl _) _
      have HB7 := Lib.hid (HB6.out.trans (hb67.mono HB6.out.size))
      have hE := encodeF F2 q4 #[.int .i64 d0, .int .i64 d1, .slice sp3 d2 sc3, .int .i64 d3, .int .i64 d4, .int .i64 d5, .slice bp3 d6 bc3, .int .i64 d7, .int .i64 d8, .int .i64 d9, .slice ep3 d10 ec3] w7 (HHv.out.next HB7.out) (hl6.on hb67)
      rw [q1, q2] at hE
      have HE2 := Lib.hid hE
      have HW7 : Hid (w6.alloc (.cells #[.int .i64 d0, .int .i64 d1, .slice sp3 d2 sc3, .int .i64 d3, .int .i64 d4, .int .i64 d5, .slice bp3 d6 bc3, .int .i64 d7, .int .i64 d8, .int .i64 d9, .slice ep3 d10 ec3] 33) = w7) := by rw [hw7]; exact rfl
      clear hE hf6 hb6 hl6 hb67 hw7 q1 q2 q3 q4 q5 HDr HRd
      go_wp2_with fail
      rw [HW7.out]
      refine HE2.out.mono ?_
      rintro e w8 (⟨-, q8, cap8, rfl, hh8, hb8⟩ | ⟨hz8, -⟩)
      rotate_left
      · exact absurd rfl hz8
      obtain ⟨g8, rfl, hm8, -⟩ := has_some hh8 (by simp)
      obtain ⟨hmid8, -, -, hcap8⟩ := mid_at hm8
      have hol8 : (0 :: (l ++ [0])).length = l.length + 2 := by simp
      rw [hol8]
      have HMid8 := Lib.hid hmid8
      have HB8 := Lib.hid (HB7.out.trans (hb8.mono HB7.out.size))
      have s8 : ∀ w', (Instr.slice 22 (.slice (some ⟨g8, 0, none⟩) (l.length + 2) cap8) (some (.int .i64 1)) (some (.int .i64 ((l.length : Int) + 1))) none).run Tryd.prog w' = .ok (.slice (some ⟨g8, 1, none⟩) l.length (cap8 - 1)) w' := fun w' => run_mid g8 l.length cap8 hcap8 w'
      have hl22' : (l.length : Int) ≤ 2200 := by omega
      clear hh8 hb8 hm8 hmid8 hol8 HE2 HW7
      go_wp2_with fail
      refine (live12 w8 (HHv.out.next HB8.out)).mono ?_
      rintro e w9 ⟨rfl, hb9⟩
      have HB9 := Lib.hid (HB8.out.trans (hb9.mono HB8.out.size))
      have hS := same_any (some ⟨g8, 1, none⟩) p (cap8 - 1) c l l hl w9 (HMid8.out.on hb9) (HAt.out.on HB9.out)
      rw [beq_self_eq_true] at hS
      have HS := Lib.hid hS
      clear hb9 hS
      go_wp2_with fail
      refine HS.out.mono ?_
      rintro e w10 ⟨rfl, n10, hw10⟩
      have HB10 : Hid (Below w.heap.size w w10) := by rw [hw10]; exact below_drewN HB9.out n10
      clear hw10 HS
      go_wp2
      go_ret
      exact ⟨rfl, HB10.out⟩
end Go.Proofs.YtohgmkgclgoflaaDoor
