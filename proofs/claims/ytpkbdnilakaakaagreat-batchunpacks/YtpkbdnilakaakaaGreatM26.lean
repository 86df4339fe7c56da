/- WRowD, WRowV, RowsC: put together. -/
import Derived.Test.YtpkbdnilakaakaaGreatM24
import Derived.Test.YtpkbdnilakaakaaGreatM25

/- The document's DecodeValue, Decode of rows. -/
namespace Go.Proofs.YtpkbdnilakaakaaGreat
open Go.RowKit

attribute [local go_sem] run_store_float

/-- what Decode answers: the row in blocks of its own and the place behind it, or the error alone -/
def RowA (w : World) (r : Except Nat (List V × Nat)) (e : Ending) (w' : World) : Prop := match r with
  | .error er => e = .returned (.tuple #[.agg #[.slice none 0 0], .int .i64 0, .int .i64 (er : Nat)]) ∧ Below w.heap.size w w'
  | .ok (vs, k) => ∃ q c, e = .returned (.tuple #[.agg #[.slice q vs.length c], .int .i64 (k : Nat), .int .i64 0]) ∧ VOwn w' (fun k => w.heap.size ≤ k ∧ k < w'.heap.size) (cells5 0 0 0 ⟨#[]⟩ q vs.length c) (.mk 0 0 0 ⟨#[]⟩ vs) ∧ Below w.heap.size w w'

/-- one value is read, then the other columns' -/
def stepRd (s : List Col) (l : List UInt8) : Except Nat (V × Nat) → Except Nat (List V × Nat)
  | .error e => .error e
  | .ok (v, j) => glue [v] j (Rw.rd s (l.drop j))
theorem rd_cons (c : Col) (s : List Col) (l : List UInt8) : Rw.rd (c :: s) l = stepRd s l (Sch.rdV c.ty l) := by
  rw [Rw.rd]
  cases Sch.rdV c.ty l with
  | error e => rfl
  | ok p =>
    obtain ⟨v, j⟩ := p
    rw [stepRd]
    dsimp only
    cases Rw.rd s (l.drop j) with
    | error e => rfl
    | ok q => rfl

/-- while the row is read: the schema stands in the first block, the answer's place in the next, the row in the block B; the values ys are there -/
structure MakingR (w : World) (C0 : Array Value) (B : Nat) (ys : List V) (v : Value) (wr : World) : Prop where
  built : ∃ us Fs, Built wr (B + 1) v ys.length us Fs ys
  b0 : wr.heap[w.heap.size]? = some (.cells C0 24 (0, 0))
  b1 : wr.heap[w.heap.size + 1]? = some (.cells #[.slice none 0 0] 41 (0, 0))
  b2 : wr.heap[B]? = some (.cells #[v] 41 (0, 0))
  below : Below w.heap.size w wr
  far : w.heap.size + 2 ≤ B
  size : B + 1 ≤ wr.heap.size

section
variable {w wr : World} {C0 : Array Value} {B : Nat} {ys : List V} {v : Value}
theorem makingR_start {w1 : World} (h0 : w1.heap[w.heap.size]? = some (.cells C0 24 (0, 0))) (h1 : w1.heap[w.heap.size + 1]? = some (.cells #[.slice none 0 0] 41 (0, 0))) (hs : w.heap.size + 2 ≤ w1.heap.size) (hb : Below w.heap.size w w1) :
    MakingR w C0 w1.heap.size [] (.slice none 0 0) (w1.alloc (.cells #[.slice none 0 0] 41)) := by
  refine ⟨⟨_, _, built_nil _ _⟩, ?_, ?_, blk_new w1 _, hb.alloc (by omega) _, hs, by simp⟩
  · rw [blk_old _ _ (by omega)]; exact h0
  · rw [blk_old _ _ (by omega)]; exact h1
theorem MakingR.next {w2 w3 w4 : World} {u : Array Value} {F : Nat → Prop} {g cap : Nat} {us : Nat → Array Value} {Fs : Nat → Nat → Prop} {y : V} (h : MakingR w C0 B ys v wr) (hbt : Built wr (B + 1) v ys.length us Fs ys) (hb : Below wr.heap.size wr w2) (hx : VOwn w2 F u y)
    (hF : ∀ k, F k → wr.heap.size ≤ k ∧ k < w2.heap.size) (hb3 : Below w2.heap.size w2 w3)
    (hr : w4.ownsRow (B + 1) 44 5 (.slice (some ⟨g, 0, none⟩) (ys.length + 1) cap) (ys.length + 1) (flat us ys.length ++ u.toList)) (hg : w3.grownBy w4 v.ownBlock) (hn : v.ownBlock = some g ∨ g = w3.heap.size) :
    (∀ n, n ≤ B → w4.heap[n]? = wr.heap[n]?) ∧ MakingR w C0 B (ys ++ [y]) (.slice (some ⟨g, 0, none⟩) (ys.length + 1) cap) (w4.setCell ⟨B, 0, none⟩ (.slice (some ⟨g, 0, none⟩) (ys.length + 1) cap)) := by
  have hs := h.size
  have hf := h.far
  have hs2 := hb.size
  have hs3 := hb3.size
  have hst := hbt.step hb hx hF hb3 hs hr hg hn
  have hold : ∀ n, n ≤ B → w4.heap[n]? = wr.heap[n]? := fun n hn => by
    rw [hg.block _ (by omega) (fun hc => by have := (hbt.lt _ hc.symm).1; omega), hb3.block _ (by omega), hb.block _ (by omega)]
  have hb4 : Below w.heap.size w w4 := ((h.below.trans (hb.mono (by omega))).trans (hb3.mono (by omega))).grown hg (by omega) (fun k hk => by have := (hbt.lt k hk).1; omega)
  refine ⟨hold, ⟨⟨(fun n => if n = ys.length then u else us n), (fun n => if n = ys.length then F else Fs n), ?_⟩, ?_, ?_, ?_, ?_, hf, ?_⟩⟩
  · rw [List.length_append, List.length_singleton]
    exact hst.set ⟨B, 0, none⟩ _ (by show B < _; omega)
  · exact blk_set_far ((hold _ (by omega)).trans h.b0) _ _ (by show w.heap.size ≠ B; omega)
  · exact blk_set_far ((hold _ (by omega)).trans h.b1) _ _ (by show w.heap.size + 1 ≠ B; omega)
  · rw [blk_set ((hold B (Nat.le_refl _)).trans h.b2)]
    rfl
  · exact hb4.setCell (by show w.heap.size ≤ B; omega) _
  · have := hg.size
    simp [World.setCell]
    omega
/-- the answer's place is written: the row is there -/
theorem putR_fin {w1 : World} {q : Option Addr} {n c : Nat} {x : V} {F : Nat → Prop} (h1 : w1.heap[w.heap.size + 1]? = some (.cells #[.slice none 0 0] 41 (0, 0))) (hb : Below w.heap.size w w1) (hv : VOwn w1 F (cells5 0 0 0 ⟨#[]⟩ q n c) x) (hF : ∀ j, F j → w.heap.size + 2 ≤ j ∧ j < w1.heap.size) :
    (w1.setCell ⟨w.heap.size + 1, 0, none⟩ (.slice q n c)).heap[w.heap.size + 1]? = some (.cells #[.slice q n c] 41 (0, 0)) ∧ VOwn (w1.setCell ⟨w.heap.size + 1, 0, none⟩ (.slice q n c)) (fun j => w.heap.size ≤ j ∧ j < (w1.setCell ⟨w.heap.size + 1, 0, none⟩ (.slice q n c)).heap.size) (cells5 0 0 0 ⟨#[]⟩ q n c) x ∧ Below w.heap.size w (w1.setCell ⟨w.heap.size + 1, 0, none⟩ (.slice q n c)) := by
  have hA : Aside (fun k => k = w.heap.size + 1) w1 (w1.setCell ⟨w.heap.size + 1, 0, none⟩ (.slice q n c)) := (Aside.refl (fun k => k = w.heap.size + 1) w1).setCell (p := ⟨w.heap.size + 1, 0, none⟩) (.inl rfl) _
  refine ⟨?_, ?_, ?_⟩
  · rw [blk_set h1 0 _]
    rfl
  · exact (hv.aside hA (fun k hk hc => by have := hF k hk; omega)).mono (fun j hj => ⟨by have := hF j hj; omega, by have := hF j hj; have := hA.size; omega⟩)
  · exact hb.setCell (by show w.heap.size ≤ w.heap.size + 1; omega) _
end

set_option maxRecDepth 100000 in
set_option maxHeartbeats 4000000 in
theorem refDecode8 (s : List Col) (p : Option Addr) (cp : Nat) (l : List UInt8) (q : Option Addr) (cq : Nat) (a : Int) (hl : l.length ≤ 140737488351232) (hlc : l.length ≤ cq) (w : World) (hsl : s.length * 120 ≤ 140737488351232) (hcp : s.length ≤ cp) (hx : Cols w p s) (hw : ∀ c ∈ s, c.wf) (hat : At w q l) (ha1 : -9223372036854775808 ≤ a) (ha2 : a ≤ 9223372036854775807) :
    Calls Tryz.prog 24 #[.agg #[.slice p s.length cp], .slice q l.length cq, .int .i64 a] w (RowA w (Rw.read s l a)) := by
  obtain ⟨W0, hW0⟩ : ∃ W0, W0 = (w.alloc (.cells #[.slice p s.length cp] 24)).alloc (.cells #[.slice none 0 0] 41) := ⟨_, rfl⟩
  have HB0 : Hid (Below w.heap.size w W0) := by rw [hW0]; exact ((Below.refl _ _).alloc (Nat.le_refl _) _).alloc (by simp) _
  have HW0 := Lib.hid hW0
  have HC := Lib.hid (refCheck7 s p cp W0 hsl hcp (hx.on HB0.out) hw)
  obtain ⟨R, hR⟩ : ∃ R, R = Rw.read s l a := ⟨_, rfl⟩
  have HR := Lib.hid (hR.trans (by rw [Rw.read] : Rw.read s l a = _))
  rw [← hR]
  have HTo := Lib.hid (fun h => Rw.types_ok (s := s) h)
  have HOp := Lib.hid (fun h => (Sch.err_open (s := s) h).2.1)
  obtain ⟨er, her⟩ : ∃ er, er = Sch.err s := ⟨_, rfl⟩
  rw [← her] at HC HR HTo HOp
  have HX := Lib.hid hx
  have HA := Lib.hid hat
  clear hW0 hR hx hw her hat
  go_enter Tryz.func24, Tryz.ntmps24
  go_wp2_with fail
  rw [← HW0.out]
  refine HC.out.mono ?_
  rintro e w1 ⟨rfl, hb1⟩
  have z0 : w1.heap[w.heap.size]? = some (.cells #[.slice p s.length cp] 24 (0, 0)) := by
    rw [hb1.block _ (by rw [HW0.out]; simp; omega), HW0.out]
    exact blk_first w _ _
  have z1 : w1.heap[w.heap.size + 1]? = some (.cells #[.slice none 0 0] 41 (0, 0)) := by
    rw [hb1.block _ (by rw [HW0.out]; simp), HW0.out]
    exact blk_second w _ _
  have hs1 : w.heap.size + 2 ≤ w1.heap.size := by
    have h1 := hb1.size
    have h2 : W0.heap.size = w.heap.size + 2 := by rw [HW0.out]; simp
    omega
  have HBw1 := Lib.hid (HB0.out.trans (hb1.mono HB0.out.size))
  have r0 : w1.cell? ⟨w.heap.size + 1, 0, none⟩ = some (.slice none 0 0) := blk_cell z1 0
  have rf0 := blk_free z1 0
  have HZ1 := Lib.hid z1
  have HZ0 := Lib.hid z0
  have HFail : Hid (∀ er : Nat, R = .error er → ∀ w', (w1.setCell ⟨w.heap.size + 1, 0, none⟩ (.slice none 0 0)) = w' → w'.heap[w.heap.size + 1]? = some (.cells #[.slice none 0 0] 41 (0, 0)) ∧ RowA w R (.returned (.tuple #[.agg #[.slice none 0 0], .int .i64 0, .int .i64 (er : Nat)])) w') := fun er he w' hw' => by
    have h := putR_fin (q := none) (n := 0) (c := 0) (F := fun _ => False) (x := .mk 0 0 0 ⟨#[]⟩ []) HZ1.out HBw1.out VOwn.none (fun _ h => h.elim)
    rw [hw'] at h
    rw [he]
    exact ⟨h.1, rfl, h.2.2⟩
  clear hb1 HC HW0 z0 z1
  by_cases h0 : ¬ er = 0
  · have g0 : ((er : Int) != 0) = true := bne_t (by omega)
    have HE : Hid (R = .error er) := by show _ = _; rw [HR.out, if_pos h0]
    have HF := Lib.hid (HFail.out er HE.out)
    clear HR h0 HOp HFail
    go_wp2
    refine bodyPost_ret (results_row3 rfl _ _ (w.heap.size + 1) _ _ _ _ rfl (HF.out _ rfl).1 Tryz.underlying41 rfl (by kernel_rfl)) rfl ?_
    exact (HF.out _ rfl).2
  have g0 : ((er : Int) != 0) = false := bne_f (by omega)
  have HR1 := Lib.hid (HR.out.trans (if_neg h0))
  have hn16 : s.length ≤ 16 := HOp.out (by omega)
  have HT := Lib.hid (HTo.out (by omega))
  clear HR HOp h0 HTo
  by_cases hn : a < 0
  · have HE : Hid (R = .error 30) := by show _ = _; rw [HR1.out, if_pos (.inl hn)]
    have HF := Lib.hid (HFail.out 30 HE.out)
    clear HR1 HFail
    go_wp2
    refine bodyPost_ret (results_row3 rfl _ _ (w.heap.size + 1) _ _ _ _ rfl (HF.out _ rfl).1 Tryz.underlying41 rfl (by kernel_rfl)) rfl ?_
    exact (HF.out _ rfl).2
  by_cases hg : (l.length : Int) < a
  · have HE : Hid (R = .error 30) := by show _ = _; rw [HR1.out, if_pos (.inr hg)]
    have HF := Lib.hid (HFail.out 30 HE.out)
    clear HR1 HFail
    go_wp2
    refine bodyPost_ret (results_row3 rfl _ _ (w.heap.size + 1) _ _ _ _ rfl (HF.out _ rfl).1 Tryz.underlying41 rfl (by kernel_rfl)) rfl ?_
    exact (HF.out _ rfl).2
  have HR2 := Lib.hid (HR1.out.trans (if_neg (by omega)))
  obtain ⟨m, rfl⟩ : ∃ m : Nat, a = (m : Int) := ⟨a.toNat, by omega⟩
  rw [Int.toNat_natCast] at HR2
  have hml : m ≤ l.length := by omega
  clear HR1 ha1 ha2
  have HMk := Lib.hid (makingR_start HZ0.out HZ1.out hs1 HBw1.out)
  obtain ⟨B, hB⟩ : ∃ B, B = w1.heap.size := ⟨_, rfl⟩
  have HBq := Lib.hid hB
  have gn : decide ((m : Int) < 0) = false := decide_eq_false hn
  have gg : decide (l.length < m) = false := decide_eq_false (by omega)
  clear hB HFail HZ0 HZ1 hn hg
  go_wp2_with fail
  go_loopw [11, 12] (fun v11 v12 wr => ∃ (ys : List V) (n : Nat) (qv : Option Addr) (dv : Nat), ys.length ≤ s.length ∧ v12 = .int .i64 ys.length ∧ v11 = .int .i64 ((m : Int) + (n : Int)) ∧ m + n ≤ l.length ∧ Hid (MakingR w #[.slice p s.length cp] w1.heap.size ys (.slice qv ys.length dv) wr ∧ Rw.rd s (l.drop m) = glue ys n (Rw.rd (s.drop ys.length) (l.drop (m + n))))) (fun _ v12 _ => s.length - (intOf v12).toNat)
  case atStart =>
    refine ⟨[], 0, none, 0, by simp, rfl, by go_num, hml, HMk.out, ?_⟩
    rw [List.length_nil, List.drop_zero, Nat.add_zero]
    cases Rw.rd s (l.drop m) with
    | error e => rfl
    | ok q => simp [glue]
  case round =>
    clear r0 rf0 HMk
    obtain ⟨ys, n, qv, dv, hys, rfl, rfl, hnl, HK⟩ := hrel
    have HM := Lib.hid HK.out.1
    have HG2 := Lib.hid HK.out.2
    have hfar := HM.out.far
    have hsz := HM.out.size
    have n0 : wr.cell? ⟨w.heap.size, 0, none⟩ = some (.slice p s.length cp) := blk_cell HM.out.b0 0
    by_cases hlt : ys.length < s.length
    · have hlt' : (ys.length : Int) < (s.length : Int) := by omega
      obtain ⟨bx, ox, k, tp, tn, tc, vk, vi, vb, vt, vp, vn, vc, rfl, hbx, h9, hty, -⟩ := HX.out.at ys.length hlt
      obtain ⟨-, a1, a2, -⟩ := h9.on HM.out.below
      have htc := HT.out _ (List.getElem_mem hlt)
      have HC := refValueAt7 q l cq hl hlc _ 1 (m + n) wr _ htc (hty.on HM.out.below) hnl (HA.out.on HM.out.below)
      rw [show ((m + n : Nat) : Int) = (m : Int) + (n : Int) by omega] at HC
      replace HC := Lib.hid HC
      unfold cells2 at HC
      have HTl : Hid (∀ l' e, Sch.rdV s[ys.length].ty l' = .error e → e ≠ 0) := fun l' e => rdV_err _ 1 l' e htc
      have HVl : Hid (∀ l' v j, Sch.rdV s[ys.length].ty l' = .ok (v, j) → j ≤ l'.length) := fun l' v j hv => by
        obtain ⟨h1, ⟨r, h2⟩, -⟩ := Sch.rdV_ok _ 1 l' v j htc hv
        rw [h2, List.length_append, h1]
        omega
      have HSt0 : Hid (Rw.rd s (l.drop m) = glue ys n (stepRd (s.drop (ys.length + 1)) (l.drop (m + n)) (Sch.rdV s[ys.length].ty (l.drop (m + n))))) := by
        show _ = _
        rw [HG2.out, List.drop_eq_getElem_cons hlt, rd_cons]
      obtain ⟨T, hT⟩ : ∃ T, T = s[ys.length].ty := ⟨_, rfl⟩
      rw [← hT] at HC HTl HVl HSt0
      obtain ⟨C, hC⟩ : ∃ C, C = Sch.rdV T (l.drop (m + n)) := ⟨_, rfl⟩
      have HCr := Lib.hid hC
      rw [← hC] at HC HSt0
      clear hT hC HK hty h9 htc hlt HG2
      go_wp2_with fail
      refine HC.out.mono ?_
      intro e w2 hr
      cases C with
      | error er =>
        obtain ⟨rfl, hb2⟩ := hr
        have her := HTl.out _ er HCr.out.symm
        have g2 : ((er : Int) != 0) = true := bne_t (by omega)
        have HE : Hid (R = .error er) := by show _ = _; rw [HR2.out, HSt0.out]; rfl
        obtain ⟨w3, hw3⟩ : ∃ w3, w3 = w2.alloc (.cells #[.int .i64 0, .int .i64 0, .float .f64 0, .string ⟨#[]⟩, .slice none 0 0] 44) := ⟨_, rfl⟩
        have hb3 : Below wr.heap.size wr w3 := by rw [hw3]; exact hb2.alloc hb2.size _
        have hz1 : w3.heap[w.heap.size + 1]? = some (.cells #[.slice none 0 0] 41 (0, 0)) := (hb3.block _ (by omega)).trans HM.out.b1
        have HF := Lib.hid (putR_fin (q := none) (n := 0) (c := 0) (F := fun _ => False) (x := .mk 0 0 0 ⟨#[]⟩ []) hz1 (HM.out.below.trans (hb3.mono (by omega))) VOwn.none (fun _ h => h.elim))
        have r0 : w3.cell? ⟨w.heap.size + 1, 0, none⟩ = some (.slice none 0 0) := blk_cell hz1 0
        have rf0 := blk_free hz1 0
        have HW3 := Lib.hid hw3
        rw [hw3] at r0 rf0
        unfold cells5
        clear hz1 hb3 hb2 hw3 HC HSt0 HM HR2 her HTl HVl HCr n0 a1 a2
        go_wp2
        rw [← HW3.out]
        refine bodyPost_ret (results_row3 rfl _ _ (w.heap.size + 1) _ _ _ _ rfl HF.out.1 Tryz.underlying41 rfl (by kernel_rfl)) rfl ?_
        rw [HE.out]
        exact ⟨rfl, HF.out.2.2⟩
      | ok vk =>
        obtain ⟨y, kj⟩ := vk
        obtain ⟨u', rfl, hv, hb2⟩ := hr
        obtain ⟨k', i', b', t', p', n', c', rfl⟩ := hv.shape
        obtain ⟨us, Fs, hbt⟩ := HM.out.built
        have hkj := HVl.out _ y kj HCr.out.symm
        rw [List.length_drop] at hkj
        have HV := Lib.hid hv
        have HB2w := Lib.hid hb2
        have HBt := Lib.hid hbt
        have c2 : ∀ o, (w2.alloc o).cell? ⟨w1.heap.size, 0, none⟩ = some (.slice qv ys.length dv) := fun o => by
          have h1 : Below wr.heap.size wr (w2.alloc o) := hb2.alloc hb2.size o
          exact cell_on h1 (blk_cell HM.out.b2 0)
        have hsz2 : w1.heap.size + 1 ≤ w2.heap.size := Nat.le_trans hsz hb2.size
        have HSt2 : Hid (Rw.rd s (l.drop m) = glue (ys ++ [y]) (n + kj) (Rw.rd (s.drop (ys ++ [y]).length) (l.drop (m + (n + kj))))) := by
          show _ = _
          rw [HSt0.out, stepRd, glue_glue, List.length_append, List.length_singleton, List.drop_drop, Nat.add_assoc m]
        rw [show ((m + n + kj : Nat) : Int) = (m : Int) + (n : Int) + (kj : Int) by omega]
        clear hv hb2 hbt HC HSt0 HTl HVl HCr n0 a1 a2
        unfold cells5 at HV ⊢
        have HB3 : Hid (Below w2.heap.size w2 ((w2.alloc (.cells #[.int .i64 k', .int .i64 i', .float .f64 b', .string t', .slice p' n' c'] 44)).alloc (.cells #[.int .i64 k', .int .i64 i', .float .f64 b', .string t', .slice p' n' c'] 44))) := ((Below.refl _ _).alloc (Nat.le_refl _) _).alloc (by simp) _
        go_wp2_with (at_builtin; refine wp_more (B := w1.heap.size + 1) (us := us) ((HBt.out.on HB2w.out).on HB3.out).row (u := #[.int .i64 k', .int .i64 i', .float .f64 b', .string t', .slice p' n' c']) rfl (one5 HV.out) (ad := w2.heap.size + 1) (blk_second w2 _ _) (by omega) (by simp; omega) rfl rfl rfl rfl rfl ?_
                     intro g2 cap2 w4 hr4 hg4 hn4
                     obtain ⟨hold, hmk⟩ := HM.out.next HBt.out HB2w.out HV.out (fun _ h => h) HB3.out hr4 hg4 hn4
                     have f4 := blk_free ((hold _ (Nat.le_refl _)).trans HM.out.b2) 0
                     have g4 : w4.cell? ⟨w1.heap.size, 0, none⟩ = some (.slice qv ys.length dv) := blk_cell ((hold _ (Nat.le_refl _)).trans HM.out.b2) 0
                     have HMK := Lib.hid hmk
                     clear hold hmk hr4 hg4 hn4)
        go_roundw
        case rel => exact ⟨ys ++ [y], n + kj, some ⟨g2, 0, none⟩, cap2, by simp; omega, by simp, by go_num, by omega, ⟨by simpa using HMK.out, HSt2.out⟩⟩
        case measure => simp [intOf]; omega
    · have hjn : ¬ (ys.length : Int) < (s.length : Int) := by omega
      have HR3 : Hid (R = if 1024 < n then .error 2 else .ok (ys, m + n)) := by
        show _ = _
        rw [HR2.out, HG2.out, List.drop_eq_nil_of_le (by omega)]
        simp [Rw.rd, glue]
      have r0 : wr.cell? ⟨w.heap.size + 1, 0, none⟩ = some (.slice none 0 0) := blk_cell HM.out.b1 0
      have rf0 := blk_free HM.out.b1 0
      have e0 : wr.cell? ⟨w1.heap.size, 0, none⟩ = some (.slice qv ys.length dv) := blk_cell HM.out.b2 0
      by_cases h2 : 1024 < n
      · have g2 : (1024 : Int) < (m : Int) + (n : Int) - (m : Int) := by omega
        have HE : Hid (R = .error 2) := by show _ = _; rw [HR3.out, if_pos h2]
        have HF := Lib.hid (putR_fin (q := none) (n := 0) (c := 0) (F := fun _ => False) (x := .mk 0 0 0 ⟨#[]⟩ []) HM.out.b1 HM.out.below VOwn.none (fun _ h => h.elim))
        clear HK HG2 HR2 HR3 h2 hlt HM
        go_wp2
        refine bodyPost_ret (results_row3 rfl _ _ (w.heap.size + 1) _ _ _ _ rfl HF.out.1 Tryz.underlying41 rfl (by kernel_rfl)) rfl ?_
        rw [HE.out]
        exact ⟨rfl, HF.out.2.2⟩
      · have g2 : ¬ (1024 : Int) < (m : Int) + (n : Int) - (m : Int) := by omega
        have HE : Hid (R = .ok (ys, m + n)) := by show _ = _; rw [HR3.out, if_neg h2]
        obtain ⟨us, Fs, hbt⟩ := HM.out.built
        obtain ⟨pv, cv, hev, hown⟩ := hbt.done (by omega) 0 0 0 ⟨#[]⟩
        injection hev with e1 e2 e3
        subst e1 e3
        have HF := Lib.hid (putR_fin HM.out.b1 HM.out.below hown (fun j hj => ⟨by omega, hj.2⟩))
        clear HK HG2 HR2 HR3 h2 hlt HM hbt hown
        go_wp2
        refine bodyPost_ret (results_row3 rfl _ _ (w.heap.size + 1) _ _ _ _ rfl HF.out.1 Tryz.underlying41 rfl (by kernel_rfl)) rfl ?_
        rw [HE.out]
        exact ⟨_, _, by rw [show ((m + n : Nat) : Int) = (m : Int) + (n : Int) by omega]; rfl, HF.out.2.1, HF.out.2.2⟩
end Go.Proofs.YtpkbdnilakaakaaGreat

/- The document's DecodeValue. -/
namespace Go.Proofs.YtpkbdnilakaakaaGreat
open Go.RowKit

attribute [local go_sem] run_store_float

/-- a value that is answered, the place behind it, or an error alone -/
def ValA (w : World) (r : Except Nat (V × Nat)) (e : Ending) (w' : World) : Prop := match r with
  | .error er => e = .returned (.tuple #[.agg (cells5 0 0 0 ⟨#[]⟩ none 0 0), .int .i64 0, .int .i64 (er : Nat)]) ∧ Below w.heap.size w w'
  | .ok (v, k) => ∃ u, e = .returned (.tuple #[.agg u, .int .i64 (k : Nat), .int .i64 0]) ∧ VOwn w' (fun k => w.heap.size ≤ k ∧ k < w'.heap.size) u v ∧ Below w.heap.size w w'

end Go.Proofs.YtpkbdnilakaakaaGreat

/- What the laws ask of package row's functions. -/
namespace Go.Proofs.YtpkbdnilakaakaaGreat
open Go.RowKit

/-- a row that is handed over: its values lie, as those of a value that holds them -/
def RLies (w : World) (q : Option Addr) (c : Nat) (vs : List V) : Prop := VLies w (cells5 0 0 0 ⟨#[]⟩ q vs.length c) (.mk 0 0 0 ⟨#[]⟩ vs) ∧ ∀ v ∈ vs, v.wf
theorem RLies.on {w w' : World} {q : Option Addr} {c : Nat} {vs : List V} (h : RLies w q c vs) (hb : Below w.heap.size w w') : RLies w' q c vs := ⟨h.1.on hb, h.2⟩
theorem RLies.items {w : World} {q : Option Addr} {c : Nat} {vs : List V} (h : RLies w q c vs) : vs.length * 64 ≤ 140737488351232 ∧ vs.length ≤ c ∧ Items w q vs := by
  obtain ⟨p, c', he, h1, h2, h3⟩ := h.1.open
  unfold cells5 at he
  simp only [Array.mk.injEq, List.cons.injEq, Value.slice.injEq, and_true, true_and] at he
  obtain ⟨rfl, rfl⟩ := he
  exact ⟨h1, h2, h3⟩
/-- a schema that is handed over -/
structure SchL (w : World) (p : Option Addr) (c : Nat) (s : List Col) : Prop where
  len : s.length * 120 ≤ 140737488351232
  cap : s.length ≤ c
  cols : Cols w p s
  wf : ∀ x ∈ s, x.wf
theorem SchL.on {w w' : World} {p : Option Addr} {c : Nat} {s : List Col} (h : SchL w p c s) (hb : Below w.heap.size w w') : SchL w' p c s := ⟨h.len, h.cap, h.cols.on hb, h.wf⟩

/-- bytes that are answered beside an error -/
def Told (w : World) (er : Nat) (l : List UInt8) (e : Ending) (w' : World) : Prop := ∃ q cap, e = .returned (.tuple #[.slice q l.length cap, .int .i64 (er : Nat)]) ∧ At w' q l ∧ l.length ≤ cap ∧ Below w.heap.size w w'
end Go.Proofs.YtpkbdnilakaakaaGreat
