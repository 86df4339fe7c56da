/- WRowT, WRowD, WRowV, RowsC: put together. -/
import Derived.Test.YtphmmmgdpbokkaaM23
import Derived.Test.YtphmmmgdpbokkaaM22

/- The document's Check, Encode of rows. -/
namespace Go.Proofs.Ytphmmmgdpbokkaa
open Go.RowKit

attribute [local go_sem] run_store_float

theorem colsErr_chk : ∀ (s : List Col) (vs : List V), vs.length = s.length → Rw.colsErr s vs = 0 → ∀ v ∈ vs, chk 1 v = 0
  | [], [], _, _, v, hv => by cases hv
  | [], _ :: _, h, _, _, _ => by simp at h
  | _ :: _, [], h, _, _, _ => by simp at h
  | c :: s, x :: vs, h, he, v, hv => by
    rw [Rw.colsErr] at he
    split at he
    · next h0 =>
      rcases List.mem_cons.1 hv with rfl | hv
      · exact (Rw.vErr_zero h0).2.1
      · exact colsErr_chk s vs (by simpa using h) he v hv
    · next h0 => exact absurd he h0
theorem colsErr_drop (s : List Col) (vs : List V) (j : Nat) (h1 : j < s.length) (h2 : j < vs.length) : Rw.colsErr (s.drop j) (vs.drop j) = if Rw.vErr s[j].ty vs[j] = 0 then Rw.colsErr (s.drop (j + 1)) (vs.drop (j + 1)) else Rw.vErr s[j].ty vs[j] := by
  rw [List.drop_eq_getElem_cons h1, List.drop_eq_getElem_cons h2, Rw.colsErr]

set_option maxRecDepth 100000 in
set_option maxHeartbeats 1000000 in
theorem refCheck8 (s : List Col) (p : Option Addr) (cp : Nat) (vs : List V) (q : Option Addr) (cq : Nat) (w : World) (hl : s.length * 120 ≤ 140737488351232) (hcp : s.length ≤ cp) (hx : Cols w p s) (hw : ∀ c ∈ s, c.wf) (hv : Items w q vs) (hvw : ∀ v ∈ vs, v.wf) (hvl : vs.length * 64 ≤ 140737488351232) :
    Calls Try.prog 13 #[.agg #[.slice p s.length cp], .agg #[.slice q vs.length cq]] w fun e w' => e = .returned (.int .i64 (Rw.err s vs : Nat)) ∧ Below w.heap.size w w' := by
  obtain ⟨W0, hW0⟩ : ∃ W0, W0 = (w.alloc (.cells #[.slice p s.length cp] 39)).alloc (.cells #[.slice q vs.length cq] 41) := ⟨_, rfl⟩
  have HB0 : Hid (Below w.heap.size w W0) := by rw [hW0]; exact ((Below.refl _ _).alloc (Nat.le_refl _) _).alloc (by simp) _
  have HY : Hid (W0.cell? ⟨w.heap.size, 0, none⟩ = some (.slice p s.length cp) ∧ W0.cell? ⟨w.heap.size + 1, 0, none⟩ = some (.slice q vs.length cq)) := by rw [hW0]; exact ⟨by simp, by simp⟩
  have HW0 := Lib.hid hW0
  have HC := Lib.hid (refCheck7 s p cp W0 hl hcp (hx.on HB0.out) hw)
  have HOp := Lib.hid (fun h => Sch.err_open (s := s) h)
  obtain ⟨R, hR⟩ : ∃ R, R = Rw.err s vs := ⟨_, rfl⟩
  have HR := Lib.hid (hR.trans (by rw [Rw.err] : Rw.err s vs = _))
  rw [← hR]
  obtain ⟨er, her⟩ : ∃ er, er = Sch.err s := ⟨_, rfl⟩
  rw [← her] at HC HR HOp
  have HX := Lib.hid hx
  have HV := Lib.hid hv
  have HVW := Lib.hid hvw
  clear hW0 hR hx hw her hv hvw
  go_enter Try.func13, Try.ntmps13
  go_wp2_with fail
  rw [← HW0.out]
  clear HW0
  refine HC.out.mono ?_
  rintro e w1 ⟨rfl, hb1⟩
  have HB1 := Lib.hid hb1
  have HBw1 := Lib.hid (HB0.out.trans (hb1.mono HB0.out.size))
  clear hb1 HC
  by_cases h0 : ¬ er = 0
  · have g0 : ((er : Int) != 0) = true := bne_t (by omega)
    have HE : Hid (R = er) := by show _ = _; rw [HR.out, if_pos h0]
    clear HR h0 HOp
    go_wp2
    go_ret
    exact ⟨by rw [HE.out]; rfl, HBw1.out⟩
  have g0 : ((er : Int) != 0) = false := bne_f (by omega)
  have HR1 := Lib.hid (HR.out.trans (if_neg h0))
  have hn16 : s.length ≤ 16 := (HOp.out (by omega)).2.1
  clear HR HOp h0
  have n0 := cell_on HB1.out HY.out.1
  have n1 := cell_on HB1.out HY.out.2
  by_cases h1 : ¬ vs.length = s.length
  · have g1 : ((vs.length : Int) != (s.length : Int)) = true := bne_t (by omega)
    have HE : Hid (R = 80) := by show _ = _; rw [HR1.out, if_pos h1]
    clear HR1 h1
    go_wp2
    go_ret
    exact ⟨by rw [HE.out]; rfl, HBw1.out⟩
  have g1 : ((vs.length : Int) != (s.length : Int)) = false := bne_f (by omega)
  have HR2 := Lib.hid (HR1.out.trans (if_neg h1))
  have HVS : Hid (vs.length = s.length) := by show _ = _; omega
  have hn16v : vs.length ≤ 16 := by have := HVS.out; omega
  clear HR1 h1
  go_wp2_with fail
  go_loopw [6, 7] (fun v6 _ wr => ∃ j : Nat, j ≤ vs.length ∧ v6 = .int .i64 j ∧ Hid (Below W0.heap.size W0 wr ∧ Rw.colsErr s vs = Rw.colsErr (s.drop j) (vs.drop j))) (fun v6 _ _ => vs.length - (intOf v6).toNat)
  case atStart => exact ⟨0, by omega, rfl, HB1.out, rfl⟩
  case round =>
    clear n0 n1
    obtain ⟨j, hj, rfl, HL⟩ := hrel
    have hbw : Below w.heap.size w wr := HB0.out.trans (HL.out.1.mono HB0.out.size)
    have n0 : wr.cell? ⟨w.heap.size, 0, none⟩ = some (.slice p s.length cp) := cell_on HL.out.1 HY.out.1
    have n1 : wr.cell? ⟨w.heap.size + 1, 0, none⟩ = some (.slice q vs.length cq) := cell_on HL.out.1 HY.out.2
    by_cases hlt : j < vs.length
    · have hls : j < s.length := by have := HVS.out; omega
      have hj1 : (j : Int) < (vs.length : Int) := by omega
      have hj2 : (j : Int) < (s.length : Int) := by omega
      obtain ⟨bx, ox, k, tp, tn, tc, vk, vi, vb, vt, vp, vn, vc, rfl, hbx, h9, hty, -⟩ := HX.out.at j hls
      obtain ⟨-, a1, a2, -⟩ := h9.on hbw
      obtain ⟨ux, hvx, hix⟩ := HV.out j hlt
      obtain ⟨by', oy, ky, iy, fy, ty, qy, ny, cy, rfl, _, rfl, c0, c1, c2, c3, c4⟩ := (hix.on hbw).lies
      have HC : Hid (∀ w', Below w.heap.size w w' → Calls Try.prog 27 #[.agg #[.int .i64 k, .slice tp tn tc], .agg #[.int .i64 ky, .int .i64 iy, .float .f64 fy, .string ty, .slice qy ny cy]] w' fun e w'' => e = .returned (.int .i64 (Rw.vErr s[j].ty vs[j] : Nat)) ∧ Below w'.heap.size w' w'') := fun w' hb => refValue8 _ _ w' _ _ (hty.on hb) (hvx.on hb)
      have HAt2 := Lib.hid (HL.out.2.trans (colsErr_drop s vs j hls hlt))
      have HBw := Lib.hid hbw
      have HBW := Lib.hid HL.out.1
      obtain ⟨z, hz⟩ : ∃ z, z = Rw.vErr s[j].ty vs[j] := ⟨_, rfl⟩
      rw [← hz] at HC HAt2
      clear h9 hty hbw HL hz hvx hix
      go_wp2_with fail
      go_region_held3 (fun w' => w'.cell? ⟨bx, ox + j * 9 + 1, none⟩ = some (.int .i64 k) ∧ w'.cell? ⟨bx, ox + j * 9 + 2, none⟩ = some (.slice tp tn tc) ∧ w'.cell? ⟨by', oy + j * 5, none⟩ = some (.int .i64 ky) ∧ w'.cell? ⟨by', oy + j * 5 + 1, none⟩ = some (.int .i64 iy) ∧ w'.cell? ⟨by', oy + j * 5 + 2, none⟩ = some (.float .f64 fy) ∧ w'.cell? ⟨by', oy + j * 5 + 3, none⟩ = some (.string ty) ∧ w'.cell? ⟨by', oy + j * 5 + 4, none⟩ = some (.slice qy ny cy) ∧ w'.cell? ⟨w.heap.size, 0, none⟩ = some (.slice (some ⟨bx, ox, none⟩) s.length cp) ∧ w'.cell? ⟨w.heap.size + 1, 0, none⟩ = some (.slice (some ⟨by', oy, none⟩) vs.length cq)) (go_keep) (first
        | (go_at_call 27; refine (HC.out _ (below_drewN HBw.out _)).mono ?_; rintro e w4 ⟨rfl, hb4⟩; have hb5 := below_via (w := wr) hb4 (by rfl) (by rfl) (by rfl) (by rfl); have z1 := cell_on hb5 a1; have z2 := cell_on hb5 a2; have y0 := cell_on hb5 c0; have y1 := cell_on hb5 c1; have y2 := cell_on hb5 c2; have y3 := cell_on hb5 c3; have y4 := cell_on hb5 c4; have z9 := cell_on hb5 n0; have z10 := cell_on hb5 n1; have HB4 := Lib.hid hb5; clear hb4 hb5))
      clear z1 z2 y0 y1 y2 y3 y4 z9 z10 a1 a2 c0 c1 c2 c3 c4 n0 n1
      by_cases hz0 : z = 0
      · have hzb : ((z : Int) != 0) = false := by rw [hz0]; rfl
        have HN : Hid (Below W0.heap.size W0 w4 ∧ Rw.colsErr s vs = Rw.colsErr (s.drop (j + 1)) (vs.drop (j + 1))) := ⟨HBW.out.trans (HB4.out.mono HBW.out.size), by rw [HAt2.out, if_pos hz0]⟩
        clear HB4 HC hz0 HAt2
        go_wp2
        go_roundw
        case rel => exact ⟨j + 1, by omega, by go_num, HN⟩
        case measure => simp [intOf]; omega
      · have hzb : ((z : Int) != 0) = true := by rw [bne_iff_ne]; omega
        have HE : Hid (R = z) := by
          show _ = _
          have e : Rw.colsErr s vs = z := by rw [HAt2.out, if_neg hz0]
          rw [HR2.out, if_pos (by rw [e]; exact hz0), e]
        have HF := Lib.hid (HBw.out.trans (HB4.out.mono HBw.out.size))
        clear HB4 HC hz0 HAt2 HR2
        go_wp2
        go_ret
        exact ⟨by rw [HE.out]; rfl, HF.out⟩
    · have hjn : ¬ (j : Int) < (vs.length : Int) := by omega
      have hc0 : Rw.colsErr s vs = 0 := by rw [HL.out.2, List.drop_eq_nil_of_le (by have := HVS.out; omega), List.drop_eq_nil_of_le (by omega)]; rfl
      have HR3 := Lib.hid (HR2.out.trans (if_neg (by rw [hc0]; simp)))
      have hck := colsErr_chk s vs HVS.out hc0
      have HC := Lib.hid (refBytesOf8 vs q cq wr (by omega) (HV.out.on hbw) (fun v hv => ⟨hck v hv, HVW.out v hv⟩))
      have HBw := Lib.hid hbw
      have hLn := bytes_small vs (by omega) hck
      obtain ⟨L, hL⟩ : ∃ L, L = Rw.bytes vs := ⟨_, rfl⟩
      rw [← hL] at HC HR3 hLn
      clear HL hbw hL hc0 HR2 hck
      go_wp2_with fail
      refine HC.out.mono ?_
      rintro e w2 ⟨q2, cap, rfl, hq, hb2⟩
      have HB2 := Lib.hid (HBw.out.trans (hb2.mono HBw.out.size))
      clear hq hb2
      by_cases h2 : 1024 < L.length
      · have g2 : (1024 : Int) < (L.length : Int) := by omega
        have HE : Hid (R = 2) := by show _ = _; rw [HR3.out, if_pos h2]
        clear HR3 h2
        go_wp2
        go_ret
        exact ⟨by rw [HE.out]; rfl, HB2.out⟩
      · have g2 : ¬ (1024 : Int) < (L.length : Int) := by omega
        have HE : Hid (R = 0) := by show _ = _; rw [HR3.out, if_neg h2]
        clear HR3 h2
        go_wp2
        go_ret
        exact ⟨by rw [HE.out]; rfl, HB2.out⟩

end Go.Proofs.Ytphmmmgdpbokkaa

/- The document's DecodeValue, Decode of rows. -/
namespace Go.Proofs.Ytphmmmgdpbokkaa
open Go.RowKit

attribute [local go_sem] run_store_float

/-- what Decode answers: the row in blocks of its own and the place behind it, or the error alone -/
def RowA (w : World) (r : Except Nat (List V × Nat)) (e : Ending) (w' : World) : Prop := match r with
  | .error er => e = .returned (.tuple #[.agg #[.slice none 0 0], .int .i64 0, .int .i64 (er : Nat)]) ∧ Below w.heap.size w w'
  | .ok (vs, k) => ∃ q c, e = .returned (.tuple #[.agg #[.slice q vs.length c], .int .i64 (k : Nat), .int .i64 0]) ∧ VOwn w' (fun k => w.heap.size ≤ k ∧ k < w'.heap.size) (cells5 0 0 0 ⟨#[]⟩ q vs.length c) (.mk 0 0 0 ⟨#[]⟩ vs) ∧ Below w.heap.size w w'

/-- one value is read, then the other columns' -/
def stepRd (s : List Col) (l : List UInt8) : Except Nat (V × Nat) → Except Nat (List V × Nat)
  | .error e => .error e
  | .ok (v, j) => glue [v] j (Rw.rd s (l.drop j))
theorem rd_cons (c : Col) (s : List Col) (l : List UInt8) : Rw.rd (c :: s) l = stepRd s l (Sch.rdV c.ty l) := by
  rw [Rw.rd]
  cases Sch.rdV c.ty l with
  | error e => rfl
  | ok p =>
    obtain ⟨v, j⟩ := p
    rw [stepRd]
    dsimp only
    cases Rw.rd s (l.drop j) with
    | error e => rfl
    | ok q => rfl

/-- while the row is read: the schema stands in the first block, the answer's place in the next, the row in the block B; the values ys are there -/
structure MakingR (w : World) (C0 : Array Value) (B : Nat) (ys : List V) (v : Value) (wr : World) : Prop where
  built : ∃ us Fs, Built wr (B + 1) v ys.length us Fs ys
  b0 : wr.heap[w.heap.size]? = some (.cells C0 39 (0, 0))
  b1 : wr.heap[w.heap.size + 1]? = some (.cells #[.slice none 0 0] 41 (0, 0))
  b2 : wr.heap[B]? = some (.cells #[v] 41 (0, 0))
  below : Below w.heap.size w wr
  far : w.heap.size + 2 ≤ B
  size : B + 1 ≤ wr.heap.size

section
variable {w wr : World} {C0 : Array Value} {B : Nat} {ys : List V} {v : Value}
theorem makingR_start {w1 : World} (h0 : w1.heap[w.heap.size]? = some (.cells C0 39 (0, 0))) (h1 : w1.heap[w.heap.size + 1]? = some (.cells #[.slice none 0 0] 41 (0, 0))) (hs : w.heap.size + 2 ≤ w1.heap.size) (hb : Below w.heap.size w w1) :
    MakingR w C0 w1.heap.size [] (.slice none 0 0) (w1.alloc (.cells #[.slice none 0 0] 41)) := by
  refine ⟨⟨_, _, built_nil _ _⟩, ?_, ?_, blk_new w1 _, hb.alloc (by omega) _, hs, by simp⟩
  · rw [blk_old _ _ (by omega)]; exact h0
  · rw [blk_old _ _ (by omega)]; exact h1
theorem MakingR.next {w2 w3 w4 : World} {u : Array Value} {F : Nat → Prop} {g cap : Nat} {us : Nat → Array Value} {Fs : Nat → Nat → Prop} {y : V} (h : MakingR w C0 B ys v wr) (hbt : Built wr (B + 1) v ys.length us Fs ys) (hb : Below wr.heap.size wr w2) (hx : VOwn w2 F u y)
    (hF : ∀ k, F k → wr.heap.size ≤ k ∧ k < w2.heap.size) (hb3 : Below w2.heap.size w2 w3)
    (hr : w4.ownsRow (B + 1) 33 5 (.slice (some ⟨g, 0, none⟩) (ys.length + 1) cap) (ys.length + 1) (flat us ys.length ++ u.toList)) (hg : w3.grownBy w4 v.ownBlock) (hn : v.ownBlock = some g ∨ g = w3.heap.size) :
    (∀ n, n ≤ B → w4.heap[n]? = wr.heap[n]?) ∧ MakingR w C0 B (ys ++ [y]) (.slice (some ⟨g, 0, none⟩) (ys.length + 1) cap) (w4.setCell ⟨B, 0, none⟩ (.slice (some ⟨g, 0, none⟩) (ys.length + 1) cap)) := by
  have hs := h.size
  have hf := h.far
  have hs2 := hb.size
  have hs3 := hb3.size
  have hst := hbt.step hb hx hF hb3 hs hr hg hn
  have hold : ∀ n, n ≤ B → w4.heap[n]? = wr.heap[n]? := fun n hn => by
    rw [hg.block _ (by omega) (fun hc => by have := (hbt.lt _ hc.symm).1; omega), hb3.block _ (by omega), hb.block _ (by omega)]
  have hb4 : Below w.heap.size w w4 := ((h.below.trans (hb.mono (by omega))).trans (hb3.mono (by omega))).grown hg (by omega) (fun k hk => by have := (hbt.lt k hk).1; omega)
  refine ⟨hold, ⟨⟨(fun n => if n = ys.length then u else us n), (fun n => if n = ys.length then F else Fs n), ?_⟩, ?_, ?_, ?_, ?_, hf, ?_⟩⟩
  · rw [List.length_append, List.length_singleton]
    exact hst.set ⟨B, 0, none⟩ _ (by show B < _; omega)
  · exact blk_set_far ((hold _ (by omega)).trans h.b0) _ _ (by show w.heap.size ≠ B; omega)
  · exact blk_set_far ((hold _ (by omega)).trans h.b1) _ _ (by show w.heap.size + 1 ≠ B; omega)
  · rw [blk_set ((hold B (Nat.le_refl _)).trans h.b2)]
    rfl
  · exact hb4.setCell (by show w.heap.size ≤ B; omega) _
  · have := hg.size
    simp [World.setCell]
    omega
/-- the answer's place is written: the row is there -/
theorem putR_fin {w1 : World} {q : Option Addr} {n c : Nat} {x : V} {F : Nat → Prop} (h1 : w1.heap[w.heap.size + 1]? = some (.cells #[.slice none 0 0] 41 (0, 0))) (hb : Below w.heap.size w w1) (hv : VOwn w1 F (cells5 0 0 0 ⟨#[]⟩ q n c) x) (hF : ∀ j, F j → w.heap.size + 2 ≤ j ∧ j < w1.heap.size) :
    (w1.setCell ⟨w.heap.size + 1, 0, none⟩ (.slice q n c)).heap[w.heap.size + 1]? = some (.cells #[.slice q n c] 41 (0, 0)) ∧ VOwn (w1.setCell ⟨w.heap.size + 1, 0, none⟩ (.slice q n c)) (fun j => w.heap.size ≤ j ∧ j < (w1.setCell ⟨w.heap.size + 1, 0, none⟩ (.slice q n c)).heap.size) (cells5 0 0 0 ⟨#[]⟩ q n c) x ∧ Below w.heap.size w (w1.setCell ⟨w.heap.size + 1, 0, none⟩ (.slice q n c)) := by
  have hA : Aside (fun k => k = w.heap.size + 1) w1 (w1.setCell ⟨w.heap.size + 1, 0, none⟩ (.slice q n c)) := (Aside.refl (fun k => k = w.heap.size + 1) w1).setCell (p := ⟨w.heap.size + 1, 0, none⟩) (.inl rfl) _
  refine ⟨?_, ?_, ?_⟩
  · rw [blk_set h1 0 _]
    rfl
  · exact (hv.aside hA (fun k hk hc => by have := hF k hk; omega)).mono (fun j hj => ⟨by have := hF j hj; omega, by have := hF j hj; have := hA.size; omega⟩)
  · exact hb.setCell (by show w.heap.size ≤ w.heap.size + 1; omega) _
end

end Go.Proofs.Ytphmmmgdpbokkaa

/- The document's DecodeValue. -/
namespace Go.Proofs.Ytphmmmgdpbokkaa
open Go.RowKit

attribute [local go_sem] run_store_float

/-- a value that is answered, the place behind it, or an error alone -/
def ValA (w : World) (r : Except Nat (V × Nat)) (e : Ending) (w' : World) : Prop := match r with
  | .error er => e = .returned (.tuple #[.agg (cells5 0 0 0 ⟨#[]⟩ none 0 0), .int .i64 0, .int .i64 (er : Nat)]) ∧ Below w.heap.size w w'
  | .ok (v, k) => ∃ u, e = .returned (.tuple #[.agg u, .int .i64 (k : Nat), .int .i64 0]) ∧ VOwn w' (fun k => w.heap.size ≤ k ∧ k < w'.heap.size) u v ∧ Below w.heap.size w w'

set_option maxRecDepth 100000 in
set_option maxHeartbeats 4000000 in
theorem refDecodeValue8 (y : Ty) (u : Array Value) (l : List UInt8) (q : Option Addr) (cq : Nat) (a : Int) (hl : l.length ≤ 140737488351232) (hlc : l.length ≤ cq) (w : World) (hy : TLies w u y) (hat : At w q l) (_ : -9223372036854775808 ≤ a) (_ : a ≤ 9223372036854775807) :
    Calls Try.prog 18 #[.agg u, .slice q l.length cq, .int .i64 a] w (ValA w (Rw.readV y l a)) := by
  obtain ⟨k, ys⟩ := y
  obtain ⟨p, cp, rfl, -⟩ := hy.open
  obtain ⟨W0, hW0⟩ : ∃ W0, W0 = (w.alloc (.cells (cells2 k p ys.length cp) 24)).alloc (.cells (cells5 0 0 0 ⟨#[]⟩ none 0 0) 33) := ⟨_, rfl⟩
  have HB0 : Hid (Below w.heap.size w W0) := by rw [hW0]; exact ((Below.refl _ _).alloc (Nat.le_refl _) _).alloc (by simp) _
  have HW0 := Lib.hid hW0
  have HC := Lib.hid (refCheckType7 _ W0 _ (hy.on HB0.out))
  obtain ⟨R, hR⟩ : ∃ R, R = Rw.readV (.mk k ys) l a := ⟨_, rfl⟩
  have HR := Lib.hid (hR.trans (by rw [Rw.readV] : Rw.readV (.mk k ys) l a = _))
  rw [← hR]
  have HVa := Lib.hid (fun m w' (hb : Below w.heap.size w w') h1 h2 => refValueAt7 q l cq hl hlc _ 1 m w' _ h1 (hy.on hb) h2 (hat.on hb))
  obtain ⟨er, her⟩ : ∃ er, er = Ty.check 1 (.mk k ys) := ⟨_, rfl⟩
  rw [← her] at HC HR HVa
  clear hW0 hR hy her hat
  unfold cells5 cells2 at *
  go_enter Try.func18, Try.ntmps18
  go_wp2_with fail
  rw [← HW0.out]
  refine HC.out.mono ?_
  rintro e w1 ⟨rfl, hb1⟩
  have z0 : w1.heap[w.heap.size]? = some (.cells #[.int .i64 k, .slice p ys.length cp] 24 (0, 0)) := by
    rw [hb1.block _ (by rw [HW0.out]; simp; omega), HW0.out]
    exact blk_first w _ _
  have z1 : w1.heap[w.heap.size + 1]? = some (.cells (cells5 0 0 0 ⟨#[]⟩ none 0 0) 33 (0, 0)) := by
    rw [hb1.block _ (by rw [HW0.out]; simp), HW0.out]
    exact blk_second w _ _
  have hs1 : w.heap.size + 2 ≤ w1.heap.size := by
    have h1 := hb1.size
    have h2 : W0.heap.size = w.heap.size + 2 := by rw [HW0.out]; simp
    omega
  have HBw1 := Lib.hid (HB0.out.trans (hb1.mono HB0.out.size))
  have HZ1 := Lib.hid z1
  have n0 : w1.cell? ⟨w.heap.size, 0, none⟩ = some (.int .i64 k) := blk_cell z0 0
  have n1 : w1.cell? ⟨w.heap.size, 1, none⟩ = some (.slice p ys.length cp) := blk_cell z0 1
  have r0 : w1.cell? ⟨w.heap.size + 1, 0, none⟩ = some (.int .i64 0) := blk_cell z1 0
  have r1 : w1.cell? ⟨w.heap.size + 1, 1, none⟩ = some (.int .i64 0) := blk_cell z1 1
  have r2 : w1.cell? ⟨w.heap.size + 1, 2, none⟩ = some (.float .f64 0) := blk_cell z1 2
  have r3 : w1.cell? ⟨w.heap.size + 1, 3, none⟩ = some (.string ⟨#[]⟩) := blk_cell z1 3
  have r4 : w1.cell? ⟨w.heap.size + 1, 4, none⟩ = some (.slice none 0 0) := blk_cell z1 4
  have s0 := blk_free z1 0
  have s1 := blk_free z1 1
  have s2 := blk_free z1 2
  have s3 := blk_free z1 3
  have s4 := blk_free z1 4
  have HF := Lib.hid (put5_fin (q := none) (n := 0) (c := 0) (F := fun _ => False) (v := .mk 0 0 0 ⟨#[]⟩ []) z1 HBw1.out hs1 (Below.refl _ _) (Nat.le_refl _) VOwn.none (fun _ h => h.elim))
  clear hb1 HC HW0 z0 z1
  by_cases h0 : ¬ er = 0
  · have g0 : ((er : Int) != 0) = true := bne_t (by omega)
    have HE : Hid (R = .error er) := by show _ = _; rw [HR.out, if_pos h0]
    clear HR h0 HVa
    go_wp2
    refine bodyPost_ret (results_row3 rfl _ _ (w.heap.size + 1) _ _ _ _ rfl HF.out.1 Try.underlying33 rfl (by kernel_rfl)) rfl ?_
    rw [HE.out]
    exact ⟨rfl, HF.out.2.2⟩
  have g0 : ((er : Int) != 0) = false := bne_f (by omega)
  have HR1 := Lib.hid (HR.out.trans (if_neg h0))
  have HV1 := Lib.hid (fun m h2 => HVa.out m w1 HBw1.out (by omega) h2)
  clear HR h0 HVa
  by_cases hn : a < 0
  · have HE : Hid (R = .error 30) := by show _ = _; rw [HR1.out, if_pos (.inl hn)]
    clear HR1 HV1
    go_wp2
    refine bodyPost_ret (results_row3 rfl _ _ (w.heap.size + 1) _ _ _ _ rfl HF.out.1 Try.underlying33 rfl (by kernel_rfl)) rfl ?_
    rw [HE.out]
    exact ⟨rfl, HF.out.2.2⟩
  by_cases hg : (l.length : Int) < a
  · have HE : Hid (R = .error 30) := by show _ = _; rw [HR1.out, if_pos (.inr hg)]
    clear HR1 HV1
    go_wp2
    refine bodyPost_ret (results_row3 rfl _ _ (w.heap.size + 1) _ _ _ _ rfl HF.out.1 Try.underlying33 rfl (by kernel_rfl)) rfl ?_
    rw [HE.out]
    exact ⟨rfl, HF.out.2.2⟩
  have HR2 := Lib.hid (HR1.out.trans (if_neg (by omega)))
  obtain ⟨m, rfl⟩ : ∃ m : Nat, a = (m : Int) := ⟨a.toNat, by omega⟩
  rw [Int.toNat_natCast] at HR2
  have HV2 := Lib.hid (HV1.out m (by omega))
  have gn : decide ((m : Int) < 0) = false := decide_eq_false hn
  have gg : decide (l.length < m) = false := decide_eq_false (by omega)
  obtain ⟨C, hC⟩ : ∃ C, C = Sch.rdV (.mk k ys) (l.drop m) := ⟨_, rfl⟩
  rw [← hC] at HR2 HV2
  clear HR1 HV1 hn hg hC
  go_wp2_with fail
  refine HV2.out.mono ?_
  intro e w2 hr
  clear n0 n1 r0 r1 r2 r3 r4 s0 s1 s2 s3 s4 HF
  cases C with
  | error er2 =>
    obtain ⟨rfl, hb2⟩ := hr
    have HE : Hid (R = .error er2) := by show _ = _; rw [HR2.out]
    have z1 : w2.heap[w.heap.size + 1]? = some (.cells (cells5 0 0 0 ⟨#[]⟩ none 0 0) 33 (0, 0)) := (hb2.block _ (by omega)).trans HZ1.out
    have r0 : w2.cell? ⟨w.heap.size + 1, 0, none⟩ = some (.int .i64 0) := blk_cell z1 0
    have r1 : w2.cell? ⟨w.heap.size + 1, 1, none⟩ = some (.int .i64 0) := blk_cell z1 1
    have r2 : w2.cell? ⟨w.heap.size + 1, 2, none⟩ = some (.float .f64 0) := blk_cell z1 2
    have r3 : w2.cell? ⟨w.heap.size + 1, 3, none⟩ = some (.string ⟨#[]⟩) := blk_cell z1 3
    have r4 : w2.cell? ⟨w.heap.size + 1, 4, none⟩ = some (.slice none 0 0) := blk_cell z1 4
    have s0 := blk_free z1 0
    have s1 := blk_free z1 1
    have s2 := blk_free z1 2
    have s3 := blk_free z1 3
    have s4 := blk_free z1 4
    have HF := Lib.hid (put5_fin (q := none) (n := 0) (c := 0) (F := fun _ => False) (v := .mk 0 0 0 ⟨#[]⟩ []) z1 HBw1.out hs1 (hb2.mono (by omega)) hb2.size VOwn.none (fun _ h => h.elim))
    clear hb2 z1 HR2 HV2
    unfold cells5
    go_wp2
    refine bodyPost_ret (results_row3 rfl _ _ (w.heap.size + 1) _ _ _ _ rfl HF.out.1 Try.underlying33 rfl (by kernel_rfl)) rfl ?_
    rw [HE.out]
    exact ⟨rfl, HF.out.2.2⟩
  | ok vk =>
    obtain ⟨v, kk⟩ := vk
    obtain ⟨u, rfl, hv, hb2⟩ := hr
    obtain ⟨k', i', b', t', p', n', c', rfl⟩ := hv.shape
    have HE : Hid (R = .ok (v, m + kk)) := by show _ = _; rw [HR2.out]
    have z1 : w2.heap[w.heap.size + 1]? = some (.cells (cells5 0 0 0 ⟨#[]⟩ none 0 0) 33 (0, 0)) := (hb2.block _ (by omega)).trans HZ1.out
    have r0 : w2.cell? ⟨w.heap.size + 1, 0, none⟩ = some (.int .i64 0) := blk_cell z1 0
    have r1 : w2.cell? ⟨w.heap.size + 1, 1, none⟩ = some (.int .i64 0) := blk_cell z1 1
    have r2 : w2.cell? ⟨w.heap.size + 1, 2, none⟩ = some (.float .f64 0) := blk_cell z1 2
    have r3 : w2.cell? ⟨w.heap.size + 1, 3, none⟩ = some (.string ⟨#[]⟩) := blk_cell z1 3
    have r4 : w2.cell? ⟨w.heap.size + 1, 4, none⟩ = some (.slice none 0 0) := blk_cell z1 4
    have s0 := blk_free z1 0
    have s1 := blk_free z1 1
    have s2 := blk_free z1 2
    have s3 := blk_free z1 3
    have s4 := blk_free z1 4
    have HF := Lib.hid (put5_fin z1 HBw1.out hs1 (hb2.mono (by omega)) hb2.size hv (fun j hj => ⟨by omega, hj.2⟩))
    clear hb2 z1 HR2 HV2 hv
    rw [show ((m + kk : Nat) : Int) = (m : Int) + (kk : Int) by omega]
    unfold cells5
    go_wp2
    refine bodyPost_ret (results_row3 rfl _ _ (w.heap.size + 1) _ _ _ _ rfl HF.out.1 Try.underlying33 rfl (by kernel_rfl)) rfl ?_
    rw [HE.out]
    exact ⟨_, by rw [show ((m + kk : Nat) : Int) = (m : Int) + (kk : Int) by omega]; rfl, HF.out.2.1, HF.out.2.2⟩
end Go.Proofs.Ytphmmmgdpbokkaa

/- What the laws ask of package row's functions. -/
namespace Go.Proofs.Ytphmmmgdpbokkaa
open Go.RowKit

/-- a row that is handed over: its values lie, as those of a value that holds them -/
def RLies (w : World) (q : Option Addr) (c : Nat) (vs : List V) : Prop := VLies w (cells5 0 0 0 ⟨#[]⟩ q vs.length c) (.mk 0 0 0 ⟨#[]⟩ vs) ∧ ∀ v ∈ vs, v.wf
theorem RLies.on {w w' : World} {q : Option Addr} {c : Nat} {vs : List V} (h : RLies w q c vs) (hb : Below w.heap.size w w') : RLies w' q c vs := ⟨h.1.on hb, h.2⟩
theorem RLies.items {w : World} {q : Option Addr} {c : Nat} {vs : List V} (h : RLies w q c vs) : vs.length * 64 ≤ 140737488351232 ∧ vs.length ≤ c ∧ Items w q vs := by
  obtain ⟨p, c', he, h1, h2, h3⟩ := h.1.open
  unfold cells5 at he
  simp only [Array.mk.injEq, List.cons.injEq, Value.slice.injEq, and_true, true_and] at he
  obtain ⟨rfl, rfl⟩ := he
  exact ⟨h1, h2, h3⟩
/-- a schema that is handed over -/
structure SchL (w : World) (p : Option Addr) (c : Nat) (s : List Col) : Prop where
  len : s.length * 120 ≤ 140737488351232
  cap : s.length ≤ c
  cols : Cols w p s
  wf : ∀ x ∈ s, x.wf
theorem SchL.on {w w' : World} {p : Option Addr} {c : Nat} {s : List Col} (h : SchL w p c s) (hb : Below w.heap.size w w') : SchL w' p c s := ⟨h.len, h.cap, h.cols.on hb, h.wf⟩

/-- bytes that are answered beside an error -/
def Told (w : World) (er : Nat) (l : List UInt8) (e : Ending) (w' : World) : Prop := ∃ q cap, e = .returned (.tuple #[.slice q l.length cap, .int .i64 (er : Nat)]) ∧ At w' q l ∧ l.length ≤ cap ∧ Below w.heap.size w w'
/-- what package row's functions answer, in every world of which I holds -/
structure RowsOk (I : World → Prop) : Prop where
  on : ∀ {w w' : World}, I w → Below w.heap.size w w' → I w'
  check : ∀ (s : List Col) (p : Option Addr) (c : Nat) (vs : List V) (q : Option Addr) (d : Nat) (w : World), SchL w p c s → RLies w q d vs → I w → Calls Try.prog 12 #[.agg #[.slice p s.length c], .agg #[.slice q vs.length d]] w fun e w' => e = .returned (.int .i64 (Rw.err s vs : Nat)) ∧ Below w.heap.size w w'
  encode : ∀ (s : List Col) (p : Option Addr) (c : Nat) (vs : List V) (q : Option Addr) (d : Nat) (w : World), SchL w p c s → RLies w q d vs → I w → Calls Try.prog 25 #[.agg #[.slice p s.length c], .agg #[.slice q vs.length d]] w (Told w (Rw.err s vs) (Rw.out s vs))
  decode : ∀ (s : List Col) (p : Option Addr) (c : Nat) (l : List UInt8) (q : Option Addr) (d : Nat) (a : Int) (w : World), SchL w p c s → l.length ≤ 140737488351232 → l.length ≤ d → At w q l → -9223372036854775808 ≤ a → a ≤ 9223372036854775807 → I w → Calls Try.prog 30 #[.agg #[.slice p s.length c], .slice q l.length d, .int .i64 a] w (RowA w (Rw.read s l a))
  encodeValue : ∀ (y : Ty) (x : V) (u v : Array Value) (w : World), TLies w u y → y.wf → VLies w v x → x.wf → I w → Calls Try.prog 7 #[.agg u, .agg v] w (Told w (Rw.encErr y x) (Rw.encB y x))
/-- and DecodeValue -/
structure ReadOk (I : World → Prop) : Prop where
  decodeValue : ∀ (y : Ty) (u : Array Value) (l : List UInt8) (q : Option Addr) (d : Nat) (a : Int) (w : World), TLies w u y → y.wf → l.length ≤ 140737488351232 → l.length ≤ d → At w q l → -9223372036854775808 ≤ a → a ≤ 9223372036854775807 → I w → Calls Try.prog 17 #[.agg u, .slice q l.length d, .int .i64 a] w (ValA w (Rw.readV y l a))
end Go.Proofs.Ytphmmmgdpbokkaa
