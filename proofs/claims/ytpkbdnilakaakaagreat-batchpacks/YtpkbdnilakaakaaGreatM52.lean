/- W11B, W11C, L11A: put together. -/
import Derived.Test.YtpkbdnilakaakaaGreatM51

/- The law's own one(), number(n); plain facts on the chapter's examples. -/
namespace Go.Proofs.YtpkbdnilakaakaaGreat
open Go.RowKit

attribute [local go_sem] run_store_float

theorem tl_leafB (w : World) (k : Int) (p : Option Addr) (c : Nat) : TLies w (cells2 k p 0 c) (.mk k []) := .mk (xs := []) (fun _ => #[]) (by simp) (by simp) (fun hc => absurd rfl hc) (fun j hj => by simp at hj)
theorem vl_leafB (w : World) (k i : Int) (b : Nat) (t : ByteArray) (p : Option Addr) (c : Nat) : VLies w (cells5 k i b t p 0 c) (.mk k i b t []) := .mk (xs := []) (fun _ => #[]) (by simp) (by simp) (fun hc => absurd rfl hc) (fun j hj => by simp at hj)

/-- the schema of the chapter's examples -/
def oneA : Col := ⟨⟨#[97]⟩, .mk 2 [], false, V0⟩
def oneS : List Col := [oneA]
theorem oneA_err : Sch.colErr [] oneA = 0 := Sch.col_make (by kernel_rfl) rfl (Sch.ty_leaf (by omega) (by omega) (by omega)) (fun _ => Sch.v0_fix) (fun h => by cases h)
theorem one_bytes : Sch.bytes oneS = [1, 1, 97, 2, 0] := by
  unfold Sch.bytes oneS oneA Sch.cB
  simp only [List.map_cons, List.map_nil, Sch.tyB_mk]
  kernel_rfl
theorem one_err : Sch.err oneS = 0 := Sch.err_make (by decide) (by decide) (by
  unfold oneS
  rw [Sch.colsErr, if_pos oneA_err, Sch.colsErr]) (by rw [one_bytes]; decide)
theorem one_wf : ∀ c ∈ oneS, c.wf := by
  intro c hc
  unfold oneS at hc
  rcases List.mem_cons.1 hc with rfl | hc
  · exact ⟨by decide, Ty.wf_mk.2 ⟨by omega, fun x hx => by cases hx⟩, Sch.v0_wf⟩
  · cases hc
/-- a row of a number -/
def numR (n : Int) : List V := [.mk 2 n 0 ⟨#[]⟩ []]
theorem nrow_wf {n : Int} (h1 : -9223372036854775808 ≤ n) (h2 : n ≤ 9223372036854775807) : ∀ v ∈ numR n, v.wf := by
  intro v hv
  unfold numR at hv
  rcases List.mem_cons.1 hv with rfl | hv
  · exact V.wf_mk.2 ⟨by omega, by omega, by omega, Nat.zero_le _, fun x hx => by cases hx⟩
  · cases hv
theorem nrow_fix (n : Int) : (numR n).map V.fix = numR n := by
  unfold numR
  simp only [List.map_cons, List.map_nil, V.fix_mk, Sch.fixB_zero, V.fixL]
theorem nrow_bytes (n : Int) : Rw.bytes (numR n) = Leb.put (Leb.zig n) := by
  unfold Rw.bytes numR
  simp only [List.map_cons, List.map_nil, Sch.vB_mk]
  simp [Sch.vH]
theorem nrow_err (n : Int) (hl : (Leb.put (Leb.zig n)).length ≤ 1024) : Rw.err oneS (numR n) = 0 := Rw.err_make one_err rfl (by
  have h1 : Rw.vErr (.mk 2 []) (.mk 2 n 0 ⟨#[]⟩ []) = 0 := Rw.vErr_make (Sch.ty_leaf (by omega) (by omega) (by omega)) (Sch.chk_make (by omega) (by unfold V.ownB; simp [Sch.fixB_zero]) (Nat.zero_le _) (by simp) (fun h => by cases h) (fun x hx => by cases hx)) (by rw [Sch.of_mk]; rfl)
  unfold oneS numR oneA
  rw [Rw.colsErr, if_pos h1, Rw.colsErr]
  · intro c s v r h; cases h) (by rw [nrow_bytes]; exact hl)
theorem lebP1 : Leb.put (Leb.zig 1) = [2] := by kernel_rfl
theorem lebM1 : Leb.put (Leb.zig (-1)) = [1] := by kernel_rfl
theorem lebP64 : Leb.put (Leb.zig 64) = [128, 1] := by kernel_rfl
def three : List (List V) := [numR 1, numR (-1), numR 64]
theorem three_rows : Bt.rowsErr oneS three = 0 := by
  unfold three
  rw [Bt.rowsErr, if_pos (nrow_err 1 (by rw [lebP1]; decide)), Bt.rowsErr, if_pos (nrow_err (-1) (by rw [lebM1]; decide)), Bt.rowsErr, if_pos (nrow_err 64 (by rw [lebP64]; decide)), Bt.rowsErr]
theorem three_bytes : Bt.bytes three = [2, 1, 128, 1] := by
  unfold three
  simp only [Bt.bytes, nrow_bytes, lebP1, lebM1, lebP64]
  rfl
theorem three_err : Bt.err oneS three = 0 := Bt.err_make (Bt.numErr_make one_err (by decide) (by decide)) three_rows (by rw [three_bytes]; decide)
theorem three_wf : ∀ x ∈ three, ∀ v ∈ x, v.wf := by
  intro x hx
  unfold three at hx
  rcases List.mem_cons.1 hx with rfl | hx
  · exact nrow_wf (by omega) (by omega)
  rcases List.mem_cons.1 hx with rfl | hx
  · exact nrow_wf (by omega) (by omega)
  rcases List.mem_cons.1 hx with rfl | hx
  · exact nrow_wf (by omega) (by omega)
  · cases hx
theorem three_fix : three.map (fun x => x.map V.fix) = three := by
  unfold three
  simp only [List.map_cons, List.map_nil, nrow_fix]
theorem three_out : (Bt.out oneS three).length = 4 := by
  unfold Bt.out
  rw [if_pos three_err, three_bytes]
  rfl
theorem raw_five : Blk.unpack [0, 2, 1, 128, 1] = ⟨0, [2, 1, 128, 1]⟩ := by
  rw [Blk.unpack, if_neg (by decide), if_neg (by decide), if_neg (by decide)]
theorem unpack_three : Bt.unpack oneS [0, 2, 1, 128, 1] 3 = .ok three := by
  unfold Bt.unpack
  rw [Bt.numErr_make one_err (by omega) (by omega), if_neg (by simp), raw_five, if_neg (by simp)]
  have h := Bt.whole_put three_rows three_wf
  rw [three_bytes, three_fix] at h
  exact h
theorem unpack_two : Bt.unpack oneS [0, 2, 1, 128, 1] 2 = .error 5 := by
  unfold Bt.unpack
  rw [Bt.numErr_make one_err (by omega) (by omega), if_neg (by simp), raw_five, if_neg (by simp)]
  have h := Bt.rows_put (s := oneS) [128, 1] [numR 1, numR (-1)] [] (by
    rw [Bt.rowsErr, if_pos (nrow_err 1 (by rw [lebP1]; decide)), Bt.rowsErr, if_pos (nrow_err (-1) (by rw [lebM1]; decide)), Bt.rowsErr]) (fun x hx => three_wf x (by
      unfold three
      rcases List.mem_cons.1 hx with rfl | hx
      · simp
      rcases List.mem_cons.1 hx with rfl | hx
      · simp
      · cases hx))
  simp only [Bt.bytes, nrow_bytes, lebP1, lebM1, List.nil_append, List.append_nil, List.cons_append, List.length_cons, List.length_nil] at h
  unfold Bt.whole
  rw [show (2 : Int).toNat = 2 from rfl, h]
  exact if_pos (by decide)

set_option maxRecDepth 100000 in
set_option maxHeartbeats 1000000 in
theorem oneK (w : World) : Calls Tryz.prog 21 #[] w fun e w' => ∃ p c, e = .returned (.agg #[.slice p oneS.length c]) ∧ SchL w' p c oneS ∧ Below w.heap.size w w' := by
  obtain ⟨W, hW⟩ : ∃ W, W = (w.alloc (.cells #[.slice (some ⟨w.heap.size + 1, 0, none⟩) 1 1] 24)).alloc (.cells #[.string ⟨#[97]⟩, .int .i64 2, .slice none 0 0, .bool false, .int .i64 0, .int .i64 0, .float .f64 0, .string ⟨#[]⟩, .slice none 0 0] 69) := ⟨_, rfl⟩
  obtain ⟨h0, h1, hb, hs⟩ := al2 w (.cells #[.slice (some ⟨w.heap.size + 1, 0, none⟩) 1 1] 24) (.cells #[.string ⟨#[97]⟩, .int .i64 2, .slice none 0 0, .bool false, .int .i64 0, .int .i64 0, .float .f64 0, .string ⟨#[]⟩, .slice none 0 0] 69)
  rw [← hW] at h0 h1 hb hs
  have h3 := blk_cell h1
  have hcols : Cols W (some ⟨w.heap.size + 1, 0, none⟩) oneS := by
    intro j hj
    have hj2 : j < 1 := hj
    obtain rfl : j = 0 := by omega
    refine ⟨cells9 ⟨#[97]⟩ 2 none 0 0 false 0 0 0 ⟨#[]⟩ none 0 0, ⟨2, none, 0, 0, 0, 0, 0, ⟨#[]⟩, none, 0, 0, rfl, tl_leafB W 2 none 0, vl_leafB W 0 0 0 ⟨#[]⟩ none 0⟩, ⟨w.heap.size + 1, 0, ⟨#[97]⟩, 2, none, 0, 0, false, 0, 0, 0, ⟨#[]⟩, none, 0, 0, rfl, by omega, rfl, ?_⟩⟩
    exact ⟨h3 0, h3 1, h3 2, h3 3, h3 4, h3 5, h3 6, h3 7, h3 8⟩
  have HC : Hid (SchL W (some ⟨w.heap.size + 1, 0, none⟩) 1 oneS) := ⟨by decide, by decide, hcols, one_wf⟩
  have H0 := Lib.hid h0
  have HW := Lib.hid hW
  have HB := Lib.hid hb
  clear hcols h0 h1 h3 hs hW hb
  go_enter Tryz.func21, Tryz.ntmps21
  go_wp2
  rw [← HW.out]
  refine bodyPost_ret (results_cell_row rfl _ _ w.heap.size _ _ _ _ rfl H0.out Tryz.underlying24 rfl (by kernel_rfl)) rfl ?_
  exact ⟨_, _, rfl, HC.out, HB.out⟩

set_option maxRecDepth 100000 in
set_option maxHeartbeats 1000000 in
theorem numRowK (n : Int) (hn1 : -9223372036854775808 ≤ n) (hn2 : n ≤ 9223372036854775807) (w : World) : Calls Tryz.prog 20 #[.int .i64 n] w fun e w' => ∃ q d, e = .returned (.agg #[.slice q (numR n).length d]) ∧ RLies w' q d (numR n) ∧ Below w.heap.size w w' := by
  obtain ⟨W, hW⟩ : ∃ W, W = (w.alloc (.cells #[.slice (some ⟨w.heap.size + 1, 0, none⟩) 1 1] 41)).alloc (.cells #[.int .i64 2, .int .i64 n, .float .f64 0, .string ⟨#[]⟩, .slice none 0 0] 44) := ⟨_, rfl⟩
  obtain ⟨h0, h1, hb, hs⟩ := al2 w (.cells #[.slice (some ⟨w.heap.size + 1, 0, none⟩) 1 1] 41) (.cells #[.int .i64 2, .int .i64 n, .float .f64 0, .string ⟨#[]⟩, .slice none 0 0] 44)
  rw [← hW] at h0 h1 hb hs
  have HL : Hid (RLies W (some ⟨w.heap.size + 1, 0, none⟩) 1 (numR n)) := by
    refine ⟨?_, nrow_wf hn1 hn2⟩
    refine .mk (xs := numR n) (fun _ => cells5 2 n 0 ⟨#[]⟩ none 0 0) (by simp [numR]) (by simp [numR]) (fun _ => ⟨w.heap.size + 1, 0, rfl, by omega, fun j hj m hm => ?_⟩) (fun j hj => ?_)
    · have hj0 : j = 0 := by simp [numR] at hj; omega
      subst hj0
      simp [World.cell?, h1, cells5]
    · have hj0 : j = 0 := by simp [numR] at hj; omega
      subst hj0
      exact vl_leafB W 2 n 0 ⟨#[]⟩ none 0
  have H0 := Lib.hid h0
  have HW := Lib.hid hW
  have HB := Lib.hid hb
  clear h0 h1 hs hW hb
  go_enter Tryz.func20, Tryz.ntmps20
  go_wp2
  rw [← HW.out]
  refine bodyPost_ret (results_cell_row rfl _ _ w.heap.size _ _ _ _ rfl H0.out Tryz.underlying41 rfl (by kernel_rfl)) rfl ?_
  exact ⟨_, _, rfl, HL.out, HB.out⟩
end Go.Proofs.YtpkbdnilakaakaaGreat

/- The law's own live(). -/
namespace Go.Proofs.YtpkbdnilakaakaaGreat
open Go.RowKit

attribute [local go_sem] run_store_float

set_option maxRecDepth 100000 in
set_option maxHeartbeats 4000000 in
theorem live11 (HR : RowsIn) (w : World) : Calls Tryz.prog 10 #[] w fun e w' => e = .returned (.bool true) ∧ Below w.heap.size w w' := by
  have HRI := Lib.hid HR
  clear HR
  go_enter Tryz.func10, Tryz.ntmps10
  go_wp2_with fail
  refine (numRowK 1 (by omega) (by omega) w).mono ?_
  rintro e w1 ⟨q1, d1, rfl, hr1, hb1⟩
  have HR1 := Lib.hid hr1
  have HB1 := Lib.hid hb1
  clear hr1 hb1
  go_wp2_with fail
  refine (numRowK (-1) (by omega) (by omega) w1).mono ?_
  rintro e w2 ⟨q2, d2, rfl, hr2, hb2⟩
  have HR2 := Lib.hid hr2
  have HB2 := Lib.hid hb2
  clear hr2 hb2
  go_wp2_with fail
  refine (numRowK 64 (by omega) (by omega) w2).mono ?_
  rintro e w3 ⟨q3, d3, rfl, hr3, hb3⟩
  obtain ⟨W, hW⟩ : ∃ W, W = w3.alloc (.cells #[.slice q1 (numR 1).length d1, .slice q2 (numR (-1)).length d2, .slice q3 (numR 64).length d3] 41) := ⟨_, rfl⟩
  have hbW : Below w3.heap.size w3 W := by rw [hW]; exact (Below.refl _ _).alloc (Nat.le_refl _) _
  have hblk : W.heap[w3.heap.size]? = some (.cells #[.slice q1 (numR 1).length d1, .slice q2 (numR (-1)).length d2, .slice q3 (numR 64).length d3] 41 (0, 0)) := by rw [hW]; exact blk_new w3 _
  have h3W : Below w2.heap.size w2 W := hb3.trans (hbW.mono hb3.size)
  have h2W : Below w1.heap.size w1 W := HB2.out.trans (h3W.mono HB2.out.size)
  have HBW := Lib.hid (HB1.out.trans (h2W.mono HB1.out.size))
  have HRW : Hid (RowsL W (some ⟨w3.heap.size, 0, none⟩) 3 three) := by
    refine ⟨by decide, by decide, fun j hj => ?_⟩
    have hj3 : j < 3 := hj
    rcases (show j = 0 ∨ j = 1 ∨ j = 2 by omega) with rfl | rfl | rfl
    · exact ⟨w3.heap.size, 0, q1, d1, rfl, blk_lt hblk, by rw [blk_cell hblk]; rfl, HR1.out.on h2W⟩
    · exact ⟨w3.heap.size, 0, q2, d2, rfl, blk_lt hblk, by rw [blk_cell hblk]; rfl, HR2.out.on h3W⟩
    · exact ⟨w3.heap.size, 0, q3, d3, rfl, blk_lt hblk, by rw [blk_cell hblk]; rfl, hr3.on hbW⟩
  have HW := Lib.hid hW
  clear hr3 hb3 hbW hW hblk h3W h2W HR1 HR2 HB1 HB2
  go_wp2_with fail
  rw [← HW.out]
  clear HW
  refine (oneK W).mono ?_
  rintro e w4 ⟨p4, c4, rfl, hs4, hb4⟩
  have hZ := sizeK HRI.out oneS p4 c4 three (some ⟨w3.heap.size, 0, none⟩) 3 w4 hs4 (HRW.out.on hb4)
  rw [three_err, three_out] at hZ
  have HZ := Lib.hid hZ
  have HB4 := Lib.hid hb4
  clear hZ hs4 hb4
  go_wp2_with fail
  refine HZ.out.mono ?_
  rintro e w5 ⟨rfl, hb5⟩
  have HB5 := Lib.hid (HB4.out.trans (hb5.mono HB4.out.size))
  clear hb5 HB4 HZ
  go_wp2_with fail
  refine (oneK w5).mono ?_
  rintro e w6 ⟨p6, c6, rfl, hs6, hb6⟩
  obtain ⟨wa, hwa⟩ : ∃ wa, wa = w6.alloc (.cells #[.int .u8 0, .int .u8 2, .int .u8 1, .int .u8 128, .int .u8 1] 5) := ⟨_, rfl⟩
  have hba : Below w6.heap.size w6 wa := by rw [hwa]; exact (Below.refl _ _).alloc (Nat.le_refl _) _
  have hata : At wa (some ⟨w6.heap.size, 0, none⟩) [0, 2, 1, 128, 1] := by rw [hwa]; exact (has_lit (B := 0) (w := w6) [0, 2, 1, 128, 1] rfl (Nat.zero_le _) (by decide)).here
  have hU := unpackBK HRI.out oneS p6 c6 [0, 2, 1, 128, 1] (some ⟨w6.heap.size, 0, none⟩) 5 3 wa (hs6.on hba) (by decide) (by decide) hata
  rw [unpack_three] at hU
  have HU := Lib.hid hU
  have HB6 := Lib.hid (HB5.out.trans ((hb6.trans (hba.mono hb6.size)).mono HB5.out.size))
  have HWa := Lib.hid hwa
  clear hU hata hba hwa hs6 hb6 HB5
  go_wp2_with fail
  rw [← HWa.out]
  clear HWa
  refine HU.out.mono ?_
  rintro e w7 ⟨q7, c7, rfl, hr7, hb7⟩
  have HR7 := Lib.hid (hr7.rows (by decide) three_wf)
  have HB7 := Lib.hid (HB6.out.trans (hb7.mono HB6.out.size))
  clear hr7 hb7 HU HB6
  go_wp2_with fail
  refine (oneK w7).mono ?_
  rintro e w8 ⟨p8, c8, rfl, hs8, hb8⟩
  obtain ⟨wb, hwb⟩ : ∃ wb, wb = w8.alloc (.cells #[.int .u8 0, .int .u8 2, .int .u8 1, .int .u8 128, .int .u8 1] 5) := ⟨_, rfl⟩
  have hbb : Below w8.heap.size w8 wb := by rw [hwb]; exact (Below.refl _ _).alloc (Nat.le_refl _) _
  have hatb : At wb (some ⟨w8.heap.size, 0, none⟩) [0, 2, 1, 128, 1] := by rw [hwb]; exact (has_lit (B := 0) (w := w8) [0, 2, 1, 128, 1] rfl (Nat.zero_le _) (by decide)).here
  have hU := unpackBK HRI.out oneS p8 c8 [0, 2, 1, 128, 1] (some ⟨w8.heap.size, 0, none⟩) 5 2 wb (hs8.on hbb) (by decide) (by decide) hatb
  rw [unpack_two] at hU
  have HU := Lib.hid hU
  have HB78 := Lib.hid (hb8.trans (hbb.mono hb8.size))
  have HWb := Lib.hid hwb
  clear hU hatb hbb hwb hs8 hb8
  go_wp2_with fail
  rw [← HWb.out]
  clear HWb
  refine HU.out.mono ?_
  rintro e w9 ⟨rfl, hb9⟩
  have HB79 := Lib.hid (HB78.out.trans (hb9.mono HB78.out.size))
  have HB9 := Lib.hid (HB7.out.trans (HB79.out.mono HB7.out.size))
  clear hb9 HB78 HU
  go_wp2_with fail
  refine (oneK w9).mono ?_
  rintro e w10 ⟨p10, c10, rfl, hs10, hb10⟩
  have HP := Lib.hid (packBK HRI.out oneS p10 c10 three (some ⟨w3.heap.size, 0, none⟩) 3 w10 hs10 (HRW.out.on (HB9.out.trans (hb10.mono HB9.out.size))))
  have HB910 := Lib.hid hb10
  clear hs10 hb10
  go_wp2_with fail
  refine HP.out.mono ?_
  rintro e w11 ⟨q11, m11, c11, rfl, hm11, hh11, hb11⟩
  subst hm11
  obtain ⟨ep, hep⟩ := Bt.pack_unpack three_err three_wf
  rw [ep]
  have HH11 := Lib.hid hh11
  have HB911 := Lib.hid (HB910.out.trans (hb11.mono HB910.out.size))
  have HEp := Lib.hid hep
  clear hh11 hb11 HP HB910 ep hep
  obtain ⟨P, hP⟩ : ∃ P, P = (Bt.pack oneS three).out := ⟨_, rfl⟩
  have hpl : P.length ≤ 5 := by
    rw [hP]
    unfold Bt.pack
    rw [if_pos three_err]
    have := (Blk.pack_back (b := Bt.bytes three) (by rw [three_bytes]; decide)).2.2
    rw [three_bytes] at this ⊢
    exact this
  rw [← hP] at HH11 HEp ⊢
  clear hP
  go_wp2_with fail
  refine (oneK w11).mono ?_
  rintro e w12 ⟨p12, c12, rfl, hs12, hb12⟩
  obtain ⟨pv, cv, hpv, hat, hcv⟩ := (HH11.out.on hb12).at
  injection hpv with e1 _ e2
  subst e1 e2
  have hU := unpackBK HRI.out oneS p12 c12 P q11 c11 3 w12 hs12 (by omega) hcv hat
  have e3 : ((three.length : Nat) : Int) = 3 := rfl
  rw [← e3, HEp.out, three_fix, e3] at hU
  have HU := Lib.hid hU
  have HB912 := Lib.hid (HB911.out.trans (hb12.mono HB911.out.size))
  clear hU hat hs12 hb12 HB911 HEp HH11 e3
  go_wp2_with fail
  refine HU.out.mono ?_
  rintro e w13 ⟨q13, c13, rfl, hr13, hb13⟩
  have HR13 := Lib.hid (hr13.rows (by decide) three_wf)
  have HB913 := Lib.hid (HB912.out.trans (hb13.mono HB912.out.size))
  have HB713 := Lib.hid (HB79.out.trans (HB913.out.mono HB79.out.size))
  have HBW13 := Lib.hid (HB7.out.trans (HB713.out.mono HB7.out.size))
  clear hr13 hb13 HU HB912 HB913 HB79 HB9
  go_wp2_with fail
  refine (allK three q7 (some ⟨w3.heap.size, 0, none⟩) c7 3 w13 (HR7.out.on HB713.out) (HRW.out.on HBW13.out)).mono ?_
  rintro e w14 ⟨rfl, hb14⟩
  have HB14 := Lib.hid hb14
  have HBW14 := Lib.hid (HBW13.out.trans (hb14.mono HBW13.out.size))
  clear hb14
  go_wp2_with fail
  refine (allK three q13 (some ⟨w3.heap.size, 0, none⟩) c13 3 w14 (HR13.out.on HB14.out) (HRW.out.on HBW14.out)).mono ?_
  rintro e w15 ⟨rfl, hb15⟩
  have HBF := Lib.hid (HBW.out.trans ((HBW14.out.trans (hb15.mono HBW14.out.size)).mono HBW.out.size))
  clear hb15
  go_wp2
  go_ret
  exact ⟨rfl, HBF.out⟩
end Go.Proofs.YtpkbdnilakaakaaGreat

/- BatchOnce: the walk. -/
namespace Go.Proofs.YtpkbdnilakaakaaGreat
open Go.RowKit

attribute [local go_sem] run_store_float

/-- the error of an answer -/
def Bt.code : Except Nat (List (List V)) → Nat
  | .ok _ => 0
  | .error er => er
theorem UnpA.any {w w' : World} {R : Except Nat (List (List V))} {e : Ending} (h : UnpA w R e w') : ∃ q m c, e = .returned (.tuple #[.slice q m c, .int .i64 (Bt.code R : Nat)]) ∧ Below w.heap.size w w' := by
  cases R with
  | error er => exact ⟨none, 0, 0, h.1, h.2⟩
  | ok l =>
    obtain ⟨q, c, h1, _, h3⟩ := h
    exact ⟨q, _, c, h1, h3⟩
theorem Bt.code_zero {s : List Col} {b : List UInt8} {n : Int} (h : Bt.code (Bt.unpack s b n) = 0) : ∃ l, Bt.unpack s b n = .ok l := by
  cases hr : Bt.unpack s b n with
  | ok l => exact ⟨l, rfl⟩
  | error er =>
    rw [hr] at h
    exact absurd h (Bt.unpack_err hr)

/-- the law's argument, as it lies -/
structure BothL (w : World) (p : Option Addr) (c : Nat) (s : List Col) (q : Option Addr) (d : Nat) (l : List (List V)) (r : Option Addr) (e : Nat) (b : List UInt8) : Prop where
  sch : SchL w p c s
  rows : RowsL w q d l
  at_ : At w r b
  len : b.length ≤ 140737488351232
  cap : b.length ≤ e
theorem BothL.on {w w' : World} {p : Option Addr} {c : Nat} {s : List Col} {q : Option Addr} {d : Nat} {l : List (List V)} {r : Option Addr} {e : Nat} {b : List UInt8} (h : BothL w p c s q d l r e b) (hb : Below w.heap.size w w') : BothL w' p c s q d l r e b := ⟨h.sch.on hb, h.rows.on hb, h.at_.on hb, h.len, h.cap⟩

end Go.Proofs.YtpkbdnilakaakaaGreat
