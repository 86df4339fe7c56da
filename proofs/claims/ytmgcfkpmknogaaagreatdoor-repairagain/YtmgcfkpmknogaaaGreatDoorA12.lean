/- W12A, W12B, W15A, W15B, W15C: put together. -/
import Derived.Test.YtmgcfkpmknogaaaGreatDoorA1
import Derived.Test.YtmgcfkpmknogaaaGreatDoorB04
import Derived.Laws.Rows
import Derived.Test.YtmgcfkpmknogaaaGreatDoorK12G
import Derived.Test.YtmgcfkpmknogaaaGreatDoorA5
import Derived.Test.YtmgcfkpmknogaaaGreatDoorA11
import Derived.Test.YtmgcfkpmknogaaaGreatDoorD1
import Derived.Test.YtmgcfkpmknogaaaGreatDoorD4

/- The law's own plain(f), small(). -/
namespace Go.Proofs.YtmgcfkpmknogaaaGreatDoor
open Go.RowKit

attribute [local go_sem] run_store_float

/-- the schema frame of the chapter's examples -/
def smallF : Fr := { Fr0 with kind := 1, cols := [⟨⟨#[97]⟩, ⟨2, []⟩, false, V0⟩] }
theorem small_wf : smallF.wf := by
  refine ⟨by simp [smallF, Fr.i64], by simp [smallF, Fr0, Fr.i64], ?_, by simp [smallF, Fr0, Fr.i64], by simp [smallF, Fr0, Fr.i64], by simp [smallF, Fr0, Fr.i64], by simp [smallF, Fr0, Idx0, Fr.i64], by simp [smallF, Fr0, Idx0]⟩
  intro c hc
  simp [smallF] at hc
  subst hc
  exact ⟨by decide, Ty.wf_mk.2 ⟨by omega, fun x hx => by cases hx⟩, Sch.v0_wf⟩
theorem tl_leafF (w : World) (k : Int) (p : Option Addr) (c : Nat) : TLies w (cells2 k p 0 c) (.mk k []) := .mk (xs := []) (fun _ => #[]) (by simp) (by simp) (fun hc => absurd rfl hc) (fun j hj => by simp at hj)
theorem vl_leafF (w : World) (k i : Int) (b : Nat) (t : ByteArray) (p : Option Addr) (c : Nat) : VLies w (cells5 k i b t p 0 c) (.mk k i b t []) := .mk (xs := []) (fun _ => #[]) (by simp) (by simp) (fun hc => absurd rfl hc) (fun j hj => by simp at hj)

end Go.Proofs.YtmgcfkpmknogaaaGreatDoor

/- The law's own live(). -/
namespace Go.Proofs.YtmgcfkpmknogaaaGreatDoor
open Go.RowKit

attribute [local go_sem] run_store_float

theorem smallA_err : Sch.colErr [] ⟨⟨#[97]⟩, ⟨2, []⟩, false, V0⟩ = 0 := Sch.col_make (by kernel_rfl) rfl (Sch.ty_leaf (by omega) (by omega) (by omega)) (fun _ => Sch.v0_fix) (fun h => by cases h)
theorem small_bytes : Sch.bytes smallF.cols = [1, 1, 97, 2, 0] := by
  unfold Sch.bytes smallF Sch.cB
  simp only [List.map_cons, List.map_nil, Sch.tyB_mk]
  kernel_rfl
theorem small_sch : Sch.err smallF.cols = 0 := Sch.err_make (by decide) (by decide) (by
  show Sch.colsErr [] [⟨⟨#[97]⟩, ⟨2, []⟩, false, V0⟩] = 0
  rw [Sch.colsErr, if_pos smallA_err, Sch.colsErr]) (by rw [small_bytes]; decide)
theorem small_err0 : Fr.err0 smallF = 0 := by
  unfold Fr.err0
  rw [if_pos (show smallF.kind = 1 from rfl), if_neg (by decide)]
  exact small_sch
theorem small_head : Fr.head smallF = [1, 0, 1, 1, 97, 2, 0] := by
  unfold Fr.head Fr.fields
  rw [if_pos (show smallF.kind = 1 from rfl), small_bytes]
  kernel_rfl
theorem small_len : (Fr.run smallF).length = 12 := by
  unfold Fr.run
  rw [small_head]
  kernel_rfl
theorem small_err : Fr.err smallF = 0 := by
  unfold Fr.err
  rw [small_err0, if_neg (by decide), if_neg (by rw [small_len]; decide)]
end Go.Proofs.YtmgcfkpmknogaaaGreatDoor

/- The law's own of stage 15: one, laid. -/
namespace Go.Proofs.YtmgcfkpmknogaaaGreatDoor
open Go.RowKit

/-- its column's block -/
def oneCells : Array Value := #[.string ⟨#[97]⟩, .int .i64 2, .slice none 0 0, .bool false, .int .i64 0, .int .i64 0, .float .f64 0, .string ⟨#[]⟩, .slice none 0 0]
theorem one_cols {W : World} {b : Nat} (h1 : W.heap[b]? = some (.cells oneCells 134 (0, 0))) : Cols W (some ⟨b, 0, none⟩) smallF.cols := by
  have h3 := blk_cell h1
  intro j hj
  have hj2 : j < 1 := hj
  obtain rfl : j = 0 := by omega
  refine ⟨cells9 ⟨#[97]⟩ 2 none 0 0 false 0 0 0 ⟨#[]⟩ none 0 0, ⟨2, none, 0, 0, 0, 0, 0, ⟨#[]⟩, none, 0, 0, rfl, tl_leafF W 2 none 0, vl_leafF W 0 0 0 ⟨#[]⟩ none 0⟩, ⟨b, 0, ⟨#[97]⟩, 2, none, 0, 0, false, 0, 0, 0, ⟨#[]⟩, none, 0, 0, rfl, blk_lt h1, rfl, ?_⟩⟩
  exact ⟨h3 0, h3 1, h3 2, h3 3, h3 4, h3 5, h3 6, h3 7, h3 8⟩
set_option maxRecDepth 100000 in
set_option maxHeartbeats 1000000 in
/-- the schema of one column -/
theorem one15 (w : World) : Calls Tryz.prog 46 #[] w fun e w' => e = .returned (.agg #[.slice (some ⟨w.heap.size + 1, 0, none⟩) 1 1]) ∧ w'.heap[w.heap.size + 1]? = some (.cells oneCells 134 (0, 0)) ∧ Below w.heap.size w w' ∧ w'.heap.size = w.heap.size + 2 := by
  obtain ⟨W, hW⟩ : ∃ W, W = (w.alloc (.cells #[.slice (some ⟨w.heap.size + 1, 0, none⟩) 1 1] 48)).alloc (.cells oneCells 134) := ⟨_, rfl⟩
  have h0 : W.heap[w.heap.size]? = some (.cells #[.slice (some ⟨w.heap.size + 1, 0, none⟩) 1 1] 48 (0, 0)) := by rw [hW, blk_old _ _ (by simp)]; exact blk_new w _
  have h1 : W.heap[w.heap.size + 1]? = some (.cells oneCells 134 (0, 0)) := by
    rw [hW]
    have := blk_new (w.alloc (.cells #[.slice (some ⟨w.heap.size + 1, 0, none⟩) 1 1] 48)) (.cells oneCells 134)
    simpa using this
  have HB : Hid (Below w.heap.size w W) := by rw [hW]; exact ((Below.refl _ _).alloc (Nat.le_refl _) _).alloc (by simp) _
  have HZ : Hid (W.heap.size = w.heap.size + 2) := by show _ = _; rw [hW]; simp
  have H1 := Lib.hid h1
  have H0 := Lib.hid h0
  have HW : Hid ((w.alloc (.cells #[.slice (some ⟨w.heap.size + 1, 0, none⟩) 1 1] 48)).alloc (.cells #[.string ⟨#[97]⟩, .int .i64 2, .slice none 0 0, .bool false, .int .i64 0, .int .i64 0, .float .f64 0, .string ⟨#[]⟩, .slice none 0 0] 134) = W) := hW.symm
  clear h0 h1 hW
  go_enter Tryz.func46, Tryz.ntmps46
  go_wp2
  rw [HW.out]
  refine bodyPost_ret (results_cell_row rfl _ _ w.heap.size _ _ _ _ rfl H0.out Tryz.underlying48 rfl (by kernel_rfl)) rfl ?_
  exact ⟨rfl, H1.out, HB.out, HZ.out⟩

/-- a file of package dev and the document's, of the same bytes -/
structure Two15 (w w' : World) (l : List UInt8) (g r : Nat) (v u : Value) (x k : Nat) : Prop where
  dev : KDev w' w.heap.size g v { Dv.new 1048576 with b := l, safe := l.length } x k
  ref : RDev w' w.heap.size r u { Dv.new 1048576 with b := l, safe := l.length }
  below : Below w.heap.size w w'
  apart : g ≠ r ∧ v.ownBlock ≠ some r ∧ u.ownBlock ≠ some g ∧ ∀ i, v.ownBlock = some i → u.ownBlock ≠ some i

set_option maxRecDepth 100000 in
set_option maxHeartbeats 2000000 in
theorem laid15 (p : Option Addr) (c : Nat) (l : List UInt8) (hl : l.length ≤ 2097152) (w : World) (hA : At w p l) :
    Calls Tryz.prog 13 #[.slice p l.length c] w fun e w' => ∃ g r v u x k, e = .returned (.tuple #[.pointer (some ⟨g, 0, none⟩), .pointer (some ⟨r, 0, none⟩)]) ∧ Two15 w w' l g r v u x k := by
  have HN := Lib.hid (kNew_ok 1048576 (by omega) w)
  have HA := Lib.hid hA
  have hlow : l ≠ [] → ∀ b o, p = some ⟨b, o, none⟩ → b < w.heap.size := fun h0 b o hp => by
    rcases hA with h1 | ⟨b', o', h1, h2, -⟩
    · exact absurd h1 h0
    · rw [hp] at h1
      simp only [Option.some.injEq, Addr.mk.injEq, and_true] at h1
      omega
  have HLo := Lib.hid hlow
  clear hA hlow
  go_enter Tryz.func13, Tryz.ntmps13
  go_wp2_with fail
  refine HN.out.mono ?_
  rintro e w1 ⟨rfl, hk1, hb1⟩
  have HR := Lib.hid (refNew_ok 1048576 (by omega) w1)
  have HK1 := Lib.hid hk1
  have HB1 := Lib.hid hb1
  clear hk1 hb1 HN
  go_wp2_with fail
  refine HR.out.mono ?_
  rintro e w2 ⟨rfl, hr2, hb2⟩
  have hk2 := HK1.out.below hb2
  have hB2 := HB1.out.trans (hb2.mono HB1.out.size)
  have hs1 := HB1.out.size
  have hs2 := hb2.size
  have hg1 := HK1.out.lt
  have hT := kTail hk2 p c l (HA.out.on hB2) (fun h0 b o hp hc => by have := HLo.out h0 b o hp; omega) (by simp [Dv.new]) (by omega)
  have e1 : Dv.tail (Dv.new 1048576) l = (0, { Dv.new 1048576 with b := l, safe := l.length }) := by
    unfold Dv.tail
    rw [if_neg (by simp [Dv.new]; omega)]
    simp [Dv.new]
  rw [e1] at hT
  have HT := Lib.hid hT
  have HR2 := Lib.hid hr2
  have HB2 := Lib.hid hB2
  have hz1 : w1.heap.size < w2.heap.size := hr2.lt
  clear hT hr2 hB2 hk2 hb2 HK1 HR
  go_wp2_with fail
  refine HT.out.mono ?_
  rintro e w3 ⟨rfl, v3, x3, k3, hk3, ha3, hv3⟩
  have hr3 := HR2.out.aside ha3 (fun hc => by rcases hc with hc | hc; exact absurd hc (by omega); simp [Value.ownBlock] at hc) (fun i hi => by simp [Value.ownBlock] at hi)
  have hB3 : Below w.heap.size w w3 := HB2.out.trans (ha3.below (by omega) (fun i hi hc => by
    rcases hc with hc | hc
    · omega
    · simp [Value.ownBlock] at hc))
  have hs3 := ha3.size
  have hT2 := refTail hr3 p c l (by omega) (HA.out.on hB3) (fun h0 b o hp => ⟨by have := HLo.out h0 b o hp; omega, by simp [Value.ownBlock]⟩) (by simp [Dv.new]) (by omega)
  rw [e1] at hT2
  have HT2 := Lib.hid hT2
  have HK3 := Lib.hid hk3
  have HB3 := Lib.hid hB3
  have HV3 := Lib.hid hv3
  clear hT2 hk3 ha3 hv3 hr3 hB3 HT HR2 HB2
  go_wp2_with fail
  refine HT2.out.mono ?_
  rintro e w4 ⟨rfl, u4, hr4, ha4, hu4'⟩
  have hu4 : ∀ i, u4.ownBlock = some i → w3.heap.size ≤ i := fun i hi => by
    rcases hu4' with hc | hc
    · rw [hc] at hi; simp [Value.ownBlock] at hi
    · have := hc i hi
      simpa [Value.ownBlock] using this
  clear hu4'
  have hk4 : KDev w4 w.heap.size w.heap.size v3 { Dv.new 1048576 with b := l, safe := l.length } x3 k3 := HK3.out.aside ha4 (fun hc => by
    rcases hc with hc | hc
    · omega
    · simp [Value.ownBlock] at hc) (fun i hi hc => by
    rcases hc with hc | hc
    · have := HV3.out i hi
      simp [Value.ownBlock] at this
      omega
    · simp [Value.ownBlock] at hc)
  have hB4 : Below w.heap.size w w4 := HB3.out.trans (ha4.below (by omega) (fun i hi hc => by
    rcases hc with hc | hc
    · omega
    · simp [Value.ownBlock] at hc))
  have HFin : Hid (Two15 w w4 l w.heap.size w1.heap.size v3 u4 x3 k3) := by
    refine ⟨hk4, ⟨hr4.lies, hr4.has.low (by omega), by omega, hr4.apart⟩, hB4, by omega, fun hc => ?_, fun hc => ?_, fun i hi hc => ?_⟩
    · have := HV3.out _ hc
      simp [Value.ownBlock] at this
      omega
    · have := hu4 _ hc
      omega
    · have h5 := hu4 _ hc
      have := (HK3.out.has.lt i hi).2
      omega
  clear hr4 ha4 hu4 hk4 hB4 HT2 HK3 HB3 HV3 e1
  go_wp2
  go_ret2
  exact ⟨_, _, v3, u4, x3, k3, rfl, HFin.out⟩
end Go.Proofs.YtmgcfkpmknogaaaGreatDoor

/- The law's own of stage 15: live, plain. -/
namespace Go.Proofs.YtmgcfkpmknogaaaGreatDoor
open Go.RowKit

/-- the data frame of the law -/
def dataF : Fr := { Fr0 with kind := 2, rows := 2, block := [0, 2, 4] }
theorem data_wf : dataF.wf := by
  refine ⟨by simp [dataF, Fr.i64], by simp [dataF, Fr0, Fr.i64], by simp [dataF, Fr0], by simp [dataF, Fr0, Fr.i64], by simp [dataF, Fr0, Fr.i64], by simp [dataF, Fr.i64], by simp [dataF, Fr0, Idx0, Fr.i64], by simp [dataF, Fr0, Idx0]⟩
theorem data_err0 : Fr.err0 dataF = 0 := by
  unfold Fr.err0
  rw [if_neg (by decide), if_pos (show dataF.kind = 2 from rfl), if_neg (by decide)]
theorem data_len : (Fr.run dataF).length ≤ 100 := by decide +kernel
theorem data_err : Fr.err dataF = 0 := by
  unfold Fr.err
  rw [if_neg (by rw [data_err0]; decide)]
  have := data_len
  rw [if_neg (by omega)]
theorem at_mk {f : Fr} (he : Fr.err f = 0) (hw : ∀ c ∈ f.cols, c.wf) (pre post : List UInt8) : Sc.at_ (pre ++ (0 :: (Fr.run f ++ 0 :: post))) (pre.length : Nat) = .ok (Fr.norm f, pre.length + (Fr.run f).length + 2) := by
  have h22 := (Fr.err_open he).2
  have h6 := Fr.run_ge (f := f)
  have hx : ((pre ++ (0 :: (Fr.run f ++ 0 :: post))).drop ((pre.length : Nat) : Int).toNat).take 2202 = 0 :: (Fr.run f ++ 0 :: (post.take (2200 - (Fr.run f).length))) := by
    rw [Int.toNat_natCast, List.drop_left, List.take_succ_cons, List.take_append, List.take_of_length_le (by omega), show 2201 - (Fr.run f).length = (2200 - (Fr.run f).length) + 1 by omega, List.take_succ_cons]
  have hl : (pre ++ (0 :: (Fr.run f ++ 0 :: post))).length = pre.length + ((Fr.run f).length + (post.length + 1) + 1) := by simp
  unfold Sc.at_
  rw [hl, if_neg (by omega), if_neg (by omega), hx, Sc.runOf_mk (fun hc => by rw [hc] at h6; simp at h6) (Fr.run_nz f)]
  simp only [Fr.dec_run he hw]
  rw [Int.toNat_natCast]
theorem goes_step {b : List UInt8} {k n : Nat} {x : Sc.Pos} {f : Fr} (h : Sc.goes b k = some x) (ha : Sc.at_ b x.at_ = .ok (f, n)) (hm : Sc.may x.wk f x.at_ = true) : Sc.goes b (k + 1) = some ⟨n, Sc.take x.wk f x.at_, x.read + Sc.reads b x.at_⟩ := by
  refine Sc.goes_succ h ?_
  unfold Sc.step
  simp only [ha]
  rw [if_pos hm]
/-- one place, one walk -/
theorem goes_at {b : List UInt8} {j k : Nat} {x y : Sc.Pos} (hx : Sc.goes b j = some x) (hy : Sc.goes b k = some y) (h : x.at_ = y.at_) : j = k ∧ x = y := by
  have h1 : j = k := by
    rcases Nat.lt_trichotomy j k with hc | hc | hc
    · have := Rp.goes_le hx hy (Nat.le_of_lt hc); omega
    · exact hc
    · have := Rp.goes_le hy hx (Nat.le_of_lt hc); omega
  subst h1
  rw [hx] at hy
  injection hy with hy
  exact ⟨rfl, hy⟩
def frS : List UInt8 := 0 :: (Fr.run smallF ++ [0])
def frD : List UInt8 := 0 :: (Fr.run dataF ++ [0])
/-- the file that live lays, and what would have come -/
def fullF : List UInt8 := frS ++ (frD ++ (frS ++ frD))
theorem frS_len : frS.length = 14 := by unfold frS; simp [small_len]
theorem frD_len : frD.length = (Fr.run dataF).length + 2 := by unfold frD; simp
theorem norm_kind (f : Fr) (h : f.kind = 1 ∨ f.kind = 2 ∨ f.kind = 3) : (Fr.norm f).kind = f.kind := by
  unfold Fr.norm
  rcases h with h | h | h
  · rw [if_pos h]; exact h.symm
  · rw [if_neg (by omega), if_pos h]; exact h.symm
  · rw [if_neg (by omega), if_neg (by omega)]; exact h.symm
theorem nkS : (Fr.norm smallF).kind = 1 := norm_kind smallF (.inl rfl)
theorem nkD : (Fr.norm dataF).kind = 2 := norm_kind dataF (.inr (.inl rfl))
def wkA : Wk := Sc.take Sc.new (Fr.norm smallF) 0
def wkB : Wk := Sc.take wkA (Fr.norm dataF) 14
theorem err_norm {f : Fr} (he : Fr.err f = 0) (hw : ∀ c ∈ f.cols, c.wf) : Fr.err (Fr.norm f) = 0 := (Fr.dec_ok (Fr.dec_run he hw)).1
theorem may_1 : Sc.may Sc.new (Fr.norm smallF) 0 = true := by
  unfold Sc.may
  rw [err_norm small_err small_wf.2.2.1, show Sc.follows Sc.new (Fr.norm smallF) 0 = true by
    unfold Sc.follows
    rw [if_pos nkS, if_neg (by decide)]
    decide]
  decide
theorem may_2 : Sc.may wkA (Fr.norm dataF) 14 = true := by
  unfold Sc.may
  rw [err_norm data_err data_wf.2.2.1, show Sc.follows wkA (Fr.norm dataF) 14 = true by
    unfold Sc.follows
    rw [if_neg (by rw [nkD]; decide), if_pos nkD]
    exact decide_eq_true ⟨rfl, rfl, rfl⟩]
  decide
theorem may_3 (p : Nat) (hp : p ≤ 1000) : Sc.may wkB (Fr.norm smallF) (p : Nat) = true := by
  have hsame : Sch.same (smallF.cols.map Col.fix) ((smallF.cols.map Col.fix).map Col.fix) = true := (Sch.same_fix _ _).2 (by rw [List.map_map, List.map_map]; exact List.map_congr_left fun c _ => by simp [Fr.col_fix_idem])
  unfold Sc.may
  rw [err_norm small_err small_wf.2.2.1, show Sc.follows wkB (Fr.norm smallF) (p : Nat) = true by
    unfold Sc.follows
    rw [if_pos nkS, if_pos (by decide)]
    exact hsame, Fr.within_iff.2 (by constructor <;> (try unfold Fr.S) <;> omega)]
  decide
theorem full_at1 : Sc.at_ fullF (0 : Nat) = .ok (Fr.norm smallF, 14) := by
  have h := at_mk small_err small_wf.2.2.1 [] (frD ++ (frS ++ frD))
  have e : fullF = [] ++ (0 :: (Fr.run smallF ++ 0 :: (frD ++ (frS ++ frD)))) := by simp [fullF, frS]
  rw [← e, small_len] at h
  exact h
theorem full_at2 : Sc.at_ fullF (14 : Nat) = .ok (Fr.norm dataF, 14 + frD.length) := by
  have h := at_mk data_err data_wf.2.2.1 frS (frS ++ frD)
  have e : fullF = frS ++ (0 :: (Fr.run dataF ++ 0 :: (frS ++ frD))) := by simp [fullF, frD]
  rw [← e, frS_len] at h
  rw [h, frD_len, Nat.add_assoc]
theorem full_at3 : Sc.at_ fullF (14 + frD.length : Nat) = .ok (Fr.norm smallF, 28 + frD.length) := by
  have h := at_mk small_err small_wf.2.2.1 (frS ++ frD) frD
  have e : fullF = (frS ++ frD) ++ (0 :: (Fr.run smallF ++ 0 :: frD)) := by simp [fullF, frS]
  rw [← e, List.length_append, frS_len, small_len] at h
  rw [h]
  have : 14 + frD.length + 12 + 2 = 28 + frD.length := by omega
  rw [this]
theorem full_at4 : Sc.at_ fullF (28 + frD.length : Nat) = .ok (Fr.norm dataF, 28 + frD.length + frD.length) := by
  have h := at_mk data_err data_wf.2.2.1 (frS ++ (frD ++ frS)) []
  have e : fullF = (frS ++ (frD ++ frS)) ++ (0 :: (Fr.run dataF ++ [0])) := by simp [fullF, frD]
  rw [← e, List.length_append, List.length_append, frS_len] at h
  have e1 : 14 + (frD.length + 14) = 28 + frD.length := by omega
  rw [e1] at h
  have e2 : 28 + frD.length + (Fr.run dataF).length + 2 = 28 + frD.length + frD.length := by rw [frD_len]; omega
  rw [h, e2]
theorem full_goes : ∃ r2 r3 w3, Sc.goes fullF 2 = some ⟨14 + frD.length, wkB, r2⟩ ∧ Sc.goes fullF 3 = some ⟨28 + frD.length, w3, r3⟩ ∧ Rp.kept fullF 3 = 14 + frD.length := by
  have g0 : Sc.goes fullF 0 = some Sc.begin_ := rfl
  have a1 : Sc.at_ fullF Sc.begin_.at_ = .ok (Fr.norm smallF, 14) := full_at1
  have g1 := goes_step g0 a1 may_1
  have g2 := goes_step g1 full_at2 may_2
  have hD := data_len
  have hD2 := frD_len
  have g3 := goes_step g2 full_at3 (may_3 (14 + frD.length) (by omega))
  refine ⟨_, _, _, g2, g3, ?_⟩
  rw [Rp.kept_succ g2 full_at3, if_pos nkS, Rp.kept_succ g1 full_at2, if_neg (by rw [nkD]; decide)]
/-- the file that live lays -/
def liveL : List UInt8 := frS ++ frD ++ frS ++ frD.take 5
theorem live_len : liveL.length = 33 + frD.length := by
  have := frD_len
  have := Fr.run_ge (f := dataF)
  unfold liveL
  simp only [List.length_append, List.length_take, frS_len]
  omega
theorem live_take : liveL = fullF.take (33 + frD.length) := by
  have e : fullF = (frS ++ frD ++ frS) ++ frD := by simp [fullF]
  have hl : (frS ++ frD ++ frS).length = 28 + frD.length := by simp only [List.length_append, frS_len]; omega
  rw [e, List.take_append, hl, List.take_of_length_le (by omega), show 33 + frD.length - (28 + frD.length) = 5 by omega]
  rfl
theorem live_goes : ∃ X er y, Sc.goes liveL 3 = some X ∧ Sc.step liveL X = .error er ∧ Rp.look liveL 3 X.at_ er = .ok (14 + frD.length) ∧ Sc.goes liveL 2 = some y ∧ y.at_ = 14 + frD.length ∧ y.wk.frames = 1 ∧ y.wk.rows = 2 := by
  obtain ⟨r2, r3, w3, g2, g3, hk⟩ := full_goes
  have hD2 := frD_len
  have h6 := Fr.run_ge (f := dataF)
  have hfl : fullF.length = 28 + frD.length + frD.length := by simp only [fullF, List.length_append, frS_len]; omega
  obtain ⟨r, er, h1, h2, h3⟩ := Rp.first (n := 33 + frD.length) (by omega) g3 (by show 28 + frD.length ≤ _; omega) full_at4 (by omega)
  obtain ⟨r', h4⟩ := Sc.goes_take (m := 33 + frD.length) (by omega) g2 (by show 14 + frD.length ≤ _; omega)
  rw [← live_take] at h1 h2 h3 h4
  rw [hk] at h3
  exact ⟨_, er, _, h1, h2, h3, h4, rfl, rfl, rfl⟩
/-- behind a repair nothing is to be cut -/
theorem look_done {b : List UInt8} {j : Nat} {X : Sc.Pos} (h : Sc.goes b j = some X) : ∃ m x, Sc.goes (b.take (Rp.kept b j)) m = some x ∧ Sc.step (b.take (Rp.kept b j)) x = .error 140 ∧ Rp.look (b.take (Rp.kept b j)) m x.at_ 140 = .ok (Rp.kept b j) ∧ x.at_ = Rp.kept b j ∧ (b.take (Rp.kept b j)).length = Rp.kept b j ∧ Rp.kept b j ≤ b.length ∧ Rp.kind (b.take (Rp.kept b j)) m ≠ 1 := by
  obtain ⟨m, y, r, hm, hy, e1, hle, h1, h2, h3, h4⟩ := Rp.done h
  refine ⟨m, _, h1, h2, ?_, rfl, by rw [List.length_take]; omega, hle, h4⟩
  unfold Rp.look
  rw [if_neg (fun hc => hc.1 rfl), h3]
theorem look_kept {b : List UInt8} {j p er K : Nat} (h : Rp.look b j p er = .ok K) : K = Rp.kept b j := by
  unfold Rp.look at h
  split at h
  · cases h
  · exact (Except.ok.inj h).symm
theorem look_err {b : List UInt8} {j p er c : Nat} (h : Rp.look b j p er = .error c) : c = 150 := by
  unfold Rp.look at h
  split at h
  · exact (Except.error.inj h).symm
  · cases h
end Go.Proofs.YtmgcfkpmknogaaaGreatDoor

/- A file that is up and whose power is not bound to fail, as the laws of stage 15 use it. -/
namespace Go.Proofs.YtmgcfkpmknogaaaGreatDoor
open Go.RowKit Go.Maps

/-- a file of these bytes, up; at most n deeds were done, n bytes read -/
structure UpD (w : World) (B g : Nat) (v : Value) (b : List UInt8) (n : Nat) : Prop where
  out : ∃ s x k, KDev w B g v s x k ∧ s.b = b ∧ s.down = false ∧ s.bound = false ∧ s.safe ≤ b.length ∧ s.done ≤ n ∧ s.told ≤ n
theorem do_up {s : Dv.St} {K : Nat} (hd : s.down = false) (hb : s.bound = false) (hK : K ≤ s.b.length) (hs : s.safe ≤ s.b.length) : (Rp.do_ s (.ok K)).1 = s.b.length - K ∧ (Rp.do_ s (.ok K)).2.1 = 0 ∧ (Rp.do_ s (.ok K)).2.2.b = s.b.take K ∧ (Rp.do_ s (.ok K)).2.2.down = false ∧ (Rp.do_ s (.ok K)).2.2.bound = false ∧ (Rp.do_ s (.ok K)).2.2.safe ≤ K ∧ (Rp.do_ s (.ok K)).2.2.done ≤ s.done + 1 ∧ (Rp.do_ s (.ok K)).2.2.told = s.told := by
  by_cases h : s.b.length = K
  · rw [do_whole h]
    exact ⟨by omega, rfl, by rw [List.take_of_length_le (by omega)], hd, hb, by show s.safe ≤ K; omega, by show s.done ≤ s.done + 1; omega, rfl⟩
  · have hm : Dv.may s = true := by unfold Dv.may; rw [hb]; rfl
    have e : Dv.cut s (K : Nat) = (0, { Dv.did s with b := s.b.take K, safe := if K < s.safe then K else s.safe }) := by
      unfold Dv.cut
      rw [if_neg (by rw [hd]; simp), if_neg (by omega), if_pos hm, Int.toNat_natCast]
    rw [do_cut h, e, if_pos rfl]
    refine ⟨rfl, rfl, rfl, hd, hb, ?_, Nat.le_refl _, rfl⟩
    show (if K < s.safe then K else s.safe) ≤ K
    split <;> omega

section
variable {w : World} {B g n : Nat} {v : Value} {b : List UInt8}
theorem UpD.aside {w' : World} {F : Nat → Prop} (h : UpD w B g v b n) (ha : Aside F w w') (hg : ¬ F g) (hv : ∀ k, v.ownBlock = some k → ¬ F k) : UpD w' B g v b n := by
  obtain ⟨s, x, k, h1, h2⟩ := h.out
  exact ⟨s, x, k, h1.aside ha hg hv, h2⟩
theorem UpD.below {w' : World} (h : UpD w B g v b n) (hb : Below w.heap.size w w') : UpD w' B g v b n := by
  obtain ⟨s, x, k, h1, h2⟩ := h.out
  exact ⟨s, x, k, h1.below hb, h2⟩
theorem UpD.lt (h : UpD w B g v b n) : B ≤ g ∧ g < w.heap.size := by
  obtain ⟨s, x, k, h1, h2⟩ := h.out
  exact ⟨h1.base, h1.lt⟩
theorem UpD.own (h : UpD w B g v b n) : ∀ i, v.ownBlock = some i → B ≤ i ∧ i < w.heap.size := by
  obtain ⟨s, x, k, h1, h2⟩ := h.out
  exact h1.has.lt
theorem UpD.len (h : UpD w B g v b n) : Calls Tryz.prog 49 #[.pointer (some ⟨g, 0, none⟩)] w fun e w' => e = .returned (.int .i64 (b.length : Nat)) ∧ w' = w := by
  obtain ⟨s, x, k, h1, h2, -⟩ := h.out
  rw [← h2]
  exact kLen h1
theorem UpD.all (h : UpD w B g v b n) (hl : b.length ≤ 2097152) : Calls Tryz.prog 17 #[.pointer (some ⟨g, 0, none⟩)] w fun e w' => ∃ q cap, e = .returned (.slice q b.length cap) ∧ Has w' w.heap.size (.slice q b.length cap) b ∧ Below w.heap.size w w' := by
  obtain ⟨s, x, k, h1, h2, -⟩ := h.out
  rw [← h2] at hl ⊢
  exact kAll h1 hl
theorem UpD.whole {G : Nat → Prop} (h : UpD w B g v b n) (hn : n ≤ 90000000000) (hl : b.length ≤ 2097152) (hv : Hv w) (hB : 3 < B) (hG : ∀ i, i = g ∨ v.ownBlock = some i → G i) (hGl : ∀ i, G i → i < w.heap.size) {j er : Nat} {X : Sc.Pos} (hgo : Sc.goes b j = some X) (hst : Sc.step b X = .error er) :
    Calls Tryz.prog 27 #[.pointer (some ⟨g, 0, none⟩)] w fun e w' => e = .returned (.tuple #[.pointer (some ⟨w.heap.size + 1, 0, none⟩), .int .i64 (X.at_ : Nat), .int .i64 (er : Nat)]) ∧ (∃ v' g', KWalk w' w.heap.size (w.heap.size + 1) w.heap.size (j + 1) v' g' X.wk G) ∧ UpD w' B g v b (n + 4000000000) ∧ Aside (fun i => i = g) w w' := by
  obtain ⟨s, x, k, h1, rfl, h3, h4, h5, h6, h7⟩ := h.out
  obtain ⟨hgd, hat, h8, hrd⟩ := Sc.goes_good hgo
  have hrl := Sc.reads_le s.b X.at_
  refine (kWhole h1 h3 hl (by omega) hv hB (by have := h1.base; have := h1.lt; omega) hG hGl).mono ?_
  rintro e w' ⟨j2, X2, er2, v', g', q1, q2, q3, q4, q5, q6⟩
  obtain ⟨rfl, rfl, rfl⟩ := Sc.goes_uniq hgo hst q1 q2
  exact ⟨q3, ⟨v', g', q4⟩, ⟨_, x, k, q5, rfl, h3, h4, h5, by show s.done ≤ _; omega, by show s.told + X.read + Sc.reads s.b X.at_ ≤ _; omega⟩, q6⟩
theorem UpD.at (h : UpD w B g v b n) (hn : n ≤ 90000000000) (hl : b.length ≤ 2097152) (hv : Hv w) (hB : 3 < B) (p : Int) :
    Calls Tryz.prog 28 #[.pointer (some ⟨g, 0, none⟩), .int .i64 p] w fun e w' => AtA (Sc.at_ b p) w e w' ∧ UpD w' B g v b (n + 2202) ∧ Aside (fun i => i = g) w w' := by
  obtain ⟨s, x, k, h1, rfl, h3, h4, h5, h6, h7⟩ := h.out
  have hrl := Sc.reads_le s.b p
  refine (kAt h1 h3 hl (by omega) hv hB p).mono ?_
  rintro e w' ⟨q1, q2, q3⟩
  exact ⟨q1, ⟨_, x, k, q2, rfl, h3, h4, h5, by show s.done ≤ _; omega, by show s.told + Sc.reads s.b p ≤ _; omega⟩, q3⟩
theorem UpD.look (h : UpD w B g v b n) (hn : n ≤ 90000000000) (hl : b.length ≤ 2097152) (hv : Hv w) (he : He w) (hB : 3 < B) {j er : Nat} {X : Sc.Pos} (hgo : Sc.goes b j = some X) (hst : Sc.step b X = .error er) :
    Calls Tryz.prog 14 #[.pointer (some ⟨g, 0, none⟩)] w fun e w' => LookA b (fun i => i = g ∨ v.ownBlock = some i) (fun c => .int .i64 (c : Nat)) (.int .i64 0) w (Rp.look b j X.at_ er) e w' ∧ UpD w' B g v b (n + 4000000000) ∧ Aside (fun i => i = g) w w' := by
  obtain ⟨s, x, k, h1, rfl, h3, h4, h5, h6, h7⟩ := h.out
  refine (kLook h1 h3 hl (by omega) hv he hB hgo hst).mono ?_
  rintro e w' ⟨q1, t, q2, q3, q4⟩
  exact ⟨q1, ⟨_, x, k, q3, rfl, h3, h4, h5, by show s.done ≤ _; omega, by show t ≤ _; omega⟩, q4⟩
/-- what a call leaves: the file, nothing else touched but its own blocks -/
def Left (w : World) (B g : Nat) (v : Value) (b : List UInt8) (n : Nat) (w' : World) : Prop := ∃ v', UpD w' B g v' b n ∧ Aside (fun i => i = g ∨ v.ownBlock = some i) w w' ∧ ∀ i, v'.ownBlock = some i → v.ownBlock = some i ∨ w.heap.size ≤ i
theorem UpD.doOk (h : UpD w B g v b n) (hn : n ≤ 90000000000) (hl : b.length ≤ 2097152) (hv : Hv w) (he : He w) (hB : 3 < B) {j er K : Nat} {X : Sc.Pos} (hgo : Sc.goes b j = some X) (hst : Sc.step b X = .error er) (hlk : Rp.look b j X.at_ er = .ok K) (hK : K ≤ b.length) :
    Calls Tryz.prog 20 #[.pointer (some ⟨g, 0, none⟩)] w fun e w' => e = .returned (.tuple #[.int .i64 (b.length - K : Nat), .int .i64 0]) ∧ Left w B g v (b.take K) (n + 4000000001) w' := by
  obtain ⟨s, x, k, h1, rfl, h3, h4, h5, h6, h7⟩ := h.out
  have hD := kDo h1 h3 hl h5 (by omega) (by omega) hv he hB hgo hst
  rw [hlk] at hD
  refine hD.mono ?_
  rintro e w' ⟨q1, t, v', x', k', q2, q3, q4, q5⟩
  obtain ⟨a1, a2, -⟩ := do_up h3 h4 hK h5
  obtain ⟨-, -, a3, a4, a5, a6, a7, a8⟩ := do_up (s := { s with told := t }) h3 h4 hK h5
  rw [a1, a2] at q1
  refine ⟨q1, v', ⟨_, x', k', q3, a3, a4, a5, by rw [List.length_take]; omega, ?_, ?_⟩, q4, q5⟩
  · have : (Rp.do_ { s with told := t } (.ok K)).2.2.done ≤ s.done + 1 := a7
    omega
  · have : (Rp.do_ { s with told := t } (.ok K)).2.2.told = t := a8
    omega
theorem UpD.doErr (h : UpD w B g v b n) (hn : n ≤ 90000000000) (hl : b.length ≤ 2097152) (hv : Hv w) (he : He w) (hB : 3 < B) {j er : Nat} {X : Sc.Pos} (hgo : Sc.goes b j = some X) (hst : Sc.step b X = .error er) (hlk : Rp.look b j X.at_ er = .error 150) :
    Calls Tryz.prog 20 #[.pointer (some ⟨g, 0, none⟩)] w fun e w' => e = .returned (.tuple #[.int .i64 0, .int .i64 150]) ∧ Left w B g v b (n + 4000000001) w' := by
  obtain ⟨s, x, k, h1, rfl, h3, h4, h5, h6, h7⟩ := h.out
  have hD := kDo h1 h3 hl h5 (by omega) (by omega) hv he hB hgo hst
  rw [hlk] at hD
  refine hD.mono ?_
  rintro e w' ⟨q1, t, v', x', k', q2, q3, q4, q5⟩
  exact ⟨q1, v', ⟨_, x', k', q3, rfl, h3, h4, h5, by show s.done ≤ _; omega, by show t ≤ _; omega⟩, q4, q5⟩
end
/-- the same, of this quota -/
structure UpW (w : World) (B g : Nat) (v : Value) (b : List UInt8) (n m : Nat) : Prop where
  out : ∃ s x k, KDev w B g v s x k ∧ s.b = b ∧ s.down = false ∧ s.bound = false ∧ s.safe ≤ b.length ∧ s.done ≤ n ∧ s.told ≤ n ∧ s.most = m
theorem UpW.up {w : World} {B g n m : Nat} {v : Value} {b : List UInt8} (h : UpW w B g v b n m) : UpD w B g v b n := by
  obtain ⟨s, x, k, h1, h2, h3, h4, h5, h6, h7, h8⟩ := h.out
  exact ⟨s, x, k, h1, h2, h3, h4, h5, h6, h7⟩
/-- while live lays its file: all that was there ahead of it is as it was -/
structure LvW (w w5 W : World) (b : List UInt8) (n : Nat) : Prop where
  out : ∃ v, UpW W w.heap.size w.heap.size v b n 200 ∧ (∀ i, v.ownBlock = some i → w5.heap.size ≤ i) ∧ Aside (fun i => i = w.heap.size) w5 W
theorem LvW.write {w w5 W : World} {b : List UInt8} {n : Nat} (h : LvW w w5 W b n) (hn : n ≤ 90000000000) (hw : w.heap.size < w5.heap.size) (p : Option Addr) (c : Nat) (l : List UInt8) (hA : At w5 p l) (hp : ∀ i o, p = some ⟨i, o, none⟩ → i ≠ w.heap.size ∧ i < w5.heap.size) (hm : b.length + l.length ≤ 200) :
    Calls Tryz.prog 47 #[.pointer (some ⟨w.heap.size, 0, none⟩), .slice p l.length c] W fun e w' => e = .returned (.int .i64 0) ∧ LvW w w5 w' (b ++ l) (n + l.length) := by
  obtain ⟨v, hU, ho, ha⟩ := h.out
  obtain ⟨s, x, k, h1, rfl, h3, h4, h5, h6, h7, h8⟩ := hU.out
  have hsz := ha.size
  refine (kWrite h1 p c l (by omega) (hA.aside ha (fun i o hi hc => (hp i o hi).1 hc)) (fun _ i o hi hc => ?_) h5 (by omega) (by omega) (by omega) (by omega)).mono ?_
  · rcases hc with hc | hc
    · exact (hp i o hi).1 hc
    · have := ho i hc
      have := (hp i o hi).2
      omega
  have e1 : Dv.write s l = (0, { s with b := s.b ++ l, done := s.done + l.length }) := by
    unfold Dv.write
    rw [if_neg (by rw [h3]; simp), if_neg (fun hc => by omega), Dv.lay_free l s h4]
    rfl
  rw [e1]
  rintro e w' ⟨q1, v', x', k', q2, q3, q4⟩
  refine ⟨q1, v', ⟨_, x', k', q2, rfl, h3, h4, by show s.safe ≤ (s.b ++ l).length; rw [List.length_append]; omega, by show s.done + l.length ≤ _; omega, by show s.told ≤ _; omega, h8⟩, fun i hi => ?_, ha.trans q3 (fun i hi hc => ?_)⟩
  · rcases q4 i hi with hc | hc
    · exact ho i hc
    · omega
  · rcases hc with hc | hc
    · exact hc
    · have := ho i hc
      omega
end Go.Proofs.YtmgcfkpmknogaaaGreatDoor
