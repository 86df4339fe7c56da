/- WLive7, LKeep, Last: put together. -/
import Derived.Test.YtnjggejallnkoaaM17
import Derived.Test.YtnjggejallnkoaaM15
import Derived.Deep.RegionHeld3

/- The law's own small(), live(). -/
namespace Go.Proofs.Ytnjggejallnkoaa
open Go.RowKit

attribute [local go_sem] run_store_float

/-- the chapter's example -/
def smallA : Col := ⟨⟨#[97]⟩, .mk 2 [], false, V0⟩
def smallB : Col := ⟨⟨#[98]⟩, .mk 6 [.mk 4 []], true, .mk 6 0 0 ⟨#[]⟩ []⟩
def smallS : List Col := [smallA, smallB]

theorem tl_leaf (w : World) (k : Int) (p : Option Addr) (c : Nat) : TLies w (cells2 k p 0 c) (.mk k []) := .mk (xs := []) (fun _ => #[]) (by simp) (by simp) (fun hc => absurd rfl hc) (fun j hj => by simp at hj)
theorem vl_leaf (w : World) (k i : Int) (b : Nat) (t : ByteArray) (p : Option Addr) (c : Nat) : VLies w (cells5 k i b t p 0 c) (.mk k i b t []) := .mk (xs := []) (fun _ => #[]) (by simp) (by simp) (fun hc => absurd rfl hc) (fun j hj => by simp at hj)
theorem tl_one {w : World} {g : Nat} {u : Array Value} {T : TypeId} {x : Ty} (hg : w.heap[g]? = some (.cells u T (0, 0))) (hx : TLies w u x) (k : Int) : TLies w (cells2 k (some ⟨g, 0, none⟩) 1 1) (.mk k [x]) := by
  refine .mk (xs := [x]) (fun _ => u) (by simp) (by simp) (fun _ => ⟨g, 0, rfl, (Array.getElem?_eq_some_iff.1 hg).1, fun j hj m hm => ?_⟩) (fun j hj => ?_)
  · have hj0 : j = 0 := by simp at hj; omega
    subst hj0
    simp [World.cell?, hg]
  · have hj0 : j = 0 := by simp at hj; omega
    subst hj0
    exact hx

theorem smallA_err : Sch.colErr [] smallA = 0 := by
  refine Sch.col_make (by kernel_rfl) rfl (Sch.ty_leaf (by omega) (by omega) (by omega)) (fun _ => Sch.v0_fix) (fun h => by cases h)
theorem smallB_err : Sch.colErr [smallA] smallB = 0 := by
  refine Sch.col_make (by kernel_rfl) (by kernel_rfl) (Sch.ty_one (by omega) (by omega) (Sch.ty_leaf (by omega) (by omega) (by omega))) (fun h => by cases h) (fun _ => ⟨?_, ?_⟩)
  · exact Sch.chk_make (by omega) (by kernel_rfl) (Nat.zero_le _) (by simp) (fun h => by cases h) (fun x hx => by cases hx)
  · show Sch.of (.mk 6 0 0 ⟨#[]⟩ []) _ = true
    rw [Sch.of_mk]
    rfl
theorem small_bytes : Sch.bytes smallS = [2, 1, 97, 2, 0, 1, 98, 6, 4, 1, 0] := by
  unfold Sch.bytes smallS smallA smallB Sch.cB
  simp only [List.map_cons, List.map_nil, Sch.tyB_mk, Sch.vB_mk]
  kernel_rfl
theorem small_err : Sch.err smallS = 0 := Sch.err_make (by decide) (by decide) (by
  unfold smallS
  rw [Sch.colsErr, if_pos smallA_err, Sch.colsErr, List.nil_append, if_pos smallB_err, Sch.colsErr]) (by rw [small_bytes]; decide)
theorem small_wf : ∀ c ∈ smallS, c.wf := by
  intro c hc
  unfold smallS at hc
  rcases List.mem_cons.1 hc with rfl | hc
  · exact ⟨by decide, Ty.wf_mk.2 ⟨by omega, fun x hx => by cases hx⟩, Sch.v0_wf⟩
  · rcases List.mem_cons.1 hc with rfl | hc
    · exact ⟨by decide, Ty.wf_mk.2 ⟨by omega, fun x hx => by
        rcases List.mem_cons.1 hx with rfl | hx
        · exact Ty.wf_mk.2 ⟨by omega, fun x hx => by cases hx⟩
        · cases hx⟩, V.wf_mk.2 ⟨by omega, by omega, by omega, Nat.zero_le _, fun x hx => by cases hx⟩⟩
    · cases hc
theorem small_fix : smallS.map Col.fix = smallS := by
  unfold smallS smallA smallB
  simp only [List.map_cons, List.map_nil, Col.fix, Sch.v0_fix, V.fix_mk, Sch.fixB_zero]
  rfl
theorem small_read : Sch.read [2, 1, 97, 2, 0, 1, 98, 6, 4, 1, 0] = .ok smallS := by
  rw [← small_bytes, Sch.read_put small_err small_wf, small_fix]
theorem none_read : Sch.read [] = .error 30 := by kernel_rfl
theorem small_find : Sch.find ⟨#[98]⟩ smallS 0 = some 1 := by
  unfold smallS
  rw [Sch.find, if_neg (by decide), Sch.find]
  exact if_pos rfl
theorem small_same : Sch.same smallS smallS = true := (Sch.same_fix _ _).2 rfl
theorem small_whole : wholeL smallS smallS = true := (wholeL_iff _ _).2 rfl
theorem none_err : Sch.err [] = 4 := by kernel_rfl

set_option maxRecDepth 100000 in
set_option maxHeartbeats 1000000 in
theorem small7 (w : World) : Calls Try.prog 27 #[] w fun e w' => ∃ p c, e = .returned (.agg #[.slice p 2 c]) ∧ Cols w' p smallS ∧ 2 ≤ c ∧ Below w.heap.size w w' := by
  obtain ⟨W, hW⟩ : ∃ W, W = (((w.alloc (.cells #[.slice (some ⟨w.heap.size + 1 + 1 + 1, 0, none⟩) 2 2] 31)).alloc (.cells #[.int .i64 4, .slice none 0 0] 28)).alloc (.cells #[.int .i64 6, .slice (some ⟨w.heap.size + 1, 0, none⟩) 1 1] 28)).alloc (.cells #[.string ⟨#[97]⟩, .int .i64 2, .slice none 0 0, .bool false, .int .i64 0, .int .i64 0, .float .f64 0, .string ⟨#[]⟩, .slice none 0 0, .string ⟨#[98]⟩, .int .i64 6, .slice (some ⟨w.heap.size + 1, 0, none⟩) 1 1, .bool true, .int .i64 6, .int .i64 0, .float .f64 0, .string ⟨#[]⟩, .slice none 0 0] 55) := ⟨_, rfl⟩
  have hs : W.heap.size = w.heap.size + 4 := by rw [hW]; simp
  have HB : Hid (Below w.heap.size w W) := by rw [hW]; exact ((((Below.refl _ _).alloc (Nat.le_refl _) _).alloc (by simp) _).alloc (by simp; omega) _).alloc (by simp; omega) _
  have h0 : W.heap[w.heap.size]? = some (.cells #[.slice (some ⟨w.heap.size + 1 + 1 + 1, 0, none⟩) 2 2] 31 (0, 0)) := by
    rw [hW, blk_old _ _ (by simp; omega), blk_old _ _ (by simp; omega), blk_old _ _ (by simp)]
    exact blk_new w _
  have h1 : W.heap[w.heap.size + 1]? = some (.cells #[.int .i64 4, .slice none 0 0] 28 (0, 0)) := by
    rw [hW, blk_old _ _ (by simp), blk_old _ _ (by simp)]
    exact blk_second w _ _
  have h3 : ∀ m, W.cell? ⟨w.heap.size + 1 + 1 + 1, m, none⟩ = (#[.string ⟨#[97]⟩, .int .i64 2, .slice none 0 0, .bool false, .int .i64 0, .int .i64 0, .float .f64 0, .string ⟨#[]⟩, .slice none 0 0, .string ⟨#[98]⟩, .int .i64 6, .slice (some ⟨w.heap.size + 1, 0, none⟩) 1 1, .bool true, .int .i64 6, .int .i64 0, .float .f64 0, .string ⟨#[]⟩, .slice none 0 0] : Array Value)[m]? := fun m => by
    refine blk_cell (T := 55) (fr := (0, 0)) ?_ m
    rw [hW]
    have := blk_new (((w.alloc (.cells #[.slice (some ⟨w.heap.size + 1 + 1 + 1, 0, none⟩) 2 2] 31)).alloc (.cells #[.int .i64 4, .slice none 0 0] 28)).alloc (.cells #[.int .i64 6, .slice (some ⟨w.heap.size + 1, 0, none⟩) 1 1] 28)) (.cells #[.string ⟨#[97]⟩, .int .i64 2, .slice none 0 0, .bool false, .int .i64 0, .int .i64 0, .float .f64 0, .string ⟨#[]⟩, .slice none 0 0, .string ⟨#[98]⟩, .int .i64 6, .slice (some ⟨w.heap.size + 1, 0, none⟩) 1 1, .bool true, .int .i64 6, .int .i64 0, .float .f64 0, .string ⟨#[]⟩, .slice none 0 0] 55)
    simpa using this
  have hcols : Cols W (some ⟨w.heap.size + 1 + 1 + 1, 0, none⟩) smallS := by
    intro j hj
    have hj2 : j < 2 := hj
    rcases (show j = 0 ∨ j = 1 by omega) with rfl | rfl
    · refine ⟨cells9 ⟨#[97]⟩ 2 none 0 0 false 0 0 0 ⟨#[]⟩ none 0 0, ⟨2, none, 0, 0, 0, 0, 0, ⟨#[]⟩, none, 0, 0, rfl, tl_leaf W 2 none 0, v0_lies W none 0⟩, ⟨w.heap.size + 1 + 1 + 1, 0, ⟨#[97]⟩, 2, none, 0, 0, false, 0, 0, 0, ⟨#[]⟩, none, 0, 0, rfl, by omega, rfl, ?_⟩⟩
      exact ⟨h3 0, h3 1, h3 2, h3 3, h3 4, h3 5, h3 6, h3 7, h3 8⟩
    · refine ⟨cells9 ⟨#[98]⟩ 6 (some ⟨w.heap.size + 1, 0, none⟩) 1 1 true 6 0 0 ⟨#[]⟩ none 0 0, ⟨6, some ⟨w.heap.size + 1, 0, none⟩, 1, 1, 6, 0, 0, ⟨#[]⟩, none, 0, 0, rfl, tl_one h1 (tl_leaf W 4 none 0) 6, vl_leaf W 6 0 0 ⟨#[]⟩ none 0⟩, ⟨w.heap.size + 1 + 1 + 1, 0, ⟨#[98]⟩, 6, some ⟨w.heap.size + 1, 0, none⟩, 1, 1, true, 6, 0, 0, ⟨#[]⟩, none, 0, 0, rfl, by omega, rfl, ?_⟩⟩
      exact ⟨h3 9, h3 10, h3 11, h3 12, h3 13, h3 14, h3 15, h3 16, h3 17⟩
  have HC := Lib.hid hcols
  have H0 := Lib.hid h0
  have HW := Lib.hid hW
  clear hcols h0 h1 h3 hs hW
  go_enter Try.func27, Try.ntmps27
  go_wp2
  rw [← HW.out]
  refine bodyPost_ret (results_cell_row rfl _ _ w.heap.size _ _ _ _ rfl H0.out Try.underlying31 rfl (by kernel_rfl)) rfl ?_
  exact ⟨_, _, rfl, HC.out, Nat.le_refl _, HB.out⟩

set_option maxRecDepth 100000 in
set_option maxHeartbeats 2000000 in
theorem schemaLive_ok {I : World → Prop} (K : SchemaOk I) (w : World) (hI : I w) : Calls Try.prog 9 #[] w fun e w' => e = .returned (.bool true) ∧ Below w.heap.size w w' := by
  have HK := Lib.hid K
  have HI := Lib.hid hI
  clear hI K
  go_enter Try.func9, Try.ntmps9
  go_wp2_with fail
  refine (small7 _).mono ?_
  rintro e w1 ⟨p1, c1, rfl, hc1, hn1, hb1⟩
  have HB1 := Lib.hid hb1
  have hE := HK.out.encode smallS p1 c1 w1 (by decide) hn1 hc1 small_wf (HK.out.on HI.out hb1)
  simp only [small_err, if_true, small_bytes] at hE
  have HEn := Lib.hid hE
  clear hE hc1 hb1
  go_wp2_with fail
  refine HEn.out.mono ?_
  rintro e w2 ⟨q2, cap2, rfl, hat2, hn2, hb2⟩
  have HB2 := Lib.hid (HB1.out.trans (hb2.mono HB1.out.size))
  have hD := HK.out.decode q2 [2, 1, 97, 2, 0, 1, 98, 6, 4, 1, 0] cap2 w2 (by decide) hn2 hat2 (HK.out.on HI.out HB2.out)
  rw [small_read] at hD
  have HD := Lib.hid hD
  have HAt2 := Lib.hid hat2
  clear hD hb2 hat2 HEn
  go_wp2_with fail
  refine HD.out.mono ?_
  rintro e w3 ⟨u3, rfl, hso, hb3⟩
  obtain ⟨p3, c3, rfl, hl3, hc3, hcols3⟩ := hso.lies.out
  have HB3 := Lib.hid (HB2.out.trans (hb3.mono HB2.out.size))
  have HAt3 := Lib.hid (HAt2.out.on hb3)
  have HC3 := Lib.hid hcols3
  have hc3' : 2 ≤ c3 := hc3
  obtain ⟨wa, hwa⟩ : ∃ wa, wa = w3.alloc (.cells #[.slice p3 2 c3] 31) := ⟨_, rfl⟩
  have hba : Below w3.heap.size w3 wa := by rw [hwa]; exact (Below.refl _ _).alloc (Nat.le_refl _) _
  have hca : wa.cell? ⟨w3.heap.size, 0, none⟩ = some (.slice p3 2 c3) := by rw [hwa]; simp
  have HBa := Lib.hid (HB3.out.trans (hba.mono HB3.out.size))
  have HB3a := Lib.hid hba
  have HCa := Lib.hid hca
  have hD := HK.out.decode none [] 0 wa (by decide) (Nat.le_refl _) (.inl rfl) (HK.out.on HI.out HBa.out)
  rw [none_read] at hD
  have HD2 := Lib.hid hD
  have HWa := Lib.hid hwa
  have hsl : smallS.length = 2 := rfl
  rw [hsl]
  clear hD hso hb3 hwa hba hca hl3 hc3 hcols3 HD HAt2 hn2 hsl
  go_wp2_with fail
  rw [← HWa.out]
  clear HWa
  refine HD2.out.mono ?_
  rintro e w4 ⟨rfl, hb4⟩
  have HB4 := Lib.hid (HBa.out.trans (hb4.mono HBa.out.size))
  have HBa4 := Lib.hid hb4
  clear hb4 HD2
  go_wp2_with fail
  have hb4a : Below w4.heap.size w4 (w4.alloc (.cells #[.slice none 0 0] 31)) := (Below.refl _ _).alloc (Nat.le_refl _) _
  refine (small7 _).mono ?_
  rintro e w5 ⟨p5, c5, rfl, hc5, hn5, hb5⟩
  have hb45 : Below w4.heap.size w4 w5 := hb4a.trans (hb5.mono hb4a.size)
  have HB5 := Lib.hid (HB4.out.trans (hb45.mono HB4.out.size))
  have HBa5 := Lib.hid (HBa4.out.trans (hb45.mono HBa4.out.size))
  have hF := HK.out.find smallS ⟨#[98]⟩ p5 c5 w5 (by decide) hn5 (by decide) hc5 small_wf (HK.out.on HI.out HB5.out)
  rw [small_find] at hF
  have HFn := Lib.hid hF
  clear hF hc5 hn5 hb4a hb5 hb45
  go_wp2_with fail
  refine HFn.out.mono ?_
  rintro e w6 ⟨rfl, hb6⟩
  have HB6 := Lib.hid (HB5.out.trans (hb6.mono HB5.out.size))
  have HBa6 := Lib.hid (HBa5.out.trans (hb6.mono HBa5.out.size))
  clear hb6 HFn
  simp only [foundV]
  obtain ⟨W, hW⟩ : ∃ W, W = w6.alloc (.cells #[.int .u8 2, .int .u8 1, .int .u8 97, .int .u8 2, .int .u8 0, .int .u8 1, .int .u8 98, .int .u8 6, .int .u8 4, .int .u8 1, .int .u8 0] 5) := ⟨_, rfl⟩
  have hbW : Below w6.heap.size w6 W := by rw [hW]; exact (Below.refl _ _).alloc (Nat.le_refl _) _
  have hlit : At W (some ⟨w6.heap.size, 0, none⟩) [2, 1, 97, 2, 0, 1, 98, 6, 4, 1, 0] := by rw [hW]; exact (has_lit (B := 0) (w := w6) [2, 1, 97, 2, 0, 1, 98, 6, 4, 1, 0] rfl (Nat.zero_le _) (by decide)).here
  have HW := Lib.hid hW
  obtain ⟨G, hG⟩ : ∃ G : World → Prop, G = fun w' => Below W.heap.size W w' := ⟨_, rfl⟩
  have hGs : ∀ w' w'', G w' → Below w'.heap.size w' w'' → G w'' := fun w' w'' h1 h2 => by rw [hG] at h1 ⊢; exact h1.trans (h2.mono h1.size)
  have hGd : ∀ w', G w' → G w'.drew := fun w' h1 => by rw [hG] at h1 ⊢; exact h1.drew
  have hGn : ∀ w' n, G w' → G (w'.drewN n) := fun w' n h1 => by rw [hG] at h1 ⊢; exact below_drewN h1 n
  have hG0 : G W := by rw [hG]; exact Below.refl _ _
  have HGw : Hid (∀ w', G w' → I w' ∧ At w' q2 [2, 1, 97, 2, 0, 1, 98, 6, 4, 1, 0] ∧ At w' (some ⟨w6.heap.size, 0, none⟩) [2, 1, 97, 2, 0, 1, 98, 6, 4, 1, 0] ∧ Cols w' p3 smallS ∧ Below w.heap.size w w') := fun w' h => by
    rw [hG] at h
    have h6 : Below w6.heap.size w6 w' := hbW.trans (h.mono hbW.size)
    have ha : Below wa.heap.size wa w' := HBa6.out.trans (h6.mono HBa6.out.size)
    have h3 : Below w3.heap.size w3 w' := HB3a.out.trans (ha.mono HB3a.out.size)
    have hw : Below w.heap.size w w' := HB6.out.trans (h6.mono HB6.out.size)
    exact ⟨HK.out.on HI.out hw, HAt3.out.on h3, hlit.on h, HC3.out.on h3, hw⟩
  have HCell : Hid (∀ w', G w' → w'.cell? ⟨w3.heap.size, 0, none⟩ = some (.slice p3 2 c3)) := fun w' h => by
    rw [hG] at h
    have h6 : Below w6.heap.size w6 w' := hbW.trans (h.mono hbW.size)
    exact cell_on (HBa6.out.trans (h6.mono HBa6.out.size)) HCa.out
  have HSame : Hid (∀ w', G w' → Calls Try.prog 29 #[.slice q2 11 cap2, .slice (some ⟨w6.heap.size, 0, none⟩) 11 11] w' fun e w'' => e = .returned (.bool true) ∧ G w'') := fun w' h => by
    obtain ⟨-, h1, h2, -⟩ := HGw.out w' h
    refine (same_any q2 (some ⟨w6.heap.size, 0, none⟩) cap2 11 [2, 1, 97, 2, 0, 1, 98, 6, 4, 1, 0] [2, 1, 97, 2, 0, 1, 98, 6, 4, 1, 0] (by decide) w' h1 h2).mono ?_
    rintro e w'' ⟨rfl, n, rfl⟩
    exact ⟨by simp, hGn _ n h⟩
  have HSmall : Hid (∀ w', G w' → Calls Try.prog 27 #[] w' fun e w'' => ∃ p c, e = .returned (.agg #[.slice p 2 c]) ∧ Cols w'' p smallS ∧ 2 ≤ c ∧ G w'') := fun w' h => by
    refine (small7 w').mono ?_
    rintro e w'' ⟨p, c, rfl, h1, h2, h3⟩
    exact ⟨p, c, rfl, h1, h2, hGs _ _ h h3⟩
  have HWh : Hid (∀ w' p c, G w' → Cols w' p smallS → Calls Try.prog 15 #[.agg #[.slice p3 2 c3], .agg #[.slice p 2 c]] w' fun e w'' => e = .returned (.bool true) ∧ G w'') := fun w' p c h hc => by
    obtain ⟨-, -, -, h1, -⟩ := HGw.out w' h
    refine (whole7 smallS smallS p3 p c3 c w' (by decide) h1 hc).mono ?_
    rintro e w'' ⟨rfl, h3⟩
    exact ⟨by rw [small_whole], hGs _ _ h h3⟩
  have HSm : Hid (∀ w' p c, G w' → Cols w' p smallS → 2 ≤ c → Calls Try.prog 23 #[.agg #[.slice p3 2 c3], .agg #[.slice p 2 c]] w' fun e w'' => e = .returned (.bool true) ∧ G w'') := fun w' p c h hc h2 => by
    obtain ⟨hi, -, -, h1, -⟩ := HGw.out w' h
    refine (HK.out.same smallS smallS p3 p c3 c w' (by decide) (by decide) hc3' h2 h1 hc small_wf small_wf hi).mono ?_
    rintro e w'' ⟨rfl, h3⟩
    exact ⟨by rw [small_same], hGs _ _ h h3⟩
  have HCh : Hid (∀ w', G w' → Calls Try.prog 13 #[.agg #[.slice none 0 0]] w' fun e w'' => e = .returned (.int .i64 4) ∧ G w'') := fun w' h => by
    obtain ⟨hi, -⟩ := HGw.out w' h
    refine (HK.out.check [] none 0 w' (by decide) (Nat.le_refl _) (fun j hj => by simp at hj) (fun x hx => by cases hx) hi).mono ?_
    rintro e w'' ⟨rfl, h3⟩
    exact ⟨by rw [none_err]; rfl, hGs _ _ h h3⟩
  have HFin : Hid (∀ w', G w' → Below w.heap.size w w') := fun w' h => (HGw.out w' h).2.2.2.2
  have hcW := HCell.out W hG0
  clear hW hbW hlit hG hGs HGw hGn
  go_wp2_with fail
  rw [← HW.out]
  clear HW
  go_region_held3 (fun w' => w'.cell? ⟨w3.heap.size, 0, none⟩ = some (.slice p3 2 c3) ∧ G w') (first | go_keep | exact ⟨by assumption, by assumption⟩ | (refine ⟨?_, ?_⟩ <;> first | assumption | (simp; assumption) | exact hGd _ (by assumption))) (first
    | (go_at_call 29; refine (HSame.out _ (by first | assumption | exact hGd _ (by assumption))).mono ?_; rintro e wq ⟨rfl, hGq⟩; have hcq := HCell.out _ hGq)
    | (go_at_call 27; refine (HSmall.out _ (by first | assumption | exact hGd _ (by assumption))).mono ?_; rintro e wq ⟨pq, cq, rfl, hcols, hcq2, hGq⟩; have hcq := HCell.out _ hGq; have HCq := Lib.hid hcols; clear hcols)
    | (go_at_call 15; refine (HWh.out _ _ _ (by assumption) HCq.out).mono ?_; rintro e wq ⟨rfl, hGq⟩; have hcq := HCell.out _ hGq)
    | (go_at_call 23; refine (HSm.out _ _ _ (by assumption) HCq.out (by assumption)).mono ?_; rintro e wq ⟨rfl, hGq⟩; have hcq := HCell.out _ hGq)
    | (go_at_call 13; refine (HCh.out _ (by assumption)).mono ?_; rintro e wq ⟨rfl, hGq⟩; have hcq := HCell.out _ hGq)
    | fail)
  go_wp2
  go_ret
  exact ⟨rfl, HFin.out _ hGq⟩
end Go.Proofs.Ytnjggejallnkoaa

/- Calls that keep what a law holds on to. -/
namespace Go.Proofs.Ytnjggejallnkoaa
open Go.RowKit

theorem keepG {w w2 : World} {G : World → Prop} {f : Nat} {xs : Array Value} {v : Value} (hG : G = fun w' => Below w2.heap.size w2 w') (hb2 : Below w.heap.size w w2)
    (h : ∀ w', Below w.heap.size w w' → Calls Try.prog f xs w' fun e w'' => e = .returned v ∧ Below w'.heap.size w' w'') :
    ∀ w', G w' → Calls Try.prog f xs w' fun e w'' => e = .returned v ∧ G w'' := fun w' hg => by
  subst hG
  refine (h w' (hb2.trans (hg.mono hb2.size))).mono ?_
  rintro e w'' ⟨rfl, h3⟩
  exact ⟨rfl, hg.trans (h3.mono hg.size)⟩
theorem keepG_drew {w2 : World} {G : World → Prop} (hG : G = fun w' => Below w2.heap.size w2 w') : ∀ w', G w' → G w'.drew := fun w' h1 => by rw [hG] at h1 ⊢; exact h1.drew
theorem keepG_fin {w w2 : World} {G : World → Prop} (hG : G = fun w' => Below w2.heap.size w2 w') (hb2 : Below w.heap.size w w2) : ∀ w', G w' → Below w.heap.size w w' := fun w' h => by
  rw [hG] at h; exact hb2.trans (h.mono hb2.size)
theorem keepG_cell {w2 : World} {G : World → Prop} (hG : G = fun w' => Below w2.heap.size w2 w') {a : Addr} {v : Value} (h : w2.cell? a = some v) : ∀ w', G w' → w'.cell? a = some v := fun w' hg => by
  rw [hG] at hg; exact cell_on hg h
theorem keepG_here {w2 : World} {G : World → Prop} (hG : G = fun w' => Below w2.heap.size w2 w') : G w2 := by rw [hG]; exact Below.refl _ _
end Go.Proofs.Ytnjggejallnkoaa

/- A region that draws its order, whose last operation (a store) need not leave what was held on to: S is asked behind every other one. -/
namespace Go.Proofs.Ytnjggejallnkoaa
open Go

section
variable {P : Program} {ops : Array Oper} {Q : Exit → Act → World → Prop} {S : World → Prop} {md : Region.Mode} {n : Nat}

/-- operation x waits for y -/
def waits (md : Region.Mode) (ops : Array Oper) (x y : Nat) : Bool := match ops[x]? with
  | some o => o.after.any fun e => Region.binds md e && e.on == y
  | none => false
/-- operation x waits for y, over others that it waits for -/
def reach (md : Region.Mode) (ops : Array Oper) : Nat → Nat → Nat → Bool
  | 0, _, _ => false
  | f + 1, x, y => (List.range ops.size).any fun k => waits md ops x k && (k == y || reach md ops f k y)
/-- what has come up waited for nothing that has not -/
def Shutd (md : Region.Mode) (ops : Array Oper) (listed : Array Bool) : Prop := ∀ x y, waits md ops x y = true → listed.getD x false = true → listed.getD y false = true

theorem waits_spec {x y : Nat} (h : waits md ops x y = true) : ∃ o, ops[x]? = some o ∧ ∃ e ∈ o.after, Region.binds md e = true ∧ e.on = y := by
  unfold waits at h
  split at h
  · rename_i o ho
    obtain ⟨e, he, hb⟩ := Array.any_eq_true'.1 h
    simp only [Bool.and_eq_true, beq_iff_eq] at hb
    exact ⟨o, ho, e, he, hb.1, hb.2⟩
  · cases h
theorem reach_listed {listed : Array Bool} (hs : Shutd md ops listed) : ∀ (f x y : Nat), reach md ops f x y = true → listed.getD x false = true → listed.getD y false = true
  | 0, _, _, h, _ => by cases h
  | f + 1, x, y, h, hx => by
    rw [reach, List.any_eq_true] at h
    obtain ⟨k, _, hk⟩ := h
    rw [Bool.and_eq_true, Bool.or_eq_true, beq_iff_eq] at hk
    have h1 := hs x k hk.1 hx
    rcases hk.2 with rfl | h2
    · exact h1
    · exact reach_listed hs f k y h2 h1
/-- the last one does not come up while something that it waits for has not -/
theorem not_ready {listed : Array Bool} {f i : Nat} (hs : Shutd md ops listed) (hr : reach md ops f n i = true) (hi : listed.getD i false = false) : n ∉ Region.ready md ops listed := fun hn => by
  obtain ⟨_, o, ho, hall⟩ := mem_ready.1 hn
  cases f with
  | zero => cases hr
  | succ f =>
    rw [reach, List.any_eq_true] at hr
    obtain ⟨k, _, hk⟩ := hr
    rw [Bool.and_eq_true, Bool.or_eq_true, beq_iff_eq] at hk
    obtain ⟨o', ho', e, he, hb, heq⟩ := waits_spec hk.1
    rw [ho] at ho'
    cases ho'
    have h1 := hall e he hb
    rw [heq] at h1
    rcases hk.2 with rfl | h2
    · rw [hi] at h1; cases h1
    · rw [reach_listed hs f k i h2 h1] at hi; cases hi
theorem Shutd.set {listed : Array Bool} (hs : Shutd md ops listed) {j : Nat} (hj : j ∈ Region.ready md ops listed) : Shutd md ops (listed.setIfInBounds j true) := fun x y hw hx => by
  by_cases hxj : j = x
  · subst hxj
    obtain ⟨_, o, ho, hall⟩ := mem_ready.1 hj
    obtain ⟨o', ho', e, he, hb, heq⟩ := waits_spec hw
    rw [ho] at ho'
    cases ho'
    have := hall e he hb
    rw [heq] at this
    exact getD_set_true this
  · rw [getD_set_ne false hxj] at hx
    exact getD_set_true (hs x y hw hx)
theorem shutd_none (m : Nat) : Shutd md ops (Array.replicate m false) := fun x y _ hx => by
  by_cases h : x < m
  · simp [h] at hx
  · simp [h] at hx

/-- whatever order is picked from here on, and S holds behind every operation but number n -/
def wpAnyN (P : Program) (md : Region.Mode) (ops : Array Oper) (Q : Exit → Act → World → Prop) (S : World → Prop) (n : Nat) : Nat → Array Bool → Act → World → Prop
  | 0, listed, a, w => Region.ready md ops listed = [] ∧ Q .normal a w
  | fuel + 1, listed, a, w =>
    (Region.ready md ops listed = [] → Q .normal a w) ∧
    ∀ i ∈ Region.ready md ops listed, wpOp P ops Q i (fun a' w' => (i ≠ n → S w') ∧ wpAnyN P md ops Q S n fuel (listed.setIfInBounds i true) a' w') a w

theorem wpAny_of_N : ∀ (fuel : Nat) (listed : Array Bool) (a : Act) (w : World), wpAnyN P md ops Q S n fuel listed a w → wpAny P md ops Q fuel listed a w
  | 0, _, _, _, h => h
  | fuel + 1, _, _, _, h => ⟨h.1, fun i hi => wpOp_mono (fun a' w' h' => wpAny_of_N fuel _ a' w' h'.2) (h.2 i hi)⟩

/-- every other operation that is still to come waits for number i or is apart from it -/
def Lone (md : Region.Mode) (ops : Array Oper) (i : Nat) (oi : Oper) (listed : Array Bool) : Prop :=
  ∀ j oj, ops[j]? = some oj → j ≠ i → listed.getD j true = false → (∀ e ∈ oj.after, Region.binds md e = true → e.on ≠ i) → oi.apart ops oj = true
theorem to_come {listed : Array Bool} {j k : Nat} (h : (listed.setIfInBounds j true).getD k true = false) : listed.getD k true = false := by
  by_cases e : j = k
  · subst e
    by_cases hb : j < listed.size <;> simp [hb] at h
  · rwa [getD_set_ne true e] at h
theorem Lone.set {i : Nat} {oi : Oper} {listed : Array Bool} (h : Lone md ops i oi listed) (j : Nat) : Lone md ops i oi (listed.setIfInBounds j true) :=
  fun k ok hk hki hun => h k ok hk hki (to_come hun)
theorem still {i : Nat} {listed : Array Bool} (h : i ∈ Region.ready md ops listed) : listed.getD i false = false := by
  have h0 := (mem_ready.1 h).1
  by_cases hb : i < listed.size
  · simpa [hb] using h0
  · simp [hb]
/-- what number j does once i's value lies in its place, it does ahead of i -/
theorem swapN {i j : Nat} {oi : Oper} {v : Value} {listed : Array Bool} {K : Act → World → Prop} {a : Act} {w : World} (hi : ops[i]? = some oi) (hsel : Region.noSelect ops = true) (hQ : ∀ c a w, Q (.panic c) (a.put oi.dst v) w → Q (.panic c) a w)
    (hl : Lone md ops i oi listed) (hri : i ∈ Region.ready md ops listed) (hrj : j ∈ Region.ready md ops listed) (hne : j ≠ i) (hy : YieldsIf P ops S oi v a) (h : wpOp P ops Q j K (a.put oi.dst v) w) :
    wpOp P ops Q j (fun a' w' => YieldsIf P ops S oi v a' ∧ K (a'.put oi.dst v) w') a w := by
  obtain ⟨hun, oj, hoj, hall⟩ := mem_ready.1 hrj
  refine wpOp_putIf hoj (hl j oj hoj hne hun fun e he hb heq => ?_) (fun cs b => Region.noSelect_spec hsel i oi cs b hi) (fun cs b => Region.noSelect_spec hsel j oj cs b hoj) hQ hy h
  have := hall e he hb
  rw [heq, still hri] at this
  cases this
theorem wpAnyN_first {i : Nat} {oi : Oper} {v : Value} {f : Nat} (hi : ops[i]? = some oi) (hsel : Region.noSelect ops = true)
    (hQ : ∀ c a w, Q (.panic c) (a.put oi.dst v) w → Q (.panic c) a w) (hreach : reach md ops f n i = true) (fuel : Nat) :
    ∀ (listed : Array Bool) (a : Act) (w : World), Shutd md ops listed → Lone md ops i oi listed → i ∈ Region.ready md ops listed → YieldsIf P ops S oi v a → S w →
      wpAnyN P md ops Q S n fuel (listed.setIfInBounds i true) (a.put oi.dst v) w → wpAnyN P md ops Q S n (fuel + 1) listed a w := by
  induction fuel with
  | zero =>
    intro listed a w _ _ hr hy hS H
    refine ⟨fun h => absurd (h ▸ hr) (by simp), fun j hj => ?_⟩
    rcases Classical.em (j = i) with rfl | hne
    · exact hy.wpOp hi hS ⟨fun _ => hS, H⟩
    · exact absurd (H.1 ▸ ready_mono hj hne) (by simp)
  | succ fuel ih =>
    intro listed a w hsh hl hr hy hS H
    refine ⟨fun h => absurd (h ▸ hr) (by simp), fun j hj => ?_⟩
    rcases Classical.em (j = i) with rfl | hne
    · exact hy.wpOp hi hS ⟨fun _ => hS, H⟩
    · have hjn : j ≠ n := fun e => not_ready hsh hreach (still hr) (e ▸ hj)
      refine wpOp_mono (fun a' w' h => ?_) (swapN hi hsel hQ hl hr hj hne hy (H.2 j (ready_mono hj hne)))
      obtain ⟨h1, h2, h3⟩ := h
      refine ⟨h2, ih _ a' w' (hsh.set hj) (hl.set j) (ready_mono hr (Ne.symm hne)) h1 (h2 hjn) ?_⟩
      rwa [Array.setIfInBounds_comm _ _ hne]

/-- a wpAnyN together with what is known of what has come up -/
def AnyN (P : Program) (md : Region.Mode) (ops : Array Oper) (Q : Exit → Act → World → Prop) (S : World → Prop) (n fuel : Nat) (listed : Array Bool) (a : Act) (w : World) : Prop := Shutd md ops listed → wpAnyN P md ops Q S n fuel listed a w
theorem AnyN.take {i : Nat} {oi : Oper} {v : Value} {fuel : Nat} {listed : Array Bool} {a : Act} {w : World} (hi : ops[i]? = some oi)
    (hs : Region.noSelect ops = true) (hf : Region.free md ops listed i = true) (hr : (Region.ready md ops listed).contains i = true) (hreach : reach md ops 8 n i = true)
    (hQ : ∀ c a w, Q (.panic c) (a.put oi.dst v) w → Q (.panic c) a w) (hy : YieldsIf P ops S oi v a) (hS : S w)
    (h : AnyN P md ops Q S n fuel (listed.setIfInBounds i true) (a.put oi.dst v) w) : AnyN P md ops Q S n (fuel + 1) listed a w := fun hsh =>
  wpAnyN_first hi hs hQ hreach fuel listed a w hsh (Region.free_spec hi hf) (by simpa using hr) hy hS (h (hsh.set (by simpa using hr)))
theorem AnyN.done {listed : Array Bool} {a : Act} {w : World} {fuel : Nat} (hr : Region.ready md ops listed = []) (h : Q .normal a w) : AnyN P md ops Q S n fuel listed a w := fun _ => by
  cases fuel with
  | zero => exact ⟨hr, h⟩
  | succ f => exact ⟨fun _ => h, by rw [hr]; simp⟩
/-- each of those that may come up -/
def AllN (P : Program) (md : Region.Mode) (ops : Array Oper) (Q : Exit → Act → World → Prop) (S : World → Prop) (n fuel : Nat) (listed : Array Bool) (a : Act) (w : World) (rs : List Nat) : Prop :=
  ∀ i ∈ rs, i ∈ Region.ready md ops listed → Shutd md ops listed → wpOp P ops Q i (fun a' w' => (i ≠ n → S w') ∧ wpAnyN P md ops Q S n fuel (listed.setIfInBounds i true) a' w') a w
theorem AllN.nil {fuel : Nat} {listed : Array Bool} {a : Act} {w : World} : AllN P md ops Q S n fuel listed a w [] := fun _ h => by cases h
theorem AllN.cons {fuel : Nat} {listed : Array Bool} {a : Act} {w : World} {i : Nat} {o : Oper} {rs : List Nat} (ho : ops[i]? = some o)
    (h : ∀ K' : Act → World → Prop, Shut (∀ a w, (i ≠ n → S w) → ((i ≠ n → S w) → AnyN P md ops Q S n fuel (listed.setIfInBounds i true) a w) → K' a w) → if Region.wanted o (yielded ops a.tmps) = true then Oper.wp P o a w K' Q else K' (a.put o.dst undef) w)
    (hs : AllN P md ops Q S n fuel listed a w rs) : AllN P md ops Q S n fuel listed a w (i :: rs) := fun j hj hr hsh => by
  rcases List.mem_cons.1 hj with rfl | hj
  · exact wpOp_step ho (fun K' hK => h K' (fun a w hS hW => hK a w ⟨hS, hW hS (hsh.set hr)⟩))
  · exact hs j hj hr hsh
theorem AnyN.ready {rs : List Nat} {fuel : Nat} {listed : Array Bool} {a : Act} {w : World} (hr : Region.ready md ops listed = rs) (hne : rs ≠ [])
    (h : AllN P md ops Q S n fuel listed a w rs) : AnyN P md ops Q S n (fuel + 1) listed a w := fun hsh =>
  ⟨fun h0 => absurd (hr ▸ h0) hne, fun i hi => h i (hr ▸ hi) hi hsh⟩
/-- the beginning -/
theorem wp_region_last {id : Nat} {a : Act} {w : World} (S : World → Prop) (n : Nat) (hm : P.follows .mixedOrders = true) (hS : S w.drew)
    (h : S w.drew → AnyN P .any ops Q S n ops.size (Array.replicate ops.size false) a w.drew) : (Code.region id ops true).wp P Q a w :=
  wp_region_any hm (wpAny_of_N _ _ _ _ (h hS (shutd_none _)))
end
end Go.Proofs.Ytnjggejallnkoaa
