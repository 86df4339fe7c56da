/- K8U, K8V: put together. -/
import Derived.Test.YticmkgbjannkkaaM31

/- The landed row's reader: bytes and texts. -/
namespace Go.Proofs.Yticmkgbjannkkaa
open Go.RowKit

attribute [local go_sem] run_store_float

section
variable {L : List UInt8}

/-- what readBytes reads -/
def bytesR (k : Int) (l : List UInt8) : Except Nat (V × Nat) := thenR (Sch.text 1024 2 l) fun t j => .ok (.mk k 0 0 t [], j)
theorem bytesR_count (k : Int) (l : List UInt8) : bytesR k l = thenR (countR 1024 2 l) fun n j => thenR (takeR n (l.drop j)) fun b i => .ok (.mk k 0 0 (textOf b) [], j + i) := by
  unfold bytesR
  rw [text_count]
  cases countR 1024 2 l with
  | error e => rfl
  | ok nk =>
    obtain ⟨n, k⟩ := nk
    rw [thenR_ok, thenR_ok]
    cases takeR n (l.drop k) with
    | error e => rfl
    | ok bj => rfl

set_option maxRecDepth 100000 in
set_option maxHeartbeats 1000000 in
theorem readBytesK (k : Int) (l : List UInt8) (A R : Nat) (w : World) (p : Option Addr) (n c : Nat) (h : Rdr L w A R l) : Calls Try.prog 47 #[.pointer (some ⟨R, 0, none⟩), .agg #[.int .i64 k, .slice p n c]] w (RdA L w A R l (bytesR k l) (isV w)) := by
  have hR := h.lt
  obtain ⟨W, hW⟩ : ∃ W, W = (w.alloc (.cells #[.int .i64 k, .slice p n c] 50)).alloc (.cells #[.int .i64 0, .int .i64 0, .float .f64 0, .string ⟨#[]⟩, .slice none 0 0] 53) := ⟨_, rfl⟩
  have HI : Hid (ValIn L w W A R #[.int .i64 k, .slice p n c] l) := by rw [hW]; exact valIn_start _ h
  have HW := Lib.hid hW
  obtain ⟨r, hr⟩ : ∃ r, r = bytesR k l := ⟨_, rfl⟩
  have HR := Lib.hid (hr.trans (bytesR_count k l))
  rw [← hr]
  have HC := Lib.hid (countK 1024 2 (by omega) l A R W HI.out.rd)
  obtain ⟨m, hm⟩ : ∃ m, m = countR 1024 2 l := ⟨_, rfl⟩
  rw [← hm] at HR HC
  clear hr hm h hW
  cases m with
  | error er =>
    have HR2 : Hid (r = .error er) := HR.out
    clear HR
    go_enter Try.func47, Try.ntmps47
    go_wp2_with fail
    rw [← HW.out]
    refine HC.out.mono ?_
    intro e w1 hh
    obtain ⟨he, ha⟩ := hh.bad
    subst he
    clear hh
    have HA := Lib.hid (HI.out.aside.trans ha (fun _ _ h => h))
    clear ha HC
    go_wp2
    rw [HR2.out]
    exact ⟨rfl, rfl, HA.out⟩
  | ok xj =>
    obtain ⟨x, j⟩ := xj
    have HR1 : Hid (r = thenR (takeR x (l.drop j)) fun b i => .ok (.mk k 0 0 (textOf b) [], j + i)) := HR.out
    obtain ⟨m, hm⟩ : ∃ m, m = takeR x (l.drop j) := ⟨_, rfl⟩
    have HM := Lib.hid hm
    clear HR hm
    go_enter Try.func47, Try.ntmps47
    go_wp2_with fail
    rw [← HW.out]
    refine HC.out.mono ?_
    intro e w1 hh
    obtain ⟨v, he, hv, hrd, ha⟩ := hh.good
    clear hh
    replace hv : v = .int .i64 (x : Nat) := hv
    subst hv
    subst he
    have HI1 := Lib.hid (HI.out.step ha hrd hR)
    clear ha hrd HC HW HI
    have HT := Lib.hid (takeK x (l.drop j) A R w1.drew HI1.out.rd.drew)
    rw [← HM.out] at HT HR1
    have k0 : w1.cell? ⟨w.heap.size, 0, none⟩ = some (.int .i64 k) := blk_cell HI1.out.b0 0
    have q0 : w1.cell? ⟨w.heap.size + 1, 0, none⟩ = some (.int .i64 0) := blk_cell HI1.out.b1 0
    have qf0 : w1.frozen? ⟨w.heap.size + 1, 0, none⟩ = false := blk_free HI1.out.b1 0
    have q1 : w1.cell? ⟨w.heap.size + 1, 1, none⟩ = some (.int .i64 0) := blk_cell HI1.out.b1 1
    have qf1 : w1.frozen? ⟨w.heap.size + 1, 1, none⟩ = false := blk_free HI1.out.b1 1
    have q2 : w1.cell? ⟨w.heap.size + 1, 2, none⟩ = some (.float .f64 0) := blk_cell HI1.out.b1 2
    have qf2 : w1.frozen? ⟨w.heap.size + 1, 2, none⟩ = false := blk_free HI1.out.b1 2
    have q3 : w1.cell? ⟨w.heap.size + 1, 3, none⟩ = some (.string ⟨#[]⟩) := blk_cell HI1.out.b1 3
    have qf3 : w1.frozen? ⟨w.heap.size + 1, 3, none⟩ = false := blk_free HI1.out.b1 3
    have q4 : w1.cell? ⟨w.heap.size + 1, 4, none⟩ = some (.slice none 0 0) := blk_cell HI1.out.b1 4
    have qf4 : w1.frozen? ⟨w.heap.size + 1, 4, none⟩ = false := blk_free HI1.out.b1 4
    clear HM
    cases m with
    | error er =>
      have HR2 : Hid (r = .error er) := HR1.out
      have hcv0 := conv_str (w := w1.drew) (p := none) (l := []) (.inl rfl) 0
      simp only [List.length_nil] at hcv0
      clear HR1
      go_wp2_with fail
      go_region_law (first
        | (refine step_call2b (.tmp 10) (.tmp 11) 58 3 (by rfl) (by rfl) (by rfl) (by rfl) Try.func65 (by kernel_rfl) (by rfl) HT.out (fun e w2 hh => ⟨_, hh.bad.1, rfl, by rw [HR2.out]; exact ⟨rfl, HI1.out.aside.drew.trans hh.bad.2 (fun _ _ h => h)⟩⟩) (.slice none 0 0) ?_
           intro HF)
        | (refine step_never HF (.string ⟨#[]⟩) ?_)
        | fail)
      all_goals exact HF.out.elim
    | ok bi =>
      obtain ⟨b, i⟩ := bi
      have HR2 : Hid (r = .ok (.mk k 0 0 (textOf b) [], j + i)) := HR1.out
      clear HR1
      go_wp2_with fail
      go_region_law (first
        | (refine step_call2g (.tmp 10) (.tmp 11) 58 3 (by rfl) (by rfl) (by rfl) (by rfl) Try.func65 (by kernel_rfl) (by rfl) HT.out ?_
           intro e w2 hh
           obtain ⟨v, he, hv, hrd, ha⟩ := hh.good
           obtain ⟨q, c2, hv, hat, -⟩ := hv.open
           clear hh
           subst hv
           refine ⟨_, he, ?_⟩
           clear he
           have hcv := conv_str hat c2
           have HI2 := Lib.hid (HI1.out.drew.step ha hrd hR)
           clear ha hrd hat
           have k1 : w2.cell? ⟨w.heap.size, 0, none⟩ = some (.int .i64 k) := blk_cell HI2.out.b0 0
           have t0 : w2.cell? ⟨w.heap.size + 1, 0, none⟩ = some (.int .i64 0) := blk_cell HI2.out.b1 0
           have tf0 : w2.frozen? ⟨w.heap.size + 1, 0, none⟩ = false := blk_free HI2.out.b1 0
           have t1 : w2.cell? ⟨w.heap.size + 1, 1, none⟩ = some (.int .i64 0) := blk_cell HI2.out.b1 1
           have tf1 : w2.frozen? ⟨w.heap.size + 1, 1, none⟩ = false := blk_free HI2.out.b1 1
           have t2 : w2.cell? ⟨w.heap.size + 1, 2, none⟩ = some (.float .f64 0) := blk_cell HI2.out.b1 2
           have tf2 : w2.frozen? ⟨w.heap.size + 1, 2, none⟩ = false := blk_free HI2.out.b1 2
           have t3 : w2.cell? ⟨w.heap.size + 1, 3, none⟩ = some (.string ⟨#[]⟩) := blk_cell HI2.out.b1 3
           have tf3 : w2.frozen? ⟨w.heap.size + 1, 3, none⟩ = false := blk_free HI2.out.b1 3
           have t4 : w2.cell? ⟨w.heap.size + 1, 4, none⟩ = some (.slice none 0 0) := blk_cell HI2.out.b1 4
           have tf4 : w2.frozen? ⟨w.heap.size + 1, 4, none⟩ = false := blk_free HI2.out.b1 4
           have HFin := Lib.hid (HI2.out.fin hR k 0 0 (textOf b)))
        | fail)
      all_goals
        go_wp2
        obtain ⟨f1, f2, f3, f4⟩ := HFin.out
        refine bodyPost_ret (v := .agg (cells5 k 0 0 (textOf b) none 0 0)) (results_cell_row rfl _ _ (w.heap.size + 1) _ _ _ _ rfl f1 Try.underlying53 rfl (by kernel_rfl)) rfl ?_
        rw [HR2.out]
        exact ⟨_, rfl, f2, by rw [← List.drop_drop]; exact f3, f4⟩

theorem utf_small {l : List UInt8} {t : ByteArray} {j : Nat} (h : Sch.text 1024 2 l = .ok (t, j)) : t.size ≤ 1024 := by
  unfold Sch.text at h
  split at h
  · cases h
  · next n k hn =>
    split at h
    · cases h
    · next h0 =>
      split at h
      · cases h
      · next h1 =>
        injection h with h
        injection h with h2 h3
        subst h2
        show (textOf _).size ≤ 1024
        have : (textOf ((l.drop k).take n)).size = ((l.drop k).take n).length := by simp [textOf, ByteArray.size]
        rw [this, List.length_take]
        omega

set_option maxRecDepth 100000 in
set_option maxHeartbeats 1000000 in
theorem readTextK (l : List UInt8) (A R : Nat) (w : World) (p : Option Addr) (n c : Nat) (h : Rdr L w A R l) : Calls Try.prog 46 #[.pointer (some ⟨R, 0, none⟩), .agg #[.int .i64 4, .slice p n c]] w (RdA L w A R l (Sch.scalar 4 l) (isV w)) := by
  have hR := h.lt
  obtain ⟨W, hW⟩ : ∃ W, W = (w.alloc (.cells #[.int .i64 4, .slice p n c] 50)).alloc (.cells #[.int .i64 0, .int .i64 0, .float .f64 0, .string ⟨#[]⟩, .slice none 0 0] 53) := ⟨_, rfl⟩
  have HI : Hid (ValIn L w W A R #[.int .i64 4, .slice p n c] l) := by rw [hW]; exact valIn_start _ h
  have HW := Lib.hid hW
  obtain ⟨r, hr⟩ : ∃ r, r = Sch.scalar 4 l := ⟨_, rfl⟩
  have HR := Lib.hid (hr.trans (scalar_4 l))
  rw [← hr]
  have HC := Lib.hid (readBytesK 4 l A R W p n c HI.out.rd)
  unfold bytesR at HC
  obtain ⟨m, hm⟩ : ∃ m, m = Sch.text 1024 2 l := ⟨_, rfl⟩
  have HM := Lib.hid hm
  rw [← hm] at HR HC
  clear hr hm h hW
  cases m with
  | error er =>
    have HR2 : Hid (r = .error er) := HR.out
    rw [thenR_error] at HC
    clear HR
    go_enter Try.func46, Try.ntmps46
    go_wp2_with fail
    rw [← HW.out]
    refine HC.out.mono ?_
    intro e w1 hh
    obtain ⟨he, ha⟩ := hh.bad
    subst he
    clear hh
    have HA := Lib.hid (HI.out.aside.trans ha (fun _ _ h => h))
    clear ha HC
    go_wp2
    rw [HR2.out]
    exact ⟨rfl, rfl, HA.out⟩
  | ok xj =>
    obtain ⟨x, j⟩ := xj
    have hx := utf_small HM.out.symm
    have HR2 : Hid (r = if utfT x = false then .error 61 else .ok (.mk 4 0 0 x [], j)) := HR.out
    rw [thenR_ok] at HC
    clear HR
    go_enter Try.func46, Try.ntmps46
    go_wp2_with fail
    rw [← HW.out]
    refine HC.out.mono ?_
    intro e w1 hh
    obtain ⟨v, he, hv, hrd, ha⟩ := hh.good
    obtain ⟨u, hv, hown⟩ := hv.open
    clear hh
    subst hv
    subst he
    obtain ⟨p5, c5, hu, -⟩ := hown.lies.open
    subst hu
    have HI1 := Lib.hid (HI.out.step ha hrd hR)
    obtain ⟨wa, hwa⟩ : ∃ wa, wa = w1.alloc (.cells (cells5 4 0 0 x p5 0 c5) 53) := ⟨_, rfl⟩
    have HBa : Hid (Below w1.heap.size w1 wa) := by rw [hwa]; exact (Below.refl _ _).alloc (Nat.le_refl _) _
    have hblk : wa.heap[w1.heap.size]? = some (.cells (cells5 4 0 0 x p5 0 c5) 53 (0, 0)) := by rw [hwa]; exact blk_new w1 _
    have HBk := Lib.hid hblk
    have HU := Lib.hid (utfK x (by omega) wa)
    have HWa := Lib.hid hwa
    have hsw : w.heap.size + 2 ≤ w1.heap.size := HI1.out.size
    clear ha hrd hown hwa hblk HC HI HW HM
    unfold cells5 at HWa HBk ⊢
    obtain ⟨ub, hub⟩ : ∃ b, b = utfT x := ⟨_, rfl⟩
    rw [← hub] at HU HR2
    clear hub
    go_wp2_with fail
    rw [← HWa.out]
    refine HU.out.mono ?_
    rintro e w2 ⟨rfl, hb2⟩
    have HI2 := Lib.hid ((HI1.out.on HBa.out).on hb2)
    have hs2 := hb2.size
    have hsa := HBa.out.size
    have hbk2 : w2.heap[w1.heap.size]? = some (.cells (cells5 4 0 0 x p5 0 c5) 53 (0, 0)) := by
      rw [hb2.block _ (blk_lt HBk.out)]
      exact HBk.out
    have v0 : w2.cell? ⟨w1.heap.size, 0, none⟩ = some (.int .i64 4) := blk_cell hbk2 0
    have v1 : w2.cell? ⟨w1.heap.size, 1, none⟩ = some (.int .i64 0) := blk_cell hbk2 1
    have v2 : w2.cell? ⟨w1.heap.size, 2, none⟩ = some (.float .f64 0) := blk_cell hbk2 2
    have v3 : w2.cell? ⟨w1.heap.size, 3, none⟩ = some (.string x) := blk_cell hbk2 3
    have v4 : w2.cell? ⟨w1.heap.size, 4, none⟩ = some (.slice p5 0 c5) := blk_cell hbk2 4
    have t0 : w2.cell? ⟨w.heap.size + 1, 0, none⟩ = some (.int .i64 0) := blk_cell HI2.out.b1 0
    have tf0 : w2.frozen? ⟨w.heap.size + 1, 0, none⟩ = false := blk_free HI2.out.b1 0
    have t1 : w2.cell? ⟨w.heap.size + 1, 1, none⟩ = some (.int .i64 0) := blk_cell HI2.out.b1 1
    have tf1 : w2.frozen? ⟨w.heap.size + 1, 1, none⟩ = false := blk_free HI2.out.b1 1
    have t2 : w2.cell? ⟨w.heap.size + 1, 2, none⟩ = some (.float .f64 0) := blk_cell HI2.out.b1 2
    have tf2 : w2.frozen? ⟨w.heap.size + 1, 2, none⟩ = false := blk_free HI2.out.b1 2
    have t3 : w2.cell? ⟨w.heap.size + 1, 3, none⟩ = some (.string ⟨#[]⟩) := blk_cell HI2.out.b1 3
    have tf3 : w2.frozen? ⟨w.heap.size + 1, 3, none⟩ = false := blk_free HI2.out.b1 3
    have t4 : w2.cell? ⟨w.heap.size + 1, 4, none⟩ = some (.slice none 0 0) := blk_cell HI2.out.b1 4
    have tf4 : w2.frozen? ⟨w.heap.size + 1, 4, none⟩ = false := blk_free HI2.out.b1 4
    have HFin := Lib.hid (finV (F := fun _ => False) hR (by omega) HI2.out.b1 (VOwn.none (k := 4) (i := 0) (b := 0) (t := x) (p := p5) (c := c5)) (fun _ h => h.elim) HI2.out.rd HI2.out.aside)
    clear hb2 hbk2 HWa HU
    cases ub with
    | false =>
      have HR4 : Hid (r = .error 61) := HR2.out.trans (if_pos (by first | rfl | trivial))
      clear HR2
      go_wp2_with fail
      refine (need_f _ 61 _).mono ?_
      rintro e w3 ⟨rfl, hw3⟩
      rw [hw3]
      clear hw3 w3
      go_wp2
      rw [HR4.out]
      exact ⟨rfl, rfl, HI2.out.aside⟩
    | true =>
      have HR4 : Hid (r = .ok (.mk 4 0 0 x [], j)) := HR2.out.trans (if_neg (by first | decide | simp))
      clear HR2
      go_wp2_with fail
      refine (need_t _ 61 _).mono ?_
      rintro e w3 ⟨rfl, hw3⟩
      rw [hw3]
      clear hw3 w3
      go_wp2
      obtain ⟨f1, f2, f3, f4⟩ := HFin.out
      refine bodyPost_ret (v := .agg (cells5 4 0 0 x p5 0 c5)) (results_cell_row rfl _ _ (w.heap.size + 1) _ _ _ _ rfl f1 Try.underlying53 rfl (by kernel_rfl)) rfl ?_
      rw [HR4.out]
      exact ⟨_, rfl, f2, f3, f4⟩
end
end Go.Proofs.Yticmkgbjannkkaa

/- The landed row's reader: floats. -/
namespace Go.Proofs.Yticmkgbjannkkaa
open Go.RowKit

attribute [local go_sem] run_store_float

/-- eight bits put behind those that stand -/
theorem or_join8 (m x k : Nat) (hm : m < 256 ^ k) (hx : m + x * 256 ^ k < 18446744073709551616) : bits .or .u64 (m : Int) (IntKind.u64.wrap ((x : Int) * 2 ^ (8 * k))) = ((m + x * 256 ^ k : Nat) : Int) := by
  have e : (2 : Nat) ^ (8 * k) = 256 ^ k := by rw [Nat.pow_mul]
  have e2 : ((x : Int) * 2 ^ (8 * k)) = ((x * 256 ^ k : Nat) : Int) := by
    rw [← e]; push_cast; rfl
  have e3 : IntKind.u64.wrap (((x * 256 ^ k : Nat) : Int)) = ((x * 256 ^ k : Nat) : Int) := by
    rw [IntKind.wrap_u64]; omega
  rw [e2, e3, bits_join_low .u64 64 (by decide) wraps_u64 (8 * k) (m : Int) _ (by omega) (by rw [← e] at hm; exact_mod_cast hm) (by omega) (by omega) (by rw [← e]; push_cast; exact Int.mul_emod_left _ _) (by omega)]
  omega
theorem un_take_succ (r : List UInt8) (k : Nat) (h : k < r.length) : Sch.un (r.take (k + 1)) = Sch.un (r.take k) + r[k].toNat * 256 ^ k := by
  induction r generalizing k with
  | nil => simp at h
  | cons c r ih =>
    cases k with
    | zero => simp [Sch.un]
    | succ k =>
      have hk : k < r.length := by simpa using h
      have := ih k hk
      simp only [List.take_succ_cons, Sch.un, List.getElem_cons_succ, this, Nat.pow_succ]
      generalize (256 : Nat) ^ k = P
      generalize r[k].toNat = x
      rw [Nat.add_mul, Nat.mul_assoc]
      omega
theorem un_take_lt (r : List UInt8) (k : Nat) (h : k ≤ r.length) : Sch.un (r.take k) < 256 ^ k := by
  have := Sch.un_lt (r.take k)
  rw [List.length_take, Nat.min_eq_left h] at this
  exact this

section
variable {L : List UInt8}

set_option maxRecDepth 100000 in
set_option maxHeartbeats 1000000 in
theorem readFloatK (l : List UInt8) (A R : Nat) (w : World) (p : Option Addr) (n c : Nat) (h : Rdr L w A R l) : Calls Try.prog 45 #[.pointer (some ⟨R, 0, none⟩), .agg #[.int .i64 3, .slice p n c]] w (RdA L w A R l (Sch.scalar 3 l) (isV w)) := by
  have hR := h.lt
  obtain ⟨W, hW⟩ : ∃ W, W = (w.alloc (.cells #[.int .i64 3, .slice p n c] 50)).alloc (.cells #[.int .i64 0, .int .i64 0, .float .f64 0, .string ⟨#[]⟩, .slice none 0 0] 53) := ⟨_, rfl⟩
  have HI : Hid (ValIn L w W A R #[.int .i64 3, .slice p n c] l) := by rw [hW]; exact valIn_start _ h
  have HW := Lib.hid hW
  obtain ⟨r, hr⟩ : ∃ r, r = Sch.scalar 3 l := ⟨_, rfl⟩
  have HR0 := Lib.hid (hr.trans (scalar_3 l))
  rw [← hr]
  have HT := Lib.hid (takeK 8 l A R W HI.out.rd)
  clear h hr hW
  by_cases hlt : l.length < 8
  · have e1 : takeR 8 l = .error 30 := by rw [takeR, if_pos hlt]
    have HR : Hid (r = .error 30) := by show _ = _; rw [HR0.out, Sch.float, if_pos hlt]; rfl
    rw [e1] at HT
    clear e1 hlt HR0
    go_enter Try.func45, Try.ntmps45
    go_wp2_with fail
    rw [← HW.out]
    refine HT.out.mono ?_
    intro e w1 hh
    obtain ⟨he, ha⟩ := hh.bad
    subst he
    clear hh
    have HA := Lib.hid (HI.out.aside.trans ha (fun _ _ h => h))
    clear ha HT
    go_wp2
    rw [HR.out]
    exact ⟨rfl, rfl, HA.out⟩
  · have e1 : takeR 8 l = .ok (l.take 8, 8) := by rw [takeR, if_neg hlt]
    have HR : Hid (r = if fixB (Sch.un (l.take 8)) = Sch.un (l.take 8) then .ok (.mk 3 0 (Sch.un (l.take 8)) ⟨#[]⟩ [], 8) else .error 5) := by
      show _ = _
      rw [HR0.out, Sch.float, if_neg hlt]
      split
      · rw [thenR_ok]
      · rfl
    rw [e1] at HT
    have hb8 : (l.take 8).length = 8 := by rw [List.length_take]; omega
    obtain ⟨b, hb⟩ : ∃ b, b = l.take 8 := ⟨_, rfl⟩
    rw [← hb] at HT HR hb8
    have HB8 := Lib.hid hb8
    have HU : Hid (Sch.un (b.take 0) = 0) := by show _ = _; simp [Sch.un]
    clear e1 hlt HR0 hb hb8
    go_enter Try.func45, Try.ntmps45
    go_wp2_with fail
    rw [← HW.out]
    refine HT.out.mono ?_
    intro e w1 hh
    obtain ⟨v, he, hv, hrd, ha⟩ := hh.good
    obtain ⟨q, c8, hv2, hat, -⟩ := hv.open
    clear hh hv
    subst hv2
    subst he
    rw [HB8.out]
    have HI1 := Lib.hid (HI.out.step ha hrd hR)
    obtain ⟨bq, oq, hq, -, hcs⟩ := at_some hat (by rw [HB8.out]; decide)
    subst hq
    have HCs := Lib.hid hcs
    clear ha HT hat hrd hcs HI HW
    go_wp2_with fail
    go_loop [5, 12] (fun v3 v10 => ∃ (k m : Nat), k ≤ 8 ∧ v10 = .int .i64 k ∧ v3 = .int .u64 m ∧ m < 18446744073709551616 ∧ Hid (m = Sch.un (b.take k))) (fun _ v10 => 8 - (intOf v10).toNat)
    case atStart => exact ⟨0, 0, by omega, rfl, rfl, by omega, HU.out.symm⟩
    case round =>
      obtain ⟨k, m, hk, rfl, rfl, hm, HK⟩ := hrel
      by_cases hk8 : k < 8
      · have hk1 : (k : Int) < 8 := by omega
        have hkb : k < b.length := by rw [HB8.out]; exact hk8
        have d0 := HCs.out k hkb
        have hs := un_take_succ b k hkb
        have hlt2 := un_take_lt b (k + 1) (by omega)
        obtain ⟨x, hx⟩ : ∃ x, x = b[k].toNat := ⟨_, rfl⟩
        rw [← hx] at d0 hs
        have hx8 : x < 256 := by rw [hx]; exact b[k].toNat_lt
        have hlim : m + x * 256 ^ k < 18446744073709551616 := by
          rw [HK.out, ← hs]
          have e : (256 : Nat) ^ (k + 1) ≤ 256 ^ 8 := Nat.pow_le_pow_right (by decide) (by omega)
          have e2 : (256 : Nat) ^ 8 = 18446744073709551616 := by decide
          omega
        have hor := or_join8 m x k (by rw [HK.out]; exact un_take_lt b k (by omega)) hlim
        have HN : Hid (m + x * 256 ^ k = Sch.un (b.take (k + 1))) := by show _ = _; rw [hs, HK.out]
        clear hs hlt2 hx HK hkb
        obtain ⟨y, hy⟩ : ∃ y, y = m + x * 256 ^ k := ⟨_, rfl⟩
        rw [← hy] at hor HN hlim
        clear hy
        go_wp2
        go_round
        case rel => exact ⟨k + 1, y, by omega, by go_num, rfl, hlim, HN.out⟩
        case measure => simp [intOf]; omega
      · have hkn : ¬ (k : Int) < 8 := by omega
        have hk9 : k = 8 := by omega
        subst hk9
        have HN : Hid (m = Sch.un b) := by
          show _ = _
          rw [HK.out, List.take_of_length_le (by rw [HB8.out]; exact Nat.le_refl _)]
        clear HK
        have HOf := Lib.hid (realOf_any (m : Int))
        have em : ((m : Int)).toNat = m := by omega
        rw [em] at HOf
        have HBi := Lib.hid (realBits_any (fixB m))
        rw [fixB_idem] at HBi
        have HR2 : Hid (r = if fixB m = m then .ok (.mk 3 0 m ⟨#[]⟩ [], 8) else .error 5) := by show _ = _; rw [HR.out, HN.out]
        clear HR HN em
        have k0 : w1.cell? ⟨w.heap.size, 0, none⟩ = some (.int .i64 3) := blk_cell HI1.out.b0 0
        have q0 : w1.cell? ⟨w.heap.size + 1, 0, none⟩ = some (.int .i64 0) := blk_cell HI1.out.b1 0
        have qf0 : w1.frozen? ⟨w.heap.size + 1, 0, none⟩ = false := blk_free HI1.out.b1 0
        have q1 : w1.cell? ⟨w.heap.size + 1, 1, none⟩ = some (.int .i64 0) := blk_cell HI1.out.b1 1
        have qf1 : w1.frozen? ⟨w.heap.size + 1, 1, none⟩ = false := blk_free HI1.out.b1 1
        have q2 : w1.cell? ⟨w.heap.size + 1, 2, none⟩ = some (.float .f64 0) := blk_cell HI1.out.b1 2
        have qf2 : w1.frozen? ⟨w.heap.size + 1, 2, none⟩ = false := blk_free HI1.out.b1 2
        have q3 : w1.cell? ⟨w.heap.size + 1, 3, none⟩ = some (.string ⟨#[]⟩) := blk_cell HI1.out.b1 3
        have qf3 : w1.frozen? ⟨w.heap.size + 1, 3, none⟩ = false := blk_free HI1.out.b1 3
        have q4 : w1.cell? ⟨w.heap.size + 1, 4, none⟩ = some (.slice none 0 0) := blk_cell HI1.out.b1 4
        have qf4 : w1.frozen? ⟨w.heap.size + 1, 4, none⟩ = false := blk_free HI1.out.b1 4
        go_wp2_with fail
        refine (HOf.out _).mono ?_
        rintro e w2 ⟨rfl, hw2⟩
        rw [hw2]
        clear hw2 w2
        go_wp2_with fail
        refine (HBi.out _).mono ?_
        rintro e w2 ⟨rfl, hw2⟩
        rw [hw2]
        clear hw2 w2
        by_cases hfx : fixB m = m
        · have HR4 : Hid (r = .ok (.mk 3 0 m ⟨#[]⟩ [], 8)) := HR2.out.trans (if_pos hfx)
          have HFin := Lib.hid (HI1.out.fin hR 3 0 m ⟨#[]⟩)
          rw [hfx]
          clear HR2
          go_wp2_with fail
          refine (need_t _ 5 _).mono ?_
          rintro e w2 ⟨rfl, hw2⟩
          rw [hw2]
          clear hw2 w2
          go_wp2
          obtain ⟨f1, f2, f3, f4⟩ := HFin.out
          refine bodyPost_ret (v := .agg (cells5 3 0 m ⟨#[]⟩ none 0 0)) (results_cell_row rfl _ _ (w.heap.size + 1) _ _ _ _ rfl f1 Try.underlying53 rfl (by kernel_rfl)) rfl ?_
          rw [HR4.out]
          exact ⟨_, rfl, f2, f3, f4⟩
        · have HR4 : Hid (r = .error 5) := HR2.out.trans (if_neg hfx)
          have g0 : ((fixB m : Int) == (m : Int)) = false := beq_f (by omega)
          clear HR2
          go_wp2_with fail
          refine (need_f _ 5 _).mono ?_
          rintro e w2 ⟨rfl, hw2⟩
          rw [hw2]
          clear hw2 w2
          go_wp2
          rw [HR4.out]
          exact ⟨rfl, rfl, HI1.out.aside⟩
end
end Go.Proofs.Yticmkgbjannkkaa
