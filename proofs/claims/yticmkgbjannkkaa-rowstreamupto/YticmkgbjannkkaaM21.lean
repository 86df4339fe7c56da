/- Row8, Row8S, K7A, K7B: put together. -/
import Derived.Test.YticmkgbjannkkaaM19
import Derived.Test.YticmkgbjannkkaaM17
import Derived.Test.YticmkgbjannkkaaM20
import Derived.Test.YticmkgbjannkkaaM10
import Derived.Test.YticmkgbjannkkaaM05

/- An argument of type api.Row, opened: the values that lie there, within their bounds. -/
namespace Go.Proofs.Yticmkgbjannkkaa
open Go.ChangeShapes Go.WideShapes Go.ChangeAt Go.RowKit Go.Deep

section
variable {H : Type} {enc : TypeId × Value → H} {W : World}

set_option maxRecDepth 100000 in
theorem open_row8 (fuel : Nat) (cs : List Value) (D : DataW H) (Pl : List MemPlace) (h : DataW.trod enc Try.prog W 0 (fun _ => true) true fuel 27 cs = some (D, Pl)) (hw : ∀ k ∈ D.weights Try.prog 27, k ≤ reachBytes) : ∃ (p : Option Addr) (c : Nat) (s : List V), cs = [.slice p s.length c] ∧ RLies W p c s := by
  obtain ⟨xs, n, rfl, hx, hl, hlen, hf⟩ := DataW.trod_struct Try.underlying27 h
  have hc1 : Try.prog.cellsOf 27 = 1 := by kernel_rfl
  have hc5 : Try.prog.cellsOf 53 = 5 := by kernel_rfl
  have hb64 : Try.prog.bytesOf 53 = 64 := by kernel_rfl
  have er : reachBytes = 140737488351232 := by decide
  rw [hc1] at hl
  match cs, hl, xs, hlen with
  | [v0], _, [y0], _ =>
    have c0 : Try.prog.cellsOf 25 = 1 := by kernel_rfl
    have h0 : DataW.trod enc Try.prog W 0 (fun _ => true) true n 25 [v0] = some y0 := by have := hf 0 _ rfl; simpa [c0] using this
    simp only [Prod.mk.injEq] at hx
    obtain ⟨rfl, _⟩ := hx
    have hw4 : ∀ k ∈ y0.1.weights Try.prog 25, k ≤ reachBytes := fun k hk => hw k (by
      simp [DataW.weights, DataW.weightsEach, Try.underlying27]
      exact hk)
    rcases DataW.trod_slice Try.underlying25 h0 with ⟨hcs, _⟩ | ⟨a, len, cap, elems, rest, n', rfl, hcs, hy, _, hlc, _, hel, hat, _⟩
    · simp only [List.cons.injEq, and_true] at hcs
      subst hcs
      exact ⟨none, 0, [], rfl, vl_leaf W 0 0 0 ⟨#[]⟩ none 0, fun x hx => by cases hx⟩
    · simp only [List.cons.injEq, and_true] at hcs
      subst hcs
      rw [hy] at hw4
      have hbd : len * 64 ≤ 140737488351232 := by
        have := hw4 ((elems.length + rest.length) * Try.prog.bytesOf 53) (by simp [DataW.weights, Try.underlying25])
        rw [hb64, er] at this
        omega
      have each : ∀ i, i < len → ∃ z : List Value × V, W.cells? 0 (a.add (i * 5)) 5 = some z.1 ∧ VLies W z.1.toArray z.2 ∧ z.2.wf := by
        intro i hi
        have h5 := hat i hi
        rw [hc5] at h5
        obtain ⟨y, hy2⟩ : ∃ y, elems[i]? = some y := ⟨elems[i]'(by omega), List.getElem?_eq_getElem (by omega)⟩
        rw [hy2] at h5
        obtain ⟨cs', g1, g2⟩ := Option.bind_eq_some_iff.1 h5
        obtain ⟨x, hx⟩ := open_value n' cs' y.1 y.2 g2 (fun k hk => hw4 k (by
          simp only [DataW.weights, Try.underlying25]
          refine List.mem_cons_of_mem _ (List.mem_append_left _ (weightsAll_mem (i := i) (d := y.1) ?_ k hk))
          simp [hy2]))
        exact ⟨⟨cs', x⟩, g1, hx⟩
      haveI : Inhabited V := ⟨.mk 0 0 0 ⟨#[]⟩ []⟩
      obtain ⟨us, zs, hll, hp, hz⟩ := choose_row (L := fun u x => VLies W u x ∧ x.wf) (by decide) each
      subst hll
      refine ⟨some a, cap, zs, rfl, ?_, fun x hx => ?_⟩
      · refine .mk us hbd hlc (fun hne => ?_) (fun j hj => (hz j hj).1)
        obtain ⟨b, off, rfl, h2, h3⟩ := hp (List.length_pos_iff.2 hne)
        exact ⟨b, off, rfl, h2, fun j hj m hm => h3 j (by omega) m hm⟩
      · obtain ⟨j, hj, rfl⟩ := List.mem_iff_getElem.1 hx
        exact (hz j hj).2
set_option maxRecDepth 100000 in
/-- an argument of type api.Row -/
theorem open_row {base : Nat} {ts : List TypeId} {ds : List (DataW H)} {j : Nat} {v : Value} {d : DataW H} {p : List MemPlace} (hv : Value.okWide Try.prog W .any base 27 v) (h : DataW.Trod enc Try.prog W 0 (fun _ => true) true 27 v d p)
    (hsz : (DataW.weightsEach Try.prog ts ds).all (· ≤ reachBytes) = true) (ht : ts[j]? = some 27) (hd : ds[j]? = some d) : ∃ (q : Option Addr) (c : Nat) (s : List V), v = .agg #[.slice q s.length c] ∧ RLies W q c s := by
  obtain ⟨cs, rfl, _⟩ := okWide_struct Try.underlying27 hv
  obtain ⟨fuel, hf⟩ := h
  obtain ⟨q, c, s, e, h2⟩ := open_row8 fuel _ d p hf (fun k hk => by
    have := List.all_eq_true.1 hsz k (DataW.weights_mem_each ht hd k hk)
    simpa using this)
  refine ⟨q, c, s, ?_, h2⟩
  have e' : cs = #[.slice q s.length c] := by
    have : cs.toList = [.slice q s.length c] := by simpa [Value.cells] using e
    rw [← Array.toArray_toList (xs := cs), this]
  rw [e']
end
end Go.Proofs.Yticmkgbjannkkaa

/- An argument of type []api.Row, opened. -/
namespace Go.Proofs.Yticmkgbjannkkaa
open Go.ChangeShapes Go.WideShapes Go.ChangeAt Go.RowKit Go.Deep

section
variable {H : Type} {enc : TypeId × Value → H} {W : World}
set_option maxRecDepth 100000 in
theorem open_rowsF (fuel : Nat) (v : Value) (D : DataW H) (Pl : List MemPlace) (h : DataW.trod enc Try.prog W 0 (fun _ => true) true fuel 41 [v] = some (D, Pl)) (hw : ∀ k ∈ D.weights Try.prog 41, k ≤ reachBytes) : ∃ (q : Option Addr) (c : Nat) (l : List (List V)), v = .slice q l.length c ∧ RowsL W q c l ∧ Long D l.length := by
  have hc1 : Try.prog.cellsOf 27 = 1 := by kernel_rfl
  have hb24 : Try.prog.bytesOf 27 = 24 := by kernel_rfl
  have er : reachBytes = 140737488351232 := by decide
  rcases DataW.trod_slice Try.underlying41 h with ⟨hcs, _⟩ | ⟨a, len, cap, elems, rest, n', rfl, hcs, hy, _, hlc, _, hel, hat, _⟩
  · simp only [List.cons.injEq, and_true] at hcs
    subst hcs
    exact ⟨none, 0, [], rfl, ⟨by simp, by simp, fun j hj => by simp at hj⟩, .inl rfl⟩
  · simp only [List.cons.injEq, and_true] at hcs
    subst hcs
    have hy1 : D = .slice (elems.map (·.1)) (rest.map (·.1)) := by simpa using congrArg Prod.fst hy
    rw [hy1] at hw
    have hbd : len * 24 ≤ 140737488351232 := by
      have := hw (((elems.map (·.1)).length + (rest.map (·.1)).length) * Try.prog.bytesOf 27) (by simp [DataW.weights, Try.underlying41])
      rw [hb24, er] at this
      simp only [List.length_map] at this
      omega
    have each : ∀ i, i < len → ∃ z : List Value × List V, W.cells? 0 (a.add (i * 1)) 1 = some z.1 ∧ (∃ p c, z.1.toArray = #[.slice p z.2.length c] ∧ RLies W p c z.2) := by
      intro i hi
      have h5 := hat i hi
      rw [hc1] at h5
      obtain ⟨y, hy2⟩ : ∃ y, elems[i]? = some y := ⟨elems[i]'(by omega), List.getElem?_eq_getElem (by omega)⟩
      rw [hy2] at h5
      obtain ⟨cs', g1, g2⟩ := Option.bind_eq_some_iff.1 h5
      obtain ⟨p', c', s', e', hr'⟩ := open_row8 n' cs' y.1 y.2 g2 (fun k hk => hw k (by
        simp only [DataW.weights, Try.underlying41]
        refine List.mem_cons_of_mem _ (List.mem_append_left _ (weightsAll_mem (i := i) (d := y.1) ?_ k hk))
        simp [hy2]))
      exact ⟨⟨cs', s'⟩, g1, p', c', by rw [e'], hr'⟩
    obtain ⟨us, zs, hll, hp, hz⟩ := choose_row (L := fun u (x : List V) => ∃ p c, u = #[.slice p x.length c] ∧ RLies W p c x) (by decide) each
    subst hll
    refine ⟨some a, cap, zs, rfl, ⟨hbd, hlc, fun j hj => ?_⟩, .inr ⟨_, _, hy1, by simpa using hel⟩⟩
    obtain ⟨b, off, rfl, h2, h3⟩ := hp (by omega)
    obtain ⟨p', c', e', hr'⟩ := hz j hj
    refine ⟨b, off, p', c', rfl, h2, ?_, hr'⟩
    have := h3 j hj 0 (by decide)
    rw [e'] at this
    simpa using this
/-- an argument of type []api.Row, and how many there are -/
theorem open_rows8 {ts : List TypeId} {ds : List (DataW H)} {j : Nat} {a0 : Option Addr} {len cap : Nat} {d : DataW H} {p : List MemPlace} (h : DataW.Trod enc Try.prog W 0 (fun _ => true) true 41 (.slice a0 len cap) d p)
    (hsz : (DataW.weightsEach Try.prog ts ds).all (· ≤ reachBytes) = true) (ht : ts[j]? = some 41) (hd : ds[j]? = some d) :
    ∃ l : List (List V), len = l.length ∧ RowsL W a0 cap l ∧ l.length ≤ Rows.uptoBulk d := by
  obtain ⟨fuel, hf⟩ := h
  obtain ⟨q, c, l, e, hr, hg⟩ := open_rowsF fuel _ d p (by simpa [Value.cells] using hf) (fun k hk => by
    have := List.all_eq_true.1 hsz k (DataW.weights_mem_each ht hd k hk)
    simpa using this)
  injection e with e1 e2 e3
  subst e1 e3
  exact ⟨l, e2, hr, long_bulk hg⟩
end
end Go.Proofs.Yticmkgbjannkkaa

/- The landed schema: ofCount, checkTypeAt, CheckType, isLetter, isDigit, Name. -/
namespace Go.Proofs.Yticmkgbjannkkaa
open Go.RowKit

set_option maxHeartbeats 400000 in
theorem ofCountK (k : Int) (w : World) : Calls Try.prog 71 #[.int .i64 k] w fun e w' => e = .returned (.int .i64 (Ty.want k : Nat)) ∧ w' = w := by
  by_cases h6 : k = 6
  · have e6 : (k == 6) = true := beq_t h6
    have HW : Hid (Ty.want k = 1) := by show _ = _; unfold Ty.want; rw [if_pos (.inl h6)]
    clear h6
    go_enter Try.func71, Try.ntmps71
    go_wp2
    go_ret
    exact ⟨by rw [HW.out]; rfl, rfl⟩
  have e6 : (k == 6) = false := beq_f h6
  by_cases h7 : k = 7
  · have e7 : (k == 7) = true := beq_t h7
    have HW : Hid (Ty.want k = 1) := by show _ = _; unfold Ty.want; rw [if_pos (.inr h7)]
    clear h6 h7
    go_enter Try.func71, Try.ntmps71
    go_wp2
    go_ret
    exact ⟨by rw [HW.out]; rfl, rfl⟩
  have e7 : (k == 7) = false := beq_f h7
  have HW : Hid (Ty.want k = 0) := by show _ = _; unfold Ty.want; rw [if_neg (by omega)]
  clear h6 h7
  go_enter Try.func71, Try.ntmps71
  go_wp2
  go_ret
  exact ⟨by rw [HW.out]; rfl, rfl⟩

set_option maxRecDepth 100000 in
set_option maxHeartbeats 1000000 in
theorem checkTypeAtK : ∀ (x : Ty) (d : Nat) (w : World) (u : Array Value), d ≤ 5 → TLies w u x → Calls Try.prog 51 #[.agg u, .int .i64 d] w fun e w' => e = .returned (.int .i64 (Ty.check d x : Nat)) ∧ Below w.heap.size w w' := by
  intro x
  refine Ty.ind (P := fun x => ∀ (d : Nat) (w : World) (u : Array Value), d ≤ 5 → TLies w u x → Calls Try.prog 51 #[.agg u, .int .i64 d] w fun e w' => e = .returned (.int .i64 (Ty.check d x : Nat)) ∧ Below w.heap.size w w') ?_ x
  rintro k xs ih d w u hd hx
  obtain ⟨p, c, rfl, hxl, hxc, hxi⟩ := hx.open
  unfold cells2
  have hB1 : Below w.heap.size w (w.alloc (.cells #[.int .i64 k, .slice p xs.length c] 50)) := (Below.refl _ _).alloc (Nat.le_refl _) _
  have HB1 := Lib.hid hB1
  clear hB1 hx
  obtain ⟨R, hR⟩ : ∃ R, R = Ty.check d (.mk k xs) := ⟨_, rfl⟩
  have HCk := Lib.hid (hR.trans (Ty.check_mk d k xs))
  rw [← hR]
  clear hR
  by_cases h1 : 4 < d
  · have g1 : (4 : Int) < (d : Int) := by omega
    have HR : Hid (R = 62) := by show _ = _; rw [HCk.out, if_pos h1]
    clear ih hxi HCk
    go_enter Try.func51, Try.ntmps51
    go_wp2
    go_ret
    exact ⟨by rw [HR.out]; rfl, HB1.out⟩
  have g1 : ¬ (4 : Int) < (d : Int) := by omega
  by_cases h2 : k < 1
  · have HR : Hid (R = 60) := by show _ = _; rw [HCk.out, if_neg h1, if_pos (by omega)]
    have q2 : decide (k < 1) = true := decide_eq_true h2
    clear ih hxi HCk
    go_enter Try.func51, Try.ntmps51
    go_wp2_with fail
    go_quiet (fail)
    go_wp2
    go_ret
    exact ⟨by rw [HR.out]; rfl, below_drewN HB1.out _⟩
  have q2 : decide (k < 1) = false := decide_eq_false h2
  by_cases h3 : 7 < k
  · have HR : Hid (R = 60) := by show _ = _; rw [HCk.out, if_neg h1, if_pos (by omega)]
    have q3 : decide (7 < k) = true := decide_eq_true h3
    clear ih hxi HCk
    go_enter Try.func51, Try.ntmps51
    go_wp2_with fail
    go_quiet (fail)
    go_wp2
    go_ret
    exact ⟨by rw [HR.out]; rfl, below_drewN HB1.out _⟩
  have q3 : decide (7 < k) = false := decide_eq_false h3
  have HO : Hid (∀ w, Calls Try.prog 71 #[.int .i64 k] w fun e w' => e = .returned (.int .i64 (Ty.want k : Nat)) ∧ ∃ n, w' = w.drewN n) := fun w => (ofCountK k w).mono fun _ _ ⟨h1, h2⟩ => ⟨h1, 0, h2⟩
  obtain ⟨n, hn⟩ : ∃ n, n = Ty.want k := ⟨_, rfl⟩
  have HN := Lib.hid hn
  rw [← hn] at HO HCk
  clear hn
  by_cases h4 : xs.length = n
  · have gl : ((xs.length : Int) != (n : Int)) = false := bne_f (by omega)
    by_cases hl0 : xs.length = 0
    · have gz : ((xs.length : Int) == 0) = true := beq_t (by omega)
      have HR : Hid (R = 0) := by
        show _ = _
        have hx0 : xs = [] := List.eq_nil_of_length_eq_zero hl0
        subst hx0
        rw [HCk.out, if_neg h1, if_neg (by omega)]
        rfl
      clear ih hxi HCk hl0 h4
      go_enter Try.func51, Try.ntmps51
      go_wp2_with fail
      go_quiet (first | (go_at_call 71; exact Calls.quiet_of (HO.out _)))
      go_wp2
      go_ret
      exact ⟨by rw [HR.out]; rfl, below_drewN HB1.out _⟩
    · have gz : ((xs.length : Int) == 0) = false := beq_f (by omega)
      have hl1 : xs.length = 1 := by
        have := HN.out
        unfold Ty.want at this
        split at this <;> omega
      have HX : Hid (∀ j (hj : j < xs.length), ∃ u', TLies w u' xs[j] ∧ ItemT w p j u') := hxi
      have HIH := Lib.hid ih
      obtain ⟨ux, hvx, hix⟩ := HX.out 0 (by omega)
      obtain ⟨bx, ox, kx, qx, nx, cx, rfl, _, rfl, a0, a1⟩ := (hix.on HB1.out).lies
      rw [Nat.zero_mul, Nat.add_zero] at a0 a1
      have hR1 : R = Ty.check (d + 1) (xs[0]'(by omega)) := by
        obtain ⟨y, rfl⟩ := List.length_eq_one_iff.1 hl1
        rw [HCk.out]
        have := Ty.check_one d k y h1 (by omega) (by rw [← HN.out]; simp at h4; omega)
        rw [Ty.check_mk, ← HN.out] at this
        exact this
      have HC := Lib.hid (fun n => HIH.out _ (List.getElem_mem (by omega : 0 < xs.length)) (d + 1) _ _ (by omega) (hvx.on (below_drewN HB1.out n)))
      rw [← hR1] at HC
      unfold cells2 at HC
      have hlp : (0 : Int) < (xs.length : Int) := by omega
      clear hR1 HX HIH hvx hix HCk ih hxi hl1 hl0 h4
      go_enter Try.func51, Try.ntmps51
      go_wp2_with fail
      go_quiet (first | (go_at_call 71; exact Calls.quiet_of (HO.out _)))
      go_wp2_with fail
      refine (HC.out nq).mono ?_
      rintro e w2 ⟨rfl, hb2⟩
      have HB2 := Lib.hid ((below_drewN HB1.out nq).trans (hb2.mono (below_drewN HB1.out nq).size))
      clear hb2
      go_wp2
      go_ret
      exact ⟨rfl, HB2.out⟩
  · have gl : ((xs.length : Int) != (n : Int)) = true := bne_t (by omega)
    have HR : Hid (R = 60) := by show _ = _; rw [HCk.out, if_neg h1, if_pos (by omega)]
    clear ih hxi HCk h4
    go_enter Try.func51, Try.ntmps51
    go_wp2_with fail
    go_quiet (first | (go_at_call 71; exact Calls.quiet_of (HO.out _)))
    go_wp2
    go_ret
    exact ⟨by rw [HR.out]; rfl, below_drewN HB1.out _⟩

set_option maxHeartbeats 400000 in
theorem checkTypeK (x : Ty) (w : World) (u : Array Value) (h : TLies w u x) : Calls Try.prog 33 #[.agg u] w fun e w' => e = .returned (.int .i64 (Ty.check 1 x : Nat)) ∧ Below w.heap.size w w' := by
  obtain ⟨k, xs⟩ := x
  obtain ⟨p, c, rfl, -⟩ := h.open
  have hB1 : Below w.heap.size w (w.alloc (.cells (cells2 k p xs.length c) 50)) := (Below.refl _ _).alloc (Nat.le_refl _) _
  have HB1 := Lib.hid hB1
  have HC := Lib.hid (checkTypeAtK _ 1 _ _ (by omega) (h.on hB1))
  clear hB1 h
  obtain ⟨R, hR⟩ : ∃ R, R = Ty.check 1 (.mk k xs) := ⟨_, rfl⟩
  rw [← hR] at HC ⊢
  clear hR
  unfold cells2 at HC HB1 ⊢
  go_enter Try.func33, Try.ntmps33
  go_wp2_with fail
  refine HC.out.mono ?_
  rintro e w2 ⟨rfl, hb2⟩
  have HB2 := Lib.hid (HB1.out.trans (hb2.mono HB1.out.size))
  clear hb2
  go_wp2
  go_ret
  exact ⟨rfl, HB2.out⟩

/-- a digit -/
def dig (c : UInt8) : Bool := decide (48 ≤ c.toNat ∧ c.toNat ≤ 57)
theorem ch_eq (c : UInt8) : Sch.ch c = (Sch.low c || dig c || decide (c.toNat = 95)) := rfl
set_option maxHeartbeats 400000 in
theorem isLetterK (c : UInt8) (w : World) : Calls Try.prog 72 #[.int .u8 c.toNat] w fun e w' => e = .returned (.bool (Sch.low c)) ∧ w' = w := by
  by_cases h1 : c.toNat < 97
  · have g1 : ¬ (97 : Int) ≤ (c.toNat : Int) := by omega
    have g2 : (c.toNat : Int) < 97 := by omega
    have HE : Hid (Sch.low c = false) := by show _ = _; unfold Sch.low; rw [decide_eq_false (by omega)]
    clear h1
    go_enter Try.func72, Try.ntmps72
    go_wp2
    go_ret
    exact ⟨by rw [HE.out]; rfl, rfl⟩
  have g1 : (97 : Int) ≤ (c.toNat : Int) := by omega
  have g2 : ¬ (c.toNat : Int) < 97 := by omega
  by_cases h2 : c.toNat ≤ 122
  · have g3 : (c.toNat : Int) ≤ 122 := by omega
    have g4 : ¬ (122 : Int) < (c.toNat : Int) := by omega
    have HE : Hid (Sch.low c = true) := by show _ = _; unfold Sch.low; rw [decide_eq_true (by omega)]
    clear h1 h2
    go_enter Try.func72, Try.ntmps72
    go_wp2
    go_ret
    exact ⟨by rw [HE.out]; rfl, rfl⟩
  · have g3 : ¬ (c.toNat : Int) ≤ 122 := by omega
    have g4 : (122 : Int) < (c.toNat : Int) := by omega
    have HE : Hid (Sch.low c = false) := by show _ = _; unfold Sch.low; rw [decide_eq_false (by omega)]
    clear h1 h2
    go_enter Try.func72, Try.ntmps72
    go_wp2
    go_ret
    exact ⟨by rw [HE.out]; rfl, rfl⟩
set_option maxHeartbeats 400000 in
theorem isDigitK (c : UInt8) (w : World) : Calls Try.prog 73 #[.int .u8 c.toNat] w fun e w' => e = .returned (.bool (dig c)) ∧ w' = w := by
  by_cases h1 : c.toNat < 48
  · have g1 : ¬ (48 : Int) ≤ (c.toNat : Int) := by omega
    have g2 : (c.toNat : Int) < 48 := by omega
    have HE : Hid (dig c = false) := by show _ = _; unfold dig; rw [decide_eq_false (by omega)]
    clear h1
    go_enter Try.func73, Try.ntmps73
    go_wp2
    go_ret
    exact ⟨by rw [HE.out]; rfl, rfl⟩
  have g1 : (48 : Int) ≤ (c.toNat : Int) := by omega
  have g2 : ¬ (c.toNat : Int) < 48 := by omega
  by_cases h2 : c.toNat ≤ 57
  · have g3 : (c.toNat : Int) ≤ 57 := by omega
    have g4 : ¬ (57 : Int) < (c.toNat : Int) := by omega
    have HE : Hid (dig c = true) := by show _ = _; unfold dig; rw [decide_eq_true (by omega)]
    clear h1 h2
    go_enter Try.func73, Try.ntmps73
    go_wp2
    go_ret
    exact ⟨by rw [HE.out]; rfl, rfl⟩
  · have g3 : ¬ (c.toNat : Int) ≤ 57 := by omega
    have g4 : (57 : Int) < (c.toNat : Int) := by omega
    have HE : Hid (dig c = false) := by show _ = _; unfold dig; rw [decide_eq_false (by omega)]
    clear h1 h2
    go_enter Try.func73, Try.ntmps73
    go_wp2
    go_ret
    exact ⟨by rw [HE.out]; rfl, rfl⟩

set_option maxRecDepth 100000 in
set_option maxHeartbeats 1000000 in
theorem nameK (t : ByteArray) (w : World) : Calls Try.prog 53 #[.string t] w fun e w' => e = .returned (.bool (Sch.name t)) ∧ w' = w := by
  by_cases h1 : t.size = 0
  · have g1 : ((t.size : Int) == 0) = true := beq_t (by omega)
    have HE := Lib.hid (name_short (t := t) (.inl (by omega)))
    clear h1
    go_enter Try.func53, Try.ntmps53
    go_wp2
    go_ret
    exact ⟨by rw [HE.out]; rfl, rfl⟩
  have g1 : ((t.size : Int) == 0) = false := beq_f (by omega)
  by_cases h2 : 16 < t.size
  · have g2 : (16 : Int) < (t.size : Int) := by omega
    have HE := Lib.hid (name_short (t := t) (.inr h2))
    clear h1 h2
    go_enter Try.func53, Try.ntmps53
    go_wp2
    go_ret
    exact ⟨by rw [HE.out]; rfl, rfl⟩
  have g2 : ¬ (16 : Int) < (t.size : Int) := by omega
  have h0 : 0 < t.size := by omega
  have h0' : (0 : Int) < (t.size : Int) := by omega
  have HL := Lib.hid (isLetterK t[0])
  by_cases h3 : Sch.low t[0] = false
  · have HE := Lib.hid (name_head h0 h3)
    rw [h3] at HL
    clear h3 h1 h2
    go_enter Try.func53, Try.ntmps53
    go_wp2_with fail
    refine (HL.out _).mono ?_
    rintro e w2 ⟨rfl, rfl⟩
    go_wp2
    go_ret
    exact ⟨by rw [HE.out]; rfl, rfl⟩
  have h3' : Sch.low t[0] = true := by simpa using h3
  have H3 := Lib.hid h3'
  rw [h3'] at HL
  have H30 : Hid (Sch.ch t[0] = true) := by show _ = _; rw [ch_eq, h3']; rfl
  clear h3 h3'
  go_enter Try.func53, Try.ntmps53
  go_wp2_with fail
  refine (HL.out _).mono ?_
  rintro e w2 ⟨rfl, rfl⟩
  clear HL
  go_wp2_with fail
  go_loop [3] (fun v3 => ∃ a : Nat, 1 ≤ a ∧ a ≤ t.size ∧ v3 = .int .i64 a ∧ Hid (∀ j (h : j < t.size), j < a → Sch.ch t[j] = true)) (fun v3 => t.size - (intOf v3).toNat)
  case atStart => exact ⟨1, by omega, by omega, rfl, fun j _ hj => by
    have h00 : j = 0 := by omega
    subst h00
    exact H30.out⟩
  case round =>
    obtain ⟨a, ha1, ha, rfl, HA⟩ := hrel
    by_cases hlt : a < t.size
    · have hlt' : (a : Int) < (t.size : Int) := by omega
      have HLa := Lib.hid (isLetterK t[a])
      have HDa := Lib.hid (isDigitK t[a])
      have HCh := Lib.hid (ch_eq t[a])
      obtain ⟨r1, hr1⟩ : ∃ r, r = Sch.low t[a] := ⟨_, rfl⟩
      obtain ⟨r2, hr2⟩ : ∃ r, r = dig t[a] := ⟨_, rfl⟩
      rw [← hr1] at HLa HCh
      rw [← hr2] at HDa HCh
      clear hr1 hr2
      have HN : Hid (Sch.ch t[a] = true → ∀ j (h : j < t.size), j < a + 1 → Sch.ch t[j] = true) := fun hc j h hj => by
        by_cases hja : j = a
        · subst hja; exact hc
        · exact HA.out j h (by omega)
      have HB := Lib.hid (name_bad (t := t) a hlt)
      clear HA H3 H30
      go_wp2_with fail
      refine (HLa.out _).mono ?_
      rintro e w2 ⟨rfl, rfl⟩
      clear HLa
      cases r1 with
      | true =>
        have HC : Hid (Sch.ch t[a] = true) := by show _ = _; rw [HCh.out]; rfl
        clear HDa
        go_wp2
        go_round
        case rel => exact ⟨a + 1, by omega, by omega, by go_num, HN.out HC.out⟩
        case measure => simp [intOf]; omega
      | false =>
        go_wp2_with fail
        refine (HDa.out _).mono ?_
        rintro e w2 ⟨rfl, rfl⟩
        clear HDa
        cases r2 with
        | true =>
          have HC : Hid (Sch.ch t[a] = true) := by show _ = _; rw [HCh.out]; rfl
          go_wp2
          go_round
          case rel => exact ⟨a + 1, by omega, by omega, by go_num, HN.out HC.out⟩
          case measure => simp [intOf]; omega
        | false =>
          by_cases h95 : t[a].toNat = 95
          · have k4 : ((t[a].toNat : Int) != 95) = false := by rw [h95]; rfl
            have HC : Hid (Sch.ch t[a] = true) := by show _ = _; rw [HCh.out, decide_eq_true h95]; rfl
            clear h95
            go_wp2
            go_round
            case rel => exact ⟨a + 1, by omega, by omega, by go_num, HN.out HC.out⟩
            case measure => simp [intOf]; omega
          · have k4 : ((t[a].toNat : Int) != 95) = true := by rw [bne_iff_ne]; omega
            have HC : Hid (Sch.ch t[a] = false) := by show _ = _; rw [HCh.out, decide_eq_false h95]; rfl
            clear h95
            go_wp2
            go_ret
            exact ⟨by rw [HB.out HC.out]; rfl, rfl⟩
    · have HE := Lib.hid (name_good (t := t) (by omega) (by omega) H3.out (fun j h => HA.out j h (by omega)))
      have hjn : ¬ (a : Int) < (t.size : Int) := by omega
      clear HA
      go_wp2
      go_ret
      exact ⟨by rw [HE.out]; rfl, rfl⟩
end Go.Proofs.Yticmkgbjannkkaa

/- The landed schema: SameType. -/
namespace Go.Proofs.Yticmkgbjannkkaa
open Go.RowKit

end Go.Proofs.Yticmkgbjannkkaa
