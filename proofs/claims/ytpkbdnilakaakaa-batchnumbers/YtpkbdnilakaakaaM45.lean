/- RB8, RBL, RowsN: put together. -/
import Derived.Test.YtpkbdnilakaakaaM44
import Derived.Test.YtpkbdnilakaakaaM43
import Derived.Test.YtpkbdnilakaakaaM42
import Derived.Deep.DeepHandedRow
import Derived.LaidMore
import Derived.Stop.Joined
import Derived.Test.YtpkbdnilakaakaaM38
import Derived.Test.YtpkbdnilakaakaaM24
import Derived.Test.YtpkbdnilakaakaaM31

/- An argument of type api.Row, []api.Row, or the struct Both, opened. -/
namespace Go.Proofs.Ytpkbdnilakaakaa
open Go.ChangeShapes Go.WideShapes Go.ChangeAt Go.RowKit Go.Deep

section
variable {H : Type} {enc : TypeId × Value → H} {W : World}

set_option maxRecDepth 100000 in
theorem open_row8 (fuel : Nat) (cs : List Value) (D : DataW H) (Pl : List MemPlace) (h : DataW.trod enc Try.prog W 0 (fun _ => true) true fuel 50 cs = some (D, Pl)) (hw : ∀ k ∈ D.weights Try.prog 50, k ≤ reachBytes) : ∃ (p : Option Addr) (c : Nat) (s : List V), cs = [.slice p s.length c] ∧ RLies W p c s := by
  obtain ⟨xs, n, rfl, hx, hl, hlen, hf⟩ := DataW.trod_struct Try.underlying50 h
  have hc1 : Try.prog.cellsOf 50 = 1 := by kernel_rfl
  have hc5 : Try.prog.cellsOf 45 = 5 := by kernel_rfl
  have hb64 : Try.prog.bytesOf 45 = 64 := by kernel_rfl
  have er : reachBytes = 140737488351232 := by decide
  rw [hc1] at hl
  match cs, hl, xs, hlen with
  | [v0], _, [y0], _ =>
    have c0 : Try.prog.cellsOf 43 = 1 := by kernel_rfl
    have h0 : DataW.trod enc Try.prog W 0 (fun _ => true) true n 43 [v0] = some y0 := by have := hf 0 _ rfl; simpa [c0] using this
    simp only [Prod.mk.injEq] at hx
    obtain ⟨rfl, _⟩ := hx
    have hw4 : ∀ k ∈ y0.1.weights Try.prog 43, k ≤ reachBytes := fun k hk => hw k (by
      simp [DataW.weights, DataW.weightsEach, Try.underlying50]
      exact hk)
    rcases DataW.trod_slice Try.underlying43 h0 with ⟨hcs, _⟩ | ⟨a, len, cap, elems, rest, n', rfl, hcs, hy, _, hlc, _, hel, hat, _⟩
    · simp only [List.cons.injEq, and_true] at hcs
      subst hcs
      exact ⟨none, 0, [], rfl, vl_leafB W 0 0 0 ⟨#[]⟩ none 0, fun x hx => by cases hx⟩
    · simp only [List.cons.injEq, and_true] at hcs
      subst hcs
      rw [hy] at hw4
      have hbd : len * 64 ≤ 140737488351232 := by
        have := hw4 ((elems.length + rest.length) * Try.prog.bytesOf 45) (by simp [DataW.weights, Try.underlying43])
        rw [hb64, er] at this
        omega
      have each : ∀ i, i < len → ∃ z : List Value × V, W.cells? 0 (a.add (i * 5)) 5 = some z.1 ∧ VLies W z.1.toArray z.2 ∧ z.2.wf := by
        intro i hi
        have h5 := hat i hi
        rw [hc5] at h5
        obtain ⟨y, hy2⟩ : ∃ y, elems[i]? = some y := ⟨elems[i]'(by omega), List.getElem?_eq_getElem (by omega)⟩
        rw [hy2] at h5
        obtain ⟨cs', g1, g2⟩ := Option.bind_eq_some_iff.1 h5
        obtain ⟨x, hx⟩ := open_value n' cs' y.1 y.2 g2 (fun k hk => hw4 k (by
          simp only [DataW.weights, Try.underlying43]
          refine List.mem_cons_of_mem _ (List.mem_append_left _ (weightsAll_mem (i := i) (d := y.1) ?_ k hk))
          simp [hy2]))
        exact ⟨⟨cs', x⟩, g1, hx⟩
      haveI : Inhabited V := ⟨.mk 0 0 0 ⟨#[]⟩ []⟩
      obtain ⟨us, zs, hll, hp, hz⟩ := choose_row (L := fun u x => VLies W u x ∧ x.wf) (by decide) each
      subst hll
      refine ⟨some a, cap, zs, rfl, ?_, fun x hx => ?_⟩
      · refine .mk us hbd hlc (fun hne => ?_) (fun j hj => (hz j hj).1)
        obtain ⟨b, off, rfl, h2, h3⟩ := hp (List.length_pos_iff.2 hne)
        exact ⟨b, off, rfl, h2, fun j hj m hm => h3 j (by omega) m hm⟩
      · obtain ⟨j, hj, rfl⟩ := List.mem_iff_getElem.1 hx
        exact (hz j hj).2
set_option maxRecDepth 100000 in
/-- an argument of type api.Row -/
theorem open_row {base : Nat} {ts : List TypeId} {ds : List (DataW H)} {j : Nat} {v : Value} {d : DataW H} {p : List MemPlace} (hv : Value.okWide Try.prog W .any base 50 v) (h : DataW.Trod enc Try.prog W 0 (fun _ => true) true 50 v d p)
    (hsz : (DataW.weightsEach Try.prog ts ds).all (· ≤ reachBytes) = true) (ht : ts[j]? = some 50) (hd : ds[j]? = some d) : ∃ (q : Option Addr) (c : Nat) (s : List V), v = .agg #[.slice q s.length c] ∧ RLies W q c s := by
  obtain ⟨cs, rfl, _⟩ := okWide_struct Try.underlying50 hv
  obtain ⟨fuel, hf⟩ := h
  obtain ⟨q, c, s, e, h2⟩ := open_row8 fuel _ d p hf (fun k hk => by
    have := List.all_eq_true.1 hsz k (DataW.weights_mem_each ht hd k hk)
    simpa using this)
  refine ⟨q, c, s, ?_, h2⟩
  have e' : cs = #[.slice q s.length c] := by
    have : cs.toList = [.slice q s.length c] := by simpa [Value.cells] using e
    rw [← Array.toArray_toList (xs := cs), this]
  rw [e']
set_option maxRecDepth 100000 in
theorem open_rowsF (fuel : Nat) (v : Value) (D : DataW H) (Pl : List MemPlace) (h : DataW.trod enc Try.prog W 0 (fun _ => true) true fuel 29 [v] = some (D, Pl)) (hw : ∀ k ∈ D.weights Try.prog 29, k ≤ reachBytes) : ∃ (q : Option Addr) (c : Nat) (l : List (List V)), v = .slice q l.length c ∧ RowsL W q c l := by
  have hc1 : Try.prog.cellsOf 50 = 1 := by kernel_rfl
  have hb24 : Try.prog.bytesOf 50 = 24 := by kernel_rfl
  have er : reachBytes = 140737488351232 := by decide
  rcases DataW.trod_slice Try.underlying29 h with ⟨hcs, _⟩ | ⟨a, len, cap, elems, rest, n', rfl, hcs, hy, _, hlc, _, hel, hat, _⟩
  · simp only [List.cons.injEq, and_true] at hcs
    subst hcs
    exact ⟨none, 0, [], rfl, by simp, by simp, fun j hj => by simp at hj⟩
  · simp only [List.cons.injEq, and_true] at hcs
    subst hcs
    have hy1 : D = .slice (elems.map (·.1)) (rest.map (·.1)) := by simpa using congrArg Prod.fst hy
    rw [hy1] at hw
    have hbd : len * 24 ≤ 140737488351232 := by
      have := hw (((elems.map (·.1)).length + (rest.map (·.1)).length) * Try.prog.bytesOf 50) (by simp [DataW.weights, Try.underlying29])
      rw [hb24, er] at this
      simp only [List.length_map] at this
      omega
    have each : ∀ i, i < len → ∃ z : List Value × List V, W.cells? 0 (a.add (i * 1)) 1 = some z.1 ∧ (∃ p c, z.1.toArray = #[.slice p z.2.length c] ∧ RLies W p c z.2) := by
      intro i hi
      have h5 := hat i hi
      rw [hc1] at h5
      obtain ⟨y, hy2⟩ : ∃ y, elems[i]? = some y := ⟨elems[i]'(by omega), List.getElem?_eq_getElem (by omega)⟩
      rw [hy2] at h5
      obtain ⟨cs', g1, g2⟩ := Option.bind_eq_some_iff.1 h5
      obtain ⟨p', c', s', e', hr'⟩ := open_row8 n' cs' y.1 y.2 g2 (fun k hk => hw k (by
        simp only [DataW.weights, Try.underlying29]
        refine List.mem_cons_of_mem _ (List.mem_append_left _ (weightsAll_mem (i := i) (d := y.1) ?_ k hk))
        simp [hy2]))
      exact ⟨⟨cs', s'⟩, g1, p', c', by rw [e'], hr'⟩
    obtain ⟨us, zs, hll, hp, hz⟩ := choose_row (L := fun u (x : List V) => ∃ p c, u = #[.slice p x.length c] ∧ RLies W p c x) (by decide) each
    subst hll
    refine ⟨some a, cap, zs, rfl, hbd, hlc, fun j hj => ?_⟩
    obtain ⟨b, off, rfl, h2, h3⟩ := hp (by omega)
    obtain ⟨p', c', e', hr'⟩ := hz j hj
    refine ⟨b, off, p', c', rfl, h2, ?_, hr'⟩
    have := h3 j hj 0 (by decide)
    rw [e'] at this
    simpa using this
/-- an argument of type []api.Row -/
theorem open_rows {ts : List TypeId} {ds : List (DataW H)} {j : Nat} {a0 : Option Addr} {len cap : Nat} {d : DataW H} {p : List MemPlace} (h : DataW.Trod enc Try.prog W 0 (fun _ => true) true 29 (.slice a0 len cap) d p)
    (hsz : (DataW.weightsEach Try.prog ts ds).all (· ≤ reachBytes) = true) (ht : ts[j]? = some 29) (hd : ds[j]? = some d) :
    ∃ l : List (List V), len = l.length ∧ RowsL W a0 cap l := by
  obtain ⟨fuel, hf⟩ := h
  obtain ⟨q, c, l, e, hr⟩ := open_rowsF fuel _ d p (by simpa [Value.cells] using hf) (fun k hk => by
    have := List.all_eq_true.1 hsz k (DataW.weights_mem_each ht hd k hk)
    simpa using this)
  injection e with e1 e2 e3
  subst e1 e3
  exact ⟨l, e2, hr⟩
set_option maxRecDepth 100000 in
/-- an argument of type Both -/
theorem open_both {base : Nat} {ts : List TypeId} {ds : List (DataW H)} {j : Nat} {v : Value} {d : DataW H} {p : List MemPlace} (hv : Value.okWide Try.prog W .any base 35 v) (h : DataW.Trod enc Try.prog W 0 (fun _ => true) true 35 v d p)
    (hsz : (DataW.weightsEach Try.prog ts ds).all (· ≤ reachBytes) = true) (ht : ts[j]? = some 35) (hd : ds[j]? = some d) :
    ∃ (p : Option Addr) (c : Nat) (s : List Col) (q : Option Addr) (d : Nat) (l : List (List V)) (r : Option Addr) (e : Nat) (b : List UInt8) (n m : Int), v = .agg #[.slice p s.length c, .slice q l.length d, .slice r b.length e, .int .i64 n, .int .i64 m] ∧ BothL W p c s q d l r e b := by
  obtain ⟨cs0, rfl, _⟩ := okWide_struct Try.underlying35 hv
  obtain ⟨fuel, hf0⟩ := h
  have hw : ∀ k ∈ d.weights Try.prog 35, k ≤ reachBytes := fun k hk => by
    have := List.all_eq_true.1 hsz k (DataW.weights_mem_each ht hd k hk)
    simpa using this
  obtain ⟨cs, hcs⟩ : ∃ cs, cs = (Value.agg cs0).cells.toList := ⟨_, rfl⟩
  rw [← hcs] at hf0
  obtain ⟨xs, n, rfl, hx, hl, hlen, hf⟩ := DataW.trod_struct Try.underlying35 hf0
  have hc5 : Try.prog.cellsOf 35 = 5 := by kernel_rfl
  have er : reachBytes = 140737488351232 := by decide
  rw [hc5] at hl
  match cs, hl, xs, hlen with
  | [v0, v1, v2, v3, v4], _, [y0, y1, y2, y3, y4], _ =>
    have c0 : Try.prog.cellsOf 27 = 1 := by kernel_rfl
    have c1 : Try.prog.cellsOf 29 = 1 := by kernel_rfl
    have c2 : Try.prog.cellsOf 30 = 1 := by kernel_rfl
    have c3 : Try.prog.cellsOf 3 = 1 := by kernel_rfl
    have h0 : DataW.trod enc Try.prog W 0 (fun _ => true) true n 27 [v0] = some y0 := by have := hf 0 _ rfl; simpa [c0] using this
    have h1 : DataW.trod enc Try.prog W 0 (fun _ => true) true n 29 [v1] = some y1 := by have := hf 1 _ rfl; simpa [c1] using this
    have h2 : DataW.trod enc Try.prog W 0 (fun _ => true) true n 30 [v2] = some y2 := by have := hf 2 _ rfl; simpa [c2] using this
    have h3 : DataW.trod enc Try.prog W 0 (fun _ => true) true n 3 [v3] = some y3 := by have := hf 3 _ rfl; simpa [c3] using this
    have h4 : DataW.trod enc Try.prog W 0 (fun _ => true) true n 3 [v4] = some y4 := by have := hf 4 _ rfl; simpa [c3] using this
    simp only [Prod.mk.injEq] at hx
    obtain ⟨rfl, _⟩ := hx
    obtain ⟨n3, hn3, _, _⟩ := DataW.trod_int Try.underlying3 h3
    obtain ⟨n4, hn4, _, _⟩ := DataW.trod_int Try.underlying3 h4
    simp only [List.cons.injEq, and_true] at hn3 hn4
    subst hn3 hn4
    obtain ⟨ps, cs', s, e1, b1, b2, b3, b4⟩ := open_schema n _ y0.1 y0.2 h0 (fun k hk => hw k (by
      simp [DataW.weights, DataW.weightsEach, Try.underlying35]
      left
      exact hk))
    obtain ⟨pr, cr, l, e2, hrl⟩ := open_rowsF n _ y1.1 y1.2 h1 (fun k hk => hw k (by
      simp [DataW.weights, DataW.weightsEach, Try.underlying35]
      right; left
      exact hk))
    have hw2 : ∀ k ∈ y2.1.weights Try.prog 30, k ≤ reachBytes := fun k hk => hw k (by
      simp [DataW.weights, DataW.weightsEach, Try.underlying35]
      right; right; left
      exact hk)
    have hbyt : ∃ (r : Option Addr) (e : Nat) (b : List UInt8), v2 = .slice r b.length e ∧ At W r b ∧ b.length ≤ 140737488351232 ∧ b.length ≤ e := by
      have hsl := DataW.trod_slice Try.underlying30 h2
      rcases hsl with ⟨hcs2, _⟩ | ⟨a, len, cap, elems, rest, n', _, hcs2, hy, _, hlc, _, hel, _, _⟩
      · simp only [List.cons.injEq, and_true] at hcs2
        subst hcs2
        exact ⟨none, 0, [], rfl, .inl rfl, by simp, by simp⟩
      · simp only [List.cons.injEq, and_true] at hcs2
        subst hcs2
        obtain ⟨b, hb1, hb2, hb3, _, _⟩ := opened (enc := enc) (W := W) (d0 := y2.1) (p := y2.2) ⟨n, by simpa [Value.cells] using h2⟩
        refine ⟨some a, cap, b, by rw [hb1], hb2, ?_, by omega⟩
        have hy1 : y2.1 = .slice (elems.map (·.1)) (rest.map (·.1)) := by simpa using congrArg Prod.fst hy
        rw [hy1] at hw2
        have := hw2 (((elems.map (·.1)).length + (rest.map (·.1)).length) * Try.prog.bytesOf 5) (by simp [DataW.weights, Try.underlying30])
        rw [bytes8, er] at this
        simp only [List.length_map] at this
        omega
    obtain ⟨r, e, b, e3, g1, g2, g3⟩ := hbyt
    simp only [List.cons.injEq, and_true] at e1
    subst e1 e2 e3
    refine ⟨ps, cs', s, pr, cr, l, r, e, b, n3, n4, ?_, ⟨b1, b2, b3, b4⟩, hrl, g1, g2, g3⟩
    have e' : cs0.toList = [.slice ps s.length cs', .slice pr l.length cr, .slice r b.length e, .int .i64 n3, .int .i64 n4] := by simpa [Value.cells] using hcs.symm
    rw [← Array.toArray_toList (xs := cs0), e']
end
end Go.Proofs.Ytpkbdnilakaakaa

/- The rows of stage 11: no variable is listed (else as wip/crc/RowL.lean.t: Tie, Cards, what they give). -/
namespace Go.Proofs.Ytpkbdnilakaakaa
open Go.ChangeShapes Go.WideShapes Go.ChangeAt Go.RowKit

theorem laid_gives {W : World} (_ : laidMetH Try.prog [] W) : True := trivial
theorem door_met (os : Os) (args : Array Value) : laidMet Try.prog [] ((World.holding Try.prog os ⟨#[], #[], []⟩).forCall (fun _ _ => 0) ⟨#[], args, []⟩).memory :=
  laidMet_of_run' 8 (by kernel_rfl) (by kernel_rfl)
/-- a text's bytes, bounded by what the row's weights say -/
theorem str_sized {H : Type} {ts : List TypeId} {ds : List (DataW H)} {j : Nat} {t : TypeId} {s : ByteArray} (hsz : (DataW.weightsEach Try.prog ts ds).all (· ≤ reachBytes) = true) (ht : ts[j]? = some t) (hd : ds[j]? = some (.lit (.string s.data.toList))) : s.size ≤ 140737488351232 := by
  have := List.all_eq_true.1 hsz s.data.toList.length (DataW.weights_mem_each ht hd _ (by simp [DataW.weights]))
  have er : reachBytes = 140737488351232 := by decide
  rw [er] at this
  simpa using this
end Go.Proofs.Ytpkbdnilakaakaa

/- Package row's functions answer as batch asks. -/
namespace Go.Proofs.Ytpkbdnilakaakaa
open Go.RowKit
theorem rowsIn : RowsIn := ⟨fun s p c vs q d w h1 h2 => encodeRK s p c vs q d w h1 h2, fun s p c l q d a w h1 h2 h3 h4 h5 h6 => decodeRK s p c l q d a w h1 h2 h3 h4 h5 h6⟩
end Go.Proofs.Ytpkbdnilakaakaa
