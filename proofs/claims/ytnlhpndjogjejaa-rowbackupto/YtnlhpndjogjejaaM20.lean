/- Row8, RowL: put together. -/
import Derived.Test.YtnlhpndjogjejaaM18
import Derived.Test.YtnlhpndjogjejaaM10
import Derived.Test.YtnlhpndjogjejaaM19
import Derived.Test.YtnlhpndjogjejaaM16
import Derived.Deep.DeepHandedRow
import Derived.LaidMore
import Derived.Stop.Joined

/- An argument of type api.Row, opened: the values that lie there, within their bounds. -/
namespace Go.Proofs.Ytnlhpndjogjejaa
open Go.ChangeShapes Go.WideShapes Go.ChangeAt Go.RowKit Go.Deep

section
variable {H : Type} {enc : TypeId × Value → H} {W : World}

set_option maxRecDepth 100000 in
theorem open_row8 (fuel : Nat) (cs : List Value) (D : DataW H) (Pl : List MemPlace) (h : DataW.trod enc Try.prog W 0 (fun _ => true) true fuel 27 cs = some (D, Pl)) (hw : ∀ k ∈ D.weights Try.prog 27, k ≤ reachBytes) : ∃ (p : Option Addr) (c : Nat) (s : List V), cs = [.slice p s.length c] ∧ RLies W p c s := by
  obtain ⟨xs, n, rfl, hx, hl, hlen, hf⟩ := DataW.trod_struct Try.underlying27 h
  have hc1 : Try.prog.cellsOf 27 = 1 := by kernel_rfl
  have hc5 : Try.prog.cellsOf 46 = 5 := by kernel_rfl
  have hb64 : Try.prog.bytesOf 46 = 64 := by kernel_rfl
  have er : reachBytes = 140737488351232 := by decide
  rw [hc1] at hl
  match cs, hl, xs, hlen with
  | [v0], _, [y0], _ =>
    have c0 : Try.prog.cellsOf 25 = 1 := by kernel_rfl
    have h0 : DataW.trod enc Try.prog W 0 (fun _ => true) true n 25 [v0] = some y0 := by have := hf 0 _ rfl; simpa [c0] using this
    simp only [Prod.mk.injEq] at hx
    obtain ⟨rfl, _⟩ := hx
    have hw4 : ∀ k ∈ y0.1.weights Try.prog 25, k ≤ reachBytes := fun k hk => hw k (by
      simp [DataW.weights, DataW.weightsEach, Try.underlying27]
      exact hk)
    rcases DataW.trod_slice Try.underlying25 h0 with ⟨hcs, _⟩ | ⟨a, len, cap, elems, rest, n', rfl, hcs, hy, _, hlc, _, hel, hat, _⟩
    · simp only [List.cons.injEq, and_true] at hcs
      subst hcs
      exact ⟨none, 0, [], rfl, vl_leaf W 0 0 0 ⟨#[]⟩ none 0, fun x hx => by cases hx⟩
    · simp only [List.cons.injEq, and_true] at hcs
      subst hcs
      rw [hy] at hw4
      have hbd : len * 64 ≤ 140737488351232 := by
        have := hw4 ((elems.length + rest.length) * Try.prog.bytesOf 46) (by simp [DataW.weights, Try.underlying25])
        rw [hb64, er] at this
        omega
      have each : ∀ i, i < len → ∃ z : List Value × V, W.cells? 0 (a.add (i * 5)) 5 = some z.1 ∧ VLies W z.1.toArray z.2 ∧ z.2.wf := by
        intro i hi
        have h5 := hat i hi
        rw [hc5] at h5
        obtain ⟨y, hy2⟩ : ∃ y, elems[i]? = some y := ⟨elems[i]'(by omega), List.getElem?_eq_getElem (by omega)⟩
        rw [hy2] at h5
        obtain ⟨cs', g1, g2⟩ := Option.bind_eq_some_iff.1 h5
        obtain ⟨x, hx⟩ := open_value n' cs' y.1 y.2 g2 (fun k hk => hw4 k (by
          simp only [DataW.weights, Try.underlying25]
          refine List.mem_cons_of_mem _ (List.mem_append_left _ (weightsAll_mem (i := i) (d := y.1) ?_ k hk))
          simp [hy2]))
        exact ⟨⟨cs', x⟩, g1, hx⟩
      haveI : Inhabited V := ⟨.mk 0 0 0 ⟨#[]⟩ []⟩
      obtain ⟨us, zs, hll, hp, hz⟩ := choose_row (L := fun u x => VLies W u x ∧ x.wf) (by decide) each
      subst hll
      refine ⟨some a, cap, zs, rfl, ?_, fun x hx => ?_⟩
      · refine .mk us hbd hlc (fun hne => ?_) (fun j hj => (hz j hj).1)
        obtain ⟨b, off, rfl, h2, h3⟩ := hp (List.length_pos_iff.2 hne)
        exact ⟨b, off, rfl, h2, fun j hj m hm => h3 j (by omega) m hm⟩
      · obtain ⟨j, hj, rfl⟩ := List.mem_iff_getElem.1 hx
        exact (hz j hj).2
set_option maxRecDepth 100000 in
/-- an argument of type api.Row -/
theorem open_row {base : Nat} {ts : List TypeId} {ds : List (DataW H)} {j : Nat} {v : Value} {d : DataW H} {p : List MemPlace} (hv : Value.okWide Try.prog W .any base 27 v) (h : DataW.Trod enc Try.prog W 0 (fun _ => true) true 27 v d p)
    (hsz : (DataW.weightsEach Try.prog ts ds).all (· ≤ reachBytes) = true) (ht : ts[j]? = some 27) (hd : ds[j]? = some d) : ∃ (q : Option Addr) (c : Nat) (s : List V), v = .agg #[.slice q s.length c] ∧ RLies W q c s := by
  obtain ⟨cs, rfl, _⟩ := okWide_struct Try.underlying27 hv
  obtain ⟨fuel, hf⟩ := h
  obtain ⟨q, c, s, e, h2⟩ := open_row8 fuel _ d p hf (fun k hk => by
    have := List.all_eq_true.1 hsz k (DataW.weights_mem_each ht hd k hk)
    simpa using this)
  refine ⟨q, c, s, ?_, h2⟩
  have e' : cs = #[.slice q s.length c] := by
    have : cs.toList = [.slice q s.length c] := by simpa [Value.cells] using e
    rw [← Array.toArray_toList (xs := cs), this]
  rw [e']
end
end Go.Proofs.Ytnlhpndjogjejaa

/- The rows of stage 8: no variable is listed (else as wip/crc/RowL.lean.t: Tie, Cards, what they give). -/
namespace Go.Proofs.Ytnlhpndjogjejaa
open Go.ChangeShapes Go.WideShapes Go.ChangeAt Go.RowKit

theorem laid_gives {W : World} (_ : laidMetH Try.prog [] W) : RowsI W := trivial
theorem door_met (os : Os) (args : Array Value) : laidMet Try.prog [] ((World.holding Try.prog os ⟨#[], #[], []⟩).forCall (fun _ _ => 0) ⟨#[], args, []⟩).memory :=
  laidMet_of_run' 8 (by kernel_rfl) (by kernel_rfl)
/-- a text's bytes, bounded by what the row's weights say -/
theorem str_sized {H : Type} {ts : List TypeId} {ds : List (DataW H)} {j : Nat} {t : TypeId} {s : ByteArray} (hsz : (DataW.weightsEach Try.prog ts ds).all (· ≤ reachBytes) = true) (ht : ts[j]? = some t) (hd : ds[j]? = some (.lit (.string s.data.toList))) : s.size ≤ 140737488351232 := by
  have := List.all_eq_true.1 hsz s.data.toList.length (DataW.weights_mem_each ht hd _ (by simp [DataW.weights]))
  have er : reachBytes = 140737488351232 := by decide
  rw [er] at this
  simpa using this
end Go.Proofs.Ytnlhpndjogjejaa
