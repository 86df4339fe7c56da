/- An argument of type Blind, opened: two schemas and two rows. -/
import Derived.Test.YtdahackmmhcjoaaM20
namespace Go.Proofs.Ytdahackmmhcjoaa
open Go.ChangeShapes Go.WideShapes Go.ChangeAt Go.RowKit Go.Deep

section
variable {H : Type} {enc : TypeId × Value → H} {W : World}
set_option maxRecDepth 100000 in
theorem open_blind {base : Nat} {ts : List TypeId} {ds : List (DataW H)} {j : Nat} {v : Value} {d : DataW H} {p : List MemPlace} (hv : Value.okWide Try.prog W .any base 44 v) (h : DataW.Trod enc Try.prog W 0 (fun _ => true) true 44 v d p)
    (hsz : (DataW.weightsEach Try.prog ts ds).all (· ≤ reachBytes) = true) (ht : ts[j]? = some 44) (hd : ds[j]? = some d) :
    ∃ (p1 : Option Addr) (c1 : Nat) (s : List Col) (p2 : Option Addr) (c2 : Nat) (t : List Col) (p3 : Option Addr) (c3 : Nat) (vs : List V) (p4 : Option Addr) (c4 : Nat) (os : List V), v = .agg #[.slice p1 s.length c1, .slice p2 t.length c2, .slice p3 vs.length c3, .slice p4 os.length c4] ∧ SchL W p1 c1 s ∧ SchL W p2 c2 t ∧ RLies W p3 c3 vs ∧ RLies W p4 c4 os := by
  obtain ⟨cs0, rfl, _⟩ := okWide_struct Try.underlying44 hv
  obtain ⟨fuel, hf0⟩ := h
  have hw : ∀ k ∈ d.weights Try.prog 44, k ≤ reachBytes := fun k hk => by
    have := List.all_eq_true.1 hsz k (DataW.weights_mem_each ht hd k hk)
    simpa using this
  obtain ⟨cs, hcs⟩ : ∃ cs, cs = (Value.agg cs0).cells.toList := ⟨_, rfl⟩
  rw [← hcs] at hf0
  obtain ⟨xs, n, rfl, hx, hl, hlen, hf⟩ := DataW.trod_struct Try.underlying44 hf0
  have hc4 : Try.prog.cellsOf 44 = 4 := by kernel_rfl
  rw [hc4] at hl
  match cs, hl, xs, hlen with
  | [v0, v1, v2, v3], _, [y0, y1, y2, y3], _ =>
    have c0 : Try.prog.cellsOf 40 = 1 := by kernel_rfl
    have c1 : Try.prog.cellsOf 42 = 1 := by kernel_rfl
    have h0 : DataW.trod enc Try.prog W 0 (fun _ => true) true n 40 [v0] = some y0 := by have := hf 0 _ rfl; simpa [c0, c1] using this
    have h1 : DataW.trod enc Try.prog W 0 (fun _ => true) true n 40 [v1] = some y1 := by have := hf 1 _ rfl; simpa [c0, c1] using this
    have h2 : DataW.trod enc Try.prog W 0 (fun _ => true) true n 42 [v2] = some y2 := by have := hf 2 _ rfl; simpa [c0, c1] using this
    have h3 : DataW.trod enc Try.prog W 0 (fun _ => true) true n 42 [v3] = some y3 := by have := hf 3 _ rfl; simpa [c0, c1] using this
    simp only [Prod.mk.injEq] at hx
    obtain ⟨rfl, _⟩ := hx
    obtain ⟨p1, d1, s, e1, g1⟩ := open_schema n _ y0.1 y0.2 h0 (fun k hk => hw k (by
      simp [DataW.weights, DataW.weightsEach, Try.underlying44]
      left
      exact hk))
    obtain ⟨p2, d2, t, e2, g2⟩ := open_schema n _ y1.1 y1.2 h1 (fun k hk => hw k (by
      simp [DataW.weights, DataW.weightsEach, Try.underlying44]
      right; left
      exact hk))
    obtain ⟨p3, d3, vs, e3, g3⟩ := open_row8 n _ y2.1 y2.2 h2 (fun k hk => hw k (by
      simp [DataW.weights, DataW.weightsEach, Try.underlying44]
      right; right; left
      exact hk))
    obtain ⟨p4, d4, os, e4, g4⟩ := open_row8 n _ y3.1 y3.2 h3 (fun k hk => hw k (by
      simp [DataW.weights, DataW.weightsEach, Try.underlying44]
      right; right; right
      exact hk))
    simp only [List.cons.injEq, and_true] at e1 e2 e3 e4
    subst e1 e2 e3 e4
    refine ⟨p1, d1, s, p2, d2, t, p3, d3, vs, p4, d4, os, ?_, ⟨g1.1, g1.2.1, g1.2.2.1, g1.2.2.2⟩, ⟨g2.1, g2.2.1, g2.2.2.1, g2.2.2.2⟩, g3, g4⟩
    have e' : cs0.toList = [.slice p1 s.length d1, .slice p2 t.length d2, .slice p3 vs.length d3, .slice p4 os.length d4] := by simpa [Value.cells] using hcs.symm
    rw [← Array.toArray_toList (xs := cs0), e']
end
end Go.Proofs.Ytdahackmmhcjoaa
