/- An argument of type []Token, opened: the tokens that lie there. -/
import Derived.Test.YtoojflhafmnggaaRowB
import Derived.Test.YtoojflhafmnggaaLBTokens
import Derived.Deep.Slices
import Derived.Lib.SmallJoins
namespace Go.Proofs.Ytoojflhafmnggaa
open Go.ChangeShapes Go.WideShapes Go.ChangeAt Go.RowKit Go.Deep

theorem i64_bd {a : Int} (h : (Lit.int .i64 a).wf = true) : -9223372036854775808 ≤ a ∧ a ≤ 9223372036854775807 := by
  have e1 : IntKind.i64.min = -9223372036854775808 := rfl
  have e2 : IntKind.i64.max = 9223372036854775807 := rfl
  simp only [Lit.wf, e1, e2, Bool.and_eq_true, decide_eq_true_eq] at h
  exact h

section
variable {H : Type} {enc : TypeId × Value → H} {W : World}
theorem opened_cs {fuel : Nat} {v : Value} {y : DataW H × List MemPlace} (h : DataW.trod enc Try.prog W 0 (fun _ => true) true fuel 22 [v] = some y) :
    ∃ (p : Option Addr) (c : Nat) (l : List UInt8), v = .slice p l.length c ∧ At W p l ∧ l.length ≤ c ∧ Long y.1 l.length := by
  have hv : ∃ a len cap, v = .slice a len cap := by
    rcases open_ints Try.underlying22 Try.underlying5 cells8 h with ⟨hcs, _⟩ | ⟨x, l, c, zs, hcs, _⟩
    · simp at hcs; exact ⟨_, _, _, hcs⟩
    · simp at hcs; exact ⟨_, _, _, hcs⟩
  obtain ⟨a, len, cap, rfl⟩ := hv
  obtain ⟨l, rfl, h1, h2, _, h4⟩ := opened (enc := enc) (W := W) (a0 := a) (len := len) (cap := cap) (d0 := y.1) (p := y.2) ⟨fuel, h⟩
  exact ⟨a, cap, l, rfl, h1, h2, h4⟩

theorem weightsAll_mem {P : Program} {e : TypeId} : ∀ {l : List (DataW H)} {i : Nat} {d : DataW H}, l[i]? = some d → ∀ n ∈ d.weights P e, n ∈ DataW.weightsAll P e l
  | [], _, _, h => by simp at h
  | x :: r, 0, d, h => by
    intro n hn
    simp at h
    subst h
    simp [DataW.weightsAll, hn]
  | x :: r, i + 1, d, h => by
    intro n hn
    have := weightsAll_mem (l := r) (i := i) (d := d) (by simpa using h) n hn
    simp [DataW.weightsAll, this]

set_option maxRecDepth 100000 in
/-- a token, out of its three cells -/
theorem open_tok {fuel : Nat} {cs : List Value} {D : DataW H} {Pl : List MemPlace} (h : DataW.trod enc Try.prog W 0 (fun _ => true) true fuel 33 cs = some (D, Pl)) :
    ∃ (o : TokA) (d0 d1 d2 : DataW H), cs = [.slice o.p o.l.length o.c, .int .i64 o.n, .int .i64 o.back] ∧ D = .agg [d0, d1, d2] ∧ Long d0 o.l.length ∧
      -9223372036854775808 ≤ o.n ∧ o.n ≤ 9223372036854775807 ∧ -9223372036854775808 ≤ o.back ∧ o.back ≤ 9223372036854775807 ∧ At W o.p o.l := by
  obtain ⟨xs, n, rfl, hx, hl, hlen, hf⟩ := DataW.trod_struct Try.underlying33 h
  have hc3 : Try.prog.cellsOf 33 = 3 := by kernel_rfl
  rw [hc3] at hl
  match cs, hl, xs, hlen with
  | [v0, v1, v2], _, [y0, y1, y2], _ =>
    have c0 : Try.prog.cellsOf 22 = 1 := by kernel_rfl
    have c1 : Try.prog.cellsOf 3 = 1 := by kernel_rfl
    have h0 : DataW.trod enc Try.prog W 0 (fun _ => true) true n 22 [v0] = some y0 := by have := hf 0 _ rfl; simpa [c0] using this
    have h1 : DataW.trod enc Try.prog W 0 (fun _ => true) true n 3 [v1] = some y1 := by have := hf 1 _ rfl; simpa [c1] using this
    have h2 : DataW.trod enc Try.prog W 0 (fun _ => true) true n 3 [v2] = some y2 := by have := hf 2 _ rfl; simpa [c1] using this
    simp only [Prod.mk.injEq] at hx
    obtain ⟨rfl, _⟩ := hx
    obtain ⟨n1, hn1, e1, hw1⟩ := DataW.trod_int Try.underlying3 h1
    obtain ⟨n2, hn2, e2, hw2⟩ := DataW.trod_int Try.underlying3 h2
    simp only [List.cons.injEq, and_true] at hn1 hn2
    subst hn1 hn2
    obtain ⟨a1, a2⟩ := i64_bd hw1
    obtain ⟨b1, b2⟩ := i64_bd hw2
    obtain ⟨p, c, l, rfl, hA, hlc, hL⟩ := opened_cs h0
    exact ⟨⟨p, c, l, n1, n2⟩, _, _, _, rfl, rfl, hL, a1, a2, b1, b2, hA⟩

/-- the tokens -/
theorem open_toks {ts : List TypeId} {ds : List (DataW H)} {j : Nat} {a0 : Option Addr} {len cap : Nat} {d : DataW H} {p : List MemPlace} (h : DataW.Trod enc Try.prog W 0 (fun _ => true) true 31 (.slice a0 len cap) d p)
    (hsz : (DataW.weightsEach Try.prog ts ds).all (· ≤ reachBytes) = true) (ht : ts[j]? = some 31) (hd : ds[j]? = some d) :
    ∃ ops : List TokA, len = ops.length ∧ TokRow W a0 ops ∧ ops.length ≤ 3600000000000 := by
  obtain ⟨fuel, hf⟩ := h
  have hc3 : Try.prog.cellsOf 33 = 3 := by kernel_rfl
  have hb40 : Try.prog.bytesOf 33 = 40 := by kernel_rfl
  have er : reachBytes = 140737488351232 := by decide
  rcases open_slice Try.underlying31 hf with ⟨hcs, _⟩ | ⟨a, len', cap', m, n, D, Pl, hcs, _, hl, _, hm, hx, hel⟩
  · simp [Value.cells] at hcs
    obtain ⟨rfl, rfl, rfl⟩ := hcs
    exact ⟨[], rfl, .inl rfl, by simp⟩
  · simp [Value.cells] at hcs
    obtain ⟨rfl, rfl, rfl⟩ := hcs
    simp only [Prod.mk.injEq] at hx
    obtain ⟨rfl, _⟩ := hx
    have hlm : len ≤ m := by rw [hm]; split <;> omega
    rw [hc3] at hel
    have hW : ∀ k ∈ DataW.weights Try.prog 31 (.slice ((List.range len).map D) ((List.range (m - len)).map fun j => D (len + j))), k ≤ reachBytes := fun k hk => by
      have := List.all_eq_true.1 hsz k (DataW.weights_mem_each ht hd k hk)
      simpa using this
    have each : ∀ i, i < len → ∃ o : TokA, o.Ok W ∧ W.cell? (a.add (i * 3)) = some (.slice o.p o.l.length o.c) ∧ W.cell? (a.add (i * 3 + 1)) = some (.int .i64 o.n) ∧ W.cell? (a.add (i * 3 + 2)) = some (.int .i64 o.back) := by
      intro i hi
      obtain ⟨cs', g1, g2⟩ := hel i (by omega)
      obtain ⟨_, hlen, hcell⟩ := World.cells?_some g1
      obtain ⟨o, d0, d1, d2, rfl, hD, hL, q1, q2, q3, q4, q5⟩ := open_tok g2
      have e0 := hcell 0 (by omega)
      have e1 := hcell 1 (by omega)
      have e2 := hcell 2 (by omega)
      rw [add_add] at e0 e1 e2
      refine ⟨o, ⟨q1, q2, q3, q4, ?_, q5⟩, by simpa using e0, by simpa using e1, by simpa using e2⟩
      rcases hL with h0 | ⟨elems, spare, rfl, he⟩
      · omega
      · have hmem : (elems.length + spare.length) * Try.prog.bytesOf 5 ∈ DataW.weights Try.prog 31 (.slice ((List.range len).map D) ((List.range (m - len)).map fun j => D (len + j))) := by
          have h1 : (elems.length + spare.length) * Try.prog.bytesOf 5 ∈ (D i).weights Try.prog 33 := by
            rw [hD]
            simp [DataW.weights, DataW.weightsEach, Try.underlying33, Try.underlying22]
          have h2 := weightsAll_mem (P := Try.prog) (e := 33) (l := (List.range len).map D) (i := i) (d := D i) (by simp [hi]) _ h1
          simp only [DataW.weights, Try.underlying31]
          exact List.mem_cons_of_mem _ (List.mem_append_left _ h2)
        have := hW _ hmem
        rw [bytes8] at this
        omega
    haveI : Inhabited TokA := ⟨⟨none, 0, [], 0, 0⟩⟩
    obtain ⟨o, ho⟩ := choose_lt each
    refine ⟨(List.range len).map o, by simp, ?_, ?_⟩
    · by_cases h0 : len = 0
      · subst h0; exact .inl (by simp)
      · obtain ⟨b, off, spot⟩ := a
        have hc0 := (ho 0 (by omega)).2.1
        have hspot : spot = none := by simpa [Addr.add] using World.cell?_spot hc0
        subst hspot
        refine .inr ⟨b, off, rfl, ?_, fun i hi => ?_⟩
        · have := World.block_lt_of_cell? _ _ hc0
          simpa [block_add] using this
        · have hi2 : i < len := by simpa using hi
          obtain ⟨k0, k1, k2, k3⟩ := ho i hi2
          simp only [add_off] at k1 k2 k3
          simp only [List.getElem_map, List.getElem_range]
          exact ⟨k0, k1, k2, k3⟩
    · have h1 : (((List.range len).map D).length + ((List.range (m - len)).map fun j => D (len + j)).length) * Try.prog.bytesOf 33 ∈ DataW.weights Try.prog 31 (.slice ((List.range len).map D) ((List.range (m - len)).map fun j => D (len + j))) := by
        simp [DataW.weights, Try.underlying31]
      have h2 := hW _ h1
      rw [hb40] at h2
      simp at h2 ⊢
      omega
end
end Go.Proofs.Ytoojflhafmnggaa
