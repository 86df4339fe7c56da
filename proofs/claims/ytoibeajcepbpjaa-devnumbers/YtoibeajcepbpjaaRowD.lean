/- The arguments of stage 5's laws, opened: a script, a failure. -/
import Derived.Test.YtoibeajcepbpjaaRowB
import Derived.Test.YtoibeajcepbpjaaLDKeep3
import Derived.Deep.Slices
import Derived.Lib.SmallJoins
namespace Go.Proofs.Ytoibeajcepbpjaa
open Go.ChangeShapes Go.WideShapes Go.ChangeAt Go.RowKit Go.Deep

theorem i64_bd {a : Int} (h : (Lit.int .i64 a).wf = true) : -9223372036854775808 ≤ a ∧ a ≤ 9223372036854775807 := by
  have e1 : IntKind.i64.min = -9223372036854775808 := rfl
  have e2 : IntKind.i64.max = 9223372036854775807 := rfl
  simp only [Lit.wf, e1, e2, Bool.and_eq_true, decide_eq_true_eq] at h
  exact h

section
variable {H : Type} {enc : TypeId × Value → H} {W : World}
theorem opened_cs {fuel : Nat} {v : Value} {y : DataW H × List MemPlace} (h : DataW.trod enc Try.prog W 0 (fun _ => true) true fuel 32 [v] = some y) :
    ∃ (p : Option Addr) (c : Nat) (l : List UInt8), v = .slice p l.length c ∧ At W p l ∧ l.length ≤ c ∧ Long y.1 l.length := by
  have hv : ∃ a len cap, v = .slice a len cap := by
    rcases open_ints Try.underlying32 Try.underlying5 cells8 h with ⟨hcs, _⟩ | ⟨x, l, c, zs, hcs, _⟩
    · simp at hcs; exact ⟨_, _, _, hcs⟩
    · simp at hcs; exact ⟨_, _, _, hcs⟩
  obtain ⟨a, len, cap, rfl⟩ := hv
  obtain ⟨l, rfl, h1, h2, _, h4⟩ := opened (enc := enc) (W := W) (a0 := a) (len := len) (cap := cap) (d0 := y.1) (p := y.2) ⟨fuel, h⟩
  exact ⟨a, cap, l, rfl, h1, h2, h4⟩

theorem weightsAll_mem {P : Program} {e : TypeId} : ∀ {l : List (DataW H)} {i : Nat} {d : DataW H}, l[i]? = some d → ∀ n ∈ d.weights P e, n ∈ DataW.weightsAll P e l
  | [], _, _, h => by simp at h
  | x :: r, 0, d, h => by
    intro n hn
    simp at h
    subst h
    simp [DataW.weightsAll, hn]
  | x :: r, i + 1, d, h => by
    intro n hn
    have := weightsAll_mem (l := r) (i := i) (d := d) (by simpa using h) n hn
    simp [DataW.weightsAll, this]

/-- a failure -/
theorem open_failure {base : Nat} {v : Value} {d : DataW H} {p : List MemPlace} (hv : Value.okWide Try.prog W .any base 49 v) (h : DataW.Trod enc Try.prog W 0 (fun _ => true) true 49 v d p) :
    ∃ (p1 : Option Addr) (c1 : Nat) (x : List UInt8) (p2 : Option Addr) (c2 : Nat) (y : List UInt8) (a k : Int), v = .agg #[.slice p1 x.length c1, .slice p2 y.length c2, .int .i64 a, .int .i64 k] ∧
      At W p1 x ∧ At W p2 y ∧ x.length ≤ c1 ∧ y.length ≤ c2 ∧ -9223372036854775808 ≤ a ∧ a ≤ 9223372036854775807 ∧ -9223372036854775808 ≤ k ∧ k ≤ 9223372036854775807 := by
  obtain ⟨cs, rfl, hsz⟩ := okWide_struct Try.underlying49 hv
  have hc4 : Try.prog.cellsOf 49 = 4 := by kernel_rfl
  rw [hc4] at hsz
  obtain ⟨v0, v1, v2, v3, rfl⟩ := Joins.array4 hsz
  obtain ⟨fuel, hf⟩ := h
  obtain ⟨y0, y1, y2, y3, m, hx, _, h0, h1, h2, h3⟩ := Joins.trod_struct4 Try.underlying49 hf
  have c1 : Try.prog.cellsOf 32 = 1 := by kernel_rfl
  have c3 : Try.prog.cellsOf 3 = 1 := by kernel_rfl
  simp only [c1, c3, Value.cells, List.drop_zero, List.drop_succ_cons, List.take_succ_cons, List.take_zero] at h0 h1 h2 h3
  obtain ⟨n2, hn2, rfl, hw2⟩ := DataW.trod_int Try.underlying3 h2
  obtain ⟨n3, hn3, rfl, hw3⟩ := DataW.trod_int Try.underlying3 h3
  simp only [List.cons.injEq, and_true] at hn2 hn3
  subst hn2 hn3
  obtain ⟨a1, a2⟩ := i64_bd hw2
  obtain ⟨b1, b2⟩ := i64_bd hw3
  obtain ⟨p1, e1, x, rfl, hx1, hx2, _⟩ := opened_cs h0
  obtain ⟨p2, e2, y, rfl, hy1, hy2, _⟩ := opened_cs h1
  exact ⟨p1, e1, x, p2, e2, y, n2, n3, rfl, hx1, hy1, hx2, hy2, a1, a2, b1, b2⟩

/-- one step of a script, out of its four cells -/
theorem open_op {fuel : Nat} {cs : List Value} {D : DataW H} {Pl : List MemPlace} (hl : cs.length = 4) (h : DataW.trod enc Try.prog W 0 (fun _ => true) true fuel 34 cs = some (D, Pl)) :
    ∃ (o : DOp) (d0 d1 d2 d3 : DataW H), cs = [.int .i64 o.kd, .int .i64 o.n, .int .i64 o.m, .slice o.p o.l.length o.c] ∧ D = .agg [d0, d1, d2, d3] ∧ Long d3 o.l.length ∧
      -9223372036854775808 ≤ o.n ∧ o.n ≤ 9223372036854775807 ∧ -9223372036854775808 ≤ o.m ∧ o.m ≤ 9223372036854775807 ∧ o.l.length ≤ o.c ∧ At W o.p o.l := by
  match cs, hl with
  | [v0, v1, v2, v3], _ =>
    obtain ⟨y0, y1, y2, y3, m, hx, _, h0, h1, h2, h3⟩ := Joins.trod_struct4 Try.underlying34 h
    have c1 : Try.prog.cellsOf 32 = 1 := by kernel_rfl
    have c3 : Try.prog.cellsOf 3 = 1 := by kernel_rfl
    simp only [c1, c3, List.drop_zero, List.drop_succ_cons, List.take_succ_cons, List.take_zero] at h0 h1 h2 h3
    simp only [Prod.mk.injEq] at hx
    obtain ⟨rfl, _⟩ := hx
    obtain ⟨n0, hn0, e0, hw0⟩ := DataW.trod_int Try.underlying3 h0
    obtain ⟨n1, hn1, e1, hw1⟩ := DataW.trod_int Try.underlying3 h1
    obtain ⟨n2, hn2, e2, hw2⟩ := DataW.trod_int Try.underlying3 h2
    simp only [List.cons.injEq, and_true] at hn0 hn1 hn2
    subst hn0 hn1 hn2
    obtain ⟨a1, a2⟩ := i64_bd hw1
    obtain ⟨b1, b2⟩ := i64_bd hw2
    obtain ⟨p, c, l, rfl, hA, hlc, hL⟩ := opened_cs h3
    exact ⟨⟨n0, n1, n2, p, c, l⟩, _, _, _, _, rfl, rfl, hL, a1, a2, b1, b2, hlc, hA⟩

/-- a script -/
theorem open_script {ts : List TypeId} {ds : List (DataW H)} {j : Nat} {a0 : Option Addr} {len cap : Nat} {d : DataW H} {p : List MemPlace} (h : DataW.Trod enc Try.prog W 0 (fun _ => true) true 28 (.slice a0 len cap) d p)
    (hsz : (DataW.weightsEach Try.prog ts ds).all (· ≤ reachBytes) = true) (ht : ts[j]? = some 28) (hd : ds[j]? = some d) :
    ∃ ops : List DOp, len = ops.length ∧ Script W a0 ops ∧ ops.length ≤ 2932031007403 := by
  obtain ⟨fuel, hf⟩ := h
  have hc4 : Try.prog.cellsOf 34 = 4 := by kernel_rfl
  have hb48 : Try.prog.bytesOf 34 = 48 := by kernel_rfl
  have er : reachBytes = 140737488351232 := by decide
  rcases open_slice Try.underlying28 hf with ⟨hcs, _⟩ | ⟨a, len', cap', m, n, D, Pl, hcs, _, hl, _, hm, hx, hel⟩
  · simp [Value.cells] at hcs
    obtain ⟨rfl, rfl, rfl⟩ := hcs
    exact ⟨[], rfl, .inl rfl, by simp⟩
  · simp [Value.cells] at hcs
    obtain ⟨rfl, rfl, rfl⟩ := hcs
    simp only [Prod.mk.injEq] at hx
    obtain ⟨rfl, _⟩ := hx
    have hlm : len ≤ m := by rw [hm]; split <;> omega
    rw [hc4] at hel
    have hW : ∀ k ∈ DataW.weights Try.prog 28 (.slice ((List.range len).map D) ((List.range (m - len)).map fun j => D (len + j))), k ≤ reachBytes := fun k hk => by
      have := List.all_eq_true.1 hsz k (DataW.weights_mem_each ht hd k hk)
      simpa using this
    have each : ∀ i, i < len → ∃ o : DOp, o.Ok W ∧ W.cell? (a.add (i * 4)) = some (.int .i64 o.kd) ∧ W.cell? (a.add (i * 4 + 1)) = some (.int .i64 o.n) ∧ W.cell? (a.add (i * 4 + 2)) = some (.int .i64 o.m) ∧ W.cell? (a.add (i * 4 + 3)) = some (.slice o.p o.l.length o.c) := by
      intro i hi
      obtain ⟨cs', g1, g2⟩ := hel i (by omega)
      obtain ⟨_, hlen, hcell⟩ := World.cells?_some g1
      obtain ⟨o, d0, d1, d2, d3, rfl, hD, hL, q1, q2, q3, q4, q5, q6⟩ := open_op hlen g2
      have e0 := hcell 0 (by omega)
      have e1 := hcell 1 (by omega)
      have e2 := hcell 2 (by omega)
      have e3 := hcell 3 (by omega)
      rw [add_add] at e0 e1 e2 e3
      refine ⟨o, ⟨q1, q2, q3, q4, ?_, q5, q6⟩, by simpa using e0, by simpa using e1, by simpa using e2, by simpa using e3⟩
      rcases hL with h0 | ⟨elems, spare, rfl, he⟩
      · omega
      · have hmem : (elems.length + spare.length) * Try.prog.bytesOf 5 ∈ DataW.weights Try.prog 28 (.slice ((List.range len).map D) ((List.range (m - len)).map fun j => D (len + j))) := by
          have h1 : (elems.length + spare.length) * Try.prog.bytesOf 5 ∈ (D i).weights Try.prog 34 := by
            rw [hD]
            simp [DataW.weights, DataW.weightsEach, Try.underlying34, Try.underlying32]
          have h2 := weightsAll_mem (P := Try.prog) (e := 34) (l := (List.range len).map D) (i := i) (d := D i) (by simp [hi]) _ h1
          simp only [DataW.weights, Try.underlying28]
          exact List.mem_cons_of_mem _ (List.mem_append_left _ h2)
        have := hW _ hmem
        rw [bytes8] at this
        omega
    haveI : Inhabited DOp := ⟨⟨0, 0, 0, none, 0, []⟩⟩
    obtain ⟨o, ho⟩ := choose_lt each
    refine ⟨(List.range len).map o, by simp, ?_, ?_⟩
    · by_cases h0 : len = 0
      · subst h0; exact .inl (by simp)
      · obtain ⟨b, off, spot⟩ := a
        have hc0 := (ho 0 (by omega)).2.1
        have hspot : spot = none := by simpa [Addr.add] using World.cell?_spot hc0
        subst hspot
        refine .inr ⟨b, off, rfl, ?_, fun i hi => ?_⟩
        · have := World.block_lt_of_cell? _ _ hc0
          simpa [block_add] using this
        · have hi2 : i < len := by simpa using hi
          obtain ⟨k0, k1, k2, k3, k4⟩ := ho i hi2
          simp only [add_off] at k1 k2 k3 k4
          simp only [List.getElem_map, List.getElem_range]
          exact ⟨k0, k1, k2, k3, k4⟩
    · have h1 : (((List.range len).map D).length + ((List.range (m - len)).map fun j => D (len + j)).length) * Try.prog.bytesOf 34 ∈ DataW.weights Try.prog 28 (.slice ((List.range len).map D) ((List.range (m - len)).map fun j => D (len + j))) := by
        simp [DataW.weights, Try.underlying28]
      have h2 := hW _ h1
      rw [hb48] at h2
      simp at h2 ⊢
      omega
end
end Go.Proofs.Ytoibeajcepbpjaa
