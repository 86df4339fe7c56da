/- An argument of the struct Back, opened. -/
import Derived.Test.YtnlhpndjogjejaaM20
import Derived.Test.YtnlhpndjogjejaaM18
import Derived.Test.YtnlhpndjogjejaaM19
namespace Go.Proofs.Ytnlhpndjogjejaa
open Go.ChangeShapes Go.WideShapes Go.ChangeAt Go.RowKit Go.Deep

section
variable {H : Type} {enc : TypeId × Value → H} {W : World}
theorem opened_cs8 {fuel : Nat} {v : Value} {y : DataW H × List MemPlace} (h : DataW.trod enc Try.prog W 0 (fun _ => true) true fuel 28 [v] = some y) :
    ∃ (p : Option Addr) (c : Nat) (l : List UInt8), v = .slice p l.length c ∧ At W p l ∧ l.length ≤ c ∧ Long y.1 l.length := by
  have hv : ∃ a len cap, v = .slice a len cap := by
    rcases open_ints Try.underlying28 Try.underlying5 cells8 h with ⟨hcs, _⟩ | ⟨x, l, c, zs, hcs, _⟩
    · simp at hcs; exact ⟨_, _, _, hcs⟩
    · simp at hcs; exact ⟨_, _, _, hcs⟩
  obtain ⟨a, len, cap, rfl⟩ := hv
  obtain ⟨l, rfl, h1, h2, _, h4⟩ := opened (enc := enc) (W := W) (a0 := a) (len := len) (cap := cap) (d0 := y.1) (p := y.2) ⟨fuel, h⟩
  exact ⟨a, cap, l, rfl, h1, h2, h4⟩
theorem i64_bd8 {a : Int} (h : (Lit.int .i64 a).wf = true) : -9223372036854775808 ≤ a ∧ a ≤ 9223372036854775807 := by
  have e1 : IntKind.i64.min = -9223372036854775808 := rfl
  have e2 : IntKind.i64.max = 9223372036854775807 := rfl
  simp only [Lit.wf, e1, e2, Bool.and_eq_true, decide_eq_true_eq] at h
  exact h
set_option maxRecDepth 100000 in
theorem open_back8 {base : Nat} {ts : List TypeId} {ds : List (DataW H)} {j : Nat} {v : Value} {d : DataW H} {p : List MemPlace} (hv : Value.okWide Try.prog W .any base 30 v) (h : DataW.Trod enc Try.prog W 0 (fun _ => true) true 30 v d p)
    (hsz : (DataW.weightsEach Try.prog ts ds).all (· ≤ reachBytes) = true) (ht : ts[j]? = some 30) (hd : ds[j]? = some d) :
    ∃ (p : Option Addr) (cp : Nat) (s : List Col) (q : Option Addr) (cq : Nat) (vs : List V) (px : Option Addr) (cx : Nat) (x : List UInt8) (py : Option Addr) (cy : Nat) (y : List UInt8) (a : Int), v = .agg #[.slice p s.length cp, .slice q vs.length cq, .slice px x.length cx, .slice py y.length cy, .int .i64 a] ∧ SchL W p cp s ∧ RLies W q cq vs ∧ At W px x ∧ At W py y ∧ x.length ≤ cx ∧ y.length ≤ cy ∧ (-9223372036854775808 ≤ a ∧ a ≤ 9223372036854775807) ∧ x.length + y.length ≤ Rows.uptoBulk d := by
  obtain ⟨cs0, rfl, _⟩ := okWide_struct Try.underlying30 hv
  obtain ⟨fuel, hf0⟩ := h
  have hw : ∀ k ∈ d.weights Try.prog 30, k ≤ reachBytes := fun k hk => by
    have := List.all_eq_true.1 hsz k (DataW.weights_mem_each ht hd k hk)
    simpa using this
  obtain ⟨cs, hcs⟩ : ∃ cs, cs = (Value.agg cs0).cells.toList := ⟨_, rfl⟩
  rw [← hcs] at hf0
  obtain ⟨xs, n, rfl, hx, hl, hlen, hf⟩ := DataW.trod_struct Try.underlying30 hf0
  have hc5 : Try.prog.cellsOf 30 = 5 := by kernel_rfl
  rw [hc5] at hl
  match cs, hl, xs, hlen with
  | [v0, v1, v2, v3, v4], _, [y0, y1, y2, y3, y4], _ =>
    have c0 : Try.prog.cellsOf 24 = 1 := by kernel_rfl
    have c1 : Try.prog.cellsOf 27 = 1 := by kernel_rfl
    have c2 : Try.prog.cellsOf 28 = 1 := by kernel_rfl
    have c3 : Try.prog.cellsOf 3 = 1 := by kernel_rfl
    have h0 : DataW.trod enc Try.prog W 0 (fun _ => true) true n 24 [v0] = some y0 := by have := hf 0 _ rfl; simpa [c0] using this
    have h1 : DataW.trod enc Try.prog W 0 (fun _ => true) true n 27 [v1] = some y1 := by have := hf 1 _ rfl; simpa [c1] using this
    have h2 : DataW.trod enc Try.prog W 0 (fun _ => true) true n 28 [v2] = some y2 := by have := hf 2 _ rfl; simpa [c2] using this
    have h3 : DataW.trod enc Try.prog W 0 (fun _ => true) true n 28 [v3] = some y3 := by have := hf 3 _ rfl; simpa [c2] using this
    have h4 : DataW.trod enc Try.prog W 0 (fun _ => true) true n 3 [v4] = some y4 := by have := hf 4 _ rfl; simpa [c3] using this
    simp only [Prod.mk.injEq] at hx
    obtain ⟨rfl, _⟩ := hx
    obtain ⟨n4, hn4, _, hw4⟩ := DataW.trod_int Try.underlying3 h4
    simp only [List.cons.injEq, and_true] at hn4
    subst hn4
    obtain ⟨ps, cs', s, e1, b1, b2, b3, b4⟩ := open_schema n _ y0.1 y0.2 h0 (fun k hk => hw k (by
      simp [DataW.weights, DataW.weightsEach, Try.underlying30]
      left
      exact hk))
    obtain ⟨pr, cr, vs, e2, hrl⟩ := open_row8 n _ y1.1 y1.2 h1 (fun k hk => hw k (by
      simp [DataW.weights, DataW.weightsEach, Try.underlying30]
      right; left
      exact hk))
    obtain ⟨px, cx, x, rfl, hx1, hx2, hx3⟩ := opened_cs8 h2
    obtain ⟨py, cy, y, rfl, hy1, hy2, hy3⟩ := opened_cs8 h3
    simp only [List.cons.injEq, and_true] at e1 e2
    subst e1 e2
    refine ⟨ps, cs', s, pr, cr, vs, px, cx, x, py, cy, y, n4, ?_, ⟨b1, b2, b3, b4⟩, hrl, hx1, hy1, hx2, hy2, i64_bd8 hw4, ?_⟩
    · have e' : cs0 = #[.slice ps s.length cs', .slice pr vs.length cr, .slice px x.length cx, .slice py y.length cy, .int .i64 n4] := by
        have : cs0.toList = [.slice ps s.length cs', .slice pr vs.length cr, .slice px x.length cx, .slice py y.length cy, .int .i64 n4] := by simpa [Value.cells] using hcs.symm
        rw [← Array.toArray_toList (xs := cs0), this]
      rw [e']
    · have g1 := long_bulk hx3
      have g2 := long_bulk hy3
      simp only [Rows.uptoBulk, Rows.uptoBulkAll, List.map_cons, List.map_nil]
      omega
end
end Go.Proofs.Ytnlhpndjogjejaa
