/- An argument of type There, opened: a type, a value, a number and a float. -/
import Derived.Test.YtdahackmmhcjoaaM20
namespace Go.Proofs.Ytdahackmmhcjoaa
open Go.ChangeShapes Go.WideShapes Go.ChangeAt Go.RowKit Go.Deep

section
variable {H : Type} {enc : TypeId × Value → H} {W : World}
set_option maxRecDepth 100000 in
theorem open_there {base : Nat} {ts : List TypeId} {ds : List (DataW H)} {j : Nat} {v : Value} {d : DataW H} {p : List MemPlace} (hv : Value.okWide Try.prog W .any base 30 v) (h : DataW.Trod enc Try.prog W 0 (fun _ => true) true 30 v d p)
    (hsz : (DataW.weightsEach Try.prog ts ds).all (· ≤ reachBytes) = true) (ht : ts[j]? = some 30) (hd : ds[j]? = some d) :
    ∃ (k : Int) (tp : Option Addr) (tn tc : Nat) (vk vi : Int) (vb : Nat) (vt : ByteArray) (vp : Option Addr) (vn vc : Nat) (t : Ty) (x : V) (n : Int) (f : Nat), v = .agg #[.int .i64 k, .slice tp tn tc, .int .i64 vk, .int .i64 vi, .float .f64 vb, .string vt, .slice vp vn vc, .int .i64 n, .float .f64 f] ∧ TLies W (cells2 k tp tn tc) t ∧ VLies W (cells5 vk vi vb vt vp vn vc) x ∧ x.wf ∧ -9223372036854775808 ≤ n ∧ n ≤ 9223372036854775807 ∧ f < 18446744073709551616 := by
  obtain ⟨cs0, rfl, _⟩ := okWide_struct Try.underlying30 hv
  obtain ⟨fuel, hf0⟩ := h
  have hw : ∀ k ∈ d.weights Try.prog 30, k ≤ reachBytes := fun k hk => by
    have := List.all_eq_true.1 hsz k (DataW.weights_mem_each ht hd k hk)
    simpa using this
  obtain ⟨cs, hcs⟩ : ∃ cs, cs = (Value.agg cs0).cells.toList := ⟨_, rfl⟩
  rw [← hcs] at hf0
  obtain ⟨xs, n, rfl, hx, hl, hlen, hf⟩ := DataW.trod_struct Try.underlying30 hf0
  have hc9 : Try.prog.cellsOf 30 = 9 := by kernel_rfl
  rw [hc9] at hl
  match cs, hl, xs, hlen with
  | [v0, v1, v2, v3, v4, v5, v6, v7, v8], _, [y0, y1, y2, y3], _ =>
    have c0 : Try.prog.cellsOf 24 = 2 := by kernel_rfl
    have c1 : Try.prog.cellsOf 28 = 5 := by kernel_rfl
    have c2 : Try.prog.cellsOf 2 = 1 := by kernel_rfl
    have c3 : Try.prog.cellsOf 25 = 1 := by kernel_rfl
    have h0 : DataW.trod enc Try.prog W 0 (fun _ => true) true n 24 [v0, v1] = some y0 := by have := hf 0 _ rfl; simpa [c0] using this
    have h1 : DataW.trod enc Try.prog W 0 (fun _ => true) true n 28 [v2, v3, v4, v5, v6] = some y1 := by have := hf 1 _ rfl; simpa [c1] using this
    have h2 : DataW.trod enc Try.prog W 0 (fun _ => true) true n 2 [v7] = some y2 := by have := hf 2 _ rfl; simpa [c2] using this
    have h3 : DataW.trod enc Try.prog W 0 (fun _ => true) true n 25 [v8] = some y3 := by have := hf 3 _ rfl; simpa [c3] using this
    simp only [Prod.mk.injEq] at hx
    obtain ⟨rfl, _⟩ := hx
    obtain ⟨n2, hn2, _, w2⟩ := DataW.trod_int Try.underlying2 h2
    obtain ⟨n3, hn3, _, w3⟩ := trod_float6 Try.underlying25 h3
    simp only [List.cons.injEq, and_true] at hn2 hn3
    subst hn2 hn3
    obtain ⟨ty, hty, -⟩ := open_type n _ y0.1 y0.2 h0 (fun k hk => hw k (by
      simp [DataW.weights, DataW.weightsEach, Try.underlying30]
      left
      exact hk))
    obtain ⟨dv, hdv, wdv⟩ := open_value n _ y1.1 y1.2 h1 (fun k hk => hw k (by
      simp [DataW.weights, DataW.weightsEach, Try.underlying30]
      right; left
      exact hk))
    obtain ⟨k, q, c, ts', _, e1, rfl, _⟩ := hty.inv
    obtain ⟨vk, vi, vb, vt, vp, vc, vs, _, e2, rfl, _⟩ := hdv.inv
    simp only [cells2] at e1
    simp only [cells5] at e2
    obtain ⟨rfl, rfl⟩ := e1
    obtain ⟨rfl, rfl, rfl, rfl, rfl⟩ := e2
    have hi := int_wf w2
    refine ⟨k, q, _, c, vk, vi, vb, vt, vp, _, vc, _, _, n2, n3, ?_, hty, hdv, wdv, by have := hi.1; omega, by have := hi.2; omega, float_wf w3⟩
    have e' : cs0.toList = [.int .i64 k, .slice q ts'.length c, .int .i64 vk, .int .i64 vi, .float .f64 vb, .string vt, .slice vp vs.length vc, .int .i64 n2, .float .f64 n3] := by simpa [Value.cells] using hcs.symm
    rw [← Array.toArray_toList (xs := cs0), e']
end
end Go.Proofs.Ytdahackmmhcjoaa
