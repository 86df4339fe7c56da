/- An argument of type api.Value, opened: the value that lies there. -/
import Derived.Test.YtooklmgkkkbfdaaValueC
import Derived.Deep.Slices
import Derived.Lib.SmallJoins
namespace Go.Proofs.Ytooklmgkkkbfdaa
open Go.ChangeShapes Go.WideShapes Go.ChangeAt Go.RowKit Go.Deep

theorem add_off (b o j : Nat) : (⟨b, o, none⟩ : Addr).add j = ⟨b, o + j, none⟩ := by unfold Addr.add; split <;> simp_all

section
variable {H : Type} {enc : TypeId × Value → H} {W : World}

theorem trod_float6 {fuel : Nat} {t : TypeId} {cs : List Value} {x : DataW H × List MemPlace} {k : FloatKind} (ht : Try.prog.underlying t = some (.float k)) (h : DataW.trod enc Try.prog W 0 (fun _ => true) true fuel t cs = some x) : ∃ b, cs = [.float k b] ∧ x = (.lit (.float k b), []) ∧ (Lit.float k b).wf = true := by
  cases fuel with
  | zero => simp [DataW.trod] at h
  | succ n =>
    unfold DataW.trod at h
    rw [ht] at h
    split at h <;> simp_all

theorem weightsAll_mem {P : Program} {e : TypeId} : ∀ {l : List (DataW H)} {i : Nat} {d : DataW H}, l[i]? = some d → ∀ n ∈ d.weights P e, n ∈ DataW.weightsAll P e l
  | [], _, _, h => by simp at h
  | x :: r, 0, d, h => by
    intro n hn
    simp at h
    subst h
    simp [DataW.weightsAll, hn]
  | x :: r, i + 1, d, h => by
    intro n hn
    have := weightsAll_mem (l := r) (i := i) (d := d) (by simpa using h) n hn
    simp [DataW.weightsAll, this]

theorem open_value : ∀ (fuel : Nat) (cs : List Value) (D : DataW H) (Pl : List MemPlace), DataW.trod enc Try.prog W 0 (fun _ => true) true fuel 25 cs = some (D, Pl) → (∀ k ∈ D.weights Try.prog 25, k ≤ reachBytes) → ∃ x, VLies W cs.toArray x := by
  intro fuel
  induction fuel using Nat.strongRecOn with
  | _ fuel ih =>
    intro cs D Pl h hw
    obtain ⟨xs, n, rfl, hx, hl, hlen, hf⟩ := DataW.trod_struct Try.underlying25 h
    have hc5 : Try.prog.cellsOf 25 = 5 := by kernel_rfl
    have hb64 : Try.prog.bytesOf 25 = 64 := by kernel_rfl
    have er : reachBytes = 140737488351232 := by decide
    rw [hc5] at hl
    match cs, hl, xs, hlen with
    | [v0, v1, v2, v3, v4], _, [y0, y1, y2, y3, y4], _ =>
      have c0 : Try.prog.cellsOf 3 = 1 := by kernel_rfl
      have c1 : Try.prog.cellsOf 2 = 1 := by kernel_rfl
      have c2 : Try.prog.cellsOf 22 = 1 := by kernel_rfl
      have c3 : Try.prog.cellsOf 9 = 1 := by kernel_rfl
      have c4 : Try.prog.cellsOf 23 = 1 := by kernel_rfl
      have h0 : DataW.trod enc Try.prog W 0 (fun _ => true) true n 3 [v0] = some y0 := by have := hf 0 _ rfl; simpa [c0] using this
      have h1 : DataW.trod enc Try.prog W 0 (fun _ => true) true n 2 [v1] = some y1 := by have := hf 1 _ rfl; simpa [c1] using this
      have h2 : DataW.trod enc Try.prog W 0 (fun _ => true) true n 22 [v2] = some y2 := by have := hf 2 _ rfl; simpa [c2] using this
      have h3 : DataW.trod enc Try.prog W 0 (fun _ => true) true n 9 [v3] = some y3 := by have := hf 3 _ rfl; simpa [c3] using this
      have h4 : DataW.trod enc Try.prog W 0 (fun _ => true) true n 23 [v4] = some y4 := by have := hf 4 _ rfl; simpa [c4] using this
      obtain ⟨n0, hn0, _, _⟩ := DataW.trod_int Try.underlying3 h0
      obtain ⟨n1, hn1, _, _⟩ := DataW.trod_int Try.underlying2 h1
      obtain ⟨n2, hn2, _, _⟩ := trod_float6 Try.underlying22 h2
      obtain ⟨n3, hn3, _, _⟩ := DataW.trod_string Try.underlying9 h3
      simp only [List.cons.injEq, and_true] at hn0 hn1 hn2 hn3
      subst hn0 hn1 hn2 hn3
      simp only [Prod.mk.injEq] at hx
      obtain ⟨rfl, _⟩ := hx
      have hw4 : ∀ k ∈ y4.1.weights Try.prog 23, k ≤ reachBytes := fun k hk => hw k (by
        simp [DataW.weights, DataW.weightsEach, Try.underlying25]
        right; right; right; right
        exact hk)
      rcases DataW.trod_slice Try.underlying23 h4 with ⟨hcs, _⟩ | ⟨a, len, cap, elems, rest, n', rfl, hcs, hy, _, hlc, _, hel, hat, _⟩
      · simp only [List.cons.injEq, and_true] at hcs
        subst hcs
        exact ⟨.mk n0 n1 n2 n3 [], vlies_leaf W n0 n1 n2 n3 none 0⟩
      · simp only [List.cons.injEq, and_true] at hcs
        subst hcs
        rw [hy] at hw4
        have hbd : len * 64 ≤ 140737488351232 := by
          have := hw4 ((elems.length + rest.length) * Try.prog.bytesOf 25) (by simp [DataW.weights, Try.underlying23])
          rw [hb64, er] at this
          omega
        have each : ∀ i, i < len → ∃ z : List Value × V, W.cells? 0 (a.add (i * 5)) 5 = some z.1 ∧ VLies W z.1.toArray z.2 := by
          intro i hi
          have h5 := hat i hi
          rw [hc5] at h5
          obtain ⟨y, hy2⟩ : ∃ y, elems[i]? = some y := ⟨elems[i]'(by omega), List.getElem?_eq_getElem (by omega)⟩
          rw [hy2] at h5
          obtain ⟨cs', g1, g2⟩ := Option.bind_eq_some_iff.1 h5
          obtain ⟨x, hx⟩ := ih n' (by omega) cs' y.1 y.2 g2 (fun k hk => hw4 k (by
            simp only [DataW.weights, Try.underlying23]
            refine List.mem_cons_of_mem _ (List.mem_append_left _ (weightsAll_mem (i := i) (d := y.1) ?_ k hk))
            simp [hy2]))
          exact ⟨⟨cs', x⟩, g1, hx⟩
        haveI : Inhabited (List Value × V) := ⟨⟨[], .mk 0 0 0 ⟨#[]⟩ []⟩⟩
        obtain ⟨z, hz⟩ := choose_lt each
        have hll : ((List.range len).map fun i => (z i).2).length = len := by simp
        refine ⟨.mk n0 n1 n2 n3 ((List.range len).map fun i => (z i).2), ?_⟩
        have hV : VLies W (cells5 n0 n1 n2 n3 (some a) ((List.range len).map fun i => (z i).2).length cap) (.mk n0 n1 n2 n3 ((List.range len).map fun i => (z i).2)) := by
          refine .mk (fun j => (z j).1.toArray) (by rw [hll]; exact hbd) (by rw [hll]; exact hlc) (fun hne => ?_) (fun j hj => ?_)
          · have h0 : 0 < len := by
              rcases Nat.eq_zero_or_pos len with h | h
              · subst h; simp at hne
              · exact h
            obtain ⟨b, off, spot⟩ := a
            obtain ⟨_, hlen0, hcell0⟩ := World.cells?_some (hz 0 h0).1
            have hc0 := hcell0 0 (by omega)
            rw [List.getElem?_eq_getElem (by omega)] at hc0
            have hspot : spot = none := by simpa [Addr.add] using World.cell?_spot hc0
            subst hspot
            refine ⟨b, off, rfl, ?_, fun j hj m hm => ?_⟩
            · have := World.block_lt_of_cell? _ _ hc0
              simpa [block_add] using this
            · have hj2 : j < len := by simpa using hj
              obtain ⟨_, hlenj, hcellj⟩ := World.cells?_some (hz j hj2).1
              have hcj := hcellj m (by omega)
              rw [add_add, add_off] at hcj
              rw [← Nat.add_assoc] at hcj
              rw [hcj]
              simp [hlenj, hm]
          · have hj2 : j < len := by simpa using hj
            simp only [List.getElem_map, List.getElem_range]
            exact (hz j hj2).2
        rw [hll] at hV
        exact hV

/-- an argument of type api.Value -/
theorem open_val {base : Nat} {ts : List TypeId} {ds : List (DataW H)} {j : Nat} {v : Value} {d : DataW H} {p : List MemPlace} (hv : Value.okWide Try.prog W .any base 25 v) (h : DataW.Trod enc Try.prog W 0 (fun _ => true) true 25 v d p)
    (hsz : (DataW.weightsEach Try.prog ts ds).all (· ≤ reachBytes) = true) (ht : ts[j]? = some 25) (hd : ds[j]? = some d) : ∃ (u : Array Value) (x : V), v = .agg u ∧ VLies W u x := by
  obtain ⟨cs, rfl, _⟩ := okWide_struct Try.underlying25 hv
  obtain ⟨fuel, hf⟩ := h
  obtain ⟨x, hx⟩ := open_value fuel _ d p hf (fun k hk => by
    have := List.all_eq_true.1 hsz k (DataW.weights_mem_each ht hd k hk)
    simpa using this)
  exact ⟨cs, x, rfl, by simpa [Value.cells] using hx⟩
end
end Go.Proofs.Ytooklmgkkkbfdaa
