/- RF7, RF7S, RF8: put together. -/
import Derived.Test.YtohgmkgclgoflaaDoorW12A
import Derived.Deep.Slices
import Derived.Lib.SmallJoins
import Derived.Test.YtohgmkgclgoflaaDoorRowB

/- Arguments of types api.Value, api.Type and api.Schema, opened: what lies there, within its bounds. -/
namespace Go.Proofs.YtohgmkgclgoflaaDoor
open Go.ChangeShapes Go.WideShapes Go.ChangeAt Go.RowKit Go.Deep

theorem int_wf {n : Int} (h : (Lit.int .i64 n).wf = true) : -9223372036854775808 ≤ n ∧ n ≤ 9223372036854775807 := by
  have h' : (decide (IntKind.i64.min ≤ n) && decide (n ≤ IntKind.i64.max)) = true := h
  rw [Bool.and_eq_true, decide_eq_true_eq, decide_eq_true_eq] at h'
  have e1 : IntKind.i64.min = -9223372036854775808 := by decide
  have e2 : IntKind.i64.max = 9223372036854775807 := by decide
  rw [e1, e2] at h'
  exact h'
theorem float_wf {n : Nat} (h : (Lit.float .f64 n).wf = true) : n < 18446744073709551616 := by
  have h' : decide (n < 2 ^ 64) = true := h
  rw [decide_eq_true_eq] at h'
  exact h'

section
variable {H : Type} {enc : TypeId × Value → H} {W : World}

theorem trod_float6 {fuel : Nat} {t : TypeId} {cs : List Value} {x : DataW H × List MemPlace} {k : FloatKind} (ht : Tryd.prog.underlying t = some (.float k)) (h : DataW.trod enc Tryd.prog W 0 (fun _ => true) true fuel t cs = some x) : ∃ b, cs = [.float k b] ∧ x = (.lit (.float k b), []) ∧ (Lit.float k b).wf = true := by
  cases fuel with
  | zero => simp [DataW.trod] at h
  | succ n =>
    unfold DataW.trod at h
    rw [ht] at h
    split at h <;> simp_all

theorem weightsAll_mem {P : Program} {e : TypeId} : ∀ {l : List (DataW H)} {i : Nat} {d : DataW H}, l[i]? = some d → ∀ n ∈ d.weights P e, n ∈ DataW.weightsAll P e l
  | [], _, _, h => by simp at h
  | x :: r, 0, d, h => by
    intro n hn
    simp at h
    subst h
    simp [DataW.weightsAll, hn]
  | x :: r, i + 1, d, h => by
    intro n hn
    have := weightsAll_mem (l := r) (i := i) (d := d) (by simpa using h) n hn
    simp [DataW.weightsAll, this]

/-- things that lie in a row -/
theorem choose_row {T : Type} [Inhabited T] {c len : Nat} {a : Addr} {L : Array Value → T → Prop} (hc : 0 < c) (each : ∀ i, i < len → ∃ z : List Value × T, W.cells? 0 (a.add (i * c)) c = some z.1 ∧ L z.1.toArray z.2) :
    ∃ (us : Nat → Array Value) (zs : List T), zs.length = len ∧ (0 < len → ∃ b off, a = ⟨b, off, none⟩ ∧ b < W.heap.size ∧ ∀ j, j < len → ∀ m, m < c → W.cell? ⟨b, off + j * c + m, none⟩ = (us j)[m]?) ∧ ∀ j (h : j < zs.length), L (us j) zs[j] := by
  haveI : Inhabited (List Value × T) := ⟨⟨[], default⟩⟩
  obtain ⟨z, hz⟩ := choose_lt each
  refine ⟨fun j => (z j).1.toArray, (List.range len).map fun i => (z i).2, by simp, fun h0 => ?_, fun j hj => ?_⟩
  · obtain ⟨b, off, spot⟩ := a
    obtain ⟨_, hlen0, hcell0⟩ := World.cells?_some (hz 0 h0).1
    have hc0 := hcell0 0 (by omega)
    rw [List.getElem?_eq_getElem (by omega)] at hc0
    have hspot : spot = none := by simpa [Addr.add] using World.cell?_spot hc0
    subst hspot
    refine ⟨b, off, rfl, ?_, fun j hj2 m hm => ?_⟩
    · have := World.block_lt_of_cell? _ _ hc0
      simpa [block_add] using this
    · obtain ⟨_, hlenj, hcellj⟩ := World.cells?_some (hz j hj2).1
      have hcj := hcellj m (by omega)
      rw [add_add, add_off] at hcj
      rw [← Nat.add_assoc] at hcj
      rw [hcj]
      simp [hlenj, hm]
  · have hj2 : j < len := by simpa using hj
    simp only [List.getElem_map, List.getElem_range]
    exact (hz j hj2).2

set_option maxRecDepth 100000 in
theorem open_value : ∀ (fuel : Nat) (cs : List Value) (D : DataW H) (Pl : List MemPlace), DataW.trod enc Tryd.prog W 0 (fun _ => true) true fuel 70 cs = some (D, Pl) → (∀ k ∈ D.weights Tryd.prog 70, k ≤ reachBytes) → ∃ x, VLies W cs.toArray x ∧ x.wf := by
  intro fuel
  induction fuel using Nat.strongRecOn with
  | _ fuel ih =>
    intro cs D Pl h hw
    obtain ⟨xs, n, rfl, hx, hl, hlen, hf⟩ := DataW.trod_struct Tryd.underlying70 h
    have hc5 : Tryd.prog.cellsOf 70 = 5 := by kernel_rfl
    have hb64 : Tryd.prog.bytesOf 70 = 64 := by kernel_rfl
    have er : reachBytes = 140737488351232 := by decide
    rw [hc5] at hl
    match cs, hl, xs, hlen with
    | [v0, v1, v2, v3, v4], _, [y0, y1, y2, y3, y4], _ =>
      have c0 : Tryd.prog.cellsOf 3 = 1 := by kernel_rfl
      have c1 : Tryd.prog.cellsOf 2 = 1 := by kernel_rfl
      have c2 : Tryd.prog.cellsOf 67 = 1 := by kernel_rfl
      have c3 : Tryd.prog.cellsOf 9 = 1 := by kernel_rfl
      have c4 : Tryd.prog.cellsOf 68 = 1 := by kernel_rfl
      have h0 : DataW.trod enc Tryd.prog W 0 (fun _ => true) true n 3 [v0] = some y0 := by have := hf 0 _ rfl; simpa [c0] using this
      have h1 : DataW.trod enc Tryd.prog W 0 (fun _ => true) true n 2 [v1] = some y1 := by have := hf 1 _ rfl; simpa [c1] using this
      have h2 : DataW.trod enc Tryd.prog W 0 (fun _ => true) true n 67 [v2] = some y2 := by have := hf 2 _ rfl; simpa [c2] using this
      have h3 : DataW.trod enc Tryd.prog W 0 (fun _ => true) true n 9 [v3] = some y3 := by have := hf 3 _ rfl; simpa [c3] using this
      have h4 : DataW.trod enc Tryd.prog W 0 (fun _ => true) true n 68 [v4] = some y4 := by have := hf 4 _ rfl; simpa [c4] using this
      obtain ⟨n0, hn0, _, w0⟩ := DataW.trod_int Tryd.underlying3 h0
      obtain ⟨n1, hn1, _, w1⟩ := DataW.trod_int Tryd.underlying2 h1
      obtain ⟨n2, hn2, _, w2⟩ := trod_float6 Tryd.underlying67 h2
      obtain ⟨n3, hn3, hy3, _⟩ := DataW.trod_string Tryd.underlying9 h3
      simp only [List.cons.injEq, and_true] at hn0 hn1 hn2 hn3
      subst hn0 hn1 hn2 hn3
      simp only [Prod.mk.injEq] at hx
      obtain ⟨rfl, _⟩ := hx
      have hs3 : n3.size ≤ 140737488351232 := by
        have := hw n3.data.toList.length (by
          simp [DataW.weights, DataW.weightsEach, Tryd.underlying70, hy3])
        rw [er] at this
        simpa using this
      have hw4 : ∀ k ∈ y4.1.weights Tryd.prog 68, k ≤ reachBytes := fun k hk => hw k (by
        simp [DataW.weights, DataW.weightsEach, Tryd.underlying70]
        right; right; right; right
        exact hk)
      rcases DataW.trod_slice Tryd.underlying68 h4 with ⟨hcs, _⟩ | ⟨a, len, cap, elems, rest, n', rfl, hcs, hy, _, hlc, _, hel, hat, _⟩
      · simp only [List.cons.injEq, and_true] at hcs
        subst hcs
        exact ⟨.mk n0 n1 n2 n3 [], vl_leafF W n0 n1 n2 n3 none 0, V.wf_mk.2 ⟨int_wf w0, int_wf w1, float_wf w2, hs3, fun x hx => by cases hx⟩⟩
      · simp only [List.cons.injEq, and_true] at hcs
        subst hcs
        rw [hy] at hw4
        have hbd : len * 64 ≤ 140737488351232 := by
          have := hw4 ((elems.length + rest.length) * Tryd.prog.bytesOf 70) (by simp [DataW.weights, Tryd.underlying68])
          rw [hb64, er] at this
          omega
        have each : ∀ i, i < len → ∃ z : List Value × V, W.cells? 0 (a.add (i * 5)) 5 = some z.1 ∧ VLies W z.1.toArray z.2 ∧ z.2.wf := by
          intro i hi
          have h5 := hat i hi
          rw [hc5] at h5
          obtain ⟨y, hy2⟩ : ∃ y, elems[i]? = some y := ⟨elems[i]'(by omega), List.getElem?_eq_getElem (by omega)⟩
          rw [hy2] at h5
          obtain ⟨cs', g1, g2⟩ := Option.bind_eq_some_iff.1 h5
          obtain ⟨x, hx⟩ := ih n' (by omega) cs' y.1 y.2 g2 (fun k hk => hw4 k (by
            simp only [DataW.weights, Tryd.underlying68]
            refine List.mem_cons_of_mem _ (List.mem_append_left _ (weightsAll_mem (i := i) (d := y.1) ?_ k hk))
            simp [hy2]))
          exact ⟨⟨cs', x⟩, g1, hx⟩
        haveI : Inhabited V := ⟨.mk 0 0 0 ⟨#[]⟩ []⟩
        obtain ⟨us, zs, hll, hp, hz⟩ := choose_row (L := fun u x => VLies W u x ∧ x.wf) (by decide) each
        refine ⟨.mk n0 n1 n2 n3 zs, ?_, V.wf_mk.2 ⟨int_wf w0, int_wf w1, float_wf w2, hs3, fun x hx => ?_⟩⟩
        · have hV : VLies W (cells5 n0 n1 n2 n3 (some a) zs.length cap) (.mk n0 n1 n2 n3 zs) := by
            refine .mk us (by rw [hll]; exact hbd) (by rw [hll]; exact hlc) (fun hne => ?_) (fun j hj => (hz j hj).1)
            obtain ⟨b, off, rfl, h2, h3⟩ := hp (by rw [← hll]; exact List.length_pos_iff.2 hne)
            exact ⟨b, off, rfl, h2, fun j hj m hm => h3 j (by omega) m hm⟩
          rw [hll] at hV
          exact hV
        · obtain ⟨j, hj, rfl⟩ := List.mem_iff_getElem.1 hx
          exact (hz j hj).2

set_option maxRecDepth 100000 in
theorem open_type : ∀ (fuel : Nat) (cs : List Value) (D : DataW H) (Pl : List MemPlace), DataW.trod enc Tryd.prog W 0 (fun _ => true) true fuel 66 cs = some (D, Pl) → (∀ k ∈ D.weights Tryd.prog 66, k ≤ reachBytes) → ∃ x, TLies W cs.toArray x ∧ x.wf := by
  intro fuel
  induction fuel using Nat.strongRecOn with
  | _ fuel ih =>
    intro cs D Pl h hw
    obtain ⟨xs, n, rfl, hx, hl, hlen, hf⟩ := DataW.trod_struct Tryd.underlying66 h
    have hc5 : Tryd.prog.cellsOf 66 = 2 := by kernel_rfl
    have hb64 : Tryd.prog.bytesOf 66 = 32 := by kernel_rfl
    have er : reachBytes = 140737488351232 := by decide
    rw [hc5] at hl
    match cs, hl, xs, hlen with
    | [v0, v4], _, [y0, y4], _ =>
      have c0 : Tryd.prog.cellsOf 3 = 1 := by kernel_rfl
      have c4 : Tryd.prog.cellsOf 64 = 1 := by kernel_rfl
      have h0 : DataW.trod enc Tryd.prog W 0 (fun _ => true) true n 3 [v0] = some y0 := by have := hf 0 _ rfl; simpa [c0] using this
      have h4 : DataW.trod enc Tryd.prog W 0 (fun _ => true) true n 64 [v4] = some y4 := by have := hf 1 _ rfl; simpa [c4] using this
      obtain ⟨n0, hn0, _, w0⟩ := DataW.trod_int Tryd.underlying3 h0
      simp only [List.cons.injEq, and_true] at hn0
      subst hn0
      simp only [Prod.mk.injEq] at hx
      obtain ⟨rfl, _⟩ := hx
      have hw4 : ∀ k ∈ y4.1.weights Tryd.prog 64, k ≤ reachBytes := fun k hk => hw k (by
        simp [DataW.weights, DataW.weightsEach, Tryd.underlying66]
        right
        exact hk)
      rcases DataW.trod_slice Tryd.underlying64 h4 with ⟨hcs, _⟩ | ⟨a, len, cap, elems, rest, n', rfl, hcs, hy, _, hlc, _, hel, hat, _⟩
      · simp only [List.cons.injEq, and_true] at hcs
        subst hcs
        exact ⟨.mk n0 [], tl_leafF W n0 none 0, Ty.wf_mk.2 ⟨int_wf w0, fun x hx => by cases hx⟩⟩
      · simp only [List.cons.injEq, and_true] at hcs
        subst hcs
        rw [hy] at hw4
        have hbd : len * 32 ≤ 140737488351232 := by
          have := hw4 ((elems.length + rest.length) * Tryd.prog.bytesOf 66) (by simp [DataW.weights, Tryd.underlying64])
          rw [hb64, er] at this
          omega
        have each : ∀ i, i < len → ∃ z : List Value × Ty, W.cells? 0 (a.add (i * 2)) 2 = some z.1 ∧ TLies W z.1.toArray z.2 ∧ z.2.wf := by
          intro i hi
          have h5 := hat i hi
          rw [hc5] at h5
          obtain ⟨y, hy2⟩ : ∃ y, elems[i]? = some y := ⟨elems[i]'(by omega), List.getElem?_eq_getElem (by omega)⟩
          rw [hy2] at h5
          obtain ⟨cs', g1, g2⟩ := Option.bind_eq_some_iff.1 h5
          obtain ⟨x, hx⟩ := ih n' (by omega) cs' y.1 y.2 g2 (fun k hk => hw4 k (by
            simp only [DataW.weights, Tryd.underlying64]
            refine List.mem_cons_of_mem _ (List.mem_append_left _ (weightsAll_mem (i := i) (d := y.1) ?_ k hk))
            simp [hy2]))
          exact ⟨⟨cs', x⟩, g1, hx⟩
        haveI : Inhabited Ty := ⟨.mk 0 []⟩
        obtain ⟨us, zs, hll, hp, hz⟩ := choose_row (L := fun u x => TLies W u x ∧ x.wf) (by decide) each
        refine ⟨.mk n0 zs, ?_, Ty.wf_mk.2 ⟨int_wf w0, fun x hx => ?_⟩⟩
        · have hV : TLies W (cells2 n0 (some a) zs.length cap) (.mk n0 zs) := by
            refine .mk us (by rw [hll]; exact hbd) (by rw [hll]; exact hlc) (fun hne => ?_) (fun j hj => (hz j hj).1)
            obtain ⟨b, off, rfl, h2, h3⟩ := hp (by rw [← hll]; exact List.length_pos_iff.2 hne)
            exact ⟨b, off, rfl, h2, fun j hj m hm => h3 j (by omega) m hm⟩
          rw [hll] at hV
          exact hV
        · obtain ⟨j, hj, rfl⟩ := List.mem_iff_getElem.1 hx
          exact (hz j hj).2

set_option maxRecDepth 100000 in
/-- an argument of type api.Value -/
theorem open_val {base : Nat} {ts : List TypeId} {ds : List (DataW H)} {j : Nat} {v : Value} {d : DataW H} {p : List MemPlace} (hv : Value.okWide Tryd.prog W .any base 70 v) (h : DataW.Trod enc Tryd.prog W 0 (fun _ => true) true 70 v d p)
    (hsz : (DataW.weightsEach Tryd.prog ts ds).all (· ≤ reachBytes) = true) (ht : ts[j]? = some 70) (hd : ds[j]? = some d) : ∃ (u : Array Value) (x : V), v = .agg u ∧ VLies W u x ∧ x.wf := by
  obtain ⟨cs, rfl, _⟩ := okWide_struct Tryd.underlying70 hv
  obtain ⟨fuel, hf⟩ := h
  obtain ⟨x, hx⟩ := open_value fuel _ d p hf (fun k hk => by
    have := List.all_eq_true.1 hsz k (DataW.weights_mem_each ht hd k hk)
    simpa using this)
  exact ⟨cs, x, rfl, by simpa [Value.cells] using hx⟩
set_option maxRecDepth 100000 in
/-- an argument of type api.Type -/
theorem open_ty {base : Nat} {ts : List TypeId} {ds : List (DataW H)} {j : Nat} {v : Value} {d : DataW H} {p : List MemPlace} (hv : Value.okWide Tryd.prog W .any base 66 v) (h : DataW.Trod enc Tryd.prog W 0 (fun _ => true) true 66 v d p)
    (hsz : (DataW.weightsEach Tryd.prog ts ds).all (· ≤ reachBytes) = true) (ht : ts[j]? = some 66) (hd : ds[j]? = some d) : ∃ (u : Array Value) (x : Ty), v = .agg u ∧ TLies W u x ∧ x.wf := by
  obtain ⟨cs, rfl, _⟩ := okWide_struct Tryd.underlying66 hv
  obtain ⟨fuel, hf⟩ := h
  obtain ⟨x, hx⟩ := open_type fuel _ d p hf (fun k hk => by
    have := List.all_eq_true.1 hsz k (DataW.weights_mem_each ht hd k hk)
    simpa using this)
  exact ⟨cs, x, rfl, by simpa [Value.cells] using hx⟩
end
end Go.Proofs.YtohgmkgclgoflaaDoor

/- An argument of type api.Schema, opened: the columns that lie there, within their bounds. -/
namespace Go.Proofs.YtohgmkgclgoflaaDoor
open Go.ChangeShapes Go.WideShapes Go.ChangeAt Go.RowKit Go.Deep

section
variable {H : Type} {enc : TypeId × Value → H} {W : World}

set_option maxRecDepth 100000 in
theorem open_col (fuel : Nat) (cs : List Value) (D : DataW H) (Pl : List MemPlace) (h : DataW.trod enc Tryd.prog W 0 (fun _ => true) true fuel 72 cs = some (D, Pl)) (hw : ∀ k ∈ D.weights Tryd.prog 72, k ≤ reachBytes) : ∃ x, CLies W cs.toArray x ∧ x.wf := by
  obtain ⟨xs, n, rfl, hx, hl, hlen, hf⟩ := DataW.trod_struct Tryd.underlying72 h
  have hc5 : Tryd.prog.cellsOf 72 = 9 := by kernel_rfl
  have er : reachBytes = 140737488351232 := by decide
  rw [hc5] at hl
  match cs, hl, xs, hlen with
  | [v0, v1, v2, v3, v4, v5, v6, v7, v8], _, [y0, y1, y2, y3], _ =>
    have c0 : Tryd.prog.cellsOf 9 = 1 := by kernel_rfl
    have c1 : Tryd.prog.cellsOf 66 = 2 := by kernel_rfl
    have c2 : Tryd.prog.cellsOf 4 = 1 := by kernel_rfl
    have c3 : Tryd.prog.cellsOf 70 = 5 := by kernel_rfl
    have h0 : DataW.trod enc Tryd.prog W 0 (fun _ => true) true n 9 [v0] = some y0 := by have := hf 0 _ rfl; simpa [c0] using this
    have h1 : DataW.trod enc Tryd.prog W 0 (fun _ => true) true n 66 [v1, v2] = some y1 := by have := hf 1 _ rfl; simpa [c1] using this
    have h2 : DataW.trod enc Tryd.prog W 0 (fun _ => true) true n 4 [v3] = some y2 := by have := hf 2 _ rfl; simpa [c2] using this
    have h3 : DataW.trod enc Tryd.prog W 0 (fun _ => true) true n 70 [v4, v5, v6, v7, v8] = some y3 := by have := hf 3 _ rfl; simpa [c3] using this
    obtain ⟨n0, hn0, hy0, _⟩ := DataW.trod_string Tryd.underlying9 h0
    obtain ⟨n3, hn3, _⟩ := DataW.trod_bool Tryd.underlying4 h2
    simp only [List.cons.injEq, and_true] at hn0 hn3
    subst hn0 hn3
    simp only [Prod.mk.injEq] at hx
    obtain ⟨rfl, _⟩ := hx
    have hs0 : n0.size ≤ 140737488351232 := by
      have := hw n0.data.toList.length (by
        simp [DataW.weights, DataW.weightsEach, Tryd.underlying72, hy0])
      rw [er] at this
      simpa using this
    obtain ⟨ty, hty, wty⟩ := open_type n _ y1.1 y1.2 h1 (fun k hk => hw k (by
      simp [DataW.weights, DataW.weightsEach, Tryd.underlying72]
      right; left
      exact hk))
    obtain ⟨dv, hdv, wdv⟩ := open_value n _ y3.1 y3.2 h3 (fun k hk => hw k (by
      simp [DataW.weights, DataW.weightsEach, Tryd.underlying72]
      right; right; right
      exact hk))
    obtain ⟨k, p, c, ts, _, e1, rfl, _⟩ := hty.inv
    obtain ⟨vk, vi, vb, vt, vp, vc, vs, _, e2, rfl, _⟩ := hdv.inv
    simp only [cells2] at e1
    simp only [cells5] at e2
    obtain ⟨rfl, rfl⟩ := e1
    obtain ⟨rfl, rfl, rfl, rfl, rfl⟩ := e2
    exact ⟨⟨n0, .mk k ts, n3, .mk vk vi vb vt vs⟩, ⟨k, p, ts.length, c, vk, vi, vb, vt, vp, vs.length, vc, rfl, hty, hdv⟩, hs0, wty, wdv⟩

theorem open_cols {a : Addr} {len : Nat} (each : ∀ i, i < len → ∃ z : List Value × Col, W.cells? 0 (a.add (i * 9)) 9 = some z.1 ∧ CLies W z.1.toArray z.2 ∧ z.2.wf) : ∃ s : List Col, s.length = len ∧ Cols W (some a) s ∧ ∀ x ∈ s, x.wf := by
  haveI : Inhabited Col := ⟨⟨⟨#[]⟩, .mk 0 [], false, .mk 0 0 0 ⟨#[]⟩ []⟩⟩
  obtain ⟨us, zs, hll, hp, hz⟩ := choose_row (L := fun u x => CLies W u x ∧ x.wf) (by decide) each
  refine ⟨zs, hll, fun j hj => ?_, fun x hx => ?_⟩
  · obtain ⟨b, off, rfl, h2, h3⟩ := hp (by omega)
    refine ⟨us j, (hz j hj).1, ?_⟩
    obtain ⟨k, tp, tn, tc, vk, vi, vb, vt, vp, vn, vc, g1, g2, g3⟩ := (hz j hj).1.out
    have h9 : ∀ m, m < 9 → W.cell? ⟨b, off + j * 9 + m, none⟩ = (cells9 zs[j].name k tp tn tc zs[j].has vk vi vb vt vp vn vc)[m]? := fun m hm => by rw [h3 j (by omega) m hm, g1]
    exact ⟨b, off, _, k, tp, tn, tc, _, vk, vi, vb, vt, vp, vn, vc, rfl, h2, g1, h9 0 (by decide), h9 1 (by decide), h9 2 (by decide), h9 3 (by decide), h9 4 (by decide), h9 5 (by decide), h9 6 (by decide), h9 7 (by decide), h9 8 (by decide)⟩
  · obtain ⟨j, hj, rfl⟩ := List.mem_iff_getElem.1 hx
    exact (hz j hj).2

set_option maxRecDepth 100000 in
theorem open_schema (fuel : Nat) (cs : List Value) (D : DataW H) (Pl : List MemPlace) (h : DataW.trod enc Tryd.prog W 0 (fun _ => true) true fuel 28 cs = some (D, Pl)) (hw : ∀ k ∈ D.weights Tryd.prog 28, k ≤ reachBytes) : ∃ (p : Option Addr) (c : Nat) (s : List Col), cs = [.slice p s.length c] ∧ s.length * 120 ≤ 140737488351232 ∧ s.length ≤ c ∧ Cols W p s ∧ ∀ x ∈ s, x.wf := by
  obtain ⟨xs, n, rfl, hx, hl, hlen, hf⟩ := DataW.trod_struct Tryd.underlying28 h
  have hc1 : Tryd.prog.cellsOf 28 = 1 := by kernel_rfl
  have hc9 : Tryd.prog.cellsOf 72 = 9 := by kernel_rfl
  have hb120 : Tryd.prog.bytesOf 72 = 120 := by kernel_rfl
  have er : reachBytes = 140737488351232 := by decide
  rw [hc1] at hl
  match cs, hl, xs, hlen with
  | [v0], _, [y0], _ =>
    have c0 : Tryd.prog.cellsOf 26 = 1 := by kernel_rfl
    have h0 : DataW.trod enc Tryd.prog W 0 (fun _ => true) true n 26 [v0] = some y0 := by have := hf 0 _ rfl; simpa [c0] using this
    simp only [Prod.mk.injEq] at hx
    obtain ⟨rfl, _⟩ := hx
    have hw4 : ∀ k ∈ y0.1.weights Tryd.prog 26, k ≤ reachBytes := fun k hk => hw k (by
      simp [DataW.weights, DataW.weightsEach, Tryd.underlying28]
      exact hk)
    rcases DataW.trod_slice Tryd.underlying26 h0 with ⟨hcs, _⟩ | ⟨a, len, cap, elems, rest, n', rfl, hcs, hy, _, hlc, _, hel, hat, _⟩
    · simp only [List.cons.injEq, and_true] at hcs
      subst hcs
      exact ⟨none, 0, [], rfl, by decide, Nat.le_refl _, fun j hj => absurd hj (Nat.not_lt_zero _), fun x hx => by cases hx⟩
    · simp only [List.cons.injEq, and_true] at hcs
      subst hcs
      rw [hy] at hw4
      have hbd : len * 120 ≤ 140737488351232 := by
        have := hw4 ((elems.length + rest.length) * Tryd.prog.bytesOf 72) (by simp [DataW.weights, Tryd.underlying26])
        rw [hb120, er] at this
        omega
      obtain ⟨s, h1, h2, h3⟩ := open_cols (W := W) (a := a) (len := len) (fun i hi => by
        have h5 := hat i hi
        rw [hc9] at h5
        obtain ⟨y, hy2⟩ : ∃ y, elems[i]? = some y := ⟨elems[i]'(by omega), List.getElem?_eq_getElem (by omega)⟩
        rw [hy2] at h5
        obtain ⟨cs', g1, g2⟩ := Option.bind_eq_some_iff.1 h5
        obtain ⟨x, hx⟩ := open_col n' cs' y.1 y.2 g2 (fun k hk => hw4 k (by
          simp only [DataW.weights, Tryd.underlying26]
          refine List.mem_cons_of_mem _ (List.mem_append_left _ (weightsAll_mem (i := i) (d := y.1) ?_ k hk))
          simp [hy2]))
        exact ⟨⟨cs', x⟩, g1, hx⟩)
      subst h1
      exact ⟨some a, cap, s, rfl, hbd, hlc, h2, h3⟩

set_option maxRecDepth 100000 in
/-- an argument of type api.Schema -/
theorem open_sch {base : Nat} {ts : List TypeId} {ds : List (DataW H)} {j : Nat} {v : Value} {d : DataW H} {p : List MemPlace} (hv : Value.okWide Tryd.prog W .any base 28 v) (h : DataW.Trod enc Tryd.prog W 0 (fun _ => true) true 28 v d p)
    (hsz : (DataW.weightsEach Tryd.prog ts ds).all (· ≤ reachBytes) = true) (ht : ts[j]? = some 28) (hd : ds[j]? = some d) : ∃ (q : Option Addr) (c : Nat) (s : List Col), v = .agg #[.slice q s.length c] ∧ s.length * 120 ≤ 140737488351232 ∧ s.length ≤ c ∧ Cols W q s ∧ ∀ x ∈ s, x.wf := by
  obtain ⟨cs, rfl, _⟩ := okWide_struct Tryd.underlying28 hv
  obtain ⟨fuel, hf⟩ := h
  obtain ⟨q, c, s, e, h2⟩ := open_schema fuel _ d p hf (fun k hk => by
    have := List.all_eq_true.1 hsz k (DataW.weights_mem_each ht hd k hk)
    simpa using this)
  refine ⟨q, c, s, ?_, h2⟩
  have e' : cs = #[.slice q s.length c] := by
    have : cs.toList = [.slice q s.length c] := by simpa [Value.cells] using e
    rw [← Array.toArray_toList (xs := cs), this]
  rw [e']
end
end Go.Proofs.YtohgmkgclgoflaaDoor

/- An argument of type api.Frame, opened. -/
namespace Go.Proofs.YtohgmkgclgoflaaDoor
open Go.ChangeShapes Go.WideShapes Go.ChangeAt Go.RowKit Go.Deep

section
variable {H : Type} {enc : TypeId × Value → H} {W : World}

set_option maxRecDepth 100000 in
theorem open_entry (fuel : Nat) (cs : List Value) (D : DataW H) (Pl : List MemPlace) (h : DataW.trod enc Tryd.prog W 0 (fun _ => true) true fuel 87 cs = some (D, Pl)) : ∃ e : Ent, cs = [.int .i64 e.at_, .int .i64 e.row, .int .i64 e.sch] ∧ Fr.i64 e.at_ ∧ Fr.i64 e.row ∧ Fr.i64 e.sch := by
  obtain ⟨xs, n, rfl, hx, hl, hlen, hf⟩ := DataW.trod_struct Tryd.underlying87 h
  have hc3 : Tryd.prog.cellsOf 87 = 3 := by kernel_rfl
  rw [hc3] at hl
  match cs, hl, xs, hlen with
  | [v0, v1, v2], _, [y0, y1, y2], _ =>
    have c0 : Tryd.prog.cellsOf 2 = 1 := by kernel_rfl
    have h0 : DataW.trod enc Tryd.prog W 0 (fun _ => true) true n 2 [v0] = some y0 := by have := hf 0 _ rfl; simpa [c0] using this
    have h1 : DataW.trod enc Tryd.prog W 0 (fun _ => true) true n 2 [v1] = some y1 := by have := hf 1 _ rfl; simpa [c0] using this
    have h2 : DataW.trod enc Tryd.prog W 0 (fun _ => true) true n 2 [v2] = some y2 := by have := hf 2 _ rfl; simpa [c0] using this
    obtain ⟨n0, hn0, _, w0⟩ := DataW.trod_int Tryd.underlying2 h0
    obtain ⟨n1, hn1, _, w1⟩ := DataW.trod_int Tryd.underlying2 h1
    obtain ⟨n2, hn2, _, w2⟩ := DataW.trod_int Tryd.underlying2 h2
    simp only [List.cons.injEq, and_true] at hn0 hn1 hn2
    subst hn0 hn1 hn2
    exact ⟨⟨n0, n1, n2⟩, rfl, int_wf w0, int_wf w1, int_wf w2⟩

set_option maxRecDepth 100000 in
theorem open_index (fuel : Nat) (cs : List Value) (D : DataW H) (Pl : List MemPlace) (h : DataW.trod enc Tryd.prog W 0 (fun _ => true) true fuel 31 cs = some (D, Pl)) (hw : ∀ k ∈ D.weights Tryd.prog 31, k ≤ reachBytes) :
    ∃ (x : Idx) (ep : Option Addr) (ec : Nat), cs = [.int .i64 x.at_, .int .i64 x.frames, .int .i64 x.rows, .slice ep x.entries.length ec] ∧ (Fr.i64 x.at_ ∧ Fr.i64 x.frames ∧ Fr.i64 x.rows) ∧ x.entries.length * 24 ≤ 140737488351232 ∧ x.entries.length ≤ ec ∧ Ents W ep x.entries ∧ ∀ e ∈ x.entries, Fr.i64 e.at_ ∧ Fr.i64 e.row ∧ Fr.i64 e.sch := by
  obtain ⟨xs, n, rfl, hx, hl, hlen, hf⟩ := DataW.trod_struct Tryd.underlying31 h
  have hc4 : Tryd.prog.cellsOf 31 = 4 := by kernel_rfl
  have hc3 : Tryd.prog.cellsOf 87 = 3 := by kernel_rfl
  have hb24 : Tryd.prog.bytesOf 87 = 24 := by kernel_rfl
  have er : reachBytes = 140737488351232 := by decide
  rw [hc4] at hl
  match cs, hl, xs, hlen with
  | [v0, v1, v2, v3], _, [y0, y1, y2, y3], _ =>
    have c0 : Tryd.prog.cellsOf 2 = 1 := by kernel_rfl
    have c3 : Tryd.prog.cellsOf 29 = 1 := by kernel_rfl
    have h0 : DataW.trod enc Tryd.prog W 0 (fun _ => true) true n 2 [v0] = some y0 := by have := hf 0 _ rfl; simpa [c0] using this
    have h1 : DataW.trod enc Tryd.prog W 0 (fun _ => true) true n 2 [v1] = some y1 := by have := hf 1 _ rfl; simpa [c0] using this
    have h2 : DataW.trod enc Tryd.prog W 0 (fun _ => true) true n 2 [v2] = some y2 := by have := hf 2 _ rfl; simpa [c0] using this
    have h3 : DataW.trod enc Tryd.prog W 0 (fun _ => true) true n 29 [v3] = some y3 := by have := hf 3 _ rfl; simpa [c3] using this
    obtain ⟨n0, hn0, _, w0⟩ := DataW.trod_int Tryd.underlying2 h0
    obtain ⟨n1, hn1, _, w1⟩ := DataW.trod_int Tryd.underlying2 h1
    obtain ⟨n2, hn2, _, w2⟩ := DataW.trod_int Tryd.underlying2 h2
    simp only [List.cons.injEq, and_true] at hn0 hn1 hn2
    subst hn0 hn1 hn2
    simp only [Prod.mk.injEq] at hx
    obtain ⟨rfl, _⟩ := hx
    have hw4 : ∀ k ∈ y3.1.weights Tryd.prog 29, k ≤ reachBytes := fun k hk => hw k (by
      simp [DataW.weights, DataW.weightsEach, Tryd.underlying31]
      right; right; right
      exact hk)
    rcases DataW.trod_slice Tryd.underlying29 h3 with ⟨hcs, _⟩ | ⟨a, len, cap, elems, rest, n', rfl, hcs, hy, _, hlc, _, hel, hat, _⟩
    · simp only [List.cons.injEq, and_true] at hcs
      subst hcs
      exact ⟨⟨n0, n1, n2, []⟩, none, 0, rfl, ⟨int_wf w0, int_wf w1, int_wf w2⟩, by simp, by simp, ents_nil _ _, fun e he => by cases he⟩
    · simp only [List.cons.injEq, and_true] at hcs
      subst hcs
      rw [hy] at hw4
      have hbd : len * 24 ≤ 140737488351232 := by
        have := hw4 ((elems.length + rest.length) * Tryd.prog.bytesOf 87) (by simp [DataW.weights, Tryd.underlying29])
        rw [hb24, er] at this
        omega
      have each : ∀ i, i < len → ∃ z : List Value × Ent, W.cells? 0 (a.add (i * 3)) 3 = some z.1 ∧ (z.1.toArray = #[.int .i64 z.2.at_, .int .i64 z.2.row, .int .i64 z.2.sch] ∧ Fr.i64 z.2.at_ ∧ Fr.i64 z.2.row ∧ Fr.i64 z.2.sch) := by
        intro i hi
        have h5 := hat i hi
        rw [hc3] at h5
        obtain ⟨y, hy2⟩ : ∃ y, elems[i]? = some y := ⟨elems[i]'(by omega), List.getElem?_eq_getElem (by omega)⟩
        rw [hy2] at h5
        obtain ⟨cs', g1, g2⟩ := Option.bind_eq_some_iff.1 h5
        obtain ⟨x, hx1, hx2⟩ := open_entry n' cs' y.1 y.2 g2
        exact ⟨⟨cs', x⟩, g1, by rw [hx1], hx2⟩
      haveI : Inhabited Ent := ⟨⟨0, 0, 0⟩⟩
      obtain ⟨us, zs, hll, hp, hz⟩ := choose_row (L := fun u (x : Ent) => u = #[.int .i64 x.at_, .int .i64 x.row, .int .i64 x.sch] ∧ Fr.i64 x.at_ ∧ Fr.i64 x.row ∧ Fr.i64 x.sch) (by decide) each
      subst hll
      refine ⟨⟨n0, n1, n2, zs⟩, some a, cap, rfl, ⟨int_wf w0, int_wf w1, int_wf w2⟩, hbd, hlc, fun j hj => ?_, fun e he => ?_⟩
      · have hj' : j < zs.length := hj
        obtain ⟨b, off, rfl, h2, h3⟩ := hp (by omega)
        have h9 := h3 j hj'
        rw [(hz j hj').1] at h9
        exact ⟨b, off, rfl, h2, h9 0 (by omega), h9 1 (by omega), h9 2 (by omega)⟩
      · obtain ⟨j, hj, rfl⟩ := List.mem_iff_getElem.1 he
        exact (hz j hj).2

set_option maxRecDepth 100000 in
/-- an argument of type api.Frame -/
theorem open_frame {base : Nat} {ts : List TypeId} {ds : List (DataW H)} {j : Nat} {v : Value} {d : DataW H} {p : List MemPlace} (hv : Value.okWide Tryd.prog W .any base 33 v) (h : DataW.Trod enc Tryd.prog W 0 (fun _ => true) true 33 v d p)
    (hsz : (DataW.weightsEach Tryd.prog ts ds).all (· ≤ reachBytes) = true) (ht : ts[j]? = some 33) (hd : ds[j]? = some d) :
    ∃ (u : Array Value) (f : Fr), v = .agg u ∧ FLies W u f ∧ f.wf ∧ f.block.length ≤ Rows.uptoBulk d := by
  obtain ⟨cs0, rfl, _⟩ := okWide_struct Tryd.underlying33 hv
  obtain ⟨fuel, hf0⟩ := h
  have hw : ∀ k ∈ d.weights Tryd.prog 33, k ≤ reachBytes := fun k hk => by
    have := List.all_eq_true.1 hsz k (DataW.weights_mem_each ht hd k hk)
    simpa using this
  obtain ⟨cs, hcs⟩ : ∃ cs, cs = (Value.agg cs0).cells.toList := ⟨_, rfl⟩
  rw [← hcs] at hf0
  obtain ⟨xs, n, rfl, hx, hl, hlen, hf⟩ := DataW.trod_struct Tryd.underlying33 hf0
  have hc11 : Tryd.prog.cellsOf 33 = 11 := by kernel_rfl
  have er : reachBytes = 140737488351232 := by decide
  rw [hc11] at hl
  match cs, hl, xs, hlen with
  | [v0, v1, v2, v3, v4, v5, v6, v7, v8, v9, v10], _, [y0, y1, y2, y3, y4, y5, y6, y7], _ =>
    have c0 : Tryd.prog.cellsOf 3 = 1 := by kernel_rfl
    have c1 : Tryd.prog.cellsOf 2 = 1 := by kernel_rfl
    have c2 : Tryd.prog.cellsOf 28 = 1 := by kernel_rfl
    have c6 : Tryd.prog.cellsOf 22 = 1 := by kernel_rfl
    have c7 : Tryd.prog.cellsOf 31 = 4 := by kernel_rfl
    have h0 : DataW.trod enc Tryd.prog W 0 (fun _ => true) true n 3 [v0] = some y0 := by have := hf 0 _ rfl; simpa [c0] using this
    have h1 : DataW.trod enc Tryd.prog W 0 (fun _ => true) true n 2 [v1] = some y1 := by have := hf 1 _ rfl; simpa [c1] using this
    have h2 : DataW.trod enc Tryd.prog W 0 (fun _ => true) true n 28 [v2] = some y2 := by have := hf 2 _ rfl; simpa [c2] using this
    have h3 : DataW.trod enc Tryd.prog W 0 (fun _ => true) true n 2 [v3] = some y3 := by have := hf 3 _ rfl; simpa [c1] using this
    have h4 : DataW.trod enc Tryd.prog W 0 (fun _ => true) true n 2 [v4] = some y4 := by have := hf 4 _ rfl; simpa [c1] using this
    have h5 : DataW.trod enc Tryd.prog W 0 (fun _ => true) true n 3 [v5] = some y5 := by have := hf 5 _ rfl; simpa [c0] using this
    have h6 : DataW.trod enc Tryd.prog W 0 (fun _ => true) true n 22 [v6] = some y6 := by have := hf 6 _ rfl; simpa [c6] using this
    have h7 : DataW.trod enc Tryd.prog W 0 (fun _ => true) true n 31 [v7, v8, v9, v10] = some y7 := by have := hf 7 _ rfl; simpa [c7] using this
    simp only [Prod.mk.injEq] at hx
    obtain ⟨rfl, _⟩ := hx
    obtain ⟨n0, hn0, _, w0⟩ := DataW.trod_int Tryd.underlying3 h0
    obtain ⟨n1, hn1, _, w1⟩ := DataW.trod_int Tryd.underlying2 h1
    obtain ⟨n3, hn3, _, w3⟩ := DataW.trod_int Tryd.underlying2 h3
    obtain ⟨n4, hn4, _, w4⟩ := DataW.trod_int Tryd.underlying2 h4
    obtain ⟨n5, hn5, _, w5⟩ := DataW.trod_int Tryd.underlying3 h5
    simp only [List.cons.injEq, and_true] at hn0 hn1 hn3 hn4 hn5
    subst hn0 hn1 hn3 hn4 hn5
    obtain ⟨ps, cs', s, e1, b1, b2, b3, b4⟩ := open_schema n _ y2.1 y2.2 h2 (fun k hk => hw k (by
      simp [DataW.weights, DataW.weightsEach, Tryd.underlying33]
      right; right; left
      exact hk))
    have hw6 : ∀ k ∈ y6.1.weights Tryd.prog 22, k ≤ reachBytes := fun k hk => hw k (by
      simp [DataW.weights, DataW.weightsEach, Tryd.underlying33]
      right; right; right; right; right; right; left
      exact hk)
    obtain ⟨x, ep, ec, e7, i1, i2, i3, i4, i5⟩ := open_index n _ y7.1 y7.2 h7 (fun k hk => hw k (by
      simp [DataW.weights, DataW.weightsEach, Tryd.underlying33]
      right; right; right; right; right; right; right
      exact hk))
    have hbyt : ∃ (r : Option Addr) (e : Nat) (b : List UInt8), v6 = .slice r b.length e ∧ At W r b ∧ b.length ≤ 140737488351232 ∧ b.length ≤ e ∧ Long y6.1 b.length := by
      have hsl := DataW.trod_slice Tryd.underlying22 h6
      rcases hsl with ⟨hcs2, _⟩ | ⟨a, len, cap, elems, rest, n', _, hcs2, hy, _, hlc, _, hel, _, _⟩
      · simp only [List.cons.injEq, and_true] at hcs2
        subst hcs2
        exact ⟨none, 0, [], rfl, .inl rfl, by simp, by simp, .inl rfl⟩
      · simp only [List.cons.injEq, and_true] at hcs2
        subst hcs2
        obtain ⟨b, hb1, hb2, hb3, _, hb4⟩ := opened (enc := enc) (W := W) (d0 := y6.1) (p := y6.2) ⟨n, by simpa [Value.cells] using h6⟩
        refine ⟨some a, cap, b, by rw [hb1], hb2, ?_, by omega, hb4⟩
        have hy1 : y6.1 = .slice (elems.map (·.1)) (rest.map (·.1)) := by simpa using congrArg Prod.fst hy
        rw [hy1] at hw6
        have := hw6 (((elems.map (·.1)).length + (rest.map (·.1)).length) * Tryd.prog.bytesOf 5) (by simp [DataW.weights, Tryd.underlying22])
        rw [bytes8, er] at this
        simp only [List.length_map] at this
        omega
    obtain ⟨r, e, b, e3, g1, g2, g3, g4⟩ := hbyt
    simp only [List.cons.injEq, and_true] at e1 e7
    obtain ⟨rfl, rfl, rfl, rfl⟩ := e7
    subst e1 e3
    refine ⟨cs0, ⟨n0, n1, s, n3, n4, n5, b, x⟩, rfl, ⟨ps, cs', r, e, ep, ec, ?_, b1, b2, b3, g2, g3, g1, i2, i3, i4⟩, ⟨int_wf w0, int_wf w1, b4, int_wf w3, int_wf w4, int_wf w5, i1, i5⟩, ?_⟩
    · have e' : cs0.toList = [.int .i64 n0, .int .i64 n1, .slice ps s.length cs', .int .i64 n3, .int .i64 n4, .int .i64 n5, .slice r b.length e, .int .i64 x.at_, .int .i64 x.frames, .int .i64 x.rows, .slice ep x.entries.length ec] := by simpa [Value.cells] using hcs.symm
      rw [← Array.toArray_toList (xs := cs0), e']
      rfl
    · have hlb := long_bulk g4
      show b.length ≤ _
      simp only [List.map_cons, List.map_nil, Rows.uptoBulk, Rows.uptoBulkAll]
      omega
end
end Go.Proofs.YtohgmkgclgoflaaDoor
