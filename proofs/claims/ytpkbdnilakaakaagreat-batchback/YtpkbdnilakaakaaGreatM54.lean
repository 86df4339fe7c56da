/- RB7, RB7S, RB8, RBL, RowsN, W11D, L11C, W11E, L11D, WSpoilR, W11F: put together. -/
import Derived.Test.YtpkbdnilakaakaaGreatM50
import Derived.Deep.Slices
import Derived.Lib.SmallJoins
import Derived.Test.YtpkbdnilakaakaaGreatM53
import Derived.Deep.DeepHandedRow
import Derived.LaidMore
import Derived.Stop.Joined
import Derived.Test.YtpkbdnilakaakaaGreatM47
import Derived.Test.YtpkbdnilakaakaaGreatM33
import Derived.Test.YtpkbdnilakaakaaGreatM40
import Derived.Test.YtpkbdnilakaakaaGreatM25
import Derived.Test.YtpkbdnilakaakaaGreatM06
import Derived.Test.YtpkbdnilakaakaaGreatM09
import Derived.Deep.RegionHeld3
import Derived.Test.YtpkbdnilakaakaaGreatM42
import Derived.Test.YtpkbdnilakaakaaGreatM26
import Derived.Test.YtpkbdnilakaakaaGreatM46
import Derived.Test.YtpkbdnilakaakaaGreatM05

/- Arguments of types api.Value, api.Type and api.Schema, opened: what lies there, within its bounds. -/
namespace Go.Proofs.YtpkbdnilakaakaaGreat
open Go.ChangeShapes Go.WideShapes Go.ChangeAt Go.RowKit Go.Deep

theorem add_off9 (b o j : Nat) : (⟨b, o, none⟩ : Addr).add j = ⟨b, o + j, none⟩ := by unfold Addr.add; split <;> simp_all
theorem int_wf {n : Int} (h : (Lit.int .i64 n).wf = true) : -9223372036854775808 ≤ n ∧ n ≤ 9223372036854775807 := by
  have h' : (decide (IntKind.i64.min ≤ n) && decide (n ≤ IntKind.i64.max)) = true := h
  rw [Bool.and_eq_true, decide_eq_true_eq, decide_eq_true_eq] at h'
  have e1 : IntKind.i64.min = -9223372036854775808 := by decide
  have e2 : IntKind.i64.max = 9223372036854775807 := by decide
  rw [e1, e2] at h'
  exact h'
theorem float_wf {n : Nat} (h : (Lit.float .f64 n).wf = true) : n < 18446744073709551616 := by
  have h' : decide (n < 2 ^ 64) = true := h
  rw [decide_eq_true_eq] at h'
  exact h'

section
variable {H : Type} {enc : TypeId × Value → H} {W : World}

theorem trod_float6 {fuel : Nat} {t : TypeId} {cs : List Value} {x : DataW H × List MemPlace} {k : FloatKind} (ht : Tryz.prog.underlying t = some (.float k)) (h : DataW.trod enc Tryz.prog W 0 (fun _ => true) true fuel t cs = some x) : ∃ b, cs = [.float k b] ∧ x = (.lit (.float k b), []) ∧ (Lit.float k b).wf = true := by
  cases fuel with
  | zero => simp [DataW.trod] at h
  | succ n =>
    unfold DataW.trod at h
    rw [ht] at h
    split at h <;> simp_all

theorem weightsAll_mem {P : Program} {e : TypeId} : ∀ {l : List (DataW H)} {i : Nat} {d : DataW H}, l[i]? = some d → ∀ n ∈ d.weights P e, n ∈ DataW.weightsAll P e l
  | [], _, _, h => by simp at h
  | x :: r, 0, d, h => by
    intro n hn
    simp at h
    subst h
    simp [DataW.weightsAll, hn]
  | x :: r, i + 1, d, h => by
    intro n hn
    have := weightsAll_mem (l := r) (i := i) (d := d) (by simpa using h) n hn
    simp [DataW.weightsAll, this]

/-- things that lie in a row -/
theorem choose_row {T : Type} [Inhabited T] {c len : Nat} {a : Addr} {L : Array Value → T → Prop} (hc : 0 < c) (each : ∀ i, i < len → ∃ z : List Value × T, W.cells? 0 (a.add (i * c)) c = some z.1 ∧ L z.1.toArray z.2) :
    ∃ (us : Nat → Array Value) (zs : List T), zs.length = len ∧ (0 < len → ∃ b off, a = ⟨b, off, none⟩ ∧ b < W.heap.size ∧ ∀ j, j < len → ∀ m, m < c → W.cell? ⟨b, off + j * c + m, none⟩ = (us j)[m]?) ∧ ∀ j (h : j < zs.length), L (us j) zs[j] := by
  haveI : Inhabited (List Value × T) := ⟨⟨[], default⟩⟩
  obtain ⟨z, hz⟩ := choose_lt each
  refine ⟨fun j => (z j).1.toArray, (List.range len).map fun i => (z i).2, by simp, fun h0 => ?_, fun j hj => ?_⟩
  · obtain ⟨b, off, spot⟩ := a
    obtain ⟨_, hlen0, hcell0⟩ := World.cells?_some (hz 0 h0).1
    have hc0 := hcell0 0 (by omega)
    rw [List.getElem?_eq_getElem (by omega)] at hc0
    have hspot : spot = none := by simpa [Addr.add] using World.cell?_spot hc0
    subst hspot
    refine ⟨b, off, rfl, ?_, fun j hj2 m hm => ?_⟩
    · have := World.block_lt_of_cell? _ _ hc0
      simpa [block_add] using this
    · obtain ⟨_, hlenj, hcellj⟩ := World.cells?_some (hz j hj2).1
      have hcj := hcellj m (by omega)
      rw [add_add, add_off9] at hcj
      rw [← Nat.add_assoc] at hcj
      rw [hcj]
      simp [hlenj, hm]
  · have hj2 : j < len := by simpa using hj
    simp only [List.getElem_map, List.getElem_range]
    exact (hz j hj2).2

set_option maxRecDepth 100000 in
theorem open_value : ∀ (fuel : Nat) (cs : List Value) (D : DataW H) (Pl : List MemPlace), DataW.trod enc Tryz.prog W 0 (fun _ => true) true fuel 44 cs = some (D, Pl) → (∀ k ∈ D.weights Tryz.prog 44, k ≤ reachBytes) → ∃ x, VLies W cs.toArray x ∧ x.wf := by
  intro fuel
  induction fuel using Nat.strongRecOn with
  | _ fuel ih =>
    intro cs D Pl h hw
    obtain ⟨xs, n, rfl, hx, hl, hlen, hf⟩ := DataW.trod_struct Tryz.underlying44 h
    have hc5 : Tryz.prog.cellsOf 44 = 5 := by kernel_rfl
    have hb64 : Tryz.prog.bytesOf 44 = 64 := by kernel_rfl
    have er : reachBytes = 140737488351232 := by decide
    rw [hc5] at hl
    match cs, hl, xs, hlen with
    | [v0, v1, v2, v3, v4], _, [y0, y1, y2, y3, y4], _ =>
      have c0 : Tryz.prog.cellsOf 3 = 1 := by kernel_rfl
      have c1 : Tryz.prog.cellsOf 2 = 1 := by kernel_rfl
      have c2 : Tryz.prog.cellsOf 42 = 1 := by kernel_rfl
      have c3 : Tryz.prog.cellsOf 9 = 1 := by kernel_rfl
      have c4 : Tryz.prog.cellsOf 39 = 1 := by kernel_rfl
      have h0 : DataW.trod enc Tryz.prog W 0 (fun _ => true) true n 3 [v0] = some y0 := by have := hf 0 _ rfl; simpa [c0] using this
      have h1 : DataW.trod enc Tryz.prog W 0 (fun _ => true) true n 2 [v1] = some y1 := by have := hf 1 _ rfl; simpa [c1] using this
      have h2 : DataW.trod enc Tryz.prog W 0 (fun _ => true) true n 42 [v2] = some y2 := by have := hf 2 _ rfl; simpa [c2] using this
      have h3 : DataW.trod enc Tryz.prog W 0 (fun _ => true) true n 9 [v3] = some y3 := by have := hf 3 _ rfl; simpa [c3] using this
      have h4 : DataW.trod enc Tryz.prog W 0 (fun _ => true) true n 39 [v4] = some y4 := by have := hf 4 _ rfl; simpa [c4] using this
      obtain ⟨n0, hn0, _, w0⟩ := DataW.trod_int Tryz.underlying3 h0
      obtain ⟨n1, hn1, _, w1⟩ := DataW.trod_int Tryz.underlying2 h1
      obtain ⟨n2, hn2, _, w2⟩ := trod_float6 Tryz.underlying42 h2
      obtain ⟨n3, hn3, hy3, _⟩ := DataW.trod_string Tryz.underlying9 h3
      simp only [List.cons.injEq, and_true] at hn0 hn1 hn2 hn3
      subst hn0 hn1 hn2 hn3
      simp only [Prod.mk.injEq] at hx
      obtain ⟨rfl, _⟩ := hx
      have hs3 : n3.size ≤ 140737488351232 := by
        have := hw n3.data.toList.length (by
          simp [DataW.weights, DataW.weightsEach, Tryz.underlying44, hy3])
        rw [er] at this
        simpa using this
      have hw4 : ∀ k ∈ y4.1.weights Tryz.prog 39, k ≤ reachBytes := fun k hk => hw k (by
        simp [DataW.weights, DataW.weightsEach, Tryz.underlying44]
        right; right; right; right
        exact hk)
      rcases DataW.trod_slice Tryz.underlying39 h4 with ⟨hcs, _⟩ | ⟨a, len, cap, elems, rest, n', rfl, hcs, hy, _, hlc, _, hel, hat, _⟩
      · simp only [List.cons.injEq, and_true] at hcs
        subst hcs
        exact ⟨.mk n0 n1 n2 n3 [], vl_leafB W n0 n1 n2 n3 none 0, V.wf_mk.2 ⟨int_wf w0, int_wf w1, float_wf w2, hs3, fun x hx => by cases hx⟩⟩
      · simp only [List.cons.injEq, and_true] at hcs
        subst hcs
        rw [hy] at hw4
        have hbd : len * 64 ≤ 140737488351232 := by
          have := hw4 ((elems.length + rest.length) * Tryz.prog.bytesOf 44) (by simp [DataW.weights, Tryz.underlying39])
          rw [hb64, er] at this
          omega
        have each : ∀ i, i < len → ∃ z : List Value × V, W.cells? 0 (a.add (i * 5)) 5 = some z.1 ∧ VLies W z.1.toArray z.2 ∧ z.2.wf := by
          intro i hi
          have h5 := hat i hi
          rw [hc5] at h5
          obtain ⟨y, hy2⟩ : ∃ y, elems[i]? = some y := ⟨elems[i]'(by omega), List.getElem?_eq_getElem (by omega)⟩
          rw [hy2] at h5
          obtain ⟨cs', g1, g2⟩ := Option.bind_eq_some_iff.1 h5
          obtain ⟨x, hx⟩ := ih n' (by omega) cs' y.1 y.2 g2 (fun k hk => hw4 k (by
            simp only [DataW.weights, Tryz.underlying39]
            refine List.mem_cons_of_mem _ (List.mem_append_left _ (weightsAll_mem (i := i) (d := y.1) ?_ k hk))
            simp [hy2]))
          exact ⟨⟨cs', x⟩, g1, hx⟩
        haveI : Inhabited V := ⟨.mk 0 0 0 ⟨#[]⟩ []⟩
        obtain ⟨us, zs, hll, hp, hz⟩ := choose_row (L := fun u x => VLies W u x ∧ x.wf) (by decide) each
        refine ⟨.mk n0 n1 n2 n3 zs, ?_, V.wf_mk.2 ⟨int_wf w0, int_wf w1, float_wf w2, hs3, fun x hx => ?_⟩⟩
        · have hV : VLies W (cells5 n0 n1 n2 n3 (some a) zs.length cap) (.mk n0 n1 n2 n3 zs) := by
            refine .mk us (by rw [hll]; exact hbd) (by rw [hll]; exact hlc) (fun hne => ?_) (fun j hj => (hz j hj).1)
            obtain ⟨b, off, rfl, h2, h3⟩ := hp (by rw [← hll]; exact List.length_pos_iff.2 hne)
            exact ⟨b, off, rfl, h2, fun j hj m hm => h3 j (by omega) m hm⟩
          rw [hll] at hV
          exact hV
        · obtain ⟨j, hj, rfl⟩ := List.mem_iff_getElem.1 hx
          exact (hz j hj).2

set_option maxRecDepth 100000 in
theorem open_type : ∀ (fuel : Nat) (cs : List Value) (D : DataW H) (Pl : List MemPlace), DataW.trod enc Tryz.prog W 0 (fun _ => true) true fuel 67 cs = some (D, Pl) → (∀ k ∈ D.weights Tryz.prog 67, k ≤ reachBytes) → ∃ x, TLies W cs.toArray x ∧ x.wf := by
  intro fuel
  induction fuel using Nat.strongRecOn with
  | _ fuel ih =>
    intro cs D Pl h hw
    obtain ⟨xs, n, rfl, hx, hl, hlen, hf⟩ := DataW.trod_struct Tryz.underlying67 h
    have hc5 : Tryz.prog.cellsOf 67 = 2 := by kernel_rfl
    have hb64 : Tryz.prog.bytesOf 67 = 32 := by kernel_rfl
    have er : reachBytes = 140737488351232 := by decide
    rw [hc5] at hl
    match cs, hl, xs, hlen with
    | [v0, v4], _, [y0, y4], _ =>
      have c0 : Tryz.prog.cellsOf 3 = 1 := by kernel_rfl
      have c4 : Tryz.prog.cellsOf 65 = 1 := by kernel_rfl
      have h0 : DataW.trod enc Tryz.prog W 0 (fun _ => true) true n 3 [v0] = some y0 := by have := hf 0 _ rfl; simpa [c0] using this
      have h4 : DataW.trod enc Tryz.prog W 0 (fun _ => true) true n 65 [v4] = some y4 := by have := hf 1 _ rfl; simpa [c4] using this
      obtain ⟨n0, hn0, _, w0⟩ := DataW.trod_int Tryz.underlying3 h0
      simp only [List.cons.injEq, and_true] at hn0
      subst hn0
      simp only [Prod.mk.injEq] at hx
      obtain ⟨rfl, _⟩ := hx
      have hw4 : ∀ k ∈ y4.1.weights Tryz.prog 65, k ≤ reachBytes := fun k hk => hw k (by
        simp [DataW.weights, DataW.weightsEach, Tryz.underlying67]
        right
        exact hk)
      rcases DataW.trod_slice Tryz.underlying65 h4 with ⟨hcs, _⟩ | ⟨a, len, cap, elems, rest, n', rfl, hcs, hy, _, hlc, _, hel, hat, _⟩
      · simp only [List.cons.injEq, and_true] at hcs
        subst hcs
        exact ⟨.mk n0 [], tl_leafB W n0 none 0, Ty.wf_mk.2 ⟨int_wf w0, fun x hx => by cases hx⟩⟩
      · simp only [List.cons.injEq, and_true] at hcs
        subst hcs
        rw [hy] at hw4
        have hbd : len * 32 ≤ 140737488351232 := by
          have := hw4 ((elems.length + rest.length) * Tryz.prog.bytesOf 67) (by simp [DataW.weights, Tryz.underlying65])
          rw [hb64, er] at this
          omega
        have each : ∀ i, i < len → ∃ z : List Value × Ty, W.cells? 0 (a.add (i * 2)) 2 = some z.1 ∧ TLies W z.1.toArray z.2 ∧ z.2.wf := by
          intro i hi
          have h5 := hat i hi
          rw [hc5] at h5
          obtain ⟨y, hy2⟩ : ∃ y, elems[i]? = some y := ⟨elems[i]'(by omega), List.getElem?_eq_getElem (by omega)⟩
          rw [hy2] at h5
          obtain ⟨cs', g1, g2⟩ := Option.bind_eq_some_iff.1 h5
          obtain ⟨x, hx⟩ := ih n' (by omega) cs' y.1 y.2 g2 (fun k hk => hw4 k (by
            simp only [DataW.weights, Tryz.underlying65]
            refine List.mem_cons_of_mem _ (List.mem_append_left _ (weightsAll_mem (i := i) (d := y.1) ?_ k hk))
            simp [hy2]))
          exact ⟨⟨cs', x⟩, g1, hx⟩
        haveI : Inhabited Ty := ⟨.mk 0 []⟩
        obtain ⟨us, zs, hll, hp, hz⟩ := choose_row (L := fun u x => TLies W u x ∧ x.wf) (by decide) each
        refine ⟨.mk n0 zs, ?_, Ty.wf_mk.2 ⟨int_wf w0, fun x hx => ?_⟩⟩
        · have hV : TLies W (cells2 n0 (some a) zs.length cap) (.mk n0 zs) := by
            refine .mk us (by rw [hll]; exact hbd) (by rw [hll]; exact hlc) (fun hne => ?_) (fun j hj => (hz j hj).1)
            obtain ⟨b, off, rfl, h2, h3⟩ := hp (by rw [← hll]; exact List.length_pos_iff.2 hne)
            exact ⟨b, off, rfl, h2, fun j hj m hm => h3 j (by omega) m hm⟩
          rw [hll] at hV
          exact hV
        · obtain ⟨j, hj, rfl⟩ := List.mem_iff_getElem.1 hx
          exact (hz j hj).2

set_option maxRecDepth 100000 in
/-- an argument of type api.Value -/
theorem open_val {base : Nat} {ts : List TypeId} {ds : List (DataW H)} {j : Nat} {v : Value} {d : DataW H} {p : List MemPlace} (hv : Value.okWide Tryz.prog W .any base 44 v) (h : DataW.Trod enc Tryz.prog W 0 (fun _ => true) true 44 v d p)
    (hsz : (DataW.weightsEach Tryz.prog ts ds).all (· ≤ reachBytes) = true) (ht : ts[j]? = some 44) (hd : ds[j]? = some d) : ∃ (u : Array Value) (x : V), v = .agg u ∧ VLies W u x ∧ x.wf := by
  obtain ⟨cs, rfl, _⟩ := okWide_struct Tryz.underlying44 hv
  obtain ⟨fuel, hf⟩ := h
  obtain ⟨x, hx⟩ := open_value fuel _ d p hf (fun k hk => by
    have := List.all_eq_true.1 hsz k (DataW.weights_mem_each ht hd k hk)
    simpa using this)
  exact ⟨cs, x, rfl, by simpa [Value.cells] using hx⟩
set_option maxRecDepth 100000 in
/-- an argument of type api.Type -/
theorem open_ty {base : Nat} {ts : List TypeId} {ds : List (DataW H)} {j : Nat} {v : Value} {d : DataW H} {p : List MemPlace} (hv : Value.okWide Tryz.prog W .any base 67 v) (h : DataW.Trod enc Tryz.prog W 0 (fun _ => true) true 67 v d p)
    (hsz : (DataW.weightsEach Tryz.prog ts ds).all (· ≤ reachBytes) = true) (ht : ts[j]? = some 67) (hd : ds[j]? = some d) : ∃ (u : Array Value) (x : Ty), v = .agg u ∧ TLies W u x ∧ x.wf := by
  obtain ⟨cs, rfl, _⟩ := okWide_struct Tryz.underlying67 hv
  obtain ⟨fuel, hf⟩ := h
  obtain ⟨x, hx⟩ := open_type fuel _ d p hf (fun k hk => by
    have := List.all_eq_true.1 hsz k (DataW.weights_mem_each ht hd k hk)
    simpa using this)
  exact ⟨cs, x, rfl, by simpa [Value.cells] using hx⟩
end
end Go.Proofs.YtpkbdnilakaakaaGreat

/- An argument of type api.Schema, opened: the columns that lie there, within their bounds. -/
namespace Go.Proofs.YtpkbdnilakaakaaGreat
open Go.ChangeShapes Go.WideShapes Go.ChangeAt Go.RowKit Go.Deep

section
variable {H : Type} {enc : TypeId × Value → H} {W : World}

set_option maxRecDepth 100000 in
theorem open_col (fuel : Nat) (cs : List Value) (D : DataW H) (Pl : List MemPlace) (h : DataW.trod enc Tryz.prog W 0 (fun _ => true) true fuel 69 cs = some (D, Pl)) (hw : ∀ k ∈ D.weights Tryz.prog 69, k ≤ reachBytes) : ∃ x, CLies W cs.toArray x ∧ x.wf := by
  obtain ⟨xs, n, rfl, hx, hl, hlen, hf⟩ := DataW.trod_struct Tryz.underlying69 h
  have hc5 : Tryz.prog.cellsOf 69 = 9 := by kernel_rfl
  have er : reachBytes = 140737488351232 := by decide
  rw [hc5] at hl
  match cs, hl, xs, hlen with
  | [v0, v1, v2, v3, v4, v5, v6, v7, v8], _, [y0, y1, y2, y3], _ =>
    have c0 : Tryz.prog.cellsOf 9 = 1 := by kernel_rfl
    have c1 : Tryz.prog.cellsOf 67 = 2 := by kernel_rfl
    have c2 : Tryz.prog.cellsOf 4 = 1 := by kernel_rfl
    have c3 : Tryz.prog.cellsOf 44 = 5 := by kernel_rfl
    have h0 : DataW.trod enc Tryz.prog W 0 (fun _ => true) true n 9 [v0] = some y0 := by have := hf 0 _ rfl; simpa [c0] using this
    have h1 : DataW.trod enc Tryz.prog W 0 (fun _ => true) true n 67 [v1, v2] = some y1 := by have := hf 1 _ rfl; simpa [c1] using this
    have h2 : DataW.trod enc Tryz.prog W 0 (fun _ => true) true n 4 [v3] = some y2 := by have := hf 2 _ rfl; simpa [c2] using this
    have h3 : DataW.trod enc Tryz.prog W 0 (fun _ => true) true n 44 [v4, v5, v6, v7, v8] = some y3 := by have := hf 3 _ rfl; simpa [c3] using this
    obtain ⟨n0, hn0, hy0, _⟩ := DataW.trod_string Tryz.underlying9 h0
    obtain ⟨n3, hn3, _⟩ := DataW.trod_bool Tryz.underlying4 h2
    simp only [List.cons.injEq, and_true] at hn0 hn3
    subst hn0 hn3
    simp only [Prod.mk.injEq] at hx
    obtain ⟨rfl, _⟩ := hx
    have hs0 : n0.size ≤ 140737488351232 := by
      have := hw n0.data.toList.length (by
        simp [DataW.weights, DataW.weightsEach, Tryz.underlying69, hy0])
      rw [er] at this
      simpa using this
    obtain ⟨ty, hty, wty⟩ := open_type n _ y1.1 y1.2 h1 (fun k hk => hw k (by
      simp [DataW.weights, DataW.weightsEach, Tryz.underlying69]
      right; left
      exact hk))
    obtain ⟨dv, hdv, wdv⟩ := open_value n _ y3.1 y3.2 h3 (fun k hk => hw k (by
      simp [DataW.weights, DataW.weightsEach, Tryz.underlying69]
      right; right; right
      exact hk))
    obtain ⟨k, p, c, ts, _, e1, rfl, _⟩ := hty.inv
    obtain ⟨vk, vi, vb, vt, vp, vc, vs, _, e2, rfl, _⟩ := hdv.inv
    simp only [cells2] at e1
    simp only [cells5] at e2
    obtain ⟨rfl, rfl⟩ := e1
    obtain ⟨rfl, rfl, rfl, rfl, rfl⟩ := e2
    exact ⟨⟨n0, .mk k ts, n3, .mk vk vi vb vt vs⟩, ⟨k, p, ts.length, c, vk, vi, vb, vt, vp, vs.length, vc, rfl, hty, hdv⟩, hs0, wty, wdv⟩

theorem open_cols {a : Addr} {len : Nat} (each : ∀ i, i < len → ∃ z : List Value × Col, W.cells? 0 (a.add (i * 9)) 9 = some z.1 ∧ CLies W z.1.toArray z.2 ∧ z.2.wf) : ∃ s : List Col, s.length = len ∧ Cols W (some a) s ∧ ∀ x ∈ s, x.wf := by
  haveI : Inhabited Col := ⟨⟨⟨#[]⟩, .mk 0 [], false, .mk 0 0 0 ⟨#[]⟩ []⟩⟩
  obtain ⟨us, zs, hll, hp, hz⟩ := choose_row (L := fun u x => CLies W u x ∧ x.wf) (by decide) each
  refine ⟨zs, hll, fun j hj => ?_, fun x hx => ?_⟩
  · obtain ⟨b, off, rfl, h2, h3⟩ := hp (by omega)
    refine ⟨us j, (hz j hj).1, ?_⟩
    obtain ⟨k, tp, tn, tc, vk, vi, vb, vt, vp, vn, vc, g1, g2, g3⟩ := (hz j hj).1.out
    have h9 : ∀ m, m < 9 → W.cell? ⟨b, off + j * 9 + m, none⟩ = (cells9 zs[j].name k tp tn tc zs[j].has vk vi vb vt vp vn vc)[m]? := fun m hm => by rw [h3 j (by omega) m hm, g1]
    exact ⟨b, off, _, k, tp, tn, tc, _, vk, vi, vb, vt, vp, vn, vc, rfl, h2, g1, h9 0 (by decide), h9 1 (by decide), h9 2 (by decide), h9 3 (by decide), h9 4 (by decide), h9 5 (by decide), h9 6 (by decide), h9 7 (by decide), h9 8 (by decide)⟩
  · obtain ⟨j, hj, rfl⟩ := List.mem_iff_getElem.1 hx
    exact (hz j hj).2

set_option maxRecDepth 100000 in
theorem open_schema (fuel : Nat) (cs : List Value) (D : DataW H) (Pl : List MemPlace) (h : DataW.trod enc Tryz.prog W 0 (fun _ => true) true fuel 24 cs = some (D, Pl)) (hw : ∀ k ∈ D.weights Tryz.prog 24, k ≤ reachBytes) : ∃ (p : Option Addr) (c : Nat) (s : List Col), cs = [.slice p s.length c] ∧ s.length * 120 ≤ 140737488351232 ∧ s.length ≤ c ∧ Cols W p s ∧ ∀ x ∈ s, x.wf := by
  obtain ⟨xs, n, rfl, hx, hl, hlen, hf⟩ := DataW.trod_struct Tryz.underlying24 h
  have hc1 : Tryz.prog.cellsOf 24 = 1 := by kernel_rfl
  have hc9 : Tryz.prog.cellsOf 69 = 9 := by kernel_rfl
  have hb120 : Tryz.prog.bytesOf 69 = 120 := by kernel_rfl
  have er : reachBytes = 140737488351232 := by decide
  rw [hc1] at hl
  match cs, hl, xs, hlen with
  | [v0], _, [y0], _ =>
    have c0 : Tryz.prog.cellsOf 22 = 1 := by kernel_rfl
    have h0 : DataW.trod enc Tryz.prog W 0 (fun _ => true) true n 22 [v0] = some y0 := by have := hf 0 _ rfl; simpa [c0] using this
    simp only [Prod.mk.injEq] at hx
    obtain ⟨rfl, _⟩ := hx
    have hw4 : ∀ k ∈ y0.1.weights Tryz.prog 22, k ≤ reachBytes := fun k hk => hw k (by
      simp [DataW.weights, DataW.weightsEach, Tryz.underlying24]
      exact hk)
    rcases DataW.trod_slice Tryz.underlying22 h0 with ⟨hcs, _⟩ | ⟨a, len, cap, elems, rest, n', rfl, hcs, hy, _, hlc, _, hel, hat, _⟩
    · simp only [List.cons.injEq, and_true] at hcs
      subst hcs
      exact ⟨none, 0, [], rfl, by decide, Nat.le_refl _, fun j hj => absurd hj (Nat.not_lt_zero _), fun x hx => by cases hx⟩
    · simp only [List.cons.injEq, and_true] at hcs
      subst hcs
      rw [hy] at hw4
      have hbd : len * 120 ≤ 140737488351232 := by
        have := hw4 ((elems.length + rest.length) * Tryz.prog.bytesOf 69) (by simp [DataW.weights, Tryz.underlying22])
        rw [hb120, er] at this
        omega
      obtain ⟨s, h1, h2, h3⟩ := open_cols (W := W) (a := a) (len := len) (fun i hi => by
        have h5 := hat i hi
        rw [hc9] at h5
        obtain ⟨y, hy2⟩ : ∃ y, elems[i]? = some y := ⟨elems[i]'(by omega), List.getElem?_eq_getElem (by omega)⟩
        rw [hy2] at h5
        obtain ⟨cs', g1, g2⟩ := Option.bind_eq_some_iff.1 h5
        obtain ⟨x, hx⟩ := open_col n' cs' y.1 y.2 g2 (fun k hk => hw4 k (by
          simp only [DataW.weights, Tryz.underlying22]
          refine List.mem_cons_of_mem _ (List.mem_append_left _ (weightsAll_mem (i := i) (d := y.1) ?_ k hk))
          simp [hy2]))
        exact ⟨⟨cs', x⟩, g1, hx⟩)
      subst h1
      exact ⟨some a, cap, s, rfl, hbd, hlc, h2, h3⟩

set_option maxRecDepth 100000 in
/-- an argument of type api.Schema -/
theorem open_sch {base : Nat} {ts : List TypeId} {ds : List (DataW H)} {j : Nat} {v : Value} {d : DataW H} {p : List MemPlace} (hv : Value.okWide Tryz.prog W .any base 24 v) (h : DataW.Trod enc Tryz.prog W 0 (fun _ => true) true 24 v d p)
    (hsz : (DataW.weightsEach Tryz.prog ts ds).all (· ≤ reachBytes) = true) (ht : ts[j]? = some 24) (hd : ds[j]? = some d) : ∃ (q : Option Addr) (c : Nat) (s : List Col), v = .agg #[.slice q s.length c] ∧ s.length * 120 ≤ 140737488351232 ∧ s.length ≤ c ∧ Cols W q s ∧ ∀ x ∈ s, x.wf := by
  obtain ⟨cs, rfl, _⟩ := okWide_struct Tryz.underlying24 hv
  obtain ⟨fuel, hf⟩ := h
  obtain ⟨q, c, s, e, h2⟩ := open_schema fuel _ d p hf (fun k hk => by
    have := List.all_eq_true.1 hsz k (DataW.weights_mem_each ht hd k hk)
    simpa using this)
  refine ⟨q, c, s, ?_, h2⟩
  have e' : cs = #[.slice q s.length c] := by
    have : cs.toList = [.slice q s.length c] := by simpa [Value.cells] using e
    rw [← Array.toArray_toList (xs := cs), this]
  rw [e']
end
end Go.Proofs.YtpkbdnilakaakaaGreat

/- An argument of type api.Row, []api.Row, or the struct Both, opened. -/
namespace Go.Proofs.YtpkbdnilakaakaaGreat
open Go.ChangeShapes Go.WideShapes Go.ChangeAt Go.RowKit Go.Deep

section
variable {H : Type} {enc : TypeId × Value → H} {W : World}

set_option maxRecDepth 100000 in
theorem open_row8 (fuel : Nat) (cs : List Value) (D : DataW H) (Pl : List MemPlace) (h : DataW.trod enc Tryz.prog W 0 (fun _ => true) true fuel 41 cs = some (D, Pl)) (hw : ∀ k ∈ D.weights Tryz.prog 41, k ≤ reachBytes) : ∃ (p : Option Addr) (c : Nat) (s : List V), cs = [.slice p s.length c] ∧ RLies W p c s := by
  obtain ⟨xs, n, rfl, hx, hl, hlen, hf⟩ := DataW.trod_struct Tryz.underlying41 h
  have hc1 : Tryz.prog.cellsOf 41 = 1 := by kernel_rfl
  have hc5 : Tryz.prog.cellsOf 44 = 5 := by kernel_rfl
  have hb64 : Tryz.prog.bytesOf 44 = 64 := by kernel_rfl
  have er : reachBytes = 140737488351232 := by decide
  rw [hc1] at hl
  match cs, hl, xs, hlen with
  | [v0], _, [y0], _ =>
    have c0 : Tryz.prog.cellsOf 39 = 1 := by kernel_rfl
    have h0 : DataW.trod enc Tryz.prog W 0 (fun _ => true) true n 39 [v0] = some y0 := by have := hf 0 _ rfl; simpa [c0] using this
    simp only [Prod.mk.injEq] at hx
    obtain ⟨rfl, _⟩ := hx
    have hw4 : ∀ k ∈ y0.1.weights Tryz.prog 39, k ≤ reachBytes := fun k hk => hw k (by
      simp [DataW.weights, DataW.weightsEach, Tryz.underlying41]
      exact hk)
    rcases DataW.trod_slice Tryz.underlying39 h0 with ⟨hcs, _⟩ | ⟨a, len, cap, elems, rest, n', rfl, hcs, hy, _, hlc, _, hel, hat, _⟩
    · simp only [List.cons.injEq, and_true] at hcs
      subst hcs
      exact ⟨none, 0, [], rfl, vl_leafB W 0 0 0 ⟨#[]⟩ none 0, fun x hx => by cases hx⟩
    · simp only [List.cons.injEq, and_true] at hcs
      subst hcs
      rw [hy] at hw4
      have hbd : len * 64 ≤ 140737488351232 := by
        have := hw4 ((elems.length + rest.length) * Tryz.prog.bytesOf 44) (by simp [DataW.weights, Tryz.underlying39])
        rw [hb64, er] at this
        omega
      have each : ∀ i, i < len → ∃ z : List Value × V, W.cells? 0 (a.add (i * 5)) 5 = some z.1 ∧ VLies W z.1.toArray z.2 ∧ z.2.wf := by
        intro i hi
        have h5 := hat i hi
        rw [hc5] at h5
        obtain ⟨y, hy2⟩ : ∃ y, elems[i]? = some y := ⟨elems[i]'(by omega), List.getElem?_eq_getElem (by omega)⟩
        rw [hy2] at h5
        obtain ⟨cs', g1, g2⟩ := Option.bind_eq_some_iff.1 h5
        obtain ⟨x, hx⟩ := open_value n' cs' y.1 y.2 g2 (fun k hk => hw4 k (by
          simp only [DataW.weights, Tryz.underlying39]
          refine List.mem_cons_of_mem _ (List.mem_append_left _ (weightsAll_mem (i := i) (d := y.1) ?_ k hk))
          simp [hy2]))
        exact ⟨⟨cs', x⟩, g1, hx⟩
      haveI : Inhabited V := ⟨.mk 0 0 0 ⟨#[]⟩ []⟩
      obtain ⟨us, zs, hll, hp, hz⟩ := choose_row (L := fun u x => VLies W u x ∧ x.wf) (by decide) each
      subst hll
      refine ⟨some a, cap, zs, rfl, ?_, fun x hx => ?_⟩
      · refine .mk us hbd hlc (fun hne => ?_) (fun j hj => (hz j hj).1)
        obtain ⟨b, off, rfl, h2, h3⟩ := hp (List.length_pos_iff.2 hne)
        exact ⟨b, off, rfl, h2, fun j hj m hm => h3 j (by omega) m hm⟩
      · obtain ⟨j, hj, rfl⟩ := List.mem_iff_getElem.1 hx
        exact (hz j hj).2
set_option maxRecDepth 100000 in
/-- an argument of type api.Row -/
theorem open_row {base : Nat} {ts : List TypeId} {ds : List (DataW H)} {j : Nat} {v : Value} {d : DataW H} {p : List MemPlace} (hv : Value.okWide Tryz.prog W .any base 41 v) (h : DataW.Trod enc Tryz.prog W 0 (fun _ => true) true 41 v d p)
    (hsz : (DataW.weightsEach Tryz.prog ts ds).all (· ≤ reachBytes) = true) (ht : ts[j]? = some 41) (hd : ds[j]? = some d) : ∃ (q : Option Addr) (c : Nat) (s : List V), v = .agg #[.slice q s.length c] ∧ RLies W q c s := by
  obtain ⟨cs, rfl, _⟩ := okWide_struct Tryz.underlying41 hv
  obtain ⟨fuel, hf⟩ := h
  obtain ⟨q, c, s, e, h2⟩ := open_row8 fuel _ d p hf (fun k hk => by
    have := List.all_eq_true.1 hsz k (DataW.weights_mem_each ht hd k hk)
    simpa using this)
  refine ⟨q, c, s, ?_, h2⟩
  have e' : cs = #[.slice q s.length c] := by
    have : cs.toList = [.slice q s.length c] := by simpa [Value.cells] using e
    rw [← Array.toArray_toList (xs := cs), this]
  rw [e']
set_option maxRecDepth 100000 in
theorem open_rowsF (fuel : Nat) (v : Value) (D : DataW H) (Pl : List MemPlace) (h : DataW.trod enc Tryz.prog W 0 (fun _ => true) true fuel 25 [v] = some (D, Pl)) (hw : ∀ k ∈ D.weights Tryz.prog 25, k ≤ reachBytes) : ∃ (q : Option Addr) (c : Nat) (l : List (List V)), v = .slice q l.length c ∧ RowsL W q c l := by
  have hc1 : Tryz.prog.cellsOf 41 = 1 := by kernel_rfl
  have hb24 : Tryz.prog.bytesOf 41 = 24 := by kernel_rfl
  have er : reachBytes = 140737488351232 := by decide
  rcases DataW.trod_slice Tryz.underlying25 h with ⟨hcs, _⟩ | ⟨a, len, cap, elems, rest, n', rfl, hcs, hy, _, hlc, _, hel, hat, _⟩
  · simp only [List.cons.injEq, and_true] at hcs
    subst hcs
    exact ⟨none, 0, [], rfl, by simp, by simp, fun j hj => by simp at hj⟩
  · simp only [List.cons.injEq, and_true] at hcs
    subst hcs
    have hy1 : D = .slice (elems.map (·.1)) (rest.map (·.1)) := by simpa using congrArg Prod.fst hy
    rw [hy1] at hw
    have hbd : len * 24 ≤ 140737488351232 := by
      have := hw (((elems.map (·.1)).length + (rest.map (·.1)).length) * Tryz.prog.bytesOf 41) (by simp [DataW.weights, Tryz.underlying25])
      rw [hb24, er] at this
      simp only [List.length_map] at this
      omega
    have each : ∀ i, i < len → ∃ z : List Value × List V, W.cells? 0 (a.add (i * 1)) 1 = some z.1 ∧ (∃ p c, z.1.toArray = #[.slice p z.2.length c] ∧ RLies W p c z.2) := by
      intro i hi
      have h5 := hat i hi
      rw [hc1] at h5
      obtain ⟨y, hy2⟩ : ∃ y, elems[i]? = some y := ⟨elems[i]'(by omega), List.getElem?_eq_getElem (by omega)⟩
      rw [hy2] at h5
      obtain ⟨cs', g1, g2⟩ := Option.bind_eq_some_iff.1 h5
      obtain ⟨p', c', s', e', hr'⟩ := open_row8 n' cs' y.1 y.2 g2 (fun k hk => hw k (by
        simp only [DataW.weights, Tryz.underlying25]
        refine List.mem_cons_of_mem _ (List.mem_append_left _ (weightsAll_mem (i := i) (d := y.1) ?_ k hk))
        simp [hy2]))
      exact ⟨⟨cs', s'⟩, g1, p', c', by rw [e'], hr'⟩
    obtain ⟨us, zs, hll, hp, hz⟩ := choose_row (L := fun u (x : List V) => ∃ p c, u = #[.slice p x.length c] ∧ RLies W p c x) (by decide) each
    subst hll
    refine ⟨some a, cap, zs, rfl, hbd, hlc, fun j hj => ?_⟩
    obtain ⟨b, off, rfl, h2, h3⟩ := hp (by omega)
    obtain ⟨p', c', e', hr'⟩ := hz j hj
    refine ⟨b, off, p', c', rfl, h2, ?_, hr'⟩
    have := h3 j hj 0 (by decide)
    rw [e'] at this
    simpa using this
/-- an argument of type []api.Row -/
theorem open_rows {ts : List TypeId} {ds : List (DataW H)} {j : Nat} {a0 : Option Addr} {len cap : Nat} {d : DataW H} {p : List MemPlace} (h : DataW.Trod enc Tryz.prog W 0 (fun _ => true) true 25 (.slice a0 len cap) d p)
    (hsz : (DataW.weightsEach Tryz.prog ts ds).all (· ≤ reachBytes) = true) (ht : ts[j]? = some 25) (hd : ds[j]? = some d) :
    ∃ l : List (List V), len = l.length ∧ RowsL W a0 cap l := by
  obtain ⟨fuel, hf⟩ := h
  obtain ⟨q, c, l, e, hr⟩ := open_rowsF fuel _ d p (by simpa [Value.cells] using hf) (fun k hk => by
    have := List.all_eq_true.1 hsz k (DataW.weights_mem_each ht hd k hk)
    simpa using this)
  injection e with e1 e2 e3
  subst e1 e3
  exact ⟨l, e2, hr⟩
set_option maxRecDepth 100000 in
/-- an argument of type Both -/
theorem open_both {base : Nat} {ts : List TypeId} {ds : List (DataW H)} {j : Nat} {v : Value} {d : DataW H} {p : List MemPlace} (hv : Value.okWide Tryz.prog W .any base 47 v) (h : DataW.Trod enc Tryz.prog W 0 (fun _ => true) true 47 v d p)
    (hsz : (DataW.weightsEach Tryz.prog ts ds).all (· ≤ reachBytes) = true) (ht : ts[j]? = some 47) (hd : ds[j]? = some d) :
    ∃ (p : Option Addr) (c : Nat) (s : List Col) (q : Option Addr) (d : Nat) (l : List (List V)) (r : Option Addr) (e : Nat) (b : List UInt8) (n m : Int), v = .agg #[.slice p s.length c, .slice q l.length d, .slice r b.length e, .int .i64 n, .int .i64 m] ∧ BothL W p c s q d l r e b := by
  obtain ⟨cs0, rfl, _⟩ := okWide_struct Tryz.underlying47 hv
  obtain ⟨fuel, hf0⟩ := h
  have hw : ∀ k ∈ d.weights Tryz.prog 47, k ≤ reachBytes := fun k hk => by
    have := List.all_eq_true.1 hsz k (DataW.weights_mem_each ht hd k hk)
    simpa using this
  obtain ⟨cs, hcs⟩ : ∃ cs, cs = (Value.agg cs0).cells.toList := ⟨_, rfl⟩
  rw [← hcs] at hf0
  obtain ⟨xs, n, rfl, hx, hl, hlen, hf⟩ := DataW.trod_struct Tryz.underlying47 hf0
  have hc5 : Tryz.prog.cellsOf 47 = 5 := by kernel_rfl
  have er : reachBytes = 140737488351232 := by decide
  rw [hc5] at hl
  match cs, hl, xs, hlen with
  | [v0, v1, v2, v3, v4], _, [y0, y1, y2, y3, y4], _ =>
    have c0 : Tryz.prog.cellsOf 24 = 1 := by kernel_rfl
    have c1 : Tryz.prog.cellsOf 25 = 1 := by kernel_rfl
    have c2 : Tryz.prog.cellsOf 29 = 1 := by kernel_rfl
    have c3 : Tryz.prog.cellsOf 3 = 1 := by kernel_rfl
    have h0 : DataW.trod enc Tryz.prog W 0 (fun _ => true) true n 24 [v0] = some y0 := by have := hf 0 _ rfl; simpa [c0] using this
    have h1 : DataW.trod enc Tryz.prog W 0 (fun _ => true) true n 25 [v1] = some y1 := by have := hf 1 _ rfl; simpa [c1] using this
    have h2 : DataW.trod enc Tryz.prog W 0 (fun _ => true) true n 29 [v2] = some y2 := by have := hf 2 _ rfl; simpa [c2] using this
    have h3 : DataW.trod enc Tryz.prog W 0 (fun _ => true) true n 3 [v3] = some y3 := by have := hf 3 _ rfl; simpa [c3] using this
    have h4 : DataW.trod enc Tryz.prog W 0 (fun _ => true) true n 3 [v4] = some y4 := by have := hf 4 _ rfl; simpa [c3] using this
    simp only [Prod.mk.injEq] at hx
    obtain ⟨rfl, _⟩ := hx
    obtain ⟨n3, hn3, _, _⟩ := DataW.trod_int Tryz.underlying3 h3
    obtain ⟨n4, hn4, _, _⟩ := DataW.trod_int Tryz.underlying3 h4
    simp only [List.cons.injEq, and_true] at hn3 hn4
    subst hn3 hn4
    obtain ⟨ps, cs', s, e1, b1, b2, b3, b4⟩ := open_schema n _ y0.1 y0.2 h0 (fun k hk => hw k (by
      simp [DataW.weights, DataW.weightsEach, Tryz.underlying47]
      left
      exact hk))
    obtain ⟨pr, cr, l, e2, hrl⟩ := open_rowsF n _ y1.1 y1.2 h1 (fun k hk => hw k (by
      simp [DataW.weights, DataW.weightsEach, Tryz.underlying47]
      right; left
      exact hk))
    have hw2 : ∀ k ∈ y2.1.weights Tryz.prog 29, k ≤ reachBytes := fun k hk => hw k (by
      simp [DataW.weights, DataW.weightsEach, Tryz.underlying47]
      right; right; left
      exact hk)
    have hbyt : ∃ (r : Option Addr) (e : Nat) (b : List UInt8), v2 = .slice r b.length e ∧ At W r b ∧ b.length ≤ 140737488351232 ∧ b.length ≤ e := by
      have hsl := DataW.trod_slice Tryz.underlying29 h2
      rcases hsl with ⟨hcs2, _⟩ | ⟨a, len, cap, elems, rest, n', _, hcs2, hy, _, hlc, _, hel, _, _⟩
      · simp only [List.cons.injEq, and_true] at hcs2
        subst hcs2
        exact ⟨none, 0, [], rfl, .inl rfl, by simp, by simp⟩
      · simp only [List.cons.injEq, and_true] at hcs2
        subst hcs2
        obtain ⟨b, hb1, hb2, hb3, _, _⟩ := opened (enc := enc) (W := W) (d0 := y2.1) (p := y2.2) ⟨n, by simpa [Value.cells] using h2⟩
        refine ⟨some a, cap, b, by rw [hb1], hb2, ?_, by omega⟩
        have hy1 : y2.1 = .slice (elems.map (·.1)) (rest.map (·.1)) := by simpa using congrArg Prod.fst hy
        rw [hy1] at hw2
        have := hw2 (((elems.map (·.1)).length + (rest.map (·.1)).length) * Tryz.prog.bytesOf 5) (by simp [DataW.weights, Tryz.underlying29])
        rw [bytes8, er] at this
        simp only [List.length_map] at this
        omega
    obtain ⟨r, e, b, e3, g1, g2, g3⟩ := hbyt
    simp only [List.cons.injEq, and_true] at e1
    subst e1 e2 e3
    refine ⟨ps, cs', s, pr, cr, l, r, e, b, n3, n4, ?_, ⟨b1, b2, b3, b4⟩, hrl, g1, g2, g3⟩
    have e' : cs0.toList = [.slice ps s.length cs', .slice pr l.length cr, .slice r b.length e, .int .i64 n3, .int .i64 n4] := by simpa [Value.cells] using hcs.symm
    rw [← Array.toArray_toList (xs := cs0), e']
end
end Go.Proofs.YtpkbdnilakaakaaGreat

/- The rows of stage 11: no variable is listed (else as wip/crc/RowL.lean.t: Tie, Cards, what they give). -/
namespace Go.Proofs.YtpkbdnilakaakaaGreat
open Go.ChangeShapes Go.WideShapes Go.ChangeAt Go.RowKit

theorem laid_gives {W : World} (_ : laidMetH Tryz.prog [] W) : True := trivial
theorem door_met (os : Os) (args : Array Value) : laidMet Tryz.prog [] ((World.holding Tryz.prog os ⟨#[], #[], []⟩).forCall (fun _ _ => 0) ⟨#[], args, []⟩).memory :=
  laidMet_of_run' 8 (by kernel_rfl) (by kernel_rfl)
/-- a text's bytes, bounded by what the row's weights say -/
theorem str_sized {H : Type} {ts : List TypeId} {ds : List (DataW H)} {j : Nat} {t : TypeId} {s : ByteArray} (hsz : (DataW.weightsEach Tryz.prog ts ds).all (· ≤ reachBytes) = true) (ht : ts[j]? = some t) (hd : ds[j]? = some (.lit (.string s.data.toList))) : s.size ≤ 140737488351232 := by
  have := List.all_eq_true.1 hsz s.data.toList.length (DataW.weights_mem_each ht hd _ (by simp [DataW.weights]))
  have er : reachBytes = 140737488351232 := by decide
  rw [er] at this
  simpa using this
end Go.Proofs.YtpkbdnilakaakaaGreat

/- Package row's functions answer as batch asks. -/
namespace Go.Proofs.YtpkbdnilakaakaaGreat
open Go.RowKit
theorem rowsIn : RowsIn := ⟨fun s p c vs q d w h1 h2 => encodeRK s p c vs q d w h1 h2, fun s p c l q d a w h1 h2 h3 h4 h5 h6 => decodeRK s p c l q d a w h1 h2 h3 h4 h5 h6⟩
end Go.Proofs.YtpkbdnilakaakaaGreat

/- The law's own alike(a, b); the document's Bytes, Size. -/
namespace Go.Proofs.YtpkbdnilakaakaaGreat
open Go.RowKit

attribute [local go_sem] run_store_float

set_option maxRecDepth 100000 in
set_option maxHeartbeats 2000000 in
theorem alikeRowsK (l k : List (List V)) (hlk : k.length = l.length) (hs : ∀ j (h1 : j < l.length) (h2 : j < k.length), V.sameL l[j] k[j] = true) (p q : Option Addr) (c d : Nat) (w : World) (hp : RowsL w p c l) (hq : RowsL w q d k) :
    Calls Tryz.prog 15 #[.slice p l.length c, .slice q k.length d] w fun e w' => e = .returned (.bool true) ∧ Below w.heap.size w w' := by
  have hlen := hp.len
  have HP := Lib.hid hp
  have HQ := Lib.hid hq
  have HSm := Lib.hid hs
  rw [hlk]
  have hk := Lib.hid hlk
  clear hp hq hs hlk
  go_enter Tryz.func15, Tryz.ntmps15
  go_wp2
  go_loopw [5] (fun v5 wr => ∃ j : Nat, j ≤ l.length ∧ v5 = .int .i64 j ∧ Hid (Below w.heap.size w wr)) (fun v5 _ => l.length - (intOf v5).toNat)
  case atStart => exact ⟨0, by omega, rfl, Below.refl _ _⟩
  case round =>
    obtain ⟨j, hj, rfl, HL⟩ := hrel
    by_cases hlt : j < l.length
    · have hlt2 : j < k.length := by rw [hk.out]; exact hlt
      obtain ⟨b1, o1, q1, d1, rfl, hb1, hc1, hr1⟩ := HP.out.rows j hlt
      obtain ⟨b2, o2, q2, d2, rfl, hb2, hc2, hr2⟩ := HQ.out.rows j hlt2
      have a1 := cell_on HL.out hc1
      have a2 := cell_on HL.out hc2
      have HC : Hid (∀ w', Below w.heap.size w w' → Calls Tryz.prog 27 #[.agg #[.slice q1 l[j].length d1], .agg #[.slice q2 k[j].length d2]] w' fun e w'' => e = .returned (.bool true) ∧ Below w'.heap.size w' w'') := fun w' hb => by
        have h := refSameRow6 l[j] k[j] w' q1 q2 d1 d2 (hr1.on hb).items.2.2 (hr2.on hb).items.2.2 hr1.items.1
        rw [HSm.out j hlt hlt2] at h
        exact h
      have hj1 : (j : Int) < (l.length : Int) := by omega
      have HBw := Lib.hid HL.out
      clear hc1 hc2 hr1 hr2 HL
      go_wp2_with fail
      go_region_held3 (fun w' => w'.cell? ⟨b1, o1 + j, none⟩ = some (.slice q1 l[j].length d1) ∧ w'.cell? ⟨b2, o2 + j, none⟩ = some (.slice q2 k[j].length d2)) (go_keep) (first
        | (go_at_call 27; refine (HC.out _ (below_drewN HBw.out _)).mono ?_; rintro e w4 ⟨rfl, hb4⟩; have hb5 := below_via (w := wr) hb4 (by rfl) (by rfl) (by rfl) (by rfl); have z1 := cell_on hb5 a1; have z2 := cell_on hb5 a2; have HB4 := Lib.hid hb5; clear hb4 hb5)
        | fail)
      clear z1 z2 a1 a2
      have HN := Lib.hid (HBw.out.trans (HB4.out.mono HBw.out.size))
      clear HB4
      go_wp2
      go_roundw
      case rel => exact ⟨j + 1, by omega, by go_num, HN⟩
      case measure => simp [intOf]; omega
    · have hjn : ¬ (j : Int) < (l.length : Int) := by omega
      clear hlt
      go_wp2
      go_ret
      exact ⟨rfl, HL.out⟩

set_option maxRecDepth 100000 in
set_option maxHeartbeats 2000000 in
theorem refBytesB (s : List Col) (p : Option Addr) (c : Nat) (l : List (List V)) (q : Option Addr) (d : Nat) (w : World) (hS : SchL w p c s) (hL : RowsL w q d l) :
    Calls Tryz.prog 12 #[.agg #[.slice p s.length c], .slice q l.length d] w (Told w (Bt.err s l) (Bt.out s l)) := by
  have hlen := hL.len
  obtain ⟨W0, hW0⟩ : ∃ W0, W0 = w.alloc (.cells #[.slice p s.length c] 24) := ⟨_, rfl⟩
  have hb0 : Below w.heap.size w W0 := by rw [hW0]; exact (Below.refl _ _).alloc (Nat.le_refl _) _
  have hk0 : W0.heap[w.heap.size]? = some (.cells #[.slice p s.length c] 24 (0, 0)) := by rw [hW0]; exact blk_new w _
  have hS0 := hS.on hb0
  have HC := Lib.hid (refCheck7 s p c W0 hS0.len hS0.cap hS0.cols hS0.wf)
  obtain ⟨R, hR⟩ : ∃ R, R = Bt.err s l := ⟨_, rfl⟩
  obtain ⟨O, hO⟩ : ∃ O, O = Bt.out s l := ⟨_, rfl⟩
  rw [← hR, ← hO]
  unfold Bt.out at hO
  rw [← hR] at hO
  have hR0 := hR
  unfold Bt.err Bt.numErr at hR
  obtain ⟨er, her⟩ : ∃ er, er = Sch.err s := ⟨_, rfl⟩
  rw [← her] at HC hR
  have HRR := Lib.hid hR
  have HO := Lib.hid hO
  have HB0 := Lib.hid hb0
  have HW := Lib.hid hW0
  have HK := Lib.hid hk0
  have HS := Lib.hid hS
  have HL := Lib.hid hL
  have HR0 := Lib.hid hR0
  clear hb0 hW0 hR hO her hS0 hS hL hk0 hR0
  go_enter Tryz.func12, Tryz.ntmps12
  go_wp2_with fail
  rw [← HW.out]
  refine HC.out.mono ?_
  rintro e w1 ⟨rfl, hb1⟩
  have HB1 := Lib.hid (HB0.out.trans (hb1.mono HB0.out.size))
  have n0 := boxed_cell (blk_on HK.out hb1 (blk_lt HK.out))
  have HK1 := Lib.hid (blk_on HK.out hb1 (blk_lt HK.out))
  clear hb1 HC HW HK
  by_cases h0 : er ≠ 0
  · have g0 : ((er : Int) != 0) = true := bne_t (by omega)
    have HE : Hid (R = er) := by
      show _ = _
      rw [HRR.out, if_pos h0, if_pos h0]
    have HOn : Hid (O = []) := by show _ = _; rw [HO.out, HE.out, if_neg h0]
    clear HRR h0 HO
    go_wp2
    go_ret2
    exact ⟨none, 0, by rw [HOn.out, HE.out]; rfl, by rw [HOn.out]; exact .inl rfl, by rw [HOn.out]; exact Nat.le_refl _, HB1.out⟩
  have g0 : ((er : Int) != 0) = false := bne_f (by omega)
  have HR1 := Lib.hid HRR.out
  rw [if_neg h0] at HR1
  clear HRR h0
  by_cases h1 : l.length = 0
  · have g1 : ((l.length : Int) == 0) = true := by rw [h1]; rfl
    have HE : Hid (R = 4) := by
      show _ = _
      rw [HR1.out, if_pos (show (l.length : Int) < 1 by omega), if_pos (by decide)]
    have HOn : Hid (O = []) := by show _ = _; rw [HO.out, HE.out, if_neg (by decide)]
    clear HR1 HO
    go_wp2
    go_ret2
    exact ⟨none, 0, by rw [HOn.out, HE.out]; rfl, by rw [HOn.out]; exact .inl rfl, by rw [HOn.out]; exact Nat.le_refl _, HB1.out⟩
  have g1 : ((l.length : Int) == 0) = false := by rw [beq_eq_false_iff_ne]; omega
  rw [if_neg (show ¬ (l.length : Int) < 1 by omega)] at HR1
  by_cases h2 : 64 < l.length
  · have g2 : (64 : Int) < (l.length : Int) := by omega
    have HE : Hid (R = 3) := by
      show _ = _
      rw [HR1.out, if_pos (show 64 < (l.length : Int) by omega), if_pos (by decide)]
    have HOn : Hid (O = []) := by show _ = _; rw [HO.out, HE.out, if_neg (by decide)]
    clear HR1 HO
    go_wp2
    go_ret2
    exact ⟨none, 0, by rw [HOn.out, HE.out]; rfl, by rw [HOn.out]; exact .inl rfl, by rw [HOn.out]; exact Nat.le_refl _, HB1.out⟩
  have g2 : ¬ (64 : Int) < (l.length : Int) := by omega
  rw [if_neg g2, if_neg (show ¬ (0 : Nat) ≠ 0 by simp)] at HR1
  go_wp2
  go_loopw [7, 8] (fun v7 v8 wr => ∃ (i : Nat) (q7 : Option Addr) (n7 c7 : Nat), i ≤ l.length ∧ v8 = .int .i64 i ∧ v7 = .slice q7 n7 c7 ∧ n7 ≤ 65536 ∧ Hid (n7 = (Bt.bytes (l.take i)).length ∧ Has wr w1.heap.size (.slice q7 n7 c7) (Bt.bytes (l.take i)) ∧ (∀ j (h : j < l.length), j < i → Rw.err s l[j] = 0) ∧ Below w1.heap.size w1 wr)) (fun _ v8 _ => l.length - (intOf v8).toNat)
  case atStart => exact ⟨0, none, 0, 0, by omega, rfl, rfl, by omega, rfl, has_nil _ _, fun j _ h => by omega, Below.refl _ _⟩
  case round =>
    clear n0
    obtain ⟨i, q7, n7, c7, hi, rfl, rfl, hn7, HK2⟩ := hrel
    have hbw := HB1.out.trans (HK2.out.2.2.2.mono HB1.out.size)
    have n0 := boxed_cell (blk_on HK1.out HK2.out.2.2.2 (blk_lt HK1.out))
    by_cases hlt : i < l.length
    · have hlt' : (i : Int) < (l.length : Int) := by omega
      obtain ⟨b, o, qr, dr, rfl, hbl, hc, hRw⟩ := HL.out.rows i hlt
      have a1 := cell_on hbw hc
      have HE : Hid (∀ w', Below w.heap.size w w' → Calls Tryz.prog 25 #[.agg #[.slice p s.length c], .agg #[.slice qr l[i].length dr]] w' (EncR w' (Rw.err s l[i]) (Rw.bytes l[i]))) := fun w' hb => by
        have hs := HS.out.on hb
        have hr := (hRw.on hb).items
        exact refEncode8 s p c l[i] qr dr w' hs.len hs.cap hs.cols hs.wf hr.2.2 hRw.2 hr.1
      obtain ⟨ei, hei⟩ : ∃ ei, ei = Rw.err s l[i] := ⟨_, rfl⟩
      obtain ⟨bi, hbi⟩ : ∃ bi, bi = Rw.bytes l[i] := ⟨_, rfl⟩
      rw [← hei, ← hbi] at HE
      have HEi := Lib.hid hei
      have HBi := Lib.hid hbi
      have HBw := Lib.hid hbw
      clear hei hbi hc hRw hbw
      by_cases hez : ei = 0
      · have hbl2 : bi.length ≤ 1024 := by rw [HBi.out]; exact (Rw.err_open (HEi.out.symm.trans hez)).2.2.2
        have HE2 : Hid (∀ w', Below w.heap.size w w' → Calls Tryz.prog 25 #[.agg #[.slice p s.length c], .agg #[.slice qr l[i].length dr]] w' fun e w'' => ∃ q cap, e = .returned (.tuple #[.slice q bi.length cap, .int .i64 0]) ∧ At w'' q bi ∧ Below w'.heap.size w' w'') := fun w' hb => by
          refine (HE.out w' hb).mono ?_
          rintro e w'' (⟨_, q', cap', rfl, hh, hb'⟩ | ⟨hne, _⟩)
          · obtain ⟨q2, cap2, he2, hat2, _⟩ := hh.at
            injection he2 with e1 e2 e3
            subst e1 e3
            exact ⟨q', cap', by rw [← e2], hat2, hb'⟩
          · exact absurd hez hne
        clear HE
        go_wp2_with fail
        go_region_held3 (fun w' => w'.cell? ⟨w.heap.size, 0, none⟩ = some (.slice p s.length c) ∧ w'.cell? ⟨b, o + i, none⟩ = some (.slice qr l[i].length dr)) (go_keep) (first
          | (go_at_call 25; refine (HE2.out _ (below_drewN HBw.out _)).mono ?_; rintro e w4 ⟨q4, cap4, rfl, hat4, hb4⟩; have hb5 := below_via (w := wr) hb4 (by rfl) (by rfl) (by rfl) (by rfl); have z1 := cell_on hb5 n0; have z2 := cell_on hb5 a1; have HB4 := Lib.hid hb5; have HA4 := Lib.hid hat4; clear hb4 hb5 hat4)
          | fail)
        have HH4 := Lib.hid (HK2.out.2.1.on HB4.out)
        have HB14 := Lib.hid (HK2.out.2.2.2.trans (HB4.out.mono HK2.out.2.2.2.size))
        have hs4 := HB14.out.size
        have hn := HK2.out.1
        have HKe := Lib.hid HK2.out.2.2.1
        obtain ⟨xs, hxs⟩ : ∃ xs, xs = Bt.bytes (l.take i) := ⟨_, rfl⟩
        rw [← hxs] at HH4 hn
        have HXs := Lib.hid hxs
        subst hn
        clear z1 z2 a1 n0 HK2 HE2 hxs
        go_wp2_with (first
          | (at_builtin
             refine wp_ontoL HH4.out HA4.out (by omega) hs4 rfl rfl rfl rfl rfl ?_
             intro ys q5 cap5 W5 HY hh5 ha5 _
             have HH5 := Lib.hid hh5
             have HB5 := Lib.hid (aside_low ha5 HH4.out hs4)
             clear hh5 ha5)
          | fail)
        go_roundw
        case rel =>
          have hy : ys = Bt.bytes (l.take (i + 1)) := by rw [HY.out, Bt.bytes_take l i hlt, HXs.out, HBi.out]
          have hall : ∀ j (h : j < l.length), j < i + 1 → Rw.err s l[j] = 0 := fun j hj hji => by
            by_cases hje : j = i
            · subst hje; exact HEi.out.symm.trans hez
            · exact HKe.out j hj (by omega)
          refine ⟨i + 1, q5, ys.length, cap5, by omega, by go_num, rfl, ?_, ?_⟩
          · have h1 := Bt.bytes_bound (Bt.rowsErr_take (i + 1) hall)
            have h3 : (l.take (i + 1)).length ≤ l.length := by rw [List.length_take]; omega
            rw [hy]
            omega
          · show _ ∧ _
            rw [← hy]
            exact ⟨rfl, HH5.out, hall, HB14.out.trans HB5.out⟩
        case measure => simp [intOf]; omega
      · have HE2 : Hid (∀ w', Below w.heap.size w w' → Calls Tryz.prog 25 #[.agg #[.slice p s.length c], .agg #[.slice qr l[i].length dr]] w' fun e w'' => e = .returned (.tuple #[.slice none 0 0, .int .i64 ei]) ∧ Below w'.heap.size w' w'') := fun w' hb => by
          refine (HE.out w' hb).mono ?_
          rintro e w'' (⟨hz, _⟩ | ⟨_, rfl, hb'⟩)
          · exact absurd hz hez
          · exact ⟨rfl, hb'⟩
        have g3 : ((ei : Int) != 0) = true := bne_t (by omega)
        have HRe : Hid (R = ei) := by
          show _ = _
          have := Bt.rowsErr_at i hlt HK2.out.2.2.1 (by rw [← HEi.out]; exact hez)
          rw [← HEi.out] at this
          rw [HR1.out, this, if_pos hez]
        have HOn : Hid (O = []) := by show _ = _; rw [HO.out, HRe.out, if_neg hez]
        clear HE HR1 HO HEi hez
        go_wp2_with fail
        go_region_held3 (fun w' => w'.cell? ⟨w.heap.size, 0, none⟩ = some (.slice p s.length c) ∧ w'.cell? ⟨b, o + i, none⟩ = some (.slice qr l[i].length dr)) (go_keep) (first
          | (go_at_call 25; refine (HE2.out _ (below_drewN HBw.out _)).mono ?_; rintro e w4 ⟨rfl, hb4⟩; have hb5 := below_via (w := wr) hb4 (by rfl) (by rfl) (by rfl) (by rfl); have z1 := cell_on hb5 n0; have z2 := cell_on hb5 a1; have HB4 := Lib.hid hb5; clear hb4 hb5)
          | fail)
        clear z1 z2 a1 n0
        have HBF := Lib.hid (HBw.out.trans (HB4.out.mono HBw.out.size))
        go_wp2
        go_ret2
        exact ⟨none, 0, by rw [HOn.out, HRe.out]; rfl, by rw [HOn.out]; exact .inl rfl, by rw [HOn.out]; exact Nat.le_refl _, HBF.out⟩
    · have hie : i = l.length := by omega
      subst hie
      have hn := HK2.out.1
      have HH := Lib.hid HK2.out.2.1
      rw [List.take_length] at hn HH
      have hz : Bt.rowsErr s l = 0 := Bt.rowsErr_all (fun j hj => HK2.out.2.2.1 j hj hj)
      rw [hz, if_neg (show ¬ (0 : Nat) ≠ 0 by simp)] at HR1
      obtain ⟨bs, hbs⟩ : ∃ bs, bs = Bt.bytes l := ⟨_, rfl⟩
      rw [← hbs] at HR1 HO HH hn
      subst hn
      have HBw := Lib.hid hbw
      clear hbs hz hbw n0
      by_cases hlong : 2048 < bs.length
      · have g4 : (2048 : Int) < (bs.length : Int) := by omega
        have HE : Hid (R = 2) := by show _ = _; rw [HR1.out, if_pos hlong]
        have HOn : Hid (O = []) := by show _ = _; rw [HO.out, HE.out, if_neg (by decide)]
        clear HR1 HO
        go_wp2
        go_ret2
        exact ⟨none, 0, by rw [HOn.out, HE.out]; rfl, by rw [HOn.out]; exact .inl rfl, by rw [HOn.out]; exact Nat.le_refl _, HBw.out⟩
      · have g4 : ¬ (2048 : Int) < (bs.length : Int) := by omega
        have HE : Hid (R = 0) := by show _ = _; rw [HR1.out, if_neg hlong]
        have HOn : Hid (O = bs) := by show _ = _; rw [HO.out, HE.out, if_pos rfl]
        obtain ⟨q9, c9, he9, hat9, hc9⟩ := HH.out.at
        injection he9 with e1 _ e3
        subst e1 e3
        clear HR1 HO
        go_wp2
        go_ret2
        exact ⟨q7, c7, by rw [HOn.out, HE.out]; rfl, by rw [HOn.out]; exact hat9, by rw [HOn.out]; exact hc9, HBw.out⟩

set_option maxRecDepth 100000 in
set_option maxHeartbeats 1000000 in
theorem refSizeB (s : List Col) (p : Option Addr) (c : Nat) (l : List (List V)) (q : Option Addr) (d : Nat) (w : World) (hS : SchL w p c s) (hL : RowsL w q d l) :
    Calls Tryz.prog 8 #[.agg #[.slice p s.length c], .slice q l.length d] w fun e w' => e = .returned (.tuple #[.int .i64 ((Bt.out s l).length : Nat), .int .i64 (Bt.err s l : Nat)]) ∧ Below w.heap.size w w' := by
  obtain ⟨W0, hW0⟩ : ∃ W0, W0 = w.alloc (.cells #[.slice p s.length c] 24) := ⟨_, rfl⟩
  have hb0 : Below w.heap.size w W0 := by rw [hW0]; exact (Below.refl _ _).alloc (Nat.le_refl _) _
  have HJ := Lib.hid (refBytesB s p c l q d W0 (hS.on hb0) (hL.on hb0))
  obtain ⟨R, hR⟩ : ∃ R, R = Bt.err s l := ⟨_, rfl⟩
  obtain ⟨O, hO⟩ : ∃ O, O = Bt.out s l := ⟨_, rfl⟩
  rw [← hR, ← hO] at HJ ⊢
  have HB := Lib.hid hb0
  have HW := Lib.hid hW0
  clear hb0 hW0 hR hO
  go_enter Tryz.func8, Tryz.ntmps8
  go_wp2_with fail
  rw [← HW.out]
  refine HJ.out.mono ?_
  rintro e w1 ⟨q1, c1, rfl, -, -, hb1⟩
  have HB1 := Lib.hid (HB.out.trans (hb1.mono HB.out.size))
  clear hb1
  go_wp2
  go_ret2
  exact ⟨rfl, HB1.out⟩
end Go.Proofs.YtpkbdnilakaakaaGreat

/- BatchSizes: the walk. -/
namespace Go.Proofs.YtpkbdnilakaakaaGreat
open Go.RowKit

attribute [local go_sem] run_store_float

theorem Bt.pack_err (s : List Col) (l : List (List V)) : (Bt.pack s l).err = Bt.err s l := by
  unfold Bt.pack
  split
  · next h => rw [(Blk.pack_back (Bt.err_open h).2.2).1, h]
  · rfl
theorem Bt.pack_len (s : List Col) (l : List (List V)) : (Bt.err s l = 0 → 0 < (Bt.pack s l).out.length) ∧ (Bt.err s l ≠ 0 → (Bt.pack s l).out = []) ∧ (Bt.pack s l).out.length ≤ 2049 := by
  unfold Bt.pack
  split
  · next h =>
    have h2 := (Bt.err_open h).2.2
    have h3 := (Blk.pack_back h2).2.2
    exact ⟨fun _ => Bt.pack_pos _ h2, fun hc => absurd h hc, by omega⟩
  · next h => exact ⟨fun hc => absurd hc h, fun _ => rfl, by simp⟩

set_option maxRecDepth 100000 in
set_option maxHeartbeats 2000000 in
theorem sizes11 (HR : RowsIn) (s : List Col) (p : Option Addr) (c : Nat) (l : List (List V)) (q : Option Addr) (d : Nat) (w : World) (hS : SchL w p c s) (hL : RowsL w q d l) :
    Calls Tryz.prog 3 #[.agg #[.slice p s.length c], .slice q l.length d] w fun e w' => e = .returned (.bool true) ∧ Below w.heap.size w w' := by
  obtain ⟨W, hW⟩ : ∃ W, W = w.alloc (.cells #[.slice p s.length c] 24) := ⟨_, rfl⟩
  have hbW : Below w.heap.size w W := by rw [hW]; exact (Below.refl _ _).alloc (Nat.le_refl _) _
  have hblk : W.heap[w.heap.size]? = some (.cells #[.slice p s.length c] 24 (0, 0)) := by rw [hW]; exact blk_new w _
  have HZ := Lib.hid (sizeK HR s p c l q d W (hS.on hbW) (hL.on hbW))
  have HRf : Hid (∀ w', Below W.heap.size W w' → Calls Tryz.prog 8 #[.agg #[.slice p s.length c], .slice q l.length d] w' fun e w'' => e = .returned (.tuple #[.int .i64 ((Bt.out s l).length : Nat), .int .i64 (Bt.err s l : Nat)]) ∧ Below w'.heap.size w' w'') := fun w' hb => refSizeB s p c l q d w' ((hS.on hbW).on hb) ((hL.on hbW).on hb)
  have HPk : Hid (∀ w', Below W.heap.size W w' → Calls Tryz.prog 9 #[.agg #[.slice p s.length c], .slice q l.length d] w' (ResV w' (Bt.pack s l))) := fun w' hb => packBK HR s p c l q d w' ((hS.on hbW).on hb) ((hL.on hbW).on hb)
  have hpe := Bt.pack_err s l
  have hpl := Bt.pack_len s l
  obtain ⟨R, hR⟩ : ∃ R, R = Bt.err s l := ⟨_, rfl⟩
  obtain ⟨P, hP⟩ : ∃ P, P = Bt.pack s l := ⟨_, rfl⟩
  obtain ⟨m, hm⟩ : ∃ m, m = (Bt.out s l).length := ⟨_, rfl⟩
  rw [← hP] at HPk hpe hpl
  rw [← hR, ← hm] at HZ HRf
  rw [← hR] at hpe hpl
  have HPe := Lib.hid hpe
  have HPl := Lib.hid hpl
  have HB := Lib.hid hbW
  have HW := Lib.hid hW
  have HBlk := Lib.hid hblk
  have HRI := Lib.hid HR
  clear hpe hpl hR hP hm hbW hW hblk HR
  go_enter Tryz.func3, Tryz.ntmps3
  go_wp2_with fail
  rw [← HW.out]
  refine HZ.out.mono ?_
  rintro e w1 ⟨rfl, hb1⟩
  have n0 := boxed_cell (blk_on HBlk.out hb1 (blk_lt HBlk.out))
  have HB1 := Lib.hid hb1
  clear hb1 HZ
  go_wp2_with fail
  refine (HRf.out w1 HB1.out).mono ?_
  rintro e w2 ⟨rfl, hb2⟩
  have hb2' := HB1.out.trans (hb2.mono HB1.out.size)
  have n0 := boxed_cell (blk_on HBlk.out hb2' (blk_lt HBlk.out))
  have HB2 := Lib.hid hb2'
  clear hb2 hb2' HRf
  go_wp2_with fail
  refine (HPk.out w2 HB2.out).mono ?_
  rintro e w3 ⟨q3, m3, c3, rfl, hm3, -, hb3⟩
  subst hm3
  rw [HPe.out]
  have HB3 := Lib.hid (HB2.out.trans (hb3.mono HB2.out.size))
  clear hb3 HPk
  go_wp2_with fail
  refine (live11 HRI.out w3).mono ?_
  rintro e w4 ⟨rfl, hb4⟩
  have HBF := Lib.hid (HB.out.trans ((HB3.out.trans (hb4.mono HB3.out.size)).mono HB.out.size))
  clear hb4 n0
  by_cases h0 : R = 0
  · have g0 : ((R : Int) == 0) = true := by rw [h0]; rfl
    have g1 : 0 < P.out.length := HPl.out.1 h0
    have g2 : (0 : Int) < (P.out.length : Int) := by omega
    clear HPl h0
    go_wp2
    go_ret
    exact ⟨by simp, HBF.out⟩
  · have g0 : ((R : Int) == 0) = false := by rw [beq_eq_false_iff_ne]; omega
    have e1 : P.out = [] := HPl.out.2.1 h0
    rw [e1]
    clear HPl h0 e1
    go_wp2
    go_ret
    exact ⟨by simp, HBF.out⟩
end Go.Proofs.YtpkbdnilakaakaaGreat

/- The document's Unpack. -/
namespace Go.Proofs.YtpkbdnilakaakaaGreat
open Go.RowKit

attribute [local go_sem] run_store_float

/-- append of a row, in the walk -/
theorem wp_rowB {B : Nat} {v : Value} {ys : List (List V)} {w : World} (h : RowsB w B v ys) (hB : B ≤ w.heap.size) (y : List V) (q : Option Addr) (d ad : Nat) (hblk : w.heap[ad]? = some (.cells #[.slice q y.length d] 41 (0, 0))) (hn : ys.length ≤ 1000000)
    (hy : ROwn w (fun k => B ≤ k ∧ k < w.heap.size ∧ v.ownBlock ≠ some k) q d y)
    {ops : Array Oper} {rest : List Oper} {o : Oper} {a : Act} {Q : Exit → Act → World → Prop} {yy x : Operand}
    (ht : o.type = 25) (hg : o.guard = none) (hop : o.op = Op.call { callee := Callee.builtin Builtin.append, args := #[yy, x], argTypes := #[25, 25] })
    (hs : a.eval yy = v) (hx : a.eval x = .slice (some ⟨ad, 0, none⟩) 1 1)
    (hK : ∀ zs g cap W, Hid (zs = ys ++ [y]) → RowsB W B (.slice (some ⟨g, 0, none⟩) zs.length cap) zs → Aside (fun k => v.ownBlock = some k) w W → wpList Tryz.prog ops Q rest (a.put o.dst (.slice (some ⟨g, 0, none⟩) zs.length cap)) W) :
    wpList Tryz.prog ops Q (o :: rest) a w := by
  obtain ⟨g, cap, W, hr, hm, ha⟩ := rows_run h hB y q d ad hblk hn hy
  have hr' : AppRun Tryz.prog 25 25 o.type v (.slice (some ⟨ad, 0, none⟩) 1 1) w (.slice (some ⟨g, 0, none⟩) (ys ++ [y]).length cap) W := by rw [ht]; exact hr
  exact wpList_append_ran hr' hg hop hs hx (hK _ g cap W (Lib.hid rfl) hm ha)

set_option maxRecDepth 100000 in
set_option maxHeartbeats 4000000 in
theorem refUnpackB (s : List Col) (p : Option Addr) (c : Nat) (b : List UInt8) (q : Option Addr) (d : Nat) (n : Int) (w : World) (hS : SchL w p c s) (hbl : b.length ≤ 140737488351232) (hbd : b.length ≤ d) (hat : At w q b) :
    Calls Tryz.prog 11 #[.agg #[.slice p s.length c], .slice q b.length d, .int .i64 n] w (UnpA w (Bt.unpack s b n)) := by
  obtain ⟨W0, hW0⟩ : ∃ W0, W0 = w.alloc (.cells #[.slice p s.length c] 24) := ⟨_, rfl⟩
  have hb0 : Below w.heap.size w W0 := by rw [hW0]; exact (Below.refl _ _).alloc (Nat.le_refl _) _
  have hk0 : W0.heap[w.heap.size]? = some (.cells #[.slice p s.length c] 24 (0, 0)) := by rw [hW0]; exact blk_new w _
  have hS0 := hS.on hb0
  have HC := Lib.hid (refCheck7 s p c W0 hS0.len hS0.cap hS0.cols hS0.wf)
  obtain ⟨R, hR⟩ : ∃ R, R = Bt.unpack s b n := ⟨_, rfl⟩
  rw [← hR]
  unfold Bt.unpack Bt.numErr at hR
  obtain ⟨er, her⟩ : ∃ er, er = Sch.err s := ⟨_, rfl⟩
  rw [← her] at HC hR
  have HRR := Lib.hid hR
  have HB0 := Lib.hid hb0
  have HW := Lib.hid hW0
  have HK := Lib.hid hk0
  have HS := Lib.hid hS
  have HA := Lib.hid hat
  clear hb0 hW0 hR her hS0 hS hk0 hat
  go_enter Tryz.func11, Tryz.ntmps11
  go_wp2_with fail
  rw [← HW.out]
  refine HC.out.mono ?_
  rintro e w1 ⟨rfl, hb1⟩
  have HB1 := Lib.hid (HB0.out.trans (hb1.mono HB0.out.size))
  have HK1 := Lib.hid (blk_on HK.out hb1 (blk_lt HK.out))
  clear hb1 HC HW HK
  by_cases h0 : er ≠ 0
  · have g0 : ((er : Int) != 0) = true := bne_t (by omega)
    have HE : Hid (R = .error er) := by
      show _ = _
      rw [HRR.out]
      simp only [if_pos h0]
    clear HRR h0
    go_wp2
    go_ret2
    rw [HE.out]
    exact ⟨rfl, HB1.out⟩
  have g0 : ((er : Int) != 0) = false := bne_f (by omega)
  have HR1 := Lib.hid HRR.out
  simp only [if_neg h0] at HR1
  clear HRR h0
  by_cases h1 : n < 1
  · have HE : Hid (R = .error 4) := by
      show _ = _
      rw [HR1.out, if_pos h1, if_pos (by decide)]
    clear HR1
    go_wp2
    go_ret2
    rw [HE.out]
    exact ⟨rfl, HB1.out⟩
  simp only [if_neg h1] at HR1
  by_cases h2 : 64 < n
  · have HE : Hid (R = .error 3) := by
      show _ = _
      rw [HR1.out, if_pos h2, if_pos (by decide)]
    clear HR1
    go_wp2
    go_ret2
    rw [HE.out]
    exact ⟨rfl, HB1.out⟩
  simp only [if_neg h2] at HR1
  rw [if_neg (show ¬ (0 : Nat) ≠ 0 by simp)] at HR1
  obtain ⟨nn, hnn⟩ : ∃ nn : Nat, n = nn := ⟨n.toNat, by omega⟩
  subst hnn
  rw [Int.toNat_natCast] at HR1
  have hn64 : nn ≤ 64 := by omega
  have HU := Lib.hid (refUnpackK b q d w1 hbl hbd (HA.out.on HB1.out))
  have hul := (Blk.unpack_len b).1
  obtain ⟨U, hU⟩ : ∃ U, U = Blk.unpack b := ⟨_, rfl⟩
  rw [← hU] at HU HR1 hul
  clear hU
  go_wp2_with fail
  refine HU.out.mono ?_
  rintro e w2 ⟨q2, m2, c2, rfl, hm2, hh2, hb2⟩
  subst hm2
  have HB2 := Lib.hid (HB1.out.trans (hb2.mono HB1.out.size))
  have HK2 := Lib.hid (blk_on HK1.out hb2 (blk_lt HK1.out))
  have hcap2 := hh2.at
  obtain ⟨qx, cx, hex, hatx, hcx⟩ := hcap2
  injection hex with e1 _ e3
  subst e1 e3
  have HAt2 := Lib.hid hatx
  clear hb2 hh2 HU HK1 hatx
  by_cases h3 : U.err ≠ 0
  · have g1 : ((U.err : Int) != 0) = true := bne_t (by omega)
    have HE : Hid (R = .error U.err) := by show _ = _; rw [HR1.out, if_pos h3]
    clear HR1 h3
    go_wp2
    go_ret2
    rw [HE.out]
    exact ⟨rfl, HB2.out⟩
  have g1 : ((U.err : Int) != 0) = false := bne_f (by omega)
  have HR2 : Hid (R = Bt.whole s U.out nn) := by show _ = _; rw [HR1.out, if_neg h3]
  clear HR1 h3
  go_wp2
  go_loopw [11, 12, 13] (fun v11 v12 v13 wr => ∃ (i a : Nat) (ys : List (List V)) (q11 : Option Addr) (n11 c11 : Nat), i ≤ nn ∧ v13 = .int .i64 i ∧ v12 = .int .i64 a ∧ v11 = .slice q11 n11 c11 ∧ a ≤ U.out.length ∧ Hid (Bt.rows s U.out i 0 = .ok (ys, a) ∧ ys.length = i ∧ RowsB wr w2.heap.size (.slice q11 n11 c11) ys ∧ Below w2.heap.size w2 wr)) (fun _ _ v13 _ => nn - (intOf v13).toNat)
  case atStart => exact ⟨0, 0, [], none, 0, 0, by omega, rfl, rfl, rfl, by omega, rfl, rfl, rowsB_nil _ _, Below.refl _ _⟩
  case round =>
    obtain ⟨i, a, ys, q11, n11, c11, hi, rfl, rfl, rfl, ha, HQ⟩ := hrel
    have hbw := HB2.out.trans (HQ.out.2.2.2.mono HB2.out.size)
    have n0 := boxed_cell (blk_on HK2.out HQ.out.2.2.2 (blk_lt HK2.out))
    by_cases hlt : i < nn
    · have hlt' : (i : Int) < (nn : Int) := by omega
      have hS0 := HS.out.on hbw
      have hD := refDecode8 s p c U.out q2 c2 a (by omega) hcx wr hS0.len hS0.cap hS0.cols hS0.wf (HAt2.out.on HQ.out.2.2.2) (by omega) (by omega)
      have hsn := Bt.rows_snoc i 0 ys a HQ.out.1
      have HBw := Lib.hid hbw
      cases hrd : Rw.read s U.out a with
      | error er2 =>
        rw [hrd] at hD hsn
        have hne := Rw.read_err hrd
        have g2 : ((er2 : Int) != 0) = true := bne_t (by omega)
        have HE : Hid (R = .error er2) := by
          show _ = _
          have := Bt.rows_stop (i + 1) 0 er2 (nn - (i + 1)) hsn
          rw [show i + 1 + (nn - (i + 1)) = nn by omega] at this
          rw [HR2.out]
          unfold Bt.whole
          rw [this]
        have HD := Lib.hid hD
        clear hD hsn hS0 hrd hbw HR2 hne
        go_wp2_with fail
        refine HD.out.mono ?_
        rintro e w3 ⟨rfl, hb3⟩
        have HBF := Lib.hid (HBw.out.trans (hb3.mono HBw.out.size))
        clear hb3 HD
        go_wp2
        go_ret2
        rw [HE.out]
        exact ⟨rfl, HBF.out.alloc HBF.out.size _⟩
      | ok pr =>
        obtain ⟨y, k⟩ := pr
        rw [hrd] at hD hsn
        have hk := (Rw.read_ok hrd).2.2.2.1
        have HD := Lib.hid hD
        have HSn := Lib.hid hsn
        clear hD hsn hS0 hrd hbw
        go_wp2_with fail
        refine HD.out.mono ?_
        rintro e w3 ⟨q3, c3, rfl, hown, hb3⟩
        obtain ⟨w4, hw4⟩ : ∃ w4, w4 = (w3.alloc (.cells #[.slice q3 y.length c3] 41)).alloc (.cells #[.slice q3 y.length c3] 41) := ⟨_, rfl⟩
        obtain ⟨k0, k1, hb34, hs34⟩ := al2 w3 (.cells #[.slice q3 y.length c3] 41) (.cells #[.slice q3 y.length c3] 41)
        rw [← hw4] at k0 k1 hb34 hs34
        have hbr4 := hb3.trans (hb34.mono hb3.size)
        have HRB4 := Lib.hid (HQ.out.2.2.1.on hbr4)
        have HB24 := Lib.hid (HQ.out.2.2.2.trans (hbr4.mono HQ.out.2.2.2.size))
        have hB4 := HB24.out.size
        have hsr := HQ.out.2.2.2.size
        have HO4 : Hid (ROwn w4 (fun k => w2.heap.size ≤ k ∧ k < w4.heap.size ∧ (Value.slice q11 n11 c11).ownBlock ≠ some k) q3 c3 y) := by
          refine (hown.under hb34 (fun k hk => hk.2)).mono (fun k hk => ⟨by omega, by have := hb34.size; omega, fun hc => ?_⟩)
          have := (HQ.out.2.2.1.lt k hc).2
          omega
        have HK1 := Lib.hid k1
        have HW4 := Lib.hid hw4
        have hy6 : ys.length ≤ 1000000 := by rw [HQ.out.2.1]; omega
        clear hown hb3 hw4 k0 k1 hb34 hs34 hbr4 HD n0
        go_wp2_with (first
          | (at_builtin
             rw [← HW4.out]
             refine wp_rowB HRB4.out hB4 y q3 c3 _ HK1.out hy6 HO4.out rfl rfl rfl rfl rfl ?_
             intro zs g5 cap5 W5 HY hh5 ha5
             have HH5 := Lib.hid hh5
             have HB5 := Lib.hid (ha5.below hB4 (fun k hk hc => by have := (HRB4.out.lt k hc).1; omega))
             clear hh5 ha5)
          | fail)
        go_roundw
        case rel =>
          refine ⟨i + 1, k, ys ++ [y], some ⟨g5, 0, none⟩, zs.length, cap5, by omega, by go_num, rfl, rfl, hk, HSn.out, by simp [HQ.out.2.1], ?_, HB24.out.trans HB5.out⟩
          have := HH5.out
          rw [HY.out] at this ⊢
          exact this
        case measure => simp [intOf]; omega
    · have hie : i = nn := by omega
      subst hie
      have HBw := Lib.hid hbw
      obtain ⟨qf, cf, hef, hcf⟩ := HQ.out.2.2.1.form
      injection hef with f1 f2 f3
      subst f1 f2 f3
      by_cases hend : a < U.out.length
      · have g2 : ((a : Int) != (U.out.length : Int)) = true := bne_t (by omega)
        have HE : Hid (R = .error 5) := by
          show _ = _
          rw [HR2.out]
          unfold Bt.whole
          rw [HQ.out.1]
          exact if_pos hend
        clear HR2 n0 hbw
        go_wp2
        go_ret2
        rw [HE.out]
        exact ⟨rfl, HBw.out⟩
      · have g2 : ((a : Int) != (U.out.length : Int)) = false := bne_f (by omega)
        have HE : Hid (R = .ok ys) := by
          show _ = _
          rw [HR2.out]
          unfold Bt.whole
          rw [HQ.out.1]
          exact if_neg hend
        have hs2 := HB2.out.size
        clear HR2 n0 hbw
        go_wp2
        go_ret2
        rw [HE.out]
        exact ⟨q11, c11, rfl, HQ.out.2.2.1.lower hs2, HBw.out⟩
end Go.Proofs.YtpkbdnilakaakaaGreat

/- BatchPacks: the walk. -/
namespace Go.Proofs.YtpkbdnilakaakaaGreat
open Go.RowKit

attribute [local go_sem] run_store_float

theorem sameL_fix : ∀ xs : List V, V.sameL (xs.map V.fix) xs = true
  | [] => rfl
  | x :: r => by rw [List.map_cons, V.sameL_cons, same_fixed, sameL_fix r]; rfl
theorem Bt.unpack_wf {s : List Col} {b : List UInt8} {n : Int} {l : List (List V)} (h : Bt.unpack s b n = .ok l) : (∀ x ∈ l, ∀ v ∈ x, v.wf) ∧ l.length * 24 ≤ 140737488351232 ∧ (l.length : Int) = n := by
  obtain ⟨h0, h1, h2⟩ := Bt.unpack_open h
  obtain ⟨b1, _, _, _, b5⟩ := Bt.whole_ok h2
  have hn := Bt.numErr_open h0
  exact ⟨fun x hx v hv => (b5 x hx v hv).2, by omega, by omega⟩
theorem Bt.pack_raw {s : List Col} {l : List (List V)} (h : Bt.err s l = 0) : Blk.unpack (Bt.pack s l).out = ⟨0, Bt.bytes l⟩ := by
  unfold Bt.pack
  rw [if_pos h]
  exact (Blk.pack_back (Bt.err_open h).2.2).2.1
theorem RowsL.wf {w : World} {p : Option Addr} {c : Nat} {l : List (List V)} (h : RowsL w p c l) : ∀ x ∈ l, ∀ v ∈ x, v.wf := fun x hx v hv => by
  obtain ⟨j, hj, rfl⟩ := List.mem_iff_getElem.1 hx
  obtain ⟨_, _, _, _, _, _, _, hr⟩ := h.rows j hj
  exact hr.2 v hv

set_option maxRecDepth 100000 in
set_option maxHeartbeats 4000000 in
theorem packs11 (HR : RowsIn) (s : List Col) (p : Option Addr) (c : Nat) (l : List (List V)) (q : Option Addr) (d : Nat) (w : World) (hS : SchL w p c s) (hL : RowsL w q d l) :
    Calls Tryz.prog 4 #[.agg #[.slice p s.length c], .slice q l.length d] w fun e w' => e = .returned (.bool true) ∧ Below w.heap.size w w' := by
  have hwf := hL.wf
  obtain ⟨W, hW⟩ : ∃ W, W = w.alloc (.cells #[.slice p s.length c] 24) := ⟨_, rfl⟩
  have hbW : Below w.heap.size w W := by rw [hW]; exact (Below.refl _ _).alloc (Nat.le_refl _) _
  have hblk : W.heap[w.heap.size]? = some (.cells #[.slice p s.length c] 24 (0, 0)) := by rw [hW]; exact blk_new w _
  have hSW := hS.on hbW
  have hLW := hL.on hbW
  have HPk : Hid (∀ w', Below W.heap.size W w' → Calls Tryz.prog 9 #[.agg #[.slice p s.length c], .slice q l.length d] w' (ResV w' (Bt.pack s l))) := fun w' hb => packBK HR s p c l q d w' (hSW.on hb) (hLW.on hb)
  have HBy : Hid (∀ w', Below W.heap.size W w' → Calls Tryz.prog 12 #[.agg #[.slice p s.length c], .slice q l.length d] w' (Told w' (Bt.err s l) (Bt.out s l))) := fun w' hb => refBytesB s p c l q d w' (hSW.on hb) (hLW.on hb)
  have HSW := Lib.hid hSW
  have HLW := Lib.hid hLW
  have hpe := Bt.pack_err s l
  have hpl := Bt.pack_len s l
  have hgo : Bt.err s l = 0 → Bt.unpack s (Bt.pack s l).out l.length = .ok (l.map (fun x => x.map V.fix)) ∧ Blk.unpack (Bt.pack s l).out = ⟨0, Bt.bytes l⟩ ∧ Bt.out s l = Bt.bytes l ∧ (Bt.bytes l).length ≤ 2048 := fun h => ⟨(Bt.pack_unpack h hwf).2, Bt.pack_raw h, by unfold Bt.out; rw [if_pos h], (Bt.err_open h).2.2⟩
  obtain ⟨R, hR⟩ : ∃ R, R = Bt.err s l := ⟨_, rfl⟩
  obtain ⟨P, hP⟩ : ∃ P, P = Bt.pack s l := ⟨_, rfl⟩
  obtain ⟨O, hO⟩ : ∃ O, O = Bt.out s l := ⟨_, rfl⟩
  obtain ⟨bs, hbs⟩ : ∃ bs, bs = Bt.bytes l := ⟨_, rfl⟩
  rw [← hP] at HPk hpe hpl hgo
  rw [← hR, ← hO] at HBy
  rw [← hR] at hpe hpl
  rw [← hR, ← hO, ← hbs] at hgo
  have HPe := Lib.hid hpe
  have HPl := Lib.hid hpl
  have HGo := Lib.hid hgo
  have HB := Lib.hid hbW
  have HW := Lib.hid hW
  have HBlk := Lib.hid hblk
  have HRI := Lib.hid HR
  have hlen := hL.len
  clear hpe hpl hR hP hO hbs hgo hbW hW hblk HR hSW hLW hS hL hwf
  go_enter Tryz.func4, Tryz.ntmps4
  go_wp2_with fail
  rw [← HW.out]
  refine (HPk.out W (Below.refl _ _)).mono ?_
  rintro e w1 ⟨q1, m1, c1, rfl, hm1, hh1, hb1⟩
  subst hm1
  rw [HPe.out]
  have n0 := boxed_cell (blk_on HBlk.out hb1 (blk_lt HBlk.out))
  have HB1 := Lib.hid hb1
  have HH1 := Lib.hid hh1
  clear hb1 hh1
  go_wp2_with fail
  refine (HPk.out w1 HB1.out).mono ?_
  rintro e w2 ⟨q2, m2, c2, rfl, hm2, hh2, hb2⟩
  subst hm2
  rw [HPe.out]
  have hb2' := HB1.out.trans (hb2.mono HB1.out.size)
  have n0 := boxed_cell (blk_on HBlk.out hb2' (blk_lt HBlk.out))
  have HB2 := Lib.hid hb2'
  have HH12 := Lib.hid (HH1.out.on hb2)
  have HH2 := Lib.hid hh2
  clear hb2 hb2' hh2 HH1 HPk
  by_cases h0 : R = 0
  · have g0 : ((R : Int) != 0) = false := bne_f (by omega)
    have g1 : ((R : Int) == 0) = true := by rw [h0]; rfl
    obtain ⟨hU, hRaw, hOb, hb2k⟩ := HGo.out h0
    have hP9 := HPl.out.2.2
    obtain ⟨qa, ca, hea, hata, hca⟩ := HH12.out.at
    injection hea with e1 _ e3
    subst e1 e3
    have hU2 := refUnpackB s p c P.out q1 c1 l.length w2 (HSW.out.on HB2.out) (by omega) hca hata
    rw [hU] at hU2
    have HU2 := Lib.hid hU2
    have HWf := Lib.hid (Bt.unpack_wf hU)
    obtain ⟨l2, hl2⟩ : ∃ l2, l2 = l.map (fun x => x.map V.fix) := ⟨_, rfl⟩
    have HSm : Hid (l.length = l2.length ∧ ∀ j (h1 : j < l2.length) (h2 : j < l.length), V.sameL l2[j] l[j] = true) := by
      rw [hl2]
      exact ⟨by simp, fun j h1 h2 => by simp only [List.getElem_map]; exact sameL_fix _⟩
    rw [← hl2] at HU2 HWf
    have HRaw := Lib.hid hRaw
    clear hU2 hU hl2 hRaw HGo HPl h0 hata
    subst hOb
    go_wp2_with fail
    refine HU2.out.mono ?_
    rintro e w3 ⟨q3, c3, rfl, hr3, hb3⟩
    have HR3 := Lib.hid (hr3.rows HWf.out.2.1 HWf.out.1)
    have hb3' := HB2.out.trans (hb3.mono HB2.out.size)
    have n0 := boxed_cell (blk_on HBlk.out hb3' (blk_lt HBlk.out))
    have HB3 := Lib.hid hb3'
    have HB23 := Lib.hid hb3
    clear hr3 hb3 hb3' HU2
    go_wp2_with fail
    refine (HBy.out w3 HB3.out).mono ?_
    rintro e w4 ⟨q4, c4, rfl, hat4, hc4, hb4⟩
    have HAt4 := Lib.hid hat4
    have HB34 := Lib.hid hb4
    have HB24 := Lib.hid (HB23.out.trans (hb4.mono HB23.out.size))
    have hRw := unpackK P.out q1 c1 w4 (by omega) hca (HH12.out.on HB24.out).here
    rw [HRaw.out] at hRw
    have HRw := Lib.hid hRw
    clear hat4 hb4 hRw n0 HBy HRaw
    go_wp2_with fail
    refine HRw.out.mono ?_
    rintro e w5 ⟨q5, m5, c5, rfl, hm5, hh5, hb5⟩
    subst hm5
    have HH5 := Lib.hid hh5
    have HB45 := Lib.hid hb5
    clear hh5 hb5 HRw
    go_wp2_with fail
    refine (live11 HRI.out w5).mono ?_
    rintro e w6 ⟨rfl, hb6⟩
    have HB46 := Lib.hid (HB45.out.trans (hb6.mono HB45.out.size))
    have HB56 := Lib.hid hb6
    have HB26 := Lib.hid (HB24.out.trans (HB46.out.mono HB24.out.size))
    clear hb6
    have HSa := Lib.hid (same_any q1 q2 c1 c2 P.out P.out (by omega) w6 (HH12.out.on HB26.out).here (HH2.out.on HB26.out).here)
    rw [beq_self_eq_true] at HSa
    go_wp2_with fail
    refine HSa.out.mono ?_
    rintro e w7 ⟨rfl, n7, hw7⟩
    have hb67 : Below w6.heap.size w6 w7 := by rw [hw7]; exact below_drewN (Below.refl _ _) _
    have HB67 := Lib.hid hb67
    have HB37 := Lib.hid (HB34.out.trans ((HB46.out.trans (hb67.mono HB46.out.size)).mono HB34.out.size))
    have HBW7 := Lib.hid (HB3.out.trans (HB37.out.mono HB3.out.size))
    clear hb67 hw7 HSa
    have HAl := Lib.hid (alikeRowsK l2 l HSm.out.1 HSm.out.2 q3 q c3 d w7 (HR3.out.on HB37.out) (HLW.out.on HBW7.out))
    go_wp2_with fail
    refine HAl.out.mono ?_
    rintro e w8 ⟨rfl, hb8⟩
    have HB58 := Lib.hid (HB56.out.trans ((HB67.out.trans (hb8.mono HB67.out.size)).mono HB56.out.size))
    have HB48 := Lib.hid (HB45.out.trans (HB58.out.mono HB45.out.size))
    have HBW8 := Lib.hid (HBW7.out.trans (hb8.mono HBW7.out.size))
    clear hb8 HAl
    have HSb := Lib.hid (same_any q5 q4 c5 c4 O O (by omega) w8 (HH5.out.on HB58.out).here (HAt4.out.on HB48.out))
    rw [beq_self_eq_true] at HSb
    go_wp2_with fail
    refine HSb.out.mono ?_
    rintro e w9 ⟨rfl, n9, hw9⟩
    have HBF : Hid (Below w.heap.size w w9) := by
      rw [hw9]
      exact below_drewN (HB.out.trans (HBW8.out.mono HB.out.size)) _
    clear hw9 HSb
    go_wp2
    go_ret
    exact ⟨by simp, HBF.out⟩
  · have g0 : ((R : Int) != 0) = true := bne_t (by omega)
    have e1 : P.out = [] := HPl.out.2.1 h0
    rw [e1]
    clear HGo HPl h0 e1 n0
    go_wp2_with fail
    refine (live11 HRI.out w2).mono ?_
    rintro e w6 ⟨rfl, hb6⟩
    have HBF := Lib.hid (HB.out.trans ((HB2.out.trans (hb6.mono HB2.out.size)).mono HB.out.size))
    clear hb6
    go_wp2
    go_ret
    exact ⟨by simp, HBF.out⟩
end Go.Proofs.YtpkbdnilakaakaaGreat

/- The law's own loops that write over a row which lies in blocks of its own. -/
namespace Go.Proofs.YtpkbdnilakaakaaGreat
open Go.RowKit

/-- a cell that is there and may be written -/
def SoftC (w : World) (p : Addr) : Prop := (∃ v, w.cell? p = some v) ∧ w.frozen? p = false
theorem SoftC.set {w : World} {p : Addr} (h : SoftC w p) (q : Addr) (u : Value) : SoftC (w.setCell q u) p := by
  obtain ⟨⟨v, h1⟩, h2⟩ := h
  refine ⟨?_, by rw [World.frozen?_setCell]; exact h2⟩
  by_cases e : q = p
  · subst e
    exact ⟨u, World.cell?_setCell_same (h := h1) ..⟩
  · exact ⟨v, by rw [World.cell?_setCell_other (h := by first | exact e | exact fun hc => e hc.symm)]; exact h1⟩
/-- a value is written over -/
def over5 (w : World) (g o : Nat) (k : Int) : World := ((((w.setCell ⟨g, o, none⟩ (.int .i64 k)).setCell ⟨g, o + 1, none⟩ (.int .i64 0)).setCell ⟨g, o + 2, none⟩ (.float .f64 0)).setCell ⟨g, o + 3, none⟩ (.string ⟨#[]⟩)).setCell ⟨g, o + 4, none⟩ (.slice none 0 0)
theorem SoftC.over {w : World} {p : Addr} (h : SoftC w p) (g o : Nat) (k : Int) : SoftC (over5 w g o k) p := ((((h.set _ _).set _ _).set _ _).set _ _).set _ _
theorem over5_aside (w : World) (g o : Nat) (k : Int) : Aside (fun j => j = g) w (over5 w g o k) := by
  have s1 : ∀ (w : World) (m : Nat) (u : Value), Aside (fun j => j = g) w (w.setCell ⟨g, m, none⟩ u) := fun w m u => (Aside.refl (fun j => j = g) w).setCell (p := ⟨g, m, none⟩) (.inl rfl) u
  exact ((((s1 _ _ _).trans (s1 _ _ _) (fun _ _ h => h)).trans (s1 _ _ _) (fun _ _ h => h)).trans (s1 _ _ _) (fun _ _ h => h)).trans (s1 _ _ _) (fun _ _ h => h)
theorem over5_cell {w : World} {g o m : Nat} {k : Int} (h : m < o ∨ o + 5 ≤ m) : (over5 w g o k).cell? ⟨g, m, none⟩ = w.cell? ⟨g, m, none⟩ := by
  unfold over5
  rw [World.cell?_setCell_other (h := by intro hc; injection hc; omega), World.cell?_setCell_other (h := by intro hc; injection hc; omega), World.cell?_setCell_other (h := by intro hc; injection hc; omega), World.cell?_setCell_other (h := by intro hc; injection hc; omega), World.cell?_setCell_other (h := by intro hc; injection hc; omega)]

/-- items that may be written over, in a block between B and Z, not in g -/
def ItemsS (w : World) (B Z g : Nat) (p : Option Addr) (n : Nat) : Prop := n = 0 ∨ ∃ g' o', p = some ⟨g', o', none⟩ ∧ B ≤ g' ∧ g' < Z ∧ g' ≠ g ∧ ∀ k, k < n → ∀ m, m < 5 → SoftC w ⟨g', o' + k * 5 + m, none⟩
/-- a row in block g, its values from i on as they were -/
structure RowS (w : World) (B Z g off n i : Nat) : Prop where
  low : B ≤ g
  high : g < Z
  size : Z ≤ w.heap.size
  soft : ∀ j, j < n → ∀ m, m < 5 → SoftC w ⟨g, off + j * 5 + m, none⟩
  item : ∀ j, i ≤ j → j < n → ∃ (p : Option Addr) (k c : Nat), (k : Int) ≤ 140737488351232 ∧ w.cell? ⟨g, off + j * 5 + 4, none⟩ = some (.slice p k c) ∧ ItemsS w B Z g p k
theorem RowS.inner {w : World} {B Z g off n i g' o : Nat} {k : Int} (h : RowS w B Z g off n i) (hg : g' ≠ g) (hs : g < w.heap.size) : RowS (over5 w g' o k) B Z g off n i := by
  have ha := over5_aside w g' o k
  refine ⟨h.low, h.high, Nat.le_trans h.size ha.size, fun j hj m hm => (h.soft j hj m hm).over _ _ _, fun j hi hj => ?_⟩
  obtain ⟨p, n', c, h1, h2, h3⟩ := h.item j hi hj
  refine ⟨p, n', c, h1, ?_, ?_⟩
  · rw [ha.cell (p := ⟨g, off + j * 5 + 4, none⟩) hs (show ¬ g = g' from fun e => hg e.symm)]; exact h2
  · rcases h3 with h3 | ⟨g2, o2, e1, e2, e3, e4, e5⟩
    · exact .inl h3
    · exact .inr ⟨g2, o2, e1, e2, e3, e4, fun k2 hk m hm => (e5 k2 hk m hm).over _ _ _⟩
theorem RowS.outer {w : World} {B Z g off n i : Nat} {k : Int} (h : RowS w B Z g off n i) : RowS (over5 w g (off + i * 5) k) B Z g off n (i + 1) := by
  have ha := over5_aside w g (off + i * 5) k
  refine ⟨h.low, h.high, Nat.le_trans h.size ha.size, fun j hj m hm => (h.soft j hj m hm).over _ _ _, fun j hi hj => ?_⟩
  obtain ⟨p, n', c, h1, h2, h3⟩ := h.item j (by omega) hj
  refine ⟨p, n', c, h1, ?_, ?_⟩
  · rw [over5_cell (by omega)]; exact h2
  · rcases h3 with h3 | ⟨g2, o2, e1, e2, e3, e4, e5⟩
    · exact .inl h3
    · exact .inr ⟨g2, o2, e1, e2, e3, e4, fun k2 hk m hm => (e5 k2 hk m hm).over _ _ _⟩
theorem ItemsS.aside {w : World} {B Z g : Nat} {p : Option Addr} {n : Nat} (h : ItemsS w B Z g p n) (g' o : Nat) (k : Int) : ItemsS (over5 w g' o k) B Z g p n := by
  rcases h with h3 | ⟨g2, o2, e1, e2, e3, e4, e5⟩
  · exact .inl h3
  · exact .inr ⟨g2, o2, e1, e2, e3, e4, fun k2 hk m hm => (e5 k2 hk m hm).over _ _ _⟩

/-- at the beginning -/
theorem rowS_start {w : World} {B Z : Nat} {q : Option Addr} {c : Nat} {vs : List V} (h : VOwn w (fun k => B ≤ k ∧ k < Z) (cells5 0 0 0 ⟨#[]⟩ q vs.length c) (.mk 0 0 0 ⟨#[]⟩ vs)) (hZ : Z ≤ w.heap.size) : vs = [] ∨ ∃ g off, q = some ⟨g, off, none⟩ ∧ RowS w B Z g off vs.length 0 := by
  rcases h.inv with ⟨k0, i0, b0, t0, p0, c0, -, hx⟩ | ⟨k0, i0, b0, t0, g, off, c0, xs, us, Fs, hu, hx, s⟩
  · simp only [V.mk.injEq] at hx
    exact .inl hx.2.2.2.2
  · simp only [V.mk.injEq] at hx
    obtain ⟨-, -, -, -, rfl⟩ := hx
    simp only [cells5] at hu
    injection hu with hu
    injection hu with _ hu
    injection hu with _ hu
    injection hu with _ hu
    injection hu with _ hu
    injection hu with hu _
    injection hu with hu _ _
    refine .inr ⟨g, off, hu, s.hg.1, s.hg.2, hZ, fun j hj m hm => ⟨?_, s.hf j hj m hm⟩, fun j _ hj => ?_⟩
    · rw [s.hp.2 j hj m hm]
      exact ⟨_, Array.getElem?_eq_getElem (by rw [s.h5 j hj]; exact hm)⟩
    · have hr := s.hr j hj
      obtain ⟨k1, i1, b1, t1, p1, n1, c1, hs⟩ := hr.shape
      have h4 := s.hp.2 j hj 4 (by omega)
      rw [hs] at h4 hr
      have hsub := s.hs j hj
      have hng := s.hgs j hj
      refine ⟨p1, n1, c1, ?_, h4, ?_⟩
      · have hly := hr.lies
        generalize vs[j] = y at hly
        obtain ⟨x0, x1, x2, x3, x4⟩ := y
        obtain ⟨pp, cc, hu2, hl2, -⟩ := hly.open
        simp only [cells5] at hu2
        injection hu2 with hu2
        injection hu2 with _ hu2
        injection hu2 with _ hu2
        injection hu2 with _ hu2
        injection hu2 with _ hu2
        injection hu2 with hu2 _
        injection hu2 with _ hu2 _
        omega
      · rcases hr.inv with ⟨k2, i2, b2, t2, p2, c2, hu2, -⟩ | ⟨k2, i2, b2, t2, g2, o2, c2, xs2, us2, Fs2, hu2, -, s2⟩
        · simp only [cells5] at hu2
          injection hu2 with hu2
          injection hu2 with _ hu2
          injection hu2 with _ hu2
          injection hu2 with _ hu2
          injection hu2 with _ hu2
          injection hu2 with hu2 _
          injection hu2 with _ hu2 _
          exact .inl hu2
        · simp only [cells5] at hu2
          injection hu2 with hu2
          injection hu2 with _ hu2
          injection hu2 with _ hu2
          injection hu2 with _ hu2
          injection hu2 with _ hu2
          injection hu2 with hu2 _
          injection hu2 with e1 e2 _
          subst e1 e2
          have hb := hsub g2 s2.hg
          refine .inr ⟨g2, o2, rfl, hb.1, hb.2, fun e => hng (by rw [← e]; exact s2.hg), fun k3 hk m hm => ⟨?_, s2.hf k3 hk m hm⟩⟩
          rw [s2.hp.2 k3 hk m hm]
          exact ⟨_, Array.getElem?_eq_getElem (by rw [s2.h5 k3 hk]; exact hm)⟩
end Go.Proofs.YtpkbdnilakaakaaGreat

/- Rows of one's own that are written over. -/
namespace Go.Proofs.YtpkbdnilakaakaaGreat
open Go.RowKit

/-- the rows of an answer -/
def Bt.got : Except Nat (List (List V)) → List (List V)
  | .ok l => l
  | .error _ => []
theorem UnpA.got {w w' : World} {R : Except Nat (List (List V))} {e : Ending} (h : UnpA w R e w') : ∃ q c, e = .returned (.tuple #[.slice q (Bt.got R).length c, .int .i64 (Bt.code R : Nat)]) ∧ RowsB w' w.heap.size (.slice q (Bt.got R).length c) (Bt.got R) ∧ Below w.heap.size w w' := by
  cases R with
  | error er => exact ⟨none, 0, h.1, rowsB_nil _ _, h.2⟩
  | ok l => exact h
theorem Bt.got_wf (s : List Col) (b : List UInt8) (n : Int) : (∀ x ∈ Bt.got (Bt.unpack s b n), ∀ v ∈ x, v.wf) ∧ (Bt.got (Bt.unpack s b n)).length * 24 ≤ 140737488351232 := by
  cases hr : Bt.unpack s b n with
  | ok l => exact ⟨(Bt.unpack_wf hr).1, (Bt.unpack_wf hr).2.1⟩
  | error er => exact ⟨fun x hx => (by cases hx), (by simp [Bt.got])⟩

theorem items_start {w : World} {F : Nat → Prop} {B Z g : Nat} {q : Option Addr} {d : Nat} {y : List V} (h : ROwn w F q d y) (hF : ∀ k, F k → B ≤ k ∧ k < Z ∧ k ≠ g) : ((y.length : Nat) : Int) ≤ 140737488351232 ∧ ItemsS w B Z g q y.length := by
  have hl : ((y.length : Nat) : Int) ≤ 140737488351232 := by
    obtain ⟨pp, cc, hu2, hl2, -⟩ := (VOwn.lies h).open
    omega
  refine ⟨hl, ?_⟩
  rcases VOwn.inv h with ⟨k0, i0, b0, t0, p0, c0, -, hx⟩ | ⟨k0, i0, b0, t0, g2, off, c0, xs, us, Fs, hu, hx, s⟩
  · simp only [V.mk.injEq] at hx
    exact .inl (by rw [hx.2.2.2.2]; rfl)
  · simp only [V.mk.injEq] at hx
    obtain ⟨-, -, -, -, rfl⟩ := hx
    simp only [cells5] at hu
    injection hu with hu
    injection hu with _ hu
    injection hu with _ hu
    injection hu with _ hu
    injection hu with _ hu
    injection hu with hu _
    injection hu with hu _ _
    have hb := hF g2 s.hg
    refine .inr ⟨g2, off, hu, hb.1, hb.2.1, hb.2.2, fun j hj m hm => ⟨?_, s.hf j hj m hm⟩⟩
    rw [s.hp.2 j hj m hm]
    exact ⟨_, Array.getElem?_eq_getElem (by rw [s.h5 j hj]; exact hm)⟩

/-- rows in block g, from i on as they were -/
structure LstS (w : World) (B Z g n i : Nat) : Prop where
  low : B ≤ g
  high : g < Z
  size : Z ≤ w.heap.size
  soft : ∀ j, j < n → SoftC w ⟨g, j, none⟩
  item : ∀ j, i ≤ j → j < n → ∃ (p : Option Addr) (k c : Nat), (k : Int) ≤ 140737488351232 ∧ w.cell? ⟨g, j, none⟩ = some (.slice p k c) ∧ ItemsS w B Z g p k
theorem ItemsS.set {w : World} {B Z g : Nat} {p : Option Addr} {n : Nat} (h : ItemsS w B Z g p n) (q : Addr) (u : Value) : ItemsS (w.setCell q u) B Z g p n := by
  rcases h with h3 | ⟨g2, o2, e1, e2, e3, e4, e5⟩
  · exact .inl h3
  · exact .inr ⟨g2, o2, e1, e2, e3, e4, fun k2 hk m hm => (e5 k2 hk m hm).set _ _⟩
theorem LstS.inner {w : World} {B Z g n i g' o : Nat} {k : Int} (h : LstS w B Z g n i) (hg : g' ≠ g) : LstS (over5 w g' o k) B Z g n i := by
  have ha := over5_aside w g' o k
  have hs := h.size
  have hh := h.high
  refine ⟨h.low, h.high, Nat.le_trans h.size ha.size, fun j hj => (h.soft j hj).over _ _ _, fun j hi hj => ?_⟩
  obtain ⟨p, n', c, h1, h2, h3⟩ := h.item j hi hj
  refine ⟨p, n', c, h1, ?_, h3.aside _ _ _⟩
  rw [ha.cell (p := ⟨g, j, none⟩) (show g < w.heap.size by omega) (show ¬ g = g' from fun e => hg e.symm)]; exact h2
theorem LstS.outer {w : World} {B Z g n i : Nat} (h : LstS w B Z g n i) (u : Value) : LstS (w.setCell ⟨g, i, none⟩ u) B Z g n (i + 1) := by
  refine ⟨h.low, h.high, by simpa [World.setCell] using h.size, fun j hj => (h.soft j hj).set _ _, fun j hi hj => ?_⟩
  obtain ⟨p, n', c, h1, h2, h3⟩ := h.item j (by omega) hj
  refine ⟨p, n', c, h1, ?_, h3.set _ _⟩
  rw [World.cell?_setCell_other (h := by intro hc; injection hc; omega)]
  exact h2
theorem lstS_start {w : World} {B Z : Nat} {q : Option Addr} {c : Nat} {ys : List (List V)} (h : RowsB w B (.slice q ys.length c) ys) (hZ : Z = w.heap.size) : ys.length = 0 ∨ ∃ g, q = some ⟨g, 0, none⟩ ∧ LstS w B Z g ys.length 0 := by
  subst hZ
  obtain ⟨us, h1, h2⟩ := h.out
  rcases h1.2 with ⟨he, h3⟩ | ⟨g, cap, cur, he, h4, h5, h6, h7, h8, h9⟩
  · exact .inl h3
  · injection he with e1 _ e2
    subst e1 e2
    have hcell : ∀ j, j < ys.length → ∃ v, w.cell? ⟨g, j, none⟩ = some v := fun j hj => by
      rw [blk_cell h5]
      exact ⟨_, Array.getElem?_eq_getElem (by rw [h8]; omega)⟩
    refine .inr ⟨g, rfl, h4, blk_lt h5, Nat.le_refl _, fun j hj => ⟨hcell j hj, blk_free h5 j⟩, fun j _ hj => ?_⟩
    obtain ⟨qj, dj, e3, e4⟩ := h2 j hj
    obtain ⟨i1, i2⟩ := items_start (Z := w.heap.size) (g := g) e4 (fun k hk => ⟨hk.1, hk.2.1, fun hc => hk.2.2 (by rw [hc]; rfl)⟩)
    refine ⟨qj, ys[j].length, dj, i1, ?_, i2⟩
    rw [blk_cell h5]
    rw [← h9, List.getElem?_take] at e3
    simp only [Nat.mul_one] at e3
    rw [if_pos hj] at e3
    simpa using e3
end Go.Proofs.YtpkbdnilakaakaaGreat
