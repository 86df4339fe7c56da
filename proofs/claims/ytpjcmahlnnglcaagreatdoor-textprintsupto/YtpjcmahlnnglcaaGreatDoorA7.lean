/- RTP, RowBP, RP7, RP7S, RP8: put together. -/
import Derived.Test.YtpjcmahlnnglcaaGreatDoorTie
import Derived.Test.YtpjcmahlnnglcaaGreatDoorCards
import Derived.Test.YtpjcmahlnnglcaaGreatDoorA5
import Derived.ProofKit
import Derived.LaidMore
import Derived.OpenShut
import Derived.Stop.Joined
import Derived.Lib.LaidTab
import Derived.Stop.LaidErr
import Derived.SizedLaws
import Derived.Deep.Slices
import Derived.Lib.SmallJoins

/- What the rows' condition on the listed variables gives: Hv. -/
namespace Go.Proofs.YtpjcmahlnnglcaaGreatDoor
open Go.ChangeShapes Go.WideShapes Go.ChangeAt Go.RowKit

theorem own : ownKnob Tryz.prog.godebug = none := by kernel_rfl

/-- an array of strings, cell for cell -/
theorem cells_of_words {H : Type} {enc : TypeId × Value → H} {P : Program} {w : World} {base : Nat} {sp : Nat → Bool} {held : Bool} {fuel : Nat} {t e : TypeId} {n : Nat} {cs : List Value} {zs : List (List UInt8)} {p : List MemPlace}
    (ht : P.underlying t = some (.array n e)) (he : P.underlying e = some .string) (hce : P.cellsOf e = 1) (hct : P.cellsOf t = n)
    (h : DataW.trod enc P w base sp held fuel t cs = some (.agg (zs.map fun z => .lit (.string z)), p)) : cs = zs.map fun z => Value.string ⟨z.toArray⟩ := by
  cases fuel with
  | zero => simp [DataW.trod] at h
  | succ fuel =>
    simp only [DataW.trod, ht, hce, hct, Nat.mul_one] at h
    split at h
    · rename_i hl
      obtain ⟨xs, hm, hx⟩ := Option.map_eq_some_iff.1 h
      have hxs : xs.map (·.1) = zs.map fun z => (DataW.lit (.string z) : DataW H) := by
        have := congrArg Prod.fst hx
        simpa using this
      have hxl : xs.length = n := by simpa using Lib.mapM_length hm
      have hzl : zs.length = n := by
        have := congrArg List.length hxs
        simp at this
        omega
      apply List.ext_getElem?
      intro i
      by_cases hi : i < n
      · obtain ⟨b, hb, hf⟩ := Lib.mapM_at hm i i (by simp [hi])
        obtain ⟨s, hc, hb1, -⟩ := DataW.trod_string he hf
        have h1 : cs[i]? = some (.string s) := by
          have := congrArg (·[0]?) hc
          simpa [List.getElem?_take, List.getElem?_drop] using this
        have h2 : (xs.map (·.1))[i]? = some b.1 := by simp [hb]
        rw [hxs] at h2
        simp only [List.getElem?_map, Option.map_eq_some_iff] at h2
        obtain ⟨z, hz, hzb⟩ := h2
        rw [hb1] at hzb
        injection hzb with hzb
        injection hzb with hzb
        have : s = ⟨z.toArray⟩ := by rw [hzb]
        simp [h1, hz, this]
      · rw [List.getElem?_eq_none (by omega), List.getElem?_eq_none (by simp; omega)]
    · cases h
theorem tab_of_list {rest : List (String × DataW Unit)} {W : World}
    (h : laidMet Tryz.prog (("math/bits.deBruijn32tab", Rows.laid_math_bits_deBruijn32tab) :: ("math/bits.deBruijn64tab", Rows.laid_math_bits_deBruijn64tab) :: ("internal/strconv.uint64pow10", Rows.laid_internal_strconv_uint64pow10) :: rest) W) : Tab W := by
  have h1 := h.tail.tail
  have e : (Rows.laid_internal_strconv_uint64pow10 : DataW Unit) = Lib.tabData .u64 Lib.pow10Tab := by kernel_rfl
  rw [e] at h1
  exact Lib.tabIs_of_head (g := 2) (t := 188) (e := 120) (n := 20) (by kernel_rfl) (by kernel_rfl) (by kernel_rfl) (by kernel_rfl) (by kernel_rfl) (by kernel_rfl) h1
theorem tz_of_list {rest : List (String × DataW Unit)} {W : World}
    (h : laidMet Tryz.prog (("math/bits.deBruijn32tab", Rows.laid_math_bits_deBruijn32tab) :: ("math/bits.deBruijn64tab", Rows.laid_math_bits_deBruijn64tab) :: rest) W) : W.cell? ⟨6, 15, none⟩ = some (.int .u8 4) := by
  have h1 := h.tail
  have e : (Rows.laid_math_bits_deBruijn64tab : DataW Unit) = Lib.tabData .u8 [0, 1, 56, 2, 57, 49, 28, 3, 61, 58, 42, 50, 38, 29, 17, 4, 62, 47, 59, 36, 45, 43, 51, 22, 53, 39, 33, 30, 24, 18, 12, 5, 63, 55, 48, 27, 60, 41, 37, 16, 46, 35, 44, 21, 52, 32, 23, 11, 54, 26, 40, 15, 34, 20, 31, 10, 25, 14, 19, 9, 13, 8, 7, 6] := by kernel_rfl
  rw [e] at h1
  have h2 := Lib.tabIs_of_head (g := 6) (t := 215) (e := 5) (n := 64) (by kernel_rfl) (by kernel_rfl) (by kernel_rfl) (by kernel_rfl) (by kernel_rfl) (by kernel_rfl) h1
  have h3 := h2.cell (g := 6) (by kernel_rfl) 15 (by decide)
  exact h3

theorem star : "*" ++ "errors.errorString" = "*errors.errorString" := by decide
theorem rowErrT (u : TypeId) (h : Tryz.prog.typeName? 3 u = some "*errors.errorString") : u = 216 :=
  typeName_ptr_named (nm := "errors.errorString") (by rw [star]; kernel_rfl) (by kernel_rfl) (by decide) u (by rw [star]; exact h)
theorem tSyn : (Tryz.prog.globals[3]?).map (·.type) = some 160 := by kernel_rfl
theorem tRan : (Tryz.prog.globals[4]?).map (·.type) = some 160 := by kernel_rfl
theorem cellsE : Tryz.prog.cellsOf 218 = 1 := by kernel_rfl
theorem cellsS : Tryz.prog.cellsOf 9 = 1 := by kernel_rfl
theorem kw_data : (Rows.laid_gabion_text_kindWords : DataW Unit) = .agg (([[], [98, 111, 111, 108], [105, 110, 116], [102, 108, 111, 97, 116], [116, 101, 120, 116], [98, 121, 116, 101, 115], [111, 112, 116], [108, 105, 115, 116]] : List (List UInt8)).map fun z => .lit (.string z)) := rfl
theorem hv_of_laid {W : World} (h : laidMetH Tryz.prog Rows.textPrintsUptoRow.laid W) : Hv W := by
  rw [MakeChecks.laidMetH_plain _ _ _ (by kernel_rfl)] at h
  have h3 := h.tail.tail.tail
  obtain ⟨a0, s0, hv0, -, -, -⟩ := laid_sentinel h3 gRan tRan Tryz.underlying160 rowErrT Tryz.underlying216 Tryz.underlying218 rfl rfl Tryz.underlying9 cellsE cellsS
  obtain ⟨a1, s1, hv1, -, -, -⟩ := laid_sentinel h3.tail gSyn tSyn Tryz.underlying160 rowErrT Tryz.underlying216 Tryz.underlying218 rfl rfl Tryz.underlying9 cellsE cellsS
  refine ⟨tab_of_list h, tz_of_list h, ⟨⟨_, _, hv1⟩, ⟨_, _, hv0⟩⟩, ?_⟩
  have h5 := h3.tail.tail
  obtain ⟨ps, ⟨g', t', cs, fuel, p, q, hg', ht', hvar, hd, _, _⟩, _⟩ := h5
  have hty : (Tryz.prog.globals[0]?).map (·.type) = some 93 := by kernel_rfl
  obtain rfl := Option.some.inj (gKw.symm.trans hg')
  obtain rfl := Option.some.inj (hty.symm.trans ht')
  rw [kw_data] at hd
  have hcs := cells_of_words (n := 8) (e := 9) (by kernel_rfl) Tryz.underlying9 cellsS (by kernel_rfl) hd
  have hk : cs = kwC := by rw [← Array.toArray_toList (xs := cs), hcs]; rfl
  rw [hvar, hk]
end Go.Proofs.YtpjcmahlnnglcaaGreatDoor

/- The second form's bound. -/
namespace Go.Proofs.YtpjcmahlnnglcaaGreatDoor
/-- the second form's bound -/
theorem bulk_pos {H : Type} (d : DataW H) : 1 ≤ Rows.uptoBulk d := by
  cases d with
  | lit x => cases x <;> simp [Rows.uptoBulk]
  | _ => simp [Rows.uptoBulk]
theorem bulkAll_len {H : Type} : ∀ E : List (DataW H), E.length ≤ Rows.uptoBulkAll E
  | [] => Nat.zero_le _
  | e :: l => by
    have h1 := bulk_pos e
    have h2 := bulkAll_len l
    simp only [List.length_cons, Rows.uptoBulkAll]
    omega
theorem len_list (S : ByteArray) : S.data.toList.length = S.size := by rw [Array.length_toList]; rfl
end Go.Proofs.YtpjcmahlnnglcaaGreatDoor

/- Arguments of types api.Value, api.Type and api.Schema, opened: what lies there, within its bounds. -/
namespace Go.Proofs.YtpjcmahlnnglcaaGreatDoor
open Go.ChangeShapes Go.WideShapes Go.ChangeAt Go.RowKit Go.Deep

theorem tl_leaf (w : World) (k : Int) (p : Option Addr) (c : Nat) : TLies w (cells2 k p 0 c) (.mk k []) := .mk (xs := []) (fun _ => #[]) (by simp) (by simp) (fun hc => absurd rfl hc) (fun j hj => by simp at hj)
theorem vl_leaf (w : World) (k i : Int) (b : Nat) (t : ByteArray) (p : Option Addr) (c : Nat) : VLies w (cells5 k i b t p 0 c) (.mk k i b t []) := .mk (xs := []) (fun _ => #[]) (by simp) (by simp) (fun hc => absurd rfl hc) (fun j hj => by simp at hj)
theorem val_bulk {k i : Int} {b : Nat} {t : ByteArray} {xs : List V} {d N B : Nat} (h : chk d (.mk k i b t xs) = 0) (hw : V.wf (.mk k i b t xs)) (hj : (Tx.join (xs.map (Tx.val text))).length ≤ 110 * N) (hB : t.size + N + 5 ≤ B) : (Tx.val text (.mk k i b t xs)).length + 2 ≤ 110 * B := by
  obtain ⟨h1, ho, h3, h4, -, h6⟩ := Sch.chk_open h
  obtain ⟨hk, -, -, -, -, -, h7⟩ := Sch.own_open ho
  rw [V.wf_mk] at hw
  have hns : t.data.toList.length = t.size := len_list t
  rcases Tx.word_cases hk with rfl | rfl | rfl | rfl | rfl | rfl | rfl
  · rw [Tx.val_one]
    split <;> simp <;> omega
  · rw [Tx.val_two]
    have h8 := itoa_len i hw.2.1
    omega
  · rw [Tx.val_three, List.length_cons]
    have h8 := text_len b
    omega
  · rw [Tx.val_four]
    have h8 := flat_le 34 t.data.toList
    simp only [Tx.quo, List.length_cons, List.length_append, List.length_nil] at h8 ⊢
    omega
  · rw [Tx.val_five]
    have h8 := flat_le 39 t.data.toList
    simp only [Tx.quo, List.length_cons, List.length_append, List.length_nil] at h8 ⊢
    omega
  · match xs, h7 rfl, hj with
    | [], _, _ => rw [Tx.val_none]; simp; omega
    | [x], _, hj =>
      rw [Tx.val_some]
      simp only [List.length_append, List.length_cons, List.length_nil, List.map_cons, List.map_nil, Tx.join] at hj ⊢
      omega
  · rw [Tx.val_list]
    simp only [List.length_append, List.length_cons, List.length_nil]
    omega
theorem join_bulk {H : Type} : ∀ (xs : List V) (E : List (DataW H)), xs.length = E.length → (∀ j (h1 : j < xs.length) (h2 : j < E.length), (Tx.val text xs[j]).length + 2 ≤ 110 * Rows.uptoBulk E[j]) → (Tx.join (xs.map (Tx.val text))).length ≤ 110 * Rows.uptoBulkAll E
  | [], _, _, _ => by simp [Tx.join]
  | [x], [e], _, h => by
    have := h 0 (by simp) (by simp)
    simp only [List.getElem_cons_zero] at this
    simp [Tx.join, Rows.uptoBulkAll]
    omega
  | x :: y :: r, e :: f :: g, hl, h => by
    have h1 := join_bulk (y :: r) (f :: g) (by simpa using hl) (fun j a1 a2 => h (j + 1) (by simpa using a1) (by simpa using a2))
    have h2 := h 0 (by simp) (by simp)
    simp only [List.getElem_cons_zero] at h2
    rw [List.map_cons, List.map_cons, Tx.join_cons]
    rw [List.map_cons] at h1
    simp only [List.length_append, List.length_cons, Rows.uptoBulkAll] at h1 ⊢
    omega
  | [_], [], hl, _ => by simp at hl
  | [_], _ :: _ :: _, hl, _ => by simp at hl
  | _ :: _ :: _, [], hl, _ => by simp at hl
  | _ :: _ :: _, [_], hl, _ => by simp at hl

theorem add_off (b o j : Nat) : (⟨b, o, none⟩ : Addr).add j = ⟨b, o + j, none⟩ := by unfold Addr.add; split <;> simp_all
theorem int_wf {n : Int} (h : (Lit.int .i64 n).wf = true) : -9223372036854775808 ≤ n ∧ n ≤ 9223372036854775807 := by
  have h' : (decide (IntKind.i64.min ≤ n) && decide (n ≤ IntKind.i64.max)) = true := h
  rw [Bool.and_eq_true, decide_eq_true_eq, decide_eq_true_eq] at h'
  have e1 : IntKind.i64.min = -9223372036854775808 := by decide
  have e2 : IntKind.i64.max = 9223372036854775807 := by decide
  rw [e1, e2] at h'
  exact h'
theorem float_wf {n : Nat} (h : (Lit.float .f64 n).wf = true) : n < 18446744073709551616 := by
  have h' : decide (n < 2 ^ 64) = true := h
  rw [decide_eq_true_eq] at h'
  exact h'

section
variable {H : Type} {enc : TypeId × Value → H} {W : World}

theorem trod_float6 {fuel : Nat} {t : TypeId} {cs : List Value} {x : DataW H × List MemPlace} {k : FloatKind} (ht : Tryz.prog.underlying t = some (.float k)) (h : DataW.trod enc Tryz.prog W 0 (fun _ => true) true fuel t cs = some x) : ∃ b, cs = [.float k b] ∧ x = (.lit (.float k b), []) ∧ (Lit.float k b).wf = true := by
  cases fuel with
  | zero => simp [DataW.trod] at h
  | succ n =>
    unfold DataW.trod at h
    rw [ht] at h
    split at h <;> simp_all

theorem weightsAll_mem {P : Program} {e : TypeId} : ∀ {l : List (DataW H)} {i : Nat} {d : DataW H}, l[i]? = some d → ∀ n ∈ d.weights P e, n ∈ DataW.weightsAll P e l
  | [], _, _, h => by simp at h
  | x :: r, 0, d, h => by
    intro n hn
    simp at h
    subst h
    simp [DataW.weightsAll, hn]
  | x :: r, i + 1, d, h => by
    intro n hn
    have := weightsAll_mem (l := r) (i := i) (d := d) (by simpa using h) n hn
    simp [DataW.weightsAll, this]

/-- things that lie in a row -/
theorem choose_row {T : Type} [Inhabited T] {c len : Nat} {a : Addr} {L : Array Value → T → Prop} (hc : 0 < c) (each : ∀ i, i < len → ∃ z : List Value × T, W.cells? 0 (a.add (i * c)) c = some z.1 ∧ L z.1.toArray z.2) :
    ∃ (us : Nat → Array Value) (zs : List T), zs.length = len ∧ (0 < len → ∃ b off, a = ⟨b, off, none⟩ ∧ b < W.heap.size ∧ ∀ j, j < len → ∀ m, m < c → W.cell? ⟨b, off + j * c + m, none⟩ = (us j)[m]?) ∧ ∀ j (h : j < zs.length), L (us j) zs[j] := by
  haveI : Inhabited (List Value × T) := ⟨⟨[], default⟩⟩
  obtain ⟨z, hz⟩ := choose_lt each
  refine ⟨fun j => (z j).1.toArray, (List.range len).map fun i => (z i).2, by simp, fun h0 => ?_, fun j hj => ?_⟩
  · obtain ⟨b, off, spot⟩ := a
    obtain ⟨_, hlen0, hcell0⟩ := World.cells?_some (hz 0 h0).1
    have hc0 := hcell0 0 (by omega)
    rw [List.getElem?_eq_getElem (by omega)] at hc0
    have hspot : spot = none := by simpa [Addr.add] using World.cell?_spot hc0
    subst hspot
    refine ⟨b, off, rfl, ?_, fun j hj2 m hm => ?_⟩
    · have := World.block_lt_of_cell? _ _ hc0
      simpa [block_add] using this
    · obtain ⟨_, hlenj, hcellj⟩ := World.cells?_some (hz j hj2).1
      have hcj := hcellj m (by omega)
      rw [add_add, add_off] at hcj
      rw [← Nat.add_assoc] at hcj
      rw [hcj]
      simp [hlenj, hm]
  · have hj2 : j < len := by simpa using hj
    simp only [List.getElem_map, List.getElem_range]
    exact (hz j hj2).2

/-- .. each with its number -/
theorem choose_rowI {T : Type} [Inhabited T] {c len : Nat} {a : Addr} {L : Nat → Array Value → T → Prop} (hc : 0 < c) (each : ∀ i, i < len → ∃ z : List Value × T, W.cells? 0 (a.add (i * c)) c = some z.1 ∧ L i z.1.toArray z.2) :
    ∃ (us : Nat → Array Value) (zs : List T), zs.length = len ∧ (0 < len → ∃ b off, a = ⟨b, off, none⟩ ∧ b < W.heap.size ∧ ∀ j, j < len → ∀ m, m < c → W.cell? ⟨b, off + j * c + m, none⟩ = (us j)[m]?) ∧ ∀ j (h : j < zs.length), L j (us j) zs[j] := by
  haveI : Inhabited (List Value × T) := ⟨⟨[], default⟩⟩
  obtain ⟨z, hz⟩ := choose_lt each
  refine ⟨fun j => (z j).1.toArray, (List.range len).map fun i => (z i).2, by simp, fun h0 => ?_, fun j hj => ?_⟩
  · obtain ⟨b, off, spot⟩ := a
    obtain ⟨_, hlen0, hcell0⟩ := World.cells?_some (hz 0 h0).1
    have hc0 := hcell0 0 (by omega)
    rw [List.getElem?_eq_getElem (by omega)] at hc0
    have hspot : spot = none := by simpa [Addr.add] using World.cell?_spot hc0
    subst hspot
    refine ⟨b, off, rfl, ?_, fun j hj2 m hm => ?_⟩
    · have := World.block_lt_of_cell? _ _ hc0
      simpa [block_add] using this
    · obtain ⟨_, hlenj, hcellj⟩ := World.cells?_some (hz j hj2).1
      have hcj := hcellj m (by omega)
      rw [add_add, add_off] at hcj
      rw [← Nat.add_assoc] at hcj
      rw [hcj]
      simp [hlenj, hm]
  · have hj2 : j < len := by simpa using hj
    simp only [List.getElem_map, List.getElem_range]
    exact (hz j hj2).2
set_option maxRecDepth 100000 in
theorem open_value : ∀ (fuel : Nat) (cs : List Value) (D : DataW H) (Pl : List MemPlace), DataW.trod enc Tryz.prog W 0 (fun _ => true) true fuel 31 cs = some (D, Pl) → (∀ k ∈ D.weights Tryz.prog 31, k ≤ reachBytes) → ∃ x, VLies W cs.toArray x ∧ x.wf ∧ ∀ d, chk d x = 0 → (Tx.val text x).length + 2 ≤ 110 * Rows.uptoBulk D := by
  intro fuel
  induction fuel using Nat.strongRecOn with
  | _ fuel ih =>
    intro cs D Pl h hw
    obtain ⟨xs, n, rfl, hx, hl, hlen, hf⟩ := DataW.trod_struct Tryz.underlying31 h
    have hc5 : Tryz.prog.cellsOf 31 = 5 := by kernel_rfl
    have hb64 : Tryz.prog.bytesOf 31 = 64 := by kernel_rfl
    have er : reachBytes = 140737488351232 := by decide
    rw [hc5] at hl
    match cs, hl, xs, hlen with
    | [v0, v1, v2, v3, v4], _, [y0, y1, y2, y3, y4], _ =>
      have c0 : Tryz.prog.cellsOf 3 = 1 := by kernel_rfl
      have c1 : Tryz.prog.cellsOf 2 = 1 := by kernel_rfl
      have c2 : Tryz.prog.cellsOf 28 = 1 := by kernel_rfl
      have c3 : Tryz.prog.cellsOf 9 = 1 := by kernel_rfl
      have c4 : Tryz.prog.cellsOf 29 = 1 := by kernel_rfl
      have h0 : DataW.trod enc Tryz.prog W 0 (fun _ => true) true n 3 [v0] = some y0 := by have := hf 0 _ rfl; simpa [c0] using this
      have h1 : DataW.trod enc Tryz.prog W 0 (fun _ => true) true n 2 [v1] = some y1 := by have := hf 1 _ rfl; simpa [c1] using this
      have h2 : DataW.trod enc Tryz.prog W 0 (fun _ => true) true n 28 [v2] = some y2 := by have := hf 2 _ rfl; simpa [c2] using this
      have h3 : DataW.trod enc Tryz.prog W 0 (fun _ => true) true n 9 [v3] = some y3 := by have := hf 3 _ rfl; simpa [c3] using this
      have h4 : DataW.trod enc Tryz.prog W 0 (fun _ => true) true n 29 [v4] = some y4 := by have := hf 4 _ rfl; simpa [c4] using this
      obtain ⟨n0, hn0, _, w0⟩ := DataW.trod_int Tryz.underlying3 h0
      obtain ⟨n1, hn1, _, w1⟩ := DataW.trod_int Tryz.underlying2 h1
      obtain ⟨n2, hn2, _, w2⟩ := trod_float6 Tryz.underlying28 h2
      obtain ⟨n3, hn3, hy3, _⟩ := DataW.trod_string Tryz.underlying9 h3
      simp only [List.cons.injEq, and_true] at hn0 hn1 hn2 hn3
      subst hn0 hn1 hn2 hn3
      simp only [Prod.mk.injEq] at hx
      obtain ⟨rfl, _⟩ := hx
      have hs3 : n3.size ≤ 140737488351232 := by
        have := hw n3.data.toList.length (by
          simp [DataW.weights, DataW.weightsEach, Tryz.underlying31, hy3])
        rw [er] at this
        simpa using this
      have hB5 : n3.size + Rows.uptoBulk y4.1 + 5 ≤ Rows.uptoBulk (DataW.agg ([y0, y1, y2, y3, y4].map (·.1))) := by
        have b0 := bulk_pos y0.1
        have b1 := bulk_pos y1.1
        have b2 := bulk_pos y2.1
        have b3 : Rows.uptoBulk y3.1 = n3.size + 1 := by rw [hy3]; simp [Rows.uptoBulk]
        simp only [List.map_cons, List.map_nil, Rows.uptoBulk, Rows.uptoBulkAll]
        omega
      have hw4 : ∀ k ∈ y4.1.weights Tryz.prog 29, k ≤ reachBytes := fun k hk => hw k (by
        simp [DataW.weights, DataW.weightsEach, Tryz.underlying31]
        right; right; right; right
        exact hk)
      rcases DataW.trod_slice Tryz.underlying29 h4 with ⟨hcs, _⟩ | ⟨a, len, cap, elems, rest, n', rfl, hcs, hy, _, hlc, _, hel, hat, _⟩
      · simp only [List.cons.injEq, and_true] at hcs
        subst hcs
        have hwf : V.wf (.mk n0 n1 n2 n3 []) := V.wf_mk.2 ⟨int_wf w0, int_wf w1, float_wf w2, hs3, fun x hx => by cases hx⟩
        exact ⟨.mk n0 n1 n2 n3 [], vl_leaf W n0 n1 n2 n3 none 0, hwf, fun d hd => val_bulk (N := 0) hd hwf (by simp [Tx.join]) (by have := hB5; have := bulk_pos y4.1; omega)⟩
      · simp only [List.cons.injEq, and_true] at hcs
        subst hcs
        rw [hy] at hw4
        have hbd : len * 64 ≤ 140737488351232 := by
          have := hw4 ((elems.length + rest.length) * Tryz.prog.bytesOf 31) (by simp [DataW.weights, Tryz.underlying29])
          rw [hb64, er] at this
          omega
        have each : ∀ i, i < len → ∃ z : List Value × V, W.cells? 0 (a.add (i * 5)) 5 = some z.1 ∧ VLies W z.1.toArray z.2 ∧ z.2.wf ∧ ∀ y, elems[i]? = some y → ∀ d, chk d z.2 = 0 → (Tx.val text z.2).length + 2 ≤ 110 * Rows.uptoBulk y.1 := by
          intro i hi
          have h5 := hat i hi
          rw [hc5] at h5
          obtain ⟨y, hy2⟩ : ∃ y, elems[i]? = some y := ⟨elems[i]'(by omega), List.getElem?_eq_getElem (by omega)⟩
          rw [hy2] at h5
          obtain ⟨cs', g1, g2⟩ := Option.bind_eq_some_iff.1 h5
          obtain ⟨x, hx⟩ := ih n' (by omega) cs' y.1 y.2 g2 (fun k hk => hw4 k (by
            simp only [DataW.weights, Tryz.underlying29]
            refine List.mem_cons_of_mem _ (List.mem_append_left _ (weightsAll_mem (i := i) (d := y.1) ?_ k hk))
            simp [hy2]))
          refine ⟨⟨cs', x⟩, g1, hx.1, hx.2.1, fun y' hy' => ?_⟩
          rw [hy2] at hy'
          injection hy' with hy'
          subst hy'
          exact hx.2.2
        haveI : Inhabited V := ⟨.mk 0 0 0 ⟨#[]⟩ []⟩
        obtain ⟨us, zs, hll, hp, hz⟩ := choose_rowI (L := fun i u x => VLies W u x ∧ x.wf ∧ ∀ y, elems[i]? = some y → ∀ d, chk d x = 0 → (Tx.val text x).length + 2 ≤ 110 * Rows.uptoBulk y.1) (by decide) each
        have hwf : V.wf (.mk n0 n1 n2 n3 zs) := V.wf_mk.2 ⟨int_wf w0, int_wf w1, float_wf w2, hs3, fun x hx => by
          obtain ⟨j, hj, rfl⟩ := List.mem_iff_getElem.1 hx
          exact (hz j hj).2.1⟩
        refine ⟨.mk n0 n1 n2 n3 zs, ?_, hwf, fun d hd => ?_⟩
        · have hV : VLies W (cells5 n0 n1 n2 n3 (some a) zs.length cap) (.mk n0 n1 n2 n3 zs) := by
            refine .mk us (by rw [hll]; exact hbd) (by rw [hll]; exact hlc) (fun hne => ?_) (fun j hj => (hz j hj).1)
            obtain ⟨b, off, rfl, h2, h3⟩ := hp (by rw [← hll]; exact List.length_pos_iff.2 hne)
            exact ⟨b, off, rfl, h2, fun j hj m hm => h3 j (by omega) m hm⟩
          rw [hll] at hV
          exact hV
        · obtain ⟨-, -, -, -, -, h6⟩ := Sch.chk_open hd
          have hj := join_bulk zs (elems.map (·.1)) (by rw [List.length_map]; omega) (fun j h1 h2 => by
            have hj2 : j < elems.length := by simpa using h2
            have := (hz j h1).2.2 elems[j] (List.getElem?_eq_getElem hj2) (d + 1) (h6 _ (List.getElem_mem h1))
            simpa using this)
          have hB : Rows.uptoBulkAll (elems.map (·.1)) ≤ Rows.uptoBulk y4.1 := by
            rw [hy]
            simp only [Rows.uptoBulk]
            omega
          exact val_bulk hd hwf hj (by have := hB5; omega)
set_option maxRecDepth 100000 in
theorem open_type : ∀ (fuel : Nat) (cs : List Value) (D : DataW H) (Pl : List MemPlace), DataW.trod enc Tryz.prog W 0 (fun _ => true) true fuel 24 cs = some (D, Pl) → (∀ k ∈ D.weights Tryz.prog 24, k ≤ reachBytes) → ∃ x, TLies W cs.toArray x ∧ x.wf := by
  intro fuel
  induction fuel using Nat.strongRecOn with
  | _ fuel ih =>
    intro cs D Pl h hw
    obtain ⟨xs, n, rfl, hx, hl, hlen, hf⟩ := DataW.trod_struct Tryz.underlying24 h
    have hc5 : Tryz.prog.cellsOf 24 = 2 := by kernel_rfl
    have hb64 : Tryz.prog.bytesOf 24 = 32 := by kernel_rfl
    have er : reachBytes = 140737488351232 := by decide
    rw [hc5] at hl
    match cs, hl, xs, hlen with
    | [v0, v4], _, [y0, y4], _ =>
      have c0 : Tryz.prog.cellsOf 3 = 1 := by kernel_rfl
      have c4 : Tryz.prog.cellsOf 22 = 1 := by kernel_rfl
      have h0 : DataW.trod enc Tryz.prog W 0 (fun _ => true) true n 3 [v0] = some y0 := by have := hf 0 _ rfl; simpa [c0] using this
      have h4 : DataW.trod enc Tryz.prog W 0 (fun _ => true) true n 22 [v4] = some y4 := by have := hf 1 _ rfl; simpa [c4] using this
      obtain ⟨n0, hn0, _, w0⟩ := DataW.trod_int Tryz.underlying3 h0
      simp only [List.cons.injEq, and_true] at hn0
      subst hn0
      simp only [Prod.mk.injEq] at hx
      obtain ⟨rfl, _⟩ := hx
      have hw4 : ∀ k ∈ y4.1.weights Tryz.prog 22, k ≤ reachBytes := fun k hk => hw k (by
        simp [DataW.weights, DataW.weightsEach, Tryz.underlying24]
        right
        exact hk)
      rcases DataW.trod_slice Tryz.underlying22 h4 with ⟨hcs, _⟩ | ⟨a, len, cap, elems, rest, n', rfl, hcs, hy, _, hlc, _, hel, hat, _⟩
      · simp only [List.cons.injEq, and_true] at hcs
        subst hcs
        exact ⟨.mk n0 [], tl_leaf W n0 none 0, Ty.wf_mk.2 ⟨int_wf w0, fun x hx => by cases hx⟩⟩
      · simp only [List.cons.injEq, and_true] at hcs
        subst hcs
        rw [hy] at hw4
        have hbd : len * 32 ≤ 140737488351232 := by
          have := hw4 ((elems.length + rest.length) * Tryz.prog.bytesOf 24) (by simp [DataW.weights, Tryz.underlying22])
          rw [hb64, er] at this
          omega
        have each : ∀ i, i < len → ∃ z : List Value × Ty, W.cells? 0 (a.add (i * 2)) 2 = some z.1 ∧ TLies W z.1.toArray z.2 ∧ z.2.wf := by
          intro i hi
          have h5 := hat i hi
          rw [hc5] at h5
          obtain ⟨y, hy2⟩ : ∃ y, elems[i]? = some y := ⟨elems[i]'(by omega), List.getElem?_eq_getElem (by omega)⟩
          rw [hy2] at h5
          obtain ⟨cs', g1, g2⟩ := Option.bind_eq_some_iff.1 h5
          obtain ⟨x, hx⟩ := ih n' (by omega) cs' y.1 y.2 g2 (fun k hk => hw4 k (by
            simp only [DataW.weights, Tryz.underlying22]
            refine List.mem_cons_of_mem _ (List.mem_append_left _ (weightsAll_mem (i := i) (d := y.1) ?_ k hk))
            simp [hy2]))
          exact ⟨⟨cs', x⟩, g1, hx⟩
        haveI : Inhabited Ty := ⟨.mk 0 []⟩
        obtain ⟨us, zs, hll, hp, hz⟩ := choose_row (L := fun u x => TLies W u x ∧ x.wf) (by decide) each
        refine ⟨.mk n0 zs, ?_, Ty.wf_mk.2 ⟨int_wf w0, fun x hx => ?_⟩⟩
        · have hV : TLies W (cells2 n0 (some a) zs.length cap) (.mk n0 zs) := by
            refine .mk us (by rw [hll]; exact hbd) (by rw [hll]; exact hlc) (fun hne => ?_) (fun j hj => (hz j hj).1)
            obtain ⟨b, off, rfl, h2, h3⟩ := hp (by rw [← hll]; exact List.length_pos_iff.2 hne)
            exact ⟨b, off, rfl, h2, fun j hj m hm => h3 j (by omega) m hm⟩
          rw [hll] at hV
          exact hV
        · obtain ⟨j, hj, rfl⟩ := List.mem_iff_getElem.1 hx
          exact (hz j hj).2

set_option maxRecDepth 100000 in
/-- an argument of type api.Value -/
theorem open_val {base : Nat} {ts : List TypeId} {ds : List (DataW H)} {j : Nat} {v : Value} {d : DataW H} {p : List MemPlace} (hv : Value.okWide Tryz.prog W .any base 31 v) (h : DataW.Trod enc Tryz.prog W 0 (fun _ => true) true 31 v d p)
    (hsz : (DataW.weightsEach Tryz.prog ts ds).all (· ≤ reachBytes) = true) (ht : ts[j]? = some 31) (hd : ds[j]? = some d) : ∃ (u : Array Value) (x : V), v = .agg u ∧ VLies W u x ∧ x.wf ∧ ∀ d', chk d' x = 0 → (Tx.val text x).length + 2 ≤ 110 * Rows.uptoBulk d := by
  obtain ⟨cs, rfl, _⟩ := okWide_struct Tryz.underlying31 hv
  obtain ⟨fuel, hf⟩ := h
  obtain ⟨x, hx⟩ := open_value fuel _ d p hf (fun k hk => by
    have := List.all_eq_true.1 hsz k (DataW.weights_mem_each ht hd k hk)
    simpa using this)
  exact ⟨cs, x, rfl, by simpa [Value.cells] using hx⟩
set_option maxRecDepth 100000 in
/-- an argument of type api.Type -/
theorem open_ty {base : Nat} {ts : List TypeId} {ds : List (DataW H)} {j : Nat} {v : Value} {d : DataW H} {p : List MemPlace} (hv : Value.okWide Tryz.prog W .any base 24 v) (h : DataW.Trod enc Tryz.prog W 0 (fun _ => true) true 24 v d p)
    (hsz : (DataW.weightsEach Tryz.prog ts ds).all (· ≤ reachBytes) = true) (ht : ts[j]? = some 24) (hd : ds[j]? = some d) : ∃ (u : Array Value) (x : Ty), v = .agg u ∧ TLies W u x ∧ x.wf := by
  obtain ⟨cs, rfl, _⟩ := okWide_struct Tryz.underlying24 hv
  obtain ⟨fuel, hf⟩ := h
  obtain ⟨x, hx⟩ := open_type fuel _ d p hf (fun k hk => by
    have := List.all_eq_true.1 hsz k (DataW.weights_mem_each ht hd k hk)
    simpa using this)
  exact ⟨cs, x, rfl, by simpa [Value.cells] using hx⟩
end
end Go.Proofs.YtpjcmahlnnglcaaGreatDoor

/- An argument of type api.Schema, opened: the columns that lie there, within their bounds. -/
namespace Go.Proofs.YtpjcmahlnnglcaaGreatDoor
open Go.ChangeShapes Go.WideShapes Go.ChangeAt Go.RowKit Go.Deep

section
variable {H : Type} {enc : TypeId × Value → H} {W : World}

set_option maxRecDepth 100000 in
theorem open_col (fuel : Nat) (cs : List Value) (D : DataW H) (Pl : List MemPlace) (h : DataW.trod enc Tryz.prog W 0 (fun _ => true) true fuel 50 cs = some (D, Pl)) (hw : ∀ k ∈ D.weights Tryz.prog 50, k ≤ reachBytes) : ∃ x, CLies W cs.toArray x ∧ x.wf := by
  obtain ⟨xs, n, rfl, hx, hl, hlen, hf⟩ := DataW.trod_struct Tryz.underlying50 h
  have hc5 : Tryz.prog.cellsOf 50 = 9 := by kernel_rfl
  have er : reachBytes = 140737488351232 := by decide
  rw [hc5] at hl
  match cs, hl, xs, hlen with
  | [v0, v1, v2, v3, v4, v5, v6, v7, v8], _, [y0, y1, y2, y3], _ =>
    have c0 : Tryz.prog.cellsOf 9 = 1 := by kernel_rfl
    have c1 : Tryz.prog.cellsOf 24 = 2 := by kernel_rfl
    have c2 : Tryz.prog.cellsOf 4 = 1 := by kernel_rfl
    have c3 : Tryz.prog.cellsOf 31 = 5 := by kernel_rfl
    have h0 : DataW.trod enc Tryz.prog W 0 (fun _ => true) true n 9 [v0] = some y0 := by have := hf 0 _ rfl; simpa [c0] using this
    have h1 : DataW.trod enc Tryz.prog W 0 (fun _ => true) true n 24 [v1, v2] = some y1 := by have := hf 1 _ rfl; simpa [c1] using this
    have h2 : DataW.trod enc Tryz.prog W 0 (fun _ => true) true n 4 [v3] = some y2 := by have := hf 2 _ rfl; simpa [c2] using this
    have h3 : DataW.trod enc Tryz.prog W 0 (fun _ => true) true n 31 [v4, v5, v6, v7, v8] = some y3 := by have := hf 3 _ rfl; simpa [c3] using this
    obtain ⟨n0, hn0, hy0, _⟩ := DataW.trod_string Tryz.underlying9 h0
    obtain ⟨n3, hn3, _⟩ := DataW.trod_bool Tryz.underlying4 h2
    simp only [List.cons.injEq, and_true] at hn0 hn3
    subst hn0 hn3
    simp only [Prod.mk.injEq] at hx
    obtain ⟨rfl, _⟩ := hx
    have hs0 : n0.size ≤ 140737488351232 := by
      have := hw n0.data.toList.length (by
        simp [DataW.weights, DataW.weightsEach, Tryz.underlying50, hy0])
      rw [er] at this
      simpa using this
    obtain ⟨ty, hty, wty⟩ := open_type n _ y1.1 y1.2 h1 (fun k hk => hw k (by
      simp [DataW.weights, DataW.weightsEach, Tryz.underlying50]
      right; left
      exact hk))
    obtain ⟨dv, hdv, wdv, -⟩ := open_value n _ y3.1 y3.2 h3 (fun k hk => hw k (by
      simp [DataW.weights, DataW.weightsEach, Tryz.underlying50]
      right; right; right
      exact hk))
    obtain ⟨k, p, c, ts, _, e1, rfl, _⟩ := hty.inv
    obtain ⟨vk, vi, vb, vt, vp, vc, vs, _, e2, rfl, _⟩ := hdv.inv
    simp only [cells2] at e1
    simp only [cells5] at e2
    obtain ⟨rfl, rfl⟩ := e1
    obtain ⟨rfl, rfl, rfl, rfl, rfl⟩ := e2
    exact ⟨⟨n0, .mk k ts, n3, .mk vk vi vb vt vs⟩, ⟨k, p, ts.length, c, vk, vi, vb, vt, vp, vs.length, vc, rfl, hty, hdv⟩, hs0, wty, wdv⟩

theorem open_cols {a : Addr} {len : Nat} (each : ∀ i, i < len → ∃ z : List Value × Col, W.cells? 0 (a.add (i * 9)) 9 = some z.1 ∧ CLies W z.1.toArray z.2 ∧ z.2.wf) : ∃ s : List Col, s.length = len ∧ Cols W (some a) s ∧ ∀ x ∈ s, x.wf := by
  haveI : Inhabited Col := ⟨⟨⟨#[]⟩, .mk 0 [], false, .mk 0 0 0 ⟨#[]⟩ []⟩⟩
  obtain ⟨us, zs, hll, hp, hz⟩ := choose_row (L := fun u x => CLies W u x ∧ x.wf) (by decide) each
  refine ⟨zs, hll, fun j hj => ?_, fun x hx => ?_⟩
  · obtain ⟨b, off, rfl, h2, h3⟩ := hp (by omega)
    refine ⟨us j, (hz j hj).1, ?_⟩
    obtain ⟨k, tp, tn, tc, vk, vi, vb, vt, vp, vn, vc, g1, g2, g3⟩ := (hz j hj).1.out
    have h9 : ∀ m, m < 9 → W.cell? ⟨b, off + j * 9 + m, none⟩ = (cells9 zs[j].name k tp tn tc zs[j].has vk vi vb vt vp vn vc)[m]? := fun m hm => by rw [h3 j (by omega) m hm, g1]
    exact ⟨b, off, _, k, tp, tn, tc, _, vk, vi, vb, vt, vp, vn, vc, rfl, h2, g1, h9 0 (by decide), h9 1 (by decide), h9 2 (by decide), h9 3 (by decide), h9 4 (by decide), h9 5 (by decide), h9 6 (by decide), h9 7 (by decide), h9 8 (by decide)⟩
  · obtain ⟨j, hj, rfl⟩ := List.mem_iff_getElem.1 hx
    exact (hz j hj).2

set_option maxRecDepth 100000 in
theorem open_schema (fuel : Nat) (cs : List Value) (D : DataW H) (Pl : List MemPlace) (h : DataW.trod enc Tryz.prog W 0 (fun _ => true) true fuel 27 cs = some (D, Pl)) (hw : ∀ k ∈ D.weights Tryz.prog 27, k ≤ reachBytes) : ∃ (p : Option Addr) (c : Nat) (s : List Col), cs = [.slice p s.length c] ∧ s.length * 120 ≤ 140737488351232 ∧ s.length ≤ c ∧ Cols W p s ∧ ∀ x ∈ s, x.wf := by
  obtain ⟨xs, n, rfl, hx, hl, hlen, hf⟩ := DataW.trod_struct Tryz.underlying27 h
  have hc1 : Tryz.prog.cellsOf 27 = 1 := by kernel_rfl
  have hc9 : Tryz.prog.cellsOf 50 = 9 := by kernel_rfl
  have hb120 : Tryz.prog.bytesOf 50 = 120 := by kernel_rfl
  have er : reachBytes = 140737488351232 := by decide
  rw [hc1] at hl
  match cs, hl, xs, hlen with
  | [v0], _, [y0], _ =>
    have c0 : Tryz.prog.cellsOf 25 = 1 := by kernel_rfl
    have h0 : DataW.trod enc Tryz.prog W 0 (fun _ => true) true n 25 [v0] = some y0 := by have := hf 0 _ rfl; simpa [c0] using this
    simp only [Prod.mk.injEq] at hx
    obtain ⟨rfl, _⟩ := hx
    have hw4 : ∀ k ∈ y0.1.weights Tryz.prog 25, k ≤ reachBytes := fun k hk => hw k (by
      simp [DataW.weights, DataW.weightsEach, Tryz.underlying27]
      exact hk)
    rcases DataW.trod_slice Tryz.underlying25 h0 with ⟨hcs, _⟩ | ⟨a, len, cap, elems, rest, n', rfl, hcs, hy, _, hlc, _, hel, hat, _⟩
    · simp only [List.cons.injEq, and_true] at hcs
      subst hcs
      exact ⟨none, 0, [], rfl, by decide, Nat.le_refl _, fun j hj => absurd hj (Nat.not_lt_zero _), fun x hx => by cases hx⟩
    · simp only [List.cons.injEq, and_true] at hcs
      subst hcs
      rw [hy] at hw4
      have hbd : len * 120 ≤ 140737488351232 := by
        have := hw4 ((elems.length + rest.length) * Tryz.prog.bytesOf 50) (by simp [DataW.weights, Tryz.underlying25])
        rw [hb120, er] at this
        omega
      obtain ⟨s, h1, h2, h3⟩ := open_cols (W := W) (a := a) (len := len) (fun i hi => by
        have h5 := hat i hi
        rw [hc9] at h5
        obtain ⟨y, hy2⟩ : ∃ y, elems[i]? = some y := ⟨elems[i]'(by omega), List.getElem?_eq_getElem (by omega)⟩
        rw [hy2] at h5
        obtain ⟨cs', g1, g2⟩ := Option.bind_eq_some_iff.1 h5
        obtain ⟨x, hx⟩ := open_col n' cs' y.1 y.2 g2 (fun k hk => hw4 k (by
          simp only [DataW.weights, Tryz.underlying25]
          refine List.mem_cons_of_mem _ (List.mem_append_left _ (weightsAll_mem (i := i) (d := y.1) ?_ k hk))
          simp [hy2]))
        exact ⟨⟨cs', x⟩, g1, hx⟩)
      subst h1
      exact ⟨some a, cap, s, rfl, hbd, hlc, h2, h3⟩

set_option maxRecDepth 100000 in
/-- an argument of type api.Schema -/
theorem open_sch {base : Nat} {ts : List TypeId} {ds : List (DataW H)} {j : Nat} {v : Value} {d : DataW H} {p : List MemPlace} (hv : Value.okWide Tryz.prog W .any base 27 v) (h : DataW.Trod enc Tryz.prog W 0 (fun _ => true) true 27 v d p)
    (hsz : (DataW.weightsEach Tryz.prog ts ds).all (· ≤ reachBytes) = true) (ht : ts[j]? = some 27) (hd : ds[j]? = some d) : ∃ (q : Option Addr) (c : Nat) (s : List Col), v = .agg #[.slice q s.length c] ∧ s.length * 120 ≤ 140737488351232 ∧ s.length ≤ c ∧ Cols W q s ∧ ∀ x ∈ s, x.wf := by
  obtain ⟨cs, rfl, _⟩ := okWide_struct Tryz.underlying27 hv
  obtain ⟨fuel, hf⟩ := h
  obtain ⟨q, c, s, e, h2⟩ := open_schema fuel _ d p hf (fun k hk => by
    have := List.all_eq_true.1 hsz k (DataW.weights_mem_each ht hd k hk)
    simpa using this)
  refine ⟨q, c, s, ?_, h2⟩
  have e' : cs = #[.slice q s.length c] := by
    have : cs.toList = [.slice q s.length c] := by simpa [Value.cells] using e
    rw [← Array.toArray_toList (xs := cs), this]
  rw [e']
end
end Go.Proofs.YtpjcmahlnnglcaaGreatDoor

/- An argument of type api.Row, opened: the values that lie there, within their bounds. -/
namespace Go.Proofs.YtpjcmahlnnglcaaGreatDoor
open Go.ChangeShapes Go.WideShapes Go.ChangeAt Go.RowKit Go.Deep

/-- values lie in a row -/
def RLies (w : World) (q : Option Addr) (c : Nat) (vs : List V) : Prop := VLies w (cells5 0 0 0 ⟨#[]⟩ q vs.length c) (.mk 0 0 0 ⟨#[]⟩ vs) ∧ ∀ v ∈ vs, v.wf
theorem RLies.items {w : World} {q : Option Addr} {c : Nat} {vs : List V} (h : RLies w q c vs) : vs.length * 64 ≤ 140737488351232 ∧ vs.length ≤ c ∧ Items w q vs := by
  obtain ⟨p, c', he, h1, h2, h3⟩ := h.1.open
  unfold cells5 at he
  simp at he
  obtain ⟨rfl, rfl⟩ := he
  exact ⟨h1, h2, h3⟩

section
variable {H : Type} {enc : TypeId × Value → H} {W : World}

set_option maxRecDepth 100000 in
theorem open_row8 (fuel : Nat) (cs : List Value) (D : DataW H) (Pl : List MemPlace) (h : DataW.trod enc Tryz.prog W 0 (fun _ => true) true fuel 33 cs = some (D, Pl)) (hw : ∀ k ∈ D.weights Tryz.prog 33, k ≤ reachBytes) : ∃ (p : Option Addr) (c : Nat) (s : List V), cs = [.slice p s.length c] ∧ RLies W p c s ∧ (rowErr s = 0 → (Tx.row text s).length ≤ 110 * Rows.uptoBulk D) ∧ s.length ≤ Rows.uptoBulk D := by
  obtain ⟨xs, n, rfl, hx, hl, hlen, hf⟩ := DataW.trod_struct Tryz.underlying33 h
  have hc1 : Tryz.prog.cellsOf 33 = 1 := by kernel_rfl
  have hc5 : Tryz.prog.cellsOf 31 = 5 := by kernel_rfl
  have hb64 : Tryz.prog.bytesOf 31 = 64 := by kernel_rfl
  have er : reachBytes = 140737488351232 := by decide
  rw [hc1] at hl
  match cs, hl, xs, hlen with
  | [v0], _, [y0], _ =>
    have c0 : Tryz.prog.cellsOf 29 = 1 := by kernel_rfl
    have h0 : DataW.trod enc Tryz.prog W 0 (fun _ => true) true n 29 [v0] = some y0 := by have := hf 0 _ rfl; simpa [c0] using this
    simp only [Prod.mk.injEq] at hx
    obtain ⟨rfl, _⟩ := hx
    have hw4 : ∀ k ∈ y0.1.weights Tryz.prog 29, k ≤ reachBytes := fun k hk => hw k (by
      simp [DataW.weights, DataW.weightsEach, Tryz.underlying33]
      exact hk)
    rcases DataW.trod_slice Tryz.underlying29 h0 with ⟨hcs, _⟩ | ⟨a, len, cap, elems, rest, n', rfl, hcs, hy, _, hlc, _, hel, hat, _⟩
    · simp only [List.cons.injEq, and_true] at hcs
      subst hcs
      exact ⟨none, 0, [], rfl, ⟨vl_leaf W 0 0 0 ⟨#[]⟩ none 0, fun x hx => by cases hx⟩, fun _ => by simp [Tx.row, Tx.join], Nat.zero_le _⟩
    · simp only [List.cons.injEq, and_true] at hcs
      subst hcs
      rw [hy] at hw4
      have hbd : len * 64 ≤ 140737488351232 := by
        have := hw4 ((elems.length + rest.length) * Tryz.prog.bytesOf 31) (by simp [DataW.weights, Tryz.underlying29])
        rw [hb64, er] at this
        omega
      have each : ∀ i, i < len → ∃ z : List Value × V, W.cells? 0 (a.add (i * 5)) 5 = some z.1 ∧ VLies W z.1.toArray z.2 ∧ z.2.wf ∧ ∀ y, elems[i]? = some y → ∀ d, chk d z.2 = 0 → (Tx.val text z.2).length + 2 ≤ 110 * Rows.uptoBulk y.1 := by
        intro i hi
        have h5 := hat i hi
        rw [hc5] at h5
        obtain ⟨y, hy2⟩ : ∃ y, elems[i]? = some y := ⟨elems[i]'(by omega), List.getElem?_eq_getElem (by omega)⟩
        rw [hy2] at h5
        obtain ⟨cs', g1, g2⟩ := Option.bind_eq_some_iff.1 h5
        obtain ⟨x, hx⟩ := open_value n' cs' y.1 y.2 g2 (fun k hk => hw4 k (by
          simp only [DataW.weights, Tryz.underlying29]
          refine List.mem_cons_of_mem _ (List.mem_append_left _ (weightsAll_mem (i := i) (d := y.1) ?_ k hk))
          simp [hy2]))
        refine ⟨⟨cs', x⟩, g1, hx.1, hx.2.1, fun y' hy' => ?_⟩
        rw [hy2] at hy'
        injection hy' with hy'
        subst hy'
        exact hx.2.2
      haveI : Inhabited V := ⟨.mk 0 0 0 ⟨#[]⟩ []⟩
      obtain ⟨us, zs, hll, hp, hz⟩ := choose_rowI (L := fun i u x => VLies W u x ∧ x.wf ∧ ∀ y, elems[i]? = some y → ∀ d, chk d x = 0 → (Tx.val text x).length + 2 ≤ 110 * Rows.uptoBulk y.1) (by decide) each
      subst hll
      have hB : Rows.uptoBulkAll (elems.map (·.1)) ≤ Rows.uptoBulk y0.1 := by
        rw [hy]
        simp only [Rows.uptoBulk]
        omega
      have hB2 : Rows.uptoBulk y0.1 ≤ Rows.uptoBulk (DataW.agg ([y0].map (·.1))) := by
        simp only [List.map_cons, List.map_nil, Rows.uptoBulk, Rows.uptoBulkAll]
        omega
      have hB3 : Rows.uptoBulkAll (elems.map (·.1)) ≤ Rows.uptoBulk (DataW.agg ([y0].map (·.1))) := Nat.le_trans hB hB2
      refine ⟨some a, cap, zs, rfl, ⟨?_, fun x hx => ?_⟩, fun he => ?_, ?_⟩
      · refine .mk us hbd hlc (fun hne => ?_) (fun j hj => (hz j hj).1)
        obtain ⟨b, off, rfl, h2, h3⟩ := hp (List.length_pos_iff.2 hne)
        exact ⟨b, off, rfl, h2, fun j hj m hm => h3 j (by omega) m hm⟩
      · obtain ⟨j, hj, rfl⟩ := List.mem_iff_getElem.1 hx
        exact (hz j hj).2.1
      · have hj := join_bulk zs (elems.map (·.1)) (by rw [List.length_map]; omega) (fun j h1 h2 => by
          have hj2 : j < elems.length := by simpa using h2
          have := (hz j h1).2.2 elems[j] (List.getElem?_eq_getElem hj2) 1 (rowErr_all zs he _ (List.getElem_mem h1))
          simpa using this)
        unfold Tx.row
        exact Nat.le_trans hj (Nat.mul_le_mul_left _ hB3)
      · have := bulkAll_len (elems.map (·.1))
        rw [List.length_map] at this
        omega
set_option maxRecDepth 100000 in
/-- an argument of type api.Row -/
theorem open_row {base : Nat} {ts : List TypeId} {ds : List (DataW H)} {j : Nat} {v : Value} {d : DataW H} {p : List MemPlace} (hv : Value.okWide Tryz.prog W .any base 33 v) (h : DataW.Trod enc Tryz.prog W 0 (fun _ => true) true 33 v d p)
    (hsz : (DataW.weightsEach Tryz.prog ts ds).all (· ≤ reachBytes) = true) (ht : ts[j]? = some 33) (hd : ds[j]? = some d) : ∃ (q : Option Addr) (c : Nat) (s : List V), v = .agg #[.slice q s.length c] ∧ RLies W q c s ∧ (rowErr s = 0 → (Tx.row text s).length ≤ 110 * Rows.uptoBulk d) ∧ s.length ≤ Rows.uptoBulk d := by
  obtain ⟨cs, rfl, _⟩ := okWide_struct Tryz.underlying33 hv
  obtain ⟨fuel, hf⟩ := h
  obtain ⟨q, c, s, e, h2⟩ := open_row8 fuel _ d p hf (fun k hk => by
    have := List.all_eq_true.1 hsz k (DataW.weights_mem_each ht hd k hk)
    simpa using this)
  refine ⟨q, c, s, ?_, h2⟩
  have e' : cs = #[.slice q s.length c] := by
    have : cs.toList = [.slice q s.length c] := by simpa [Value.cells] using e
    rw [← Array.toArray_toList (xs := cs), this]
  rw [e']
end
end Go.Proofs.YtpjcmahlnnglcaaGreatDoor
