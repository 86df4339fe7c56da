/- RB8, RBL, RowsN, W11D: put together. -/
import Derived.Test.YtpkbdnilakaakaaGreatM54
import Derived.Test.YtpkbdnilakaakaaGreatM53
import Derived.Test.YtpkbdnilakaakaaGreatM52
import Derived.Deep.DeepHandedRow
import Derived.LaidMore
import Derived.Stop.Joined
import Derived.Test.YtpkbdnilakaakaaGreatM48
import Derived.Test.YtpkbdnilakaakaaGreatM33
import Derived.Test.YtpkbdnilakaakaaGreatM40
import Derived.Test.YtpkbdnilakaakaaGreatM25
import Derived.Test.YtpkbdnilakaakaaGreatM06
import Derived.Test.YtpkbdnilakaakaaGreatM09
import Derived.Deep.RegionHeld3

/- An argument of type api.Row, []api.Row, or the struct Both, opened. -/
namespace Go.Proofs.YtpkbdnilakaakaaGreat
open Go.ChangeShapes Go.WideShapes Go.ChangeAt Go.RowKit Go.Deep

section
variable {H : Type} {enc : TypeId × Value → H} {W : World}

set_option maxRecDepth 100000 in
theorem open_row8 (fuel : Nat) (cs : List Value) (D : DataW H) (Pl : List MemPlace) (h : DataW.trod enc Tryz.prog W 0 (fun _ => true) true fuel 41 cs = some (D, Pl)) (hw : ∀ k ∈ D.weights Tryz.prog 41, k ≤ reachBytes) : ∃ (p : Option Addr) (c : Nat) (s : List V), cs = [.slice p s.length c] ∧ RLies W p c s := by
  obtain ⟨xs, n, rfl, hx, hl, hlen, hf⟩ := DataW.trod_struct Tryz.underlying41 h
  have hc1 : Tryz.prog.cellsOf 41 = 1 := by kernel_rfl
  have hc5 : Tryz.prog.cellsOf 44 = 5 := by kernel_rfl
  have hb64 : Tryz.prog.bytesOf 44 = 64 := by kernel_rfl
  have er : reachBytes = 140737488351232 := by decide
  rw [hc1] at hl
  match cs, hl, xs, hlen with
  | [v0], _, [y0], _ =>
    have c0 : Tryz.prog.cellsOf 39 = 1 := by kernel_rfl
    have h0 : DataW.trod enc Tryz.prog W 0 (fun _ => true) true n 39 [v0] = some y0 := by have := hf 0 _ rfl; simpa [c0] using this
    simp only [Prod.mk.injEq] at hx
    obtain ⟨rfl, _⟩ := hx
    have hw4 : ∀ k ∈ y0.1.weights Tryz.prog 39, k ≤ reachBytes := fun k hk => hw k (by
      simp [DataW.weights, DataW.weightsEach, Tryz.underlying41]
      exact hk)
    rcases DataW.trod_slice Tryz.underlying39 h0 with ⟨hcs, _⟩ | ⟨a, len, cap, elems, rest, n', rfl, hcs, hy, _, hlc, _, hel, hat, _⟩
    · simp only [List.cons.injEq, and_true] at hcs
      subst hcs
      exact ⟨none, 0, [], rfl, vl_leafB W 0 0 0 ⟨#[]⟩ none 0, fun x hx => by cases hx⟩
    · simp only [List.cons.injEq, and_true] at hcs
      subst hcs
      rw [hy] at hw4
      have hbd : len * 64 ≤ 140737488351232 := by
        have := hw4 ((elems.length + rest.length) * Tryz.prog.bytesOf 44) (by simp [DataW.weights, Tryz.underlying39])
        rw [hb64, er] at this
        omega
      have each : ∀ i, i < len → ∃ z : List Value × V, W.cells? 0 (a.add (i * 5)) 5 = some z.1 ∧ VLies W z.1.toArray z.2 ∧ z.2.wf := by
        intro i hi
        have h5 := hat i hi
        rw [hc5] at h5
        obtain ⟨y, hy2⟩ : ∃ y, elems[i]? = some y := ⟨elems[i]'(by omega), List.getElem?_eq_getElem (by omega)⟩
        rw [hy2] at h5
        obtain ⟨cs', g1, g2⟩ := Option.bind_eq_some_iff.1 h5
        obtain ⟨x, hx⟩ := open_value n' cs' y.1 y.2 g2 (fun k hk => hw4 k (by
          simp only [DataW.weights, Tryz.underlying39]
          refine List.mem_cons_of_mem _ (List.mem_append_left _ (weightsAll_mem (i := i) (d := y.1) ?_ k hk))
          simp [hy2]))
        exact ⟨⟨cs', x⟩, g1, hx⟩
      haveI : Inhabited V := ⟨.mk 0 0 0 ⟨#[]⟩ []⟩
      obtain ⟨us, zs, hll, hp, hz⟩ := choose_row (L := fun u x => VLies W u x ∧ x.wf) (by decide) each
      subst hll
      refine ⟨some a, cap, zs, rfl, ?_, fun x hx => ?_⟩
      · refine .mk us hbd hlc (fun hne => ?_) (fun j hj => (hz j hj).1)
        obtain ⟨b, off, rfl, h2, h3⟩ := hp (List.length_pos_iff.2 hne)
        exact ⟨b, off, rfl, h2, fun j hj m hm => h3 j (by omega) m hm⟩
      · obtain ⟨j, hj, rfl⟩ := List.mem_iff_getElem.1 hx
        exact (hz j hj).2
set_option maxRecDepth 100000 in
/-- an argument of type api.Row -/
theorem open_row {base : Nat} {ts : List TypeId} {ds : List (DataW H)} {j : Nat} {v : Value} {d : DataW H} {p : List MemPlace} (hv : Value.okWide Tryz.prog W .any base 41 v) (h : DataW.Trod enc Tryz.prog W 0 (fun _ => true) true 41 v d p)
    (hsz : (DataW.weightsEach Tryz.prog ts ds).all (· ≤ reachBytes) = true) (ht : ts[j]? = some 41) (hd : ds[j]? = some d) : ∃ (q : Option Addr) (c : Nat) (s : List V), v = .agg #[.slice q s.length c] ∧ RLies W q c s := by
  obtain ⟨cs, rfl, _⟩ := okWide_struct Tryz.underlying41 hv
  obtain ⟨fuel, hf⟩ := h
  obtain ⟨q, c, s, e, h2⟩ := open_row8 fuel _ d p hf (fun k hk => by
    have := List.all_eq_true.1 hsz k (DataW.weights_mem_each ht hd k hk)
    simpa using this)
  refine ⟨q, c, s, ?_, h2⟩
  have e' : cs = #[.slice q s.length c] := by
    have : cs.toList = [.slice q s.length c] := by simpa [Value.cells] using e
    rw [← Array.toArray_toList (xs := cs), this]
  rw [e']
set_option maxRecDepth 100000 in
theorem open_rowsF (fuel : Nat) (v : Value) (D : DataW H) (Pl : List MemPlace) (h : DataW.trod enc Tryz.prog W 0 (fun _ => true) true fuel 25 [v] = some (D, Pl)) (hw : ∀ k ∈ D.weights Tryz.prog 25, k ≤ reachBytes) : ∃ (q : Option Addr) (c : Nat) (l : List (List V)), v = .slice q l.length c ∧ RowsL W q c l := by
  have hc1 : Tryz.prog.cellsOf 41 = 1 := by kernel_rfl
  have hb24 : Tryz.prog.bytesOf 41 = 24 := by kernel_rfl
  have er : reachBytes = 140737488351232 := by decide
  rcases DataW.trod_slice Tryz.underlying25 h with ⟨hcs, _⟩ | ⟨a, len, cap, elems, rest, n', rfl, hcs, hy, _, hlc, _, hel, hat, _⟩
  · simp only [List.cons.injEq, and_true] at hcs
    subst hcs
    exact ⟨none, 0, [], rfl, by simp, by simp, fun j hj => by simp at hj⟩
  · simp only [List.cons.injEq, and_true] at hcs
    subst hcs
    have hy1 : D = .slice (elems.map (·.1)) (rest.map (·.1)) := by simpa using congrArg Prod.fst hy
    rw [hy1] at hw
    have hbd : len * 24 ≤ 140737488351232 := by
      have := hw (((elems.map (·.1)).length + (rest.map (·.1)).length) * Tryz.prog.bytesOf 41) (by simp [DataW.weights, Tryz.underlying25])
      rw [hb24, er] at this
      simp only [List.length_map] at this
      omega
    have each : ∀ i, i < len → ∃ z : List Value × List V, W.cells? 0 (a.add (i * 1)) 1 = some z.1 ∧ (∃ p c, z.1.toArray = #[.slice p z.2.length c] ∧ RLies W p c z.2) := by
      intro i hi
      have h5 := hat i hi
      rw [hc1] at h5
      obtain ⟨y, hy2⟩ : ∃ y, elems[i]? = some y := ⟨elems[i]'(by omega), List.getElem?_eq_getElem (by omega)⟩
      rw [hy2] at h5
      obtain ⟨cs', g1, g2⟩ := Option.bind_eq_some_iff.1 h5
      obtain ⟨p', c', s', e', hr'⟩ := open_row8 n' cs' y.1 y.2 g2 (fun k hk => hw k (by
        simp only [DataW.weights, Tryz.underlying25]
        refine List.mem_cons_of_mem _ (List.mem_append_left _ (weightsAll_mem (i := i) (d := y.1) ?_ k hk))
        simp [hy2]))
      exact ⟨⟨cs', s'⟩, g1, p', c', by rw [e'], hr'⟩
    obtain ⟨us, zs, hll, hp, hz⟩ := choose_row (L := fun u (x : List V) => ∃ p c, u = #[.slice p x.length c] ∧ RLies W p c x) (by decide) each
    subst hll
    refine ⟨some a, cap, zs, rfl, hbd, hlc, fun j hj => ?_⟩
    obtain ⟨b, off, rfl, h2, h3⟩ := hp (by omega)
    obtain ⟨p', c', e', hr'⟩ := hz j hj
    refine ⟨b, off, p', c', rfl, h2, ?_, hr'⟩
    have := h3 j hj 0 (by decide)
    rw [e'] at this
    simpa using this
/-- an argument of type []api.Row -/
theorem open_rows {ts : List TypeId} {ds : List (DataW H)} {j : Nat} {a0 : Option Addr} {len cap : Nat} {d : DataW H} {p : List MemPlace} (h : DataW.Trod enc Tryz.prog W 0 (fun _ => true) true 25 (.slice a0 len cap) d p)
    (hsz : (DataW.weightsEach Tryz.prog ts ds).all (· ≤ reachBytes) = true) (ht : ts[j]? = some 25) (hd : ds[j]? = some d) :
    ∃ l : List (List V), len = l.length ∧ RowsL W a0 cap l := by
  obtain ⟨fuel, hf⟩ := h
  obtain ⟨q, c, l, e, hr⟩ := open_rowsF fuel _ d p (by simpa [Value.cells] using hf) (fun k hk => by
    have := List.all_eq_true.1 hsz k (DataW.weights_mem_each ht hd k hk)
    simpa using this)
  injection e with e1 e2 e3
  subst e1 e3
  exact ⟨l, e2, hr⟩
set_option maxRecDepth 100000 in
/-- an argument of type Both -/
theorem open_both {base : Nat} {ts : List TypeId} {ds : List (DataW H)} {j : Nat} {v : Value} {d : DataW H} {p : List MemPlace} (hv : Value.okWide Tryz.prog W .any base 47 v) (h : DataW.Trod enc Tryz.prog W 0 (fun _ => true) true 47 v d p)
    (hsz : (DataW.weightsEach Tryz.prog ts ds).all (· ≤ reachBytes) = true) (ht : ts[j]? = some 47) (hd : ds[j]? = some d) :
    ∃ (p : Option Addr) (c : Nat) (s : List Col) (q : Option Addr) (d : Nat) (l : List (List V)) (r : Option Addr) (e : Nat) (b : List UInt8) (n m : Int), v = .agg #[.slice p s.length c, .slice q l.length d, .slice r b.length e, .int .i64 n, .int .i64 m] ∧ BothL W p c s q d l r e b := by
  obtain ⟨cs0, rfl, _⟩ := okWide_struct Tryz.underlying47 hv
  obtain ⟨fuel, hf0⟩ := h
  have hw : ∀ k ∈ d.weights Tryz.prog 47, k ≤ reachBytes := fun k hk => by
    have := List.all_eq_true.1 hsz k (DataW.weights_mem_each ht hd k hk)
    simpa using this
  obtain ⟨cs, hcs⟩ : ∃ cs, cs = (Value.agg cs0).cells.toList := ⟨_, rfl⟩
  rw [← hcs] at hf0
  obtain ⟨xs, n, rfl, hx, hl, hlen, hf⟩ := DataW.trod_struct Tryz.underlying47 hf0
  have hc5 : Tryz.prog.cellsOf 47 = 5 := by kernel_rfl
  have er : reachBytes = 140737488351232 := by decide
  rw [hc5] at hl
  match cs, hl, xs, hlen with
  | [v0, v1, v2, v3, v4], _, [y0, y1, y2, y3, y4], _ =>
    have c0 : Tryz.prog.cellsOf 24 = 1 := by kernel_rfl
    have c1 : Tryz.prog.cellsOf 25 = 1 := by kernel_rfl
    have c2 : Tryz.prog.cellsOf 29 = 1 := by kernel_rfl
    have c3 : Tryz.prog.cellsOf 3 = 1 := by kernel_rfl
    have h0 : DataW.trod enc Tryz.prog W 0 (fun _ => true) true n 24 [v0] = some y0 := by have := hf 0 _ rfl; simpa [c0] using this
    have h1 : DataW.trod enc Tryz.prog W 0 (fun _ => true) true n 25 [v1] = some y1 := by have := hf 1 _ rfl; simpa [c1] using this
    have h2 : DataW.trod enc Tryz.prog W 0 (fun _ => true) true n 29 [v2] = some y2 := by have := hf 2 _ rfl; simpa [c2] using this
    have h3 : DataW.trod enc Tryz.prog W 0 (fun _ => true) true n 3 [v3] = some y3 := by have := hf 3 _ rfl; simpa [c3] using this
    have h4 : DataW.trod enc Tryz.prog W 0 (fun _ => true) true n 3 [v4] = some y4 := by have := hf 4 _ rfl; simpa [c3] using this
    simp only [Prod.mk.injEq] at hx
    obtain ⟨rfl, _⟩ := hx
    obtain ⟨n3, hn3, _, _⟩ := DataW.trod_int Tryz.underlying3 h3
    obtain ⟨n4, hn4, _, _⟩ := DataW.trod_int Tryz.underlying3 h4
    simp only [List.cons.injEq, and_true] at hn3 hn4
    subst hn3 hn4
    obtain ⟨ps, cs', s, e1, b1, b2, b3, b4⟩ := open_schema n _ y0.1 y0.2 h0 (fun k hk => hw k (by
      simp [DataW.weights, DataW.weightsEach, Tryz.underlying47]
      left
      exact hk))
    obtain ⟨pr, cr, l, e2, hrl⟩ := open_rowsF n _ y1.1 y1.2 h1 (fun k hk => hw k (by
      simp [DataW.weights, DataW.weightsEach, Tryz.underlying47]
      right; left
      exact hk))
    have hw2 : ∀ k ∈ y2.1.weights Tryz.prog 29, k ≤ reachBytes := fun k hk => hw k (by
      simp [DataW.weights, DataW.weightsEach, Tryz.underlying47]
      right; right; left
      exact hk)
    have hbyt : ∃ (r : Option Addr) (e : Nat) (b : List UInt8), v2 = .slice r b.length e ∧ At W r b ∧ b.length ≤ 140737488351232 ∧ b.length ≤ e := by
      have hsl := DataW.trod_slice Tryz.underlying29 h2
      rcases hsl with ⟨hcs2, _⟩ | ⟨a, len, cap, elems, rest, n', _, hcs2, hy, _, hlc, _, hel, _, _⟩
      · simp only [List.cons.injEq, and_true] at hcs2
        subst hcs2
        exact ⟨none, 0, [], rfl, .inl rfl, by simp, by simp⟩
      · simp only [List.cons.injEq, and_true] at hcs2
        subst hcs2
        obtain ⟨b, hb1, hb2, hb3, _, _⟩ := opened (enc := enc) (W := W) (d0 := y2.1) (p := y2.2) ⟨n, by simpa [Value.cells] using h2⟩
        refine ⟨some a, cap, b, by rw [hb1], hb2, ?_, by omega⟩
        have hy1 : y2.1 = .slice (elems.map (·.1)) (rest.map (·.1)) := by simpa using congrArg Prod.fst hy
        rw [hy1] at hw2
        have := hw2 (((elems.map (·.1)).length + (rest.map (·.1)).length) * Tryz.prog.bytesOf 5) (by simp [DataW.weights, Tryz.underlying29])
        rw [bytes8, er] at this
        simp only [List.length_map] at this
        omega
    obtain ⟨r, e, b, e3, g1, g2, g3⟩ := hbyt
    simp only [List.cons.injEq, and_true] at e1
    subst e1 e2 e3
    refine ⟨ps, cs', s, pr, cr, l, r, e, b, n3, n4, ?_, ⟨b1, b2, b3, b4⟩, hrl, g1, g2, g3⟩
    have e' : cs0.toList = [.slice ps s.length cs', .slice pr l.length cr, .slice r b.length e, .int .i64 n3, .int .i64 n4] := by simpa [Value.cells] using hcs.symm
    rw [← Array.toArray_toList (xs := cs0), e']
end
end Go.Proofs.YtpkbdnilakaakaaGreat

/- The rows of stage 11: no variable is listed (else as wip/crc/RowL.lean.t: Tie, Cards, what they give). -/
namespace Go.Proofs.YtpkbdnilakaakaaGreat
open Go.ChangeShapes Go.WideShapes Go.ChangeAt Go.RowKit

theorem laid_gives {W : World} (_ : laidMetH Tryz.prog [] W) : True := trivial
theorem door_met (os : Os) (args : Array Value) : laidMet Tryz.prog [] ((World.holding Tryz.prog os ⟨#[], #[], []⟩).forCall (fun _ _ => 0) ⟨#[], args, []⟩).memory :=
  laidMet_of_run' 8 (by kernel_rfl) (by kernel_rfl)
/-- a text's bytes, bounded by what the row's weights say -/
theorem str_sized {H : Type} {ts : List TypeId} {ds : List (DataW H)} {j : Nat} {t : TypeId} {s : ByteArray} (hsz : (DataW.weightsEach Tryz.prog ts ds).all (· ≤ reachBytes) = true) (ht : ts[j]? = some t) (hd : ds[j]? = some (.lit (.string s.data.toList))) : s.size ≤ 140737488351232 := by
  have := List.all_eq_true.1 hsz s.data.toList.length (DataW.weights_mem_each ht hd _ (by simp [DataW.weights]))
  have er : reachBytes = 140737488351232 := by decide
  rw [er] at this
  simpa using this
end Go.Proofs.YtpkbdnilakaakaaGreat

/- Package row's functions answer as batch asks. -/
namespace Go.Proofs.YtpkbdnilakaakaaGreat
open Go.RowKit
theorem rowsIn : RowsIn := ⟨fun s p c vs q d w h1 h2 => encodeRK s p c vs q d w h1 h2, fun s p c l q d a w h1 h2 h3 h4 h5 h6 => decodeRK s p c l q d a w h1 h2 h3 h4 h5 h6⟩
end Go.Proofs.YtpkbdnilakaakaaGreat

/- The law's own alike(a, b); the document's Bytes, Size. -/
namespace Go.Proofs.YtpkbdnilakaakaaGreat
open Go.RowKit

attribute [local go_sem] run_store_float

set_option maxRecDepth 100000 in
set_option maxHeartbeats 2000000 in
theorem alikeRowsK (l k : List (List V)) (hlk : k.length = l.length) (hs : ∀ j (h1 : j < l.length) (h2 : j < k.length), V.sameL l[j] k[j] = true) (p q : Option Addr) (c d : Nat) (w : World) (hp : RowsL w p c l) (hq : RowsL w q d k) :
    Calls Tryz.prog 15 #[.slice p l.length c, .slice q k.length d] w fun e w' => e = .returned (.bool true) ∧ Below w.heap.size w w' := by
  have hlen := hp.len
  have HP := Lib.hid hp
  have HQ := Lib.hid hq
  have HSm := Lib.hid hs
  rw [hlk]
  have hk := Lib.hid hlk
  clear hp hq hs hlk
  go_enter Tryz.func15, Tryz.ntmps15
  go_wp2
  go_loopw [5] (fun v5 wr => ∃ j : Nat, j ≤ l.length ∧ v5 = .int .i64 j ∧ Hid (Below w.heap.size w wr)) (fun v5 _ => l.length - (intOf v5).toNat)
  case atStart => exact ⟨0, by omega, rfl, Below.refl _ _⟩
  case round =>
    obtain ⟨j, hj, rfl, HL⟩ := hrel
    by_cases hlt : j < l.length
    · have hlt2 : j < k.length := by rw [hk.out]; exact hlt
      obtain ⟨b1, o1, q1, d1, rfl, hb1, hc1, hr1⟩ := HP.out.rows j hlt
      obtain ⟨b2, o2, q2, d2, rfl, hb2, hc2, hr2⟩ := HQ.out.rows j hlt2
      have a1 := cell_on HL.out hc1
      have a2 := cell_on HL.out hc2
      have HC : Hid (∀ w', Below w.heap.size w w' → Calls Tryz.prog 27 #[.agg #[.slice q1 l[j].length d1], .agg #[.slice q2 k[j].length d2]] w' fun e w'' => e = .returned (.bool true) ∧ Below w'.heap.size w' w'') := fun w' hb => by
        have h := refSameRow6 l[j] k[j] w' q1 q2 d1 d2 (hr1.on hb).items.2.2 (hr2.on hb).items.2.2 hr1.items.1
        rw [HSm.out j hlt hlt2] at h
        exact h
      have hj1 : (j : Int) < (l.length : Int) := by omega
      have HBw := Lib.hid HL.out
      clear hc1 hc2 hr1 hr2 HL
      go_wp2_with fail
      go_region_held3 (fun w' => w'.cell? ⟨b1, o1 + j, none⟩ = some (.slice q1 l[j].length d1) ∧ w'.cell? ⟨b2, o2 + j, none⟩ = some (.slice q2 k[j].length d2)) (go_keep) (first
        | (go_at_call 27; refine (HC.out _ (below_drewN HBw.out _)).mono ?_; rintro e w4 ⟨rfl, hb4⟩; have hb5 := below_via (w := wr) hb4 (by rfl) (by rfl) (by rfl) (by rfl); have z1 := cell_on hb5 a1; have z2 := cell_on hb5 a2; have HB4 := Lib.hid hb5; clear hb4 hb5)
        | fail)
      clear z1 z2 a1 a2
      have HN := Lib.hid (HBw.out.trans (HB4.out.mono HBw.out.size))
      clear HB4
      go_wp2
      go_roundw
      case rel => exact ⟨j + 1, by omega, by go_num, HN⟩
      case measure => simp [intOf]; omega
    · have hjn : ¬ (j : Int) < (l.length : Int) := by omega
      clear hlt
      go_wp2
      go_ret
      exact ⟨rfl, HL.out⟩

set_option maxRecDepth 100000 in
set_option maxHeartbeats 2000000 in
theorem refBytesB (s : List Col) (p : Option Addr) (c : Nat) (l : List (List V)) (q : Option Addr) (d : Nat) (w : World) (hS : SchL w p c s) (hL : RowsL w q d l) :
    Calls Tryz.prog 12 #[.agg #[.slice p s.length c], .slice q l.length d] w (Told w (Bt.err s l) (Bt.out s l)) := by
  have hlen := hL.len
  obtain ⟨W0, hW0⟩ : ∃ W0, W0 = w.alloc (.cells #[.slice p s.length c] 24) := ⟨_, rfl⟩
  have hb0 : Below w.heap.size w W0 := by rw [hW0]; exact (Below.refl _ _).alloc (Nat.le_refl _) _
  have hk0 : W0.heap[w.heap.size]? = some (.cells #[.slice p s.length c] 24 (0, 0)) := by rw [hW0]; exact blk_new w _
  have hS0 := hS.on hb0
  have HC := Lib.hid (refCheck7 s p c W0 hS0.len hS0.cap hS0.cols hS0.wf)
  obtain ⟨R, hR⟩ : ∃ R, R = Bt.err s l := ⟨_, rfl⟩
  obtain ⟨O, hO⟩ : ∃ O, O = Bt.out s l := ⟨_, rfl⟩
  rw [← hR, ← hO]
  unfold Bt.out at hO
  rw [← hR] at hO
  have hR0 := hR
  unfold Bt.err Bt.numErr at hR
  obtain ⟨er, her⟩ : ∃ er, er = Sch.err s := ⟨_, rfl⟩
  rw [← her] at HC hR
  have HRR := Lib.hid hR
  have HO := Lib.hid hO
  have HB0 := Lib.hid hb0
  have HW := Lib.hid hW0
  have HK := Lib.hid hk0
  have HS := Lib.hid hS
  have HL := Lib.hid hL
  have HR0 := Lib.hid hR0
  clear hb0 hW0 hR hO her hS0 hS hL hk0 hR0
  go_enter Tryz.func12, Tryz.ntmps12
  go_wp2_with fail
  rw [← HW.out]
  refine HC.out.mono ?_
  rintro e w1 ⟨rfl, hb1⟩
  have HB1 := Lib.hid (HB0.out.trans (hb1.mono HB0.out.size))
  have n0 := boxed_cell (blk_on HK.out hb1 (blk_lt HK.out))
  have HK1 := Lib.hid (blk_on HK.out hb1 (blk_lt HK.out))
  clear hb1 HC HW HK
  by_cases h0 : er ≠ 0
  · have g0 : ((er : Int) != 0) = true := bne_t (by omega)
    have HE : Hid (R = er) := by
      show _ = _
      rw [HRR.out, if_pos h0, if_pos h0]
    have HOn : Hid (O = []) := by show _ = _; rw [HO.out, HE.out, if_neg h0]
    clear HRR h0 HO
    go_wp2
    go_ret2
    exact ⟨none, 0, by rw [HOn.out, HE.out]; rfl, by rw [HOn.out]; exact .inl rfl, by rw [HOn.out]; exact Nat.le_refl _, HB1.out⟩
  have g0 : ((er : Int) != 0) = false := bne_f (by omega)
  have HR1 := Lib.hid HRR.out
  rw [if_neg h0] at HR1
  clear HRR h0
  by_cases h1 : l.length = 0
  · have g1 : ((l.length : Int) == 0) = true := by rw [h1]; rfl
    have HE : Hid (R = 4) := by
      show _ = _
      rw [HR1.out, if_pos (show (l.length : Int) < 1 by omega), if_pos (by decide)]
    have HOn : Hid (O = []) := by show _ = _; rw [HO.out, HE.out, if_neg (by decide)]
    clear HR1 HO
    go_wp2
    go_ret2
    exact ⟨none, 0, by rw [HOn.out, HE.out]; rfl, by rw [HOn.out]; exact .inl rfl, by rw [HOn.out]; exact Nat.le_refl _, HB1.out⟩
  have g1 : ((l.length : Int) == 0) = false := by rw [beq_eq_false_iff_ne]; omega
  rw [if_neg (show ¬ (l.length : Int) < 1 by omega)] at HR1
  by_cases h2 : 64 < l.length
  · have g2 : (64 : Int) < (l.length : Int) := by omega
    have HE : Hid (R = 3) := by
      show _ = _
      rw [HR1.out, if_pos (show 64 < (l.length : Int) by omega), if_pos (by decide)]
    have HOn : Hid (O = []) := by show _ = _; rw [HO.out, HE.out, if_neg (by decide)]
    clear HR1 HO
    go_wp2
    go_ret2
    exact ⟨none, 0, by rw [HOn.out, HE.out]; rfl, by rw [HOn.out]; exact .inl rfl, by rw [HOn.out]; exact Nat.le_refl _, HB1.out⟩
  have g2 : ¬ (64 : Int) < (l.length : Int) := by omega
  rw [if_neg g2, if_neg (show ¬ (0 : Nat) ≠ 0 by simp)] at HR1
  go_wp2
  go_loopw [7, 8] (fun v7 v8 wr => ∃ (i : Nat) (q7 : Option Addr) (n7 c7 : Nat), i ≤ l.length ∧ v8 = .int .i64 i ∧ v7 = .slice q7 n7 c7 ∧ n7 ≤ 65536 ∧ Hid (n7 = (Bt.bytes (l.take i)).length ∧ Has wr w1.heap.size (.slice q7 n7 c7) (Bt.bytes (l.take i)) ∧ (∀ j (h : j < l.length), j < i → Rw.err s l[j] = 0) ∧ Below w1.heap.size w1 wr)) (fun _ v8 _ => l.length - (intOf v8).toNat)
  case atStart => exact ⟨0, none, 0, 0, by omega, rfl, rfl, by omega, rfl, has_nil _ _, fun j _ h => by omega, Below.refl _ _⟩
  case round =>
    clear n0
    obtain ⟨i, q7, n7, c7, hi, rfl, rfl, hn7, HK2⟩ := hrel
    have hbw := HB1.out.trans (HK2.out.2.2.2.mono HB1.out.size)
    have n0 := boxed_cell (blk_on HK1.out HK2.out.2.2.2 (blk_lt HK1.out))
    by_cases hlt : i < l.length
    · have hlt' : (i : Int) < (l.length : Int) := by omega
      obtain ⟨b, o, qr, dr, rfl, hbl, hc, hRw⟩ := HL.out.rows i hlt
      have a1 := cell_on hbw hc
      have HE : Hid (∀ w', Below w.heap.size w w' → Calls Tryz.prog 25 #[.agg #[.slice p s.length c], .agg #[.slice qr l[i].length dr]] w' (EncR w' (Rw.err s l[i]) (Rw.bytes l[i]))) := fun w' hb => by
        have hs := HS.out.on hb
        have hr := (hRw.on hb).items
        exact refEncode8 s p c l[i] qr dr w' hs.len hs.cap hs.cols hs.wf hr.2.2 hRw.2 hr.1
      obtain ⟨ei, hei⟩ : ∃ ei, ei = Rw.err s l[i] := ⟨_, rfl⟩
      obtain ⟨bi, hbi⟩ : ∃ bi, bi = Rw.bytes l[i] := ⟨_, rfl⟩
      rw [← hei, ← hbi] at HE
      have HEi := Lib.hid hei
      have HBi := Lib.hid hbi
      have HBw := Lib.hid hbw
      clear hei hbi hc hRw hbw
      by_cases hez : ei = 0
      · have hbl2 : bi.length ≤ 1024 := by rw [HBi.out]; exact (Rw.err_open (HEi.out.symm.trans hez)).2.2.2
        have HE2 : Hid (∀ w', Below w.heap.size w w' → Calls Tryz.prog 25 #[.agg #[.slice p s.length c], .agg #[.slice qr l[i].length dr]] w' fun e w'' => ∃ q cap, e = .returned (.tuple #[.slice q bi.length cap, .int .i64 0]) ∧ At w'' q bi ∧ Below w'.heap.size w' w'') := fun w' hb => by
          refine (HE.out w' hb).mono ?_
          rintro e w'' (⟨_, q', cap', rfl, hh, hb'⟩ | ⟨hne, _⟩)
          · obtain ⟨q2, cap2, he2, hat2, _⟩ := hh.at
            injection he2 with e1 e2 e3
            subst e1 e3
            exact ⟨q', cap', by rw [← e2], hat2, hb'⟩
          · exact absurd hez hne
        clear HE
        go_wp2_with fail
        go_region_held3 (fun w' => w'.cell? ⟨w.heap.size, 0, none⟩ = some (.slice p s.length c) ∧ w'.cell? ⟨b, o + i, none⟩ = some (.slice qr l[i].length dr)) (go_keep) (first
          | (go_at_call 25; refine (HE2.out _ (below_drewN HBw.out _)).mono ?_; rintro e w4 ⟨q4, cap4, rfl, hat4, hb4⟩; have hb5 := below_via (w := wr) hb4 (by rfl) (by rfl) (by rfl) (by rfl); have z1 := cell_on hb5 n0; have z2 := cell_on hb5 a1; have HB4 := Lib.hid hb5; have HA4 := Lib.hid hat4; clear hb4 hb5 hat4)
          | fail)
        have HH4 := Lib.hid (HK2.out.2.1.on HB4.out)
        have HB14 := Lib.hid (HK2.out.2.2.2.trans (HB4.out.mono HK2.out.2.2.2.size))
        have hs4 := HB14.out.size
        have hn := HK2.out.1
        have HKe := Lib.hid HK2.out.2.2.1
        obtain ⟨xs, hxs⟩ : ∃ xs, xs = Bt.bytes (l.take i) := ⟨_, rfl⟩
        rw [← hxs] at HH4 hn
        have HXs := Lib.hid hxs
        subst hn
        clear z1 z2 a1 n0 HK2 HE2 hxs
        go_wp2_with (first
          | (at_builtin
             refine wp_ontoL HH4.out HA4.out (by omega) hs4 rfl rfl rfl rfl rfl ?_
             intro ys q5 cap5 W5 HY hh5 ha5 _
             have HH5 := Lib.hid hh5
             have HB5 := Lib.hid (aside_low ha5 HH4.out hs4)
             clear hh5 ha5)
          | fail)
        go_roundw
        case rel =>
          have hy : ys = Bt.bytes (l.take (i + 1)) := by rw [HY.out, Bt.bytes_take l i hlt, HXs.out, HBi.out]
          have hall : ∀ j (h : j < l.length), j < i + 1 → Rw.err s l[j] = 0 := fun j hj hji => by
            by_cases hje : j = i
            · subst hje; exact HEi.out.symm.trans hez
            · exact HKe.out j hj (by omega)
          refine ⟨i + 1, q5, ys.length, cap5, by omega, by go_num, rfl, ?_, ?_⟩
          · have h1 := Bt.bytes_bound (Bt.rowsErr_take (i + 1) hall)
            have h3 : (l.take (i + 1)).length ≤ l.length := by rw [List.length_take]; omega
            rw [hy]
            omega
          · show _ ∧ _
            rw [← hy]
            exact ⟨rfl, HH5.out, hall, HB14.out.trans HB5.out⟩
        case measure => simp [intOf]; omega
      · have HE2 : Hid (∀ w', Below w.heap.size w w' → Calls Tryz.prog 25 #[.agg #[.slice p s.length c], .agg #[.slice qr l[i].length dr]] w' fun e w'' => e = .returned (.tuple #[.slice none 0 0, .int .i64 ei]) ∧ Below w'.heap.size w' w'') := fun w' hb => by
          refine (HE.out w' hb).mono ?_
          rintro e w'' (⟨hz, _⟩ | ⟨_, rfl, hb'⟩)
          · exact absurd hz hez
          · exact ⟨rfl, hb'⟩
        have g3 : ((ei : Int) != 0) = true := bne_t (by omega)
        have HRe : Hid (R = ei) := by
          show _ = _
          have := Bt.rowsErr_at i hlt HK2.out.2.2.1 (by rw [← HEi.out]; exact hez)
          rw [← HEi.out] at this
          rw [HR1.out, this, if_pos hez]
        have HOn : Hid (O = []) := by show _ = _; rw [HO.out, HRe.out, if_neg hez]
        clear HE HR1 HO HEi hez
        go_wp2_with fail
        go_region_held3 (fun w' => w'.cell? ⟨w.heap.size, 0, none⟩ = some (.slice p s.length c) ∧ w'.cell? ⟨b, o + i, none⟩ = some (.slice qr l[i].length dr)) (go_keep) (first
          | (go_at_call 25; refine (HE2.out _ (below_drewN HBw.out _)).mono ?_; rintro e w4 ⟨rfl, hb4⟩; have hb5 := below_via (w := wr) hb4 (by rfl) (by rfl) (by rfl) (by rfl); have z1 := cell_on hb5 n0; have z2 := cell_on hb5 a1; have HB4 := Lib.hid hb5; clear hb4 hb5)
          | fail)
        clear z1 z2 a1 n0
        have HBF := Lib.hid (HBw.out.trans (HB4.out.mono HBw.out.size))
        go_wp2
        go_ret2
        exact ⟨none, 0, by rw [HOn.out, HRe.out]; rfl, by rw [HOn.out]; exact .inl rfl, by rw [HOn.out]; exact Nat.le_refl _, HBF.out⟩
    · have hie : i = l.length := by omega
      subst hie
      have hn := HK2.out.1
      have HH := Lib.hid HK2.out.2.1
      rw [List.take_length] at hn HH
      have hz : Bt.rowsErr s l = 0 := Bt.rowsErr_all (fun j hj => HK2.out.2.2.1 j hj hj)
      rw [hz, if_neg (show ¬ (0 : Nat) ≠ 0 by simp)] at HR1
      obtain ⟨bs, hbs⟩ : ∃ bs, bs = Bt.bytes l := ⟨_, rfl⟩
      rw [← hbs] at HR1 HO HH hn
      subst hn
      have HBw := Lib.hid hbw
      clear hbs hz hbw n0
      by_cases hlong : 2048 < bs.length
      · have g4 : (2048 : Int) < (bs.length : Int) := by omega
        have HE : Hid (R = 2) := by show _ = _; rw [HR1.out, if_pos hlong]
        have HOn : Hid (O = []) := by show _ = _; rw [HO.out, HE.out, if_neg (by decide)]
        clear HR1 HO
        go_wp2
        go_ret2
        exact ⟨none, 0, by rw [HOn.out, HE.out]; rfl, by rw [HOn.out]; exact .inl rfl, by rw [HOn.out]; exact Nat.le_refl _, HBw.out⟩
      · have g4 : ¬ (2048 : Int) < (bs.length : Int) := by omega
        have HE : Hid (R = 0) := by show _ = _; rw [HR1.out, if_neg hlong]
        have HOn : Hid (O = bs) := by show _ = _; rw [HO.out, HE.out, if_pos rfl]
        obtain ⟨q9, c9, he9, hat9, hc9⟩ := HH.out.at
        injection he9 with e1 _ e3
        subst e1 e3
        clear HR1 HO
        go_wp2
        go_ret2
        exact ⟨q7, c7, by rw [HOn.out, HE.out]; rfl, by rw [HOn.out]; exact hat9, by rw [HOn.out]; exact hc9, HBw.out⟩

set_option maxRecDepth 100000 in
set_option maxHeartbeats 1000000 in
theorem refSizeB (s : List Col) (p : Option Addr) (c : Nat) (l : List (List V)) (q : Option Addr) (d : Nat) (w : World) (hS : SchL w p c s) (hL : RowsL w q d l) :
    Calls Tryz.prog 8 #[.agg #[.slice p s.length c], .slice q l.length d] w fun e w' => e = .returned (.tuple #[.int .i64 ((Bt.out s l).length : Nat), .int .i64 (Bt.err s l : Nat)]) ∧ Below w.heap.size w w' := by
  obtain ⟨W0, hW0⟩ : ∃ W0, W0 = w.alloc (.cells #[.slice p s.length c] 24) := ⟨_, rfl⟩
  have hb0 : Below w.heap.size w W0 := by rw [hW0]; exact (Below.refl _ _).alloc (Nat.le_refl _) _
  have HJ := Lib.hid (refBytesB s p c l q d W0 (hS.on hb0) (hL.on hb0))
  obtain ⟨R, hR⟩ : ∃ R, R = Bt.err s l := ⟨_, rfl⟩
  obtain ⟨O, hO⟩ : ∃ O, O = Bt.out s l := ⟨_, rfl⟩
  rw [← hR, ← hO] at HJ ⊢
  have HB := Lib.hid hb0
  have HW := Lib.hid hW0
  clear hb0 hW0 hR hO
  go_enter Tryz.func8, Tryz.ntmps8
  go_wp2_with fail
  rw [← HW.out]
  refine HJ.out.mono ?_
  rintro e w1 ⟨q1, c1, rfl, -, -, hb1⟩
  have HB1 := Lib.hid (HB.out.trans (hb1.mono HB.out.size))
  clear hb1
  go_wp2
  go_ret2
  exact ⟨rfl, HB1.out⟩
end Go.Proofs.YtpkbdnilakaakaaGreat
