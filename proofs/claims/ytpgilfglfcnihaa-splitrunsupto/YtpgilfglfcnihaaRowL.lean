/- The rows of stage 13: no variable is listed; an argument of type [][]byte. -/
import Derived.Test.YtpgilfglfcnihaaRowB
import Derived.Test.YtpgilfglfcnihaaW13F
import Derived.Deep.DeepHandedRow
import Derived.Deep.Slices
import Derived.LaidMore
import Derived.Stop.Joined
namespace Go.Proofs.Ytpgilfglfcnihaa
open Go.ChangeShapes Go.WideShapes Go.ChangeAt Go.RowKit Go.Deep

theorem laid_gives {W : World} (_ : laidMetH Try.prog [] W) : True := trivial
theorem door_met (os : Os) (args : Array Value) : laidMet Try.prog [] ((World.holding Try.prog os ⟨#[], #[], []⟩).forCall (fun _ _ => 0) ⟨#[], args, []⟩).memory :=
  laidMet_of_run' 8 (by kernel_rfl) (by kernel_rfl)

section
variable {H : Type} {enc : TypeId × Value → H} {W : World}
theorem opened_cs {fuel : Nat} {v : Value} {y : DataW H × List MemPlace} (h : DataW.trod enc Try.prog W 0 (fun _ => true) true fuel 22 [v] = some y) :
    ∃ (p : Option Addr) (c : Nat) (l : List UInt8), v = .slice p l.length c ∧ At W p l ∧ l.length ≤ c ∧ Long y.1 l.length := by
  have hv : ∃ a len cap, v = .slice a len cap := by
    rcases open_ints Try.underlying22 Try.underlying5 cells8 h with ⟨hcs, _⟩ | ⟨x, l, c, zs, hcs, _⟩
    · simp at hcs; exact ⟨_, _, _, hcs⟩
    · simp at hcs; exact ⟨_, _, _, hcs⟩
  obtain ⟨a, len, cap, rfl⟩ := hv
  obtain ⟨l, rfl, h1, h2, _, h4⟩ := opened (enc := enc) (W := W) (a0 := a) (len := len) (cap := cap) (d0 := y.1) (p := y.2) ⟨fuel, h⟩
  exact ⟨a, cap, l, rfl, h1, h2, h4⟩
theorem bulk_sum {E : List (DataW H)} {zs : List (List UInt8)} (hl : zs.length = E.length) (h : ∀ j (h1 : j < zs.length) (h2 : j < E.length), zs[j].length ≤ Rows.uptoBulk E[j]) : zs.flatten.length ≤ Rows.uptoBulkAll E := by
  induction E generalizing zs with
  | nil =>
    have : zs = [] := List.eq_nil_of_length_eq_zero (by simpa using hl)
    subst this
    simp
  | cons d r ih =>
    cases zs with
    | nil => simp
    | cons z zs =>
      have h0 := h 0 (by simp) (by simp)
      have h1 := ih (zs := zs) (by simpa using hl) (fun j a b => h (j + 1) (by simpa using a) (by simpa using b))
      simp only [List.getElem_cons_zero] at h0
      simp only [List.flatten_cons, List.length_append, Rows.uptoBulkAll]
      omega
set_option maxRecDepth 100000 in
theorem open_piecesF (fuel : Nat) (v : Value) (D : DataW H) (Pl : List MemPlace) (h : DataW.trod enc Try.prog W 0 (fun _ => true) true fuel 31 [v] = some (D, Pl)) : ∃ (q : Option Addr) (c : Nat) (l : List (List UInt8)), v = .slice q l.length c ∧ PcL W q l ∧ l.flatten.length ≤ Rows.uptoBulk D ∧ l.length ≤ Rows.uptoBulk D := by
  have hc1 : Try.prog.cellsOf 22 = 1 := by kernel_rfl
  rcases DataW.trod_slice Try.underlying31 h with ⟨hcs, _⟩ | ⟨a, len, cap, elems, rest, n', rfl, hcs, hy, _, hlc, _, hel, hat, _⟩
  · simp only [List.cons.injEq, and_true] at hcs
    subst hcs
    exact ⟨none, 0, [], rfl, fun j hj => by simp at hj, by simp, by simp⟩
  · simp only [List.cons.injEq, and_true] at hcs
    subst hcs
    have hy1 : D = .slice (elems.map (·.1)) (rest.map (·.1)) := by simpa using congrArg Prod.fst hy
    have hsp : 0 < len → ∃ b o, a = ⟨b, o, none⟩ := fun h0 => by
      have h5 := hat 0 h0
      rw [hc1] at h5
      obtain ⟨y, hy2⟩ : ∃ y, elems[0]? = some y := ⟨elems[0]'(by omega), List.getElem?_eq_getElem (by omega)⟩
      rw [hy2] at h5
      obtain ⟨cs', g1, g2⟩ := Option.bind_eq_some_iff.1 h5
      obtain ⟨_, hlen0, hcell0⟩ := World.cells?_some g1
      have hc0 := hcell0 0 (by omega)
      rw [List.getElem?_eq_getElem (by omega)] at hc0
      obtain ⟨b, o, spot⟩ := a
      have hspot : spot = none := by simpa [Addr.add] using World.cell?_spot hc0
      exact ⟨b, o, by rw [hspot]⟩
    have each : ∀ i, i < len → ∃ z : List UInt8, (∃ b o p c, a = ⟨b, o, none⟩ ∧ W.cell? ⟨b, o + i, none⟩ = some (.slice p z.length c) ∧ z.length ≤ c ∧ At W p z) ∧ ∀ d, (elems.map (·.1))[i]? = some d → z.length ≤ Rows.uptoBulk d := by
      intro i hi
      have h5 := hat i hi
      rw [hc1] at h5
      obtain ⟨y, hy2⟩ : ∃ y, elems[i]? = some y := ⟨elems[i]'(by omega), List.getElem?_eq_getElem (by omega)⟩
      rw [hy2] at h5
      obtain ⟨cs', g1, g2⟩ := Option.bind_eq_some_iff.1 h5
      obtain ⟨_, hlen0, hcell0⟩ := World.cells?_some g1
      match cs', hlen0 with
      | [u], _ =>
        obtain ⟨p, c, l, rfl, hA, hlc2, hlong⟩ := opened_cs g2
        obtain ⟨b, o, rfl⟩ := hsp (by omega)
        have hc0 := hcell0 0 (by simp)
        refine ⟨l, ⟨b, o, p, c, rfl, ?_, hlc2, hA⟩, fun d hd => ?_⟩
        · simpa [add_off] using hc0
        · simp [hy2] at hd
          subst hd
          exact long_bulk hlong
    obtain ⟨z, hz⟩ := choose_lt each
    have hlen : ((List.range len).map z).length = len := by simp
    refine ⟨some a, cap, (List.range len).map z, by rw [hlen], fun j hj => ?_, ?_, ?_⟩
    · have hj2 : j < len := by simpa using hj
      obtain ⟨⟨b, o, p, c, h1, h2, h3, h4⟩, _⟩ := hz j hj2
      simp only [List.getElem_map, List.getElem_range]
      exact ⟨b, o, p, c, by rw [h1], h2, h3, h4⟩
    · rw [hy1]
      have := bulk_sum (E := elems.map (·.1)) (zs := (List.range len).map z) (by simp; omega) (fun j h1 h2 => by
        have hj2 : j < len := by simpa using h1
        simp only [List.getElem_map, List.getElem_range]
        exact (hz j hj2).2 _ (by rw [List.getElem?_eq_getElem h2]; simp))
      simp only [Rows.uptoBulk]
      omega
    · rw [hy1, hlen]
      have := bulk_all (elems.map (·.1))
      simp only [Rows.uptoBulk, List.length_map] at this ⊢
      omega
/-- an argument of type [][]byte, and how much it holds -/
theorem open_pieces {ts : List TypeId} {ds : List (DataW H)} {j : Nat} {a0 : Option Addr} {len cap : Nat} {d : DataW H} {p : List MemPlace} (h : DataW.Trod enc Try.prog W 0 (fun _ => true) true 31 (.slice a0 len cap) d p)
    (_ : (DataW.weightsEach Try.prog ts ds).all (· ≤ reachBytes) = true) (_ : ts[j]? = some 31) (_ : ds[j]? = some d) :
    ∃ l : List (List UInt8), len = l.length ∧ PcL W a0 l ∧ l.flatten.length ≤ Rows.uptoBulk d ∧ l.length ≤ Rows.uptoBulk d := by
  obtain ⟨fuel, hf⟩ := h
  obtain ⟨q, c, l, e, hr, hg, hk⟩ := open_piecesF fuel _ d p (by simpa [Value.cells] using hf)
  injection e with e1 e2 e3
  subst e1 e3
  exact ⟨l, e2, hr, hg, hk⟩
end
end Go.Proofs.Ytpgilfglfcnihaa
