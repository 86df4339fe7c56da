/- An argument of type []string, opened: the texts that lie there. -/
import Derived.Test.YtbedlaaedefclaaM44
import Derived.Test.YtbedlaaedefclaaM41
import Derived.Deep.Slices
namespace Go.Proofs.Ytbedlaaedefclaa
open Go.ChangeShapes Go.WideShapes Go.ChangeAt Go.RowKit Go.Deep

section
variable {H : Type} {enc : TypeId × Value → H} {W : World}
theorem open_names {ts : List TypeId} {ds : List (DataW H)} {j : Nat} {a0 : Option Addr} {len cap : Nat} {d : DataW H} {p : List MemPlace} (h : DataW.Trod enc Try.prog W 0 (fun _ => true) true 38 (.slice a0 len cap) d p)
    (hsz : (DataW.weightsEach Try.prog ts ds).all (· ≤ reachBytes) = true) (ht : ts[j]? = some 38) (hd : ds[j]? = some d) :
    ∃ ns : List ByteArray, len = ns.length ∧ Names W a0 ns ∧ ns.length * 16 ≤ 140737488351232 ∧ ns.length ≤ cap := by
  obtain ⟨fuel, hf⟩ := h
  have hc1 : Try.prog.cellsOf 9 = 1 := by kernel_rfl
  have hb16 : Try.prog.bytesOf 9 = 16 := by kernel_rfl
  have er : reachBytes = 140737488351232 := by decide
  rcases open_slice Try.underlying38 hf with ⟨hcs, _⟩ | ⟨a, len', cap', m, n, D, Pl, hcs, _, hl, _, hm, hx, hel⟩
  · simp [Value.cells] at hcs
    obtain ⟨rfl, rfl, rfl⟩ := hcs
    exact ⟨[], rfl, .inl rfl, by simp, by simp⟩
  · simp [Value.cells] at hcs
    obtain ⟨rfl, rfl, rfl⟩ := hcs
    simp only [Prod.mk.injEq] at hx
    obtain ⟨rfl, _⟩ := hx
    have hlm : len ≤ m := by rw [hm]; split <;> omega
    rw [hc1] at hel
    have hW : ∀ k ∈ DataW.weights Try.prog 38 (.slice ((List.range len).map D) ((List.range (m - len)).map fun j => D (len + j))), k ≤ reachBytes := fun k hk => by
      have := List.all_eq_true.1 hsz k (DataW.weights_mem_each ht hd k hk)
      simpa using this
    have each : ∀ i, i < len → ∃ o : ByteArray, W.cell? (a.add i) = some (.string o) := by
      intro i hi
      obtain ⟨cs', g1, g2⟩ := hel i (by omega)
      obtain ⟨_, hlen, hcell⟩ := World.cells?_some g1
      obtain ⟨o, ho, _⟩ := DataW.trod_string Try.underlying9 g2
      subst ho
      have e0 := hcell 0 (by omega)
      rw [add_add] at e0
      exact ⟨o, by simpa using e0⟩
    haveI : Inhabited ByteArray := ⟨⟨#[]⟩⟩
    obtain ⟨o, ho⟩ := choose_lt each
    refine ⟨(List.range len).map o, by simp, ?_, ?_, by simpa using hl⟩
    · by_cases h0 : len = 0
      · subst h0; exact .inl (by simp)
      · obtain ⟨b, off, spot⟩ := a
        have hc0 := ho 0 (by omega)
        have hspot : spot = none := by simpa [Addr.add] using World.cell?_spot hc0
        subst hspot
        refine .inr ⟨b, off, rfl, ?_, fun i hi => ?_⟩
        · have := World.block_lt_of_cell? _ _ hc0
          simpa [block_add] using this
        · have hi2 : i < len := by simpa using hi
          have k1 := ho i hi2
          rw [Lib.add_plain] at k1
          simp only [List.getElem_map, List.getElem_range]
          exact k1
    · have h1 : (((List.range len).map D).length + ((List.range (m - len)).map fun j => D (len + j)).length) * Try.prog.bytesOf 9 ∈ DataW.weights Try.prog 38 (.slice ((List.range len).map D) ((List.range (m - len)).map fun j => D (len + j))) := by
        simp [DataW.weights, Try.underlying38]
      have h2 := hW _ h1
      rw [hb16] at h2
      simp at h2 ⊢
      omega
end
end Go.Proofs.Ytbedlaaedefclaa
