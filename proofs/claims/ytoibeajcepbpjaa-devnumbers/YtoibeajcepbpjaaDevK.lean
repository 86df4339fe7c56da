/- Package dev's functions are what the laws ask. -/
import Derived.Test.YtoibeajcepbpjaaDevC
import Derived.Test.YtoibeajcepbpjaaKDevH
import Derived.Test.YtoibeajcepbpjaaKDevW
namespace Go.Proofs.Ytoibeajcepbpjaa
open Go.RowKit

def DevI (_ : Nat) (_ : World) : Prop := True
def DevRep : DRep := fun w B a s F => ∃ g v x k, a = ⟨g, 0, none⟩ ∧ KDev w B g v s x k ∧ ∀ i, F i ↔ (i = g ∨ v.ownBlock = some i)

theorem k_post {w : World} {B g : Nat} {v : Value} {F : Nat → Prop} (hF : ∀ k, F k ↔ (k = g ∨ v.ownBlock = some k)) {r : Nat × Dv.St} {e : Ending} {w' : World} (h : KPost w B g v r e w') : DevPost DevRep w B ⟨g, 0, none⟩ F r e w' := by
  obtain ⟨he, v', x', k', hr, ha, hv⟩ := h
  refine ⟨he, fun k => k = g ∨ v'.ownBlock = some k, ⟨g, v', x', k', rfl, hr, fun _ => Iff.rfl⟩, ha.mono (fun i _ hi => (hF i).2 hi), fun k hk => ?_⟩
  rcases hk with hk | hk
  · exact .inl ((hF k).2 (.inl hk))
  · rcases hv k hk with h1 | h1
    · exact .inl ((hF k).2 (.inr h1))
    · exact .inr h1

theorem k_still {w : World} {P : Program} {f : FuncId} {args : Array Value} {v : Value} (h : Calls P f args w fun e w' => e = .returned v ∧ w' = w) : Calls P f args w fun e w' => e = .returned v ∧ Below w.heap.size w w' :=
  h.mono fun e w' ⟨he, hw⟩ => ⟨he, by rw [hw]; exact Below.refl _ _⟩

theorem devK : DevOk DevI DevRep where
  on := fun _ _ => trivial
  more := fun _ _ => trivial
  lies := by
    rintro w B a s F ⟨g, v, x, k, rfl, hr, hF⟩ i hi
    rcases (hF i).1 hi with h | h
    · subst h; exact ⟨hr.base, hr.lt⟩
    · exact hr.has.lt i h
  aside := by
    rintro w w' B a s F G ⟨g, v, x, k, rfl, hr, hF⟩ ha hG
    exact ⟨g, v, x, k, rfl, hr.aside ha (hG g ((hF g).2 (.inl rfl))) (fun k hk => hG k ((hF k).2 (.inr hk))), hF⟩
  newBad := fun q _ w h _ _ => k_still (kNew_bad q h w)
  newOk := fun q B w h _ hB => (kNew_ok q h w).mono fun e w' ⟨he, hr, hb⟩ =>
    ⟨⟨w.heap.size, 0, none⟩, fun k => k = w.heap.size, he, ⟨w.heap.size, _, 0, 0, rfl, ⟨hr.lies, hr.has.low hB, hB, hr.due, hr.left, hr.keep⟩, fun k => by simp [Value.ownBlock]⟩, fun k hk => by rw [hk]; exact Nat.le_refl _, hb⟩
  write := by
    rintro w B a s F p c l hl hlc hA hp ⟨g, v, x, k, rfl, hr, hF⟩ hf _ hB
    exact (kWrite hr p c l hl hA (fun hne b o he hc => hp hne b o he ((hF b).2 hc)) hf.sound hf.len hf.most hf.done hB).mono fun e w' h => k_post hF h
  sync := by
    rintro w B a s F ⟨g, v, x, k, rfl, hr, hF⟩ hf _ hB
    exact (kSync hr).mono fun e w' h => k_post hF h
  cut := by
    rintro w B a s F n _ _ ⟨g, v, x, k, rfl, hr, hF⟩ hf _ hB
    exact (kCut hr n hf.sound hf.len (by have := hf.done; omega)).mono fun e w' h => k_post hF h
  read := by
    rintro w B a s F n m h1 h2 _ h4 ⟨g, v, x, k, rfl, hr, hF⟩ hf _ hB
    refine (kRead hr n m h1 h2 h4 hf.len (by have := hf.len; have := hf.told; omega)).mono ?_
    rintro e w' ⟨q, cap, he, hH, hr', ha⟩
    obtain ⟨q', c', he', hA', hcap'⟩ := hH.at
    injection he' with e1 _ e2
    subst e1 e2
    refine ⟨q, cap, F, he, hcap', ⟨hA', fun hne => ?_⟩, ⟨g, v, x, k, rfl, hr', hF⟩, ha.mono (fun i _ hi => (hF i).2 (.inl hi)), fun k hk => .inl hk⟩
    rcases hH.form with ⟨_, h0⟩ | ⟨g', cap2, hv, hm⟩
    · exact absurd h0 hne
    · injection hv with e3 _ _
      refine ⟨g', 0, e3, hm.base.1, hm.free, fun hc => ?_⟩
      have := hm.base.1
      rcases (hF g').1 hc with h | h
      · have := hr.lt; omega
      · have := (hr.has.lt _ h).2; omega
  fail := by
    rintro w B a s F n m _ h2 _ h4 ⟨g, v, x, k, rfl, hr, hF⟩ hf _ hB
    exact (kFail hr n m h2 h4).mono fun e w' h => k_post hF h
  start := by
    rintro w B a s F ⟨g, v, x, k, rfl, hr, hF⟩ hf _ hB
    exact (kStart hr).mono fun e w' h => k_post hF h
  damage := by
    rintro w B a s F n c _ _ ⟨g, v, x, k, rfl, hr, hF⟩ hf _ hB
    exact (kDamage hr n c hf.sound).mono fun e w' h => k_post hF h
  tail := by
    rintro w B a s F p c l hl hlc hA hp ⟨g, v, x, k, rfl, hr, hF⟩ hf _ hB
    exact (kTail hr p c l hA (fun hne b o he hc => hp hne b o he ((hF b).2 (.inl hc))) hf.len hB).mono fun e w' h => k_post hF h
  up := by rintro w B a s F ⟨g, v, x, k, rfl, hr, hF⟩ _ _ _; exact k_still (kUp hr)
  len := by rintro w B a s F ⟨g, v, x, k, rfl, hr, hF⟩ _ _ _; exact k_still (kLen hr)
  quota := by rintro w B a s F ⟨g, v, x, k, rfl, hr, hF⟩ _ _ _; exact k_still (kQuota hr)
  synced := by rintro w B a s F ⟨g, v, x, k, rfl, hr, hF⟩ _ _ _; exact k_still (kSynced hr)
  counted := by rintro w B a s F ⟨g, v, x, k, rfl, hr, hF⟩ _ _ _; exact k_still (kCounted hr)
  written := by rintro w B a s F ⟨g, v, x, k, rfl, hr, hF⟩ _ _ _; exact k_still (kWritten hr)
  all := by
    rintro w B a s F ⟨g, v, x, k, rfl, hr, hF⟩ hf _ _
    refine (kAll hr hf.len).mono ?_
    rintro e w' ⟨q, cap, he, hH, hb⟩
    obtain ⟨q', c', he', hA', hcap'⟩ := hH.at
    injection he' with e1 _ e2
    subst e1 e2
    refine ⟨q, cap, he, hcap', ⟨hA', fun hne => ?_⟩, hb⟩
    rcases hH.form with ⟨_, h0⟩ | ⟨g', cap2, hv, hm⟩
    · exact absurd h0 hne
    · injection hv with e3 _ _
      refine ⟨g', 0, e3, hm.base.1, hm.free, fun hc => ?_⟩
      have := hm.base.1
      rcases (hF g').1 hc with h | h
      · have := hr.lt; omega
      · have := (hr.has.lt _ h).2; omega
  clone := by
    rintro w B a s F ⟨g, v, x, k, rfl, hr, hF⟩ hf _ hB
    refine (kClone hr hf.len hB).mono ?_
    rintro e w' ⟨g', v', he, hr', hg', hv', hb⟩
    refine ⟨⟨g', 0, none⟩, fun k => k = g' ∨ v'.ownBlock = some k, he, ⟨g', v', x, k, rfl, hr', fun _ => Iff.rfl⟩, fun k hk => ?_, hb⟩
    rcases hk with hk | hk
    · rw [hk]; exact hg'
    · exact hv' k hk
end Go.Proofs.Ytoibeajcepbpjaa
