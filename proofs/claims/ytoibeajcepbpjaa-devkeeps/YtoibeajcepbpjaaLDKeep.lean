/- DevKeeps: what holds in its loop, and behind each kind of step. -/
import Derived.Test.YtoibeajcepbpjaaLDFail3
import Derived.Deep.CutBlock
import Derived.Deep.CutRange
namespace Go.Proofs.Ytoibeajcepbpjaa
open Go.RowKit

section
variable {I : Nat → World → Prop} {Rep : DRep}

/-- between two steps; τ: bytes were put behind the end by Tail -/
def KeepR (Rep : DRep) (q : Nat) (a : Addr) (w0 : World) (n : Nat) (τ : Bool) (wr : World) (s : Dv.St) : Prop :=
  ∃ F, One Rep w0.heap.size a w0 wr s F ∧ Dv.Near n s ∧ s.most = q ∧ (τ = false → s.b.length ≤ q)

/-- behind a step: s how it stood ahead of it, qb its bytes then, all what there may be at most -/
structure AfterR (Rep : DRep) (q : Nat) (a : Addr) (w0 : World) (n : Nat) (s : Dv.St) (qb : Option Addr) (wx : World) (er : Nat) (ch τ : Bool) (pa : Option Addr) (ca : Nat) (all : List UInt8) (s' : Dv.St) (F' : Nat → Prop) : Prop where
  one : One Rep w0.heap.size a w0 wx s' F'
  near : Dv.Near n s'
  most : s'.most = q
  room : τ = false → s'.b.length ≤ q
  keeps : ch = false → s.b.take s.safe <+: s'.b ∧ s'.b <+: all
  power : (er = 51) ↔ (s.down = false ∧ s'.down = true)
  space : er = 52 → s'.b = s.b
  before : At wx qb s.b
  after : At wx pa all
  cap : all.length ≤ ca
  len : all.length ≤ 200000000000000

/-- the bytes ahead of a step lie apart from the file -/
def Clear (F : Nat → Prop) (w : World) (qb : Option Addr) (l : List UInt8) : Prop := At w qb l ∧ (l ≠ [] → ∃ b o, qb = some ⟨b, o, none⟩ ∧ ¬ F b)
theorem Clear.on {F : Nat → Prop} {w w' : World} {qb : Option Addr} {l : List UInt8} (h : Clear F w qb l) (ha : Aside F w w') : At w' qb l := by
  by_cases hl : l = []
  · exact .inl hl
  · obtain ⟨b, o, hq, hf⟩ := h.2 hl
    refine h.1.aside ha (fun b' o' hp => ?_)
    rw [hq] at hp
    injection hp with hp
    injection hp with h1 _ _
    rw [← h1]; exact hf
theorem Told.clear {w w' : World} {F : Nat → Prop} {q : Option Addr} {L : List UInt8} (h : Told w w' F q L) : Clear F w' q L :=
  ⟨h.1, fun hl => by obtain ⟨g, o, hq, _, _, hf⟩ := h.2 hl; exact ⟨g, o, hq, hf⟩⟩
theorem Clear.below {F : Nat → Prop} {w w' : World} {qb : Option Addr} {l : List UInt8} (h : Clear F w qb l) (hb : Below w.heap.size w w') : Clear F w' qb l := ⟨h.1.on hb, h.2⟩

variable {q n : Nat} {a : Addr} {w0 w w' : World} {s : Dv.St} {F F' : Nat → Prop} {qb : Option Addr} {cb : Nat}

/-- no step -/
theorem after_none (hO : One Rep w0.heap.size a w0 w s F) (hN : Dv.Near n s) (hm : s.most = q) {τ : Bool} (hr : τ = false → s.b.length ≤ q) (hC : Clear F w qb s.b) (hcb : s.b.length ≤ cb) : AfterR Rep q a w0 (n + 1) s qb w 0 false τ qb cb s.b s F :=
  ⟨hO, hN.more (by omega), hm, hr, fun _ => ⟨List.take_prefix _ _, List.prefix_refl _⟩, by simp, by simp, hC.1, hC.1, hcb, by have := hN.len; omega⟩
/-- a step that keeps: Sync, Fail, Start, a Cut that is not done -/
theorem after_held (K : DevOk I Rep) (hO : One Rep w0.heap.size a w0 w s F) (hm : s.most = q) {τ : Bool} (hr : τ = false → s.b.length ≤ q) (hC : Clear F w qb s.b) (hcb : s.b.length ≤ cb) (hl : s.b.length ≤ 2097152) {r : Nat × Dv.St} (hn : Dv.Near (n + 1) r.2) (hH : Dv.Held s r.2 r.1 s.b)
    (h1 : Rep w' w0.heap.size a r.2 F') (h2 : Aside F w w') : AfterR Rep q a w0 (n + 1) s qb w' r.1 false τ qb cb s.b r.2 F' :=
  ⟨hO.step K h1 h2, hn, by rw [hH.keeps.2.2.2]; exact hm, fun h => by have := hH.room (by rw [hm]; exact hr h); rw [hH.keeps.2.2.2, hm] at this; exact this, fun _ => ⟨hH.keeps.1, hH.keeps.2.1⟩, hH.power, hH.space, hC.on h2, hC.on h2, hcb, by omega⟩
/-- a change that is told: Cut, Damage -/
theorem after_change (K : DevOk I Rep) (hO : One Rep w0.heap.size a w0 w s F) {τ : Bool} (hr : τ = false → s.b.length ≤ q) (hC : Clear F w qb s.b) (hcb : s.b.length ≤ cb) (hl : s.b.length ≤ 2097152) {r : Nat × Dv.St} (hn : Dv.Near (n + 1) r.2) (h0 : r.1 = 0) (hb : r.2.b.length ≤ s.b.length) (hms : r.2.most = q) (hd : r.2.down = s.down)
    (h1 : Rep w' w0.heap.size a r.2 F') (h2 : Aside F w w') : AfterR Rep q a w0 (n + 1) s qb w' r.1 true τ qb cb s.b r.2 F' :=
  ⟨hO.step K h1 h2, hn, hms, fun h => Nat.le_trans hb (hr h), fun h => (by cases h), ⟨fun h => (by rw [h0] at h; cases h), fun ⟨x, y⟩ => (by rw [hd, x] at y; cases y)⟩, fun h => (by rw [h0] at h; cases h), hC.on h2, hC.on h2, hcb, by omega⟩
theorem damage_err {s : Dv.St} (h : Dv.Sound s) (x : Int) (v : UInt8) (h0 : (Dv.damage s x v).1 ≠ 0) : Dv.Held s (Dv.damage s x v).2 (Dv.damage s x v).1 s.b := by
  obtain ⟨k1, _, _, _, k5, k6, _⟩ := Dv.damage_held h x v
  have e := k1 h0
  refine Dv.held_same h (by rw [e]) (by rw [e]) (by rw [e]; exact h) (List.prefix_refl _) k6 ?_
  rintro ⟨y, z⟩
  rw [k5, y] at z
  cases z

/-- Write, with what there may be at most laid beside -/
theorem after_write (K : DevOk I Rep) (hO : One Rep w0.heap.size a w0 w s F) (hm : s.most = q) {τ : Bool} (hr : τ = false → s.b.length ≤ q) (hC : Clear F w qb s.b) (l : List UInt8) (hn : Dv.Near n s)
    (h1 : Rep w' w0.heap.size a (Dv.write s l).2 F') (h2 : Aside F w w') {wx : World} (hb : Below w'.heap.size w' wx) {pa : Option Addr} {ca : Nat} (ha : At wx pa (s.b ++ l)) (hca : (s.b ++ l).length ≤ ca) (hlen : (s.b ++ l).length ≤ 200000000000000) : AfterR Rep q a w0 (n + 1) s qb wx (Dv.write s l).1 false τ pa ca (s.b ++ l) (Dv.write s l).2 F' := by
  have hH := Dv.write_held hn.sound l
  exact ⟨(hO.step K h1 h2).on K hb, Dv.near_write hn l, by rw [hH.keeps.2.2.2]; exact hm, fun h => by have := hH.room (by rw [hm]; exact hr h); rw [hH.keeps.2.2.2, hm] at this; exact this, fun _ => ⟨hH.keeps.1, hH.keeps.2.1⟩, hH.power, hH.space, (hC.on h2).on hb, ha, hca, hlen⟩
theorem after_tail (K : DevOk I Rep) (hO : One Rep w0.heap.size a w0 w s F) (hm : s.most = q) {τ : Bool} (hr : τ = false → s.b.length ≤ q) (hC : Clear F w qb s.b) (l : List UInt8) (hn : Dv.Near n s)
    (h1 : Rep w' w0.heap.size a (Dv.tail s l).2 F') (h2 : Aside F w w') {wx : World} (hb : Below w'.heap.size w' wx) {pa : Option Addr} {ca : Nat} (ha : At wx pa (s.b ++ l)) (hca : (s.b ++ l).length ≤ ca) (hlen : (s.b ++ l).length ≤ 200000000000000) {τ' : Bool} (hτ : τ' = false → τ = false ∧ (Dv.tail s l).1 ≠ 0) : AfterR Rep q a w0 (n + 1) s qb wx (Dv.tail s l).1 false τ' pa ca (s.b ++ l) (Dv.tail s l).2 F' := by
  obtain ⟨k1, k2, k3, k4, k5⟩ := Dv.tail_held hn.sound l
  refine ⟨(hO.step K h1 h2).on K hb, Dv.near_tail hn l, by rw [k1.2.2.2]; exact hm, fun h => ?_, fun _ => ⟨k1.1, k1.2.1⟩, ⟨fun h => absurd h k3, fun ⟨x, y⟩ => ?_⟩, fun h => absurd h k4, (hC.on h2).on hb, ha, hca, hlen⟩
  · obtain ⟨x, y⟩ := hτ h
    rw [k2 y]; exact hr x
  · rw [k5, x] at y; cases y
end
end Go.Proofs.Ytoibeajcepbpjaa
