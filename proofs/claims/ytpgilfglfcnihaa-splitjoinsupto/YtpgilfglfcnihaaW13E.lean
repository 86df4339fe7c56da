/- The law's live. -/
import Derived.Test.YtpgilfglfcnihaaW13A
import Derived.Test.YtpgilfglfcnihaaW13D
namespace Go.Proofs.Ytpgilfglfcnihaa
open Go.RowKit

/-- bytes of a literal -/
theorem lit_at (w : World) (l : List UInt8) (C : Array Value) (hC : C = (cellsOf l).toArray) : At (w.alloc (.cells C 5)) (some ⟨w.heap.size, 0, none⟩) l :=
  Own.at (l := l) ⟨#[], by rw [hC, Array.append_empty]; exact heap_new w _⟩
theorem off_new {w : World} {B g : Nat} {v : Value} {d : Sp} (h : Spl w B g v d) {l : List UInt8} : l ≠ [] → ∀ b o, (some ⟨w.heap.size, 0, none⟩ : Option Addr) = some ⟨b, o, none⟩ → b ≠ g ∧ v.ownBlock ≠ some b := by
  intro _ b o hb
  injection hb with hb
  injection hb with e1 _
  subst e1
  exact ⟨by have := h.lt; omega, fun hc => by have := (h.held.lt _ hc).2; omega⟩
/-- how a feed's answer reads -/
theorem FI.below {w w' : World} {B g : Nat} {v rv v' : Value} {bs : List Nat} {d : Sp} {l : List UInt8} (h : FI w w' B g v rv v' bs d l) (hs : Spl w B g v d) {C : Nat} (hC : C ≤ B) (hw : C ≤ w.heap.size) : Below C w w' :=
  h.aside.below hw (fun k hk hc => by
    rcases hc with hc | hc
    · have := hs.base
      omega
    · have := (hs.held.lt _ hc).1
      omega)

theorem Spl.drewN {w : World} {B g : Nat} {v : Value} {d : Sp} (h : Spl w B g v d) (m : Nat) : Spl (w.drewN m) B g v d := ⟨h.lies, h.held.drewN m, h.base⟩
theorem RunsO.far {w w' : World} {B C : Nat} {v : Value} {bs : List Nat} {rs : List Run} (h : RunsO w B v bs rs) (hv : ∀ k, v.ownBlock = some k → k < C) (hbs : ∀ k ∈ bs, k < C) (hb : Below C w w') : RunsO w' B v bs rs :=
  h.aside (F := fun k => C ≤ k) (aside_of hb (fun _ _ h => h)) (fun k hk hc => by have := hv k hk; omega) (fun k hk hc => by have := hbs k hk; omega)
/-- runs that are there are cells -/
theorem RunsR.cells {w : World} {p : Option Addr} {r : Run} {rs : List Run} (h : RunsR w p (r :: rs)) : ∃ g o, p = some ⟨g, o, none⟩ ∧ ∀ j (hj : j < (r :: rs).length), w.cell? ⟨g, o + j * 2, none⟩ = some (.int .i64 ((r :: rs)[j].1 : Nat)) ∧ ∃ q c, w.cell? ⟨g, o + j * 2 + 1, none⟩ = some (.slice q (r :: rs)[j].2.length c) ∧ At w q (r :: rs)[j].2 := by
  rcases h with h | h
  · cases h
  · exact h

set_option maxRecDepth 100000 in
set_option maxHeartbeats 4000000 in
theorem live13 (w : World) : Calls Try.prog 8 #[] w fun e w' => e = .returned (.bool true) ∧ Below w.heap.size w w' := by
  have HA0 := Lib.hid (lit_at w [5, 0, 6, 0, 0, 7, 0, 8] _ rfl)
  have HR := Lib.hid (runsK _ _ 8 _ HA0.out (by decide))
  have hb0 : Below w.heap.size w (w.alloc (.cells (cellsOf [5, 0, 6, 0, 0, 7, 0, 8]).toArray 5)) := (Below.refl _ _).alloc (Nat.le_refl _) _
  have HB0 := Lib.hid hb0
  clear hb0 HA0
  rw [show Sp.of [5, 0, 6, 0, 0, 7, 0, 8] = ⟨8, some 6, [(1, [6]), (4, [7])], [8]⟩ from rfl] at HR
  go_enter Try.func8, Try.ntmps8
  go_wp2_with fail
  refine HR.out.mono ?_
  rintro e w1 ⟨q1, c1, bs1, rfl, hr1, hb1⟩
  have HR1 := Lib.hid hr1
  have HB1 := Lib.hid (HB0.out.trans (hb1.mono (by simp)))
  have hs1 := HB1.out.size
  clear hr1 hb1 HR HB0
  have HN := Lib.hid (newK w1)
  go_wp2_with fail
  refine HN.out.mono ?_
  rintro e w2 ⟨g, v, rfl, hs, hb2⟩
  have HS2 := Lib.hid hs
  have HB2 := Lib.hid hb2
  have hs2 := hb2.size
  have HR2 := Lib.hid (HR1.out.on hb2)
  clear hs hb2 HN
  have HF3 := Lib.hid (feedK (w2.alloc (.cells (cellsOf [0, 5]).toArray 5)) w1.heap.size g v Sp.start (some ⟨w2.heap.size, 0, none⟩) 2 [0, 5] (HS2.out.on ((Below.refl _ _).alloc (Nat.le_refl _) _)) (lit_at w2 _ _ rfl) (off_new HS2.out) (by decide))
  rw [show Sp.start.tolds [0, 5] = [] from rfl] at HF3
  go_wp2_with fail
  refine HF3.out.mono ?_
  rintro e w3 ⟨q3, c3, v3, bs3, rfl, hf3⟩
  have HS3 : Hid (Spl w3 w1.heap.size g v3 ⟨2, some 0, [], [5]⟩) := hf3.spl
  have HB3 := Lib.hid (((Below.refl w1.heap.size w2).alloc hs2 _).trans (hf3.below (HS2.out.on ((Below.refl _ _).alloc (Nat.le_refl _) _)) (Nat.le_refl _) (by simp; omega)))
  have hs3 := HB3.out.size
  clear hf3 HF3
  have HH3 := Lib.hid (heldK w3 w1.heap.size g v3 _ HS3.out)
  rw [show (Sp.mk 2 (some 0) [] [5]).held.length = 1 from rfl] at HH3
  go_wp2_with fail
  refine HH3.out.mono ?_
  rintro e w3' ⟨rfl, hw3⟩
  rw [hw3]
  clear hw3 w3' HH3
  have HF4 := Lib.hid (feedK (w3.alloc (.cells (cellsOf [6]).toArray 5)) w1.heap.size g v3 _ (some ⟨w3.heap.size, 0, none⟩) 1 [6] (HS3.out.on ((Below.refl _ _).alloc (Nat.le_refl _) _)) (lit_at w3 _ _ rfl) (off_new HS3.out) (by decide))
  rw [show (Sp.mk 2 (some 0) [] [5]).tolds [6] = [] from rfl] at HF4
  go_wp2_with fail
  refine HF4.out.mono ?_
  rintro e w4 ⟨q4, c4, v4, bs4, rfl, hf4⟩
  have HS4 : Hid (Spl w4 w1.heap.size g v4 ⟨3, some 0, [], [5, 6]⟩) := hf4.spl
  have HB4 := Lib.hid (((Below.refl w1.heap.size w3).alloc (by omega) _).trans (hf4.below (HS3.out.on ((Below.refl _ _).alloc (Nat.le_refl _) _)) (Nat.le_refl _) (by simp; omega)))
  have hs4 := HB4.out.size
  clear hf4 HF4
  have HF5 := Lib.hid (feedK (w4.alloc (.cells (cellsOf [0]).toArray 5)) w1.heap.size g v4 _ (some ⟨w4.heap.size, 0, none⟩) 1 [0] (HS4.out.on ((Below.refl _ _).alloc (Nat.le_refl _) _)) (lit_at w4 _ _ rfl) (off_new HS4.out) (by decide))
  rw [show (Sp.mk 3 (some 0) [] [5, 6]).tolds [0] = [(0, [5, 6])] from rfl] at HF5
  go_wp2_with fail
  refine HF5.out.mono ?_
  rintro e w5 ⟨q5, c5, v5, bs5, rfl, hf5⟩
  have HS5 : Hid (Spl w5 w1.heap.size g v5 ⟨4, some 3, [(0, [5, 6])], []⟩) := hf5.spl
  have hB5 := (((Below.refl w1.heap.size w4).alloc (by omega) _).trans (hf5.below (HS4.out.on ((Below.refl _ _).alloc (Nat.le_refl _) _)) (Nat.le_refl _) (by simp; omega)))
  have hB15 : Below w1.heap.size w1 w5 := HB2.out.trans (HB3.out.trans (HB4.out.trans hB5))
  have hrun5 : RunsO w5 _ (.slice q5 [((0, [5, 6]) : Run)].length c5) bs5 [(0, [5, 6])] := hf5.runs
  have hr5 := hrun5.read
  have hr1 := (HR1.out.far (fun k hk => (HR1.out.lt k hk).2) (fun k hk => (HR1.out.mem k hk).2) hB15).read
  have HBE := Lib.hid (HB1.out.trans (hB15.mono hs1))
  have HHe := Lib.hid (heldK w5 w1.heap.size g v5 _ HS5.out)
  have HAt := Lib.hid (atK w5 w1.heap.size g v5 _ HS5.out)
  rw [show (Sp.mk 4 (some 3) [(0, [5, 6])] []).held.length = 0 from rfl] at HHe
  clear hf5 HF5 hrun5 hB5 hB15 HB2 HB3 HB4 HS2 HS3 HS4 HR1 HR2
  obtain ⟨g1, o1, rfl, f1⟩ := hr1.cells
  obtain ⟨g5, o5, rfl, f5⟩ := hr5.cells
  obtain ⟨a0, pa, ca, a1, ha⟩ := f1 0 (by decide)
  obtain ⟨b0, pb, cb, b1, hb⟩ := f1 1 (by decide)
  obtain ⟨d0, pd, cd, d1, hd⟩ := f5 0 (by decide)
  simp at a0 a1 ha b0 b1 hb d0 d1 hd
  have ka : (convert 22 9 (.slice pa 1 ca)).run Try.prog w5 = .ok (.string (textOf [6])) w5 := conv_str ha ca
  have kb : (convert 22 9 (.slice pb 1 cb)).run Try.prog w5 = .ok (.string (textOf [7])) w5 := conv_str hb cb
  have kd : (convert 22 9 (.slice pd 2 cd)).run Try.prog w5 = .ok (.string (textOf [5, 6])) w5 := conv_str hd cd
  have ta : (textOf [6]).toList = [6] := by rw [ByteArray.toList_eq, textOf_data]
  have tb : (textOf [7]).toList = [7] := by rw [ByteArray.toList_eq, textOf_data]
  have td : (textOf [5, 6]).toList = [5, 6] := by rw [ByteArray.toList_eq, textOf_data]
  clear f1 f5 hr1 hr5 ha hb hd
  go_wp2_with fail
  refine HHe.out.mono ?_
  rintro e w6 ⟨rfl, hw⟩
  rw [hw]
  clear hw w6
  go_wp2_with fail
  refine HAt.out.mono ?_
  rintro e w6 ⟨rfl, hw⟩
  rw [hw]
  clear hw w6
  go_wp2
  go_ret
  exact ⟨rfl, HBE.out⟩
end Go.Proofs.Ytpgilfglfcnihaa
