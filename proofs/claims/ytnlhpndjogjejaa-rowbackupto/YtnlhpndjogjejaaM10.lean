/- RwErr, WRowR, WRowS, WRowT, WRowD, WRowV, RowsC, WCopied, WRowL, WPair, WLive8, K7A, K7B: put together. -/
import Derived.Test.YtnlhpndjogjejaaM09
import Derived.Test.YtnlhpndjogjejaaM06
import Derived.Test.YtnlhpndjogjejaaM03
import Derived.Deep.RegionLaw
import Derived.Test.YtnlhpndjogjejaaM02

/- Plain: the errors of reading are no noughts. -/
namespace Go.Proofs.Ytnlhpndjogjejaa
namespace Rw
theorem rd_err : ∀ (s : List Col) (l : List UInt8) (er : Nat), (∀ c ∈ s, Ty.check 1 c.ty = 0) → rd s l = .error er → er ≠ 0
  | [], l, er, _, h => by rw [rd] at h; cases h
  | c :: s, l, er, ht, h => by
    rw [rd] at h
    split at h
    · next e he => injection h with h; subst h; exact Sch.rdV_ne _ 1 _ _ (ht c (by simp)) he
    · split at h
      · next e he => injection h with h; subst h; exact rd_err s _ _ (fun x hx => ht x (by simp [hx])) he
      · cases h
theorem read_err {s : List Col} {l : List UInt8} {a : Int} {er : Nat} (h : read s l a = .error er) : er ≠ 0 := by
  unfold read at h
  split at h
  · next h0 => injection h with h; rw [← h]; exact h0
  · next h0 =>
    split at h
    · injection h with h; omega
    · split at h
      · next e he => injection h with h; subst h; exact rd_err s _ _ (types_ok (by omega)) he
      · split at h
        · injection h with h; omega
        · cases h
end Rw
end Go.Proofs.Ytnlhpndjogjejaa

/- The document's value, EncodeValue, bytesOf, Check, Encode of rows. -/
namespace Go.Proofs.Ytnlhpndjogjejaa
open Go.RowKit

attribute [local go_sem] run_store_float

/-- what encoding answers: bytes of one's own, or nothing and the error -/
def EncR (w : World) (er : Nat) (l : List UInt8) (e : Ending) (w' : World) : Prop :=
  (er = 0 ∧ ∃ q cap, e = .returned (.tuple #[.slice q l.length cap, .int .i64 0]) ∧ Has w' w.heap.size (.slice q l.length cap) l ∧ Below w.heap.size w w') ∨
  (er ≠ 0 ∧ e = .returned (.tuple #[.slice none 0 0, .int .i64 (er : Nat)]) ∧ Below w.heap.size w w')

end Go.Proofs.Ytnlhpndjogjejaa

/- The document's bytesOf, Check, Encode of rows. -/
namespace Go.Proofs.Ytnlhpndjogjejaa
open Go.RowKit

attribute [local go_sem] run_store_float

theorem bytes_small (xs : List V) (hn : xs.length ≤ 16) (hc : ∀ v ∈ xs, chk 1 v = 0) : (Rw.bytes xs).length ≤ 320000000000 := by
  have key : ∀ xs : List V, (∀ v ∈ xs, chk 1 v = 0) → (Rw.bytes xs).length ≤ xs.length * 20000000000 := by
    intro xs
    induction xs with
    | nil => intro _; simp [Rw.bytes]
    | cons v r ih =>
      intro h
      rw [Rw.bytes_cons, List.length_append, List.length_cons]
      have h1 := Sch.vB_small (h v (by simp)) (Nat.le_refl _)
      have h2 := ih (fun x hx => h x (by simp [hx]))
      omega
  have := key xs hc
  omega

end Go.Proofs.Ytnlhpndjogjejaa

/- The document's Check, Encode of rows. -/
namespace Go.Proofs.Ytnlhpndjogjejaa
open Go.RowKit

attribute [local go_sem] run_store_float

theorem colsErr_chk : ∀ (s : List Col) (vs : List V), vs.length = s.length → Rw.colsErr s vs = 0 → ∀ v ∈ vs, chk 1 v = 0
  | [], [], _, _, v, hv => by cases hv
  | [], _ :: _, h, _, _, _ => by simp at h
  | _ :: _, [], h, _, _, _ => by simp at h
  | c :: s, x :: vs, h, he, v, hv => by
    rw [Rw.colsErr] at he
    split at he
    · next h0 =>
      rcases List.mem_cons.1 hv with rfl | hv
      · exact (Rw.vErr_zero h0).2.1
      · exact colsErr_chk s vs (by simpa using h) he v hv
    · next h0 => exact absurd he h0
theorem colsErr_drop (s : List Col) (vs : List V) (j : Nat) (h1 : j < s.length) (h2 : j < vs.length) : Rw.colsErr (s.drop j) (vs.drop j) = if Rw.vErr s[j].ty vs[j] = 0 then Rw.colsErr (s.drop (j + 1)) (vs.drop (j + 1)) else Rw.vErr s[j].ty vs[j] := by
  rw [List.drop_eq_getElem_cons h1, List.drop_eq_getElem_cons h2, Rw.colsErr]

end Go.Proofs.Ytnlhpndjogjejaa

/- The document's DecodeValue, Decode of rows. -/
namespace Go.Proofs.Ytnlhpndjogjejaa
open Go.RowKit

attribute [local go_sem] run_store_float

/-- what Decode answers: the row in blocks of its own and the place behind it, or the error alone -/
def RowA (w : World) (r : Except Nat (List V × Nat)) (e : Ending) (w' : World) : Prop := match r with
  | .error er => e = .returned (.tuple #[.agg #[.slice none 0 0], .int .i64 0, .int .i64 (er : Nat)]) ∧ Below w.heap.size w w'
  | .ok (vs, k) => ∃ q c, e = .returned (.tuple #[.agg #[.slice q vs.length c], .int .i64 (k : Nat), .int .i64 0]) ∧ VOwn w' (fun k => w.heap.size ≤ k ∧ k < w'.heap.size) (cells5 0 0 0 ⟨#[]⟩ q vs.length c) (.mk 0 0 0 ⟨#[]⟩ vs) ∧ Below w.heap.size w w'

/-- one value is read, then the other columns' -/
def stepRd (s : List Col) (l : List UInt8) : Except Nat (V × Nat) → Except Nat (List V × Nat)
  | .error e => .error e
  | .ok (v, j) => glue [v] j (Rw.rd s (l.drop j))
theorem rd_cons (c : Col) (s : List Col) (l : List UInt8) : Rw.rd (c :: s) l = stepRd s l (Sch.rdV c.ty l) := by
  rw [Rw.rd]
  cases Sch.rdV c.ty l with
  | error e => rfl
  | ok p =>
    obtain ⟨v, j⟩ := p
    rw [stepRd]
    dsimp only
    cases Rw.rd s (l.drop j) with
    | error e => rfl
    | ok q => rfl

/-- while the row is read: the schema stands in the first block, the answer's place in the next, the row in the block B; the values ys are there -/
structure MakingR (w : World) (C0 : Array Value) (B : Nat) (ys : List V) (v : Value) (wr : World) : Prop where
  built : ∃ us Fs, Built wr (B + 1) v ys.length us Fs ys
  b0 : wr.heap[w.heap.size]? = some (.cells C0 24 (0, 0))
  b1 : wr.heap[w.heap.size + 1]? = some (.cells #[.slice none 0 0] 27 (0, 0))
  b2 : wr.heap[B]? = some (.cells #[v] 27 (0, 0))
  below : Below w.heap.size w wr
  far : w.heap.size + 2 ≤ B
  size : B + 1 ≤ wr.heap.size

section
variable {w wr : World} {C0 : Array Value} {B : Nat} {ys : List V} {v : Value}
theorem makingR_start {w1 : World} (h0 : w1.heap[w.heap.size]? = some (.cells C0 24 (0, 0))) (h1 : w1.heap[w.heap.size + 1]? = some (.cells #[.slice none 0 0] 27 (0, 0))) (hs : w.heap.size + 2 ≤ w1.heap.size) (hb : Below w.heap.size w w1) :
    MakingR w C0 w1.heap.size [] (.slice none 0 0) (w1.alloc (.cells #[.slice none 0 0] 27)) := by
  refine ⟨⟨_, _, built_nil _ _⟩, ?_, ?_, blk_new w1 _, hb.alloc (by omega) _, hs, by simp⟩
  · rw [blk_old _ _ (by omega)]; exact h0
  · rw [blk_old _ _ (by omega)]; exact h1
theorem MakingR.next {w2 w3 w4 : World} {u : Array Value} {F : Nat → Prop} {g cap : Nat} {us : Nat → Array Value} {Fs : Nat → Nat → Prop} {y : V} (h : MakingR w C0 B ys v wr) (hbt : Built wr (B + 1) v ys.length us Fs ys) (hb : Below wr.heap.size wr w2) (hx : VOwn w2 F u y)
    (hF : ∀ k, F k → wr.heap.size ≤ k ∧ k < w2.heap.size) (hb3 : Below w2.heap.size w2 w3)
    (hr : w4.ownsRow (B + 1) 46 5 (.slice (some ⟨g, 0, none⟩) (ys.length + 1) cap) (ys.length + 1) (flat us ys.length ++ u.toList)) (hg : w3.grownBy w4 v.ownBlock) (hn : v.ownBlock = some g ∨ g = w3.heap.size) :
    (∀ n, n ≤ B → w4.heap[n]? = wr.heap[n]?) ∧ MakingR w C0 B (ys ++ [y]) (.slice (some ⟨g, 0, none⟩) (ys.length + 1) cap) (w4.setCell ⟨B, 0, none⟩ (.slice (some ⟨g, 0, none⟩) (ys.length + 1) cap)) := by
  have hs := h.size
  have hf := h.far
  have hs2 := hb.size
  have hs3 := hb3.size
  have hst := hbt.step hb hx hF hb3 hs hr hg hn
  have hold : ∀ n, n ≤ B → w4.heap[n]? = wr.heap[n]? := fun n hn => by
    rw [hg.block _ (by omega) (fun hc => by have := (hbt.lt _ hc.symm).1; omega), hb3.block _ (by omega), hb.block _ (by omega)]
  have hb4 : Below w.heap.size w w4 := ((h.below.trans (hb.mono (by omega))).trans (hb3.mono (by omega))).grown hg (by omega) (fun k hk => by have := (hbt.lt k hk).1; omega)
  refine ⟨hold, ⟨⟨(fun n => if n = ys.length then u else us n), (fun n => if n = ys.length then F else Fs n), ?_⟩, ?_, ?_, ?_, ?_, hf, ?_⟩⟩
  · rw [List.length_append, List.length_singleton]
    exact hst.set ⟨B, 0, none⟩ _ (by show B < _; omega)
  · exact blk_set_far ((hold _ (by omega)).trans h.b0) _ _ (by show w.heap.size ≠ B; omega)
  · exact blk_set_far ((hold _ (by omega)).trans h.b1) _ _ (by show w.heap.size + 1 ≠ B; omega)
  · rw [blk_set ((hold B (Nat.le_refl _)).trans h.b2)]
    rfl
  · exact hb4.setCell (by show w.heap.size ≤ B; omega) _
  · have := hg.size
    simp [World.setCell]
    omega
/-- the answer's place is written: the row is there -/
theorem putR_fin {w1 : World} {q : Option Addr} {n c : Nat} {x : V} {F : Nat → Prop} (h1 : w1.heap[w.heap.size + 1]? = some (.cells #[.slice none 0 0] 27 (0, 0))) (hb : Below w.heap.size w w1) (hv : VOwn w1 F (cells5 0 0 0 ⟨#[]⟩ q n c) x) (hF : ∀ j, F j → w.heap.size + 2 ≤ j ∧ j < w1.heap.size) :
    (w1.setCell ⟨w.heap.size + 1, 0, none⟩ (.slice q n c)).heap[w.heap.size + 1]? = some (.cells #[.slice q n c] 27 (0, 0)) ∧ VOwn (w1.setCell ⟨w.heap.size + 1, 0, none⟩ (.slice q n c)) (fun j => w.heap.size ≤ j ∧ j < (w1.setCell ⟨w.heap.size + 1, 0, none⟩ (.slice q n c)).heap.size) (cells5 0 0 0 ⟨#[]⟩ q n c) x ∧ Below w.heap.size w (w1.setCell ⟨w.heap.size + 1, 0, none⟩ (.slice q n c)) := by
  have hA : Aside (fun k => k = w.heap.size + 1) w1 (w1.setCell ⟨w.heap.size + 1, 0, none⟩ (.slice q n c)) := (Aside.refl (fun k => k = w.heap.size + 1) w1).setCell (p := ⟨w.heap.size + 1, 0, none⟩) (.inl rfl) _
  refine ⟨?_, ?_, ?_⟩
  · rw [blk_set h1 0 _]
    rfl
  · exact (hv.aside hA (fun k hk hc => by have := hF k hk; omega)).mono (fun j hj => ⟨by have := hF j hj; omega, by have := hF j hj; have := hA.size; omega⟩)
  · exact hb.setCell (by show w.heap.size ≤ w.heap.size + 1; omega) _
end

end Go.Proofs.Ytnlhpndjogjejaa

/- The document's DecodeValue. -/
namespace Go.Proofs.Ytnlhpndjogjejaa
open Go.RowKit

attribute [local go_sem] run_store_float

/-- a value that is answered, the place behind it, or an error alone -/
def ValA (w : World) (r : Except Nat (V × Nat)) (e : Ending) (w' : World) : Prop := match r with
  | .error er => e = .returned (.tuple #[.agg (cells5 0 0 0 ⟨#[]⟩ none 0 0), .int .i64 0, .int .i64 (er : Nat)]) ∧ Below w.heap.size w w'
  | .ok (v, k) => ∃ u, e = .returned (.tuple #[.agg u, .int .i64 (k : Nat), .int .i64 0]) ∧ VOwn w' (fun k => w.heap.size ≤ k ∧ k < w'.heap.size) u v ∧ Below w.heap.size w w'

end Go.Proofs.Ytnlhpndjogjejaa

/- What the laws ask of package row's functions. -/
namespace Go.Proofs.Ytnlhpndjogjejaa
open Go.RowKit

/-- a row that is handed over: its values lie, as those of a value that holds them -/
def RLies (w : World) (q : Option Addr) (c : Nat) (vs : List V) : Prop := VLies w (cells5 0 0 0 ⟨#[]⟩ q vs.length c) (.mk 0 0 0 ⟨#[]⟩ vs) ∧ ∀ v ∈ vs, v.wf
theorem RLies.on {w w' : World} {q : Option Addr} {c : Nat} {vs : List V} (h : RLies w q c vs) (hb : Below w.heap.size w w') : RLies w' q c vs := ⟨h.1.on hb, h.2⟩
theorem RLies.items {w : World} {q : Option Addr} {c : Nat} {vs : List V} (h : RLies w q c vs) : vs.length * 64 ≤ 140737488351232 ∧ vs.length ≤ c ∧ Items w q vs := by
  obtain ⟨p, c', he, h1, h2, h3⟩ := h.1.open
  unfold cells5 at he
  simp only [Array.mk.injEq, List.cons.injEq, Value.slice.injEq, and_true, true_and] at he
  obtain ⟨rfl, rfl⟩ := he
  exact ⟨h1, h2, h3⟩
/-- a schema that is handed over -/
structure SchL (w : World) (p : Option Addr) (c : Nat) (s : List Col) : Prop where
  len : s.length * 120 ≤ 140737488351232
  cap : s.length ≤ c
  cols : Cols w p s
  wf : ∀ x ∈ s, x.wf
theorem SchL.on {w w' : World} {p : Option Addr} {c : Nat} {s : List Col} (h : SchL w p c s) (hb : Below w.heap.size w w') : SchL w' p c s := ⟨h.len, h.cap, h.cols.on hb, h.wf⟩

/-- bytes that are answered beside an error -/
def Told (w : World) (er : Nat) (l : List UInt8) (e : Ending) (w' : World) : Prop := ∃ q cap, e = .returned (.tuple #[.slice q l.length cap, .int .i64 (er : Nat)]) ∧ At w' q l ∧ l.length ≤ cap ∧ Below w.heap.size w w'
/-- what package row's functions answer, in every world of which I holds -/
structure RowsOk (I : World → Prop) : Prop where
  on : ∀ {w w' : World}, I w → Below w.heap.size w w' → I w'
  check : ∀ (s : List Col) (p : Option Addr) (c : Nat) (vs : List V) (q : Option Addr) (d : Nat) (w : World), SchL w p c s → RLies w q d vs → I w → Calls Try.prog 7 #[.agg #[.slice p s.length c], .agg #[.slice q vs.length d]] w fun e w' => e = .returned (.int .i64 (Rw.err s vs : Nat)) ∧ Below w.heap.size w w'
  encode : ∀ (s : List Col) (p : Option Addr) (c : Nat) (vs : List V) (q : Option Addr) (d : Nat) (w : World), SchL w p c s → RLies w q d vs → I w → Calls Try.prog 6 #[.agg #[.slice p s.length c], .agg #[.slice q vs.length d]] w (Told w (Rw.err s vs) (Rw.out s vs))
  decode : ∀ (s : List Col) (p : Option Addr) (c : Nat) (l : List UInt8) (q : Option Addr) (d : Nat) (a : Int) (w : World), SchL w p c s → l.length ≤ 140737488351232 → l.length ≤ d → At w q l → -9223372036854775808 ≤ a → a ≤ 9223372036854775807 → I w → Calls Try.prog 8 #[.agg #[.slice p s.length c], .slice q l.length d, .int .i64 a] w (RowA w (Rw.read s l a))
  encodeValue : ∀ (y : Ty) (x : V) (u v : Array Value) (w : World), TLies w u y → y.wf → VLies w v x → x.wf → I w → Calls Try.prog 31 #[.agg u, .agg v] w (Told w (Rw.encErr y x) (Rw.encB y x))
end Go.Proofs.Ytnlhpndjogjejaa

/- The law's own copied(v). -/
namespace Go.Proofs.Ytnlhpndjogjejaa
open Go.RowKit

attribute [local go_sem] run_store_float

theorem fresh_from {w W w2 : World} {y : V} {e : Ending} (h : Fresh W y e w2) (h1 : W.os = w.os) (h2 : W.tape = w.tape) (h3 : W.output = w.output) (h4 : W.heap = w.heap) : Fresh w y e w2 := by
  obtain ⟨u', rfl, hv, hb⟩ := h
  rw [h4] at hv hb
  exact ⟨u', rfl, hv, below_via hb h1 h2 h3 h4⟩

end Go.Proofs.Ytnlhpndjogjejaa

/- The law's own rows(a, b). -/
namespace Go.Proofs.Ytnlhpndjogjejaa
open Go.RowKit

attribute [local go_sem] run_store_float

/-- two rows, floats bit by bit -/
def Rw.exact (xs ys : List V) : Bool := V.exact (.mk 0 0 0 ⟨#[]⟩ xs) (.mk 0 0 0 ⟨#[]⟩ ys)

set_option maxRecDepth 100000 in
set_option maxHeartbeats 1000000 in
theorem rows8 (xs ys : List V) (p q : Option Addr) (c d : Nat) (w : World) (hx : VLies w (cells5 0 0 0 ⟨#[]⟩ p xs.length c) (.mk 0 0 0 ⟨#[]⟩ xs)) (hy : VLies w (cells5 0 0 0 ⟨#[]⟩ q ys.length d) (.mk 0 0 0 ⟨#[]⟩ ys)) :
    Calls Try.prog 32 #[.agg #[.slice p xs.length c], .agg #[.slice q ys.length d]] w fun e w' => e = .returned (.bool (Rw.exact xs ys)) ∧ Below w.heap.size w w' := by
  obtain ⟨W0, hW0⟩ : ∃ W0, W0 = (w.alloc (.cells #[.slice p xs.length c] 27)).alloc (.cells #[.slice q ys.length d] 27) := ⟨_, rfl⟩
  have HB0 : Hid (Below w.heap.size w W0) := by rw [hW0]; exact ((Below.refl _ _).alloc (Nat.le_refl _) _).alloc (by simp) _
  have HW0 := Lib.hid hW0
  have HC := Lib.hid (exact6 _ _ W0 _ _ (hx.on HB0.out) (hy.on HB0.out))
  have HE : Hid (V.exact (.mk 0 0 0 ⟨#[]⟩ xs) (.mk 0 0 0 ⟨#[]⟩ ys) = Rw.exact xs ys) := rfl
  rw [HE.out] at HC
  obtain ⟨R, hR⟩ : ∃ R, R = Rw.exact xs ys := ⟨_, rfl⟩
  rw [← hR] at HC ⊢
  clear hW0 hx hy HE hR
  unfold cells5 at HC
  go_enter Try.func32, Try.ntmps32
  go_wp2_with fail
  rw [← HW0.out]
  refine HC.out.mono ?_
  rintro e w1 ⟨rfl, hb1⟩
  have HB1 := Lib.hid (HB0.out.trans (hb1.mono HB0.out.size))
  clear hb1 HC HW0
  go_wp2
  go_ret
  exact ⟨rfl, HB1.out⟩
end Go.Proofs.Ytnlhpndjogjejaa

/- The law's own pair(), and plain facts on the chapter's examples. -/
namespace Go.Proofs.Ytnlhpndjogjejaa
open Go.RowKit

attribute [local go_sem] run_store_float

theorem tl_leaf (w : World) (k : Int) (p : Option Addr) (c : Nat) : TLies w (cells2 k p 0 c) (.mk k []) := .mk (xs := []) (fun _ => #[]) (by simp) (by simp) (fun hc => absurd rfl hc) (fun j hj => by simp at hj)
theorem vl_leaf (w : World) (k i : Int) (b : Nat) (t : ByteArray) (p : Option Addr) (c : Nat) : VLies w (cells5 k i b t p 0 c) (.mk k i b t []) := .mk (xs := []) (fun _ => #[]) (by simp) (by simp) (fun hc => absurd rfl hc) (fun j hj => by simp at hj)
theorem tl_one {w : World} {g : Nat} {u : Array Value} {T : TypeId} {x : Ty} (hg : w.heap[g]? = some (.cells u T (0, 0))) (hx : TLies w u x) (k : Int) : TLies w (cells2 k (some ⟨g, 0, none⟩) 1 1) (.mk k [x]) := by
  refine .mk (xs := [x]) (fun _ => u) (by simp) (by simp) (fun _ => ⟨g, 0, rfl, (Array.getElem?_eq_some_iff.1 hg).1, fun j hj m hm => ?_⟩) (fun j hj => ?_)
  · have hj0 : j = 0 := by simp at hj; omega
    subst hj0
    simp [World.cell?, hg]
  · have hj0 : j = 0 := by simp at hj; omega
    subst hj0
    exact hx

/-- the schema of the chapter's examples -/
def pairA : Col := ⟨⟨#[97]⟩, .mk 2 [], false, V0⟩
def pairB : Col := ⟨⟨#[98]⟩, .mk 6 [.mk 4 []], false, V0⟩
def pairS : List Col := [pairA, pairB]
theorem pairA_err : Sch.colErr [] pairA = 0 := Sch.col_make (by kernel_rfl) rfl (Sch.ty_leaf (by omega) (by omega) (by omega)) (fun _ => Sch.v0_fix) (fun h => by cases h)
theorem pairB_err : Sch.colErr [pairA] pairB = 0 := Sch.col_make (by kernel_rfl) (by kernel_rfl) (Sch.ty_one (by omega) (by omega) (Sch.ty_leaf (by omega) (by omega) (by omega))) (fun _ => Sch.v0_fix) (fun h => by cases h)
theorem pair_bytes : Sch.bytes pairS = [2, 1, 97, 2, 0, 1, 98, 6, 4, 0] := by
  unfold Sch.bytes pairS pairA pairB Sch.cB
  simp only [List.map_cons, List.map_nil, Sch.tyB_mk]
  kernel_rfl
theorem pair_err : Sch.err pairS = 0 := Sch.err_make (by decide) (by decide) (by
  unfold pairS
  rw [Sch.colsErr, if_pos pairA_err, Sch.colsErr, List.nil_append, if_pos pairB_err, Sch.colsErr]) (by rw [pair_bytes]; decide)
theorem pair_wf : ∀ c ∈ pairS, c.wf := by
  intro c hc
  unfold pairS at hc
  rcases List.mem_cons.1 hc with rfl | hc
  · exact ⟨by decide, Ty.wf_mk.2 ⟨by omega, fun x hx => by cases hx⟩, Sch.v0_wf⟩
  · rcases List.mem_cons.1 hc with rfl | hc
    · exact ⟨by decide, Ty.wf_mk.2 ⟨by omega, fun x hx => by
        rcases List.mem_cons.1 hx with rfl | hx
        · exact Ty.wf_mk.2 ⟨by omega, fun x hx => by cases hx⟩
        · cases hx⟩, Sch.v0_wf⟩
    · cases hc
/-- the row of the chapter's examples -/
def hiT : V := .mk 4 0 0 ⟨#[104, 105]⟩ []
def hiR : List V := [.mk 2 64 0 ⟨#[]⟩ [], .mk 6 0 0 ⟨#[]⟩ [hiT]]
theorem hi_bytes : Rw.bytes hiR = [128, 1, 1, 2, 104, 105] := by
  unfold Rw.bytes hiR hiT
  simp only [List.map_cons, List.map_nil, Sch.vB_mk]
  kernel_rfl
theorem hi_wf : ∀ v ∈ hiR, v.wf := by
  intro v hv
  unfold hiR at hv
  rcases List.mem_cons.1 hv with rfl | hv
  · exact V.wf_mk.2 ⟨by omega, by omega, by omega, Nat.zero_le _, fun x hx => by cases hx⟩
  · rcases List.mem_cons.1 hv with rfl | hv
    · refine V.wf_mk.2 ⟨by omega, by omega, by omega, Nat.zero_le _, fun x hx => ?_⟩
      rcases List.mem_cons.1 hx with rfl | hx
      · exact V.wf_mk.2 ⟨by omega, by omega, by omega, by decide, fun x hx => by cases hx⟩
      · cases hx
    · cases hv
theorem hi_fix : hiR.map V.fix = hiR := by
  unfold hiR hiT
  simp only [List.map_cons, List.map_nil, V.fix_mk, Sch.fixB_zero, V.fixL]
theorem five_read : Rw.read pairS [5] 0 = .error 30 := by
  unfold Rw.read
  rw [if_neg (by rw [pair_err]; simp)]
  simp only [pairS, pairA, pairB, Rw.rd, Sch.rdV_mk]
  kernel_rfl
theorem hi_err : Rw.err pairS hiR = 0 := Rw.err_make pair_err rfl (by
  have h1 : Rw.vErr (.mk 2 []) (.mk 2 64 0 ⟨#[]⟩ []) = 0 := Rw.vErr_make (Sch.ty_leaf (by omega) (by omega) (by omega)) (Sch.chk_make (by omega) (by kernel_rfl) (Nat.zero_le _) (by simp) (fun h => by cases h) (fun x hx => by cases hx)) (by rw [Sch.of_mk]; rfl)
  have h2 : Rw.vErr (.mk 6 [.mk 4 []]) (.mk 6 0 0 ⟨#[]⟩ [hiT]) = 0 := Rw.vErr_make (Sch.ty_one (by omega) (by omega) (Sch.ty_leaf (by omega) (by omega) (by omega))) (Sch.chk_make (by omega) (by kernel_rfl) (Nat.zero_le _) (by simp) (fun h => by cases h) (fun x hx => by
    rcases List.mem_cons.1 hx with rfl | hx
    · exact Sch.chk_make (by omega) (by kernel_rfl) (by decide) (by simp) (fun _ => by kernel_rfl) (fun x hx => by cases hx)
    · cases hx)) (by rw [Sch.of_mk]; unfold hiT; simp only [List.all_cons, List.all_nil, Sch.of_mk]; rfl)
  unfold pairS hiR pairA pairB
  rw [Rw.colsErr, if_pos h1, Rw.colsErr, if_pos h2, Rw.colsErr]
  · intro c s v r h; cases h) (by rw [hi_bytes]; decide)
theorem hi_read : Rw.read pairS [128, 1, 1, 2, 104, 105, 7] 0 = .ok (hiR, 6) := by
  have h := Rw.read_put hi_err hi_wf [] [7]
  rw [hi_bytes, hi_fix] at h
  exact h
theorem none_err : Rw.err pairS [] = 80 := by
  unfold Rw.err
  rw [if_neg (by rw [pair_err]; simp), if_pos (by decide)]

set_option maxRecDepth 100000 in
set_option maxHeartbeats 1000000 in
theorem pair8 (w : World) : Calls Try.prog 30 #[] w fun e w' => ∃ p c, e = .returned (.agg #[.slice p 2 c]) ∧ Cols w' p pairS ∧ 2 ≤ c ∧ Below w.heap.size w w' := by
  obtain ⟨W, hW⟩ : ∃ W, W = ((w.alloc (.cells #[.slice (some ⟨w.heap.size + 1 + 1, 0, none⟩) 2 2] 24)).alloc (.cells #[.int .i64 4, .slice none 0 0] 43)).alloc (.cells #[.string ⟨#[97]⟩, .int .i64 2, .slice none 0 0, .bool false, .int .i64 0, .int .i64 0, .float .f64 0, .string ⟨#[]⟩, .slice none 0 0, .string ⟨#[98]⟩, .int .i64 6, .slice (some ⟨w.heap.size + 1, 0, none⟩) 1 1, .bool false, .int .i64 0, .int .i64 0, .float .f64 0, .string ⟨#[]⟩, .slice none 0 0] 61) := ⟨_, rfl⟩
  have hs : W.heap.size = w.heap.size + 3 := by rw [hW]; simp
  have HB : Hid (Below w.heap.size w W) := by rw [hW]; exact (((Below.refl _ _).alloc (Nat.le_refl _) _).alloc (by simp) _).alloc (by simp; omega) _
  have h0 : W.heap[w.heap.size]? = some (.cells #[.slice (some ⟨w.heap.size + 1 + 1, 0, none⟩) 2 2] 24 (0, 0)) := by
    rw [hW, blk_old _ _ (by simp; omega), blk_old _ _ (by simp)]
    exact blk_new w _
  have h1 : W.heap[w.heap.size + 1]? = some (.cells #[.int .i64 4, .slice none 0 0] 43 (0, 0)) := by
    rw [hW, blk_old _ _ (by simp)]
    exact blk_second w _ _
  have h3 : ∀ m, W.cell? ⟨w.heap.size + 1 + 1, m, none⟩ = (#[.string ⟨#[97]⟩, .int .i64 2, .slice none 0 0, .bool false, .int .i64 0, .int .i64 0, .float .f64 0, .string ⟨#[]⟩, .slice none 0 0, .string ⟨#[98]⟩, .int .i64 6, .slice (some ⟨w.heap.size + 1, 0, none⟩) 1 1, .bool false, .int .i64 0, .int .i64 0, .float .f64 0, .string ⟨#[]⟩, .slice none 0 0] : Array Value)[m]? := fun m => by
    refine blk_cell (T := 61) (fr := (0, 0)) ?_ m
    rw [hW]
    have := blk_new ((w.alloc (.cells #[.slice (some ⟨w.heap.size + 1 + 1, 0, none⟩) 2 2] 24)).alloc (.cells #[.int .i64 4, .slice none 0 0] 43)) (.cells #[.string ⟨#[97]⟩, .int .i64 2, .slice none 0 0, .bool false, .int .i64 0, .int .i64 0, .float .f64 0, .string ⟨#[]⟩, .slice none 0 0, .string ⟨#[98]⟩, .int .i64 6, .slice (some ⟨w.heap.size + 1, 0, none⟩) 1 1, .bool false, .int .i64 0, .int .i64 0, .float .f64 0, .string ⟨#[]⟩, .slice none 0 0] 61)
    simpa using this
  have hcols : Cols W (some ⟨w.heap.size + 1 + 1, 0, none⟩) pairS := by
    intro j hj
    have hj2 : j < 2 := hj
    rcases (show j = 0 ∨ j = 1 by omega) with rfl | rfl
    · refine ⟨cells9 ⟨#[97]⟩ 2 none 0 0 false 0 0 0 ⟨#[]⟩ none 0 0, ⟨2, none, 0, 0, 0, 0, 0, ⟨#[]⟩, none, 0, 0, rfl, tl_leaf W 2 none 0, v0_lies W none 0⟩, ⟨w.heap.size + 1 + 1, 0, ⟨#[97]⟩, 2, none, 0, 0, false, 0, 0, 0, ⟨#[]⟩, none, 0, 0, rfl, by omega, rfl, ?_⟩⟩
      exact ⟨h3 0, h3 1, h3 2, h3 3, h3 4, h3 5, h3 6, h3 7, h3 8⟩
    · refine ⟨cells9 ⟨#[98]⟩ 6 (some ⟨w.heap.size + 1, 0, none⟩) 1 1 false 0 0 0 ⟨#[]⟩ none 0 0, ⟨6, some ⟨w.heap.size + 1, 0, none⟩, 1, 1, 0, 0, 0, ⟨#[]⟩, none, 0, 0, rfl, tl_one h1 (tl_leaf W 4 none 0) 6, v0_lies W none 0⟩, ⟨w.heap.size + 1 + 1, 0, ⟨#[98]⟩, 6, some ⟨w.heap.size + 1, 0, none⟩, 1, 1, false, 0, 0, 0, ⟨#[]⟩, none, 0, 0, rfl, by omega, rfl, ?_⟩⟩
      exact ⟨h3 9, h3 10, h3 11, h3 12, h3 13, h3 14, h3 15, h3 16, h3 17⟩
  have HC := Lib.hid hcols
  have H0 := Lib.hid h0
  have HW := Lib.hid hW
  clear hcols h0 h1 h3 hs hW
  go_enter Try.func30, Try.ntmps30
  go_wp2
  rw [← HW.out]
  refine bodyPost_ret (results_cell_row rfl _ _ w.heap.size _ _ _ _ rfl H0.out Try.underlying24 rfl (by kernel_rfl)) rfl ?_
  exact ⟨_, _, rfl, HC.out, Nat.le_refl _, HB.out⟩
end Go.Proofs.Ytnlhpndjogjejaa

/- The law's own live(). -/
namespace Go.Proofs.Ytnlhpndjogjejaa
open Go.RowKit

attribute [local go_sem] run_store_float

theorem bool_enc : Rw.encErr (.mk 1 []) (.mk 1 1 0 ⟨#[]⟩ []) = 0 := by
  have h := Rw.vErr_make (t := .mk 1 []) (v := .mk 1 1 0 ⟨#[]⟩ []) (Sch.ty_leaf (by omega) (by omega) (by omega)) (Sch.chk_make (by omega) (by kernel_rfl) (Nat.zero_le _) (by simp) (fun h => by cases h) (fun x hx => by cases hx)) (by rw [Sch.of_mk]; rfl)
  unfold Rw.encErr
  rw [if_neg (by rw [(Rw.vErr_zero h).1]; simp), h]
theorem bool_bytes : Rw.encB (.mk 1 []) (.mk 1 1 0 ⟨#[]⟩ []) = [1] := by
  unfold Rw.encB
  rw [if_pos bool_enc]
  simp only [Sch.vB_mk]
  kernel_rfl
theorem hi_out : Rw.out pairS hiR = [128, 1, 1, 2, 104, 105] := by
  unfold Rw.out
  rw [if_pos hi_err, hi_bytes]
theorem hi_exact : Rw.exact hiR hiR = true := (V.exact_iff _ _).2 rfl
/-- the example's row lies, two values in one block, the text in another -/
theorem hi_lies {w : World} {g h : Nat} (hg : w.heap[g]? = some (.cells #[.int .i64 2, .int .i64 64, .float .f64 0, .string ⟨#[]⟩, .slice none 0 0, .int .i64 6, .int .i64 0, .float .f64 0, .string ⟨#[]⟩, .slice (some ⟨h, 0, none⟩) 1 1] 46 (0, 0))) (hh : w.heap[h]? = some (.cells #[.int .i64 4, .int .i64 0, .float .f64 0, .string ⟨#[104, 105]⟩, .slice none 0 0] 46 (0, 0))) : RLies w (some ⟨g, 0, none⟩) 2 hiR := by
  refine ⟨?_, hi_wf⟩
  have h1 : VLies w (cells5 6 0 0 ⟨#[]⟩ (some ⟨h, 0, none⟩) 1 1) (.mk 6 0 0 ⟨#[]⟩ [hiT]) := by
    refine .mk (xs := [hiT]) (fun _ => cells5 4 0 0 ⟨#[104, 105]⟩ none 0 0) (by simp) (by simp) (fun _ => ⟨h, 0, rfl, (Array.getElem?_eq_some_iff.1 hh).1, fun j hj m hm => ?_⟩) (fun j hj => ?_)
    · have hj0 : j = 0 := by simp at hj; omega
      subst hj0
      simp [World.cell?, hh, cells5]
    · have hj0 : j = 0 := by simp at hj; omega
      subst hj0
      exact vl_leaf w 4 0 0 ⟨#[104, 105]⟩ none 0
  refine .mk (xs := hiR) (fun j => if j = 0 then cells5 2 64 0 ⟨#[]⟩ none 0 0 else cells5 6 0 0 ⟨#[]⟩ (some ⟨h, 0, none⟩) 1 1) (by decide) (by decide) (fun _ => ⟨g, 0, rfl, (Array.getElem?_eq_some_iff.1 hg).1, fun j hj m hm => ?_⟩) (fun j hj => ?_)
  · have hj2 : j < 2 := hj
    rcases (show j = 0 ∨ j = 1 by omega) with rfl | rfl
    all_goals
      rcases (show m = 0 ∨ m = 1 ∨ m = 2 ∨ m = 3 ∨ m = 4 by omega) with rfl | rfl | rfl | rfl | rfl <;> simp [World.cell?, hg, cells5]
  · have hj2 : j < 2 := hj
    rcases (show j = 0 ∨ j = 1 by omega) with rfl | rfl
    · exact vl_leaf w 2 64 0 ⟨#[]⟩ none 0
    · exact h1

set_option maxRecDepth 100000 in
set_option maxHeartbeats 2000000 in
theorem rowLive_ok {I : World → Prop} (K : RowsOk I) (w : World) (hI : I w) : Calls Try.prog 10 #[] w fun e w' => e = .returned (.bool true) ∧ Below w.heap.size w w' := by
  have HK := Lib.hid K
  have HI := Lib.hid hI
  clear hI K
  obtain ⟨W, hW⟩ : ∃ W, W = ((w.alloc (.cells #[.int .i64 4, .int .i64 0, .float .f64 0, .string ⟨#[104, 105]⟩, .slice none 0 0] 46)).alloc (.cells #[.int .i64 2, .int .i64 64, .float .f64 0, .string ⟨#[]⟩, .slice none 0 0, .int .i64 6, .int .i64 0, .float .f64 0, .string ⟨#[]⟩, .slice (some ⟨w.heap.size, 0, none⟩) 1 1] 46)).alloc (.cells #[.slice (some ⟨w.heap.size + 1, 0, none⟩) 2 2] 27) := ⟨_, rfl⟩
  have HB0 : Hid (Below w.heap.size w W) := by rw [hW]; exact (((Below.refl _ _).alloc (Nat.le_refl _) _).alloc (by simp) _).alloc (by simp; omega) _
  have HL0 : Hid (RLies W (some ⟨w.heap.size + 1, 0, none⟩) 2 hiR) := by
    refine hi_lies (h := w.heap.size) ?_ ?_
    · rw [hW, blk_old _ _ (by simp)]
      exact blk_second w _ _
    · rw [hW, blk_old _ _ (by simp; omega)]
      exact blk_first w _ _
  have HC0 : Hid (W.cell? ⟨w.heap.size + 1 + 1, 0, none⟩ = some (.slice (some ⟨w.heap.size + 1, 0, none⟩) 2 2)) := by
    show _ = _
    refine blk_cell (C := #[.slice (some ⟨w.heap.size + 1, 0, none⟩) 2 2]) (T := 27) (fr := (0, 0)) ?_ 0
    rw [hW]
    have h := blk_new ((w.alloc (.cells #[.int .i64 4, .int .i64 0, .float .f64 0, .string ⟨#[104, 105]⟩, .slice none 0 0] 46)).alloc (.cells #[.int .i64 2, .int .i64 64, .float .f64 0, .string ⟨#[]⟩, .slice none 0 0, .int .i64 6, .int .i64 0, .float .f64 0, .string ⟨#[]⟩, .slice (some ⟨w.heap.size, 0, none⟩) 1 1] 46)) (.cells #[.slice (some ⟨w.heap.size + 1, 0, none⟩) 2 2] 27)
    simpa using h
  have HW := Lib.hid hW
  have HPairI : Hid (∀ w', Calls Try.prog 30 #[] w' fun e w'' => ∃ p c, e = .returned (.agg #[.slice p 2 c]) ∧ SchL w'' p c pairS ∧ Below w'.heap.size w' w'') := fun w' => by
    refine (pair8 w').mono ?_
    rintro e w'' ⟨p, c, rfl, h1, h2, h3⟩
    exact ⟨p, c, rfl, ⟨by decide, h2, h1, pair_wf⟩, h3⟩
  clear hW
  go_enter Try.func10, Try.ntmps10
  go_wp2_with fail
  rw [← HW.out]
  clear HW
  obtain ⟨G, hG⟩ : ∃ G : World → Prop, G = fun w' => Below W.heap.size W w' := ⟨_, rfl⟩
  have hGs : ∀ w' w'', G w' → Below w'.heap.size w' w'' → G w'' := fun w' w'' h1 h2 => by rw [hG] at h1 ⊢; exact h1.trans (h2.mono h1.size)
  have hGd : ∀ w', G w' → G w'.drew := fun w' h1 => by rw [hG] at h1 ⊢; exact h1.drew
  have hG0 : G W := by rw [hG]; exact Below.refl _ _
  have HGw : Hid (∀ w', G w' → I w' ∧ RLies w' (some ⟨w.heap.size + 1, 0, none⟩) 2 hiR ∧ w'.cell? ⟨w.heap.size + 1 + 1, 0, none⟩ = some (.slice (some ⟨w.heap.size + 1, 0, none⟩) 2 2) ∧ Below w.heap.size w w' ∧ Below W.heap.size W w') := fun w' h => by
    rw [hG] at h
    have hw : Below w.heap.size w w' := HB0.out.trans (h.mono HB0.out.size)
    exact ⟨HK.out.on HI.out hw, HL0.out.on h, cell_on h HC0.out, hw, h⟩
  have HCell : Hid (∀ w', G w' → w'.cell? ⟨w.heap.size + 1 + 1, 0, none⟩ = some (.slice (some ⟨w.heap.size + 1, 0, none⟩) 2 2)) := fun w' h => (HGw.out w' h).2.2.1
  have HPair : Hid (∀ w', G w' → Calls Try.prog 30 #[] w' fun e w'' => ∃ p c, e = .returned (.agg #[.slice p 2 c]) ∧ SchL w'' p c pairS ∧ G w'') := fun w' h => by
    refine (HPairI.out w').mono ?_
    rintro e w'' ⟨p, c, rfl, h1, h2⟩
    exact ⟨p, c, rfl, h1, hGs _ _ h h2⟩
  have HEnc : Hid (∀ w' p c, G w' → SchL w' p c pairS → Calls Try.prog 6 #[.agg #[.slice p 2 c], .agg #[.slice (some ⟨w.heap.size + 1, 0, none⟩) 2 2]] w' fun e w'' => ∃ q cap, e = .returned (.tuple #[.slice q 6 cap, .int .i64 0]) ∧ At w'' q [128, 1, 1, 2, 104, 105] ∧ G w'') := fun w' p c h hs => by
    have hh := HK.out.encode pairS p c hiR (some ⟨w.heap.size + 1, 0, none⟩) 2 w' hs (HGw.out w' h).2.1 (HGw.out w' h).1
    rw [hi_out, hi_err] at hh
    refine hh.mono ?_
    rintro e w'' ⟨q, cap, rfl, h1, -, h2⟩
    exact ⟨q, cap, rfl, h1, hGs _ _ h h2⟩
  have hc := HCell.out W hG0
  clear hG
  go_region_held3 (fun w' => w'.cell? ⟨w.heap.size + 1 + 1, 0, none⟩ = some (.slice (some ⟨w.heap.size + 1, 0, none⟩) 2 2) ∧ G w') (first | go_keep | exact ⟨by assumption, by assumption⟩ | (refine ⟨?_, ?_⟩ <;> first | assumption | (simp; assumption) | exact hGd _ (by assumption))) (first
    | (go_at_call 30; refine (HPair.out _ (by first | assumption | exact hGd _ (by assumption))).mono ?_; rintro e wq ⟨pq, cq, rfl, hsl, hGq⟩; have hcq := HCell.out _ hGq; have HSq := Lib.hid hsl; clear hsl)
    | (go_at_call 6; refine (HEnc.out _ _ _ (by assumption) HSq.out).mono ?_; rintro e w1 ⟨q1, cap1, rfl, hat1, hG1⟩; have hc1 := HCell.out _ hG1; have HAt1 := Lib.hid hat1; clear hat1)
    | fail)
  have HB1 := Lib.hid (HGw.out _ hG1).2.2.2.1
  have HBW1 := Lib.hid (HGw.out _ hG1).2.2.2.2
  clear hc hc1 hcq hGq hG1 hG0 hGs hGd HGw HCell HPair HEnc HSq
  go_wp2_with fail
  refine (HPairI.out w1).mono ?_
  rintro e w2 ⟨p2, c2, rfl, hs2, hb2⟩
  have HB12 := Lib.hid hb2
  have HS2 := Lib.hid hs2
  clear hb2 hs2
  obtain ⟨wa, hwa⟩ : ∃ wa, wa = w2.alloc (.cells #[.int .u8 128, .int .u8 1, .int .u8 1, .int .u8 2, .int .u8 104, .int .u8 105, .int .u8 7] 5) := ⟨_, rfl⟩
  have hba : Below w2.heap.size w2 wa := by rw [hwa]; exact (Below.refl _ _).alloc (Nat.le_refl _) _
  have hata : At wa (some ⟨w2.heap.size, 0, none⟩) [128, 1, 1, 2, 104, 105, 7] := by rw [hwa]; exact (has_lit (B := 0) (w := w2) [128, 1, 1, 2, 104, 105, 7] rfl (Nat.zero_le _) (by decide)).here
  have HB1a := Lib.hid (HB12.out.trans (hba.mono HB12.out.size))
  have hD := HK.out.decode pairS p2 c2 [128, 1, 1, 2, 104, 105, 7] (some ⟨w2.heap.size, 0, none⟩) 7 0 wa (HS2.out.on hba) (by decide) (by decide) hata (by decide) (by decide) (HK.out.on HI.out (HB1.out.trans (HB1a.out.mono HB1.out.size)))
  rw [hi_read] at hD
  have HD := Lib.hid hD
  have HWa := Lib.hid hwa
  clear hD hba hata hwa HB12
  go_wp2_with fail
  rw [← HWa.out]
  clear HWa
  refine HD.out.mono ?_
  rintro e w3 ⟨q3, c3, rfl, hv3, hb3⟩
  have HV3 := Lib.hid hv3.lies
  have HB13 := Lib.hid (HB1a.out.trans (hb3.mono HB1a.out.size))
  have hl2 : hiR.length = 2 := rfl
  rw [hl2] at HV3 ⊢
  clear hv3 hb3 HD HB1a hl2
  obtain ⟨wb, hwb⟩ : ∃ wb, wb = w3.alloc (.cells #[.slice q3 2 c3] 27) := ⟨_, rfl⟩
  have HB3b : Hid (Below w3.heap.size w3 wb) := by rw [hwb]; exact (Below.refl _ _).alloc (Nat.le_refl _) _
  have HCb : Hid (wb.cell? ⟨w3.heap.size, 0, none⟩ = some (.slice q3 2 c3)) := by show _ = _; rw [hwb]; simp
  have HWb := Lib.hid hwb
  clear hwb
  go_wp2_with fail
  rw [← HWb.out]
  clear HWb
  refine (HPairI.out wb).mono ?_
  rintro e w4 ⟨p4, c4, rfl, hs4, hb4⟩
  have HBb4 := Lib.hid hb4
  have HS4 := Lib.hid hs4
  clear hb4 hs4
  obtain ⟨wc, hwc⟩ : ∃ wc, wc = w4.alloc (.cells #[.int .u8 5] 5) := ⟨_, rfl⟩
  have hbc : Below w4.heap.size w4 wc := by rw [hwc]; exact (Below.refl _ _).alloc (Nat.le_refl _) _
  have hatc : At wc (some ⟨w4.heap.size, 0, none⟩) [5] := by rw [hwc]; exact (has_lit (B := 0) (w := w4) [5] rfl (Nat.zero_le _) (by decide)).here
  have HBbc := Lib.hid (HBb4.out.trans (hbc.mono HBb4.out.size))
  have HB1b := Lib.hid (HB13.out.trans (HB3b.out.mono HB13.out.size))
  have HB1c := Lib.hid (HB1b.out.trans (HBbc.out.mono HB1b.out.size))
  have hD := HK.out.decode pairS p4 c4 [5] (some ⟨w4.heap.size, 0, none⟩) 1 0 wc (HS4.out.on hbc) (by decide) (by decide) hatc (by decide) (by decide) (HK.out.on HI.out (HB1.out.trans (HB1c.out.mono HB1.out.size)))
  rw [five_read] at hD
  have HD := Lib.hid hD
  have HWc := Lib.hid hwc
  clear hD hbc hatc hwc HBb4
  go_wp2_with fail
  rw [← HWc.out]
  clear HWc
  refine HD.out.mono ?_
  rintro e w5 ⟨rfl, hb5⟩
  have HBb5 := Lib.hid (HBbc.out.trans (hb5.mono HBbc.out.size))
  clear hb5 HD HBbc HB1c
  obtain ⟨wd, hwd⟩ : ∃ wd, wd = w5.alloc (.cells #[.slice none 0 0] 27) := ⟨_, rfl⟩
  have hbd : Below w5.heap.size w5 wd := by rw [hwd]; exact (Below.refl _ _).alloc (Nat.le_refl _) _
  have HBbd := Lib.hid (HBb5.out.trans (hbd.mono HBb5.out.size))
  have HB1d := Lib.hid (HB1b.out.trans (HBbd.out.mono HB1b.out.size))
  have hE := HK.out.encodeValue (.mk 1 []) (.mk 1 1 0 ⟨#[]⟩ []) (cells2 1 none 0 0) (cells5 1 1 0 ⟨#[]⟩ none 0 0) wd (tl_leaf wd 1 none 0) (Ty.wf_mk.2 ⟨by omega, fun x hx => by cases hx⟩) (vl_leaf wd 1 1 0 ⟨#[]⟩ none 0) (V.wf_mk.2 ⟨by omega, by omega, by omega, Nat.zero_le _, fun x hx => by cases hx⟩) (HK.out.on HI.out (HB1.out.trans (HB1d.out.mono HB1.out.size)))
  rw [bool_enc, bool_bytes] at hE
  unfold cells2 cells5 at hE
  have HE := Lib.hid hE
  have HWd := Lib.hid hwd
  clear hE hbd hwd HBb5
  go_wp2_with fail
  rw [← HWd.out]
  clear HWd
  refine HE.out.mono ?_
  rintro e w6 ⟨q6, cap6, rfl, hat6, -, hb6⟩
  have HAt6 := Lib.hid hat6
  have HBb6 := Lib.hid (HBbd.out.trans (hb6.mono HBbd.out.size))
  have HB16 := Lib.hid (HB1d.out.trans (hb6.mono HB1d.out.size))
  clear hat6 hb6 HE HBbd HB1d
  obtain ⟨we, hwe⟩ : ∃ we, we = w6.alloc (.cells #[.int .u8 128, .int .u8 1, .int .u8 1, .int .u8 2, .int .u8 104, .int .u8 105] 5) := ⟨_, rfl⟩
  have hbe : Below w6.heap.size w6 we := by rw [hwe]; exact (Below.refl _ _).alloc (Nat.le_refl _) _
  have hate : At we (some ⟨w6.heap.size, 0, none⟩) [128, 1, 1, 2, 104, 105] := by rw [hwe]; exact (has_lit (B := 0) (w := w6) [128, 1, 1, 2, 104, 105] rfl (Nat.zero_le _) (by decide)).here
  have HB1e := Lib.hid (HB16.out.trans (hbe.mono HB16.out.size))
  have HBbe := Lib.hid (HBb6.out.trans (hbe.mono HBb6.out.size))
  have HSe := Lib.hid (same_any q1 (some ⟨w6.heap.size, 0, none⟩) cap1 6 [128, 1, 1, 2, 104, 105] [128, 1, 1, 2, 104, 105] (by decide) we (HAt1.out.on HB1e.out) hate)
  have HWe := Lib.hid hwe
  have HB6e := Lib.hid hbe
  clear hwe hbe hate
  go_wp2_with fail
  rw [← HWe.out]
  clear HWe
  refine HSe.out.mono ?_
  rintro e w7 ⟨rfl, n7, hw7⟩
  have hb7 : Below we.heap.size we w7 := by rw [hw7]; exact below_drewN (Below.refl _ _) n7
  have HB67 := Lib.hid (HB6e.out.trans (hb7.mono HB6e.out.size))
  have HBb7 := Lib.hid (HBbe.out.trans (hb7.mono HBbe.out.size))
  have HB17 := Lib.hid (HB1e.out.trans (hb7.mono HB1e.out.size))
  have HBW7 := Lib.hid (HBW1.out.trans (HB17.out.mono HBW1.out.size))
  have HB37 := Lib.hid (HB3b.out.trans (HBb7.out.mono HB3b.out.size))
  have m1 := cell_on HBb7.out HCb.out
  have m2 := cell_on HBW7.out HC0.out
  have HRo := Lib.hid (rows8 hiR hiR q3 (some ⟨w.heap.size + 1, 0, none⟩) c3 2 w7 (HV3.out.on HB37.out) (HL0.out.on HBW7.out).1)
  rw [hi_exact] at HRo
  clear hw7 hb7 HSe HB1e HBbe HB6e
  simp only [beq_self_eq_true]
  go_wp2_with fail
  refine HRo.out.mono ?_
  rintro e w8 ⟨rfl, hb8⟩
  have HB68 := Lib.hid (HB67.out.trans (hb8.mono HB67.out.size))
  clear hb8 HRo m1 m2 HB67 HBb7 HBW7 HB37
  obtain ⟨wf, hwf⟩ : ∃ wf, wf = w8.alloc (.cells #[.int .u8 1] 5) := ⟨_, rfl⟩
  have hbf : Below w8.heap.size w8 wf := by rw [hwf]; exact (Below.refl _ _).alloc (Nat.le_refl _) _
  have hatf : At wf (some ⟨w8.heap.size, 0, none⟩) [1] := by rw [hwf]; exact (has_lit (B := 0) (w := w8) [1] rfl (Nat.zero_le _) (by decide)).here
  have HB6f := Lib.hid (HB68.out.trans (hbf.mono HB68.out.size))
  have HSf := Lib.hid (same_any q6 (some ⟨w8.heap.size, 0, none⟩) cap6 1 [1] [1] (by decide) wf (HAt6.out.on HB6f.out) hatf)
  have HWf := Lib.hid hwf
  clear hwf hbf hatf HB68
  go_wp2_with fail
  rw [← HWf.out]
  clear HWf
  refine HSf.out.mono ?_
  rintro e w9 ⟨rfl, n9, hw9⟩
  have hb9 : Below wf.heap.size wf w9 := by rw [hw9]; exact below_drewN (Below.refl _ _) n9
  have HB69 := Lib.hid (HB6f.out.trans (hb9.mono HB6f.out.size))
  have HB19 := Lib.hid (HB16.out.trans (HB69.out.mono HB16.out.size))
  have HBw9 := Lib.hid (HB1.out.trans (HB19.out.mono HB1.out.size))
  clear hw9 hb9 HSf HB6f
  simp only [beq_self_eq_true]
  go_wp2_with fail
  refine (HPairI.out _).mono ?_
  rintro e w10 ⟨p10, c10, rfl, hs10, hb10⟩
  have HBw10 := Lib.hid (HBw9.out.trans (hb10.mono HBw9.out.size))
  have hC := HK.out.check pairS p10 c10 [] none 0 w10 hs10 ⟨vl_leaf w10 0 0 0 ⟨#[]⟩ none 0, fun v hv => by cases hv⟩ (HK.out.on HI.out HBw10.out)
  rw [none_err] at hC
  have HC := Lib.hid hC
  clear hs10 hb10 hC
  go_wp2_with fail
  refine HC.out.mono ?_
  rintro e w11 ⟨rfl, hb11⟩
  have HBw11 := Lib.hid (HBw10.out.trans (hb11.mono HBw10.out.size))
  clear hb11 HC
  go_wp2
  go_ret
  exact ⟨rfl, HBw11.out⟩
end Go.Proofs.Ytnlhpndjogjejaa

/- The landed schema: ofCount, checkTypeAt, CheckType, isLetter, isDigit, Name. -/
namespace Go.Proofs.Ytnlhpndjogjejaa
open Go.RowKit

set_option maxHeartbeats 400000 in
theorem ofCountK (k : Int) (w : World) : Calls Try.prog 85 #[.int .i64 k] w fun e w' => e = .returned (.int .i64 (Ty.want k : Nat)) ∧ w' = w := by
  by_cases h6 : k = 6
  · have e6 : (k == 6) = true := beq_t h6
    have HW : Hid (Ty.want k = 1) := by show _ = _; unfold Ty.want; rw [if_pos (.inl h6)]
    clear h6
    go_enter Try.func85, Try.ntmps85
    go_wp2
    go_ret
    exact ⟨by rw [HW.out]; rfl, rfl⟩
  have e6 : (k == 6) = false := beq_f h6
  by_cases h7 : k = 7
  · have e7 : (k == 7) = true := beq_t h7
    have HW : Hid (Ty.want k = 1) := by show _ = _; unfold Ty.want; rw [if_pos (.inr h7)]
    clear h6 h7
    go_enter Try.func85, Try.ntmps85
    go_wp2
    go_ret
    exact ⟨by rw [HW.out]; rfl, rfl⟩
  have e7 : (k == 7) = false := beq_f h7
  have HW : Hid (Ty.want k = 0) := by show _ = _; unfold Ty.want; rw [if_neg (by omega)]
  clear h6 h7
  go_enter Try.func85, Try.ntmps85
  go_wp2
  go_ret
  exact ⟨by rw [HW.out]; rfl, rfl⟩

set_option maxRecDepth 100000 in
set_option maxHeartbeats 1000000 in
theorem checkTypeAtK : ∀ (x : Ty) (d : Nat) (w : World) (u : Array Value), d ≤ 5 → TLies w u x → Calls Try.prog 56 #[.agg u, .int .i64 d] w fun e w' => e = .returned (.int .i64 (Ty.check d x : Nat)) ∧ Below w.heap.size w w' := by
  intro x
  refine Ty.ind (P := fun x => ∀ (d : Nat) (w : World) (u : Array Value), d ≤ 5 → TLies w u x → Calls Try.prog 56 #[.agg u, .int .i64 d] w fun e w' => e = .returned (.int .i64 (Ty.check d x : Nat)) ∧ Below w.heap.size w w') ?_ x
  rintro k xs ih d w u hd hx
  obtain ⟨p, c, rfl, hxl, hxc, hxi⟩ := hx.open
  unfold cells2
  have hB1 : Below w.heap.size w (w.alloc (.cells #[.int .i64 k, .slice p xs.length c] 43)) := (Below.refl _ _).alloc (Nat.le_refl _) _
  have HB1 := Lib.hid hB1
  clear hB1 hx
  obtain ⟨R, hR⟩ : ∃ R, R = Ty.check d (.mk k xs) := ⟨_, rfl⟩
  have HCk := Lib.hid (hR.trans (Ty.check_mk d k xs))
  rw [← hR]
  clear hR
  by_cases h1 : 4 < d
  · have g1 : (4 : Int) < (d : Int) := by omega
    have HR : Hid (R = 62) := by show _ = _; rw [HCk.out, if_pos h1]
    clear ih hxi HCk
    go_enter Try.func56, Try.ntmps56
    go_wp2
    go_ret
    exact ⟨by rw [HR.out]; rfl, HB1.out⟩
  have g1 : ¬ (4 : Int) < (d : Int) := by omega
  by_cases h2 : k < 1
  · have HR : Hid (R = 60) := by show _ = _; rw [HCk.out, if_neg h1, if_pos (by omega)]
    have q2 : decide (k < 1) = true := decide_eq_true h2
    clear ih hxi HCk
    go_enter Try.func56, Try.ntmps56
    go_wp2_with fail
    go_quiet (fail)
    go_wp2
    go_ret
    exact ⟨by rw [HR.out]; rfl, below_drewN HB1.out _⟩
  have q2 : decide (k < 1) = false := decide_eq_false h2
  by_cases h3 : 7 < k
  · have HR : Hid (R = 60) := by show _ = _; rw [HCk.out, if_neg h1, if_pos (by omega)]
    have q3 : decide (7 < k) = true := decide_eq_true h3
    clear ih hxi HCk
    go_enter Try.func56, Try.ntmps56
    go_wp2_with fail
    go_quiet (fail)
    go_wp2
    go_ret
    exact ⟨by rw [HR.out]; rfl, below_drewN HB1.out _⟩
  have q3 : decide (7 < k) = false := decide_eq_false h3
  have HO : Hid (∀ w, Calls Try.prog 85 #[.int .i64 k] w fun e w' => e = .returned (.int .i64 (Ty.want k : Nat)) ∧ ∃ n, w' = w.drewN n) := fun w => (ofCountK k w).mono fun _ _ ⟨h1, h2⟩ => ⟨h1, 0, h2⟩
  obtain ⟨n, hn⟩ : ∃ n, n = Ty.want k := ⟨_, rfl⟩
  have HN := Lib.hid hn
  rw [← hn] at HO HCk
  clear hn
  by_cases h4 : xs.length = n
  · have gl : ((xs.length : Int) != (n : Int)) = false := bne_f (by omega)
    by_cases hl0 : xs.length = 0
    · have gz : ((xs.length : Int) == 0) = true := beq_t (by omega)
      have HR : Hid (R = 0) := by
        show _ = _
        have hx0 : xs = [] := List.eq_nil_of_length_eq_zero hl0
        subst hx0
        rw [HCk.out, if_neg h1, if_neg (by omega)]
        rfl
      clear ih hxi HCk hl0 h4
      go_enter Try.func56, Try.ntmps56
      go_wp2_with fail
      go_quiet (first | (go_at_call 85; exact Calls.quiet_of (HO.out _)))
      go_wp2
      go_ret
      exact ⟨by rw [HR.out]; rfl, below_drewN HB1.out _⟩
    · have gz : ((xs.length : Int) == 0) = false := beq_f (by omega)
      have hl1 : xs.length = 1 := by
        have := HN.out
        unfold Ty.want at this
        split at this <;> omega
      have HX : Hid (∀ j (hj : j < xs.length), ∃ u', TLies w u' xs[j] ∧ ItemT w p j u') := hxi
      have HIH := Lib.hid ih
      obtain ⟨ux, hvx, hix⟩ := HX.out 0 (by omega)
      obtain ⟨bx, ox, kx, qx, nx, cx, rfl, _, rfl, a0, a1⟩ := (hix.on HB1.out).lies
      rw [Nat.zero_mul, Nat.add_zero] at a0 a1
      have hR1 : R = Ty.check (d + 1) (xs[0]'(by omega)) := by
        obtain ⟨y, rfl⟩ := List.length_eq_one_iff.1 hl1
        rw [HCk.out]
        have := Ty.check_one d k y h1 (by omega) (by rw [← HN.out]; simp at h4; omega)
        rw [Ty.check_mk, ← HN.out] at this
        exact this
      have HC := Lib.hid (fun n => HIH.out _ (List.getElem_mem (by omega : 0 < xs.length)) (d + 1) _ _ (by omega) (hvx.on (below_drewN HB1.out n)))
      rw [← hR1] at HC
      unfold cells2 at HC
      have hlp : (0 : Int) < (xs.length : Int) := by omega
      clear hR1 HX HIH hvx hix HCk ih hxi hl1 hl0 h4
      go_enter Try.func56, Try.ntmps56
      go_wp2_with fail
      go_quiet (first | (go_at_call 85; exact Calls.quiet_of (HO.out _)))
      go_wp2_with fail
      refine (HC.out nq).mono ?_
      rintro e w2 ⟨rfl, hb2⟩
      have HB2 := Lib.hid ((below_drewN HB1.out nq).trans (hb2.mono (below_drewN HB1.out nq).size))
      clear hb2
      go_wp2
      go_ret
      exact ⟨rfl, HB2.out⟩
  · have gl : ((xs.length : Int) != (n : Int)) = true := bne_t (by omega)
    have HR : Hid (R = 60) := by show _ = _; rw [HCk.out, if_neg h1, if_pos (by omega)]
    clear ih hxi HCk h4
    go_enter Try.func56, Try.ntmps56
    go_wp2_with fail
    go_quiet (first | (go_at_call 85; exact Calls.quiet_of (HO.out _)))
    go_wp2
    go_ret
    exact ⟨by rw [HR.out]; rfl, below_drewN HB1.out _⟩

set_option maxHeartbeats 400000 in
theorem checkTypeK (x : Ty) (w : World) (u : Array Value) (h : TLies w u x) : Calls Try.prog 33 #[.agg u] w fun e w' => e = .returned (.int .i64 (Ty.check 1 x : Nat)) ∧ Below w.heap.size w w' := by
  obtain ⟨k, xs⟩ := x
  obtain ⟨p, c, rfl, -⟩ := h.open
  have hB1 : Below w.heap.size w (w.alloc (.cells (cells2 k p xs.length c) 43)) := (Below.refl _ _).alloc (Nat.le_refl _) _
  have HB1 := Lib.hid hB1
  have HC := Lib.hid (checkTypeAtK _ 1 _ _ (by omega) (h.on hB1))
  clear hB1 h
  obtain ⟨R, hR⟩ : ∃ R, R = Ty.check 1 (.mk k xs) := ⟨_, rfl⟩
  rw [← hR] at HC ⊢
  clear hR
  unfold cells2 at HC HB1 ⊢
  go_enter Try.func33, Try.ntmps33
  go_wp2_with fail
  refine HC.out.mono ?_
  rintro e w2 ⟨rfl, hb2⟩
  have HB2 := Lib.hid (HB1.out.trans (hb2.mono HB1.out.size))
  clear hb2
  go_wp2
  go_ret
  exact ⟨rfl, HB2.out⟩

/-- a digit -/
def dig (c : UInt8) : Bool := decide (48 ≤ c.toNat ∧ c.toNat ≤ 57)
theorem ch_eq (c : UInt8) : Sch.ch c = (Sch.low c || dig c || decide (c.toNat = 95)) := rfl
set_option maxHeartbeats 400000 in
theorem isLetterK (c : UInt8) (w : World) : Calls Try.prog 113 #[.int .u8 c.toNat] w fun e w' => e = .returned (.bool (Sch.low c)) ∧ w' = w := by
  by_cases h1 : c.toNat < 97
  · have g1 : ¬ (97 : Int) ≤ (c.toNat : Int) := by omega
    have g2 : (c.toNat : Int) < 97 := by omega
    have HE : Hid (Sch.low c = false) := by show _ = _; unfold Sch.low; rw [decide_eq_false (by omega)]
    clear h1
    go_enter Try.func113, Try.ntmps113
    go_wp2
    go_ret
    exact ⟨by rw [HE.out]; rfl, rfl⟩
  have g1 : (97 : Int) ≤ (c.toNat : Int) := by omega
  have g2 : ¬ (c.toNat : Int) < 97 := by omega
  by_cases h2 : c.toNat ≤ 122
  · have g3 : (c.toNat : Int) ≤ 122 := by omega
    have g4 : ¬ (122 : Int) < (c.toNat : Int) := by omega
    have HE : Hid (Sch.low c = true) := by show _ = _; unfold Sch.low; rw [decide_eq_true (by omega)]
    clear h1 h2
    go_enter Try.func113, Try.ntmps113
    go_wp2
    go_ret
    exact ⟨by rw [HE.out]; rfl, rfl⟩
  · have g3 : ¬ (c.toNat : Int) ≤ 122 := by omega
    have g4 : (122 : Int) < (c.toNat : Int) := by omega
    have HE : Hid (Sch.low c = false) := by show _ = _; unfold Sch.low; rw [decide_eq_false (by omega)]
    clear h1 h2
    go_enter Try.func113, Try.ntmps113
    go_wp2
    go_ret
    exact ⟨by rw [HE.out]; rfl, rfl⟩
set_option maxHeartbeats 400000 in
theorem isDigitK (c : UInt8) (w : World) : Calls Try.prog 114 #[.int .u8 c.toNat] w fun e w' => e = .returned (.bool (dig c)) ∧ w' = w := by
  by_cases h1 : c.toNat < 48
  · have g1 : ¬ (48 : Int) ≤ (c.toNat : Int) := by omega
    have g2 : (c.toNat : Int) < 48 := by omega
    have HE : Hid (dig c = false) := by show _ = _; unfold dig; rw [decide_eq_false (by omega)]
    clear h1
    go_enter Try.func114, Try.ntmps114
    go_wp2
    go_ret
    exact ⟨by rw [HE.out]; rfl, rfl⟩
  have g1 : (48 : Int) ≤ (c.toNat : Int) := by omega
  have g2 : ¬ (c.toNat : Int) < 48 := by omega
  by_cases h2 : c.toNat ≤ 57
  · have g3 : (c.toNat : Int) ≤ 57 := by omega
    have g4 : ¬ (57 : Int) < (c.toNat : Int) := by omega
    have HE : Hid (dig c = true) := by show _ = _; unfold dig; rw [decide_eq_true (by omega)]
    clear h1 h2
    go_enter Try.func114, Try.ntmps114
    go_wp2
    go_ret
    exact ⟨by rw [HE.out]; rfl, rfl⟩
  · have g3 : ¬ (c.toNat : Int) ≤ 57 := by omega
    have g4 : (57 : Int) < (c.toNat : Int) := by omega
    have HE : Hid (dig c = false) := by show _ = _; unfold dig; rw [decide_eq_false (by omega)]
    clear h1 h2
    go_enter Try.func114, Try.ntmps114
    go_wp2
    go_ret
    exact ⟨by rw [HE.out]; rfl, rfl⟩

set_option maxRecDepth 100000 in
set_option maxHeartbeats 1000000 in
theorem nameK (t : ByteArray) (w : World) : Calls Try.prog 94 #[.string t] w fun e w' => e = .returned (.bool (Sch.name t)) ∧ w' = w := by
  by_cases h1 : t.size = 0
  · have g1 : ((t.size : Int) == 0) = true := beq_t (by omega)
    have HE := Lib.hid (name_short (t := t) (.inl (by omega)))
    clear h1
    go_enter Try.func94, Try.ntmps94
    go_wp2
    go_ret
    exact ⟨by rw [HE.out]; rfl, rfl⟩
  have g1 : ((t.size : Int) == 0) = false := beq_f (by omega)
  by_cases h2 : 16 < t.size
  · have g2 : (16 : Int) < (t.size : Int) := by omega
    have HE := Lib.hid (name_short (t := t) (.inr h2))
    clear h1 h2
    go_enter Try.func94, Try.ntmps94
    go_wp2
    go_ret
    exact ⟨by rw [HE.out]; rfl, rfl⟩
  have g2 : ¬ (16 : Int) < (t.size : Int) := by omega
  have h0 : 0 < t.size := by omega
  have h0' : (0 : Int) < (t.size : Int) := by omega
  have HL := Lib.hid (isLetterK t[0])
  by_cases h3 : Sch.low t[0] = false
  · have HE := Lib.hid (name_head h0 h3)
    rw [h3] at HL
    clear h3 h1 h2
    go_enter Try.func94, Try.ntmps94
    go_wp2_with fail
    refine (HL.out _).mono ?_
    rintro e w2 ⟨rfl, rfl⟩
    go_wp2
    go_ret
    exact ⟨by rw [HE.out]; rfl, rfl⟩
  have h3' : Sch.low t[0] = true := by simpa using h3
  have H3 := Lib.hid h3'
  rw [h3'] at HL
  have H30 : Hid (Sch.ch t[0] = true) := by show _ = _; rw [ch_eq, h3']; rfl
  clear h3 h3'
  go_enter Try.func94, Try.ntmps94
  go_wp2_with fail
  refine (HL.out _).mono ?_
  rintro e w2 ⟨rfl, rfl⟩
  clear HL
  go_wp2_with fail
  go_loop [3] (fun v3 => ∃ a : Nat, 1 ≤ a ∧ a ≤ t.size ∧ v3 = .int .i64 a ∧ Hid (∀ j (h : j < t.size), j < a → Sch.ch t[j] = true)) (fun v3 => t.size - (intOf v3).toNat)
  case atStart => exact ⟨1, by omega, by omega, rfl, fun j _ hj => by
    have h00 : j = 0 := by omega
    subst h00
    exact H30.out⟩
  case round =>
    obtain ⟨a, ha1, ha, rfl, HA⟩ := hrel
    by_cases hlt : a < t.size
    · have hlt' : (a : Int) < (t.size : Int) := by omega
      have HLa := Lib.hid (isLetterK t[a])
      have HDa := Lib.hid (isDigitK t[a])
      have HCh := Lib.hid (ch_eq t[a])
      obtain ⟨r1, hr1⟩ : ∃ r, r = Sch.low t[a] := ⟨_, rfl⟩
      obtain ⟨r2, hr2⟩ : ∃ r, r = dig t[a] := ⟨_, rfl⟩
      rw [← hr1] at HLa HCh
      rw [← hr2] at HDa HCh
      clear hr1 hr2
      have HN : Hid (Sch.ch t[a] = true → ∀ j (h : j < t.size), j < a + 1 → Sch.ch t[j] = true) := fun hc j h hj => by
        by_cases hja : j = a
        · subst hja; exact hc
        · exact HA.out j h (by omega)
      have HB := Lib.hid (name_bad (t := t) a hlt)
      clear HA H3 H30
      go_wp2_with fail
      refine (HLa.out _).mono ?_
      rintro e w2 ⟨rfl, rfl⟩
      clear HLa
      cases r1 with
      | true =>
        have HC : Hid (Sch.ch t[a] = true) := by show _ = _; rw [HCh.out]; rfl
        clear HDa
        go_wp2
        go_round
        case rel => exact ⟨a + 1, by omega, by omega, by go_num, HN.out HC.out⟩
        case measure => simp [intOf]; omega
      | false =>
        go_wp2_with fail
        refine (HDa.out _).mono ?_
        rintro e w2 ⟨rfl, rfl⟩
        clear HDa
        cases r2 with
        | true =>
          have HC : Hid (Sch.ch t[a] = true) := by show _ = _; rw [HCh.out]; rfl
          go_wp2
          go_round
          case rel => exact ⟨a + 1, by omega, by omega, by go_num, HN.out HC.out⟩
          case measure => simp [intOf]; omega
        | false =>
          by_cases h95 : t[a].toNat = 95
          · have k4 : ((t[a].toNat : Int) != 95) = false := by rw [h95]; rfl
            have HC : Hid (Sch.ch t[a] = true) := by show _ = _; rw [HCh.out, decide_eq_true h95]; rfl
            clear h95
            go_wp2
            go_round
            case rel => exact ⟨a + 1, by omega, by omega, by go_num, HN.out HC.out⟩
            case measure => simp [intOf]; omega
          · have k4 : ((t[a].toNat : Int) != 95) = true := by rw [bne_iff_ne]; omega
            have HC : Hid (Sch.ch t[a] = false) := by show _ = _; rw [HCh.out, decide_eq_false h95]; rfl
            clear h95
            go_wp2
            go_ret
            exact ⟨by rw [HB.out HC.out]; rfl, rfl⟩
    · have HE := Lib.hid (name_good (t := t) (by omega) (by omega) H3.out (fun j h => HA.out j h (by omega)))
      have hjn : ¬ (a : Int) < (t.size : Int) := by omega
      clear HA
      go_wp2
      go_ret
      exact ⟨by rw [HE.out]; rfl, rfl⟩
end Go.Proofs.Ytnlhpndjogjejaa

/- The landed schema: SameType. -/
namespace Go.Proofs.Ytnlhpndjogjejaa
open Go.RowKit

end Go.Proofs.Ytnlhpndjogjejaa
