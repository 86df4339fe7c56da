/- VMore, WFixR, WSameR, Utf, WRefL, WRefG3, WUtfR, WOwnR, WCheckR, VAlike, Sch, SchB: put together. -/
import Derived.Test.YtnlhpndjogjejaaGreatDoorB02
import Derived.Test.YtnlhpndjogjejaaGreatDoorB01

/- append(s, v) of a value onto a slice of values of the call's own; blocks that are known whole. -/
namespace Go.Proofs.YtnlhpndjogjejaaGreatDoor
open Go.RowKit

def zeroV : Value := .agg (cells5 0 0 0 ⟨#[]⟩ none 0 0)
theorem info25 : (Tryz.prog.info? 65).map (fun i => (i.zero, i.size, i.bytes)) = some (some zeroV, 5, 64) := by kernel_rfl

theorem one5 {w : World} {F : Nat → Prop} {u : Array Value} {x : V} (h : VOwn w F u x) : ∀ a ∈ u.toList, a.oneCell' = true := by
  have key : ∀ (k i : Int) (b : Nat) (t : ByteArray) (p : Option Addr) (n c : Nat), ∀ a ∈ (cells5 k i b t p n c).toList, a.oneCell' = true := by
    intro k i b t p n c a ha
    simp [cells5] at ha
    rcases ha with rfl | rfl | rfl | rfl | rfl <;> rfl
  obtain ⟨_, _, _, _, _, _, _, rfl⟩ := h.shape
  exact key _ _ _ _ _ _ _

theorem blk_cell {w : World} {b : Nat} {C : Array Value} {T : TypeId} {fr : Nat × Nat} (h : w.heap[b]? = some (.cells C T fr)) (m : Nat) : w.cell? ⟨b, m, none⟩ = C[m]? := by
  simp [World.cell?, h]
theorem blk_free {w : World} {b : Nat} {C : Array Value} {T : TypeId} (h : w.heap[b]? = some (.cells C T (0, 0))) (m : Nat) : w.frozen? ⟨b, m, none⟩ = false := by
  simp [World.frozen?, h]
theorem blk_lt {w : World} {b : Nat} {o : Obj} (h : w.heap[b]? = some o) : b < w.heap.size := (Array.getElem?_eq_some_iff.1 h).1
theorem blk_on {w w' : World} {B b : Nat} {o : Obj} (h : w.heap[b]? = some o) (hb : Below B w w') (hB : b < B) : w'.heap[b]? = some o := (hb.block b hB).trans h
theorem blk_new (w : World) (o : Obj) : (w.alloc o).heap[w.heap.size]? = some o := by
  show (w.heap.push o)[w.heap.size]? = _
  simp
theorem blk_old (w : World) (o : Obj) {k : Nat} (h : k < w.heap.size) : (w.alloc o).heap[k]? = w.heap[k]? := by
  show (w.heap.push o)[k]? = _
  rw [Array.getElem?_push, if_neg (by omega)]
theorem blk_set {w : World} {b : Nat} {C : Array Value} {T : TypeId} (h : w.heap[b]? = some (.cells C T (0, 0))) (m : Nat) (u : Value) : (w.setCell ⟨b, m, none⟩ u).heap[b]? = some (.cells (C.set! m u) T (0, 0)) := by
  simp [World.setCell, Array.getElem?_modify, h]
theorem blk_set_far {w : World} {b : Nat} {o : Obj} (h : w.heap[b]? = some o) (p : Addr) (u : Value) (hp : b ≠ p.block) : (w.setCell p u).heap[b]? = some o := (Below.heap_setCell _ _ _ _ hp).trans h
theorem blk_far {W W' : World} {b : Nat} {o : Obj} {row : Option Nat} (h : W.heap[b]? = some o) (hg : W.grownBy W' row) (hne : row ≠ some b) : W'.heap[b]? = some o :=
  (hg.block b (blk_lt h) (fun hc => hne hc.symm)).trans h

/-- the walk's set lacks a float's store -/
theorem run_store_float (P : Program) (w : World) (a : Addr) (m : Mode) (k : FloatKind) (x : Nat) : (store a (.float k x) m).run P w = stored P w a (.float k x) m := run_store P w a _ m rfl

section
variable {B : Nat} {v : Value} {n : Nat} {us : Nat → Array Value} {w : World} {u : Array Value} {ad H : Nat}
/-- in the walk -/
theorem wp_more (hown : w.ownsRow B 65 5 v n (flat us n)) (h5 : u.size = 5) (h1 : ∀ a ∈ u.toList, a.oneCell' = true) (hblk : w.heap[ad]? = some (.cells u 65 (0, 0))) (hn : (n + 1) * 64 ≤ 140737488355328) (hB : B ≤ w.heap.size) (hH : w.heap.size = H)
    {ops : Array Oper} {rest : List Oper} {o : Oper} {a : Act} {Q : Exit → Act → World → Prop} {y x : Operand}
    (hg : o.guard = none) (hop : o.op = Op.call { callee := Callee.builtin Builtin.append, args := #[y, x], argTypes := #[63, 63] })
    (hs : a.eval y = v) (hx : a.eval x = .slice (some ⟨ad, 0, none⟩) 1 1)
    (hK : ∀ g cap w', w'.ownsRow B 65 5 (.slice (some ⟨g, 0, none⟩) (n + 1) cap) (n + 1) (flat us n ++ u.toList) → w.grownBy w' v.ownBlock → (v.ownBlock = some g ∨ g = H) → wpList Tryz.prog ops Q rest (a.put o.dst (.slice (some ⟨g, 0, none⟩) (n + 1) cap)) w') :
    wpList Tryz.prog ops Q (o :: rest) a w := by
  obtain ⟨i, hi, hz, hsz, hby⟩ := info_parts info25
  exact wpList_append_lies w hg y x 63 hop B 65 i zeroV 5 64 Tryz.underlying63 hi hz hsz hby rfl (by decide) v n (flat us n) hs hown ⟨ad, 0, none⟩ 1 1 u.toList hx (by simp [h5])
    (World.news_of_block hblk) h1 (by decide) (by unfold maxLen; omega) hn hB H hH fun g cap w' h2 h3 h4 _ => hK g cap w' h2 h3 h4
/-- at a step of a region that draws -/
theorem step_more (hown : w.ownsRow B 65 5 v n (flat us n)) (h5 : u.size = 5) (h1 : ∀ a ∈ u.toList, a.oneCell' = true) (hblk : w.heap[ad]? = some (.cells u 65 (0, 0))) (hn : (n + 1) * 64 ≤ 140737488355328) (hB : B ≤ w.heap.size) (hH : w.heap.size = H)
    {ops : Array Oper} {o : Oper} {a : Act} {K : Act → World → Prop} {Q : Exit → Act → World → Prop} {E : Prop} (y x : Operand)
    (hg : o.guard = none) (hop : o.op = Op.call { callee := Callee.builtin Builtin.append, args := #[y, x], argTypes := #[63, 63] })
    (hs : a.eval y = v) (hx : a.eval x = .slice (some ⟨ad, 0, none⟩) 1 1)
    (hK : ∀ g cap w', w'.ownsRow B 65 5 (.slice (some ⟨g, 0, none⟩) (n + 1) cap) (n + 1) (flat us n ++ u.toList) → w.grownBy w' v.ownBlock → (v.ownBlock = some g ∨ g = H) → K (a.put o.dst (.slice (some ⟨g, 0, none⟩) (n + 1) cap)) w') :
    if Region.wanted o (yielded ops a.tmps) = true then Oper.wp Tryz.prog o a w K Q else E := by
  obtain ⟨i, hi, hz, hsz, hby⟩ := info_parts info25
  exact step_append_lies w hg y x 63 hop B 65 i zeroV 5 64 Tryz.underlying63 hi hz hsz hby rfl (by decide) v n (flat us n) hs hown ⟨ad, 0, none⟩ 1 1 u.toList hx (by simp [h5])
    (World.news_of_block hblk) h1 (by decide) (by unfold maxLen; omega) hn hB H hH fun g cap w' h2 h3 h4 _ => hK g cap w' h2 h3 h4
end

/-- a call of a Go function of one argument, at a step of a region that draws -/
theorem step_call1 {w : World} {ops : Array Oper} {o : Oper} {a : Act} {K : Act → World → Prop} {Q : Exit → Act → World → Prop} {E : Prop} {f : FuncId} {fn : Func} {code : Code} {u : Value} {R : Ending → World → Prop} (x : Operand) (t : TypeId)
    (hg : o.guard = none) (hop : o.op = Op.call { callee := .value (.func f), args := #[x], argTypes := #[t] }) (hx : a.eval x = u)
    (hf : Tryz.prog.funcs[f]? = some fn) (hname : (fn.name == "runtime.NumGoroutine") = false) (hb : fn.body = some code)
    (hc : Calls Tryz.prog f #[u] w R) (hR : ∀ e w', R e w' → ∃ v, e = .returned v ∧ K (a.put o.dst v) w') :
    if Region.wanted o (yielded ops a.tmps) = true then Oper.wp Tryz.prog o a w K Q else E := by
  have hw : Region.wanted o (yielded ops a.tmps) = true := by simp [Region.wanted, hg]
  rw [if_pos hw]
  have h1 : fn.name ≠ "runtime.NumGoroutine" := by simpa using hname
  unfold Oper.wp
  have he : (execOp a.eval o).run Tryz.prog w = .ok (.enter f #[u]) w := by
    have hev : a.eval (.func f) = .func (.func f) #[] #[] := rfl
    simp [execOp, hop, resolve, invoke, hx, hev, Deferred.ofValue, callFunc, hf, h1, hb]
  rw [he, Oper.upon_enter]
  refine hc.mono ?_
  intro e w' hr
  obtain ⟨v, rfl, hk⟩ := hR e w' hr
  exact hk
end Go.Proofs.YtnlhpndjogjejaaGreatDoor

/- The document's Fix. -/
namespace Go.Proofs.YtnlhpndjogjejaaGreatDoor
open Go.RowKit

attribute [local go_sem] run_store_float

/-- what a fresh value's call answers -/
def Fresh (w : World) (y : V) (e : Ending) (w' : World) : Prop := ∃ u', e = .returned (.agg u') ∧ VOwn w' (fun k => w.heap.size ≤ k ∧ k < w'.heap.size) u' y ∧ Below w.heap.size w w'

/-- while a value is built: its parameter stands in the first block, its answer's place in the next, the value in the third; j items are there -/
structure Making (w : World) (C0 : Array Value) (k i : Int) (b : Nat) (t : ByteArray) (zs : List V) (j : Nat) (v : Value) (wr : World) : Prop where
  built : ∃ us Fs, Built wr (w.heap.size + 3) v j us Fs (zs.take j)
  b0 : wr.heap[w.heap.size]? = some (.cells C0 65 (0, 0))
  b1 : wr.heap[w.heap.size + 1]? = some (.cells (cells5 0 0 0 ⟨#[]⟩ none 0 0) 65 (0, 0))
  b2 : wr.heap[w.heap.size + 2]? = some (.cells #[.int .i64 k, .int .i64 i, .float .f64 b, .string t, v] 65 (0, 0))
  below : Below w.heap.size w wr
  size : w.heap.size + 3 ≤ wr.heap.size

section
variable {w wr : World} {C0 : Array Value} {k i : Int} {b : Nat} {t : ByteArray} {zs : List V} {j : Nat} {v : Value}
theorem making_start (w : World) (C0 : Array Value) (k i : Int) (b : Nat) (t : ByteArray) (zs : List V) :
    Making w C0 k i b t zs 0 (.slice none 0 0) (((w.alloc (.cells C0 65)).alloc (.cells (cells5 0 0 0 ⟨#[]⟩ none 0 0) 65)).alloc (.cells #[.int .i64 k, .int .i64 i, .float .f64 b, .string t, .slice none 0 0] 65)) := by
  refine ⟨⟨_, _, built_nil _ _⟩, ?_, ?_, ?_, ((((Below.refl _ w).alloc (Nat.le_refl _) _).alloc (by simp) _).alloc (by simp; omega) _), by simp⟩
  · rw [blk_old _ _ (by simp; omega), blk_old _ _ (by simp)]; exact blk_new w _
  · rw [blk_old _ _ (by simp)]
    have := blk_new (w.alloc (.cells C0 65)) (.cells (cells5 0 0 0 ⟨#[]⟩ none 0 0) 65)
    simpa using this
  · have := blk_new ((w.alloc (.cells C0 65)).alloc (.cells (cells5 0 0 0 ⟨#[]⟩ none 0 0) 65)) (.cells #[.int .i64 k, .int .i64 i, .float .f64 b, .string t, .slice none 0 0] 65)
    simpa using this

theorem Making.slice (h : Making w C0 k i b t zs j v wr) : ∃ p c, v = .slice p j c := by
  obtain ⟨us, Fs, hb⟩ := h.built
  rcases hb.row.2 with ⟨h1, h2⟩ | ⟨g, cap, cur, h1, _⟩
  · exact ⟨none, 0, by rw [h1, h2]⟩
  · exact ⟨_, cap, h1⟩

theorem Making.next {w2 w3 w4 : World} {u : Array Value} {F : Nat → Prop} {g cap : Nat} {us : Nat → Array Value} {Fs : Nat → Nat → Prop} (h : Making w C0 k i b t zs j v wr) (hbt : Built wr (w.heap.size + 3) v j us Fs (zs.take j)) (hj : j < zs.length) (hb : Below wr.heap.size wr w2) (hx : VOwn w2 F u zs[j])
    (hF : ∀ k, F k → wr.heap.size ≤ k ∧ k < w2.heap.size) (hb3 : Below w2.heap.size w2 w3)
    (hr : w4.ownsRow (w.heap.size + 3) 65 5 (.slice (some ⟨g, 0, none⟩) (j + 1) cap) (j + 1) (flat us j ++ u.toList)) (hg : w3.grownBy w4 v.ownBlock) (hn : v.ownBlock = some g ∨ g = w3.heap.size) :
    Below w.heap.size w w4 ∧ (∀ n, n < 3 → w4.heap[w.heap.size + n]? = wr.heap[w.heap.size + n]?) ∧ Making w C0 k i b t zs (j + 1) (.slice (some ⟨g, 0, none⟩) (j + 1) cap) (w4.setCell ⟨w.heap.size + 2, 4, none⟩ (.slice (some ⟨g, 0, none⟩) (j + 1) cap)) := by
  have hs := h.size
  have hs2 := hb.size
  have hs3 := hb3.size
  have hst := hbt.step hb hx hF hb3 hs hr hg hn
  have hold : ∀ n, n < 3 → w4.heap[w.heap.size + n]? = wr.heap[w.heap.size + n]? := fun n hn => by
    rw [hg.block _ (by omega) (fun hc => by have := (hbt.lt _ hc.symm).1; omega), hb3.block _ (by omega), hb.block _ (by omega)]
  have hb4 : Below w.heap.size w w4 := ((h.below.trans (hb.mono (by omega))).trans (hb3.mono (by omega))).grown hg (by omega) (fun k hk => by have := (hbt.lt k hk).1; omega)
  refine ⟨hb4, hold, ⟨⟨(fun n => if n = j then u else us n), (fun n => if n = j then F else Fs n), ?_⟩, ?_, ?_, ?_, ?_, ?_⟩⟩
  · rw [List.take_succ_eq_append_getElem hj]
    exact hst.set ⟨w.heap.size + 2, 4, none⟩ _ (by show w.heap.size + 2 < _; omega)
  · have := hold 0 (by omega)
    rw [Nat.add_zero] at this
    exact blk_set_far (this.trans h.b0) _ _ (by show w.heap.size ≠ w.heap.size + 2; omega)
  · exact blk_set_far ((hold 1 (by omega)).trans h.b1) _ _ (by show w.heap.size + 1 ≠ w.heap.size + 2; omega)
  · rw [blk_set ((hold 2 (by omega)).trans h.b2)]
    rfl
  · exact hb4.setCell (by show w.heap.size ≤ w.heap.size + 2; omega) _
  · have := hg.size
    simp [World.setCell]
    omega

/-- the answer's place is written: the value is there -/
def put5 (w : World) (g : Nat) (k i : Int) (b : Nat) (t : ByteArray) (v : Value) : World :=
  ((((w.setCell ⟨g, 0, none⟩ (.int .i64 k)).setCell ⟨g, 1, none⟩ (.int .i64 i)).setCell ⟨g, 2, none⟩ (.float .f64 b)).setCell ⟨g, 3, none⟩ (.string t)).setCell ⟨g, 4, none⟩ v
theorem Making.finish {q : Option Addr} {d : Nat} (h : Making w C0 k i b t zs j (.slice q j d) wr) (hj : j = zs.length) (hl : j * 64 ≤ 140737488351232) :
    (put5 wr (w.heap.size + 1) k i b t (.slice q j d)).heap[w.heap.size + 1]? = some (.cells (cells5 k i b t q j d) 65 (0, 0)) ∧ Fresh w (.mk k i b t zs) (.returned (.agg (cells5 k i b t q j d))) (put5 wr (w.heap.size + 1) k i b t (.slice q j d)) := by
  unfold put5
  refine ⟨?_, _, rfl, ?_, ?_⟩
  · rw [blk_set (blk_set (blk_set (blk_set (blk_set h.b1 0 _) 1 _) 2 _) 3 _) 4 _]
    rfl
  · obtain ⟨us, Fs, hb⟩ := h.built
    have hp : ∀ m, (⟨w.heap.size + 1, m, none⟩ : Addr).block < w.heap.size + 3 := fun m => by show w.heap.size + 1 < _; omega
    have h5 := ((((hb.set ⟨w.heap.size + 1, 0, none⟩ (.int .i64 k) (hp 0)).set ⟨w.heap.size + 1, 1, none⟩ (.int .i64 i) (hp 1)).set ⟨w.heap.size + 1, 2, none⟩ (.float .f64 b) (hp 2)).set ⟨w.heap.size + 1, 3, none⟩ (.string t) (hp 3)).set ⟨w.heap.size + 1, 4, none⟩ (.slice q j d) (hp 4)
    obtain ⟨p', c', he, hv⟩ := h5.done hl k i b t
    injection he with h6 h7 h8
    subst h6 h8
    rw [hj, List.take_length] at hv
    rw [← hj] at hv
    exact hv.mono fun k hk => ⟨by omega, hk.2⟩
  · have hp : ∀ m, w.heap.size ≤ (⟨w.heap.size + 1, m, none⟩ : Addr).block := fun m => by show _ ≤ w.heap.size + 1; omega
    exact ((((h.below.setCell (hp 0) _).setCell (hp 1) _).setCell (hp 2) _).setCell (hp 3) _).setCell (hp 4) _
end

theorem fixL_take (xs : List V) (j : Nat) (h : j < xs.length) : (V.fixL xs).take (j + 1) = (V.fixL xs).take j ++ [V.fix xs[j]] := by
  rw [V.fixL_eq, List.take_succ_eq_append_getElem (by simpa using h), List.getElem_map]

end Go.Proofs.YtnlhpndjogjejaaGreatDoor

/- The document's Same, sameList, SameRow. -/
namespace Go.Proofs.YtnlhpndjogjejaaGreatDoor
open Go.RowKit

namespace V
theorem sameL_ne : ∀ (xs ys : List V), xs.length ≠ ys.length → sameL xs ys = false
  | [], [], h => absurd rfl h
  | [], _ :: _, _ => rfl
  | _ :: _, [], _ => rfl
  | x :: r, y :: s, h => by rw [sameL_cons, sameL_ne r s (by simpa using h), Bool.and_false]
theorem sameL_at : ∀ (xs ys : List V) (j : Nat) (h1 : j < xs.length) (h2 : j < ys.length), same xs[j] ys[j] = false → sameL xs ys = false
  | x :: r, y :: s, 0, _, _, h => by rw [sameL_cons]; simp at h; rw [h, Bool.false_and]
  | x :: r, y :: s, j + 1, h1, h2, h => by rw [sameL_cons, sameL_at r s j (by simpa using h1) (by simpa using h2) (by simpa using h), Bool.and_false]
theorem sameL_all : ∀ (xs ys : List V), xs.length = ys.length → (∀ j (h1 : j < xs.length) (h2 : j < ys.length), same xs[j] ys[j] = true) → sameL xs ys = true
  | [], [], _, _ => rfl
  | [], _ :: _, h, _ => by simp at h
  | _ :: _, [], h, _ => by simp at h
  | x :: r, y :: s, h, ha => by
    rw [sameL_cons, sameL_all r s (by simpa using h) (fun j h1 h2 => by have := ha (j + 1) (by simpa using h1) (by simpa using h2); simpa using this)]
    have := ha 0 (by simp) (by simp)
    simp at this
    rw [this]; rfl
end V

/-- values lie in a row -/
def Items (w : World) (p : Option Addr) (xs : List V) : Prop := ∀ j (hj : j < xs.length), ∃ u', VLies w u' xs[j] ∧ Item w p j u'
theorem Items.on {w w' : World} {p : Option Addr} {xs : List V} (h : Items w p xs) (hb : Below w.heap.size w w') : Items w' p xs := fun j hj => by
  obtain ⟨u', h1, h2⟩ := h j hj
  exact ⟨u', h1.on hb, h2.on hb⟩

set_option maxRecDepth 100000 in
set_option maxHeartbeats 400000 in
theorem refSameList_of (xs : List V) (ih : ∀ x ∈ xs, ∀ (y : V) (w : World) (u v : Array Value), VLies w u x → VLies w v y → Calls Tryz.prog 36 #[.agg u, .agg v] w fun e w' => e = .returned (.bool (V.same x y)) ∧ Below w.heap.size w w')
    (ys : List V) (w : World) (p q : Option Addr) (c d : Nat) (hx : Items w p xs) (hy : Items w q ys) (hxl : xs.length * 64 ≤ 140737488351232) :
    Calls Tryz.prog 56 #[.slice p xs.length c, .slice q ys.length d] w fun e w' => e = .returned (.bool (V.sameL xs ys)) ∧ Below w.heap.size w w' := by
  by_cases h5 : ¬ xs.length = ys.length
  · have g5 : ((xs.length : Int) != (ys.length : Int)) = true := bne_t (by omega)
    have HE : Hid (V.sameL xs ys = false) := V.sameL_ne xs ys h5
    clear ih hx hy h5
    go_enter Tryz.func56, Tryz.ntmps56
    go_wp2
    go_ret
    exact ⟨by rw [HE.out]; rfl, Below.refl _ _⟩
  replace h5 : xs.length = ys.length := Classical.not_not.1 h5
  have g5 : ((xs.length : Int) != (ys.length : Int)) = false := bne_f (by omega)
  have HX := Lib.hid hx
  have HY := Lib.hid hy
  have HIH := Lib.hid ih
  have H5 := Lib.hid h5
  clear ih hx hy h5
  go_enter Tryz.func56, Tryz.ntmps56
  go_wp2
  go_loopw [5, 6] (fun v5 _ wr => ∃ j : Nat, j ≤ xs.length ∧ v5 = .int .i64 j ∧ Hid (Below w.heap.size w wr ∧ ∀ m (h1 : m < xs.length) (h2 : m < ys.length), m < j → V.same xs[m] ys[m] = true)) (fun v5 _ _ => xs.length - (intOf v5).toNat)
  case atStart => exact ⟨0, by omega, rfl, Below.refl _ _, fun m _ _ h => by omega⟩
  case round =>
    obtain ⟨j, hj, rfl, HL⟩ := hrel
    have hbw : Below w.heap.size w wr := HL.out.1
    by_cases hlt : j < xs.length
    · have hlt2 : j < ys.length := by have := H5.out; omega
      obtain ⟨ux, hvx, hix⟩ := HX.out j hlt
      obtain ⟨uy, hvy, hiy⟩ := HY.out j hlt2
      obtain ⟨bx, ox, kx, ix, fx, tx, qx, nx, cx, rfl, _, rfl, a0, a1, a2, a3, a4⟩ := (hix.on hbw).lies
      obtain ⟨by', oy, ky, iy, fy, ty, qy, ny, cy, rfl, _, rfl, b0, b1, b2, b3, b4⟩ := (hiy.on hbw).lies
      have HC : Hid (∀ w', Below w.heap.size w w' → Calls Tryz.prog 36 #[.agg #[.int .i64 kx, .int .i64 ix, .float .f64 fx, .string tx, .slice qx nx cx], .agg #[.int .i64 ky, .int .i64 iy, .float .f64 fy, .string ty, .slice qy ny cy]] w' fun e w'' => e = .returned (.bool (V.same xs[j] ys[j])) ∧ Below w'.heap.size w' w'') :=
        fun w' hb => HIH.out _ (List.getElem_mem hlt) ys[j] w' _ _ (hvx.on hb) (hvy.on hb)
      have HBw := Lib.hid hbw
      have HAll := Lib.hid HL.out.2
      have hj1 : (j : Int) < (xs.length : Int) := by omega
      have hj2 : (j : Int) < (ys.length : Int) := by omega
      obtain ⟨r, hr⟩ : ∃ r, r = V.same xs[j] ys[j] := ⟨_, rfl⟩
      rw [← hr] at HC
      have HRr := Lib.hid hr
      clear hvx hvy hix hiy hbw HL hr
      go_wp2_with fail
      go_region_held3 (fun w' => w'.cell? ⟨bx, ox + j * 5, none⟩ = some (.int .i64 kx) ∧ w'.cell? ⟨bx, ox + j * 5 + 1, none⟩ = some (.int .i64 ix) ∧ w'.cell? ⟨bx, ox + j * 5 + 2, none⟩ = some (.float .f64 fx) ∧ w'.cell? ⟨bx, ox + j * 5 + 3, none⟩ = some (.string tx) ∧ w'.cell? ⟨bx, ox + j * 5 + 4, none⟩ = some (.slice qx nx cx) ∧ w'.cell? ⟨by', oy + j * 5, none⟩ = some (.int .i64 ky) ∧ w'.cell? ⟨by', oy + j * 5 + 1, none⟩ = some (.int .i64 iy) ∧ w'.cell? ⟨by', oy + j * 5 + 2, none⟩ = some (.float .f64 fy) ∧ w'.cell? ⟨by', oy + j * 5 + 3, none⟩ = some (.string ty) ∧ w'.cell? ⟨by', oy + j * 5 + 4, none⟩ = some (.slice qy ny cy)) (go_keep) (first
        | (go_at_call 36; refine (HC.out _ (below_drewN HBw.out _)).mono ?_; rintro e w4 ⟨rfl, hb4⟩; have hb5 := below_via (w := wr) hb4 (by rfl) (by rfl) (by rfl) (by rfl); have z3 := cell_on hb5 a0; have z4 := cell_on hb5 a1; have z5 := cell_on hb5 a2; have z6 := cell_on hb5 a3; have z7 := cell_on hb5 a4; have z8 := cell_on hb5 b0; have z9 := cell_on hb5 b1; have z10 := cell_on hb5 b2; have z11 := cell_on hb5 b3; have z12 := cell_on hb5 b4; have HB4 := Lib.hid hb5; clear hb4 hb5))
      clear z3 z4 z5 z6 z7 z8 z9 z10 z11 z12 a0 a1 a2 a3 a4 b0 b1 b2 b3 b4
      cases r with
      | true =>
        have HN : Hid (Below w.heap.size w w4 ∧ ∀ m (h1 : m < xs.length) (h2 : m < ys.length), m < j + 1 → V.same xs[m] ys[m] = true) := by
          refine ⟨HBw.out.trans (HB4.out.mono HBw.out.size), fun m h1 h2 hm => ?_⟩
          by_cases hmj : m = j
          · subst hmj; exact HRr.out.symm
          · exact HAll.out m h1 h2 (by omega)
        clear HB4 HAll HC
        go_wp2
        go_roundw
        case rel => exact ⟨j + 1, by omega, by go_num, HN⟩
        case measure => simp [intOf]; omega
      | false =>
        have HE : Hid (V.sameL xs ys = false) := V.sameL_at xs ys j hlt hlt2 HRr.out.symm
        have HF := Lib.hid (HBw.out.trans (HB4.out.mono HBw.out.size))
        clear HB4 HAll HC
        go_wp2
        go_ret
        exact ⟨by rw [HE.out]; rfl, HF.out⟩
    · have HE : Hid (V.sameL xs ys = true) := V.sameL_all xs ys H5.out (fun m h1 h2 => HL.out.2 m h1 h2 (by omega))
      have HF := Lib.hid hbw
      have hjn : ¬ (j : Int) < (xs.length : Int) := by omega
      clear HL hbw hlt
      go_wp2
      go_ret
      exact ⟨by rw [HE.out]; rfl, HF.out⟩
theorem beq_t {a b : Int} (h : a = b) : (a == b) = true := by rw [h]; simp
theorem beq_f {a b : Int} (h : ¬ a = b) : (a == b) = false := by rw [beq_eq_false_iff_ne]; exact h

set_option maxRecDepth 100000 in
set_option maxHeartbeats 400000 in
theorem refSame6 : ∀ (x y : V) (w : World) (u v : Array Value), VLies w u x → VLies w v y → Calls Tryz.prog 36 #[.agg u, .agg v] w fun e w' => e = .returned (.bool (V.same x y)) ∧ Below w.heap.size w w' := by
  intro x
  refine V.ind (P := fun x => ∀ (y : V) (w : World) (u v : Array Value), VLies w u x → VLies w v y → Calls Tryz.prog 36 #[.agg u, .agg v] w fun e w' => e = .returned (.bool (V.same x y)) ∧ Below w.heap.size w w') ?_ x
  rintro k i b t xs ih ⟨k', i', b', t', ys⟩ w u v hx hy
  obtain ⟨p, c, rfl, hxl, hxc, hxi⟩ := hx.open
  obtain ⟨q, d, rfl, hyl, hyc, hyi⟩ := hy.open
  unfold cells5
  have hB2 : Below w.heap.size w ((w.alloc (.cells #[.int .i64 k, .int .i64 i, .float .f64 b, .string t, .slice p xs.length c] 65)).alloc (.cells #[.int .i64 k', .int .i64 i', .float .f64 b', .string t', .slice q ys.length d] 65)) := ((Below.refl _ _).alloc (Nat.le_refl _) _).alloc (by simp) _
  have HB2 := Lib.hid hB2
  clear hB2 hx hy
  by_cases h1 : ¬ k = k'
  · have g1 := beq_f h1
    have HE : Hid (V.same (.mk k i b t xs) (.mk k' i' b' t' ys) = false) := by show _ = _; simp [V.same_mk, h1]
    clear ih hxi hyi h1
    go_enter Tryz.func36, Tryz.ntmps36
    go_wp2_with fail
    refine (refSame_any b b' _).mono ?_
    rintro e w1 ⟨rfl, hw1⟩
    rw [hw1]
    clear hw1 w1
    go_wp2
    go_ret
    exact ⟨by rw [HE.out]; rfl, HB2.out⟩
  replace h1 : k = k' := Classical.not_not.1 h1
  have g1 := beq_t h1
  by_cases h2 : ¬ i = i'
  · have g2 := beq_f h2
    have HE : Hid (V.same (.mk k i b t xs) (.mk k' i' b' t' ys) = false) := by show _ = _; simp [V.same_mk, h2]
    clear ih hxi hyi h1 h2
    go_enter Tryz.func36, Tryz.ntmps36
    go_wp2_with fail
    refine (refSame_any b b' _).mono ?_
    rintro e w1 ⟨rfl, hw1⟩
    rw [hw1]
    clear hw1 w1
    go_wp2
    go_ret
    exact ⟨by rw [HE.out]; rfl, HB2.out⟩
  replace h2 : i = i' := Classical.not_not.1 h2
  have g2 := beq_t h2
  by_cases h3 : ¬ t = t'
  · have g3 : (t.toList == t'.toList) = false := by rw [text_eq, decide_eq_false h3]
    have HE : Hid (V.same (.mk k i b t xs) (.mk k' i' b' t' ys) = false) := by show _ = _; simp [V.same_mk, h3]
    clear ih hxi hyi h1 h2 h3
    go_enter Tryz.func36, Tryz.ntmps36
    go_wp2_with fail
    refine (refSame_any b b' _).mono ?_
    rintro e w1 ⟨rfl, hw1⟩
    rw [hw1]
    clear hw1 w1
    go_wp2
    go_ret
    exact ⟨by rw [HE.out]; rfl, HB2.out⟩
  replace h3 : t = t' := Classical.not_not.1 h3
  have g3 : (t.toList == t'.toList) = true := by rw [text_eq, decide_eq_true h3]
  by_cases h4 : ¬ fixB b = fixB b'
  · have g4 : ((fixB b : Int) == (fixB b' : Int)) = false := beq_f (by omega)
    have HE : Hid (V.same (.mk k i b t xs) (.mk k' i' b' t' ys) = false) := by show _ = _; simp [V.same_mk, h4]
    clear ih hxi hyi h1 h2 h3 h4
    go_enter Tryz.func36, Tryz.ntmps36
    go_wp2_with fail
    refine (refSame_any b b' _).mono ?_
    rintro e w1 ⟨rfl, hw1⟩
    rw [hw1]
    clear hw1 w1
    go_wp2
    go_ret
    exact ⟨by rw [HE.out]; rfl, HB2.out⟩
  replace h4 : fixB b = fixB b' := Classical.not_not.1 h4
  have g4 : ((fixB b : Int) == (fixB b' : Int)) = true := beq_t (by omega)
  have HE : Hid (V.same (.mk k i b t xs) (.mk k' i' b' t' ys) = V.sameL xs ys) := by show _ = _; simp [V.same_mk, h1, h2, h3, h4]
  have hC : ∀ w', Below w.heap.size w w' → Calls Tryz.prog 56 #[.slice p xs.length c, .slice q ys.length d] w' fun e w'' => e = .returned (.bool (V.sameL xs ys)) ∧ Below w'.heap.size w' w'' := fun w' hb => refSameList_of xs ih ys w' p q c d (Items.on hxi hb) (Items.on hyi hb) hxl
  have HC := Lib.hid hC
  clear ih hxi hyi h1 h2 h3 h4 hC
  go_enter Tryz.func36, Tryz.ntmps36
  go_wp2_with fail
  refine (refSame_any b b' _).mono ?_
  rintro e w1 ⟨rfl, hw1⟩
  rw [hw1]
  clear hw1 w1
  go_wp2_with fail
  refine (HC.out _ HB2.out).mono ?_
  rintro e w3 ⟨rfl, hb3⟩
  have HB3 := Lib.hid (HB2.out.trans (hb3.mono HB2.out.size))
  clear hb3
  go_wp2
  go_ret
  exact ⟨by rw [HE.out]; simp, HB3.out⟩

theorem refSameList6 (xs ys : List V) (w : World) (p q : Option Addr) (c d : Nat) (hx : Items w p xs) (hy : Items w q ys) (hxl : xs.length * 64 ≤ 140737488351232) :
    Calls Tryz.prog 56 #[.slice p xs.length c, .slice q ys.length d] w fun e w' => e = .returned (.bool (V.sameL xs ys)) ∧ Below w.heap.size w w' := refSameList_of xs (fun x _ => refSame6 x) ys w p q c d hx hy hxl

end Go.Proofs.YtnlhpndjogjejaaGreatDoor

/- Plain: right UTF-8, character by character, as the document tells it. -/
namespace Go.Proofs.YtnlhpndjogjejaaGreatDoor.U8

/-- what a first byte says: how many bytes, its own bits, the least that needs so many -/
def kind (c : Nat) : Option (Nat × Nat × Nat) :=
  if c < 128 then some (1, c, 0) else if 192 ≤ c ∧ c < 224 then some (2, c - 192, 128) else if 224 ≤ c ∧ c < 240 then some (3, c - 224, 2048) else if 240 ≤ c ∧ c < 248 then some (4, c - 240, 65536) else none
/-- so many bytes more -/
def conts : Nat → Nat → List UInt8 → Option Nat
  | 0, v, _ => some v
  | _ + 1, _, [] => none
  | k + 1, v, c :: r => if 128 ≤ c.toNat ∧ c.toNat < 192 then conts k (v * 64 + c.toNat - 128) r else none
/-- a character's number may be -/
def may (least v : Nat) : Bool := decide (least ≤ v) && decide (v ≤ 1114111) && !(decide (55296 ≤ v) && decide (v ≤ 57343))
/-- how many bytes the first character has; none: there is no right one -/
def one : List UInt8 → Option Nat
  | [] => none
  | c :: r => match kind c.toNat with
    | none => none
    | some (n, v, least) => match conts (n - 1) v r with
      | none => none
      | some v' => if may least v' then some n else none
def utfF : Nat → List UInt8 → Bool
  | _, [] => true
  | 0, _ :: _ => false
  | f + 1, c :: r => match one (c :: r) with
    | none => false
    | some n => utfF f ((c :: r).drop n)
/-- P6.4 -/
def utf (l : List UInt8) : Bool := utfF l.length l

theorem kind_pos {c n v least : Nat} (h : kind c = some (n, v, least)) : 1 ≤ n ∧ n ≤ 4 ∧ v < 128 ∧ (1 < n → v < 32) := by
  unfold kind at h
  split at h
  · simp only [Option.some.injEq, Prod.mk.injEq] at h; omega
  · split at h
    · simp only [Option.some.injEq, Prod.mk.injEq] at h; omega
    · split at h
      · simp only [Option.some.injEq, Prod.mk.injEq] at h; omega
      · split at h
        · simp only [Option.some.injEq, Prod.mk.injEq] at h; omega
        · cases h
theorem conts_len : ∀ (k v : Nat) (r : List UInt8) (v' : Nat), conts k v r = some v' → k ≤ r.length
  | 0, _, _, _, _ => Nat.zero_le _
  | k + 1, _, [], _, h => by simp [conts] at h
  | k + 1, v, c :: r, v', h => by
    rw [conts] at h
    split at h
    · have := conts_len k _ r v' h
      simp; omega
    · cases h
theorem conts_append : ∀ (k v : Nat) (r b : List UInt8) (v' : Nat), conts k v r = some v' → conts k v (r ++ b) = some v'
  | 0, _, _, _, _, h => h
  | k + 1, _, [], _, _, h => by simp [conts] at h
  | k + 1, v, c :: r, b, v', h => by
    rw [conts] at h
    rw [List.cons_append, conts]
    split at h
    · rename_i hc
      rw [if_pos hc]
      exact conts_append k _ r b v' h
    · cases h
theorem one_len {l : List UInt8} {n : Nat} (h : one l = some n) : 1 ≤ n ∧ n ≤ l.length := by
  cases l with
  | nil => simp [one] at h
  | cons c r =>
    rw [one] at h
    cases hk : kind c.toNat with
    | none => rw [hk] at h; cases h
    | some x =>
      obtain ⟨m, v, least⟩ := x
      rw [hk] at h
      simp only at h
      have h1 := (kind_pos hk).1
      cases hc : conts (m - 1) v r with
      | none => rw [hc] at h; cases h
      | some v' =>
        rw [hc] at h
        simp only at h
        have := conts_len _ _ _ _ hc
        split at h
        · cases h; simp; omega
        · cases h
theorem one_append {l : List UInt8} {n : Nat} (b : List UInt8) (h : one l = some n) : one (l ++ b) = some n := by
  cases l with
  | nil => simp [one] at h
  | cons c r =>
    rw [List.cons_append, one]
    rw [one] at h
    cases hk : kind c.toNat with
    | none => rw [hk] at h; cases h
    | some x =>
      obtain ⟨m, v, least⟩ := x
      rw [hk] at h
      simp only at h ⊢
      cases hc : conts (m - 1) v r with
      | none => rw [hc] at h; cases h
      | some v' =>
        rw [hc] at h
        rw [conts_append _ _ _ b _ hc]
        exact h
theorem utfF_fuel : ∀ (n f : Nat) (l : List UInt8), l.length ≤ n → l.length ≤ f → utfF f l = utfF l.length l := by
  intro n
  induction n with
  | zero =>
    intro f l h _
    have : l = [] := List.eq_nil_of_length_eq_zero (by omega)
    subst this
    cases f <;> rfl
  | succ n ih =>
    intro f l h hf
    cases l with
    | nil => cases f <;> rfl
    | cons c r =>
      simp only [List.length_cons] at h hf ⊢
      cases f with
      | zero => omega
      | succ f =>
        rw [utfF, utfF]
        cases ho : one (c :: r) with
        | none => rfl
        | some m =>
          have hm := one_len ho
          simp only [List.length_cons] at hm
          simp only
          have hl : ((c :: r).drop m).length ≤ r.length := by rw [List.length_drop, List.length_cons]; omega
          rw [ih f _ (by omega) (by omega), ih r.length _ (by omega) hl]
theorem utf_nil : utf [] = true := rfl
theorem utf_bad {l : List UInt8} (h0 : l ≠ []) (h : one l = none) : utf l = false := by
  cases l with
  | nil => exact absurd rfl h0
  | cons c r => unfold utf; rw [List.length_cons, utfF, h]
theorem utf_step {l : List UInt8} {n : Nat} (h : one l = some n) : utf l = utf (l.drop n) := by
  cases l with
  | nil => simp [one] at h
  | cons c r =>
    have hm := one_len h
    simp only [List.length_cons] at hm
    unfold utf
    rw [List.length_cons, utfF, h]
    simp only
    exact utfF_fuel r.length _ _ (by rw [List.length_drop, List.length_cons]; omega) (by rw [List.length_drop, List.length_cons]; omega)
/-- P6.6 -/
theorem utf_append : ∀ (n : Nat) (a b : List UInt8), a.length ≤ n → utf a = true → utf (a ++ b) = utf b := by
  intro n
  induction n with
  | zero =>
    intro a b h _
    have : a = [] := List.eq_nil_of_length_eq_zero (by omega)
    subst this
    rfl
  | succ n ih =>
    intro a b h hu
    by_cases h0 : a = []
    · subst h0; rfl
    · cases ho : one a with
      | none => rw [utf_bad h0 ho] at hu; cases hu
      | some m =>
        have hm := one_len ho
        rw [utf_step ho] at hu
        rw [utf_step (one_append b ho), List.drop_append_of_le_length hm.2]
        exact ih _ b (by rw [List.length_drop]; omega) hu

/-- the bytes behind the first one are read up to the i-th -/
def Inner (l : List UInt8) (a n v0 i v : Nat) : Prop := conts (n - 1) v0 (l.drop (a + 1)) = conts (n - i) v (l.drop (a + i)) ∧ (i ≤ 1 → v < 128) ∧ (i ≤ 2 → v < 8192) ∧ (i ≤ 3 → v < 524288) ∧ v < 33554432
theorem in_start (l : List UInt8) (a n v0 : Nat) (h : v0 < 128) : Inner l a n v0 1 v0 := ⟨rfl, fun _ => h, fun _ => by omega, fun _ => by omega, by omega⟩
section
variable {l : List UInt8} {a n v0 i v : Nat}
theorem in_short (h : Inner l a n v0 i v) (hi : i < n) (hs : l.length ≤ a + i) : conts (n - 1) v0 (l.drop (a + 1)) = none := by
  rw [h.1, List.drop_eq_nil_of_le hs, show n - i = (n - i - 1) + 1 by omega]
  rfl
theorem in_bad (h : Inner l a n v0 i v) (hi : i < n) (hs : a + i < l.length) (hb : ¬ (128 ≤ l[a + i].toNat ∧ l[a + i].toNat < 192)) : conts (n - 1) v0 (l.drop (a + 1)) = none := by
  rw [h.1, List.drop_eq_getElem_cons hs, show n - i = (n - i - 1) + 1 by omega, conts, if_neg hb]
theorem in_next (h : Inner l a n v0 i v) (h0 : 1 ≤ i) (hi : i < n) (hn : n ≤ 4) (hs : a + i < l.length) (hb : 128 ≤ l[a + i].toNat ∧ l[a + i].toNat < 192) : Inner l a n v0 (i + 1) (v * 64 + l[a + i].toNat - 128) := by
  obtain ⟨h1, h2, h3, h4, h5⟩ := h
  refine ⟨?_, fun hc => ?_, fun hc => ?_, fun hc => ?_, ?_⟩
  · rw [h1, List.drop_eq_getElem_cons hs, show n - i = (n - (i + 1)) + 1 by omega, conts, if_pos hb]
    rfl
  · omega
  · have := h2 (by omega); omega
  · have := h3 (by omega); omega
  · have := h4 (by omega); omega
theorem in_end (h : Inner l a n v0 n v) : conts (n - 1) v0 (l.drop (a + 1)) = some v := by rw [h.1, Nat.sub_self]; rfl
end
theorem one_none {l : List UInt8} {a n v0 least : Nat} (ha : a < l.length) (hk : kind l[a].toNat = some (n, v0, least)) (h : conts (n - 1) v0 (l.drop (a + 1)) = none) : one (l.drop a) = none := by
  rw [List.drop_eq_getElem_cons ha, one, hk]
  simp only
  rw [h]
theorem one_may {l : List UInt8} {a n v0 v least : Nat} (ha : a < l.length) (hk : kind l[a].toNat = some (n, v0, least)) (h : conts (n - 1) v0 (l.drop (a + 1)) = some v) : one (l.drop a) = if may least v then some n else none := by
  rw [List.drop_eq_getElem_cons ha, one, hk]
  simp only
  rw [h]
theorem one_kind {l : List UInt8} {a : Nat} (ha : a < l.length) (hk : kind l[a].toNat = none) : one (l.drop a) = none := by
  rw [List.drop_eq_getElem_cons ha, one, hk]
end Go.Proofs.YtnlhpndjogjejaaGreatDoor.U8

/- The walks of the document's own Put, Len, Zig, Zag, Get. -/
namespace Go.Proofs.YtnlhpndjogjejaaGreatDoor
open Go.RowKit

/-- what is still to be put: xs stands, m is left -/
def Leb.Putting (n : Nat) (xs : List UInt8) (m : Nat) : Prop := xs.length ≤ 9 ∧ m < 2 * 128 ^ (9 - xs.length) ∧ Leb.put n = xs ++ Leb.putF (10 - xs.length) m

theorem Leb.putting_start {n : Nat} (h : n < 18446744073709551616) : Leb.Putting n [] n := by
  have e : 2 * 128 ^ 9 = 18446744073709551616 := by decide
  exact ⟨by simp, by simpa [e] using h, rfl⟩
theorem Leb.putting_lt {n : Nat} {xs : List UInt8} {m : Nat} (h : Leb.Putting n xs m) : m < 18446744073709551616 := by
  have e : 2 * 128 ^ 9 = 18446744073709551616 := by decide
  have h1 := Nat.pow_le_pow_right (show 0 < 128 by omega) (show 9 - xs.length ≤ 9 by omega)
  have := h.2.1
  omega
theorem Leb.putting_next {n : Nat} {xs : List UInt8} {m : Nat} (h : Leb.Putting n xs m) (hm : 127 < m) : Leb.Putting n (xs ++ [UInt8.ofNat (m % 128 + 128)]) (m / 128) := by
  obtain ⟨h1, h2, h3⟩ := h
  have h4 : xs.length ≤ 8 := by
    rcases Nat.lt_or_ge 8 xs.length with h5 | h5
    · have : 9 - xs.length = 0 := by omega
      rw [this] at h2
      simp at h2
      omega
    · exact h5
  refine ⟨by simp; omega, ?_, ?_⟩
  · have e : 9 - xs.length = (9 - (xs ++ [UInt8.ofNat (m % 128 + 128)]).length) + 1 := by simp; omega
    rw [e, Nat.pow_succ] at h2
    rw [Nat.div_lt_iff_lt_mul (by omega)]
    omega
  · have e : 10 - xs.length = (10 - (xs ++ [UInt8.ofNat (m % 128 + 128)]).length) + 1 := by simp; omega
    rw [h3, e, Leb.putF, if_neg (by omega), List.append_assoc]
    rfl
theorem Leb.putting_last {n : Nat} {xs : List UInt8} {m : Nat} (h : Leb.Putting n xs m) (hm : m ≤ 127) : xs ++ [UInt8.ofNat m] = Leb.put n := by
  obtain ⟨h1, h2, h3⟩ := h
  have e : 10 - xs.length = (9 - xs.length) + 1 := by omega
  rw [h3, e, Leb.putF, if_pos (by omega)]

theorem refZag_any (u : Nat) (h : u < 18446744073709551616) (w : World) :
    Calls Tryz.prog 73 #[.int .u64 u] w fun e w' => e = .returned (.int .i64 (Leb.zag u)) ∧ w' = w := by
  by_cases h0 : u % 2 = 0
  · have HE : Hid (Leb.zag u = ((u / 2 : Nat) : Int)) := by
      show _ = _
      unfold Leb.zag
      rw [if_pos h0]
    have hb : ((u : Int) % 2 == 0) = true := by rw [beq_iff_eq]; omega
    clear h0
    go_enter Tryz.func73, Tryz.ntmps73
    go_wp2
    go_ret
    exact ⟨by rw [HE.out]; go_num, rfl⟩
  · have HE : Hid (Leb.zag u = -((u / 2 : Nat) : Int) - 1) := by
      show _ = _
      unfold Leb.zag
      rw [if_neg h0]
    have hb : ((u : Int) % 2 == 0) = false := by rw [beq_eq_false_iff_ne]; omega
    clear h0
    go_enter Tryz.func73, Tryz.ntmps73
    go_wp2
    go_ret
    exact ⟨by rw [HE.out]; go_num, rfl⟩
end Go.Proofs.YtnlhpndjogjejaaGreatDoor

/- The walk of the document's own Get. -/
namespace Go.Proofs.YtnlhpndjogjejaaGreatDoor
open Go.RowKit

/-- what Get answers: the number, the place behind it, the error -/
def gotV (l : List UInt8) (a : Int) : Value := .tuple #[.int .u64 ((Leb.getAt l a).n : Nat), .int .i64 (Leb.nextAt l a), .int .i64 ((Leb.getAt l a).err : Nat)]

theorem gotV_out (l : List UInt8) (a : Int) (h : a < 0 ∨ (l.length : Int) ≤ a) : gotV l a = .tuple #[.int .u64 0, .int .i64 0, .int .i64 30] := by
  have e : Leb.getAt l a = ⟨30, 0, 0⟩ := by
    unfold Leb.getAt
    by_cases h0 : a < 0
    · rw [if_pos h0]
    · rw [if_neg h0, List.drop_eq_nil_of_le (by omega)]; rfl
  unfold gotV Leb.nextAt
  rw [e]; rfl
theorem gotV_bad (l : List UInt8) (a : Nat) (c : Nat) (hc : c ≠ 0) (h : Leb.get (l.drop a) = ⟨c, 0, 0⟩) : gotV l a = .tuple #[.int .u64 0, .int .i64 0, .int .i64 c] := by
  have e : Leb.getAt l a = ⟨c, 0, 0⟩ := by
    unfold Leb.getAt
    rw [if_neg (by omega)]
    exact h
  unfold gotV Leb.nextAt
  rw [e, if_neg hc]; rfl
theorem gotV_ok (l : List UInt8) (a n k : Nat) (h : Leb.get (l.drop a) = ⟨0, n, k⟩) : gotV l a = .tuple #[.int .u64 n, .int .i64 ((a : Int) + k), .int .i64 0] := by
  have e : Leb.getAt l a = ⟨0, n, k⟩ := by
    unfold Leb.getAt
    rw [if_neg (by omega)]
    exact h
  unfold gotV Leb.nextAt
  rw [e, if_pos rfl]; rfl

theorem refGet_out (p : Option Addr) (c n : Nat) (a : Int) (h : a < 0 ∨ (n : Int) ≤ a) (w : World) :
    Calls Tryz.prog 33 #[.slice p n c, .int .i64 a] w fun e w' => e = .returned (.tuple #[.int .u64 0, .int .i64 0, .int .i64 30]) ∧ w' = w := by
  by_cases h0 : a < 0
  · go_enter Tryz.func33, Tryz.ntmps33
    go_wp2
    go_ret3
    exact ⟨rfl, rfl⟩
  · have h1 : (n : Int) ≤ a := by omega
    have hb0 : decide (a < 0) = false := decide_eq_false h0
    go_enter Tryz.func33, Tryz.ntmps33
    go_wp2
    go_ret3
    exact ⟨rfl, rfl⟩

set_option maxHeartbeats 2000000 in
theorem refGet_in (b o c a : Nat) (l : List UInt8) (hl : l.length ≤ 140737488351232) (ha : a < l.length) (w : World) (hc : Cells w b o l) :
    Calls Tryz.prog 33 #[.slice (some ⟨b, o, none⟩) l.length c, .int .i64 a] w fun e w' => e = .returned (gotV l a) ∧ w' = w := by
  obtain ⟨r, hr⟩ : ∃ r, r = l.drop a := ⟨_, rfl⟩
  have hrl : r.length = l.length - a := by rw [hr, List.length_drop]
  have HC : Hid (∀ j (h : j < r.length), w.cell? ⟨b, o + (a + j), none⟩ = some (.int .u8 (r[j].toNat : Int))) := by
    intro j h
    have := hc (a + j) (by omega)
    rw [this]
    subst hr
    rw [List.getElem_drop]
  have HB : Hid (∀ e n k, Leb.get r = ⟨e, n, k⟩ → Leb.get (l.drop a) = ⟨e, n, k⟩) := by
    intro e n k h
    rw [← hr]; exact h
  clear hc hr
  go_enter Tryz.func33, Tryz.ntmps33
  go_wp2
  go_loop [7] (fun v7 => ∃ k : Nat, k ≤ 10 ∧ k ≤ r.length ∧ v7 = .int .i64 k ∧ Hid (∀ j (h : j < r.length), j < k → 127 < r[j].toNat)) (fun v7 => 10 - (intOf v7).toNat)
  case atStart => exact ⟨0, by omega, by omega, rfl, fun j h h' => by omega⟩
  case round =>
    obtain ⟨k, hk, hkr, rfl, HK⟩ := hrel
    by_cases h10 : k = 10
    · subst h10
      have HG := Lib.hid (gotV_bad l a 5 (by omega) (HB.out _ _ _ ((Leb.getF_high 10 true r).1 (Leb.high_eq 10 r 10 (by omega) hkr HK.out (.inl rfl)))))
      have hb1 : decide ((10 : Int) < 10) = false := by decide
      clear HK
      go_wp2
      go_ret3
      exact ⟨by rw [HG.out]; rfl, rfl⟩
    · have hb1 : (k : Int) < 10 := by omega
      by_cases hend : k = r.length
      · subst hend
        have hh := Leb.high_eq 10 r r.length (by omega) (by omega) HK.out (.inr (.inl rfl))
        have HG := Lib.hid (gotV_bad l a 30 (by omega) (HB.out _ _ _ ((Leb.getF_high 10 true r).2.1 hh (by omega))))
        have hb2 : decide ((r.length : Int) < (l.length : Int) - (a : Int)) = false := decide_eq_false (by omega)
        have hb3 : ((r.length : Int) == 10) = false := by rw [beq_eq_false_iff_ne]; omega
        have hb4 : ((r.length : Int) == (l.length : Int) - (a : Int)) = true := by rw [beq_iff_eq]; omega
        clear HK hh
        go_wp2
        go_ret3
        exact ⟨by rw [HG.out]; rfl, rfl⟩
      · have hlt : k < r.length := by omega
        have hcell := HC.out k hlt
        have hb2 : (k : Int) < (l.length : Int) - (a : Int) := by omega
        by_cases hhi : 127 < r[k].toNat
        · have HN : Hid (∀ j (h : j < r.length), j < k + 1 → 127 < r[j].toNat) := by
            intro j h hj
            by_cases e : j = k
            · subst e; exact hhi
            · exact HK.out j h (by omega)
          clear HK
          generalize r[k].toNat = v at hcell hhi
          go_wp2
          go_round
          case rel => exact ⟨k + 1, by omega, by omega, by go_num, HN⟩
          case measure => simp [intOf]; omega
        · have hh := Leb.high_eq 10 r k (by omega) hkr HK.out (.inr (.inr ⟨hlt, hhi⟩))
          have hg := (Leb.getF_high 10 true r).2.2 (by omega) (by omega)
          simp only [hh] at hg
          have hb3 : ((k : Int) == 10) = false := by rw [beq_eq_false_iff_ne]; omega
          have hb4 : ((k : Int) == (l.length : Int) - (a : Int)) = false := by rw [beq_eq_false_iff_ne]; omega
          by_cases hbad0 : (k + 1 = 10 ∧ 1 < r[k].toNat) ∨ ((true = false ∨ 0 < k) ∧ r[k].toNat = 0)
          · rw [if_pos hbad0] at hg
            have hbad : (k = 9 ∧ 1 < r[k].toNat) ∨ (0 < k ∧ r[k].toNat = 0) := by
              rcases hbad0 with ⟨x, y⟩ | ⟨x | x, y⟩
              · exact .inl ⟨by omega, y⟩
              · cases x
              · exact .inr ⟨x, y⟩
            clear hbad0
            have HG := Lib.hid (gotV_bad l a 5 (by omega) (HB.out _ _ _ hg))
            clear hg HK hh
            generalize r[k].toNat = v at hcell hhi hbad
            by_cases h9 : k = 9
            · subst h9
              by_cases hv : 1 < v
              · go_wp2
                go_ret3
                exact ⟨by rw [HG.out]; rfl, rfl⟩
              · have hv0 : v = 0 := by omega
                subst hv0
                go_wp2
                go_ret3
                exact ⟨by rw [HG.out]; rfl, rfl⟩
            · have hb5 : ((k : Int) == 9) = false := by rw [beq_eq_false_iff_ne]; omega
              have hv0 : v = 0 := by omega
              have hk0 : (0 : Int) < (k : Int) := by omega
              subst hv0
              go_wp2
              go_ret3
              exact ⟨by rw [HG.out]; rfl, rfl⟩
          · rw [if_neg hbad0] at hg
            have hbad : ¬ ((k = 9 ∧ 1 < r[k].toNat) ∨ (0 < k ∧ r[k].toNat = 0)) := by
              rintro (⟨x, y⟩ | ⟨x, y⟩)
              · exact hbad0 (.inl ⟨by omega, y⟩)
              · exact hbad0 (.inr ⟨.inr x, y⟩)
            clear hbad0
            have hok := Leb.get_ok r (by rw [show Leb.get r = _ from hg])
            rw [show Leb.get r = _ from hg] at hok
            have hlim : Leb.val (r.take (k + 1)) < 18446744073709551616 := hok.1
            have HG := Lib.hid (gotV_ok l a _ _ (HB.out _ _ _ hg))
            clear hg HK hh hok
            obtain ⟨t, ht⟩ : ∃ t, t = r.take (k + 1) := ⟨_, rfl⟩
            have htl : t.length = k + 1 := by rw [ht, List.length_take]; omega
            have HV : Hid (∀ j (h : j < t.length), w.cell? ⟨b, o + (a + j), none⟩ = some (.int .u8 (t[j].toNat : Int))) := by
              intro j h
              rw [HC.out j (by omega)]
              subst ht
              rw [List.getElem_take]
            rw [← ht] at HG hlim
            clear ht
            have HD : Hid (Leb.val (t.drop (k + 1)) = 0) := by
              show _ = _
              rw [← htl, List.drop_length]; rfl
            have HL : Hid (∀ j, Leb.val (t.drop j) ≤ Leb.val t) := fun j => Leb.val_drop_le t j
            generalize r[k].toNat = v at hcell hhi hbad
            clear HC HB
            by_cases h9 : k = 9
            · subst h9
              have hv : ¬ (1 : Int) < (v : Int) := by omega
              have hv0 : ((v : Int) == 0) = false := by rw [beq_eq_false_iff_ne]; omega
              go_wp2
              go_loop [8, 9] (fun v8 v9 => ∃ (j m : Nat), j ≤ 9 + 1 ∧ v9 = .int .i64 ((j : Int) - 1) ∧ v8 = .int .u64 m ∧ m < 18446744073709551616 ∧ Hid (m = Leb.val (t.drop j))) (fun _ v9 => (intOf v9 + 1).toNat)
              case atStart => exact ⟨9 + 1, 0, by omega, by go_num, rfl, by omega, HD.out.symm⟩
              case round =>
                obtain ⟨j, m, hj, rfl, rfl, hm, HM⟩ := hrel
                by_cases hj0 : j = 0
                · subst hj0
                  have HE : Hid (m = Leb.val t) := HM
                  clear HM
                  go_wp2
                  go_ret3
                  exact ⟨by rw [HG.out, HE.out] <;> rfl, rfl⟩
                · obtain ⟨i, rfl⟩ : ∃ i, j = i + 1 := ⟨j - 1, by omega⟩
                  have hc := HV.out i (by omega)
                  have hvd := Leb.val_drop t i (by omega)
                  rw [← HM.out] at hvd
                  have hle := HL.out i
                  have hc256 : t[i].toNat < 256 := t[i].toNat_lt
                  have HN : Hid (m * 128 + t[i].toNat % 128 = Leb.val (t.drop i)) := hvd.symm
                  have hlt2 : m * 128 + t[i].toNat % 128 < 18446744073709551616 := by omega
                  clear hvd HM hle
                  generalize t[i].toNat = c at hc hc256 HN hlt2
                  go_wp2
                  go_round
                  case rel => exact ⟨i, m * 128 + c % 128, by omega, by go_num, by go_num, hlt2, HN⟩
                  case measure => simp [intOf] <;> omega
            · have hb5 : ((k : Int) == 9) = false := by rw [beq_eq_false_iff_ne]; omega
              by_cases hk0 : k = 0
              · have hk1 : decide ((0 : Int) < (k : Int)) = false := decide_eq_false (by omega)
                have hk2 : (k : Int) ≤ 0 := by omega
                clear hk0 hk1
                go_wp2
                go_loop [8, 9] (fun v8 v9 => ∃ (j m : Nat), j ≤ k + 1 ∧ v9 = .int .i64 ((j : Int) - 1) ∧ v8 = .int .u64 m ∧ m < 18446744073709551616 ∧ Hid (m = Leb.val (t.drop j))) (fun _ v9 => (intOf v9 + 1).toNat)
                case atStart => exact ⟨k + 1, 0, by omega, by go_num, rfl, by omega, HD.out.symm⟩
                case round =>
                  obtain ⟨j, m, hj, rfl, rfl, hm, HM⟩ := hrel
                  by_cases hj0 : j = 0
                  · subst hj0
                    have HE : Hid (m = Leb.val t) := HM
                    clear HM
                    go_wp2
                    go_ret3
                    exact ⟨by rw [HG.out, HE.out] <;> rfl, rfl⟩
                  · obtain ⟨i, rfl⟩ : ∃ i, j = i + 1 := ⟨j - 1, by omega⟩
                    have hc := HV.out i (by omega)
                    have hvd := Leb.val_drop t i (by omega)
                    rw [← HM.out] at hvd
                    have hle := HL.out i
                    have hc256 : t[i].toNat < 256 := t[i].toNat_lt
                    have HN : Hid (m * 128 + t[i].toNat % 128 = Leb.val (t.drop i)) := hvd.symm
                    have hlt2 : m * 128 + t[i].toNat % 128 < 18446744073709551616 := by omega
                    clear hvd HM hle
                    generalize t[i].toNat = c at hc hc256 HN hlt2
                    go_wp2
                    go_round
                    case rel => exact ⟨i, m * 128 + c % 128, by omega, by go_num, by go_num, hlt2, HN⟩
                    case measure => simp [intOf] <;> omega
              · have hk1 : (0 : Int) < (k : Int) := by omega
                have hv0 : ((v : Int) == 0) = false := by rw [beq_eq_false_iff_ne]; omega
                go_wp2
                go_loop [8, 9] (fun v8 v9 => ∃ (j m : Nat), j ≤ k + 1 ∧ v9 = .int .i64 ((j : Int) - 1) ∧ v8 = .int .u64 m ∧ m < 18446744073709551616 ∧ Hid (m = Leb.val (t.drop j))) (fun _ v9 => (intOf v9 + 1).toNat)
                case atStart => exact ⟨k + 1, 0, by omega, by go_num, rfl, by omega, HD.out.symm⟩
                case round =>
                  obtain ⟨j, m, hj, rfl, rfl, hm, HM⟩ := hrel
                  by_cases hj0 : j = 0
                  · subst hj0
                    have HE : Hid (m = Leb.val t) := HM
                    clear HM
                    go_wp2
                    go_ret3
                    exact ⟨by rw [HG.out, HE.out] <;> rfl, rfl⟩
                  · obtain ⟨i, rfl⟩ : ∃ i, j = i + 1 := ⟨j - 1, by omega⟩
                    have hc := HV.out i (by omega)
                    have hvd := Leb.val_drop t i (by omega)
                    rw [← HM.out] at hvd
                    have hle := HL.out i
                    have hc256 : t[i].toNat < 256 := t[i].toNat_lt
                    have HN : Hid (m * 128 + t[i].toNat % 128 = Leb.val (t.drop i)) := hvd.symm
                    have hlt2 : m * 128 + t[i].toNat % 128 < 18446744073709551616 := by omega
                    clear hvd HM hle
                    generalize t[i].toNat = c at hc hc256 HN hlt2
                    go_wp2
                    go_round
                    case rel => exact ⟨i, m * 128 + c % 128, by omega, by go_num, by go_num, hlt2, HN⟩
                    case measure => simp [intOf] <;> omega

theorem refGet_any (p : Option Addr) (c : Nat) (l : List UInt8) (a : Int) (hl : l.length ≤ 140737488351232) (w : World) (h : At w p l) :
    Calls Tryz.prog 33 #[.slice p l.length c, .int .i64 a] w fun e w' => e = .returned (gotV l a) ∧ w' = w := by
  by_cases h0 : a < 0 ∨ (l.length : Int) ≤ a
  · rw [gotV_out l a h0]
    exact refGet_out p c l.length a h0 w
  · obtain ⟨n, rfl⟩ : ∃ n : Nat, a = (n : Int) := ⟨a.toNat, by omega⟩
    obtain ⟨b, o, rfl, _, hc⟩ := at_some h (by omega)
    exact refGet_in b o c n l hl (by omega) w hc
end Go.Proofs.YtnlhpndjogjejaaGreatDoor

/- The document's Utf. -/
namespace Go.Proofs.YtnlhpndjogjejaaGreatDoor
open Go.RowKit

theorem text_get (t : ByteArray) (i : Nat) (h : i < t.size) : t.data.toList[i]'(by simpa using h) = t[i] := by rw [Array.getElem_toList]; rfl

set_option maxRecDepth 100000 in
set_option maxHeartbeats 1000000 in
theorem refUtf6 (t : ByteArray) (ht : t.size ≤ 281474976702464) (w : World) : Calls Tryz.prog 75 #[.string t] w fun e w' => e = .returned (.bool (U8.utf t.data.toList)) ∧ w' = w := by
  go_enter Tryz.func75, Tryz.ntmps75
  go_wp2
  go_loop [3, 4, 5, 6, 7, 16, 19, 28, 37] (fun v3 _ _ _ _ _ _ _ _ => ∃ a : Nat, a ≤ t.size ∧ v3 = .int .i64 a ∧ Hid (U8.utf t.data.toList = U8.utf (t.data.toList.drop a))) (fun v3 _ _ _ _ _ _ _ _ => t.size - (intOf v3).toNat)
  case atStart => exact ⟨0, by omega, rfl, rfl⟩
  case round =>
    obtain ⟨a, ha, rfl, HU⟩ := hrel
    by_cases hlt : a < t.size
    · have hlt' : (a : Int) < (t.size : Int) := by omega
      have hc2 := t[a].toNat_lt
      have hll : t.data.toList.length = t.size := by simp
      have hla : a < t.data.toList.length := by omega
      have hne : t.data.toList.drop a ≠ [] := by
        intro hc
        have := congrArg List.length hc
        rw [List.length_drop] at this
        simp at this
        omega
      by_cases k1 : t[a].toNat < 128
      · have k1' : (t[a].toNat : Int) < 128 := by omega
        have HK : Hid (U8.kind t.data.toList[a].toNat = some (1, t[a].toNat - 0, 0)) := by
          show _ = _
          rw [text_get t a hlt]
          unfold U8.kind
          rw [if_pos (by omega), Nat.sub_zero]
        have hsub : ((t[a].toNat : Int) - 0) = ((t[a].toNat - 0 : Nat) : Int) := by omega
        have HI0 := Lib.hid (U8.in_start t.data.toList a 1 (t[a].toNat - 0) (by omega))
        go_wp2
        go_loop [4, 7] (fun v4 v7 => ∃ i v : Nat, 1 ≤ i ∧ i ≤ 1 ∧ v4 = .int .i64 v ∧ v7 = .int .i64 i ∧ Hid (U8.Inner t.data.toList a 1 (t[a].toNat - 0) i v)) (fun _ v7 => 1 - (intOf v7).toNat)
        case atStart => exact ⟨1, t[a].toNat - 0, by omega, by omega, rfl, rfl, HI0.out⟩
        case round =>
          obtain ⟨i, v, hi1, hin, rfl, rfl, HI⟩ := hrel
          clear HI0
          have hii : i = 1 := by omega
          subst hii
          have HE := Lib.hid (U8.in_end HI.out)
          have hv5 := HI.out.2.2.2.2
          by_cases q2 : 1114111 < v
          · have q2' : (1114111 : Int) < (v : Int) := by omega
            have HB : Hid (U8.utf t.data.toList = false) := by
              show _ = _
              have hm : U8.may 0 v = false := by simp [U8.may]; omega
              have ho := U8.one_may hla HK.out HE.out
              rw [hm] at ho
              rw [HU.out]
              exact U8.utf_bad hne ho
            clear HI HE HK HU
            go_wp2
            go_ret
            exact ⟨by rw [HB.out]; rfl, rfl⟩
          have q2' : ¬ (1114111 : Int) < (v : Int) := by omega
          by_cases q3 : 55296 ≤ v
          · have q3' : (55296 : Int) ≤ (v : Int) := by omega
            by_cases q4 : v ≤ 57343
            · have q4' : (v : Int) ≤ 57343 := by omega
              have HB : Hid (U8.utf t.data.toList = false) := by
                show _ = _
                have hm : U8.may 0 v = false := by simp [U8.may]; omega
                have ho := U8.one_may hla HK.out HE.out
                rw [hm] at ho
                rw [HU.out]
                exact U8.utf_bad hne ho
              clear HI HE HK HU
              go_wp2
              go_ret
              exact ⟨by rw [HB.out]; rfl, rfl⟩
            have q4' : ¬ (v : Int) ≤ 57343 := by omega
            have HG : Hid (U8.utf t.data.toList = U8.utf (t.data.toList.drop (a + 1)) ∧ a + 1 ≤ t.size) := by
              have hm : U8.may 0 v = true := by simp [U8.may]; omega
              have ho := U8.one_may hla HK.out HE.out
              rw [hm, if_pos rfl] at ho
              have hlen := (U8.one_len ho).2
              rw [List.length_drop, hll] at hlen
              refine ⟨?_, by omega⟩
              rw [HU.out, U8.utf_step ho, List.drop_drop]
            clear HI HE HK HU
            go_wp2
            go_round
            case rel => exact ⟨a + 1, HG.out.2, by go_num, HG.out.1⟩
            case measure => simp [intOf]; omega
          have q3' : ¬ (55296 : Int) ≤ (v : Int) := by omega
          have HG : Hid (U8.utf t.data.toList = U8.utf (t.data.toList.drop (a + 1)) ∧ a + 1 ≤ t.size) := by
            have hm : U8.may 0 v = true := by simp [U8.may]; omega
            have ho := U8.one_may hla HK.out HE.out
            rw [hm, if_pos rfl] at ho
            have hlen := (U8.one_len ho).2
            rw [List.length_drop, hll] at hlen
            refine ⟨?_, by omega⟩
            rw [HU.out, U8.utf_step ho, List.drop_drop]
          clear HI HE HK HU
          go_wp2
          go_round
          case rel => exact ⟨a + 1, HG.out.2, by go_num, HG.out.1⟩
          case measure => simp [intOf]; omega
      have k1' : ¬ (t[a].toNat : Int) < 128 := by omega
      by_cases k2 : 192 ≤ t[a].toNat ∧ t[a].toNat < 224
      · obtain ⟨k2a, k2b⟩ := k2
        have k2a' : (192 : Int) ≤ (t[a].toNat : Int) := by omega
        have k2b' : (t[a].toNat : Int) < 224 := by omega
        have HK : Hid (U8.kind t.data.toList[a].toNat = some (2, t[a].toNat - 192, 128)) := by
          show _ = _
          rw [text_get t a hlt]
          unfold U8.kind
          rw [if_neg (by omega), if_pos (by omega)]
        have hsub : ((t[a].toNat : Int) - 192) = ((t[a].toNat - 192 : Nat) : Int) := by omega
        have HI0 := Lib.hid (U8.in_start t.data.toList a 2 (t[a].toNat - 192) (by omega))
        go_wp2
        go_loop [4, 7] (fun v4 v7 => ∃ i v : Nat, 1 ≤ i ∧ i ≤ 2 ∧ v4 = .int .i64 v ∧ v7 = .int .i64 i ∧ Hid (U8.Inner t.data.toList a 2 (t[a].toNat - 192) i v)) (fun _ v7 => 2 - (intOf v7).toNat)
        case atStart => exact ⟨1, t[a].toNat - 192, by omega, by omega, by go_num, rfl, HI0.out⟩
        case round =>
          obtain ⟨i, v, hi1, hin, rfl, rfl, HI⟩ := hrel
          clear HI0
          by_cases hi : i < 2
          · have hi' : (i : Int) < 2 := by omega
            have hv3 := HI.out.2.2.2.1 (by omega)
            by_cases hs : t.size ≤ a + i
            · have hs' : (t.size : Int) ≤ (a : Int) + (i : Int) := by omega
              have HB : Hid (U8.utf t.data.toList = false) := by
                show _ = _
                rw [HU.out]
                exact U8.utf_bad hne (U8.one_none hla HK.out (U8.in_short HI.out hi (by omega)))
              clear HI HK HU
              go_wp2
              go_ret
              exact ⟨by rw [HB.out]; rfl, rfl⟩
            have hs' : ¬ (t.size : Int) ≤ (a : Int) + (i : Int) := by omega
            have hs2 : a + i < t.size := by omega
            have hs3 : (a : Int) + (i : Int) < (t.size : Int) := by omega
            have hte := text_get t (a + i) hs2
            by_cases hb : 128 ≤ t[a + i].toNat ∧ t[a + i].toNat < 192
            · have HN := Lib.hid (U8.in_next HI.out hi1 hi (by omega) (by omega) (by rw [hte]; exact hb))
              rw [hte] at HN
              obtain ⟨hb1, hb2⟩ := hb
              have hb1' : ¬ (t[a + i].toNat : Int) < 128 := by omega
              have hb2' : ¬ (192 : Int) ≤ (t[a + i].toNat : Int) := by omega
              clear HI HK HU hte
              go_wp2
              go_round
              case rel => exact ⟨i + 1, _, by omega, by omega, by go_num, by go_num, HN⟩
              case measure => simp [intOf]; omega
            · have HB : Hid (U8.utf t.data.toList = false) := by
                show _ = _
                rw [HU.out]
                exact U8.utf_bad hne (U8.one_none hla HK.out (U8.in_bad HI.out hi (by omega) (by rw [hte]; exact hb)))
              clear HI HK HU hte
              by_cases hb1 : t[a + i].toNat < 128
              · have hb1' : (t[a + i].toNat : Int) < 128 := by omega
                go_wp2
                go_ret
                exact ⟨by rw [HB.out]; rfl, rfl⟩
              · have hb1' : ¬ (t[a + i].toNat : Int) < 128 := by omega
                have hb2' : (192 : Int) ≤ (t[a + i].toNat : Int) := by omega
                go_wp2
                go_ret
                exact ⟨by rw [HB.out]; rfl, rfl⟩
          have hii : i = 2 := by omega
          subst hii
          have HE := Lib.hid (U8.in_end HI.out)
          have hv5 := HI.out.2.2.2.2
          by_cases q1 : v < 128
          · have q1' : (v : Int) < 128 := by omega
            have HB : Hid (U8.utf t.data.toList = false) := by
              show _ = _
              have hm : U8.may 128 v = false := by simp [U8.may]; omega
              have ho := U8.one_may hla HK.out HE.out
              rw [hm] at ho
              rw [HU.out]
              exact U8.utf_bad hne ho
            clear HI HE HK HU
            go_wp2
            go_ret
            exact ⟨by rw [HB.out]; rfl, rfl⟩
          have q1' : ¬ (v : Int) < 128 := by omega
          by_cases q2 : 1114111 < v
          · have q2' : (1114111 : Int) < (v : Int) := by omega
            have HB : Hid (U8.utf t.data.toList = false) := by
              show _ = _
              have hm : U8.may 128 v = false := by simp [U8.may]; omega
              have ho := U8.one_may hla HK.out HE.out
              rw [hm] at ho
              rw [HU.out]
              exact U8.utf_bad hne ho
            clear HI HE HK HU
            go_wp2
            go_ret
            exact ⟨by rw [HB.out]; rfl, rfl⟩
          have q2' : ¬ (1114111 : Int) < (v : Int) := by omega
          by_cases q3 : 55296 ≤ v
          · have q3' : (55296 : Int) ≤ (v : Int) := by omega
            by_cases q4 : v ≤ 57343
            · have q4' : (v : Int) ≤ 57343 := by omega
              have HB : Hid (U8.utf t.data.toList = false) := by
                show _ = _
                have hm : U8.may 128 v = false := by simp [U8.may]; omega
                have ho := U8.one_may hla HK.out HE.out
                rw [hm] at ho
                rw [HU.out]
                exact U8.utf_bad hne ho
              clear HI HE HK HU
              go_wp2
              go_ret
              exact ⟨by rw [HB.out]; rfl, rfl⟩
            have q4' : ¬ (v : Int) ≤ 57343 := by omega
            have HG : Hid (U8.utf t.data.toList = U8.utf (t.data.toList.drop (a + 2)) ∧ a + 2 ≤ t.size) := by
              have hm : U8.may 128 v = true := by simp [U8.may]; omega
              have ho := U8.one_may hla HK.out HE.out
              rw [hm, if_pos rfl] at ho
              have hlen := (U8.one_len ho).2
              rw [List.length_drop, hll] at hlen
              refine ⟨?_, by omega⟩
              rw [HU.out, U8.utf_step ho, List.drop_drop]
            clear HI HE HK HU
            go_wp2
            go_round
            case rel => exact ⟨a + 2, HG.out.2, by go_num, HG.out.1⟩
            case measure => simp [intOf]; omega
          have q3' : ¬ (55296 : Int) ≤ (v : Int) := by omega
          have HG : Hid (U8.utf t.data.toList = U8.utf (t.data.toList.drop (a + 2)) ∧ a + 2 ≤ t.size) := by
            have hm : U8.may 128 v = true := by simp [U8.may]; omega
            have ho := U8.one_may hla HK.out HE.out
            rw [hm, if_pos rfl] at ho
            have hlen := (U8.one_len ho).2
            rw [List.length_drop, hll] at hlen
            refine ⟨?_, by omega⟩
            rw [HU.out, U8.utf_step ho, List.drop_drop]
          clear HI HE HK HU
          go_wp2
          go_round
          case rel => exact ⟨a + 2, HG.out.2, by go_num, HG.out.1⟩
          case measure => simp [intOf]; omega
      by_cases k3 : 224 ≤ t[a].toNat ∧ t[a].toNat < 240
      · obtain ⟨k3a, k3b⟩ := k3
        have k2a' : (192 : Int) ≤ (t[a].toNat : Int) := by omega
        have k2b' : ¬ (t[a].toNat : Int) < 224 := by omega
        have k3a' : (224 : Int) ≤ (t[a].toNat : Int) := by omega
        have k3b' : (t[a].toNat : Int) < 240 := by omega
        have HK : Hid (U8.kind t.data.toList[a].toNat = some (3, t[a].toNat - 224, 2048)) := by
          show _ = _
          rw [text_get t a hlt]
          unfold U8.kind
          rw [if_neg (by omega), if_neg (by omega), if_pos (by omega)]
        have hsub : ((t[a].toNat : Int) - 224) = ((t[a].toNat - 224 : Nat) : Int) := by omega
        have HI0 := Lib.hid (U8.in_start t.data.toList a 3 (t[a].toNat - 224) (by omega))
        go_wp2
        go_loop [4, 7] (fun v4 v7 => ∃ i v : Nat, 1 ≤ i ∧ i ≤ 3 ∧ v4 = .int .i64 v ∧ v7 = .int .i64 i ∧ Hid (U8.Inner t.data.toList a 3 (t[a].toNat - 224) i v)) (fun _ v7 => 3 - (intOf v7).toNat)
        case atStart => exact ⟨1, t[a].toNat - 224, by omega, by omega, by go_num, rfl, HI0.out⟩
        case round =>
          obtain ⟨i, v, hi1, hin, rfl, rfl, HI⟩ := hrel
          clear HI0
          by_cases hi : i < 3
          · have hi' : (i : Int) < 3 := by omega
            have hv3 := HI.out.2.2.2.1 (by omega)
            by_cases hs : t.size ≤ a + i
            · have hs' : (t.size : Int) ≤ (a : Int) + (i : Int) := by omega
              have HB : Hid (U8.utf t.data.toList = false) := by
                show _ = _
                rw [HU.out]
                exact U8.utf_bad hne (U8.one_none hla HK.out (U8.in_short HI.out hi (by omega)))
              clear HI HK HU
              go_wp2
              go_ret
              exact ⟨by rw [HB.out]; rfl, rfl⟩
            have hs' : ¬ (t.size : Int) ≤ (a : Int) + (i : Int) := by omega
            have hs2 : a + i < t.size := by omega
            have hs3 : (a : Int) + (i : Int) < (t.size : Int) := by omega
            have hte := text_get t (a + i) hs2
            by_cases hb : 128 ≤ t[a + i].toNat ∧ t[a + i].toNat < 192
            · have HN := Lib.hid (U8.in_next HI.out hi1 hi (by omega) (by omega) (by rw [hte]; exact hb))
              rw [hte] at HN
              obtain ⟨hb1, hb2⟩ := hb
              have hb1' : ¬ (t[a + i].toNat : Int) < 128 := by omega
              have hb2' : ¬ (192 : Int) ≤ (t[a + i].toNat : Int) := by omega
              clear HI HK HU hte
              go_wp2
              go_round
              case rel => exact ⟨i + 1, _, by omega, by omega, by go_num, by go_num, HN⟩
              case measure => simp [intOf]; omega
            · have HB : Hid (U8.utf t.data.toList = false) := by
                show _ = _
                rw [HU.out]
                exact U8.utf_bad hne (U8.one_none hla HK.out (U8.in_bad HI.out hi (by omega) (by rw [hte]; exact hb)))
              clear HI HK HU hte
              by_cases hb1 : t[a + i].toNat < 128
              · have hb1' : (t[a + i].toNat : Int) < 128 := by omega
                go_wp2
                go_ret
                exact ⟨by rw [HB.out]; rfl, rfl⟩
              · have hb1' : ¬ (t[a + i].toNat : Int) < 128 := by omega
                have hb2' : (192 : Int) ≤ (t[a + i].toNat : Int) := by omega
                go_wp2
                go_ret
                exact ⟨by rw [HB.out]; rfl, rfl⟩
          have hii : i = 3 := by omega
          subst hii
          have HE := Lib.hid (U8.in_end HI.out)
          have hv5 := HI.out.2.2.2.2
          by_cases q1 : v < 2048
          · have q1' : (v : Int) < 2048 := by omega
            have HB : Hid (U8.utf t.data.toList = false) := by
              show _ = _
              have hm : U8.may 2048 v = false := by simp [U8.may]; omega
              have ho := U8.one_may hla HK.out HE.out
              rw [hm] at ho
              rw [HU.out]
              exact U8.utf_bad hne ho
            clear HI HE HK HU
            go_wp2
            go_ret
            exact ⟨by rw [HB.out]; rfl, rfl⟩
          have q1' : ¬ (v : Int) < 2048 := by omega
          by_cases q2 : 1114111 < v
          · have q2' : (1114111 : Int) < (v : Int) := by omega
            have HB : Hid (U8.utf t.data.toList = false) := by
              show _ = _
              have hm : U8.may 2048 v = false := by simp [U8.may]; omega
              have ho := U8.one_may hla HK.out HE.out
              rw [hm] at ho
              rw [HU.out]
              exact U8.utf_bad hne ho
            clear HI HE HK HU
            go_wp2
            go_ret
            exact ⟨by rw [HB.out]; rfl, rfl⟩
          have q2' : ¬ (1114111 : Int) < (v : Int) := by omega
          by_cases q3 : 55296 ≤ v
          · have q3' : (55296 : Int) ≤ (v : Int) := by omega
            by_cases q4 : v ≤ 57343
            · have q4' : (v : Int) ≤ 57343 := by omega
              have HB : Hid (U8.utf t.data.toList = false) := by
                show _ = _
                have hm : U8.may 2048 v = false := by simp [U8.may]; omega
                have ho := U8.one_may hla HK.out HE.out
                rw [hm] at ho
                rw [HU.out]
                exact U8.utf_bad hne ho
              clear HI HE HK HU
              go_wp2
              go_ret
              exact ⟨by rw [HB.out]; rfl, rfl⟩
            have q4' : ¬ (v : Int) ≤ 57343 := by omega
            have HG : Hid (U8.utf t.data.toList = U8.utf (t.data.toList.drop (a + 3)) ∧ a + 3 ≤ t.size) := by
              have hm : U8.may 2048 v = true := by simp [U8.may]; omega
              have ho := U8.one_may hla HK.out HE.out
              rw [hm, if_pos rfl] at ho
              have hlen := (U8.one_len ho).2
              rw [List.length_drop, hll] at hlen
              refine ⟨?_, by omega⟩
              rw [HU.out, U8.utf_step ho, List.drop_drop]
            clear HI HE HK HU
            go_wp2
            go_round
            case rel => exact ⟨a + 3, HG.out.2, by go_num, HG.out.1⟩
            case measure => simp [intOf]; omega
          have q3' : ¬ (55296 : Int) ≤ (v : Int) := by omega
          have HG : Hid (U8.utf t.data.toList = U8.utf (t.data.toList.drop (a + 3)) ∧ a + 3 ≤ t.size) := by
            have hm : U8.may 2048 v = true := by simp [U8.may]; omega
            have ho := U8.one_may hla HK.out HE.out
            rw [hm, if_pos rfl] at ho
            have hlen := (U8.one_len ho).2
            rw [List.length_drop, hll] at hlen
            refine ⟨?_, by omega⟩
            rw [HU.out, U8.utf_step ho, List.drop_drop]
          clear HI HE HK HU
          go_wp2
          go_round
          case rel => exact ⟨a + 3, HG.out.2, by go_num, HG.out.1⟩
          case measure => simp [intOf]; omega
      by_cases k4 : 240 ≤ t[a].toNat ∧ t[a].toNat < 248
      · obtain ⟨k4a, k4b⟩ := k4
        have k2a' : (192 : Int) ≤ (t[a].toNat : Int) := by omega
        have k2b' : ¬ (t[a].toNat : Int) < 224 := by omega
        have k3a' : (224 : Int) ≤ (t[a].toNat : Int) := by omega
        have k3b' : ¬ (t[a].toNat : Int) < 240 := by omega
        have k4a' : (240 : Int) ≤ (t[a].toNat : Int) := by omega
        have k4b' : (t[a].toNat : Int) < 248 := by omega
        have HK : Hid (U8.kind t.data.toList[a].toNat = some (4, t[a].toNat - 240, 65536)) := by
          show _ = _
          rw [text_get t a hlt]
          unfold U8.kind
          rw [if_neg (by omega), if_neg (by omega), if_neg (by omega), if_pos (by omega)]
        have hsub : ((t[a].toNat : Int) - 240) = ((t[a].toNat - 240 : Nat) : Int) := by omega
        have HI0 := Lib.hid (U8.in_start t.data.toList a 4 (t[a].toNat - 240) (by omega))
        go_wp2
        go_loop [4, 7] (fun v4 v7 => ∃ i v : Nat, 1 ≤ i ∧ i ≤ 4 ∧ v4 = .int .i64 v ∧ v7 = .int .i64 i ∧ Hid (U8.Inner t.data.toList a 4 (t[a].toNat - 240) i v)) (fun _ v7 => 4 - (intOf v7).toNat)
        case atStart => exact ⟨1, t[a].toNat - 240, by omega, by omega, by go_num, rfl, HI0.out⟩
        case round =>
          obtain ⟨i, v, hi1, hin, rfl, rfl, HI⟩ := hrel
          clear HI0
          by_cases hi : i < 4
          · have hi' : (i : Int) < 4 := by omega
            have hv3 := HI.out.2.2.2.1 (by omega)
            by_cases hs : t.size ≤ a + i
            · have hs' : (t.size : Int) ≤ (a : Int) + (i : Int) := by omega
              have HB : Hid (U8.utf t.data.toList = false) := by
                show _ = _
                rw [HU.out]
                exact U8.utf_bad hne (U8.one_none hla HK.out (U8.in_short HI.out hi (by omega)))
              clear HI HK HU
              go_wp2
              go_ret
              exact ⟨by rw [HB.out]; rfl, rfl⟩
            have hs' : ¬ (t.size : Int) ≤ (a : Int) + (i : Int) := by omega
            have hs2 : a + i < t.size := by omega
            have hs3 : (a : Int) + (i : Int) < (t.size : Int) := by omega
            have hte := text_get t (a + i) hs2
            by_cases hb : 128 ≤ t[a + i].toNat ∧ t[a + i].toNat < 192
            · have HN := Lib.hid (U8.in_next HI.out hi1 hi (by omega) (by omega) (by rw [hte]; exact hb))
              rw [hte] at HN
              obtain ⟨hb1, hb2⟩ := hb
              have hb1' : ¬ (t[a + i].toNat : Int) < 128 := by omega
              have hb2' : ¬ (192 : Int) ≤ (t[a + i].toNat : Int) := by omega
              clear HI HK HU hte
              go_wp2
              go_round
              case rel => exact ⟨i + 1, _, by omega, by omega, by go_num, by go_num, HN⟩
              case measure => simp [intOf]; omega
            · have HB : Hid (U8.utf t.data.toList = false) := by
                show _ = _
                rw [HU.out]
                exact U8.utf_bad hne (U8.one_none hla HK.out (U8.in_bad HI.out hi (by omega) (by rw [hte]; exact hb)))
              clear HI HK HU hte
              by_cases hb1 : t[a + i].toNat < 128
              · have hb1' : (t[a + i].toNat : Int) < 128 := by omega
                go_wp2
                go_ret
                exact ⟨by rw [HB.out]; rfl, rfl⟩
              · have hb1' : ¬ (t[a + i].toNat : Int) < 128 := by omega
                have hb2' : (192 : Int) ≤ (t[a + i].toNat : Int) := by omega
                go_wp2
                go_ret
                exact ⟨by rw [HB.out]; rfl, rfl⟩
          have hii : i = 4 := by omega
          subst hii
          have HE := Lib.hid (U8.in_end HI.out)
          have hv5 := HI.out.2.2.2.2
          by_cases q1 : v < 65536
          · have q1' : (v : Int) < 65536 := by omega
            have HB : Hid (U8.utf t.data.toList = false) := by
              show _ = _
              have hm : U8.may 65536 v = false := by simp [U8.may]; omega
              have ho := U8.one_may hla HK.out HE.out
              rw [hm] at ho
              rw [HU.out]
              exact U8.utf_bad hne ho
            clear HI HE HK HU
            go_wp2
            go_ret
            exact ⟨by rw [HB.out]; rfl, rfl⟩
          have q1' : ¬ (v : Int) < 65536 := by omega
          by_cases q2 : 1114111 < v
          · have q2' : (1114111 : Int) < (v : Int) := by omega
            have HB : Hid (U8.utf t.data.toList = false) := by
              show _ = _
              have hm : U8.may 65536 v = false := by simp [U8.may]; omega
              have ho := U8.one_may hla HK.out HE.out
              rw [hm] at ho
              rw [HU.out]
              exact U8.utf_bad hne ho
            clear HI HE HK HU
            go_wp2
            go_ret
            exact ⟨by rw [HB.out]; rfl, rfl⟩
          have q2' : ¬ (1114111 : Int) < (v : Int) := by omega
          by_cases q3 : 55296 ≤ v
          · have q3' : (55296 : Int) ≤ (v : Int) := by omega
            by_cases q4 : v ≤ 57343
            · have q4' : (v : Int) ≤ 57343 := by omega
              have HB : Hid (U8.utf t.data.toList = false) := by
                show _ = _
                have hm : U8.may 65536 v = false := by simp [U8.may]; omega
                have ho := U8.one_may hla HK.out HE.out
                rw [hm] at ho
                rw [HU.out]
                exact U8.utf_bad hne ho
              clear HI HE HK HU
              go_wp2
              go_ret
              exact ⟨by rw [HB.out]; rfl, rfl⟩
            have q4' : ¬ (v : Int) ≤ 57343 := by omega
            have HG : Hid (U8.utf t.data.toList = U8.utf (t.data.toList.drop (a + 4)) ∧ a + 4 ≤ t.size) := by
              have hm : U8.may 65536 v = true := by simp [U8.may]; omega
              have ho := U8.one_may hla HK.out HE.out
              rw [hm, if_pos rfl] at ho
              have hlen := (U8.one_len ho).2
              rw [List.length_drop, hll] at hlen
              refine ⟨?_, by omega⟩
              rw [HU.out, U8.utf_step ho, List.drop_drop]
            clear HI HE HK HU
            go_wp2
            go_round
            case rel => exact ⟨a + 4, HG.out.2, by go_num, HG.out.1⟩
            case measure => simp [intOf]; omega
          have q3' : ¬ (55296 : Int) ≤ (v : Int) := by omega
          have HG : Hid (U8.utf t.data.toList = U8.utf (t.data.toList.drop (a + 4)) ∧ a + 4 ≤ t.size) := by
            have hm : U8.may 65536 v = true := by simp [U8.may]; omega
            have ho := U8.one_may hla HK.out HE.out
            rw [hm, if_pos rfl] at ho
            have hlen := (U8.one_len ho).2
            rw [List.length_drop, hll] at hlen
            refine ⟨?_, by omega⟩
            rw [HU.out, U8.utf_step ho, List.drop_drop]
          clear HI HE HK HU
          go_wp2
          go_round
          case rel => exact ⟨a + 4, HG.out.2, by go_num, HG.out.1⟩
          case measure => simp [intOf]; omega
      have HB : Hid (U8.utf t.data.toList = false) := by
        show _ = _
        rw [HU.out]
        refine U8.utf_bad hne (U8.one_kind hla ?_)
        rw [text_get t a hlt]
        unfold U8.kind
        rw [if_neg (by omega), if_neg (by omega), if_neg (by omega), if_neg (by omega)]
      clear HU
      by_cases k5 : t[a].toNat < 192
      · have k5' : ¬ (192 : Int) ≤ (t[a].toNat : Int) := by omega
        have k6' : ¬ (224 : Int) ≤ (t[a].toNat : Int) := by omega
        have k7' : ¬ (240 : Int) ≤ (t[a].toNat : Int) := by omega
        go_wp2
        go_ret
        exact ⟨by rw [HB.out]; rfl, rfl⟩
      have m1 : (192 : Int) ≤ (t[a].toNat : Int) := by omega
      have m2 : ¬ (t[a].toNat : Int) < 224 := by omega
      have m3 : (224 : Int) ≤ (t[a].toNat : Int) := by omega
      have m4 : ¬ (t[a].toNat : Int) < 240 := by omega
      have m5 : (240 : Int) ≤ (t[a].toNat : Int) := by omega
      have m6 : ¬ (t[a].toNat : Int) < 248 := by omega
      go_wp2
      go_ret
      exact ⟨by rw [HB.out]; rfl, rfl⟩
    · have hii : a = t.size := by omega
      subst hii
      go_wp2
      go_ret
      refine ⟨?_, rfl⟩
      rw [HU.out, List.drop_eq_nil_of_le (by simp)]
      rfl
end Go.Proofs.YtnlhpndjogjejaaGreatDoor

/- The document's own(v). -/
namespace Go.Proofs.YtnlhpndjogjejaaGreatDoor
open Go.RowKit

end Go.Proofs.YtnlhpndjogjejaaGreatDoor

/- The document's at(v, depth), Check. -/
namespace Go.Proofs.YtnlhpndjogjejaaGreatDoor
open Go.RowKit

/-- a text is right -/
def utfT (t : ByteArray) : Bool := U8.utf t.data.toList
/-- P6.1, at a depth -/
def chk (d : Nat) (x : V) : Nat := V.check utfT d x
def chkL (d : Nat) (xs : List V) : Nat := V.checkL utfT d xs

theorem chk_mk (d : Nat) (k i : Int) (b : Nat) (t : ByteArray) (xs : List V) : chk d (.mk k i b t xs) = if 4 < d then 62 else if V.ownB k i b t xs.length = false then 60 else if 1024 < t.size then 2 else if 256 < xs.length then 3 else if k = 4 ∧ utfT t = false then 61 else chkL (d + 1) xs := by
  unfold chk chkL
  rw [V.check_mk]
  rfl
theorem chkL_all (d : Nat) : ∀ xs : List V, (∀ j (h : j < xs.length), chk d xs[j] = 0) → chkL d xs = 0
  | [], _ => by unfold chkL; rw [V.checkL_nil]
  | x :: r, h => by
    have h0 := h 0 (by simp)
    have hr := chkL_all d r (fun j hj => h (j + 1) (by simpa using hj))
    unfold chk at h0
    unfold chkL at hr ⊢
    simp only [List.getElem_cons_zero] at h0
    rw [V.checkL_cons, if_pos h0, hr]
theorem chkL_at (d : Nat) : ∀ (xs : List V) (j : Nat) (hj : j < xs.length), (∀ m (h : m < xs.length), m < j → chk d xs[m] = 0) → chk d xs[j] ≠ 0 → chkL d xs = chk d xs[j]
  | x :: r, 0, _, _, hn => by
    unfold chk at hn
    unfold chkL chk
    simp only [List.getElem_cons_zero] at hn ⊢
    rw [V.checkL_cons, if_neg hn]
  | x :: r, j + 1, hj, h, hn => by
    have h0 := h 0 (by simp) (by omega)
    have hr := chkL_at d r j (by simpa using hj) (fun m hm hmj => by have := h (m + 1) (by simpa using hm) (by omega); simpa using this) (by simpa using hn)
    unfold chk at h0
    unfold chkL at hr ⊢
    simp only [List.getElem_cons_zero] at h0
    rw [V.checkL_cons, if_pos h0, hr]
    rfl

end Go.Proofs.YtnlhpndjogjejaaGreatDoor

/- Plain: being the same is being fixed to one value; fixing changes nothing that is checked (P6.5). -/
namespace Go.Proofs.YtnlhpndjogjejaaGreatDoor

theorem fixB_idem (b : Nat) : fixB (fixB b) = fixB b := by
  unfold fixB
  by_cases h : nanB b = true
  · rw [if_pos h]
    kernel_rfl
  · rw [if_neg h, if_neg h]

theorem map_eq_of {xs : List V} {f g : V → V} (h : ∀ x ∈ xs, f x = g x) : xs.map f = xs.map g := List.map_congr_left h

theorem fix_idem : ∀ x : V, V.fix (V.fix x) = V.fix x := by
  intro x
  refine V.ind (P := fun x => V.fix (V.fix x) = V.fix x) ?_ x
  intro k i b t xs ih
  rw [V.fix_mk, V.fix_mk, fixB_idem, V.fixL_eq, V.fixL_eq, List.map_map]
  congr 1
  exact map_eq_of ih

theorem same_iff : ∀ x y : V, V.same x y = true ↔ V.fix x = V.fix y := by
  intro x
  refine V.ind (P := fun x => ∀ y, V.same x y = true ↔ V.fix x = V.fix y) ?_ x
  intro k i b t xs ih y
  have hL : ∀ (xs ys : List V), (∀ x ∈ xs, ∀ y, V.same x y = true ↔ V.fix x = V.fix y) → (V.sameL xs ys = true ↔ xs.map V.fix = ys.map V.fix) := by
    intro xs
    induction xs with
    | nil => intro ys _; cases ys <;> simp [V.sameL_nil, V.sameL_nc]
    | cons x r ihr =>
      intro ys hx
      cases ys with
      | nil => simp [V.sameL_cn]
      | cons y s =>
        simp only [V.sameL_cons, Bool.and_eq_true, List.map_cons, List.cons.injEq]
        rw [hx x (by simp) y, ihr s (fun z hz => hx z (by simp [hz]))]
  obtain ⟨k', i', b', t', ys⟩ := y
  rw [V.same_mk, V.fix_mk, V.fix_mk, V.fixL_eq, V.fixL_eq]
  simp only [Bool.and_eq_true, beq_iff_eq, decide_eq_true_eq, V.mk.injEq]
  rw [hL xs ys ih]
  constructor
  · rintro ⟨⟨⟨⟨h1, h2⟩, h3⟩, h4⟩, h5⟩; exact ⟨h1, h2, h4, h3, h5⟩
  · rintro ⟨h1, h2, h3, h4, h5⟩; exact ⟨⟨⟨⟨h1, h2⟩, h4⟩, h3⟩, h5⟩

theorem chk_fix : ∀ (x : V) (d : Nat), chk d (V.fix x) = chk d x := by
  intro x
  refine V.ind (P := fun x => ∀ d, chk d (V.fix x) = chk d x) ?_ x
  intro k i b t xs ih d
  have hL : ∀ (xs : List V), (∀ x ∈ xs, ∀ d, chk d (V.fix x) = chk d x) → chkL (d + 1) (V.fixL xs) = chkL (d + 1) xs := by
    intro xs
    induction xs with
    | nil => intro _; rfl
    | cons x r ihr =>
      intro hx
      have h1 := hx x (by simp) (d + 1)
      have h2 := ihr (fun z hz => hx z (by simp [hz]))
      unfold chkL at h2 ⊢
      unfold chk at h1
      rw [V.fixL_eq] at h2 ⊢
      rw [List.map_cons, V.checkL_cons, V.checkL_cons, h1, h2]
  have ho : V.ownB k i (fixB b) t xs.length = V.ownB k i b t xs.length := by unfold V.ownB; rw [fixB_idem]
  have hlen : (V.fixL xs).length = xs.length := by rw [V.fixL_eq, List.length_map]
  rw [V.fix_mk, chk_mk, chk_mk, hL xs ih, hlen, ho]

theorem same_fixed (x : V) : V.same (V.fix x) x = true := (same_iff _ _).2 (fix_idem x)
theorem same_self (x : V) : V.same x x = true := (same_iff _ _).2 rfl
theorem bool_of_iff {a b : Bool} (h : a = true ↔ b = true) : a = b := by cases a <;> cases b <;> simp_all
theorem same_swap (x y : V) : V.same y x = V.same x y := bool_of_iff (by rw [same_iff, same_iff]; exact ⟨Eq.symm, Eq.symm⟩)
theorem same_on {x y : V} (h : V.same x y = true) (z : V) : V.same y z = V.same x z := bool_of_iff (by rw [same_iff, same_iff, (same_iff x y).1 h])
theorem same_chk {x y : V} (h : V.same x y = true) (d : Nat) : chk d x = chk d y := by rw [← chk_fix x, ← chk_fix y, (same_iff x y).1 h]
theorem same_exact {x y : V} (h : V.same x y = true) : V.exact (V.fix x) (V.fix y) = true := (V.exact_iff _ _).2 ((same_iff x y).1 h)
theorem fix_exact (x : V) : V.exact (V.fix (V.fix x)) (V.fix x) = true := (V.exact_iff _ _).2 (fix_idem x)
end Go.Proofs.YtnlhpndjogjejaaGreatDoor

/- Plain: schemas, their bytes and how they are read; what the document says of them. -/
namespace Go.Proofs.YtnlhpndjogjejaaGreatDoor

/-- a value whose numbers fit -/
def V.wf (v : V) : Prop := match v with
  | .mk k i b t xs => (-9223372036854775808 ≤ k ∧ k ≤ 9223372036854775807) ∧ (-9223372036854775808 ≤ i ∧ i ≤ 9223372036854775807) ∧ b < 18446744073709551616 ∧ t.size ≤ 140737488351232 ∧ ∀ p ∈ xs.map V.wf, p
theorem V.wf_mk {k i : Int} {b : Nat} {t : ByteArray} {xs : List V} : V.wf (.mk k i b t xs) ↔ (-9223372036854775808 ≤ k ∧ k ≤ 9223372036854775807) ∧ (-9223372036854775808 ≤ i ∧ i ≤ 9223372036854775807) ∧ b < 18446744073709551616 ∧ t.size ≤ 140737488351232 ∧ ∀ x ∈ xs, V.wf x := by
  rw [V.wf]
  simp only [List.mem_map, forall_exists_index, and_imp, forall_apply_eq_imp_iff₂]
/-- a type whose numbers fit -/
def Ty.wf (v : Ty) : Prop := match v with
  | .mk k xs => (-9223372036854775808 ≤ k ∧ k ≤ 9223372036854775807) ∧ ∀ p ∈ xs.map Ty.wf, p
theorem Ty.wf_mk {k : Int} {xs : List Ty} : Ty.wf (.mk k xs) ↔ (-9223372036854775808 ≤ k ∧ k ≤ 9223372036854775807) ∧ ∀ x ∈ xs, Ty.wf x := by
  rw [Ty.wf]
  simp only [List.mem_map, forall_exists_index, and_imp, forall_apply_eq_imp_iff₂]

/-- the zero value -/
def V0 : V := .mk 0 0 0 ⟨#[]⟩ []
/-- a column -/
structure Col where
  name : ByteArray
  ty : Ty
  has : Bool
  dflt : V
def Col.wf (c : Col) : Prop := c.name.size ≤ 140737488351232 ∧ c.ty.wf ∧ c.dflt.wf
def Col.fix (c : Col) : Col := ⟨c.name, c.ty, c.has, V.fix c.dflt⟩

namespace Sch
/-- a sign that a name may have -/
def low (c : UInt8) : Bool := decide (97 ≤ c.toNat ∧ c.toNat ≤ 122)
def ch (c : UInt8) : Bool := low c || decide (48 ≤ c.toNat ∧ c.toNat ≤ 57) || decide (c.toNat = 95)
/-- P7.2 -/
def nameL (l : List UInt8) : Bool := decide (1 ≤ l.length ∧ l.length ≤ 16) && low (l.headD 0) && l.all ch
def name (t : ByteArray) : Bool := nameL t.data.toList

/-- what a type is of -/
def inner (t : Ty) : Ty := t.of.headD ⟨0, []⟩
/-- a value is of a type -/
def of (v : V) : Ty → Bool := match v with
  | .mk k _ _ _ xs => fun t => k == t.kind && (xs.map of).all (fun f => f (inner t))
theorem of_mk (k i : Int) (b : Nat) (s : ByteArray) (xs : List V) (t : Ty) : of (.mk k i b s xs) t = (k == t.kind && xs.all (fun x => of x (inner t))) := by
  rw [of]
  simp [List.all_map, Function.comp_def]
/-- P7.5 -/
def is (v : V) (t : Ty) : Bool := decide (Ty.check 1 t = 0) && decide (chk 1 v = 0) && of v t

/-- P7.3, of a column behind others -/
def colErr (l : List Col) (c : Col) : Nat :=
  if name c.name = false then 70 else if l.any (fun x => decide (x.name = c.name)) then 71 else if Ty.check 1 c.ty ≠ 0 then Ty.check 1 c.ty
  else if c.has = false then (if V.same c.dflt V0 then 0 else 80) else if chk 1 c.dflt ≠ 0 then chk 1 c.dflt else if is c.dflt c.ty then 0 else 80
def colsErr : List Col → List Col → Nat
  | _, [] => 0
  | l, c :: r => if colErr l c = 0 then colsErr (l ++ [c]) r else colErr l c

/-- a type's bytes -/
def tyB (t : Ty) : List UInt8 := match t with
  | .mk k xs => UInt8.ofNat k.toNat :: (if k = 6 ∨ k = 7 then (xs.map tyB).headD [] else [])
theorem tyB_mk (k : Int) (xs : List Ty) : tyB (.mk k xs) = UInt8.ofNat k.toNat :: (if k = 6 ∨ k = 7 then (xs.map tyB).headD [] else []) := by rw [tyB]
/-- so many bytes, the lowest first -/
def le : Nat → Nat → List UInt8
  | 0, _ => []
  | k + 1, n => UInt8.ofNat (n % 256) :: le k (n / 256)
def un : List UInt8 → Nat
  | [] => 0
  | c :: r => un r * 256 + c.toNat
/-- a value's bytes -/
def vB (v : V) : List UInt8 := match v with
  | .mk k i b t xs => (if k = 1 then [UInt8.ofNat i.toNat] else if k = 2 then Leb.put (Leb.zig i) else if k = 3 then le 8 (fixB b) else if k = 4 ∨ k = 5 then Leb.put t.size ++ t.data.toList
    else if k = 6 then [if 0 < xs.length then 1 else 0] else if k = 7 then Leb.put xs.length else []) ++ (if k = 1 ∨ k = 2 ∨ k = 3 ∨ k = 4 ∨ k = 5 then [] else (xs.map vB).flatten)
/-- a value's first bytes, its items not told -/
def vH (k i : Int) (b : Nat) (t : ByteArray) (n : Nat) : List UInt8 :=
  if k = 1 then [UInt8.ofNat i.toNat] else if k = 2 then Leb.put (Leb.zig i) else if k = 3 then le 8 (fixB b) else if k = 4 ∨ k = 5 then Leb.put t.size ++ t.data.toList else if k = 6 then [if 0 < n then 1 else 0] else if k = 7 then Leb.put n else []
theorem vB_mk (k i : Int) (b : Nat) (t : ByteArray) (xs : List V) : vB (.mk k i b t xs) = vH k i b t xs.length ++ (if k = 1 ∨ k = 2 ∨ k = 3 ∨ k = 4 ∨ k = 5 then [] else (xs.map vB).flatten) := by rw [vB, vH]
def cB (c : Col) : List UInt8 := Leb.put c.name.size ++ (c.name.data.toList ++ (tyB c.ty ++ (if c.has then 1 else 0) :: (if c.has then vB c.dflt else [])))
def bytes (s : List Col) : List UInt8 := Leb.put s.length ++ (s.map cB).flatten
/-- P7.3 -/
def err (s : List Col) : Nat := if s.length = 0 then 4 else if 16 < s.length then 3 else if colsErr [] s ≠ 0 then colsErr [] s else if 1024 < (bytes s).length then 2 else 0
/-- P7.4 -/
def colSame (c d : Col) : Bool := decide (c.name = d.name) && (c.has == d.has) && Ty.same c.ty d.ty && V.same c.dflt d.dflt
def same : List Col → List Col → Bool
  | [], [] => true
  | c :: r, d :: s => colSame c d && same r s
  | _, _ => false
/-- P7.8: the place, or how many there are -/
def find (n : ByteArray) : List Col → Nat → Option Nat
  | [], _ => none
  | c :: r, k => if c.name = n then some k else find n r (k + 1)

/-- what is read, and how many bytes it took -/
def bit : List UInt8 → Except Nat (Nat × Nat)
  | [] => .error 30
  | c :: _ => if 1 < c.toNat then .error 5 else .ok (c.toNat, 1)
def num (l : List UInt8) : Except Nat (Nat × Nat) := if (Leb.get l).err = 0 then .ok ((Leb.get l).n, (Leb.get l).k) else .error (Leb.get l).err
def text (most long : Nat) (l : List UInt8) : Except Nat (ByteArray × Nat) := match num l with
  | .error e => .error e
  | .ok (n, k) => if most < n then .error long else if l.length - k < n then .error 30 else .ok (⟨((l.drop k).take n).toArray⟩, k + n)
def float (l : List UInt8) : Except Nat (Nat × Nat) := if l.length < 8 then .error 30 else if fixB (un (l.take 8)) = un (l.take 8) then .ok (un (l.take 8), 8) else .error 5
def scalar (k : Int) (l : List UInt8) : Except Nat (V × Nat) :=
  if k = 1 then match bit l with
    | .error e => .error e
    | .ok (n, j) => .ok (.mk k n 0 ⟨#[]⟩ [], j)
  else if k = 2 then match num l with
    | .error e => .error e
    | .ok (n, j) => .ok (.mk k (Leb.zag n) 0 ⟨#[]⟩ [], j)
  else if k = 3 then match float l with
    | .error e => .error e
    | .ok (n, j) => .ok (.mk k 0 n ⟨#[]⟩ [], j)
  else match text 1024 2 l with
    | .error e => .error e
    | .ok (t, j) => if k = 4 ∧ utfT t = false then .error 61 else .ok (.mk k 0 0 t [], j)
def rdN (f : List UInt8 → Except Nat (V × Nat)) : Nat → List UInt8 → Except Nat (List V × Nat)
  | 0, _ => .ok ([], 0)
  | m + 1, l => match f l with
    | .error e => .error e
    | .ok (v, j) => match rdN f m (l.drop j) with
      | .error e => .error e
      | .ok (vs, j2) => .ok (v :: vs, j + j2)
/-- how many items come -/
def many (k : Int) (l : List UInt8) : Except Nat (Nat × Nat) := if k = 6 then bit l else match num l with
  | .error e => .error e
  | .ok (n, j) => if 256 < n then .error 3 else .ok (n, j)
def rdV (t : Ty) : List UInt8 → Except Nat (V × Nat) := match t with
  | .mk k xs => fun l => if k ≠ 6 ∧ k ≠ 7 then scalar k l else match many k l with
    | .error e => .error e
    | .ok (m, j) => match rdN ((xs.map rdV).headD (fun _ => .error 0)) m (l.drop j) with
      | .error e => .error e
      | .ok (vs, j2) => .ok (.mk k 0 0 ⟨#[]⟩ vs, j + j2)
theorem rdV_mk (k : Int) (xs : List Ty) (l : List UInt8) : rdV (.mk k xs) l = if k ≠ 6 ∧ k ≠ 7 then scalar k l else match many k l with
    | .error e => .error e
    | .ok (m, j) => match rdN ((xs.map rdV).headD (fun _ => .error 0)) m (l.drop j) with
      | .error e => .error e
      | .ok (vs, j2) => .ok (.mk k 0 0 ⟨#[]⟩ vs, j + j2) := by rw [rdV]
def rdT : Nat → List UInt8 → Except Nat (Ty × Nat)
  | 0, _ => .error 62
  | _ + 1, [] => .error 30
  | f + 1, c :: r => if c.toNat < 1 ∨ 7 < c.toNat then .error 60 else if c.toNat ≠ 6 ∧ c.toNat ≠ 7 then .ok (⟨(c.toNat : Int), []⟩, 1) else match rdT f r with
    | .error e => .error e
    | .ok (t, j) => .ok (⟨(c.toNat : Int), [t]⟩, j + 1)
def rdC (l : List Col) (b : List UInt8) : Except Nat (Col × Nat) := match num b with
  | .error e => .error e
  | .ok (n, _) => if n = 0 then .error 70 else match text 16 70 b with
    | .error e => .error e
    | .ok (s, j) => if name s = false then .error 70 else if l.any (fun x => decide (x.name = s)) then .error 71 else match rdT 4 (b.drop j) with
      | .error e => .error e
      | .ok (t, j2) => match bit (b.drop (j + j2)) with
        | .error e => .error e
        | .ok (h, j3) => if h = 0 then .ok (⟨s, t, false, V0⟩, j + j2 + j3) else match rdV t (b.drop (j + j2 + j3)) with
          | .error e => .error e
          | .ok (v, j4) => .ok (⟨s, t, true, v⟩, j + j2 + j3 + j4)
def rdCs : Nat → List Col → List UInt8 → Except Nat (List Col × Nat)
  | 0, l, _ => .ok (l, 0)
  | m + 1, l, b => match rdC l b with
    | .error e => .error e
    | .ok (c, j) => match rdCs m (l ++ [c]) (b.drop j) with
      | .error e => .error e
      | .ok (l2, j2) => .ok (l2, j + j2)
/-- P7.7 -/
def read (b : List UInt8) : Except Nat (List Col) := if 1024 < b.length then .error 2 else match num b with
  | .error e => .error e
  | .ok (n, k) => if n = 0 then .error 4 else if 16 < n then .error 3 else match rdCs n [] (b.drop k) with
    | .error e => .error e
    | .ok (l, j) => if k + j = b.length then .ok l else .error 5
end Sch
end Go.Proofs.YtnlhpndjogjejaaGreatDoor

/- Plain: what is made is read as it was, and what is read has just these bytes. -/
namespace Go.Proofs.YtnlhpndjogjejaaGreatDoor
namespace Sch

theorem le_len : ∀ (k n : Nat), (le k n).length = k
  | 0, _ => rfl
  | k + 1, n => by rw [le, List.length_cons, le_len k]
theorem un_le : ∀ (k n : Nat), n < 256 ^ k → un (le k n) = n
  | 0, n, h => by simp at h; subst h; rfl
  | k + 1, n, h => by
    rw [le, un, un_le k (n / 256) (by rw [Nat.pow_succ] at h; rw [Nat.div_lt_iff_lt_mul (by omega)]; exact h), UInt8.toNat_ofNat']
    omega
theorem le_un : ∀ (l : List UInt8), le l.length (un l) = l
  | [] => rfl
  | c :: r => by
    have hc : c.toNat < 256 := c.toNat_lt
    have h1 : (un r * 256 + c.toNat) % 256 = c.toNat := by omega
    have h2 : (un r * 256 + c.toNat) / 256 = un r := by omega
    rw [List.length_cons, le, un, h1, h2, le_un r]
    congr 1
    apply UInt8.toNat_inj.1
    rw [UInt8.toNat_ofNat']
    omega
theorem un_lt : ∀ (l : List UInt8), un l < 256 ^ l.length
  | [] => by simp [un]
  | c :: r => by
    have hc : c.toNat < 256 := c.toNat_lt
    have := un_lt r
    rw [un, List.length_cons, Nat.pow_succ]
    omega

theorem num_put (n : Nat) (r : List UInt8) (h : n < 18446744073709551616) : num (Leb.put n ++ r) = .ok (n, (Leb.put n).length) := by
  rw [num, Leb.get_put n r h, if_pos rfl]
theorem num_ok {l : List UInt8} {n k : Nat} (h : num l = .ok (n, k)) : n < 18446744073709551616 ∧ ∃ r, l = Leb.put n ++ r ∧ k = (Leb.put n).length := by
  rw [num] at h
  by_cases he : (Leb.get l).err = 0
  · rw [if_pos he] at h
    simp only [Except.ok.injEq, Prod.mk.injEq] at h
    obtain ⟨rfl, rfl⟩ := h
    obtain ⟨h1, h2, h3, _⟩ := Leb.get_ok l he
    refine ⟨h1, l.drop (Leb.get l).k, ?_, ?_⟩
    · rw [← h2, List.take_append_drop]
    · rw [← h2, List.length_take]; omega
  · rw [if_neg he] at h; cases h
theorem bit_put (n : Nat) (r : List UInt8) (h : n ≤ 1) : bit (UInt8.ofNat n :: r) = .ok (n, 1) := by
  have h1 : (UInt8.ofNat n).toNat = n := by rw [UInt8.toNat_ofNat']; omega
  rw [bit, h1, if_neg (by omega)]
theorem bit_ok {l : List UInt8} {n k : Nat} (h : bit l = .ok (n, k)) : n ≤ 1 ∧ k = 1 ∧ ∃ r, l = UInt8.ofNat n :: r := by
  cases l with
  | nil => rw [bit] at h; cases h
  | cons c r =>
    rw [bit] at h
    by_cases hc : 1 < c.toNat
    · rw [if_pos hc] at h; cases h
    · rw [if_neg hc] at h
      simp only [Except.ok.injEq, Prod.mk.injEq] at h
      obtain ⟨rfl, rfl⟩ := h
      exact ⟨by omega, rfl, r, by rw [UInt8.ofNat_toNat]⟩
theorem text_put (most long : Nat) (t : ByteArray) (r : List UInt8) (hm : t.size ≤ most) (h64 : t.size < 18446744073709551616) : text most long (Leb.put t.size ++ (t.data.toList ++ r)) = .ok (t, (Leb.put t.size).length + t.size) := by
  have hs : t.data.toList.length = t.size := by rw [Array.length_toList]; rfl
  rw [text, num_put _ _ h64]
  dsimp only
  rw [if_neg (by omega), if_neg (by rw [List.length_append, List.length_append]; omega), List.drop_left, List.take_append_of_le_length (by omega), List.take_of_length_le (by omega)]
theorem text_ok {most long : Nat} {l : List UInt8} {t : ByteArray} {j : Nat} (h : text most long l = .ok (t, j)) : t.size ≤ most ∧ t.size < 18446744073709551616 ∧ j = (Leb.put t.size).length + t.size ∧ ∃ r, l = Leb.put t.size ++ (t.data.toList ++ r) := by
  rw [text] at h
  split at h
  · cases h
  · next n k hn =>
    obtain ⟨h1, r, rfl, rfl⟩ := num_ok hn
    by_cases hm : most < n
    · rw [if_pos hm] at h; cases h
    rw [if_neg hm] at h
    by_cases hs : (Leb.put n ++ r).length - (Leb.put n).length < n
    · rw [if_pos hs] at h; cases h
    rw [if_neg hs, List.drop_left] at h
    simp only [Except.ok.injEq, Prod.mk.injEq] at h
    obtain ⟨rfl, rfl⟩ := h
    have hl : (r.take n).length = n := by rw [List.length_take]; rw [List.length_append] at hs; omega
    have hsz : (⟨(r.take n).toArray⟩ : ByteArray).size = n := by show (r.take n).toArray.size = n; simpa using hl
    rw [hsz]
    refine ⟨by omega, h1, rfl, r.drop n, ?_⟩
    show Leb.put n ++ r = Leb.put n ++ ((r.take n).toArray.toList ++ r.drop n)
    simp
theorem float_put (b : Nat) (r : List UInt8) (h : fixB b < 18446744073709551616) : float (le 8 (fixB b) ++ r) = .ok (fixB b, 8) := by
  have hl : (le 8 (fixB b)).length = 8 := le_len 8 _
  have ht : (le 8 (fixB b) ++ r).take 8 = le 8 (fixB b) := by rw [List.take_append_of_le_length (by omega), List.take_of_length_le (by omega)]
  have hu : un (le 8 (fixB b)) = fixB b := un_le 8 _ (by simpa using h)
  rw [float, ht, hu, if_neg (by rw [List.length_append]; omega), if_pos (fixB_idem b)]
theorem float_ok {l : List UInt8} {n j : Nat} (h : float l = .ok (n, j)) : n < 18446744073709551616 ∧ fixB n = n ∧ j = 8 ∧ ∃ r, l = le 8 n ++ r := by
  rw [float] at h
  by_cases hl : l.length < 8
  · rw [if_pos hl] at h; cases h
  rw [if_neg hl] at h
  have hl8 : (l.take 8).length = 8 := by rw [List.length_take]; omega
  by_cases hf : fixB (un (l.take 8)) = un (l.take 8)
  · rw [if_pos hf] at h
    simp only [Except.ok.injEq, Prod.mk.injEq] at h
    obtain ⟨rfl, rfl⟩ := h
    have h1 := un_lt (l.take 8)
    rw [hl8] at h1
    have h2 := le_un (l.take 8)
    rw [hl8] at h2
    exact ⟨by simpa using h1, hf, rfl, l.drop 8, by rw [h2, List.take_append_drop]⟩
  · rw [if_neg hf] at h; cases h

theorem fixB_lt {b : Nat} (h : b < 18446744073709551616) : fixB b < 18446744073709551616 := by
  unfold fixB; split <;> omega
theorem empty_of {t : ByteArray} (h : t.toList = []) : t = ⟨#[]⟩ := by
  obtain ⟨d⟩ := t
  rw [ByteArray.toList_eq] at h
  have : d = #[] := by
    apply Array.toList_inj.1
    simpa using h
  rw [this]
theorem empty_toList : (⟨#[]⟩ : ByteArray).toList = [] := by rw [ByteArray.toList_eq]
theorem fixB_zero : fixB 0 = 0 := by kernel_rfl

/-- what a value that may be is like -/
theorem chk_open {d : Nat} {k i : Int} {b : Nat} {t : ByteArray} {xs : List V} (h : chk d (.mk k i b t xs) = 0) : d ≤ 4 ∧ V.ownB k i b t xs.length = true ∧ t.size ≤ 1024 ∧ xs.length ≤ 256 ∧ (k = 4 → utfT t = true) ∧ ∀ x ∈ xs, chk (d + 1) x = 0 := by
  rw [chk_mk] at h
  by_cases h1 : 4 < d
  · rw [if_pos h1] at h; cases h
  rw [if_neg h1] at h
  by_cases h2 : V.ownB k i b t xs.length = false
  · rw [if_pos h2] at h; cases h
  rw [if_neg h2] at h
  by_cases h3 : 1024 < t.size
  · rw [if_pos h3] at h; cases h
  rw [if_neg h3] at h
  by_cases h4 : 256 < xs.length
  · rw [if_pos h4] at h; cases h
  rw [if_neg h4] at h
  by_cases h5 : k = 4 ∧ utfT t = false
  · rw [if_pos h5] at h; cases h
  rw [if_neg h5] at h
  refine ⟨by omega, by simpa using h2, by omega, by omega, fun hk => ?_, ?_⟩
  · cases hu : utfT t
    · exact absurd ⟨hk, hu⟩ h5
    · rfl
  · have key : ∀ (ys : List V), chkL (d + 1) ys = 0 → ∀ x ∈ ys, chk (d + 1) x = 0 := by
      intro ys
      induction ys with
      | nil => intro _ x hx; cases hx
      | cons y r ih =>
        intro hy x hx
        unfold chkL at hy ih
        rw [V.checkL_cons] at hy
        by_cases hy0 : V.check utfT (d + 1) y = 0
        · rw [if_pos hy0] at hy
          rcases List.mem_cons.1 hx with rfl | hx
          · exact hy0
          · exact ih hy x hx
        · rw [if_neg hy0] at hy; exact absurd hy hy0
    exact key xs h
theorem chk_make {d : Nat} {k i : Int} {b : Nat} {t : ByteArray} {xs : List V} (h1 : d ≤ 4) (h2 : V.ownB k i b t xs.length = true) (h3 : t.size ≤ 1024) (h4 : xs.length ≤ 256) (h5 : k = 4 → utfT t = true) (h6 : ∀ x ∈ xs, chk (d + 1) x = 0) : chk d (.mk k i b t xs) = 0 := by
  rw [chk_mk, if_neg (by omega), if_neg (by rw [h2]; decide), if_neg (by omega), if_neg (by omega), if_neg (fun hc => by have := h5 hc.1; rw [hc.2] at this; cases this)]
  exact chkL_all (d + 1) xs (fun j hj => h6 _ (List.getElem_mem hj))
/-- its own fields -/
theorem own_open {k i : Int} {b : Nat} {t : ByteArray} {n : Nat} (h : V.ownB k i b t n = true) : (1 ≤ k ∧ k ≤ 7) ∧ (k = 1 ∨ k = 2 ∨ i = 0) ∧ (k = 3 ∨ fixB b = 0) ∧ (k = 4 ∨ k = 5 ∨ t = ⟨#[]⟩) ∧ (k = 6 ∨ k = 7 ∨ n = 0) ∧ (k = 1 → i = 0 ∨ i = 1) ∧ (k = 6 → n < 2) := by
  simp only [V.ownB, Bool.and_eq_true, Bool.or_eq_true, beq_iff_eq, decide_eq_true_eq, bne_iff_ne, ne_eq] at h
  obtain ⟨⟨⟨⟨⟨⟨h1, h2⟩, h3⟩, h4⟩, h5⟩, h6⟩, h7⟩ := h
  refine ⟨h1, by omega, h3, ?_, by omega, by omega, by omega⟩
  rcases h4 with (h4 | h4) | h4
  · exact .inl h4
  · exact .inr (.inl h4)
  · exact .inr (.inr (empty_of h4))
theorem own_make {k i : Int} {b : Nat} {t : ByteArray} {n : Nat} (h1 : 1 ≤ k ∧ k ≤ 7) (h2 : k = 1 ∨ k = 2 ∨ i = 0) (h3 : k = 3 ∨ fixB b = 0) (h4 : k = 4 ∨ k = 5 ∨ t = ⟨#[]⟩) (h5 : k = 6 ∨ k = 7 ∨ n = 0) (h6 : k = 1 → i = 0 ∨ i = 1) (h7 : k = 6 → n < 2) : V.ownB k i b t n = true := by
  simp only [V.ownB, Bool.and_eq_true, Bool.or_eq_true, beq_iff_eq, decide_eq_true_eq, bne_iff_ne, ne_eq]
  refine ⟨⟨⟨⟨⟨⟨h1, by omega⟩, h3⟩, ?_⟩, by omega⟩, by omega⟩, by omega⟩
  rcases h4 with h4 | h4 | h4
  · exact .inl (.inl h4)
  · exact .inl (.inr h4)
  · exact .inr (by rw [h4]; exact empty_toList)

/-- what a type that may be is like -/
theorem ty_open {d : Nat} {k : Int} {xs : List Ty} (h : Ty.check d (.mk k xs) = 0) : d ≤ 4 ∧ (1 ≤ k ∧ k ≤ 7) ∧ ((¬ (k = 6 ∨ k = 7) ∧ xs = []) ∨ ((k = 6 ∨ k = 7) ∧ ∃ x, xs = [x] ∧ Ty.check (d + 1) x = 0)) := by
  rw [Ty.check_mk] at h
  by_cases h1 : 4 < d
  · rw [if_pos h1] at h; cases h
  rw [if_neg h1] at h
  by_cases h2 : k < 1 ∨ 7 < k ∨ xs.length ≠ Ty.want k
  · rw [if_pos h2] at h; cases h
  rw [if_neg h2] at h
  refine ⟨by omega, by omega, ?_⟩
  have hw : xs.length = Ty.want k := by omega
  unfold Ty.want at hw
  by_cases hk : k = 6 ∨ k = 7
  · rw [if_pos hk] at hw
    obtain ⟨x, rfl⟩ := List.length_eq_one_iff.1 hw
    refine .inr ⟨hk, x, rfl, ?_⟩
    simp only [List.map_cons, List.map_nil, V.first] at h
    by_cases hx : Ty.check (d + 1) x = 0
    · exact hx
    · rw [if_neg hx] at h; exact absurd h hx
  · rw [if_neg hk] at hw
    exact .inl ⟨hk, List.eq_nil_of_length_eq_zero hw⟩
theorem ty_leaf {d : Nat} {k : Int} (hd : d ≤ 4) (hk : 1 ≤ k ∧ k ≤ 7) (h : ¬ (k = 6 ∨ k = 7)) : Ty.check d (.mk k []) = 0 := Ty.check_leaf d k (by omega) (by omega) (by unfold Ty.want; rw [if_neg h])
theorem ty_one {d : Nat} {k : Int} {x : Ty} (hd : d ≤ 4) (h : k = 6 ∨ k = 7) (hx : Ty.check (d + 1) x = 0) : Ty.check d (.mk k [x]) = 0 := by
  rw [Ty.check_one d k x (by omega) (by omega) (by unfold Ty.want; rw [if_pos h]), hx]

theorem scalar_put {d : Nat} {k i : Int} {b : Nat} {t : ByteArray} (r : List UInt8) (hk : ¬ (k = 6 ∨ k = 7)) (h : chk d (.mk k i b t []) = 0) (hw : V.wf (.mk k i b t [])) : scalar k (vH k i b t 0 ++ r) = .ok (.mk k i (fixB b) t [], (vH k i b t 0).length) := by
  obtain ⟨-, ho, ht, -, hu, -⟩ := chk_open h
  obtain ⟨o1, o2, o3, o4, -, o6, -⟩ := own_open ho
  obtain ⟨-, wi, wb, -, -⟩ := V.wf_mk.1 hw
  have hr : ∀ a c : List UInt8, a ++ c ++ r = a ++ (c ++ r) := fun a c => List.append_assoc a c r
  rcases (show k = 1 ∨ k = 2 ∨ k = 3 ∨ (k = 4 ∨ k = 5) by omega) with rfl | rfl | rfl | hk45
  · have e : vH 1 i b t 0 = [UInt8.ofNat i.toNat] := by rw [vH, if_pos rfl]
    have hi : ((i.toNat : Nat) : Int) = i := by omega
    rw [e, scalar, if_pos rfl, List.singleton_append, bit_put i.toNat r (by omega)]
    dsimp only
    rw [hi]
    rcases o3 with o3 | o3
    · cases o3
    rcases o4 with o4 | o4 | o4
    · cases o4
    · cases o4
    rw [o3, o4]
    rfl
  · have e : vH 2 i b t 0 = Leb.put (Leb.zig i) := by rw [vH, if_neg (by decide), if_pos rfl]
    have hz : Leb.zig i < 18446744073709551616 := by unfold Leb.zig; split <;> omega
    rw [e, scalar, if_neg (by decide), if_pos rfl, num_put _ r hz]
    dsimp only
    rw [Leb.zag_zig]
    rcases o3 with o3 | o3
    · cases o3
    rcases o4 with o4 | o4 | o4
    · cases o4
    · cases o4
    rw [o3, o4]
  · have e : vH 3 i b t 0 = le 8 (fixB b) := by rw [vH, if_neg (by decide), if_neg (by decide), if_pos rfl]
    rw [e, scalar, if_neg (by decide), if_neg (by decide), if_pos rfl, float_put b r (fixB_lt wb)]
    dsimp only
    rw [le_len]
    rcases o2 with o2 | o2 | o2
    · cases o2
    · cases o2
    rcases o4 with o4 | o4 | o4
    · cases o4
    · cases o4
    rw [o2, o4]
  · have e : vH k i b t 0 = Leb.put t.size ++ t.data.toList := by rw [vH, if_neg (by omega), if_neg (by omega), if_neg (by omega), if_pos hk45]
    have hs : t.data.toList.length = t.size := by rw [Array.length_toList]; rfl
    rw [e, scalar, if_neg (by omega), if_neg (by omega), if_neg (by omega), hr, text_put 1024 2 t r ht (by omega)]
    dsimp only
    rw [if_neg (fun hc => by have := hu hc.1; rw [hc.2] at this; cases this), List.length_append, hs]
    rcases o3 with o3 | o3
    · omega
    rcases o2 with o2 | o2 | o2
    · omega
    · omega
    rw [o2, o3]

theorem scalar_ok {k : Int} {l : List UInt8} {v : V} {j : Nat} (hk : 1 ≤ k ∧ k ≤ 5) (h : scalar k l = .ok (v, j)) : ∃ i b t, v = .mk k i b t [] ∧ j = (vH k i b t 0).length ∧ (∃ r, l = vH k i b t 0 ++ r) ∧ fixB b = b ∧ V.wf v ∧ ∀ d, d ≤ 4 → chk d v = 0 := by
  rcases (show k = 1 ∨ k = 2 ∨ k = 3 ∨ (k = 4 ∨ k = 5) by omega) with rfl | rfl | rfl | hk45
  · rw [scalar, if_pos rfl] at h
    split at h
    · cases h
    · next n m hn =>
      simp only [Except.ok.injEq, Prod.mk.injEq] at h
      obtain ⟨rfl, rfl⟩ := h
      obtain ⟨h1, rfl, r, rfl⟩ := bit_ok hn
      have e : vH 1 n 0 ⟨#[]⟩ 0 = [UInt8.ofNat n] := by rw [vH, if_pos rfl]; rfl
      exact ⟨n, 0, ⟨#[]⟩, rfl, by rw [e]; rfl, ⟨r, by rw [e]; rfl⟩, fixB_zero, V.wf_mk.2 ⟨by omega, by omega, by omega, Nat.zero_le _, fun x hx => by cases hx⟩,
        fun d hd => chk_make hd (own_make (by omega) (by omega) (.inr fixB_zero) (.inr (.inr rfl)) (.inr (.inr rfl)) (fun _ => by omega) (fun hc => by cases hc)) (Nat.zero_le _) (by simp) (fun hc => by cases hc) (fun x hx => by cases hx)⟩
  · rw [scalar, if_neg (by decide), if_pos rfl] at h
    split at h
    · cases h
    · next n m hn =>
      simp only [Except.ok.injEq, Prod.mk.injEq] at h
      obtain ⟨rfl, rfl⟩ := h
      obtain ⟨h1, r, rfl, rfl⟩ := num_ok hn
      have e : vH 2 (Leb.zag n) 0 ⟨#[]⟩ 0 = Leb.put n := by rw [vH, if_neg (by decide), if_pos rfl, Leb.zig_zag]
      have hz : -9223372036854775808 ≤ Leb.zag n ∧ Leb.zag n ≤ 9223372036854775807 := by unfold Leb.zag; split <;> omega
      exact ⟨Leb.zag n, 0, ⟨#[]⟩, rfl, by rw [e], ⟨r, by rw [e]⟩, fixB_zero, V.wf_mk.2 ⟨by omega, hz, by omega, Nat.zero_le _, fun x hx => by cases hx⟩,
        fun d hd => chk_make hd (own_make (by omega) (by omega) (.inr fixB_zero) (.inr (.inr rfl)) (.inr (.inr rfl)) (fun hc => by cases hc) (fun hc => by cases hc)) (Nat.zero_le _) (by simp) (fun hc => by cases hc) (fun x hx => by cases hx)⟩
  · rw [scalar, if_neg (by decide), if_neg (by decide), if_pos rfl] at h
    split at h
    · cases h
    · next n m hn =>
      simp only [Except.ok.injEq, Prod.mk.injEq] at h
      obtain ⟨rfl, rfl⟩ := h
      obtain ⟨h1, h2, rfl, r, rfl⟩ := float_ok hn
      have e : vH 3 0 n ⟨#[]⟩ 0 = le 8 n := by rw [vH, if_neg (by decide), if_neg (by decide), if_pos rfl, h2]
      exact ⟨0, n, ⟨#[]⟩, rfl, by rw [e, le_len], ⟨r, by rw [e]⟩, h2, V.wf_mk.2 ⟨by omega, by omega, h1, Nat.zero_le _, fun x hx => by cases hx⟩,
        fun d hd => chk_make hd (own_make (by omega) (by omega) (.inl rfl) (.inr (.inr rfl)) (.inr (.inr rfl)) (fun hc => by cases hc) (fun hc => by cases hc)) (Nat.zero_le _) (by simp) (fun hc => by cases hc) (fun x hx => by cases hx)⟩
  · rw [scalar, if_neg (by omega), if_neg (by omega), if_neg (by omega)] at h
    split at h
    · cases h
    · next t m hn =>
      obtain ⟨h1, h2, rfl, r, rfl⟩ := text_ok hn
      by_cases hu : k = 4 ∧ utfT t = false
      · rw [if_pos hu] at h; cases h
      rw [if_neg hu] at h
      simp only [Except.ok.injEq, Prod.mk.injEq] at h
      obtain ⟨rfl, rfl⟩ := h
      have hs : t.data.toList.length = t.size := by rw [Array.length_toList]; rfl
      have e : vH k 0 0 t 0 = Leb.put t.size ++ t.data.toList := by rw [vH, if_neg (by omega), if_neg (by omega), if_neg (by omega), if_pos hk45]
      exact ⟨0, 0, t, rfl, by rw [e, List.length_append, hs], ⟨r, by rw [e, List.append_assoc]⟩, fixB_zero, V.wf_mk.2 ⟨by omega, by omega, by omega, by omega, fun x hx => by cases hx⟩,
        fun d hd => chk_make hd (own_make (by omega) (.inr (.inr rfl)) (.inr fixB_zero) (by omega) (.inr (.inr rfl)) (fun hc => by omega) (fun hc => by omega)) h1 (by simp) (fun hc => by
          cases hq : utfT t
          · exact absurd ⟨hc, hq⟩ hu
          · rfl) (fun x hx => by cases hx)⟩
end Sch
end Go.Proofs.YtnlhpndjogjejaaGreatDoor
