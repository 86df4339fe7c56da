/- RowsC, SL8, WRowL, WPair: put together. -/
import Derived.Test.YticmkgbjannkkaaM16
import Derived.Deep.AppendLies
import Derived.Test.YticmkgbjannkkaaM04

/- What the laws ask of package row's functions. -/
namespace Go.Proofs.Yticmkgbjannkkaa
open Go.RowKit

/-- a row that is handed over: its values lie, as those of a value that holds them -/
def RLies (w : World) (q : Option Addr) (c : Nat) (vs : List V) : Prop := VLies w (cells5 0 0 0 ⟨#[]⟩ q vs.length c) (.mk 0 0 0 ⟨#[]⟩ vs) ∧ ∀ v ∈ vs, v.wf
theorem RLies.on {w w' : World} {q : Option Addr} {c : Nat} {vs : List V} (h : RLies w q c vs) (hb : Below w.heap.size w w') : RLies w' q c vs := ⟨h.1.on hb, h.2⟩
theorem RLies.items {w : World} {q : Option Addr} {c : Nat} {vs : List V} (h : RLies w q c vs) : vs.length * 64 ≤ 140737488351232 ∧ vs.length ≤ c ∧ Items w q vs := by
  obtain ⟨p, c', he, h1, h2, h3⟩ := h.1.open
  unfold cells5 at he
  simp only [Array.mk.injEq, List.cons.injEq, Value.slice.injEq, and_true, true_and] at he
  obtain ⟨rfl, rfl⟩ := he
  exact ⟨h1, h2, h3⟩
/-- a schema that is handed over -/
structure SchL (w : World) (p : Option Addr) (c : Nat) (s : List Col) : Prop where
  len : s.length * 120 ≤ 140737488351232
  cap : s.length ≤ c
  cols : Cols w p s
  wf : ∀ x ∈ s, x.wf
theorem SchL.on {w w' : World} {p : Option Addr} {c : Nat} {s : List Col} (h : SchL w p c s) (hb : Below w.heap.size w w') : SchL w' p c s := ⟨h.len, h.cap, h.cols.on hb, h.wf⟩

/-- bytes that are answered beside an error -/
def Told (w : World) (er : Nat) (l : List UInt8) (e : Ending) (w' : World) : Prop := ∃ q cap, e = .returned (.tuple #[.slice q l.length cap, .int .i64 (er : Nat)]) ∧ At w' q l ∧ l.length ≤ cap ∧ Below w.heap.size w w'
/-- what package row's functions answer, in every world of which I holds -/
structure RowsOk (I : World → Prop) : Prop where
  on : ∀ {w w' : World}, I w → Below w.heap.size w w' → I w'
  check : ∀ (s : List Col) (p : Option Addr) (c : Nat) (vs : List V) (q : Option Addr) (d : Nat) (w : World), SchL w p c s → RLies w q d vs → I w → Calls Try.prog 6 #[.agg #[.slice p s.length c], .agg #[.slice q vs.length d]] w fun e w' => e = .returned (.int .i64 (Rw.err s vs : Nat)) ∧ Below w.heap.size w w'
  encode : ∀ (s : List Col) (p : Option Addr) (c : Nat) (vs : List V) (q : Option Addr) (d : Nat) (w : World), SchL w p c s → RLies w q d vs → I w → Calls Try.prog 5 #[.agg #[.slice p s.length c], .agg #[.slice q vs.length d]] w (Told w (Rw.err s vs) (Rw.out s vs))
  decode : ∀ (s : List Col) (p : Option Addr) (c : Nat) (l : List UInt8) (q : Option Addr) (d : Nat) (a : Int) (w : World), SchL w p c s → l.length ≤ 140737488351232 → l.length ≤ d → At w q l → -9223372036854775808 ≤ a → a ≤ 9223372036854775807 → I w → Calls Try.prog 7 #[.agg #[.slice p s.length c], .slice q l.length d, .int .i64 a] w (RowA w (Rw.read s l a))
  encodeValue : ∀ (y : Ty) (x : V) (u v : Array Value) (w : World), TLies w u y → y.wf → VLies w v x → x.wf → I w → Calls Try.prog 21 #[.agg u, .agg v] w (Told w (Rw.encErr y x) (Rw.encB y x))
end Go.Proofs.Yticmkgbjannkkaa

/- Rows one behind the other; rows that are handed over. -/
namespace Go.Proofs.Yticmkgbjannkkaa
open Go.RowKit

namespace Rw
/-- the rows that may be -/
def goods (s : List Col) (l : List (List V)) : List (List V) := l.filter (fun r => decide (err s r = 0))
/-- rows' bytes, one row behind the other -/
def bytesL : List (List V) → List UInt8
  | [] => []
  | r :: l => bytes r ++ bytesL l
theorem bytesL_append (a b : List (List V)) : bytesL (a ++ b) = bytesL a ++ bytesL b := by
  induction a with
  | nil => rfl
  | cons x a ih => rw [List.cons_append, bytesL, bytesL, ih, List.append_assoc]
theorem goods_good {s : List Col} {l : List (List V)} : ∀ r ∈ goods s l, err s r = 0 ∧ r ∈ l := fun r hr => by
  unfold goods at hr
  rw [List.mem_filter] at hr
  exact ⟨by simpa using hr.2, hr.1⟩
theorem goods_take {s : List Col} {l : List (List V)} (i : Nat) (h : i < l.length) : goods s (l.take (i + 1)) = goods s (l.take i) ++ (if err s l[i] = 0 then [l[i]] else []) := by
  unfold goods
  rw [List.take_succ_eq_append_getElem h, List.filter_append]
  congr 1
  split
  · next h0 => simp [h0]
  · next h0 => simp [h0]
theorem goods_len (s : List Col) (l : List (List V)) : (goods s l).length ≤ l.length := List.length_filter_le _ _
theorem bytesL_bound {s : List Col} : ∀ {l : List (List V)}, (∀ r ∈ l, err s r = 0) → (bytesL l).length ≤ 1024 * l.length
  | [], _ => by simp [bytesL]
  | x :: l, h => by
    have h1 := (err_open (h x (by simp))).2.2.2
    have h2 := bytesL_bound (s := s) (l := l) (fun r hr => h r (by simp [hr]))
    rw [bytesL, List.length_append, List.length_cons]
    omega
/-- P8.7: the next row is read -/
theorem stream_at {s : List Col} {l : List (List V)} (h : ∀ r ∈ l, err s r = 0 ∧ ∀ v ∈ r, v.wf) (j : Nat) (hj : j < l.length) : read s (bytesL l) ((bytesL (l.take j)).length : Int) = .ok (l[j].map V.fix, (bytesL (l.take (j + 1))).length) := by
  have e1 : l = l.take j ++ (l[j] :: l.drop (j + 1)) := by
    rw [← List.drop_eq_getElem_cons hj, List.take_append_drop]
  have hm := h l[j] (List.getElem_mem hj)
  have e2 : bytesL l = bytesL (l.take j) ++ (bytes l[j] ++ bytesL (l.drop (j + 1))) := by
    conv => lhs; rw [e1]
    rw [bytesL_append, bytesL]
  have e3 : bytesL (l.take (j + 1)) = bytesL (l.take j) ++ bytes l[j] := by
    rw [List.take_succ_eq_append_getElem hj, bytesL_append]
    simp [bytesL]
  rw [e2, read_put hm.1 hm.2, e3, List.length_append]
end Rw

/-- rows that are handed over -/
structure RowsL (w : World) (p : Option Addr) (c : Nat) (l : List (List V)) : Prop where
  len : l.length * 24 ≤ 140737488351232
  cap : l.length ≤ c
  rows : ∀ j (hj : j < l.length), ∃ b o q d, p = some ⟨b, o, none⟩ ∧ b < w.heap.size ∧ w.cell? ⟨b, o + j, none⟩ = some (.slice q l[j].length d) ∧ RLies w q d l[j]
theorem RowsL.wf {w : World} {p : Option Addr} {c : Nat} {l : List (List V)} (h : RowsL w p c l) : ∀ x ∈ l, ∀ v ∈ x, v.wf := fun x hx v hv => by
  obtain ⟨j, hj, rfl⟩ := List.mem_iff_getElem.1 hx
  obtain ⟨_, _, _, _, _, _, _, hr⟩ := h.rows j hj
  exact hr.2 v hv

theorem infoRow : (Try.prog.info? 27).map (fun i => (i.zero, i.size, i.bytes)) = some (some (.agg #[.slice none 0 0]), 1, 24) := by kernel_rfl
/-- a list of the call's own, of rows that lie below w0 -/
structure GoodG (w0 w : World) (B : Nat) (v : Value) (gs : List (List V)) : Prop where
  out : ∃ us : List Value, w.ownsRow B 27 1 v gs.length us ∧ ∀ j (hj : j < gs.length), ∃ q d, us[j]? = some (.slice q gs[j].length d) ∧ RLies w0 q d gs[j]
theorem goodG_nil (w0 w : World) (B : Nat) : GoodG w0 w B (.slice none 0 0) [] := ⟨[], ⟨rfl, .inl ⟨rfl, rfl⟩⟩, fun j hj => by simp at hj⟩
section
variable {w0 w w' : World} {B : Nat} {v : Value} {gs : List (List V)}
theorem GoodG.aside {G : Nat → Prop} (h : GoodG w0 w B v gs) (ha : Aside G w w') (hG : ∀ k cur, v.ownBlock = some k → w.heap[k]? = some (.cells cur 27 (0, 0)) → ¬ G k) : GoodG w0 w' B v gs := by
  obtain ⟨us, h1, h2⟩ := h.out
  refine ⟨us, ⟨h1.1, ?_⟩, h2⟩
  rcases h1.2 with h3 | ⟨g, cap, cur, rfl, h4, h5, h6⟩
  · exact .inl h3
  · exact .inr ⟨g, cap, cur, rfl, h4, by rw [ha.block g (Array.getElem?_eq_some_iff.1 h5).1 (hG g cur rfl h5)]; exact h5, h6⟩
theorem GoodG.on (h : GoodG w0 w B v gs) (hb : Below w.heap.size w w') : GoodG w0 w' B v gs := h.aside (aside_new hb (fun _ => False)) (fun _ _ _ _ hc => hc)
theorem GoodG.lt (h : GoodG w0 w B v gs) : ∀ k, v.ownBlock = some k → B ≤ k ∧ k < w.heap.size := by
  obtain ⟨us, h1, _⟩ := h.out
  exact World.ownsRow.lt h1
theorem GoodG.form (h : GoodG w0 w B v gs) : ∃ q c, v = .slice q gs.length c ∧ gs.length ≤ c := by
  obtain ⟨us, h1, h2⟩ := h.out
  rcases h1.2 with ⟨rfl, h3⟩ | ⟨g, cap, cur, rfl, _, _, h4, _⟩
  · exact ⟨none, 0, by rw [h3], by omega⟩
  · exact ⟨_, _, rfl, h4⟩
theorem GoodG.at {q : Option Addr} {n c : Nat} (h : GoodG w0 w B (.slice q n c) gs) (j : Nat) (hj : j < gs.length) : ∃ g q' d', q = some ⟨g, 0, none⟩ ∧ g < w.heap.size ∧ w.cell? ⟨g, j, none⟩ = some (.slice q' gs[j].length d') ∧ RLies w0 q' d' gs[j] := by
  obtain ⟨us, h1, h2⟩ := h.out
  rcases h1.2 with ⟨he, h3⟩ | ⟨g, cap, cur, he, h4, h5, h6, h7, h8, h9⟩
  · omega
  · injection he with e1 _ e2
    subst e1
    obtain ⟨qj, dj, e3, e4⟩ := h2 j hj
    refine ⟨g, qj, dj, rfl, (Array.getElem?_eq_some_iff.1 h5).1, ?_, e4⟩
    rw [blk_cell h5]
    rw [← h9, List.getElem?_take] at e3
    simp only [Nat.mul_one] at e3
    rw [if_pos hj] at e3
    simpa using e3
end
/-- one row more -/
theorem good_run {w0 w : World} {B : Nat} {v : Value} {gs : List (List V)} (h : GoodG w0 w B v gs) (hB : B ≤ w.heap.size) (y : List V) (q : Option Addr) (d ad : Nat) (hblk : w.heap[ad]? = some (.cells #[.slice q y.length d] 27 (0, 0))) (hn : gs.length ≤ 2000000) (hy : RLies w0 q d y) :
    ∃ g cap W, AppRun Try.prog 41 41 41 v (.slice (some ⟨ad, 0, none⟩) 1 1) w (.slice (some ⟨g, 0, none⟩) (gs ++ [y]).length cap) W ∧ GoodG w0 W B (.slice (some ⟨g, 0, none⟩) (gs ++ [y]).length cap) (gs ++ [y]) ∧ Aside (fun k => v.ownBlock = some k) w W := by
  obtain ⟨i, hi, hz, hsz, hby⟩ := info_parts infoRow
  obtain ⟨us, h1, h2⟩ := h.out
  have hul : us.length = gs.length := by rw [h1.1]; omega
  obtain ⟨g, cap, W, hr, ho, hg, hor, hlt⟩ := run_append_lies (P := Try.prog) w 41 41 B 27 i (.agg #[.slice none 0 0]) 1 24 Try.underlying41 hi hz hsz hby rfl (by decide) v gs.length us h1 ⟨ad, 0, none⟩ 1 1 [.slice q y.length d] rfl (World.news_of_block hblk) (by simp [Value.oneCell']) (by decide) (by unfold maxLen; omega) (by omega) hB w.heap.size rfl
  have hlen : (gs ++ [y]).length = gs.length + 1 := by simp
  have hag := aside_grew hg
  refine ⟨g, cap, W, ⟨by rw [hlen]; exact hr⟩, ⟨us ++ [.slice q y.length d], by rw [hlen]; exact ho, fun j hj => ?_⟩, hag⟩
  by_cases hje : j < gs.length
  · obtain ⟨q', d', e1, e2⟩ := h2 j hje
    refine ⟨q', d', ?_, ?_⟩
    · rw [List.getElem?_append_left (by omega), e1, List.getElem_append_left hje]
    · rw [List.getElem_append_left hje]
      exact e2
  · have hj2 : j = gs.length := by rw [hlen] at hj; omega
    subst hj2
    refine ⟨q, d, ?_, ?_⟩
    · rw [List.getElem?_append_right (by omega), hul]
      simp
    · simp only [List.getElem_append_right (Nat.le_refl _), Nat.sub_self, List.getElem_cons_zero]
      exact hy
/-- in the walk -/
theorem wp_good {w0 w : World} {B : Nat} {v : Value} {gs : List (List V)} (h : GoodG w0 w B v gs) (hB : B ≤ w.heap.size) (y : List V) (q : Option Addr) (d ad : Nat) (hblk : w.heap[ad]? = some (.cells #[.slice q y.length d] 27 (0, 0))) (hn : gs.length ≤ 2000000) (hy : RLies w0 q d y)
    {ops : Array Oper} {rest : List Oper} {o : Oper} {a : Act} {Q : Exit → Act → World → Prop} {yy x : Operand}
    (ht : o.type = 41) (hg : o.guard = none) (hop : o.op = Op.call { callee := Callee.builtin Builtin.append, args := #[yy, x], argTypes := #[41, 41] })
    (hs : a.eval yy = v) (hx : a.eval x = .slice (some ⟨ad, 0, none⟩) 1 1)
    (hK : ∀ zs g cap W, Hid (zs = gs ++ [y]) → GoodG w0 W B (.slice (some ⟨g, 0, none⟩) zs.length cap) zs → Aside (fun k => v.ownBlock = some k) w W → wpList Try.prog ops Q rest (a.put o.dst (.slice (some ⟨g, 0, none⟩) zs.length cap)) W) :
    wpList Try.prog ops Q (o :: rest) a w := by
  obtain ⟨g, cap, W, hr, hm, ha⟩ := good_run h hB y q d ad hblk hn hy
  have hr' : AppRun Try.prog 41 41 o.type v (.slice (some ⟨ad, 0, none⟩) 1 1) w (.slice (some ⟨g, 0, none⟩) (gs ++ [y]).length cap) W := by rw [ht]; exact hr
  exact wpList_append_ran hr' hg hop hs hx (hK _ g cap W (Lib.hid rfl) hm ha)
/-- bytes' block is no rows' block -/
theorem Has.block8 {w : World} {B : Nat} {v : Value} {l : List UInt8} (h : Has w B v l) {k : Nat} (hk : v.ownBlock = some k) : ∃ cur, w.heap[k]? = some (.cells cur 5 (0, 0)) := by
  rcases h.2 with ⟨rfl, _⟩ | ⟨g, cap, cur, rfl, _, h5, _⟩
  · simp [Value.ownBlock] at hk
  · simp only [Value.ownBlock, Option.some.injEq] at hk
    subst hk
    exact ⟨cur, h5⟩
end Go.Proofs.Yticmkgbjannkkaa

/- The law's own rows(a, b). -/
namespace Go.Proofs.Yticmkgbjannkkaa
open Go.RowKit

attribute [local go_sem] run_store_float

/-- two rows, floats bit by bit -/
def Rw.exact (xs ys : List V) : Bool := V.exact (.mk 0 0 0 ⟨#[]⟩ xs) (.mk 0 0 0 ⟨#[]⟩ ys)

set_option maxRecDepth 100000 in
set_option maxHeartbeats 1000000 in
theorem rows8 (xs ys : List V) (p q : Option Addr) (c d : Nat) (w : World) (hx : VLies w (cells5 0 0 0 ⟨#[]⟩ p xs.length c) (.mk 0 0 0 ⟨#[]⟩ xs)) (hy : VLies w (cells5 0 0 0 ⟨#[]⟩ q ys.length d) (.mk 0 0 0 ⟨#[]⟩ ys)) :
    Calls Try.prog 22 #[.agg #[.slice p xs.length c], .agg #[.slice q ys.length d]] w fun e w' => e = .returned (.bool (Rw.exact xs ys)) ∧ Below w.heap.size w w' := by
  obtain ⟨W0, hW0⟩ : ∃ W0, W0 = (w.alloc (.cells #[.slice p xs.length c] 27)).alloc (.cells #[.slice q ys.length d] 27) := ⟨_, rfl⟩
  have HB0 : Hid (Below w.heap.size w W0) := by rw [hW0]; exact ((Below.refl _ _).alloc (Nat.le_refl _) _).alloc (by simp) _
  have HW0 := Lib.hid hW0
  have HC := Lib.hid (exact6 _ _ W0 _ _ (hx.on HB0.out) (hy.on HB0.out))
  have HE : Hid (V.exact (.mk 0 0 0 ⟨#[]⟩ xs) (.mk 0 0 0 ⟨#[]⟩ ys) = Rw.exact xs ys) := rfl
  rw [HE.out] at HC
  obtain ⟨R, hR⟩ : ∃ R, R = Rw.exact xs ys := ⟨_, rfl⟩
  rw [← hR] at HC ⊢
  clear hW0 hx hy HE hR
  unfold cells5 at HC
  go_enter Try.func22, Try.ntmps22
  go_wp2_with fail
  rw [← HW0.out]
  refine HC.out.mono ?_
  rintro e w1 ⟨rfl, hb1⟩
  have HB1 := Lib.hid (HB0.out.trans (hb1.mono HB0.out.size))
  clear hb1 HC HW0
  go_wp2
  go_ret
  exact ⟨rfl, HB1.out⟩
end Go.Proofs.Yticmkgbjannkkaa

/- The law's own pair(), and plain facts on the chapter's examples. -/
namespace Go.Proofs.Yticmkgbjannkkaa
open Go.RowKit

attribute [local go_sem] run_store_float

theorem tl_leaf (w : World) (k : Int) (p : Option Addr) (c : Nat) : TLies w (cells2 k p 0 c) (.mk k []) := .mk (xs := []) (fun _ => #[]) (by simp) (by simp) (fun hc => absurd rfl hc) (fun j hj => by simp at hj)
theorem vl_leaf (w : World) (k i : Int) (b : Nat) (t : ByteArray) (p : Option Addr) (c : Nat) : VLies w (cells5 k i b t p 0 c) (.mk k i b t []) := .mk (xs := []) (fun _ => #[]) (by simp) (by simp) (fun hc => absurd rfl hc) (fun j hj => by simp at hj)
theorem tl_one {w : World} {g : Nat} {u : Array Value} {T : TypeId} {x : Ty} (hg : w.heap[g]? = some (.cells u T (0, 0))) (hx : TLies w u x) (k : Int) : TLies w (cells2 k (some ⟨g, 0, none⟩) 1 1) (.mk k [x]) := by
  refine .mk (xs := [x]) (fun _ => u) (by simp) (by simp) (fun _ => ⟨g, 0, rfl, (Array.getElem?_eq_some_iff.1 hg).1, fun j hj m hm => ?_⟩) (fun j hj => ?_)
  · have hj0 : j = 0 := by simp at hj; omega
    subst hj0
    simp [World.cell?, hg]
  · have hj0 : j = 0 := by simp at hj; omega
    subst hj0
    exact hx

/-- the schema of the chapter's examples -/
def pairA : Col := ⟨⟨#[97]⟩, .mk 2 [], false, V0⟩
def pairB : Col := ⟨⟨#[98]⟩, .mk 6 [.mk 4 []], false, V0⟩
def pairS : List Col := [pairA, pairB]
theorem pairA_err : Sch.colErr [] pairA = 0 := Sch.col_make (by kernel_rfl) rfl (Sch.ty_leaf (by omega) (by omega) (by omega)) (fun _ => Sch.v0_fix) (fun h => by cases h)
theorem pairB_err : Sch.colErr [pairA] pairB = 0 := Sch.col_make (by kernel_rfl) (by kernel_rfl) (Sch.ty_one (by omega) (by omega) (Sch.ty_leaf (by omega) (by omega) (by omega))) (fun _ => Sch.v0_fix) (fun h => by cases h)
theorem pair_bytes : Sch.bytes pairS = [2, 1, 97, 2, 0, 1, 98, 6, 4, 0] := by
  unfold Sch.bytes pairS pairA pairB Sch.cB
  simp only [List.map_cons, List.map_nil, Sch.tyB_mk]
  kernel_rfl
theorem pair_err : Sch.err pairS = 0 := Sch.err_make (by decide) (by decide) (by
  unfold pairS
  rw [Sch.colsErr, if_pos pairA_err, Sch.colsErr, List.nil_append, if_pos pairB_err, Sch.colsErr]) (by rw [pair_bytes]; decide)
theorem pair_wf : ∀ c ∈ pairS, c.wf := by
  intro c hc
  unfold pairS at hc
  rcases List.mem_cons.1 hc with rfl | hc
  · exact ⟨by decide, Ty.wf_mk.2 ⟨by omega, fun x hx => by cases hx⟩, Sch.v0_wf⟩
  · rcases List.mem_cons.1 hc with rfl | hc
    · exact ⟨by decide, Ty.wf_mk.2 ⟨by omega, fun x hx => by
        rcases List.mem_cons.1 hx with rfl | hx
        · exact Ty.wf_mk.2 ⟨by omega, fun x hx => by cases hx⟩
        · cases hx⟩, Sch.v0_wf⟩
    · cases hc
/-- the row of the chapter's examples -/
def hiT : V := .mk 4 0 0 ⟨#[104, 105]⟩ []
def hiR : List V := [.mk 2 64 0 ⟨#[]⟩ [], .mk 6 0 0 ⟨#[]⟩ [hiT]]
theorem hi_bytes : Rw.bytes hiR = [128, 1, 1, 2, 104, 105] := by
  unfold Rw.bytes hiR hiT
  simp only [List.map_cons, List.map_nil, Sch.vB_mk]
  kernel_rfl
theorem hi_wf : ∀ v ∈ hiR, v.wf := by
  intro v hv
  unfold hiR at hv
  rcases List.mem_cons.1 hv with rfl | hv
  · exact V.wf_mk.2 ⟨by omega, by omega, by omega, Nat.zero_le _, fun x hx => by cases hx⟩
  · rcases List.mem_cons.1 hv with rfl | hv
    · refine V.wf_mk.2 ⟨by omega, by omega, by omega, Nat.zero_le _, fun x hx => ?_⟩
      rcases List.mem_cons.1 hx with rfl | hx
      · exact V.wf_mk.2 ⟨by omega, by omega, by omega, by decide, fun x hx => by cases hx⟩
      · cases hx
    · cases hv
theorem hi_fix : hiR.map V.fix = hiR := by
  unfold hiR hiT
  simp only [List.map_cons, List.map_nil, V.fix_mk, Sch.fixB_zero, V.fixL]
theorem five_read : Rw.read pairS [5] 0 = .error 30 := by
  unfold Rw.read
  rw [if_neg (by rw [pair_err]; simp)]
  simp only [pairS, pairA, pairB, Rw.rd, Sch.rdV_mk]
  kernel_rfl
theorem hi_err : Rw.err pairS hiR = 0 := Rw.err_make pair_err rfl (by
  have h1 : Rw.vErr (.mk 2 []) (.mk 2 64 0 ⟨#[]⟩ []) = 0 := Rw.vErr_make (Sch.ty_leaf (by omega) (by omega) (by omega)) (Sch.chk_make (by omega) (by kernel_rfl) (Nat.zero_le _) (by simp) (fun h => by cases h) (fun x hx => by cases hx)) (by rw [Sch.of_mk]; rfl)
  have h2 : Rw.vErr (.mk 6 [.mk 4 []]) (.mk 6 0 0 ⟨#[]⟩ [hiT]) = 0 := Rw.vErr_make (Sch.ty_one (by omega) (by omega) (Sch.ty_leaf (by omega) (by omega) (by omega))) (Sch.chk_make (by omega) (by kernel_rfl) (Nat.zero_le _) (by simp) (fun h => by cases h) (fun x hx => by
    rcases List.mem_cons.1 hx with rfl | hx
    · exact Sch.chk_make (by omega) (by kernel_rfl) (by decide) (by simp) (fun _ => by kernel_rfl) (fun x hx => by cases hx)
    · cases hx)) (by rw [Sch.of_mk]; unfold hiT; simp only [List.all_cons, List.all_nil, Sch.of_mk]; rfl)
  unfold pairS hiR pairA pairB
  rw [Rw.colsErr, if_pos h1, Rw.colsErr, if_pos h2, Rw.colsErr]
  · intro c s v r h; cases h) (by rw [hi_bytes]; decide)
theorem hi_read : Rw.read pairS [128, 1, 1, 2, 104, 105, 7] 0 = .ok (hiR, 6) := by
  have h := Rw.read_put hi_err hi_wf [] [7]
  rw [hi_bytes, hi_fix] at h
  exact h
theorem none_err : Rw.err pairS [] = 80 := by
  unfold Rw.err
  rw [if_neg (by rw [pair_err]; simp), if_pos (by decide)]

set_option maxRecDepth 100000 in
set_option maxHeartbeats 1000000 in
theorem pair8 (w : World) : Calls Try.prog 20 #[] w fun e w' => ∃ p c, e = .returned (.agg #[.slice p 2 c]) ∧ Cols w' p pairS ∧ 2 ≤ c ∧ Below w.heap.size w w' := by
  obtain ⟨W, hW⟩ : ∃ W, W = ((w.alloc (.cells #[.slice (some ⟨w.heap.size + 1 + 1, 0, none⟩) 2 2] 24)).alloc (.cells #[.int .i64 4, .slice none 0 0] 50)).alloc (.cells #[.string ⟨#[97]⟩, .int .i64 2, .slice none 0 0, .bool false, .int .i64 0, .int .i64 0, .float .f64 0, .string ⟨#[]⟩, .slice none 0 0, .string ⟨#[98]⟩, .int .i64 6, .slice (some ⟨w.heap.size + 1, 0, none⟩) 1 1, .bool false, .int .i64 0, .int .i64 0, .float .f64 0, .string ⟨#[]⟩, .slice none 0 0] 55) := ⟨_, rfl⟩
  have hs : W.heap.size = w.heap.size + 3 := by rw [hW]; simp
  have HB : Hid (Below w.heap.size w W) := by rw [hW]; exact (((Below.refl _ _).alloc (Nat.le_refl _) _).alloc (by simp) _).alloc (by simp; omega) _
  have h0 : W.heap[w.heap.size]? = some (.cells #[.slice (some ⟨w.heap.size + 1 + 1, 0, none⟩) 2 2] 24 (0, 0)) := by
    rw [hW, blk_old _ _ (by simp; omega), blk_old _ _ (by simp)]
    exact blk_new w _
  have h1 : W.heap[w.heap.size + 1]? = some (.cells #[.int .i64 4, .slice none 0 0] 50 (0, 0)) := by
    rw [hW, blk_old _ _ (by simp)]
    exact blk_second w _ _
  have h3 : ∀ m, W.cell? ⟨w.heap.size + 1 + 1, m, none⟩ = (#[.string ⟨#[97]⟩, .int .i64 2, .slice none 0 0, .bool false, .int .i64 0, .int .i64 0, .float .f64 0, .string ⟨#[]⟩, .slice none 0 0, .string ⟨#[98]⟩, .int .i64 6, .slice (some ⟨w.heap.size + 1, 0, none⟩) 1 1, .bool false, .int .i64 0, .int .i64 0, .float .f64 0, .string ⟨#[]⟩, .slice none 0 0] : Array Value)[m]? := fun m => by
    refine blk_cell (T := 55) (fr := (0, 0)) ?_ m
    rw [hW]
    have := blk_new ((w.alloc (.cells #[.slice (some ⟨w.heap.size + 1 + 1, 0, none⟩) 2 2] 24)).alloc (.cells #[.int .i64 4, .slice none 0 0] 50)) (.cells #[.string ⟨#[97]⟩, .int .i64 2, .slice none 0 0, .bool false, .int .i64 0, .int .i64 0, .float .f64 0, .string ⟨#[]⟩, .slice none 0 0, .string ⟨#[98]⟩, .int .i64 6, .slice (some ⟨w.heap.size + 1, 0, none⟩) 1 1, .bool false, .int .i64 0, .int .i64 0, .float .f64 0, .string ⟨#[]⟩, .slice none 0 0] 55)
    simpa using this
  have hcols : Cols W (some ⟨w.heap.size + 1 + 1, 0, none⟩) pairS := by
    intro j hj
    have hj2 : j < 2 := hj
    rcases (show j = 0 ∨ j = 1 by omega) with rfl | rfl
    · refine ⟨cells9 ⟨#[97]⟩ 2 none 0 0 false 0 0 0 ⟨#[]⟩ none 0 0, ⟨2, none, 0, 0, 0, 0, 0, ⟨#[]⟩, none, 0, 0, rfl, tl_leaf W 2 none 0, v0_lies W none 0⟩, ⟨w.heap.size + 1 + 1, 0, ⟨#[97]⟩, 2, none, 0, 0, false, 0, 0, 0, ⟨#[]⟩, none, 0, 0, rfl, by omega, rfl, ?_⟩⟩
      exact ⟨h3 0, h3 1, h3 2, h3 3, h3 4, h3 5, h3 6, h3 7, h3 8⟩
    · refine ⟨cells9 ⟨#[98]⟩ 6 (some ⟨w.heap.size + 1, 0, none⟩) 1 1 false 0 0 0 ⟨#[]⟩ none 0 0, ⟨6, some ⟨w.heap.size + 1, 0, none⟩, 1, 1, 0, 0, 0, ⟨#[]⟩, none, 0, 0, rfl, tl_one h1 (tl_leaf W 4 none 0) 6, v0_lies W none 0⟩, ⟨w.heap.size + 1 + 1, 0, ⟨#[98]⟩, 6, some ⟨w.heap.size + 1, 0, none⟩, 1, 1, false, 0, 0, 0, ⟨#[]⟩, none, 0, 0, rfl, by omega, rfl, ?_⟩⟩
      exact ⟨h3 9, h3 10, h3 11, h3 12, h3 13, h3 14, h3 15, h3 16, h3 17⟩
  have HC := Lib.hid hcols
  have H0 := Lib.hid h0
  have HW := Lib.hid hW
  clear hcols h0 h1 h3 hs hW
  go_enter Try.func20, Try.ntmps20
  go_wp2
  rw [← HW.out]
  refine bodyPost_ret (results_cell_row rfl _ _ w.heap.size _ _ _ _ rfl H0.out Try.underlying24 rfl (by kernel_rfl)) rfl ?_
  exact ⟨_, _, rfl, HC.out, Nat.le_refl _, HB.out⟩
end Go.Proofs.Yticmkgbjannkkaa
