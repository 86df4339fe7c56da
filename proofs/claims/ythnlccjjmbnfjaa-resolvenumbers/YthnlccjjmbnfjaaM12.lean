/- COwn, WTypeR, WNameR, WFindR: put together. -/
import Derived.Test.YthnlccjjmbnfjaaM11
import Derived.Test.YthnlccjjmbnfjaaM05
import Derived.Test.YthnlccjjmbnfjaaM04
import Derived.Test.YthnlccjjmbnfjaaM06
import Derived.Test.YthnlccjjmbnfjaaM09
import Derived.Test.YthnlccjjmbnfjaaM07

/- A column, and columns, that lie in blocks of their own. -/
namespace Go.Proofs.Ythnlccjjmbnfjaa
open Go.RowKit

/-- so a column lies in blocks of its own -/
structure COwn (w : World) (F : Nat → Prop) (u : Array Value) (c : Col) : Prop where
  out : ∃ (F1 F2 : Nat → Prop) (k : Int) (tp : Option Addr) (tn tc : Nat) (vk vi : Int) (vb : Nat) (vt : ByteArray) (vp : Option Addr) (vn vc : Nat), u = cells9 c.name k tp tn tc c.has vk vi vb vt vp vn vc ∧ TOwn w F1 (cells2 k tp tn tc) c.ty ∧ VOwn w F2 (cells5 vk vi vb vt vp vn vc) c.dflt ∧ (∀ k, F1 k → F k) ∧ (∀ k, F2 k → F k) ∧ ∀ k, F1 k → ¬ F2 k
section
variable {w w' : World} {F G : Nat → Prop} {u : Array Value} {c : Col}
theorem COwn.nine (h : COwn w F u c) : u.size = 9 := by
  obtain ⟨_, _, _, _, _, _, _, _, _, _, _, _, _, rfl, _⟩ := h.out
  rfl
theorem COwn.lies (h : COwn w F u c) : CLies w u c := by
  obtain ⟨F1, F2, k, tp, tn, tc, vk, vi, vb, vt, vp, vn, vc, h1, h2, h3, _⟩ := h.out
  exact ⟨k, tp, tn, tc, vk, vi, vb, vt, vp, vn, vc, h1, h2.lies, h3.lies⟩
theorem COwn.aside (h : COwn w F u c) (ha : Aside G w w') (hd : ∀ k, F k → ¬ G k) : COwn w' F u c := by
  obtain ⟨F1, F2, k, tp, tn, tc, vk, vi, vb, vt, vp, vn, vc, h1, h2, h3, h4, h5, h6⟩ := h.out
  exact ⟨F1, F2, k, tp, tn, tc, vk, vi, vb, vt, vp, vn, vc, h1, h2.aside ha (fun k hk => hd k (h4 k hk)), h3.aside ha (fun k hk => hd k (h5 k hk)), h4, h5, h6⟩
theorem COwn.under {B : Nat} (h : COwn w F u c) (hb : Below B w w') (hF : ∀ k, F k → k < B) : COwn w' F u c :=
  h.aside (G := fun k => B ≤ k) (aside_of hb fun _ _ h => h) fun k hk hc => by have := hF k hk; omega
theorem COwn.mono (h : COwn w F u c) (hF : ∀ k, F k → G k) : COwn w G u c := by
  obtain ⟨F1, F2, k, tp, tn, tc, vk, vi, vb, vt, vp, vn, vc, h1, h2, h3, h4, h5, h6⟩ := h.out
  exact ⟨F1, F2, k, tp, tn, tc, vk, vi, vb, vt, vp, vn, vc, h1, h2, h3, fun k hk => hF k (h4 k hk), fun k hk => hF k (h5 k hk), h6⟩
theorem COwn.one9 (h : COwn w F u c) : ∀ a ∈ u.toList, a.oneCell' = true := by
  obtain ⟨_, _, _, _, _, _, _, _, _, _, _, _, _, rfl, _⟩ := h.out
  intro a ha
  simp [cells9] at ha
  rcases ha with rfl | rfl | rfl | rfl | rfl | rfl | rfl | rfl | rfl <;> rfl
end

theorem flat9_len (us : Nat → Array Value) : ∀ n, (∀ j, j < n → (us j).size = 9) → (flat us n).length = n * 9
  | 0, _ => by simp [flat]
  | n + 1, h => by
    rw [flat, List.length_append, flat9_len us n fun j hj => h j (by omega), Array.length_toList, h n (by omega)]; omega
theorem flat9_get (us : Nat → Array Value) : ∀ n, (∀ j, j < n → (us j).size = 9) → ∀ j, j < n → ∀ m, m < 9 → (flat us n)[j * 9 + m]? = (us j)[m]?
  | 0, _, j, hj, _, _ => by omega
  | n + 1, h, j, hj, m, hm => by
    have hl := flat9_len us n fun j hj => h j (by omega)
    rw [flat]
    rcases Nat.lt_or_ge j n with h1 | h1
    · rw [List.getElem?_append_left (by omega), flat9_get us n (fun j hj => h j (by omega)) j h1 m hm]
    · have hjn : j = n := by omega
      subst hjn
      rw [List.getElem?_append_right (by omega), hl, Nat.add_sub_cancel_left]
      simp

def zeroC : Value := .agg (cells9 ⟨#[]⟩ 0 none 0 0 false 0 0 0 ⟨#[]⟩ none 0 0)
theorem info48 : (Try.prog.info? 63).map (fun i => (i.zero, i.size, i.bytes)) = some (some zeroC, 9, 120) := by kernel_rfl
section
variable {B : Nat} {v : Value} {n : Nat} {us : Nat → Array Value} {w : World} {u : Array Value} {ad H : Nat}
/-- in the walk -/
theorem wp_moreC (hown : w.ownsRow B 63 9 v n (flat us n)) (h5 : u.size = 9) (h1 : ∀ a ∈ u.toList, a.oneCell' = true) (hblk : w.heap[ad]? = some (.cells u 63 (0, 0))) (hn : (n + 1) * 120 ≤ 140737488355328) (hB : B ≤ w.heap.size) (hH : w.heap.size = H)
    {ops : Array Oper} {rest : List Oper} {o : Oper} {a : Act} {Q : Exit → Act → World → Prop} {y x : Operand}
    (hg : o.guard = none) (hop : o.op = Op.call { callee := Callee.builtin Builtin.append, args := #[y, x], argTypes := #[22, 22] })
    (hs : a.eval y = v) (hx : a.eval x = .slice (some ⟨ad, 0, none⟩) 1 1)
    (hK : ∀ g cap w', w'.ownsRow B 63 9 (.slice (some ⟨g, 0, none⟩) (n + 1) cap) (n + 1) (flat us n ++ u.toList) → w.grownBy w' v.ownBlock → (v.ownBlock = some g ∨ g = H) → wpList Try.prog ops Q rest (a.put o.dst (.slice (some ⟨g, 0, none⟩) (n + 1) cap)) w') :
    wpList Try.prog ops Q (o :: rest) a w := by
  obtain ⟨i, hi, hz, hsz, hby⟩ := info_parts info48
  exact wpList_append_lies w hg y x 22 hop B 63 i zeroC 9 120 Try.underlying22 hi hz hsz hby rfl (by decide) v n (flat us n) hs hown ⟨ad, 0, none⟩ 1 1 u.toList hx (by simp [h5])
    (World.news_of_block hblk) h1 (by decide) (by unfold maxLen; omega) hn hB H hH fun g cap w' h2 h3 h4 _ => hK g cap w' h2 h3 h4
end

/-- columns that are built: they lie in a row of the call's own, and each in blocks of its own -/
structure CBuilt (w : World) (B : Nat) (v : Value) (n : Nat) (us : Nat → Array Value) (Fs : Nat → Nat → Prop) (ys : List Col) : Prop where
  len : ys.length = n
  nine : ∀ j, j < n → (us j).size = 9
  row : w.ownsRow B 63 9 v n (flat us n)
  own : ∀ j (h : j < ys.length), COwn w (Fs j) (us j) ys[j]
  apart : ∀ j m, j < n → m < n → j ≠ m → ∀ k, Fs j k → ¬ Fs m k
  beside : ∀ g, v.ownBlock = some g → ∀ j, j < n → ¬ Fs j g
  range : ∀ j, j < n → ∀ k, Fs j k → B ≤ k ∧ k < w.heap.size

theorem cbuilt_nil (w : World) (B : Nat) : CBuilt w B (.slice none 0 0) 0 (fun _ => #[]) (fun _ _ => False) [] :=
  ⟨rfl, fun j hj => by omega, World.ownsRow_nil _ _ _ _, fun j hj => by simp at hj, fun j m hj => by omega, fun g hg => by simp [Value.ownBlock] at hg, fun j hj => by omega⟩

section
variable {w w' : World} {B : Nat} {v : Value} {n : Nat} {us : Nat → Array Value} {Fs : Nat → Nat → Prop} {ys : List Col}
theorem CBuilt.aside {G : Nat → Prop} (h : CBuilt w B v n us Fs ys) (ha : Aside G w w') (h1 : ∀ g, v.ownBlock = some g → ¬ G g) (h2 : ∀ j, j < n → ∀ k, Fs j k → ¬ G k) : CBuilt w' B v n us Fs ys := by
  refine ⟨h.len, h.nine, ?_, fun j hj => (h.own j hj).aside ha (h2 j (by rw [← h.len]; exact hj)), h.apart, h.beside, fun j hj k hk => ⟨(h.range j hj k hk).1, Nat.lt_of_lt_of_le (h.range j hj k hk).2 ha.size⟩⟩
  refine ⟨h.row.1, ?_⟩
  rcases h.row.2 with h3 | ⟨g, cap, cur, rfl, h4, h5, h6⟩
  · exact .inl h3
  · exact .inr ⟨g, cap, cur, rfl, h4, by rw [ha.block g (Array.getElem?_eq_some_iff.1 h5).1 (h1 g rfl)]; exact h5, h6⟩
theorem CBuilt.lt (h : CBuilt w B v n us Fs ys) : ∀ g, v.ownBlock = some g → B ≤ g ∧ g < w.heap.size := World.ownsRow.lt h.row
theorem CBuilt.on (h : CBuilt w B v n us Fs ys) (hb : Below w.heap.size w w') : CBuilt w' B v n us Fs ys :=
  h.aside (aside_new hb (fun _ => False)) (fun _ _ hc => hc) (fun _ _ _ _ hc => hc)
theorem CBuilt.set (h : CBuilt w B v n us Fs ys) (p : Addr) (u : Value) (hp : p.block < B) : CBuilt (w.setCell p u) B v n us Fs ys :=
  h.aside (G := fun k => k = p.block) ((Aside.refl (fun k => k = p.block) w).setCell (p := p) (.inl rfl) u) (fun g hg hc => by have := (h.lt g hg).1; omega) (fun j hj k hk hc => by have := (h.range j hj k hk).1; omega)

/-- one more -/
theorem CBuilt.step {w2 w3 w4 : World} {u : Array Value} {F : Nat → Prop} {x : Col} {g cap : Nat} (h : CBuilt w B v n us Fs ys) (hb : Below w.heap.size w w2) (hx : COwn w2 F u x) (hF : ∀ k, F k → w.heap.size ≤ k ∧ k < w2.heap.size) (hb3 : Below w2.heap.size w2 w3) (hB : B ≤ w.heap.size)
    (hr : w4.ownsRow B 63 9 (.slice (some ⟨g, 0, none⟩) (n + 1) cap) (n + 1) (flat us n ++ u.toList)) (hg : w3.grownBy w4 v.ownBlock) (hn : v.ownBlock = some g ∨ g = w3.heap.size) :
    CBuilt w4 B (.slice (some ⟨g, 0, none⟩) (n + 1) cap) (n + 1) (fun j => if j = n then u else us j) (fun j => if j = n then F else Fs j) (ys ++ [x]) := by
  have hs := hb.size
  have hs3 := hb3.size
  have ha : Aside (fun k => v.ownBlock = some k) w2 w4 := by
    refine (aside_new hb3 _).trans (G := fun k => v.ownBlock = some k) ⟨hg.os, hg.tape, hg.output, hg.size, fun k hk hf => hg.block k hk (fun hc => hf hc.symm)⟩ (fun _ _ h => h)
  have hgF : ∀ k, F k → ¬ v.ownBlock = some k := fun k hk hc => by have := (h.lt k hc).2; have := (hF k hk).1; omega
  have hn1 : ∀ j, j < n + 1 → j ≠ n → j < n := fun j h1 h2 => by omega
  refine ⟨by rw [List.length_append, h.len]; rfl, fun j hj => ?_, ?_, fun j hj => ?_, fun j m hj hm hjm k hk => ?_, fun g' hg' j hj => ?_, fun j hj k hk => ?_⟩
  · split
    · exact hx.nine
    · exact h.nine j (by omega)
  · rw [flat, flat_congr _ us n (fun j hj => by simp [show ¬ j = n by omega])]
    simpa using hr
  · rw [List.length_append, h.len, List.length_singleton] at hj
    by_cases hjn : j = n
    · subst hjn
      rw [if_pos rfl, if_pos rfl, List.getElem_append_right (by rw [h.len]; exact Nat.le_refl _)]
      simp only [h.len, Nat.sub_self, List.getElem_singleton]
      exact hx.aside ha hgF
    · rw [if_neg hjn, if_neg hjn, List.getElem_append_left (by rw [h.len]; omega)]
      exact ((h.own j (by rw [h.len]; omega)).under hb (fun k hk => (h.range j (by omega) k hk).2)).aside ha (fun k hk hc => h.beside k hc j (by omega) hk)
  · by_cases hjn : j = n
    · rw [if_pos hjn] at hk
      rw [if_neg (by omega)]
      exact fun hc => by have := (h.range m (by omega) k hc).2; have := (hF k hk).1; omega
    · rw [if_neg hjn] at hk
      by_cases hmn : m = n
      · rw [if_pos hmn]
        exact fun hc => by have := (h.range j (by omega) k hk).2; have := (hF k hc).1; omega
      · rw [if_neg hmn]
        exact h.apart j m (by omega) (by omega) hjm k hk
  · simp only [Value.ownBlock, Option.some.injEq] at hg'
    subst hg'
    by_cases hjn : j = n
    · rw [if_pos hjn]
      intro hc
      have := hF _ hc
      rcases hn with hn | hn
      · exact hgF _ hc hn
      · omega
    · rw [if_neg hjn]
      intro hc
      rcases hn with hn | hn
      · exact h.beside _ hn j (by omega) hc
      · have := (h.range j (by omega) _ hc).2; omega
  · have h4 := ha.size
    by_cases hjn : j = n
    · rw [if_pos hjn] at hk
      have := hF k hk; omega
    · rw [if_neg hjn] at hk
      have := h.range j (by omega) k hk; omega


theorem CBuilt.low {B' : Nat} (h : CBuilt w B v n us Fs ys) (hB : B' ≤ B) : CBuilt w B' v n us Fs ys := by
  refine ⟨h.len, h.nine, ⟨h.row.1, ?_⟩, h.own, h.apart, h.beside, fun j hj k hk => ⟨Nat.le_trans hB (h.range j hj k hk).1, (h.range j hj k hk).2⟩⟩
  rcases h.row.2 with h3 | ⟨g, cap, cur, rfl, h4, h5⟩
  · exact .inl h3
  · exact .inr ⟨g, cap, cur, rfl, Nat.le_trans hB h4, h5⟩
/-- what is built lies in blocks of its own -/
structure SOwn (w : World) (B : Nat) (u : Array Value) (s : List Col) : Prop where
  out : ∃ v us Fs, u = #[v] ∧ CBuilt w B v s.length us Fs s ∧ s.length * 120 ≤ 140737488351232
theorem CBuilt.cols (h : CBuilt w B v n us Fs ys) (hl : n * 120 ≤ 140737488351232) : ∃ p c, v = .slice p n c ∧ n ≤ c ∧ Cols w p ys := by
  rcases h.row.2 with ⟨rfl, h0⟩ | ⟨g, cap, cur, rfl, h1, h2, h3, h4, h5, h6⟩
  · have hy : ys = [] := List.eq_nil_of_length_eq_zero (by rw [h.len]; exact h0)
    subst hy
    subst h0
    exact ⟨none, 0, rfl, Nat.le_refl _, fun j hj => by simp at hj⟩
  · refine ⟨_, cap, rfl, h3, fun j hj => ?_⟩
    have hg := (Array.getElem?_eq_some_iff.1 h2).1
    have hlen := h.len
    have hcell : ∀ q, q < n * 9 → w.cell? ⟨g, q, none⟩ = (flat us n)[q]? := fun q hq => by
      rw [← h6, List.getElem?_take_of_lt hq]
      simp [World.cell?, h2]
    have hj2 : j < n := by omega
    refine ⟨us j, (h.own j hj).lies, ?_⟩
    obtain ⟨F1, F2, k, tp, tn, tc, vk, vi, vb, vt, vp, vn, vc, e1, -⟩ := (h.own j hj).out
    have hc9 : ∀ m, m < 9 → w.cell? ⟨g, 0 + j * 9 + m, none⟩ = (us j)[m]? := fun m hm => by
      rw [Nat.zero_add, hcell _ (by omega), flat9_get us _ h.nine j hj2 m hm]
    rw [e1] at hc9
    refine ⟨g, 0, _, k, tp, tn, tc, _, vk, vi, vb, vt, vp, vn, vc, rfl, hg, e1, ?_⟩
    exact ⟨hc9 0 (by omega), hc9 1 (by omega), hc9 2 (by omega), hc9 3 (by omega), hc9 4 (by omega), hc9 5 (by omega), hc9 6 (by omega), hc9 7 (by omega), hc9 8 (by omega)⟩
theorem SOwn.lies {u : Array Value} {s : List Col} (h : SOwn w B u s) : SLies w u s := by
  obtain ⟨v, us, Fs, rfl, hb, hl⟩ := h.out
  obtain ⟨p, c, rfl, hc, hcols⟩ := hb.cols hl
  exact ⟨p, c, rfl, hl, hc, hcols⟩
end
end Go.Proofs.Ythnlccjjmbnfjaa

/- The document's typeAt, CheckType. -/
namespace Go.Proofs.Ythnlccjjmbnfjaa
open Go.RowKit

set_option maxRecDepth 100000 in
set_option maxHeartbeats 1000000 in
theorem refTypeAt7 : ∀ (x : Ty) (d : Nat) (w : World) (u : Array Value), d ≤ 5 → TLies w u x → Calls Try.prog 74 #[.agg u, .int .i64 d] w fun e w' => e = .returned (.int .i64 (Ty.check d x : Nat)) ∧ Below w.heap.size w w' := by
  intro x
  refine Ty.ind (P := fun x => ∀ (d : Nat) (w : World) (u : Array Value), d ≤ 5 → TLies w u x → Calls Try.prog 74 #[.agg u, .int .i64 d] w fun e w' => e = .returned (.int .i64 (Ty.check d x : Nat)) ∧ Below w.heap.size w w') ?_ x
  rintro k xs ih d w u hd hx
  obtain ⟨p, c, rfl, hxl, hxc, hxi⟩ := hx.open
  unfold cells2
  have hB1 : Below w.heap.size w (w.alloc (.cells #[.int .i64 k, .slice p xs.length c] 50)) := (Below.refl _ _).alloc (Nat.le_refl _) _
  have HB1 := Lib.hid hB1
  clear hB1 hx
  obtain ⟨R, hR⟩ : ∃ R, R = Ty.check d (.mk k xs) := ⟨_, rfl⟩
  have HCk := Lib.hid (hR.trans (Ty.check_mk d k xs))
  rw [← hR]
  clear hR
  by_cases h1 : 4 < d
  · have g1 : (4 : Int) < (d : Int) := by omega
    have HR : Hid (R = 62) := by show _ = _; rw [HCk.out, if_pos h1]
    clear ih hxi HCk
    go_enter Try.func74, Try.ntmps74
    go_wp2
    go_ret
    exact ⟨by rw [HR.out]; rfl, HB1.out⟩
  have g1 : ¬ (4 : Int) < (d : Int) := by omega
  by_cases h2 : k < 1 ∨ 7 < k
  · have e6 : (k == 6) = false := by simp; omega
    have e7 : (k == 7) = false := by simp; omega
    have HR : Hid (R = 60) := by show _ = _; rw [HCk.out, if_neg h1, if_pos (by omega)]
    clear ih hxi HCk
    rcases h2 with h2 | h2
    · go_enter Try.func74, Try.ntmps74
      go_wp2
      go_ret
      exact ⟨by rw [HR.out]; rfl, HB1.out⟩
    · have h3 : ¬ k < 1 := by omega
      go_enter Try.func74, Try.ntmps74
      go_wp2
      go_ret
      exact ⟨by rw [HR.out]; rfl, HB1.out⟩
  have h3 : ¬ k < 1 := by omega
  have h4 : ¬ 7 < k := by omega
  by_cases h67 : k = 6 ∨ k = 7
  · have hw : Ty.want k = 1 := by unfold Ty.want; rw [if_pos h67]
    by_cases hl1 : xs.length = 1
    · have gl : ((xs.length : Int) != 1) = false := bne_f (by omega)
      have HX : Hid (∀ j (hj : j < xs.length), ∃ u', TLies w u' xs[j] ∧ ItemT w p j u') := hxi
      have HIH := Lib.hid ih
      obtain ⟨ux, hvx, hix⟩ := HX.out 0 (by omega)
      obtain ⟨bx, ox, kx, qx, nx, cx, rfl, _, rfl, a0, a1⟩ := (hix.on HB1.out).lies
      rw [Nat.zero_mul, Nat.add_zero] at a0 a1
      have hR1 : R = Ty.check (d + 1) (xs[0]'(by omega)) := by
        obtain ⟨y, rfl⟩ := List.length_eq_one_iff.1 hl1
        rw [HCk.out]
        have := Ty.check_one d k y h1 (by omega) hw
        rw [Ty.check_mk] at this
        exact this
      have HC := Lib.hid (HIH.out _ (List.getElem_mem (by omega : 0 < xs.length)) (d + 1) _ _ (by omega) (hvx.on HB1.out))
      rw [← hR1] at HC
      unfold cells2 at HC
      have hl0 : (0 : Int) < (xs.length : Int) := by omega
      clear hR1 HX HIH hvx hix HCk ih hxi hw hl1
      rcases h67 with h6 | h6
      all_goals
        first
          | have e6 : (k == 6) = true := beq_t h6
          | (have e6 : (k == 6) = false := beq_f (by omega)
             have e7 : (k == 7) = true := beq_t h6)
        clear h6
        go_enter Try.func74, Try.ntmps74
        go_wp2_with fail
        refine HC.out.mono ?_
        rintro e w2 ⟨rfl, hb2⟩
        have HB2 := Lib.hid (HB1.out.trans (hb2.mono HB1.out.size))
        clear hb2
        go_wp2
        go_ret
        exact ⟨rfl, HB2.out⟩
    · have gl : ((xs.length : Int) != 1) = true := bne_t (by omega)
      have HR : Hid (R = 60) := by show _ = _; rw [HCk.out, if_neg h1, if_pos (by omega)]
      clear ih hxi HCk hw
      rcases h67 with h6 | h6
      all_goals
        first
          | have e6 : (k == 6) = true := beq_t h6
          | (have e6 : (k == 6) = false := beq_f (by omega)
             have e7 : (k == 7) = true := beq_t h6)
        clear h6
        go_enter Try.func74, Try.ntmps74
        go_wp2
        go_ret
        exact ⟨by rw [HR.out]; rfl, HB1.out⟩
  · have hw : Ty.want k = 0 := by unfold Ty.want; rw [if_neg h67]
    have e6 : (k == 6) = false := beq_f (by omega)
    have e7 : (k == 7) = false := beq_f (by omega)
    by_cases hl0 : xs.length = 0
    · have gl : ((xs.length : Int) != 0) = false := bne_f (by omega)
      have HR : Hid (R = 0) := by
        show _ = _
        have hx0 : xs = [] := List.eq_nil_of_length_eq_zero hl0
        subst hx0
        rw [HCk.out]
        have := Ty.check_leaf d k h1 (by omega) hw
        rw [Ty.check_mk] at this
        exact this
      clear ih hxi HCk hw hl0
      go_enter Try.func74, Try.ntmps74
      go_wp2
      go_ret
      exact ⟨by rw [HR.out]; rfl, HB1.out⟩
    · have gl : ((xs.length : Int) != 0) = true := bne_t (by omega)
      have HR : Hid (R = 60) := by show _ = _; rw [HCk.out, if_neg h1, if_pos (by omega)]
      clear ih hxi HCk hw hl0
      go_enter Try.func74, Try.ntmps74
      go_wp2
      go_ret
      exact ⟨by rw [HR.out]; rfl, HB1.out⟩

set_option maxHeartbeats 400000 in
theorem refCheckType7 (x : Ty) (w : World) (u : Array Value) (h : TLies w u x) : Calls Try.prog 47 #[.agg u] w fun e w' => e = .returned (.int .i64 (Ty.check 1 x : Nat)) ∧ Below w.heap.size w w' := by
  obtain ⟨k, xs⟩ := x
  obtain ⟨p, c, rfl, -⟩ := h.open
  have hB1 : Below w.heap.size w (w.alloc (.cells (cells2 k p xs.length c) 50)) := (Below.refl _ _).alloc (Nat.le_refl _) _
  have HB1 := Lib.hid hB1
  have HC := Lib.hid (refTypeAt7 _ 1 _ _ (by omega) (h.on hB1))
  clear hB1 h
  obtain ⟨R, hR⟩ : ∃ R, R = Ty.check 1 (.mk k xs) := ⟨_, rfl⟩
  rw [← hR] at HC ⊢
  clear hR
  unfold cells2 at HC HB1 ⊢
  go_enter Try.func47, Try.ntmps47
  go_wp2_with fail
  refine HC.out.mono ?_
  rintro e w2 ⟨rfl, hb2⟩
  have HB2 := Lib.hid (HB1.out.trans (hb2.mono HB1.out.size))
  clear hb2
  go_wp2
  go_ret
  exact ⟨rfl, HB2.out⟩

end Go.Proofs.Ythnlccjjmbnfjaa

/- The document's Name. -/
namespace Go.Proofs.Ythnlccjjmbnfjaa
open Go.RowKit

theorem headD_get {l : List UInt8} (h : 0 < l.length) : l.headD 0 = l[0] := by
  cases l with
  | nil => simp at h
  | cons a r => rfl
theorem name_short {t : ByteArray} (h : t.size < 1 ∨ 16 < t.size) : Sch.name t = false := by
  have hs : t.data.toList.length = t.size := by rw [Array.length_toList]; rfl
  unfold Sch.name Sch.nameL
  rw [decide_eq_false (by omega)]
  rfl
theorem name_head {t : ByteArray} (h : 0 < t.size) (hc : Sch.low t[0] = false) : Sch.name t = false := by
  have hs : t.data.toList.length = t.size := by rw [Array.length_toList]; rfl
  unfold Sch.name Sch.nameL
  have e : t.data.toList.headD 0 = t[0] := by
    rw [← text_get t 0 h]
    exact headD_get (by omega)
  rw [e, hc, Bool.and_false, Bool.false_and]
theorem name_bad {t : ByteArray} (j : Nat) (h : j < t.size) (hc : Sch.ch t[j] = false) : Sch.name t = false := by
  have hs : t.data.toList.length = t.size := by rw [Array.length_toList]; rfl
  unfold Sch.name Sch.nameL
  have : t.data.toList.all Sch.ch = false := by
    rw [List.all_eq_false]
    refine ⟨t[j], ?_, by simp [hc]⟩
    rw [← text_get t j h]
    exact List.getElem_mem _
  rw [this, Bool.and_false]
theorem name_good {t : ByteArray} (h1 : 1 ≤ t.size) (h2 : t.size ≤ 16) (h3 : Sch.low (t[0]'(by omega)) = true) (h4 : ∀ j (h : j < t.size), Sch.ch t[j] = true) : Sch.name t = true := by
  have hs : t.data.toList.length = t.size := by rw [Array.length_toList]; rfl
  unfold Sch.name Sch.nameL
  have e : t.data.toList.headD 0 = t[0]'(by omega) := by
    rw [← text_get t 0 (by omega)]
    exact headD_get (by omega)
  have : t.data.toList.all Sch.ch = true := by
    rw [List.all_eq_true]
    intro x hx
    obtain ⟨j, hj, rfl⟩ := List.getElem_of_mem hx
    rw [text_get t j (by omega)]
    exact h4 j (by omega)
  rw [e, h3, this, decide_eq_true (by omega)]
  rfl

set_option maxRecDepth 100000 in
set_option maxHeartbeats 1000000 in
theorem refName7 (t : ByteArray) (w : World) : Calls Try.prog 103 #[.string t] w fun e w' => e = .returned (.bool (Sch.name t)) ∧ w' = w := by
  by_cases h1 : t.size < 1
  · have g1 : (t.size : Int) < 1 := by omega
    have HE := Lib.hid (name_short (t := t) (.inl h1))
    clear h1
    go_enter Try.func103, Try.ntmps103
    go_wp2
    go_ret
    exact ⟨by rw [HE.out]; rfl, rfl⟩
  have g1 : ¬ (t.size : Int) < 1 := by omega
  by_cases h2 : 16 < t.size
  · have g2 : (16 : Int) < (t.size : Int) := by omega
    have HE := Lib.hid (name_short (t := t) (.inr h2))
    clear h1 h2
    go_enter Try.func103, Try.ntmps103
    go_wp2
    go_ret
    exact ⟨by rw [HE.out]; rfl, rfl⟩
  have g2 : ¬ (16 : Int) < (t.size : Int) := by omega
  have h0 : 0 < t.size := by omega
  have h0' : (0 : Int) < (t.size : Int) := by omega
  by_cases h3 : Sch.low t[0] = false
  · have HE := Lib.hid (name_head h0 h3)
    have h4 : t[0].toNat < 97 ∨ 122 < t[0].toNat := by
      unfold Sch.low at h3
      rw [decide_eq_false_iff_not] at h3
      omega
    clear h3 h1 h2
    rcases h4 with h4 | h4
    · have g4 : (t[0].toNat : Int) < 97 := by omega
      go_enter Try.func103, Try.ntmps103
      go_wp2
      go_ret
      exact ⟨by rw [HE.out]; rfl, rfl⟩
    · have g4 : ¬ (t[0].toNat : Int) < 97 := by omega
      have g5 : (122 : Int) < (t[0].toNat : Int) := by omega
      go_enter Try.func103, Try.ntmps103
      go_wp2
      go_ret
      exact ⟨by rw [HE.out]; rfl, rfl⟩
  have h3' : Sch.low t[0] = true := by simpa using h3
  have H3 := Lib.hid h3'
  have h4 : 97 ≤ t[0].toNat ∧ t[0].toNat ≤ 122 := by
    unfold Sch.low at h3'
    rw [decide_eq_true_eq] at h3'
    exact h3'
  have g4 : ¬ (t[0].toNat : Int) < 97 := by omega
  have g5 : ¬ (122 : Int) < (t[0].toNat : Int) := by omega
  clear h3 h3' h4
  go_enter Try.func103, Try.ntmps103
  go_wp2
  go_loop [3, 4] (fun v3 _ => ∃ a : Nat, a ≤ t.size ∧ v3 = .int .i64 a ∧ Hid (∀ j (h : j < t.size), j < a → Sch.ch t[j] = true)) (fun v3 _ => t.size - (intOf v3).toNat)
  case atStart => exact ⟨0, by omega, rfl, fun j _ h => by omega⟩
  case round =>
    obtain ⟨a, ha, rfl, HA⟩ := hrel
    by_cases hlt : a < t.size
    · have hlt' : (a : Int) < (t.size : Int) := by omega
      have hc2 := t[a].toNat_lt
      by_cases hc : Sch.ch t[a] = true
      · have HN : Hid (∀ j (h : j < t.size), j < a + 1 → Sch.ch t[j] = true) := fun j h hj => by
          by_cases hja : j = a
          · subst hja; exact hc
          · exact HA.out j h (by omega)
        have hcs : (97 ≤ t[a].toNat ∧ t[a].toNat ≤ 122) ∨ (48 ≤ t[a].toNat ∧ t[a].toNat ≤ 57) ∨ t[a].toNat = 95 := by
          unfold Sch.ch Sch.low at hc
          simp only [Bool.or_eq_true, decide_eq_true_eq] at hc
          omega
        clear HA hc g4 g5 H3
        rcases hcs with hcs | hcs | hcs
        · have k1 : ¬ (t[a].toNat : Int) < 97 := by omega
          have k2 : ¬ (122 : Int) < (t[a].toNat : Int) := by omega
          clear hcs
          go_wp2
          go_round
          case rel => exact ⟨a + 1, by omega, by go_num, HN⟩
          case measure => simp [intOf]; omega
        · have k1 : (t[a].toNat : Int) < 97 := by omega
          have k2 : ¬ (t[a].toNat : Int) < 48 := by omega
          have k3 : ¬ (57 : Int) < (t[a].toNat : Int) := by omega
          clear hcs
          go_wp2
          go_round
          case rel => exact ⟨a + 1, by omega, by go_num, HN⟩
          case measure => simp [intOf]; omega
        · have k1 : (t[a].toNat : Int) < 97 := by omega
          have k2 : ¬ (t[a].toNat : Int) < 48 := by omega
          have k3 : (57 : Int) < (t[a].toNat : Int) := by omega
          have k4 : ((t[a].toNat : Int) != 95) = false := by rw [hcs]; rfl
          clear hcs
          go_wp2
          go_round
          case rel => exact ⟨a + 1, by omega, by go_num, HN⟩
          case measure => simp [intOf]; omega
      · have HE := Lib.hid (name_bad a hlt (by simpa using hc))
        have hcs : t[a].toNat < 48 ∨ (57 < t[a].toNat ∧ t[a].toNat < 97 ∧ t[a].toNat ≠ 95) ∨ 122 < t[a].toNat := by
          unfold Sch.ch Sch.low at hc
          simp only [Bool.or_eq_true, decide_eq_true_eq] at hc
          omega
        clear HA hc g4 g5 H3
        rcases hcs with hcs | hcs | hcs
        · have k1 : (t[a].toNat : Int) < 97 := by omega
          have k2 : (t[a].toNat : Int) < 48 := by omega
          have k4 : ((t[a].toNat : Int) != 95) = true := by rw [bne_iff_ne]; omega
          clear hcs
          go_wp2
          go_ret
          exact ⟨by rw [HE.out]; rfl, rfl⟩
        · have k1 : (t[a].toNat : Int) < 97 := by omega
          have k2 : ¬ (t[a].toNat : Int) < 48 := by omega
          have k3 : (57 : Int) < (t[a].toNat : Int) := by omega
          have k4 : ((t[a].toNat : Int) != 95) = true := by rw [bne_iff_ne]; omega
          clear hcs
          go_wp2
          go_ret
          exact ⟨by rw [HE.out]; rfl, rfl⟩
        · have k1 : ¬ (t[a].toNat : Int) < 97 := by omega
          have k5 : (122 : Int) < (t[a].toNat : Int) := by omega
          have k2 : ¬ (t[a].toNat : Int) < 48 := by omega
          have k3 : (57 : Int) < (t[a].toNat : Int) := by omega
          have k4 : ((t[a].toNat : Int) != 95) = true := by rw [bne_iff_ne]; omega
          clear hcs
          go_wp2
          go_ret
          exact ⟨by rw [HE.out]; rfl, rfl⟩
    · have HE := Lib.hid (name_good (t := t) (by omega) (by omega) H3.out (fun j h => HA.out j h (by omega)))
      have hjn : ¬ (a : Int) < (t.size : Int) := by omega
      clear HA
      go_wp2
      go_ret
      exact ⟨by rw [HE.out]; rfl, rfl⟩
end Go.Proofs.Ythnlccjjmbnfjaa

/- The document's Find. -/
namespace Go.Proofs.Ythnlccjjmbnfjaa
open Go.RowKit

/-- what Find tells -/
def foundV (r : Option Nat) : Value := match r with
  | some k => .tuple #[.int .i64 k, .bool true]
  | none => .tuple #[.int .i64 0, .bool false]
theorem find_ge (n : ByteArray) : ∀ (s : List Col) (k j : Nat), Sch.find n s k = some j → k ≤ j
  | [], _, _, h => by simp [Sch.find] at h
  | c :: r, k, j, h => by
    rw [Sch.find] at h
    split at h
    · injection h; omega
    · have := find_ge n r (k + 1) j h; omega
theorem find_drop (n : ByteArray) (s : List Col) (j : Nat) (hj : j < s.length) : Sch.find n (s.drop j) j = if s[j].name = n then some j else Sch.find n (s.drop (j + 1)) (j + 1) := by
  rw [List.drop_eq_getElem_cons hj, Sch.find]

set_option maxRecDepth 100000 in
set_option maxHeartbeats 400000 in
theorem refFind7 (s : List Col) (t : ByteArray) (p : Option Addr) (c : Nat) (w : World) (hs : s.length * 120 ≤ 140737488351232) (hx : Cols w p s) : Calls Try.prog 45 #[.agg #[.slice p s.length c], .string t] w fun e w' => e = .returned (foundV (Sch.find t s 0)) ∧ Below w.heap.size w w' := by
  have HX := Lib.hid hx
  clear hx
  obtain ⟨W0, hW0⟩ : ∃ W0, W0 = w.alloc (.cells #[.slice p s.length c] 24) := ⟨_, rfl⟩
  have HB0 : Hid (Below w.heap.size w W0) := by rw [hW0]; exact (Below.refl _ _).alloc (Nat.le_refl _) _
  have y0 : W0.cell? ⟨w.heap.size, 0, none⟩ = some (.slice p s.length c) := by rw [hW0]; simp
  have HW0 := Lib.hid hW0
  obtain ⟨R, hR⟩ : ∃ R, R = Sch.find t s 0 := ⟨_, rfl⟩
  have HR := Lib.hid hR
  rw [← hR]
  clear hW0 hR
  go_enter Try.func45, Try.ntmps45
  go_wp2_with fail
  rw [← HW0.out]
  go_loopw [6] (fun v6 wr => ∃ j : Nat, j ≤ s.length ∧ v6 = .int .i64 j ∧ wr = W0 ∧ Hid (R = Sch.find t (s.drop j) j)) (fun v6 _ => s.length - (intOf v6).toNat)
  case atStart => exact ⟨0, by omega, rfl, rfl, HR.out⟩
  case round =>
    obtain ⟨j, hj, rfl, rfl, HF⟩ := hrel
    by_cases hlt : j < s.length
    · obtain ⟨bx, ox, k, tp, tn, tc, vk, vi, vb, vt, vp, vn, vc, rfl, _, h9, -⟩ := (HX.out.on HB0.out).at j hlt
      have a0 := h9.1
      have hj1 : (j : Int) < (s.length : Int) := by omega
      have HD := Lib.hid (HF.out.trans (find_drop t s j hlt))
      by_cases hn : s[j].name = t
      · have g : (s[j].name.toList == t.toList) = true := by rw [text_eq, decide_eq_true hn]
        have HE : Hid (foundV R = .tuple #[.int .i64 j, .bool true]) := by show _ = _; rw [HD.out, if_pos hn]; rfl
        generalize s[j].name = nm at *
        clear HF HD h9 hn
        go_wp2
        go_ret2
        exact ⟨by rw [HE.out]; rfl, HB0.out⟩
      · have g : (s[j].name.toList == t.toList) = false := by rw [text_eq, decide_eq_false hn]
        have HE : Hid (R = Sch.find t (s.drop (j + 1)) (j + 1)) := by show _ = _; rw [HD.out, if_neg hn]
        generalize s[j].name = nm at *
        clear HF HD h9 hn
        go_wp2
        go_roundw
        case rel => exact ⟨j + 1, by omega, by go_num, trivial, HE⟩
        case measure => simp [intOf]; omega
    · have hjn : ¬ (j : Int) < (s.length : Int) := by omega
      have HE : Hid (foundV R = .tuple #[.int .i64 0, .bool false]) := by show _ = _; rw [HF.out, List.drop_eq_nil_of_le (by omega)]; rfl
      clear HF
      go_wp2
      go_ret2
      exact ⟨by rw [HE.out]; rfl, HB0.out⟩
end Go.Proofs.Ythnlccjjmbnfjaa
