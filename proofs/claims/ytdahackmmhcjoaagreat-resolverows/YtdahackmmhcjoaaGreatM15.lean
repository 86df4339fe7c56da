/- TBuilt9, K9I, K9J: put together. -/
import Derived.Test.YtdahackmmhcjoaaGreatM04
import Derived.Test.YtdahackmmhcjoaaGreatM02
import Derived.Test.YtdahackmmhcjoaaGreatM11
import Derived.Deep.RegionLaw

/- How a type is built, item by item. -/
namespace Go.Proofs.YtdahackmmhcjoaaGreat
open Go.RowKit

theorem flat2_len (us : Nat → Array Value) : ∀ n, (∀ j, j < n → (us j).size = 2) → (flat us n).length = n * 2
  | 0, _ => by simp [flat]
  | n + 1, h => by
    rw [flat, List.length_append, flat2_len us n fun j hj => h j (by omega), Array.length_toList, h n (by omega)]; omega
theorem flat2_get (us : Nat → Array Value) : ∀ n, (∀ j, j < n → (us j).size = 2) → ∀ j, j < n → ∀ m, m < 2 → (flat us n)[j * 2 + m]? = (us j)[m]?
  | 0, _, j, hj, _, _ => by omega
  | n + 1, h, j, hj, m, hm => by
    have hl := flat2_len us n fun j hj => h j (by omega)
    rw [flat]
    rcases Nat.lt_or_ge j n with h1 | h1
    · rw [List.getElem?_append_left (by omega), flat2_get us n (fun j hj => h j (by omega)) j h1 m hm]
    · have hjn : j = n := by omega
      subst hjn
      rw [List.getElem?_append_right (by omega), hl, Nat.add_sub_cancel_left]
      simp

def zeroT : Value := .agg (cells2 0 none 0 0)
theorem info42 : (Tryz.prog.info? 42).map (fun i => (i.zero, i.size, i.bytes)) = some (some zeroT, 2, 32) := by kernel_rfl
theorem one2 {w : World} {F : Nat → Prop} {u : Array Value} {x : Ty} (h : TOwn w F u x) : ∀ a ∈ u.toList, a.oneCell' = true := by
  obtain ⟨k, p, n, c, rfl⟩ := h.shape
  intro a ha
  simp [cells2] at ha
  rcases ha with rfl | rfl <;> rfl
section
variable {B : Nat} {v : Value} {n : Nat} {us : Nat → Array Value} {w : World} {u : Array Value} {ad H : Nat}
/-- in the walk -/
theorem wp_moreT (hown : w.ownsRow B 42 2 v n (flat us n)) (h5 : u.size = 2) (h1 : ∀ a ∈ u.toList, a.oneCell' = true) (hblk : w.heap[ad]? = some (.cells u 42 (0, 0))) (hn : (n + 1) * 32 ≤ 140737488355328) (hB : B ≤ w.heap.size) (hH : w.heap.size = H)
    {ops : Array Oper} {rest : List Oper} {o : Oper} {a : Act} {Q : Exit → Act → World → Prop} {y x : Operand}
    (hg : o.guard = none) (hop : o.op = Op.call { callee := Callee.builtin Builtin.append, args := #[y, x], argTypes := #[40, 40] })
    (hs : a.eval y = v) (hx : a.eval x = .slice (some ⟨ad, 0, none⟩) 1 1)
    (hK : ∀ g cap w', w'.ownsRow B 42 2 (.slice (some ⟨g, 0, none⟩) (n + 1) cap) (n + 1) (flat us n ++ u.toList) → w.grownBy w' v.ownBlock → (v.ownBlock = some g ∨ g = H) → wpList Tryz.prog ops Q rest (a.put o.dst (.slice (some ⟨g, 0, none⟩) (n + 1) cap)) w') :
    wpList Tryz.prog ops Q (o :: rest) a w := by
  obtain ⟨i, hi, hz, hsz, hby⟩ := info_parts info42
  exact wpList_append_lies w hg y x 40 hop B 42 i zeroT 2 32 Tryz.underlying40 hi hz hsz hby rfl (by decide) v n (flat us n) hs hown ⟨ad, 0, none⟩ 1 1 u.toList hx (by simp [h5])
    (World.news_of_block hblk) h1 (by decide) (by unfold maxLen; omega) hn hB H hH fun g cap w' h2 h3 h4 _ => hK g cap w' h2 h3 h4
/-- at a step of a region that draws -/
theorem step_moreT (hown : w.ownsRow B 42 2 v n (flat us n)) (h5 : u.size = 2) (h1 : ∀ a ∈ u.toList, a.oneCell' = true) (hblk : w.heap[ad]? = some (.cells u 42 (0, 0))) (hn : (n + 1) * 32 ≤ 140737488355328) (hB : B ≤ w.heap.size) (hH : w.heap.size = H)
    {ops : Array Oper} {o : Oper} {a : Act} {K : Act → World → Prop} {Q : Exit → Act → World → Prop} {E : Prop} (y x : Operand)
    (hg : o.guard = none) (hop : o.op = Op.call { callee := Callee.builtin Builtin.append, args := #[y, x], argTypes := #[40, 40] })
    (hs : a.eval y = v) (hx : a.eval x = .slice (some ⟨ad, 0, none⟩) 1 1)
    (hK : ∀ g cap w', w'.ownsRow B 42 2 (.slice (some ⟨g, 0, none⟩) (n + 1) cap) (n + 1) (flat us n ++ u.toList) → w.grownBy w' v.ownBlock → (v.ownBlock = some g ∨ g = H) → K (a.put o.dst (.slice (some ⟨g, 0, none⟩) (n + 1) cap)) w') :
    if Region.wanted o (yielded ops a.tmps) = true then Oper.wp Tryz.prog o a w K Q else E := by
  obtain ⟨i, hi, hz, hsz, hby⟩ := info_parts info42
  exact step_append_lies w hg y x 40 hop B 42 i zeroT 2 32 Tryz.underlying40 hi hz hsz hby rfl (by decide) v n (flat us n) hs hown ⟨ad, 0, none⟩ 1 1 u.toList hx (by simp [h5])
    (World.news_of_block hblk) h1 (by decide) (by unfold maxLen; omega) hn hB H hH fun g cap w' h2 h3 h4 _ => hK g cap w' h2 h3 h4
end


/-- types that are built: they lie in a row of the call's own, and each in blocks of its own -/
structure TBuilt (w : World) (B : Nat) (v : Value) (n : Nat) (us : Nat → Array Value) (Fs : Nat → Nat → Prop) (ys : List Ty) : Prop where
  len : ys.length = n
  five : ∀ j, j < n → (us j).size = 2
  row : w.ownsRow B 42 2 v n (flat us n)
  own : ∀ j (h : j < ys.length), TOwn w (Fs j) (us j) ys[j]
  apart : ∀ j m, j < n → m < n → j ≠ m → ∀ k, Fs j k → ¬ Fs m k
  beside : ∀ g, v.ownBlock = some g → ∀ j, j < n → ¬ Fs j g
  range : ∀ j, j < n → ∀ k, Fs j k → B ≤ k ∧ k < w.heap.size

theorem tbuilt_nil (w : World) (B : Nat) : TBuilt w B (.slice none 0 0) 0 (fun _ => #[]) (fun _ _ => False) [] :=
  ⟨rfl, fun j hj => by omega, World.ownsRow_nil _ _ _ _, fun j hj => by simp at hj, fun j m hj => by omega, fun g hg => by simp [Value.ownBlock] at hg, fun j hj => by omega⟩

section
variable {w w' : World} {B : Nat} {v : Value} {n : Nat} {us : Nat → Array Value} {Fs : Nat → Nat → Prop} {ys : List Ty}
theorem TBuilt.aside {G : Nat → Prop} (h : TBuilt w B v n us Fs ys) (ha : Aside G w w') (h1 : ∀ g, v.ownBlock = some g → ¬ G g) (h2 : ∀ j, j < n → ∀ k, Fs j k → ¬ G k) : TBuilt w' B v n us Fs ys := by
  refine ⟨h.len, h.five, ?_, fun j hj => (h.own j hj).aside ha (h2 j (by rw [← h.len]; exact hj)), h.apart, h.beside, fun j hj k hk => ⟨(h.range j hj k hk).1, Nat.lt_of_lt_of_le (h.range j hj k hk).2 ha.size⟩⟩
  refine ⟨h.row.1, ?_⟩
  rcases h.row.2 with h3 | ⟨g, cap, cur, rfl, h4, h5, h6⟩
  · exact .inl h3
  · exact .inr ⟨g, cap, cur, rfl, h4, by rw [ha.block g (Array.getElem?_eq_some_iff.1 h5).1 (h1 g rfl)]; exact h5, h6⟩
theorem TBuilt.lt (h : TBuilt w B v n us Fs ys) : ∀ g, v.ownBlock = some g → B ≤ g ∧ g < w.heap.size := World.ownsRow.lt h.row
theorem TBuilt.on (h : TBuilt w B v n us Fs ys) (hb : Below w.heap.size w w') : TBuilt w' B v n us Fs ys :=
  h.aside (aside_new hb (fun _ => False)) (fun _ _ hc => hc) (fun _ _ _ _ hc => hc)
theorem TBuilt.set (h : TBuilt w B v n us Fs ys) (p : Addr) (u : Value) (hp : p.block < B) : TBuilt (w.setCell p u) B v n us Fs ys :=
  h.aside (G := fun k => k = p.block) ((Aside.refl (fun k => k = p.block) w).setCell (p := p) (.inl rfl) u) (fun g hg hc => by have := (h.lt g hg).1; omega) (fun j hj k hk hc => by have := (h.range j hj k hk).1; omega)

/-- one more -/
theorem TBuilt.step {w2 w3 w4 : World} {u : Array Value} {F : Nat → Prop} {x : Ty} {g cap : Nat} (h : TBuilt w B v n us Fs ys) (hb : Below w.heap.size w w2) (hx : TOwn w2 F u x) (hF : ∀ k, F k → w.heap.size ≤ k ∧ k < w2.heap.size) (hb3 : Below w2.heap.size w2 w3) (hB : B ≤ w.heap.size)
    (hr : w4.ownsRow B 42 2 (.slice (some ⟨g, 0, none⟩) (n + 1) cap) (n + 1) (flat us n ++ u.toList)) (hg : w3.grownBy w4 v.ownBlock) (hn : v.ownBlock = some g ∨ g = w3.heap.size) :
    TBuilt w4 B (.slice (some ⟨g, 0, none⟩) (n + 1) cap) (n + 1) (fun j => if j = n then u else us j) (fun j => if j = n then F else Fs j) (ys ++ [x]) := by
  have hs := hb.size
  have hs3 := hb3.size
  have ha : Aside (fun k => v.ownBlock = some k) w2 w4 := by
    refine (aside_new hb3 _).trans (G := fun k => v.ownBlock = some k) ⟨hg.os, hg.tape, hg.output, hg.size, fun k hk hf => hg.block k hk (fun hc => hf hc.symm)⟩ (fun _ _ h => h)
  have hgF : ∀ k, F k → ¬ v.ownBlock = some k := fun k hk hc => by have := (h.lt k hc).2; have := (hF k hk).1; omega
  have hn1 : ∀ j, j < n + 1 → j ≠ n → j < n := fun j h1 h2 => by omega
  refine ⟨by rw [List.length_append, h.len]; rfl, fun j hj => ?_, ?_, fun j hj => ?_, fun j m hj hm hjm k hk => ?_, fun g' hg' j hj => ?_, fun j hj k hk => ?_⟩
  · split
    · exact hx.five
    · exact h.five j (by omega)
  · rw [flat, flat_congr _ us n (fun j hj => by simp [show ¬ j = n by omega])]
    simpa using hr
  · rw [List.length_append, h.len, List.length_singleton] at hj
    by_cases hjn : j = n
    · subst hjn
      rw [if_pos rfl, if_pos rfl, List.getElem_append_right (by rw [h.len]; exact Nat.le_refl _)]
      simp only [h.len, Nat.sub_self, List.getElem_singleton]
      exact hx.aside ha hgF
    · rw [if_neg hjn, if_neg hjn, List.getElem_append_left (by rw [h.len]; omega)]
      exact ((h.own j (by rw [h.len]; omega)).under hb (fun k hk => (h.range j (by omega) k hk).2)).aside ha (fun k hk hc => h.beside k hc j (by omega) hk)
  · by_cases hjn : j = n
    · rw [if_pos hjn] at hk
      rw [if_neg (by omega)]
      exact fun hc => by have := (h.range m (by omega) k hc).2; have := (hF k hk).1; omega
    · rw [if_neg hjn] at hk
      by_cases hmn : m = n
      · rw [if_pos hmn]
        exact fun hc => by have := (h.range j (by omega) k hk).2; have := (hF k hc).1; omega
      · rw [if_neg hmn]
        exact h.apart j m (by omega) (by omega) hjm k hk
  · simp only [Value.ownBlock, Option.some.injEq] at hg'
    subst hg'
    by_cases hjn : j = n
    · rw [if_pos hjn]
      intro hc
      have := hF _ hc
      rcases hn with hn | hn
      · exact hgF _ hc hn
      · omega
    · rw [if_neg hjn]
      intro hc
      rcases hn with hn | hn
      · exact h.beside _ hn j (by omega) hc
      · have := (h.range j (by omega) _ hc).2; omega
  · have h4 := ha.size
    by_cases hjn : j = n
    · rw [if_pos hjn] at hk
      have := hF k hk; omega
    · rw [if_neg hjn] at hk
      have := h.range j (by omega) k hk; omega

/-- what is built is a value that lies in blocks of its own -/
theorem TBuilt.done (h : TBuilt w B v n us Fs ys) (hl : n * 32 ≤ 140737488351232) (k : Int) : ∃ p c, v = .slice p n c ∧ TOwn w (fun k => B ≤ k ∧ k < w.heap.size) (cells2 k p n c) (.mk k ys) := by
  rcases h.row.2 with ⟨rfl, h0⟩ | ⟨g, cap, cur, rfl, h1, h2, h3, h4, h5, h6⟩
  · have hy : ys = [] := List.eq_nil_of_length_eq_zero (by rw [h.len]; exact h0)
    subst hy
    subst h0
    exact ⟨none, 0, rfl, .none⟩
  · refine ⟨_, cap, rfl, ?_⟩
    have hg := (Array.getElem?_eq_some_iff.1 h2).1
    have hlen := h.len
    have hcell : ∀ q, q < n * 2 → w.cell? ⟨g, q, none⟩ = (flat us n)[q]? := fun q hq => by
      rw [← h6, List.getElem?_take_of_lt hq]
      simp [World.cell?, h2]
    subst hlen
    refine .some us Fs hl h3 h.five ⟨hg, fun j hj m hm => ?_⟩ (fun j hj m hm => by simp [World.frozen?, h2]) ⟨h1, hg⟩ (fun j hj => h.beside g rfl j hj) h.apart (fun j hj k hk => h.range j hj k hk) h.own
    rw [Nat.zero_add, hcell _ (by omega), flat2_get us _ h.five j hj m hm]
end

/-- what a fresh value's call answers -/
def FreshT (w : World) (y : Ty) (e : Ending) (w' : World) : Prop := ∃ u', e = .returned (.agg u') ∧ TOwn w' (fun k => w.heap.size ≤ k ∧ k < w'.heap.size) u' y ∧ Below w.heap.size w w'

/-- types grow in a row of one's own, behind all that was there in w0 -/
structure GrowT (w0 : World) (v : Value) (zs : List Ty) (wr : World) : Prop where
  built : ∃ us Fs, TBuilt wr w0.heap.size v zs.length us Fs zs
  keep : Below w0.heap.size w0 wr
theorem growT_nil (w0 : World) : GrowT w0 (.slice none 0 0) [] w0 := ⟨⟨_, _, tbuilt_nil _ _⟩, Below.refl _ _⟩
theorem GrowT.next {w0 wr w2 w3 w4 : World} {v : Value} {zs : List Ty} {x : Ty} {u : Array Value} {F : Nat → Prop} {g cap : Nat} {us : Nat → Array Value} {Fs : Nat → Nat → Prop} (h : GrowT w0 v zs wr) (hbt : TBuilt wr w0.heap.size v zs.length us Fs zs) (hb : Below wr.heap.size wr w2) (hx : TOwn w2 F u x)
    (hF : ∀ k, F k → wr.heap.size ≤ k ∧ k < w2.heap.size) (hb3 : Below w2.heap.size w2 w3)
    (hr : w4.ownsRow w0.heap.size 42 2 (.slice (some ⟨g, 0, none⟩) (zs.length + 1) cap) (zs.length + 1) (flat us zs.length ++ u.toList)) (hg : w3.grownBy w4 v.ownBlock) (hn : v.ownBlock = some g ∨ g = w3.heap.size) :
    GrowT w0 (.slice (some ⟨g, 0, none⟩) (zs.length + 1) cap) (zs ++ [x]) w4 := by
  have hs := h.keep.size
  have hs2 := hb.size
  have hs3 := hb3.size
  have hst := hbt.step hb hx hF hb3 hs hr hg hn
  refine ⟨⟨_, _, by rw [List.length_append]; exact hst⟩, ((h.keep.trans (hb.mono hs)).trans (hb3.mono (by omega))).grown hg (by omega) (fun k hk => (hbt.lt k hk).1)⟩
theorem GrowT.done {w0 wr : World} {p : Option Addr} {c : Nat} {zs : List Ty} (h : GrowT w0 (.slice p zs.length c) zs wr) (hl : zs.length * 32 ≤ 140737488351232) (k : Int) : TOwn wr (fun j => w0.heap.size ≤ j ∧ j < wr.heap.size) (cells2 k p zs.length c) (.mk k zs) := by
  obtain ⟨us, Fs, hb⟩ := h.built
  obtain ⟨p', c', he, hv⟩ := hb.done hl k
  injection he with h1 _ h2
  subst h1 h2
  exact hv
end Go.Proofs.YtdahackmmhcjoaaGreat

/- The landed resolve: copyType. -/
namespace Go.Proofs.YtdahackmmhcjoaaGreat
open Go.RowKit

set_option maxRecDepth 100000 in
set_option maxHeartbeats 2000000 in
theorem copyTypeK : ∀ (x : Ty) (w : World) (u : Array Value), TLies w u x → Calls Tryz.prog 59 #[.agg u] w (FreshT w x) := by
  intro x
  refine Ty.ind (P := fun x => ∀ (w : World) (u : Array Value), TLies w u x → Calls Tryz.prog 59 #[.agg u] w (FreshT w x)) ?_ x
  intro k xs ih w u hx
  obtain ⟨p, c, rfl, hl, hc, hxi⟩ := hx.open
  unfold cells2
  have HIH := Lib.hid ih
  have HX : Hid (∀ j (hj : j < xs.length), ∃ u', TLies w u' xs[j] ∧ ItemT w p j u') := hxi
  obtain ⟨W0, hW0⟩ : ∃ W0, W0 = (w.alloc (.cells #[.int .i64 k, .slice p xs.length c] 42)).alloc (.cells #[.int .i64 0, .slice none 0 0] 42) := ⟨_, rfl⟩
  obtain ⟨l0, l1, lb, ls⟩ := al2 w (.cells #[.int .i64 k, .slice p xs.length c] 42) (.cells #[.int .i64 0, .slice none 0 0] 42)
  rw [← hW0] at l0 l1 lb ls
  have HW0 := Lib.hid hW0
  have HB0 := Lib.hid lb
  have HS0 := Lib.hid ls
  have HL := Lib.hid (And.intro l0 l1)
  have c0 := blk_cell l0 0
  have c1 := blk_cell l0 1
  clear ih hxi hx hW0 l0 l1 lb ls
  go_enter Tryz.func59, Tryz.ntmps59
  go_wp2_with fail
  rw [← HW0.out]
  clear HW0 c0 c1
  go_loopw [3, 9] (fun v3 v9 wr => ∃ (j : Nat) (q9 : Option Addr) (d9 : Nat), j ≤ xs.length ∧ v9 = .int .i64 j ∧ v3 = .slice q9 j d9 ∧ Hid (GrowT W0 (.slice q9 j d9) (xs.take j) wr)) (fun _ v9 _ => xs.length - (intOf v9).toNat)
  case atStart => exact ⟨0, none, 0, by omega, rfl, rfl, growT_nil W0⟩
  case round =>
    obtain ⟨j, q9, d9, hj, rfl, rfl, HG⟩ := hrel
    have HK : Hid (Below W0.heap.size W0 wr) := HG.out.keep
    have HBw : Hid (Below w.heap.size w wr) := HB0.out.trans (HK.out.mono HB0.out.size)
    have htl : (xs.take j).length = j := by rw [List.length_take]; omega
    by_cases hlt : j < xs.length
    · obtain ⟨ux, hvx, hix⟩ := HX.out j hlt
      obtain ⟨bx, ox, kx, qx, nx, cx, rfl, _, rfl, a0, a1⟩ := (hix.on HBw.out).lies
      have hj1 : (j : Int) < (xs.length : Int) := by omega
      have HC : Hid (∀ o, Calls Tryz.prog 59 #[.agg #[.int .i64 kx, .slice qx nx cx]] (wr.alloc o) (FreshT (wr.alloc o) xs[j])) := fun o => HIH.out _ (List.getElem_mem hlt) (wr.alloc o) _ ((hvx.on HBw.out).on ((Below.refl _ _).alloc (Nat.le_refl _) o))
      have hsz := HK.out.size
      clear hvx hix
      go_wp2_with fail
      refine (HC.out _).mono ?_
      rintro e w2 ⟨u', rfl, hv, hb2⟩
      obtain ⟨k', p', n', c', rfl⟩ := hv.shape
      obtain ⟨us, Fs, hbt⟩ := HG.out.built
      have hb2' : Below wr.heap.size wr w2 := ((Below.refl _ _).alloc (Nat.le_refl _) _).trans (hb2.mono (by simp))
      have HV := Lib.hid (hv.mono (G := fun k => wr.heap.size ≤ k ∧ k < w2.heap.size) fun k hk => ⟨by have := hk.1; simp at this; omega, hk.2⟩)
      have HB2 := Lib.hid hb2'
      have HBt := Lib.hid hbt
      have HGr := Lib.hid HG.out
      have hs2 := hb2'.size
      unfold cells2 at HV ⊢
      have HB3 : Hid (Below w2.heap.size w2 (w2.alloc (.cells #[.int .i64 k', .slice p' n' c'] 42))) := (Below.refl _ _).alloc (Nat.le_refl _) _
      have HRow : Hid ((w2.alloc (.cells #[.int .i64 k', .slice p' n' c'] 42)).ownsRow W0.heap.size 42 2 (.slice q9 j d9) j (flat us j)) := by
        have := ((hbt.on hb2').on HB3.out).row
        rw [htl] at this
        exact this
      clear hv hb2 hb2' hbt a0 a1 HC
      go_wp2_with (at_builtin; refine wp_moreT (B := W0.heap.size) (us := us) HRow.out (u := #[.int .i64 k', .slice p' n' c']) rfl (one2 HV.out) (ad := w2.heap.size) (blk_new w2 _) (by omega) (by simp; omega) rfl rfl rfl rfl rfl ?_
                   intro g2 cap2 w4 hr4 hg4 hn4
                   have HMK : Hid (GrowT W0 (.slice (some ⟨g2, 0, none⟩) (j + 1) cap2) (xs.take (j + 1)) w4) := by
                     have h := HGr.out.next HBt.out HB2.out HV.out (fun _ h => h) HB3.out (by rw [htl]; exact hr4) hg4 hn4
                     rw [htl, ← List.take_succ_eq_append_getElem hlt] at h
                     exact h
                   clear hr4 hg4 hn4)
      go_roundw
      case rel => exact ⟨j + 1, _, _, by omega, by go_num, rfl, HMK⟩
      case measure => simp [intOf]; omega
    · have hjn : ¬ (j : Int) < (xs.length : Int) := by omega
      have hjj : j = xs.length := by omega
      have d0 : wr.cell? ⟨w.heap.size, 0, none⟩ = some (.int .i64 k) := blk_at HL.out.1 HK.out 0
      have d1 : wr.heap[w.heap.size + 1]? = some (.cells #[.int .i64 0, .slice none 0 0] 42 (0, 0)) := (HK.out.block _ (blk_lt HL.out.2)).trans HL.out.2
      have e0 : wr.cell? ⟨w.heap.size + 1, 0, none⟩ = some (.int .i64 0) := blk_cell d1 0
      have e1 : wr.cell? ⟨w.heap.size + 1, 1, none⟩ = some (.slice none 0 0) := blk_cell d1 1
      have f0 := blk_free d1 0
      have f1 := blk_free d1 1
      have HF : Hid (((wr.setCell ⟨w.heap.size + 1, 0, none⟩ (.int .i64 k)).setCell ⟨w.heap.size + 1, 1, none⟩ (.slice q9 j d9)).heap[w.heap.size + 1]? = some (.cells (cells2 k q9 j d9) 42 (0, 0)) ∧ FreshT w (.mk k xs) (.returned (.agg (cells2 k q9 j d9))) ((wr.setCell ⟨w.heap.size + 1, 0, none⟩ (.int .i64 k)).setCell ⟨w.heap.size + 1, 1, none⟩ (.slice q9 j d9))) := by
        have hT := HG.out
        rw [hjj, List.take_length] at hT
        have h1 := hT.done (by omega) k
        have ha : Aside (fun i => i = w.heap.size + 1) wr ((wr.setCell ⟨w.heap.size + 1, 0, none⟩ (.int .i64 k)).setCell ⟨w.heap.size + 1, 1, none⟩ (.slice q9 j d9)) := ((Aside.refl (fun i => i = w.heap.size + 1) wr).setCell (p := ⟨w.heap.size + 1, 0, none⟩) (.inl rfl) _).setCell (p := ⟨w.heap.size + 1, 1, none⟩) (.inl rfl) _
        refine ⟨?_, _, rfl, ?_, (HBw.out.setCell (p := ⟨w.heap.size + 1, 0, none⟩) (by show w.heap.size ≤ w.heap.size + 1; omega) _).setCell (p := ⟨w.heap.size + 1, 1, none⟩) (by show w.heap.size ≤ w.heap.size + 1; omega) _⟩
        · rw [blk_set (blk_set d1 0 _) 1 _]
          rfl
        · have h2 := h1.aside ha (fun i hi hc => by have := HS0.out; omega)
          rw [hjj] at ha ⊢
          rw [← hjj] at ha ⊢
          refine (by rw [hjj]; rw [hjj] at h2; exact h2 : TOwn _ (fun i => W0.heap.size ≤ i ∧ i < wr.heap.size) (cells2 k q9 j d9) (.mk k xs)).mono fun i hi => ⟨by have := HS0.out; omega, Nat.lt_of_lt_of_le hi.2 ha.size⟩
      clear d1 hjj HG
      go_wp2
      refine bodyPost_ret (v := .agg (cells2 k q9 j d9)) (results_cell_row rfl _ _ (w.heap.size + 1) _ _ _ _ rfl HF.out.1 Tryz.underlying42 rfl (by kernel_rfl)) rfl ?_
      exact HF.out.2
end Go.Proofs.YtdahackmmhcjoaaGreat

/- The landed resolve: copyColumn. -/
namespace Go.Proofs.YtdahackmmhcjoaaGreat
open Go.RowKit

attribute [local go_sem] run_store_float

/-- a column is written into a place of the call's own -/
def put9 (w : World) (g : Nat) (v0 v1 v2 v3 v4 v5 v6 v7 v8 : Value) : World := (((((((((w.setCell ⟨g, 0, none⟩ v0).setCell ⟨g, 1, none⟩ v1).setCell ⟨g, 2, none⟩ v2).setCell ⟨g, 3, none⟩ v3).setCell ⟨g, 4, none⟩ v4).setCell ⟨g, 5, none⟩ v5).setCell ⟨g, 6, none⟩ v6).setCell ⟨g, 7, none⟩ v7).setCell ⟨g, 8, none⟩ v8)
section
variable {w w1 : World} {g : Nat} {a0 a1 a2 a3 a4 a5 a6 a7 a8 v0 v1 v2 v3 v4 v5 v6 v7 v8 : Value} {T : TypeId}
theorem put9_block (h : w1.heap[g]? = some (.cells #[a0, a1, a2, a3, a4, a5, a6, a7, a8] T (0, 0))) : (put9 w1 g v0 v1 v2 v3 v4 v5 v6 v7 v8).heap[g]? = some (.cells #[v0, v1, v2, v3, v4, v5, v6, v7, v8] T (0, 0)) := by
  unfold put9
  have h0 : ((w1.setCell ⟨g, 0, none⟩ v0)).heap[g]? = some (.cells #[v0, a1, a2, a3, a4, a5, a6, a7, a8] T (0, 0)) := blk_set h 0 v0
  have h1 : (((w1.setCell ⟨g, 0, none⟩ v0).setCell ⟨g, 1, none⟩ v1)).heap[g]? = some (.cells #[v0, v1, a2, a3, a4, a5, a6, a7, a8] T (0, 0)) := blk_set h0 1 v1
  have h2 : ((((w1.setCell ⟨g, 0, none⟩ v0).setCell ⟨g, 1, none⟩ v1).setCell ⟨g, 2, none⟩ v2)).heap[g]? = some (.cells #[v0, v1, v2, a3, a4, a5, a6, a7, a8] T (0, 0)) := blk_set h1 2 v2
  have h3 : (((((w1.setCell ⟨g, 0, none⟩ v0).setCell ⟨g, 1, none⟩ v1).setCell ⟨g, 2, none⟩ v2).setCell ⟨g, 3, none⟩ v3)).heap[g]? = some (.cells #[v0, v1, v2, v3, a4, a5, a6, a7, a8] T (0, 0)) := blk_set h2 3 v3
  have h4 : ((((((w1.setCell ⟨g, 0, none⟩ v0).setCell ⟨g, 1, none⟩ v1).setCell ⟨g, 2, none⟩ v2).setCell ⟨g, 3, none⟩ v3).setCell ⟨g, 4, none⟩ v4)).heap[g]? = some (.cells #[v0, v1, v2, v3, v4, a5, a6, a7, a8] T (0, 0)) := blk_set h3 4 v4
  have h5 : (((((((w1.setCell ⟨g, 0, none⟩ v0).setCell ⟨g, 1, none⟩ v1).setCell ⟨g, 2, none⟩ v2).setCell ⟨g, 3, none⟩ v3).setCell ⟨g, 4, none⟩ v4).setCell ⟨g, 5, none⟩ v5)).heap[g]? = some (.cells #[v0, v1, v2, v3, v4, v5, a6, a7, a8] T (0, 0)) := blk_set h4 5 v5
  have h6 : ((((((((w1.setCell ⟨g, 0, none⟩ v0).setCell ⟨g, 1, none⟩ v1).setCell ⟨g, 2, none⟩ v2).setCell ⟨g, 3, none⟩ v3).setCell ⟨g, 4, none⟩ v4).setCell ⟨g, 5, none⟩ v5).setCell ⟨g, 6, none⟩ v6)).heap[g]? = some (.cells #[v0, v1, v2, v3, v4, v5, v6, a7, a8] T (0, 0)) := blk_set h5 6 v6
  have h7 : (((((((((w1.setCell ⟨g, 0, none⟩ v0).setCell ⟨g, 1, none⟩ v1).setCell ⟨g, 2, none⟩ v2).setCell ⟨g, 3, none⟩ v3).setCell ⟨g, 4, none⟩ v4).setCell ⟨g, 5, none⟩ v5).setCell ⟨g, 6, none⟩ v6).setCell ⟨g, 7, none⟩ v7)).heap[g]? = some (.cells #[v0, v1, v2, v3, v4, v5, v6, v7, a8] T (0, 0)) := blk_set h6 7 v7
  have h8 : ((((((((((w1.setCell ⟨g, 0, none⟩ v0).setCell ⟨g, 1, none⟩ v1).setCell ⟨g, 2, none⟩ v2).setCell ⟨g, 3, none⟩ v3).setCell ⟨g, 4, none⟩ v4).setCell ⟨g, 5, none⟩ v5).setCell ⟨g, 6, none⟩ v6).setCell ⟨g, 7, none⟩ v7).setCell ⟨g, 8, none⟩ v8)).heap[g]? = some (.cells #[v0, v1, v2, v3, v4, v5, v6, v7, v8] T (0, 0)) := blk_set h7 8 v8
  exact h8
theorem put9_aside : Aside (fun j => j = g) w1 (put9 w1 g v0 v1 v2 v3 v4 v5 v6 v7 v8) := by
  unfold put9
  have h0 : Aside (fun j => j = g) w1 (w1.setCell ⟨g, 0, none⟩ v0) := (Aside.refl (fun j => j = g) w1).setCell (p := ⟨g, 0, none⟩) (.inl rfl) _
  have h1 := h0.setCell (p := ⟨g, 1, none⟩) (.inl rfl) v1
  have h2 := h1.setCell (p := ⟨g, 2, none⟩) (.inl rfl) v2
  have h3 := h2.setCell (p := ⟨g, 3, none⟩) (.inl rfl) v3
  have h4 := h3.setCell (p := ⟨g, 4, none⟩) (.inl rfl) v4
  have h5 := h4.setCell (p := ⟨g, 5, none⟩) (.inl rfl) v5
  have h6 := h5.setCell (p := ⟨g, 6, none⟩) (.inl rfl) v6
  have h7 := h6.setCell (p := ⟨g, 7, none⟩) (.inl rfl) v7
  have h8 := h7.setCell (p := ⟨g, 8, none⟩) (.inl rfl) v8
  exact h8
theorem put9_below {B : Nat} (h : Below B w w1) (hg : B ≤ g) : Below B w (put9 w1 g v0 v1 v2 v3 v4 v5 v6 v7 v8) := by
  unfold put9
  have h0 := h.setCell (p := ⟨g, 0, none⟩) hg v0
  have h1 := h0.setCell (p := ⟨g, 1, none⟩) hg v1
  have h2 := h1.setCell (p := ⟨g, 2, none⟩) hg v2
  have h3 := h2.setCell (p := ⟨g, 3, none⟩) hg v3
  have h4 := h3.setCell (p := ⟨g, 4, none⟩) hg v4
  have h5 := h4.setCell (p := ⟨g, 5, none⟩) hg v5
  have h6 := h5.setCell (p := ⟨g, 6, none⟩) hg v6
  have h7 := h6.setCell (p := ⟨g, 7, none⟩) hg v7
  have h8 := h7.setCell (p := ⟨g, 8, none⟩) hg v8
  exact h8
theorem put9_size : (put9 w1 g v0 v1 v2 v3 v4 v5 v6 v7 v8).heap.size = w1.heap.size := by
  simp [put9, World.setCell]
end
/-- what a fresh column's call answers -/
def FreshC (w : World) (y : Col) (e : Ending) (w' : World) : Prop := ∃ u', e = .returned (.agg u') ∧ COwn w' (fun k => w.heap.size ≤ k ∧ k < w'.heap.size) u' y ∧ Below w.heap.size w w'
/-- a type and a value of one's own, made since w0 -/
structure CopyC (w0 W : World) (uT uV : Array Value) (y : Ty) (x : V) : Prop where
  below : Below w0.heap.size w0 W
  own : ∃ F1 F2 : Nat → Prop, TOwn W F1 uT y ∧ VOwn W F2 uV x ∧ (∀ k, F1 k → w0.heap.size ≤ k ∧ k < W.heap.size) ∧ (∀ k, F2 k → w0.heap.size ≤ k ∧ k < W.heap.size) ∧ ∀ k, F1 k → ¬ F2 k
theorem copyC_tv {w0 wA wZ : World} {uT uV : Array Value} {y : Ty} {x : V} (hb : Below w0.heap.size w0 wA) (hT : TOwn wA (fun k => w0.heap.size ≤ k ∧ k < wA.heap.size) uT y) (hb2 : Below wA.heap.size wA wZ) (hV : VOwn wZ (fun k => wA.heap.size ≤ k ∧ k < wZ.heap.size) uV x) : CopyC w0 wZ uT uV y x :=
  ⟨hb.trans (hb2.mono hb.size), _, _, hT.under hb2 (fun k hk => hk.2), hV, fun k hk => ⟨hk.1, Nat.lt_of_lt_of_le hk.2 hb2.size⟩, fun k hk => ⟨Nat.le_trans hb.size hk.1, hk.2⟩, fun k h1 h2 => by have := h1.2; have := h2.1; omega⟩
theorem copyC_vt {w0 wA wZ : World} {uT uV : Array Value} {y : Ty} {x : V} (hb : Below w0.heap.size w0 wA) (hV : VOwn wA (fun k => w0.heap.size ≤ k ∧ k < wA.heap.size) uV x) (hb2 : Below wA.heap.size wA wZ) (hT : TOwn wZ (fun k => wA.heap.size ≤ k ∧ k < wZ.heap.size) uT y) : CopyC w0 wZ uT uV y x :=
  ⟨hb.trans (hb2.mono hb.size), _, _, hT, hV.under hb2 (fun k hk => hk.2), fun k hk => ⟨Nat.le_trans hb.size hk.1, hk.2⟩, fun k hk => ⟨hk.1, Nat.lt_of_lt_of_le hk.2 hb2.size⟩, fun k h1 h2 => by have := h1.1; have := h2.2; omega⟩

set_option maxRecDepth 100000 in
set_option maxHeartbeats 4000000 in
theorem copyColumnK (y : Col) (w : World) (u : Array Value) (hu : CLies w u y) : Calls Tryz.prog 39 #[.agg u] w (FreshC w y.fix) := by
  obtain ⟨k, tp, tn, tc, vk, vi, vb, vt, vp, vn, vc, rfl, hT, hV⟩ := hu.out
  unfold cells9
  obtain ⟨nm, hnm⟩ : ∃ nm, nm = y.name := ⟨_, rfl⟩
  obtain ⟨hh, hhh⟩ : ∃ hh, hh = y.has := ⟨_, rfl⟩
  rw [← hnm, ← hhh]
  obtain ⟨W0, hW0⟩ : ∃ W0, W0 = (w.alloc (.cells #[.string nm, .int .i64 k, .slice tp tn tc, .bool hh, .int .i64 vk, .int .i64 vi, .float .f64 vb, .string vt, .slice vp vn vc] 44)).alloc (.cells #[.string ⟨#[]⟩, .int .i64 0, .slice none 0 0, .bool false, .int .i64 0, .int .i64 0, .float .f64 0, .string ⟨#[]⟩, .slice none 0 0] 44) := ⟨_, rfl⟩
  obtain ⟨l0, l1, lb, ls⟩ := al2 w (.cells #[.string nm, .int .i64 k, .slice tp tn tc, .bool hh, .int .i64 vk, .int .i64 vi, .float .f64 vb, .string vt, .slice vp vn vc] 44) (.cells #[.string ⟨#[]⟩, .int .i64 0, .slice none 0 0, .bool false, .int .i64 0, .int .i64 0, .float .f64 0, .string ⟨#[]⟩, .slice none 0 0] 44)
  rw [← hW0] at l0 l1 lb ls
  have HW0 := Lib.hid hW0
  have HB0 := Lib.hid lb
  have HS0 := Lib.hid ls
  have HL := Lib.hid (And.intro l0 l1)
  have HCt : Hid (∀ w', Below W0.heap.size W0 w' → Calls Tryz.prog 59 #[.agg #[.int .i64 k, .slice tp tn tc]] w' (FreshT w' y.ty)) := fun w' h => copyTypeK y.ty w' _ ((hT.on lb).on h)
  have HCv : Hid (∀ w', Below W0.heap.size W0 w' → Calls Tryz.prog 26 #[.agg #[.int .i64 vk, .int .i64 vi, .float .f64 vb, .string vt, .slice vp vn vc]] w' (Fresh w' (V.fix y.dflt))) := fun w' h => fixK y.dflt w' _ ((hV.on lb).on h)
  have HEnd : Hid (∀ wZ kT pT nT cT kV iV bV tV pV nV cV, CopyC W0 wZ (cells2 kT pT nT cT) (cells5 kV iV bV tV pV nV cV) y.ty (V.fix y.dflt) → FreshC w y.fix (.returned (.agg #[.string nm, .int .i64 kT, .slice pT nT cT, .bool hh, .int .i64 kV, .int .i64 iV, .float .f64 bV, .string tV, .slice pV nV cV])) (put9 wZ (w.heap.size + 1) (.string nm) (.int .i64 kT) (.slice pT nT cT) (.bool hh) (.int .i64 kV) (.int .i64 iV) (.float .f64 bV) (.string tV) (.slice pV nV cV))) := fun wZ kT pT nT cT kV iV bV tV pV nV cV h => by
    obtain ⟨F1, F2, h1, h2, h3, h4, h5⟩ := h.own
    refine ⟨_, rfl, ?_, put9_below (lb.trans (h.below.mono lb.size)) (by omega)⟩
    refine ⟨F1, F2, kT, pT, nT, cT, kV, iV, bV, tV, pV, nV, cV, by rw [hnm, hhh]; rfl, h1.aside put9_aside (fun j hj hc => ?_), h2.aside put9_aside (fun j hj hc => ?_), fun j hj => ?_, fun j hj => ?_, h5⟩
    · have := h3 j hj; omega
    · have := h4 j hj; omega
    · rw [put9_size]; have := h3 j hj; omega
    · rw [put9_size]; have := h4 j hj; omega
  obtain ⟨xT, hxT⟩ : ∃ xT, xT = y.ty := ⟨_, rfl⟩
  obtain ⟨xV, hxV⟩ : ∃ xV, xV = V.fix y.dflt := ⟨_, rfl⟩
  rw [← hxT] at HCt HEnd
  rw [← hxV] at HCv HEnd
  have r0 : W0.cell? ⟨w.heap.size, 0, none⟩ = some (.string nm) := blk_at HL.out.1 (Below.refl _ _) 0
  have r1 : W0.cell? ⟨w.heap.size, 1, none⟩ = some (.int .i64 k) := blk_at HL.out.1 (Below.refl _ _) 1
  have r2 : W0.cell? ⟨w.heap.size, 2, none⟩ = some (.slice tp tn tc) := blk_at HL.out.1 (Below.refl _ _) 2
  have r3 : W0.cell? ⟨w.heap.size, 3, none⟩ = some (.bool hh) := blk_at HL.out.1 (Below.refl _ _) 3
  have r4 : W0.cell? ⟨w.heap.size, 4, none⟩ = some (.int .i64 vk) := blk_at HL.out.1 (Below.refl _ _) 4
  have r5 : W0.cell? ⟨w.heap.size, 5, none⟩ = some (.int .i64 vi) := blk_at HL.out.1 (Below.refl _ _) 5
  have r6 : W0.cell? ⟨w.heap.size, 6, none⟩ = some (.float .f64 vb) := blk_at HL.out.1 (Below.refl _ _) 6
  have r7 : W0.cell? ⟨w.heap.size, 7, none⟩ = some (.string vt) := blk_at HL.out.1 (Below.refl _ _) 7
  have r8 : W0.cell? ⟨w.heap.size, 8, none⟩ = some (.slice vp vn vc) := blk_at HL.out.1 (Below.refl _ _) 8
  clear hu hT hV hnm hhh hW0 l0 l1 lb ls hxT hxV
  go_enter Tryz.func39, Tryz.ntmps39
  go_wp2_with fail
  rw [← HW0.out]
  clear HW0
  go_region_law (first
    | (refine step_call1 (.tmp 6) 42 (by rfl) (by rfl) (by rfl) Tryz.func59 (by kernel_rfl) (by rfl) (HCt.out W0.drew (Below.refl _ _).drew) ?_
       rintro e wA ⟨u', he, hvT, hbA⟩
       obtain ⟨kT, pT, nT, cT, hu'⟩ := hvT.shape
       subst hu'
       unfold cells2 at he
       refine ⟨_, he, ?_⟩
       have hb' : Below W0.heap.size W0 wA := (Below.refl _ _).drew.trans hbA
       have r0 : wA.cell? ⟨w.heap.size, 0, none⟩ = some (.string nm) := blk_at HL.out.1 hb' 0
       have r1 : wA.cell? ⟨w.heap.size, 1, none⟩ = some (.int .i64 k) := blk_at HL.out.1 hb' 1
       have r2 : wA.cell? ⟨w.heap.size, 2, none⟩ = some (.slice tp tn tc) := blk_at HL.out.1 hb' 2
       have r3 : wA.cell? ⟨w.heap.size, 3, none⟩ = some (.bool hh) := blk_at HL.out.1 hb' 3
       have r4 : wA.cell? ⟨w.heap.size, 4, none⟩ = some (.int .i64 vk) := blk_at HL.out.1 hb' 4
       have r5 : wA.cell? ⟨w.heap.size, 5, none⟩ = some (.int .i64 vi) := blk_at HL.out.1 hb' 5
       have r6 : wA.cell? ⟨w.heap.size, 6, none⟩ = some (.float .f64 vb) := blk_at HL.out.1 hb' 6
       have r7 : wA.cell? ⟨w.heap.size, 7, none⟩ = some (.string vt) := blk_at HL.out.1 hb' 7
       have r8 : wA.cell? ⟨w.heap.size, 8, none⟩ = some (.slice vp vn vc) := blk_at HL.out.1 hb' 8
       have HTA := Lib.hid (And.intro hb' hvT)
       clear he hvT hbA hb')
    | (refine step_call1 (.tmp 11) 35 (by rfl) (by rfl) (by rfl) Tryz.func26 (by kernel_rfl) (by rfl) (HCv.out W0.drew (Below.refl _ _).drew) ?_
       rintro e wA ⟨u', he, hvV, hbA⟩
       obtain ⟨kV, iV, bV, tV, pV, nV, cV, hu'⟩ := hvV.shape
       subst hu'
       unfold cells5 at he
       refine ⟨_, he, ?_⟩
       have hb' : Below W0.heap.size W0 wA := (Below.refl _ _).drew.trans hbA
       have r0 : wA.cell? ⟨w.heap.size, 0, none⟩ = some (.string nm) := blk_at HL.out.1 hb' 0
       have r1 : wA.cell? ⟨w.heap.size, 1, none⟩ = some (.int .i64 k) := blk_at HL.out.1 hb' 1
       have r2 : wA.cell? ⟨w.heap.size, 2, none⟩ = some (.slice tp tn tc) := blk_at HL.out.1 hb' 2
       have r3 : wA.cell? ⟨w.heap.size, 3, none⟩ = some (.bool hh) := blk_at HL.out.1 hb' 3
       have r4 : wA.cell? ⟨w.heap.size, 4, none⟩ = some (.int .i64 vk) := blk_at HL.out.1 hb' 4
       have r5 : wA.cell? ⟨w.heap.size, 5, none⟩ = some (.int .i64 vi) := blk_at HL.out.1 hb' 5
       have r6 : wA.cell? ⟨w.heap.size, 6, none⟩ = some (.float .f64 vb) := blk_at HL.out.1 hb' 6
       have r7 : wA.cell? ⟨w.heap.size, 7, none⟩ = some (.string vt) := blk_at HL.out.1 hb' 7
       have r8 : wA.cell? ⟨w.heap.size, 8, none⟩ = some (.slice vp vn vc) := blk_at HL.out.1 hb' 8
       have HVA := Lib.hid (And.intro hb' hvV)
       clear he hvV hbA hb')
    | (refine step_call1 (.tmp 11) 35 (by rfl) (by rfl) (by rfl) Tryz.func26 (by kernel_rfl) (by rfl) (HCv.out wA HTA.out.1) ?_
       rintro e wZ ⟨u', he, hvV, hbZ⟩
       obtain ⟨kV, iV, bV, tV, pV, nV, cV, hu'⟩ := hvV.shape
       subst hu'
       have HZ := Lib.hid (copyC_tv HTA.out.1 HTA.out.2 hbZ hvV)
       unfold cells5 at he
       refine ⟨_, he, ?_⟩
       have hb' : Below W0.heap.size W0 wZ := HZ.out.below
       have r0 : wZ.cell? ⟨w.heap.size, 0, none⟩ = some (.string nm) := blk_at HL.out.1 hb' 0
       have r1 : wZ.cell? ⟨w.heap.size, 1, none⟩ = some (.int .i64 k) := blk_at HL.out.1 hb' 1
       have r2 : wZ.cell? ⟨w.heap.size, 2, none⟩ = some (.slice tp tn tc) := blk_at HL.out.1 hb' 2
       have r3 : wZ.cell? ⟨w.heap.size, 3, none⟩ = some (.bool hh) := blk_at HL.out.1 hb' 3
       have r4 : wZ.cell? ⟨w.heap.size, 4, none⟩ = some (.int .i64 vk) := blk_at HL.out.1 hb' 4
       have r5 : wZ.cell? ⟨w.heap.size, 5, none⟩ = some (.int .i64 vi) := blk_at HL.out.1 hb' 5
       have r6 : wZ.cell? ⟨w.heap.size, 6, none⟩ = some (.float .f64 vb) := blk_at HL.out.1 hb' 6
       have r7 : wZ.cell? ⟨w.heap.size, 7, none⟩ = some (.string vt) := blk_at HL.out.1 hb' 7
       have r8 : wZ.cell? ⟨w.heap.size, 8, none⟩ = some (.slice vp vn vc) := blk_at HL.out.1 hb' 8
       have s0 : wZ.cell? ⟨w.heap.size + 1, 0, none⟩ = some (.string ⟨#[]⟩) := blk_at HL.out.2 hb' 0
       have s1 : wZ.cell? ⟨w.heap.size + 1, 1, none⟩ = some (.int .i64 0) := blk_at HL.out.2 hb' 1
       have s2 : wZ.cell? ⟨w.heap.size + 1, 2, none⟩ = some (.slice none 0 0) := blk_at HL.out.2 hb' 2
       have s3 : wZ.cell? ⟨w.heap.size + 1, 3, none⟩ = some (.bool false) := blk_at HL.out.2 hb' 3
       have s4 : wZ.cell? ⟨w.heap.size + 1, 4, none⟩ = some (.int .i64 0) := blk_at HL.out.2 hb' 4
       have s5 : wZ.cell? ⟨w.heap.size + 1, 5, none⟩ = some (.int .i64 0) := blk_at HL.out.2 hb' 5
       have s6 : wZ.cell? ⟨w.heap.size + 1, 6, none⟩ = some (.float .f64 0) := blk_at HL.out.2 hb' 6
       have s7 : wZ.cell? ⟨w.heap.size + 1, 7, none⟩ = some (.string ⟨#[]⟩) := blk_at HL.out.2 hb' 7
       have s8 : wZ.cell? ⟨w.heap.size + 1, 8, none⟩ = some (.slice none 0 0) := blk_at HL.out.2 hb' 8
       have f0 : wZ.frozen? ⟨w.heap.size + 1, 0, none⟩ = false := blk_free ((hb'.block _ (blk_lt HL.out.2)).trans HL.out.2) 0
       have f1 : wZ.frozen? ⟨w.heap.size + 1, 1, none⟩ = false := blk_free ((hb'.block _ (blk_lt HL.out.2)).trans HL.out.2) 1
       have f2 : wZ.frozen? ⟨w.heap.size + 1, 2, none⟩ = false := blk_free ((hb'.block _ (blk_lt HL.out.2)).trans HL.out.2) 2
       have f3 : wZ.frozen? ⟨w.heap.size + 1, 3, none⟩ = false := blk_free ((hb'.block _ (blk_lt HL.out.2)).trans HL.out.2) 3
       have f4 : wZ.frozen? ⟨w.heap.size + 1, 4, none⟩ = false := blk_free ((hb'.block _ (blk_lt HL.out.2)).trans HL.out.2) 4
       have f5 : wZ.frozen? ⟨w.heap.size + 1, 5, none⟩ = false := blk_free ((hb'.block _ (blk_lt HL.out.2)).trans HL.out.2) 5
       have f6 : wZ.frozen? ⟨w.heap.size + 1, 6, none⟩ = false := blk_free ((hb'.block _ (blk_lt HL.out.2)).trans HL.out.2) 6
       have f7 : wZ.frozen? ⟨w.heap.size + 1, 7, none⟩ = false := blk_free ((hb'.block _ (blk_lt HL.out.2)).trans HL.out.2) 7
       have f8 : wZ.frozen? ⟨w.heap.size + 1, 8, none⟩ = false := blk_free ((hb'.block _ (blk_lt HL.out.2)).trans HL.out.2) 8
       clear he hvV hbZ hb' HTA)
    | (refine step_call1 (.tmp 6) 42 (by rfl) (by rfl) (by rfl) Tryz.func59 (by kernel_rfl) (by rfl) (HCt.out wA HVA.out.1) ?_
       rintro e wZ ⟨u', he, hvT, hbZ⟩
       obtain ⟨kT, pT, nT, cT, hu'⟩ := hvT.shape
       subst hu'
       have HZ := Lib.hid (copyC_vt HVA.out.1 HVA.out.2 hbZ hvT)
       unfold cells2 at he
       refine ⟨_, he, ?_⟩
       have hb' : Below W0.heap.size W0 wZ := HZ.out.below
       have r0 : wZ.cell? ⟨w.heap.size, 0, none⟩ = some (.string nm) := blk_at HL.out.1 hb' 0
       have r1 : wZ.cell? ⟨w.heap.size, 1, none⟩ = some (.int .i64 k) := blk_at HL.out.1 hb' 1
       have r2 : wZ.cell? ⟨w.heap.size, 2, none⟩ = some (.slice tp tn tc) := blk_at HL.out.1 hb' 2
       have r3 : wZ.cell? ⟨w.heap.size, 3, none⟩ = some (.bool hh) := blk_at HL.out.1 hb' 3
       have r4 : wZ.cell? ⟨w.heap.size, 4, none⟩ = some (.int .i64 vk) := blk_at HL.out.1 hb' 4
       have r5 : wZ.cell? ⟨w.heap.size, 5, none⟩ = some (.int .i64 vi) := blk_at HL.out.1 hb' 5
       have r6 : wZ.cell? ⟨w.heap.size, 6, none⟩ = some (.float .f64 vb) := blk_at HL.out.1 hb' 6
       have r7 : wZ.cell? ⟨w.heap.size, 7, none⟩ = some (.string vt) := blk_at HL.out.1 hb' 7
       have r8 : wZ.cell? ⟨w.heap.size, 8, none⟩ = some (.slice vp vn vc) := blk_at HL.out.1 hb' 8
       have s0 : wZ.cell? ⟨w.heap.size + 1, 0, none⟩ = some (.string ⟨#[]⟩) := blk_at HL.out.2 hb' 0
       have s1 : wZ.cell? ⟨w.heap.size + 1, 1, none⟩ = some (.int .i64 0) := blk_at HL.out.2 hb' 1
       have s2 : wZ.cell? ⟨w.heap.size + 1, 2, none⟩ = some (.slice none 0 0) := blk_at HL.out.2 hb' 2
       have s3 : wZ.cell? ⟨w.heap.size + 1, 3, none⟩ = some (.bool false) := blk_at HL.out.2 hb' 3
       have s4 : wZ.cell? ⟨w.heap.size + 1, 4, none⟩ = some (.int .i64 0) := blk_at HL.out.2 hb' 4
       have s5 : wZ.cell? ⟨w.heap.size + 1, 5, none⟩ = some (.int .i64 0) := blk_at HL.out.2 hb' 5
       have s6 : wZ.cell? ⟨w.heap.size + 1, 6, none⟩ = some (.float .f64 0) := blk_at HL.out.2 hb' 6
       have s7 : wZ.cell? ⟨w.heap.size + 1, 7, none⟩ = some (.string ⟨#[]⟩) := blk_at HL.out.2 hb' 7
       have s8 : wZ.cell? ⟨w.heap.size + 1, 8, none⟩ = some (.slice none 0 0) := blk_at HL.out.2 hb' 8
       have f0 : wZ.frozen? ⟨w.heap.size + 1, 0, none⟩ = false := blk_free ((hb'.block _ (blk_lt HL.out.2)).trans HL.out.2) 0
       have f1 : wZ.frozen? ⟨w.heap.size + 1, 1, none⟩ = false := blk_free ((hb'.block _ (blk_lt HL.out.2)).trans HL.out.2) 1
       have f2 : wZ.frozen? ⟨w.heap.size + 1, 2, none⟩ = false := blk_free ((hb'.block _ (blk_lt HL.out.2)).trans HL.out.2) 2
       have f3 : wZ.frozen? ⟨w.heap.size + 1, 3, none⟩ = false := blk_free ((hb'.block _ (blk_lt HL.out.2)).trans HL.out.2) 3
       have f4 : wZ.frozen? ⟨w.heap.size + 1, 4, none⟩ = false := blk_free ((hb'.block _ (blk_lt HL.out.2)).trans HL.out.2) 4
       have f5 : wZ.frozen? ⟨w.heap.size + 1, 5, none⟩ = false := blk_free ((hb'.block _ (blk_lt HL.out.2)).trans HL.out.2) 5
       have f6 : wZ.frozen? ⟨w.heap.size + 1, 6, none⟩ = false := blk_free ((hb'.block _ (blk_lt HL.out.2)).trans HL.out.2) 6
       have f7 : wZ.frozen? ⟨w.heap.size + 1, 7, none⟩ = false := blk_free ((hb'.block _ (blk_lt HL.out.2)).trans HL.out.2) 7
       have f8 : wZ.frozen? ⟨w.heap.size + 1, 8, none⟩ = false := blk_free ((hb'.block _ (blk_lt HL.out.2)).trans HL.out.2) 8
       clear he hvT hbZ hb' HVA)
    | fail)
  all_goals
    have HE := Lib.hid (HEnd.out wZ kT pT nT cT kV iV bV tV pV nV cV HZ.out)
    have HP := Lib.hid (put9_block (w1 := wZ) (g := w.heap.size + 1) (T := 44) (v0 := .string nm) (v1 := .int .i64 kT) (v2 := .slice pT nT cT) (v3 := .bool hh) (v4 := .int .i64 kV) (v5 := .int .i64 iV) (v6 := .float .f64 bV) (v7 := .string tV) (v8 := .slice pV nV cV) ((HZ.out.below.block _ (blk_lt HL.out.2)).trans HL.out.2))
    unfold put9 at HE HP
    go_wp2
    refine bodyPost_ret (results_cell_row rfl _ _ (w.heap.size + 1) _ _ _ _ rfl HP.out Tryz.underlying44 rfl (by kernel_rfl)) rfl ?_
    exact HE.out
end Go.Proofs.YtdahackmmhcjoaaGreat
