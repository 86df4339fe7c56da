/- The landed splitter: Feed. -/
import Derived.Test.YtpgilfglfcnihaaK13C
import Derived.Test.YtpgilfglfcnihaaStr
namespace Go.Proofs.Ytpgilfglfcnihaa
open Go.RowKit
attribute [local go_sem] runK_store_func

theorem infoRun : (Try.prog.info? 39).map (fun i => (i.zero, i.size, i.bytes)) = some (some (.agg #[.int .i64 0, .slice none 0 0]), 2, 32) := by kernel_rfl

/-- runs in memory of one's own; their bytes lie in the blocks bs -/
structure RunsO (w : World) (B : Nat) (v : Value) (bs : List Nat) (rs : List Run) : Prop where
  out : ∃ us : List Value, w.ownsRow B 39 2 v rs.length us ∧ bs.length = rs.length ∧ ∀ j (hj : j < rs.length), ∃ g cap, bs[j]? = some g ∧ us[j * 2]? = some (.int .i64 rs[j].1) ∧ us[j * 2 + 1]? = some (.slice (some ⟨g, 0, none⟩) rs[j].2.length cap) ∧ Mine w B g cap rs[j].2
theorem runsO_nil (w : World) (B : Nat) : RunsO w B (.slice none 0 0) [] [] := ⟨[], ⟨rfl, .inl ⟨rfl, rfl⟩⟩, rfl, fun j hj => by simp at hj⟩
section
variable {w w' : World} {B : Nat} {v : Value} {bs : List Nat} {rs : List Run}
theorem RunsO.lt (h : RunsO w B v bs rs) : ∀ k, v.ownBlock = some k → B ≤ k ∧ k < w.heap.size := by
  obtain ⟨us, h1, _⟩ := h.out
  exact World.ownsRow.lt h1
theorem RunsO.mem (h : RunsO w B v bs rs) : ∀ k ∈ bs, B ≤ k ∧ k < w.heap.size := by
  obtain ⟨us, h1, hl, h2⟩ := h.out
  intro k hk
  obtain ⟨j, hj, rfl⟩ := List.mem_iff_getElem.1 hk
  obtain ⟨g, cap, e1, _, _, hm⟩ := h2 j (by omega)
  rw [List.getElem?_eq_getElem hj] at e1
  injection e1 with e1
  rw [e1]
  exact ⟨hm.base.1, hm.base.2.1⟩
theorem mine_aside {F : Nat → Prop} {g cap : Nat} {l : List UInt8} (h : Mine w B g cap l) (ha : Aside F w w') (hF : ¬ F g) : Mine w' B g cap l :=
  Has.aside (v := .slice (some ⟨g, 0, none⟩) l.length cap) h ha (fun k hk hc => by simp only [Value.ownBlock, Option.some.injEq] at hk; subst hk; exact hF hc)
theorem mine_low {B' g cap : Nat} {l : List UInt8} (h : Mine w B g cap l) (hB : B' ≤ B) : Mine w B' g cap l := Has.low (v := .slice (some ⟨g, 0, none⟩) l.length cap) h hB
theorem RunsO.aside {F : Nat → Prop} (h : RunsO w B v bs rs) (ha : Aside F w w') (hv : ∀ k, v.ownBlock = some k → ¬ F k) (hF : ∀ k ∈ bs, ¬ F k) : RunsO w' B v bs rs := by
  obtain ⟨us, h1, hl, h2⟩ := h.out
  refine ⟨us, ⟨h1.1, ?_⟩, hl, fun j hj => ?_⟩
  · rcases h1.2 with h3 | ⟨g, cap, cur, rfl, h4, h5, h6⟩
    · exact .inl h3
    · exact .inr ⟨g, cap, cur, rfl, h4, by rw [ha.block g (lies_lt h5) (hv g rfl)]; exact h5, h6⟩
  · obtain ⟨g, cap, e1, e2, e3, hm⟩ := h2 j hj
    exact ⟨g, cap, e1, e2, e3, mine_aside hm ha (hF g (List.mem_of_getElem? e1))⟩
theorem RunsO.on (h : RunsO w B v bs rs) (hb : Below w.heap.size w w') : RunsO w' B v bs rs := h.aside (aside_new hb (fun _ => False)) (fun _ _ hc => hc) (fun _ _ hc => hc)
theorem RunsO.form (h : RunsO w B v bs rs) : ∃ q c, v = .slice q rs.length c ∧ rs.length ≤ c := by
  obtain ⟨us, h1, h2⟩ := h.out
  rcases h1.2 with ⟨rfl, h3⟩ | ⟨g, cap, cur, rfl, _, _, h4, _⟩
  · exact ⟨none, 0, by rw [h3], by omega⟩
  · exact ⟨_, _, rfl, h4⟩
end

theorem RunsO.apart {w : World} {B g : Nat} {v : Value} {bs : List Nat} {rs : List Run} (h : RunsO w B v bs rs) {C : Array Value} {T : TypeId} (hg : w.heap[g]? = some (.cells C T)) (hT : T ≠ 39) : v.ownBlock ≠ some g := by
  intro hc
  obtain ⟨us, h1, -⟩ := h.out
  rcases h1.2 with ⟨h1, _⟩ | ⟨g', cap, cur, h1, _, h3, _⟩
  · rw [h1] at hc; cases hc
  · rw [h1] at hc
    simp only [Value.ownBlock, Option.some.injEq] at hc
    subst hc
    rw [h3] at hg
    injection hg with h4
    injection h4 with _ h5
    exact hT h5.symm
theorem mine_block {w : World} {B g cap : Nat} {l : List UInt8} (h : Mine w B g cap l) : ∃ C, w.heap[g]? = some (.cells C 5) := by
  rcases h.2 with ⟨h1, _⟩ | ⟨g', cap', cur, h1, _, h3, _⟩
  · cases h1
  · cases h1
    exact ⟨cur, h3⟩
theorem has_block {w : World} {B g : Nat} {v : Value} {l : List UInt8} (h : Has w B v l) (hv : v.ownBlock = some g) : ∃ C, w.heap[g]? = some (.cells C 5) := by
  rcases h.2 with ⟨h1, _⟩ | ⟨g', cap', cur, h1, _, h3, _⟩
  · rw [h1] at hv; cases hv
  · rw [h1] at hv
    simp only [Value.ownBlock, Option.some.injEq] at hv
    subst hv
    exact ⟨cur, h3⟩
theorem RunsO.block {w : World} {B : Nat} {v : Value} {bs : List Nat} {rs : List Run} (h : RunsO w B v bs rs) : ∀ k ∈ bs, ∃ C, w.heap[k]? = some (.cells C 5) := by
  obtain ⟨us, h1, hl, h2⟩ := h.out
  intro k hk
  obtain ⟨j, hj, rfl⟩ := List.mem_iff_getElem.1 hk
  obtain ⟨g, cap, e1, _, _, hm⟩ := h2 j (by omega)
  rw [List.getElem?_eq_getElem hj] at e1
  injection e1 with e1
  rw [e1]
  exact mine_block hm

/-- one run more, in the walk -/
theorem wp_moreR {w : World} {B ad H : Nat} {v : Value} {bs : List Nat} {rs : List Run} (hr : RunsO w B v bs rs) (k : Nat) (ls : List UInt8) (g2 c2 : Nat) (hm : Mine w B g2 c2 ls) (hblk : w.heap[ad]? = some (.cells #[.int .i64 k, .slice (some ⟨g2, 0, none⟩) ls.length c2] 39 (0, 0))) (hn : rs.length ≤ 1000000000) (hB : B ≤ w.heap.size) (hH : w.heap.size = H)
    {ops : Array Oper} {rest : List Oper} {o : Oper} {a : Act} {Q : Exit → Act → World → Prop} {y x : Operand}
    (hg : o.guard = none) (hop : o.op = Op.call { callee := Callee.builtin Builtin.append, args := #[y, x], argTypes := #[25, 25] })
    (hs : a.eval y = v) (hx : a.eval x = .slice (some ⟨ad, 0, none⟩) 1 1)
    (hK : ∀ g cap w', RunsO w' B (.slice (some ⟨g, 0, none⟩) (rs.length + 1) cap) (bs ++ [g2]) (rs ++ [(k, ls)]) → Aside (fun j => v.ownBlock = some j) w w' → (v.ownBlock = some g ∨ g = H) → wpList Try.prog ops Q rest (a.put o.dst (.slice (some ⟨g, 0, none⟩) (rs.length + 1) cap)) w') :
    wpList Try.prog ops Q (o :: rest) a w := by
  obtain ⟨i, hi, hz, hsz, hby⟩ := info_parts infoRun
  obtain ⟨us, h1, hl, h2⟩ := hr.out
  refine wpList_append_lies w hg y x 25 hop B 39 i (.agg #[.int .i64 0, .slice none 0 0]) 2 32 Try.underlying25 hi hz hsz hby rfl (by decide) v rs.length us hs h1 ⟨ad, 0, none⟩ 1 1 _ hx (by simp)
    (World.news_of_block hblk) (by intro a ha; simp at ha; rcases ha with rfl | rfl <;> rfl) (by decide) (by unfold maxLen; omega) (by omega) hB H hH fun g cap w' h3 h4 h5 _ => ?_
  have ha := aside_grew h4
  have hul : us.length = rs.length * 2 := h1.1
  refine hK g cap w' ⟨us ++ [.int .i64 k, .slice (some ⟨g2, 0, none⟩) ls.length c2], ?_, by simp [hl], fun j hj => ?_⟩ ha h5
  · rw [List.length_append, List.length_singleton]
    simpa using h3
  · by_cases hje : j < rs.length
    · obtain ⟨g', cap', e1, e2, e3, e4⟩ := h2 j hje
      refine ⟨g', cap', ?_, ?_, ?_, ?_⟩
      · rw [List.getElem?_append_left (by omega)]; exact e1
      · rw [List.getElem?_append_left (by omega), e2, List.getElem_append_left hje]
      · rw [List.getElem?_append_left (by omega), e3, List.getElem_append_left hje]
      · rw [List.getElem_append_left hje]
        obtain ⟨C, hC⟩ := mine_block e4
        exact mine_aside e4 ha (fun hc => hr.apart hC (by decide) hc)
    · have hj2 : j = rs.length := by rw [List.length_append, List.length_singleton] at hj; omega
      subst hj2
      obtain ⟨C, hC⟩ := mine_block hm
      refine ⟨g2, c2, ?_, ?_, ?_, ?_⟩
      · rw [List.getElem?_append_right (by omega), hl]; simp
      · rw [List.getElem?_append_right (by omega), hul]; simp
      · rw [List.getElem?_append_right (by omega), hul, show rs.length * 2 + 1 - rs.length * 2 = 1 by omega]; simp
      · simp only [List.getElem_append_right (Nat.le_refl _), Nat.sub_self, List.getElem_cons_zero]
        exact mine_aside hm ha (fun hc => hr.apart hC (by decide) hc)

/-- how things stand within Feed, behind the bytes m -/
structure FI (w wr : World) (B g : Nat) (v rv v' : Value) (bs : List Nat) (d : Sp) (m : List UInt8) : Prop where
  spl : Spl wr B g v' (d.run m)
  runs : RunsO wr w.heap.size rv bs (d.tolds m)
  aside : Aside (fun i => i = g ∨ v.ownBlock = some i) w wr
  own : ∀ k, v'.ownBlock = some k → v.ownBlock = some k ∨ w.heap.size ≤ k
  off : ∀ k ∈ bs, v'.ownBlock ≠ some k
section
variable {w wr w1 w2 : World} {B g : Nat} {v rv v' v2 : Value} {bs : List Nat} {d : Sp} {m : List UInt8} {c : UInt8}
/-- the list and its bytes stay -/
theorem FI.keeps (h : FI w wr B g v rv v' bs d m) (hn : Nxt wr w1 B g v' v2 (d.run m) c) (hb : Below w1.heap.size w1 w2) : RunsO w2 w.heap.size rv bs (d.tolds m) ∧ (∀ k ∈ bs, v2.ownBlock ≠ some k) := by
  constructor
  · refine (h.runs.aside hn.aside (fun k hk hc => ?_) (fun k hk hc => ?_)).on hb
    · rcases hc with hc | hc
      · subst hc
        exact h.runs.apart h.spl.lies (by decide) hk
      · obtain ⟨C, hC⟩ := has_block h.spl.held hc
        exact h.runs.apart hC (by decide) hk
    · rcases hc with hc | hc
      · subst hc
        obtain ⟨C, hC⟩ := h.runs.block k hk
        rw [h.spl.lies] at hC
        injection hC with hC
        injection hC with _ hC
        exact absurd hC (by decide)
      · exact h.off k hk hc
  · intro k hk hc
    rcases hn.own k hc with h1 | h1
    · exact h.off k hk h1
    · have := (h.runs.mem k hk).2
      omega
theorem Nxt.later (hn : Nxt wr w1 B g v' v2 d c) (hb : Below w1.heap.size w1 w2) : Nxt wr w2 B g v' v2 d c := hn.beside (F := fun _ => False) (aside_new hb _) (fun h => h) (fun _ _ h => h) (fun _ _ h => h)
theorem feed_none (h : FI w wr B g v rv v' bs d m) (hn : Nxt wr w1 B g v' v2 (d.run m) c) (ht : (d.run m).told c = []) (hb : Below w1.heap.size w1 w2) (n : Nat) (hN : n = (d.run m).n + 1) : FI w (w2.setCell ⟨g, 0, none⟩ (.int .i64 (n : Int))) B g v rv v2 bs d (m ++ [c]) := by
  subst hN
  have hn2 := hn.later hb
  obtain ⟨k1, k2⟩ := h.keeps hn hb
  have hs := h.aside.size
  have hset : Aside (· = g) w2 (w2.setCell ⟨g, 0, none⟩ (.int .i64 (((d.run m).n + 1 : Nat) : Int))) := (Aside.refl (· = g) w2).setCell (p := ⟨g, 0, none⟩) (.inl rfl) _
  refine ⟨?_, ?_, ?_, ?_, k2⟩
  · rw [Sp.run_snoc]
    exact hn2.spl h.spl
  · rw [Sp.tolds_snoc, ht, List.append_nil]
    refine k1.aside hset (fun k hk hc => ?_) (fun k hk hc => ?_)
    · subst hc
      exact k1.apart hn2.lies (by decide) hk
    · subst hc
      obtain ⟨C, hC⟩ := k1.block k hk
      rw [hn2.lies] at hC
      injection hC with hC
      injection hC with _ hC
      exact absurd hC (by decide)
  · refine (h.aside.trans hn2.aside (fun i hi hc => ?_)).setCell (p := ⟨g, 0, none⟩) (.inl (.inl rfl)) _
    rcases hc with hc | hc
    · exact .inl hc
    · rcases h.own i hc with h1 | h1
      · exact .inr h1
      · omega
  · intro k hk
    rcases hn.own k hk with h1 | h1
    · exact h.own k h1
    · exact .inr (by omega)
theorem feed_some {W : World} {rv2 : Value} {g2 k : Nat} {ls : List UInt8} (h : FI w wr B g v rv v' bs d m) (hn : Nxt wr w1 B g v' v2 (d.run m) c) (ht : (d.run m).told c = [(k, ls)]) (hb : Below w1.heap.size w1 w2) (ho : v2.ownBlock ≠ some g2) (hW : Aside (fun j => rv.ownBlock = some j) w2 W) (hR : RunsO W w.heap.size rv2 (bs ++ [g2]) (d.tolds m ++ [(k, ls)])) (n : Nat) (hN : n = (d.run m).n + 1) : FI w (W.setCell ⟨g, 0, none⟩ (.int .i64 (n : Int))) B g v rv2 v2 (bs ++ [g2]) d (m ++ [c]) := by
  subst hN
  have hn2 := hn.later hb
  obtain ⟨k1, k2⟩ := h.keeps hn hb
  have hs := h.aside.size
  have hlow : ∀ j, rv.ownBlock = some j → w.heap.size ≤ j := fun j hj => (k1.lt j hj).1
  have hg : rv.ownBlock ≠ some g := k1.apart hn2.lies (by decide)
  have hv2 : ∀ j, v2.ownBlock = some j → ¬ rv.ownBlock = some j := fun j hj => by
    obtain ⟨C, hC⟩ := has_block hn2.held hj
    exact k1.apart hC (by decide)
  have hlies : W.heap[g]? = _ := (hW.block g (lies_lt hn2.lies) hg).trans hn2.lies
  have hheld := hn2.held.aside hW hv2
  have hset : Aside (· = g) W (W.setCell ⟨g, 0, none⟩ (.int .i64 (((d.run m).n + 1 : Nat) : Int))) := (Aside.refl (· = g) W).setCell (p := ⟨g, 0, none⟩) (.inl rfl) _
  refine ⟨?_, ?_, ?_, ?_, ?_⟩
  · rw [Sp.run_snoc]
    refine ⟨s_set hlies 0 _ (by rw [Sp.step_n]; rfl), hheld.aside hset (fun j hj hc => has_apart hheld hlies (by decide) (by rw [hj, hc])), h.spl.base⟩
  · rw [Sp.tolds_snoc, ht]
    refine hR.aside hset (fun k hk hc => ?_) (fun k hk hc => ?_)
    · subst hc
      exact hR.apart hlies (by decide) hk
    · subst hc
      obtain ⟨C, hC⟩ := hR.block k hk
      rw [hlies] at hC
      injection hC with hC
      injection hC with _ hC
      exact absurd hC (by decide)
  · refine ((h.aside.trans hn2.aside (fun i hi hc => ?_)).trans hW (fun i hi hc => ?_)).setCell (p := ⟨g, 0, none⟩) (.inl (.inl rfl)) _
    · rcases hc with hc | hc
      · exact .inl hc
      · rcases h.own i hc with h1 | h1
        · exact .inr h1
        · omega
    · have := hlow i hc
      omega
  · intro k hk
    rcases hn.own k hk with h1 | h1
    · exact h.own k h1
    · exact .inr (by omega)
  · intro k hk
    rcases List.mem_append.1 hk with h1 | h1
    · exact k2 k h1
    · rw [List.mem_singleton.1 h1]
      exact ho
end
theorem FI.start {w : World} {B g : Nat} {v : Value} {d : Sp} (h : Spl w B g v d) : FI w w B g v (.slice none 0 0) v [] d [] :=
  ⟨h, by rw [Sp.tolds_nil]; exact runsO_nil _ _, Aside.refl _ _, fun _ h => .inl h, fun _ h => by cases h⟩
end Go.Proofs.Ytpgilfglfcnihaa
