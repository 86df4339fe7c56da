/- K9K, K9L: put together. -/
import Derived.Test.YtdahackmmhcjoaaGreatM15
import Derived.Test.YtdahackmmhcjoaaGreatM14

/- The landed resolve: names that stand there; Project. -/
namespace Go.Proofs.YtdahackmmhcjoaaGreat
open Go.RowKit

/-- names lie in a row -/
def Names (w : World) (p : Option Addr) (l : List ByteArray) : Prop := l = [] ∨ ∃ blk off, p = some ⟨blk, off, none⟩ ∧ blk < w.heap.size ∧ ∀ j (h : j < l.length), w.cell? ⟨blk, off + j, none⟩ = some (.string l[j])
theorem Names.on {w w' : World} {p : Option Addr} {l : List ByteArray} (h : Names w p l) (hb : Below w.heap.size w w') : Names w' p l := by
  rcases h with h | ⟨blk, off, h1, h2, h3⟩
  · exact .inl h
  · exact .inr ⟨blk, off, h1, Nat.lt_of_lt_of_le h2 hb.size, fun j hj => cell_on hb (h3 j hj)⟩
theorem Names.at {w : World} {p : Option Addr} {l : List ByteArray} (h : Names w p l) (j : Nat) (hj : j < l.length) : ∃ blk off, p = some ⟨blk, off, none⟩ ∧ w.cell? ⟨blk, off + j, none⟩ = some (.string l[j]) := by
  rcases h with h | ⟨blk, off, h1, h2, h3⟩
  · rw [h] at hj; simp at hj
  · exact ⟨blk, off, h1, h3 j hj⟩
/-- c[:n] -/
def headN (p : Option Addr) (c : Nat) : Option Addr := if c = 0 then p else p.map (·.add 0)
theorem run_headN (p : Option Addr) (len c n : Nat) (h : n ≤ c) (w : World) : (Instr.slice 56 (.slice p len c) none (some (.int .i64 n)) none).run Tryz.prog w = .ok (.slice (headN p c) n c) w := by
  have hs : (sizeOf (Tryz.prog.elem 56)).run Tryz.prog w = .ok 1 w := by kernel_rfl
  rw [run_slice_h w 56 p len c (by kernel_rfl) .i64 (n : Int) (by omega) (by omega), hs]
  simp [sliced, headN, Result.andThen]
theorem Names.head {w : World} {p : Option Addr} {l : List ByteArray} (h : Names w p l) (n c : Nat) : Names w (headN p c) (l.take n) := by
  rcases h with rfl | ⟨blk, off, rfl, h2, h3⟩
  · exact .inl (by simp)
  · refine .inr ⟨blk, off, ?_, h2, fun j hj => ?_⟩
    · unfold headN
      split
      · rfl
      · rw [Option.map_some, Lib.add_plain]; rfl
    · rw [List.length_take] at hj
      rw [List.getElem_take]
      exact h3 j (by omega)

set_option maxRecDepth 100000 in
set_option maxHeartbeats 1000000 in
theorem indexK (l : List ByteArray) (n : ByteArray) (p : Option Addr) (c : Nat) (w : World) (hl : l.length * 16 ≤ 140737488351232) (hx : Names w p l) : Calls Tryz.prog 58 #[.slice p l.length c, .string n] w fun e w' => (∃ z : Int, e = .returned (.int .i64 z) ∧ (Rz.hasN l n = decide (0 ≤ z))) ∧ w' = w := by
  have HX := Lib.hid hx
  have HN : Hid (∀ z : Bool, z = Rz.hasN l n ↔ (z = true ↔ n ∈ l)) := fun z => by
    rw [← Rz.hasN_iff, Bool.eq_iff_iff]
  clear hx
  go_enter Tryz.func58, Tryz.ntmps58
  go_wp2_with fail
  go_loopw [8] (fun v8 wr => ∃ j : Nat, j ≤ l.length ∧ v8 = .int .i64 j ∧ wr = w ∧ Hid (∀ m (h : m < l.length), m < j → l[m] ≠ n)) (fun v8 _ => l.length - (intOf v8).toNat)
  case atStart => exact ⟨0, by omega, rfl, rfl, fun m _ h => by omega⟩
  case round =>
    obtain ⟨j, hj, rfl, rfl, HL⟩ := hrel
    by_cases hlt : j < l.length
    · obtain ⟨bx, ox, rfl, a0⟩ := HX.out.at j hlt
      have hj1 : (j : Int) < (l.length : Int) := by omega
      by_cases hn : n = l[j]
      · have g : (n.toList == l[j].toList) = true := by rw [text_eq, decide_eq_true hn]
        have HF : Hid (Rz.hasN l n = decide ((0 : Int) ≤ (j : Int))) := by
          show _ = _
          rw [decide_eq_true (by omega)]
          exact (Rz.hasN_iff l n).2 (by rw [hn]; exact List.getElem_mem hlt)
        generalize l[j] = lj at *
        clear hn
        go_wp2
        go_ret
        exact ⟨⟨_, rfl, HF.out⟩, rfl⟩
      · have g : (n.toList == l[j].toList) = false := by rw [text_eq, decide_eq_false hn]
        have HE : Hid (∀ m (h : m < l.length), m < j + 1 → l[m] ≠ n) := fun m h1 h2 => by
          by_cases hmj : m = j
          · subst hmj; exact fun hc => hn hc.symm
          · exact HL.out m h1 (by omega)
        generalize l[j] = lj at *
        clear hn
        go_wp2
        go_roundw
        case rel => exact ⟨j + 1, by omega, by go_num, trivial, HE⟩
        case measure => simp [intOf]; omega
    · have hjn : ¬ (j : Int) < (l.length : Int) := by omega
      have HF : Hid (Rz.hasN l n = decide ((0 : Int) ≤ -1)) := by
        show _ = _
        rw [decide_eq_false (by omega)]
        cases h : Rz.hasN l n with
        | false => rfl
        | true =>
          obtain ⟨m, hm, he⟩ := List.mem_iff_getElem.1 ((Rz.hasN_iff l n).1 h)
          exact absurd he (HL.out m hm (by omega))
      clear hlt
      go_wp2
      go_ret
      exact ⟨⟨_, rfl, HF.out⟩, rfl⟩
set_option maxRecDepth 100000 in
set_option maxHeartbeats 1000000 in
theorem containsK (l : List ByteArray) (n : ByteArray) (p : Option Addr) (c : Nat) (w : World) (hl : l.length * 16 ≤ 140737488351232) (hx : Names w p l) : Calls Tryz.prog 38 #[.slice p l.length c, .string n] w fun e w' => e = .returned (.bool (Rz.hasN l n)) ∧ w' = w := by
  have HI := Lib.hid (indexK l n p c w hl hx)
  clear hl hx
  go_enter Tryz.func38, Tryz.ntmps38
  go_wp2_with fail
  refine HI.out.mono ?_
  rintro e w1 ⟨⟨z, rfl, hz⟩, rfl⟩
  have HZ := Lib.hid hz
  clear hz
  go_wp2
  go_ret
  exact ⟨by rw [HZ.out]; rfl, rfl⟩

/-- columns grow in a row of one's own, behind all that was there in w0 -/
structure GrowC (w0 : World) (v : Value) (zs : List Col) (wr : World) : Prop where
  built : ∃ us Fs, CBuilt wr w0.heap.size v zs.length us Fs zs
  keep : Below w0.heap.size w0 wr
theorem growC_nil (w0 : World) : GrowC w0 (.slice none 0 0) [] w0 := ⟨⟨_, _, cbuilt_nil _ _⟩, Below.refl _ _⟩
theorem GrowC.next {w0 wr w2 w3 w4 : World} {v : Value} {zs : List Col} {x : Col} {u : Array Value} {F : Nat → Prop} {g cap : Nat} {us : Nat → Array Value} {Fs : Nat → Nat → Prop} (h : GrowC w0 v zs wr) (hbt : CBuilt wr w0.heap.size v zs.length us Fs zs) (hb : Below wr.heap.size wr w2) (hx : COwn w2 F u x)
    (hF : ∀ k, F k → wr.heap.size ≤ k ∧ k < w2.heap.size) (hb3 : Below w2.heap.size w2 w3)
    (hr : w4.ownsRow w0.heap.size 44 9 (.slice (some ⟨g, 0, none⟩) (zs.length + 1) cap) (zs.length + 1) (flat us zs.length ++ u.toList)) (hg : w3.grownBy w4 v.ownBlock) (hn : v.ownBlock = some g ∨ g = w3.heap.size) :
    GrowC w0 (.slice (some ⟨g, 0, none⟩) (zs.length + 1) cap) (zs ++ [x]) w4 := by
  have hs := h.keep.size
  have hs2 := hb.size
  have hs3 := hb3.size
  have hst := hbt.step hb hx hF hb3 hs hr hg hn
  refine ⟨⟨_, _, by rw [List.length_append]; exact hst⟩, ((h.keep.trans (hb.mono hs)).trans (hb3.mono (by omega))).grown hg (by omega) (fun k hk => (hbt.lt k hk).1)⟩
/-- a schema and an error are answered: columns that lie in blocks of their own -/
def SchR (w : World) (r : Except Nat (List Col)) (e : Ending) (w' : World) : Prop := match r with
  | .error er => e = .returned (.tuple #[.agg #[.slice none 0 0], .int .i64 (er : Nat)]) ∧ Below w.heap.size w w'
  | .ok ys => ∃ q c, e = .returned (.tuple #[.agg #[.slice q ys.length c], .int .i64 0]) ∧ Cols w' q ys ∧ ys.length ≤ c ∧ Below w.heap.size w w'
theorem endS {g : Nat} {T : TypeId} {fn : Func} {R : Ending → World → Prop} {a : Act} {W : World} {q u : Tmp} {cs : Array Value} {fr : Nat × Nat} {x : Value} (h : fn.results = #[.cell q 24, .tmp u]) (hp : a.tmps.getD q undef = .pointer (some ⟨g, 0, none⟩)) (hx : a.tmps.getD u undef = x) (hd : a.defers = []) (hg : W.heap[g]? = some (.cells cs T fr)) (hs : cs.size = 1) (hR : R (.returned (.tuple #[.agg cs, x])) W) : bodyPost Tryz.prog fn R .ret a W := by
  refine bodyPost_ret (results_row2 h _ _ g _ _ _ _ hp hg Tryz.underlying24 rfl ?_) hd (by rw [hx]; exact hR)
  rw [hs]
  kernel_rfl
theorem schR_err {w w1 : World} {g er : Nat} {v : Value} (hb : Below w.heap.size w w1) (hg : w.heap.size ≤ g) : SchR w (.error er) (.returned (.tuple #[.agg #[.slice none 0 0], .int .i64 (er : Nat)])) (w1.setCell ⟨g, 0, none⟩ v) := ⟨rfl, put1_below hb hg⟩
theorem schR_ok {w w1 W0 : World} {g : Nat} {v : Value} {q : Option Addr} {c : Nat} {zs : List Col} (hb : Below w.heap.size w w1) (hg : w.heap.size ≤ g) (hgW : g < W0.heap.size) (hG : GrowC W0 (.slice q zs.length c) zs w1) (hl : zs.length * 120 ≤ 140737488351232) : SchR w (.ok zs) (.returned (.tuple #[.agg #[.slice q zs.length c], .int .i64 0])) (w1.setCell ⟨g, 0, none⟩ v) := by
  obtain ⟨us, Fs, hbt⟩ := hG.built
  have h2 : Aside (fun j => j = g) w1 (w1.setCell ⟨g, 0, none⟩ v) := (Aside.refl (fun j => j = g) w1).setCell (p := ⟨g, 0, none⟩) (.inl rfl) _
  have h3 := hbt.aside h2 (fun j hj hc => by have := (hbt.lt j hj).1; omega) (fun j hj k hk hc => by have := (hbt.range j hj k hk).1; omega)
  obtain ⟨p', c', he, hcc, hcols⟩ := h3.cols hl
  injection he with e1 _ e2
  subst e1 e2
  exact ⟨_, _, rfl, hcols, hcc, put1_below hb hg⟩
/-- the columns that are named, one by one -/
theorem proj_at {s : List Col} : ∀ (ns l : List ByteArray) (j : Nat) (hj : j < ns.length) {ys : List Col}, Rz.proj s l (ns.take j) = .ok ys →
    (Rz.hasN (l ++ ns.take j) ns[j] = true → Rz.proj s l ns = .error 71) ∧ (Rz.hasN (l ++ ns.take j) ns[j] = false → Sch.find ns[j] s 0 = none → Rz.proj s l ns = .error 90) ∧ (Rz.hasN (l ++ ns.take j) ns[j] = false → ∀ k, Sch.find ns[j] s 0 = some k → Rz.proj s l (ns.take (j + 1)) = .ok (ys ++ [(Rz.colAt s k).fix]))
  | n :: r, l, 0, _, ys, h => by
    have hy : ys = [] := by
      have : Rz.proj s l [] = .ok ys := h
      rw [Rz.proj] at this
      cases this
      rfl
    subst hy
    rw [List.getElem_cons_zero, List.take_zero, List.append_nil, List.take_succ_cons, List.take_zero]
    refine ⟨fun h1 => ?_, fun h1 h2 => ?_, fun h1 k h2 => ?_⟩
    · rw [Rz.proj, if_pos h1]
    · rw [Rz.proj, if_neg (by rw [h1]; decide), h2]
    · rw [Rz.proj, if_neg (by rw [h1]; decide), h2, Rz.proj]
      rfl
  | n :: r, l, j + 1, hj, ys, h => by
    rw [List.take_succ_cons, Rz.proj] at h
    by_cases hn : Rz.hasN l n = true
    · rw [if_pos hn] at h; cases h
    · rw [if_neg hn] at h
      cases hf : Sch.find n s 0 with
      | none => rw [hf] at h; cases h
      | some k =>
        rw [hf] at h
        cases hr : Rz.proj s (l ++ [n]) (r.take j) with
        | error e => simp only [hr] at h; cases h
        | ok cs =>
          simp only [hr] at h
          cases h
          obtain ⟨h1, h2, h3⟩ := proj_at r (l ++ [n]) j (by simpa using hj) hr
          rw [List.getElem_cons_succ, List.take_succ_cons, List.take_succ_cons]
          have e : l ++ n :: r.take j = l ++ [n] ++ r.take j := by simp
          rw [e]
          refine ⟨fun q1 => ?_, fun q1 q2 => ?_, fun q1 m q2 => ?_⟩
          · rw [Rz.proj, if_neg hn, hf]
            simp only [h1 q1]
          · rw [Rz.proj, if_neg hn, hf]
            simp only [h2 q1 q2]
          · rw [Rz.proj, if_neg hn, hf]
            simp only [h3 q1 m q2, List.cons_append]
end Go.Proofs.YtdahackmmhcjoaaGreat

/- The landed resolve: Project. -/
namespace Go.Proofs.YtdahackmmhcjoaaGreat
open Go.RowKit

attribute [local go_sem] run_store_float

theorem proj_few {s : List Col} (hs : Sch.err s = 0) (ns : List ByteArray) {p : List Col} (h : Rz.proj s [] ns = .ok p) : p.length ≤ 16 := by
  by_cases h0 : ns.length = 0
  · have := (Rz.proj_open ns [] h).1
    omega
  · exact (Sch.err_open (Rz.proj_err hs h0 h)).2.1

set_option maxRecDepth 100000 in
set_option maxHeartbeats 4000000 in
theorem projectK9 (s : List Col) (ns : List ByteArray) (p q : Option Addr) (cp cq : Nat) (w : World) (hs : s.length * 120 ≤ 140737488351232) (hn : ns.length * 16 ≤ 140737488351232) (hnc : ns.length ≤ cq) (hx : Cols w p s) (hy : Names w q ns) (hws : ∀ x ∈ s, x.wf) :
    Calls Tryz.prog 21 #[.agg #[.slice p s.length cp], .slice q ns.length cq] w (SchR w (Rz.project s ns)) := by
  obtain ⟨W0, hW0⟩ : ∃ W0, W0 = (w.alloc (.cells #[.slice p s.length cp] 24)).alloc (.cells #[.slice none 0 0] 24) := ⟨_, rfl⟩
  obtain ⟨l0, l1, lb, ls⟩ := al2 w (.cells #[.slice p s.length cp] 24) (.cells #[.slice none 0 0] 24)
  rw [← hW0] at l0 l1 lb ls
  have HW0 := Lib.hid hW0
  have HB0 := Lib.hid lb
  have HS0 := Lib.hid ls
  have HCl : Hid (∀ w', Below W0.heap.size W0 w' → w'.cell? ⟨w.heap.size, 0, none⟩ = some (.slice p s.length cp) ∧ w'.cell? ⟨w.heap.size + 1, 0, none⟩ = some (.slice none 0 0) ∧ w'.frozen? ⟨w.heap.size + 1, 0, none⟩ = false) := fun w' h => ⟨blk_at l0 h 0, blk_at l1 h 0, blk_free ((h.block _ (blk_lt l1)).trans l1) 0⟩
  have HT6 : Hid (∀ w', Below W0.heap.size W0 w' → w'.heap[w.heap.size + 1]? = some (.cells #[.slice none 0 0] 24 (0, 0))) := fun w' h => (h.block _ (blk_lt l1)).trans l1
  have HCk := Lib.hid (checkSK s p cp W0 hs (hx.on lb) hws)
  have HE : Hid (Rz.project s ns = if Sch.err s ≠ 0 then .error (Sch.err s) else if ns.length = 0 then .error 4 else Rz.proj s [] ns) := rfl
  have HX := Lib.hid hx
  have HY := Lib.hid hy
  have HFew := Lib.hid (fun h (l : List ByteArray) zs hz => proj_few (s := s) h l (p := zs) hz)
  obtain ⟨r, hr⟩ : ∃ r, r = Rz.project s ns := ⟨_, rfl⟩
  rw [← hr] at HE ⊢
  obtain ⟨es, hes⟩ : ∃ n, n = Sch.err s := ⟨_, rfl⟩
  rw [← hes] at HCk HE HFew
  clear hr hes hW0 l0 l1 lb ls hx hy hws
  go_enter Tryz.func21, Tryz.ntmps21
  go_wp2_with fail
  rw [← HW0.out]
  clear HW0
  refine HCk.out.mono ?_
  rintro e w1 ⟨rfl, hb1⟩
  have HB1 := Lib.hid hb1
  have HB1w := Lib.hid (HB0.out.trans (hb1.mono HB0.out.size))
  obtain ⟨c0, c1, c2⟩ := HCl.out w1 hb1
  clear hb1 HCk
  by_cases h0 : ¬ es = 0
  · have g0 : ((es : Int) != 0) = true := bne_t (by omega)
    have HE2 : Hid (r = .error es) := by show _ = _; rw [HE.out, if_pos h0]
    clear h0 HE
    go_wp2
    refine endS rfl rfl rfl rfl (put1_block (HT6.out w1 HB1.out)) rfl ?_
    rw [HE2.out]
    exact schR_err HB1w.out (by omega)
  replace h0 : es = 0 := Classical.not_not.1 h0
  have g0 : ((es : Int) != 0) = false := bne_f (by omega)
  have HFew2 := Lib.hid (HFew.out h0)
  by_cases h1 : ns.length = 0
  · have g1 : ((ns.length : Int) == 0) = true := beq_t (by omega)
    have HE2 : Hid (r = .error 4) := by show _ = _; rw [HE.out, if_neg (by omega), if_pos h1]
    clear h0 h1 HE HFew
    go_wp2
    refine endS rfl rfl rfl rfl (put1_block (HT6.out w1 HB1.out)) rfl ?_
    rw [HE2.out]
    exact schR_err HB1w.out (by omega)
  have g1 : ((ns.length : Int) == 0) = false := beq_f (by omega)
  have HE2 : Hid (r = Rz.proj s [] ns) := by show _ = _; rw [HE.out, if_neg (by omega), if_neg h1]
  clear h0 h1 HE HFew
  go_wp2_with fail
  go_loopw [7, 24] (fun v7 v24 wr => ∃ (zs : List Col) (j : Nat) (q9 : Option Addr) (d9 : Nat), j ≤ ns.length ∧ v24 = .int .i64 j ∧ v7 = .slice q9 j d9 ∧ Hid (zs.length = j ∧ GrowC w1 (.slice q9 j d9) zs wr ∧ Rz.proj s [] (ns.take j) = .ok zs)) (fun _ v24 _ => ns.length - (intOf v24).toNat)
  case atStart => exact ⟨[], 0, none, 0, by omega, rfl, rfl, rfl, growC_nil w1, rfl⟩
  case round =>
    obtain ⟨zs, j, q9, d9, hj, rfl, rfl, HG⟩ := hrel
    have HK2 : Hid (Below w1.heap.size w1 wr) := HG.out.2.1.keep
    have HK : Hid (Below W0.heap.size W0 wr) := HB1.out.trans (HK2.out.mono HB1.out.size)
    have HBw : Hid (Below w.heap.size w wr) := HB1w.out.trans (HK2.out.mono HB1w.out.size)
    have hj16 : j ≤ 16 := by have := HFew2.out _ _ HG.out.2.2; have := HG.out.1; omega
    by_cases hlt : j < ns.length
    · obtain ⟨bn, on, hqe, n0⟩ := (HY.out.on HBw.out).at j hlt
      have hj1 : (j : Int) < (ns.length : Int) := by omega
      have s1 := fun w' => run_headN q ns.length cq j (by omega) w'
      have htl : (ns.take j).length = j := by rw [List.length_take]; omega
      have HCn : Hid (Calls Tryz.prog 38 #[.slice (headN q cq) j cq, .string ns[j]] wr fun e w' => e = .returned (.bool (Rz.hasN (ns.take j) ns[j])) ∧ w' = wr) := by
        have := containsK (ns.take j) ns[j] (headN q cq) cq wr (by rw [htl]; omega) ((HY.out.on HBw.out).head j cq)
        rw [htl] at this
        exact this
      have HFd := Lib.hid (findK s ns[j] p cp wr hs (HX.out.on HBw.out))
      obtain ⟨P1, P2, P3⟩ := proj_at ns [] j hlt HG.out.2.2
      rw [List.nil_append] at P1 P2 P3
      have HFo : Hid (∀ k, Sch.find ns[j] s 0 = some k → ∃ h : k < s.length, s[k].name = ns[j]) := fun k h => Rz.find_here h
      obtain ⟨hb, hhb⟩ : ∃ b, b = Rz.hasN (ns.take j) ns[j] := ⟨_, rfl⟩
      rw [← hhb] at HCn P1 P2 P3
      obtain ⟨fo, hfo⟩ : ∃ fo, fo = Sch.find ns[j] s 0 := ⟨_, rfl⟩
      rw [← hfo] at HFd P2 P3 HFo
      have HP1 := Lib.hid P1
      have HP2 := Lib.hid P2
      have HP3 := Lib.hid P3
      obtain ⟨c0', c1', c2'⟩ := HCl.out wr HK.out
      subst hqe
      generalize ns[j] = nj at *
      clear P1 P2 P3 hhb hfo htl c0 c1 c2
      go_wp2_with fail
      refine HCn.out.mono ?_
      rintro e w2 ⟨rfl, hw2⟩
      rw [hw2]
      clear hw2 w2 HCn s1 n0
      cases hb with
      | true =>
        have HRe : Hid (r = .error 71) := by show _ = _; rw [HE2.out]; exact HP1.out rfl
        go_wp2
        refine endS rfl rfl rfl rfl (put1_block (HT6.out _ HK.out)) rfl ?_
        rw [HRe.out]
        exact schR_err HBw.out (by omega)
      | false =>
        have HP2' := Lib.hid (HP2.out rfl)
        have HP3' := Lib.hid (HP3.out rfl)
        clear HP1 HP2 HP3
        go_wp2_with fail
        refine HFd.out.mono ?_
        rintro e w3 ⟨he, hb3⟩
        have HB3 := Lib.hid hb3
        have HB3W := Lib.hid (HK.out.trans (hb3.mono HK.out.size))
        have HB3w := Lib.hid (HBw.out.trans (hb3.mono HBw.out.size))
        clear hb3 HFd c0' c1' c2'
        obtain ⟨c0, c1, c2⟩ := HCl.out w3 HB3W.out
        cases fo with
        | none =>
          have he' : e = .returned (.tuple #[.int .i64 0, .bool false]) := he
          subst he'
          have HRe : Hid (r = .error 90) := by show _ = _; rw [HE2.out]; exact HP2'.out rfl
          clear he
          go_wp2
          refine endS rfl rfl rfl rfl (put1_block (HT6.out _ HB3W.out)) rfl ?_
          rw [HRe.out]
          exact schR_err HB3w.out (by omega)
        | some k =>
          have he' : e = .returned (.tuple #[.int .i64 k, .bool true]) := he
          subst he'
          obtain ⟨hk, -⟩ := HFo.out k rfl
          have HRt := Lib.hid (HP3'.out k rfl)
          rw [Rz.colAt_get hk] at HRt
          obtain ⟨bx, ox, kx, tp, tn, tc, vk, vi, vb, vt, vp, vn, vc, rfl, _, h9, hT, hV⟩ := (HX.out.on HB3w.out).at k hk
          obtain ⟨a0, a1, a2, a3, a4, a5, a6, a7, a8⟩ := h9
          have hk1 : (k : Int) < (s.length : Int) := by omega
          have HCc : Hid (Calls Tryz.prog 39 #[.agg #[.string s[k].name, .int .i64 kx, .slice tp tn tc, .bool s[k].has, .int .i64 vk, .int .i64 vi, .float .f64 vb, .string vt, .slice vp vn vc]] w3 (FreshC w3 s[k].fix)) := copyColumnK s[k] w3 _ ⟨kx, tp, tn, tc, vk, vi, vb, vt, vp, vn, vc, rfl, hT, hV⟩
          obtain ⟨xk, hxk⟩ : ∃ xk, xk = s[k].fix := ⟨_, rfl⟩
          rw [← hxk] at HCc HRt
          generalize s[k].name = nm at *
          generalize s[k].has = hh at *
          clear he hT hV hxk
          go_wp2_with fail
          refine HCc.out.mono ?_
          rintro e w4 ⟨u4, rfl, hv4, hb4⟩
          obtain ⟨F1, F2, k5, tp5, tn5, tc5, vk5, vi5, vb5, vt5, vp5, vn5, vc5, hu4, -⟩ := hv4.out
          have h9s := hv4.nine
          have ho9 := hv4.one9
          have HB4 : Hid (Below wr.heap.size wr w4) := HB3.out.trans (hb4.mono HB3.out.size)
          have HV4 := Lib.hid (hv4.mono (G := fun i => wr.heap.size ≤ i ∧ i < w4.heap.size) fun i hi => ⟨Nat.le_trans HB3.out.size hi.1, hi.2⟩)
          obtain ⟨us, Fs, hbt⟩ := HG.out.2.1.built
          have HBt := Lib.hid hbt
          have HGr := Lib.hid HG.out.2.1
          have hzl := HG.out.1
          have hsz := HK2.out.size
          have hs4 := HB4.out.size
          have HB5 : Hid (Below w4.heap.size w4 (w4.alloc (.cells u4 44))) := (Below.refl _ _).alloc (Nat.le_refl _) _
          have HRow : Hid ((w4.alloc (.cells u4 44)).ownsRow w1.heap.size 44 9 (.slice q9 j d9) j (flat us j)) := by
            have := ((hbt.on HB4.out).on HB5.out).row
            rw [hzl] at this
            exact this
          have HO9 := Lib.hid ho9
          have HN9 := Lib.hid h9s
          subst hu4
          generalize xk.name = nm5 at *
          generalize xk.has = hh5 at *
          unfold cells9 at HRow HB5 HV4 HO9 HN9 ⊢
          clear hv4 hb4 hbt a0 a1 a2 a3 a4 a5 a6 a7 a8 h9s ho9 HCc c0 c1 c2
          go_wp2_with (at_builtin; refine wp_moreC (B := w1.heap.size) (us := us) HRow.out (u := #[.string nm5, .int .i64 k5, .slice tp5 tn5 tc5, .bool hh5, .int .i64 vk5, .int .i64 vi5, .float .f64 vb5, .string vt5, .slice vp5 vn5 vc5]) rfl HO9.out (ad := w4.heap.size) (blk_new w4 _) (by omega) (by simp; omega) rfl rfl rfl rfl rfl ?_
                       intro g2 cap2 w5 hr5 hg5 hn5
                       have HMK : Hid ((zs ++ [xk]).length = j + 1 ∧ GrowC w1 (.slice (some ⟨g2, 0, none⟩) (j + 1) cap2) (zs ++ [xk]) w5 ∧ Rz.proj s [] (ns.take (j + 1)) = .ok (zs ++ [xk])) := by
                         subst hzl
                         exact ⟨by simp, HGr.out.next HBt.out HB4.out HV4.out (fun _ h => h) HB5.out hr5 hg5 hn5, HRt.out⟩
                       clear hr5 hg5 hn5)
          go_roundw
          case rel => exact ⟨zs ++ [xk], j + 1, _, _, by omega, by go_num, rfl, HMK⟩
          case measure => simp [intOf]; omega
    · have hjn : ¬ (j : Int) < (ns.length : Int) := by omega
      have hjj : j = ns.length := by omega
      have d6 := HT6.out wr HK.out
      have e0 : wr.cell? ⟨w.heap.size + 1, 0, none⟩ = some (.slice none 0 0) := blk_cell d6 0
      have f0 := blk_free d6 0
      have HD6 := Lib.hid d6
      have HRe : Hid (r = .ok zs) := by
        have h3 := HG.out.2.2
        rw [hjj, List.take_length] at h3
        show _ = _
        rw [HE2.out, h3]
      have HZ : Hid (SchR w (.ok zs) (.returned (.tuple #[.agg #[.slice q9 j d9], .int .i64 0])) (wr.setCell ⟨w.heap.size + 1, 0, none⟩ (.slice q9 j d9))) := by
        have h1 := HG.out.1
        have h2 := HG.out.2.1
        rw [← h1] at h2 ⊢
        exact schR_ok HBw.out (by omega) (by have := HB1.out.size; have := HS0.out; omega) h2 (by omega)
      clear d6 hjj HG HE2 c0 c1 c2
      go_wp2
      refine endS rfl rfl rfl rfl (put1_block HD6.out) rfl ?_
      rw [HRe.out]
      exact HZ.out
end Go.Proofs.YtdahackmmhcjoaaGreat
