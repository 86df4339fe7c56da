/- K10I, Al: put together. -/
import Derived.Test.YtpkbdnilakaakaaM35
import Derived.Test.YtpkbdnilakaakaaM05

/- The landed block's Pack. -/
namespace Go.Proofs.Ytpkbdnilakaakaa
open Go.RowKit

theorem step_call210 {w : World} {ops : Array Oper} {o : Oper} {a : Act} {K : Act → World → Prop} {Q : Exit → Act → World → Prop} {E : Prop} {f : FuncId} {fn : Func} {code : Code} {u v : Value} {R : Ending → World → Prop} (x y : Operand) (t t' : TypeId)
    (hg : o.guard = none) (hop : o.op = Op.call { callee := .value (.func f), args := #[x, y], argTypes := #[t, t'] }) (hx : a.eval x = u) (hy : a.eval y = v)
    (hf : Try.prog.funcs[f]? = some fn) (hname : (fn.name == "runtime.NumGoroutine") = false) (hb : fn.body = some code)
    (hc : Calls Try.prog f #[u, v] w R) (hR : ∀ e w', R e w' → ∃ z, e = .returned z ∧ K (a.put o.dst z) w') :
    if Region.wanted o (yielded ops a.tmps) = true then Oper.wp Try.prog o a w K Q else E := by
  have hw : Region.wanted o (yielded ops a.tmps) = true := by simp [Region.wanted, hg]
  rw [if_pos hw]
  have h1 : fn.name ≠ "runtime.NumGoroutine" := by simpa using hname
  unfold Oper.wp
  have he : (execOp a.eval o).run Try.prog w = .ok (.enter f #[u, v]) w := by
    have hev : a.eval (.func f) = .func (.func f) #[] #[] := rfl
    simp [execOp, hop, resolve, invoke, hx, hy, hev, Deferred.ofValue, callFunc, hf, h1, hb]
  rw [he, Oper.upon_enter]
  refine hc.mono ?_
  intro e w' hr
  obtain ⟨z, rfl, hk⟩ := hR e w' hr
  exact hk
theorem aside_drew {F : Nat → Prop} {w w' : World} (h : Aside F w.drew w') : Aside F w w' := ⟨h.os, h.tape, h.output, h.size, h.block⟩
/-- while tokens are laid down: B is the world's size behind lookUp -/
structure Toks (w w1 wr : World) (q : Option Addr) (b : List UInt8) (G A : Nat) (v : Value) (p : List UInt8) : Prop where
  low : Below w.heap.size w w1
  more : Below w1.heap.size w1 wr
  look : Look wr G A b
  at_ : AtB wr w1.heap.size q b
  has : Has wr w1.heap.size v p
theorem Toks.next {w w1 wr w' : World} {q : Option Addr} {b : List UInt8} {G A : Nat} {v v' : Value} {p p' : List UInt8} (h : Toks w w1 wr q b G A v p) (hG : G < w1.heap.size) (hA : A < w1.heap.size) (hb : Below w1.heap.size wr w') (hp : Has w' w1.heap.size v' p') : Toks w w1 w' q b G A v' p' :=
  ⟨h.low, h.more.trans hb, h.look.keep hb hG hA, h.at_.keep hb, hp⟩

/-- what the tokens come to is no more than this -/
theorem putL_len (p l : List UInt8) : (Blk.putL p l).length ≤ p.length + 10 + l.length := by
  unfold Blk.putL
  split
  · omega
  · have := Leb.put_length_le (2 * l.length)
    simp only [List.length_append]; omega
theorem putM_len (p : List UInt8) (m : Blk.Mt) : (Blk.putM p m).length ≤ p.length + 20 := by
  unfold Blk.putM
  have := Leb.put_length_le (2 * m.size + 1)
  have := Leb.put_length_le m.back
  simp only [List.length_append]; omega

set_option maxRecDepth 100000 in
set_option maxHeartbeats 4000000 in
theorem packTokensK (b : List UInt8) (q : Option Addr) (c : Nat) (w : World) (hb : b.length ≤ 2048) (hbc : b.length ≤ c) (hq : At w q b) :
    Calls Try.prog 18 #[.slice q b.length c] w fun e w' => ∃ q' cap, e = .returned (.slice q' (Blk.packT b).length cap) ∧ Has w' w.heap.size (.slice q' (Blk.packT b).length cap) (Blk.packT b) ∧ Below w.heap.size w w' := by
  have HLU := Lib.hid (lookUpK b q c w hb hq)
  have HQ0 := Lib.hid hq
  obtain ⟨R, hR⟩ : ∃ R, R = Blk.packT b := ⟨_, rfl⟩
  have HR : Hid (R = Blk.pk b (b.length - 0) 0 0 [1]) := hR
  rw [← hR]
  clear hR hq
  go_enter Try.func18, Try.ntmps18
  go_wp2_with fail
  refine HLU.out.mono ?_
  rintro e w1 ⟨rfl, hlk, hlow⟩
  obtain ⟨G, hG⟩ : ∃ G, G = w.heap.size + 1 + 1 := ⟨_, rfl⟩
  obtain ⟨A, hA⟩ : ∃ A, A = w.heap.size + 1 := ⟨_, rfl⟩
  rw [← hG] at hlk ⊢
  rw [← hA] at hlk
  have hGl := hlk.var.lt
  have hAl := hlk.row.lt
  have HS : Hid (Toks w w1 (w1.alloc (.cells #[.int .u8 1] 5)) q b G A (.slice (some ⟨w1.heap.size, 0, none⟩) 1 1) [1]) := by
    have ha : Below w1.heap.size w1 (w1.alloc (.cells #[.int .u8 1] 5)) := (Below.refl _ _).alloc (Nat.le_refl _) _
    exact ⟨hlow, ha, hlk.keep ha hGl hAl, ((HQ0.out.on hlow).atB (Nat.le_refl _)).keep ha, has_lit (B := w1.heap.size) [1] rfl (Nat.le_refl _) (by decide)⟩
  clear hG hA hlk hlow HLU HQ0
  go_wp2_with fail
  generalize w1.alloc (.cells #[.int .u8 1] 5) = W0 at HS ⊢
  go_loopw [4, 5, 6] (fun v4 v5 v6 wr => ∃ (fr a : Nat) (p : List UInt8), fr ≤ a ∧ a ≤ b.length ∧ v5 = .int .i64 fr ∧ v6 = .int .i64 a ∧ p.length ≤ 60 * fr + 100 ∧ Hid (Toks w w1 wr q b G A v4 p ∧ R = Blk.pk b (b.length - a) fr a p)) (fun _ _ v6 _ => b.length - (intOf v6).toNat)
  case atStart => exact ⟨0, 0, [1], Nat.le_refl _, Nat.zero_le _, rfl, rfl, by decide, HS.out, HR.out⟩
  case round =>
    obtain ⟨fr, a, p, hfa, hab, rfl, rfl, hpl, HK⟩ := hrel
    obtain ⟨pp, cap, rfl, -, hcap⟩ := HK.out.1.has.at
    have HT := Lib.hid HK.out.1
    have hsz := HT.out.more.size
    by_cases hlt : a < b.length
    · have HLo := Lib.hid (longestK b q c G A a wr hb hbc hlt HT.out.at_.at_ HT.out.look)
      have hgood := Blk.longest_good b a
      have HSk := Lib.hid (fun h0 => HK.out.2.trans (Blk.pk_skip (fr := fr) (p := p) hlt h0))
      have HTk := Lib.hid (fun h0 => HK.out.2.trans (Blk.pk_take (fr := fr) (p := p) hlt h0))
      obtain ⟨m, hm⟩ : ∃ m, m = Blk.longest b a := ⟨_, rfl⟩
      rw [← hm] at HLo hgood HSk HTk
      clear hm HK
      go_wp2_with fail
      refine HLo.out.mono ?_
      rintro e w2 ⟨rfl, hb2⟩
      obtain ⟨W3, hW3⟩ : ∃ W3, W3 = w2.alloc (.cells #[.int .i64 (m.size : Nat), .int .i64 (m.back : Nat)] 71) := ⟨_, rfl⟩
      have hb3 : Below wr.heap.size wr W3 := by rw [hW3]; exact hb2.alloc hb2.size _
      have hF : W3.heap[w2.heap.size]? = some (.cells #[.int .i64 (m.size : Nat), .int .i64 (m.back : Nat)] 71 (0, 0)) := by rw [hW3]; exact blk_new10 w2 _
      have c0 : W3.cell? ⟨w2.heap.size, 0, none⟩ = some (.int .i64 (m.size : Nat)) := blk_cell10 hF 0
      have c1 : W3.cell? ⟨w2.heap.size, 1, none⟩ = some (.int .i64 (m.back : Nat)) := blk_cell10 hF 1
      have HT3 : Hid (Toks w w1 W3 q b G A (.slice pp p.length cap) p) := HT.out.next hGl hAl (hb3.mono hsz) (HT.out.has.on hb3)
      have hs3 : wr.heap.size ≤ w2.heap.size := hb2.size
      have HW3 := Lib.hid hW3
      have HF := Lib.hid hF
      have hs3' := blk_lt10 hF
      have HOw : Hid (∀ k, (Value.slice pp p.length cap).ownBlock = some k → k < wr.heap.size) := fun k hk => (HT.out.has.lt k hk).2
      clear hb2 hb3 hW3 hF HLo
      by_cases h0 : m.size = 0
      · have HN := Lib.hid (HSk.out h0)
        have HW4 : Hid (W3 = w2.alloc (.cells #[.int .i64 0, .int .i64 (m.back : Nat)] 71)) := by
          have h := HW3.out
          rw [h0] at h
          exact h
        clear HSk HTk hgood c0 HW3
        go_wp2_with fail
        rw [← HW4.out]
        go_roundw
        case rel => exact ⟨fr, a + 1, p, by omega, by omega, rfl, by go_num, by omega, HT3.out, HN.out⟩
        case measure => simp [intOf]; omega
      · have hg := hgood.resolve_left h0
        have HN := Lib.hid (HTk.out h0)
        have g0 : ((m.size : Int) == 0) = false := by rw [beq_eq_false_iff_ne]; omega
        have m1 := hg.most
        have m2 := hg.near
        have m3 := hg.fits
        have m4 := hg.four
        have s2 := fun w => run_cut_lh10 q b.length c fr a (by omega) (by omega) w
        have hlb : ((b.drop fr).take (a - fr)).length = a - fr := by rw [List.length_take, List.length_drop]; omega
        have HAt : Hid (AtB W3 w1.heap.size (cutP10 q fr c) ((b.drop fr).take (a - fr))) := by
          have h1 := HT3.out.at_.cut fr c hbc
          refine ⟨?_, fun hne => h1.low (fun he => hne (by rw [he]; simp))⟩
          rcases h1.at_ with h2 | ⟨bb, oo, h2, h3, h4⟩
          · exact .inl (by rw [h2]; simp)
          · exact .inr ⟨bb, oo, h2, h3, cells_take h4 _⟩
        have HPL := Lib.hid (putLitK p ((b.drop fr).take (a - fr)) w1.heap.size (.slice pp p.length cap) (cutP10 q fr c) (c - fr) W3.drew (by show w1.heap.size ≤ W3.heap.size; omega) (by omega) (by rw [hlb]; omega) HT3.out.has ⟨HAt.out.at_, HAt.out.low⟩)
        have hpl2 := putL_len p ((b.drop fr).take (a - fr))
        rw [hlb] at HPL hpl2
        obtain ⟨p1, hp1⟩ : ∃ p1, p1 = Blk.putL p ((b.drop fr).take (a - fr)) := ⟨_, rfl⟩
        rw [← hp1] at HPL HN hpl2
        have hpl3 := putM_len p1 m
        obtain ⟨q2, hq2⟩ : ∃ q2, q2 = cutP10 q fr c := ⟨_, rfl⟩
        obtain ⟨k2, hk2⟩ : ∃ k2, k2 = c - fr := ⟨_, rfl⟩
        obtain ⟨l2, hl2⟩ : ∃ l2, l2 = a - fr := ⟨_, rfl⟩
        rw [← hq2, ← hk2, ← hl2] at s2 HPL
        clear hp1 hq2 hk2 hl2 HSk HTk hgood hlb HAt
        go_wp2_with fail
        rw [← HW3.out]
        go_region_law (first
          | (refine step_call210 (u := .slice pp p.length cap) (v := .slice q2 l2 k2) (.tmp 24) (.tmp 28) 30 30 (by rfl) (by rfl) (by simp [Act.eval, Act.put]) (by simp [Act.eval, Act.put]) Try.func29 (by kernel_rfl) (by rfl) HPL.out ?_
             rintro e w4 ⟨q4, cap4, rfl, hh4, ha4, hk4⟩
             refine ⟨_, rfl, ?_⟩
             have ha5 : Aside (fun k => (Value.slice pp p.length cap).ownBlock = some k) W3 w4 := aside_drew ha4
             have e0 : w4.cell? ⟨w2.heap.size, 0, none⟩ = some (.int .i64 (m.size : Nat)) := by rw [ha5.cell (p := ⟨w2.heap.size, 0, none⟩) hs3' (fun hc => by have := HOw.out _ hc; exact absurd this (by show ¬ w2.heap.size < wr.heap.size; omega))]; exact c0
             have e1 : w4.cell? ⟨w2.heap.size, 1, none⟩ = some (.int .i64 (m.back : Nat)) := by rw [ha5.cell (p := ⟨w2.heap.size, 1, none⟩) hs3' (fun hc => by have := HOw.out _ hc; exact absurd this (by show ¬ w2.heap.size < wr.heap.size; omega))]; exact c1
             have HH4 := Lib.hid hh4
             have HA4 := Lib.hid ha5
             have hs4 := ha5.size
             have HK4 := Lib.hid hk4
             clear hh4 ha4 ha5 hk4)
          | (refine step_call210 (u := .slice q4 p1.length cap4) (v := .agg #[.int .i64 (m.size : Nat), .int .i64 (m.back : Nat)]) (.tmp 29) (.tmp 30) 30 71 (by rfl) (by rfl) (by simp [Act.eval]) (by simp [Act.eval]) Try.func28 (by kernel_rfl) (by rfl) (putMatK p1 m w1.heap.size (.slice q4 p1.length cap4) _ (by show w1.heap.size ≤ w4.heap.size; omega) (by omega) m1 m2 HH4.out) ?_
             rintro e w5 ⟨q5, cap5, rfl, hh5, ha5, hk5⟩
             refine ⟨_, rfl, ?_⟩
             have HH5 := Lib.hid hh5
             have HA5 : Hid (Aside (fun k => (Value.slice q4 p1.length cap4).ownBlock = some k) w4 w5) := ⟨ha5.os, ha5.tape, ha5.output, ha5.size, ha5.block⟩
             have x0 : w5.cell? ⟨w2.heap.size, 0, none⟩ = some (.int .i64 (m.size : Nat)) := by
               rw [HA5.out.cell (p := ⟨w2.heap.size, 0, none⟩) (by show w2.heap.size < w4.heap.size; omega) (fun hc => by
                 rcases HK4.out _ hc with h | h
                 · have := HOw.out _ h
                   exact absurd this (by show ¬ w2.heap.size < wr.heap.size; omega)
                 · exact absurd h (by show ¬ W3.heap.size ≤ w2.heap.size; omega))]
               exact e0
             clear hh5 ha5 hk5)
          | fail)
        all_goals
          go_wp2_with fail
          go_roundw
          case rel =>
            have b1 : Below w1.heap.size W3 w4 := aside_low HA4.out HT3.out.has (by omega)
            have b2 : Below w1.heap.size w4 w5 := aside_low HA5.out HH4.out (by omega)
            refine ⟨a + m.size, a + m.size, Blk.putM p1 m, Nat.le_refl _, m3, by go_num, by go_num, by omega, HT3.out.next hGl hAl (b1.trans b2) HH5.out, HN.out⟩
          case measure => simp [intOf]; omega
    · have hend : a = b.length := by omega
      have HN := Lib.hid (HK.out.2.trans (Blk.pk_end (by omega)))
      have s2 := fun w => run_cut_l .i64 q b.length c fr (by omega) w
      have hlb : (b.drop fr).length = b.length - fr := List.length_drop
      have HPL := Lib.hid (putLitK p (b.drop fr) w1.heap.size (.slice pp p.length cap) (cutP10 q fr c) (c - fr) wr hsz (by omega) (by rw [hlb]; omega) HT.out.has (HT.out.at_.cut fr c hbc))
      rw [hlb, ← HN.out] at HPL
      obtain ⟨q2, hq2⟩ : ∃ q2, q2 = cutP10 q fr c := ⟨_, rfl⟩
      obtain ⟨k2, hk2⟩ : ∃ k2, k2 = c - fr := ⟨_, rfl⟩
      obtain ⟨l2, hl2⟩ : ∃ l2, l2 = b.length - fr := ⟨_, rfl⟩
      rw [← hq2, ← hk2, ← hl2] at s2 HPL
      clear hq2 hk2 hl2 hlb HK
      subst hend
      go_wp2_with fail
      refine HPL.out.mono ?_
      rintro e w4 ⟨q4, cap4, rfl, hh4, ha4, -⟩
      have HH4 := Lib.hid hh4
      have HB4 := Lib.hid (aside_low ha4 HT.out.has hsz)
      clear hh4 ha4
      go_wp2
      go_ret
      refine ⟨q4, cap4, rfl, HH4.out.lower HT.out.low.size, HT.out.low.trans ((HT.out.more.mono HT.out.low.size).trans (HB4.out.mono HT.out.low.size))⟩

set_option maxRecDepth 100000 in
set_option maxHeartbeats 1000000 in
theorem packK (b : List UInt8) (q : Option Addr) (c : Nat) (w : World) (hb : b.length ≤ 140737488351232) (hbc : b.length ≤ c) (hq : At w q b) :
    Calls Try.prog 11 #[.slice q b.length c] w (ResV w (Blk.pack b)) := by
  obtain ⟨R, hR⟩ : ∃ R, R = Blk.pack b := ⟨_, rfl⟩
  rw [← hR]
  unfold Blk.pack at hR
  by_cases h0 : 2048 < b.length
  · rw [if_pos h0] at hR
    have HR := Lib.hid hR
    clear hR
    go_enter Try.func11, Try.ntmps11
    go_wp2
    go_ret2
    rw [HR.out]
    exact ⟨none, 0, 0, rfl, rfl, has_nil _ _, Below.refl _ _⟩
  · rw [if_neg h0] at hR
    have HP := Lib.hid (packTokensK b q c w (by omega) hbc hq)
    have HQ := Lib.hid hq
    obtain ⟨p, hp⟩ : ∃ p, p = Blk.packT b := ⟨_, rfl⟩
    rw [← hp] at HP hR
    have HR0 := Lib.hid hR
    clear hp hq hR
    go_enter Try.func11, Try.ntmps11
    go_wp2_with fail
    refine HP.out.mono ?_
    rintro e w1 ⟨q1, cap1, rfl, hh, hb1⟩
    have HH := Lib.hid hh
    have HB := Lib.hid hb1
    have hs1 := hb1.size
    clear hh hb1
    by_cases h1 : p.length ≤ b.length
    · have HR : Hid (R = ⟨0, p⟩) := by show _ = _; rw [HR0.out, if_pos h1]
      clear HR0
      go_wp2
      go_ret2
      rw [HR.out]
      exact ⟨q1, _, cap1, rfl, rfl, HH.out, HB.out⟩
    · have HR : Hid (R = ⟨0, 0 :: b⟩) := by show _ = _; rw [HR0.out, if_neg h1]
      clear HR0
      have HL : Hid (Has (w1.alloc (.cells #[.int .u8 0] 5)) w1.heap.size (.slice (some ⟨w1.heap.size, 0, none⟩) 1 1) [0]) := has_lit (B := w1.heap.size) [0] rfl (Nat.le_refl _) (by decide)
      have HA : Hid (At (w1.alloc (.cells #[.int .u8 0] 5)) q b) := (HQ.out.on HB.out).on ((Below.refl _ _).alloc (Nat.le_refl _) _)
      have HB2 : Hid (Below w.heap.size w (w1.alloc (.cells #[.int .u8 0] 5))) := HB.out.alloc hs1 _
      go_wp2_with (first
        | (at_builtin
           refine wp_ontoL (xs := [0]) HL.out HA.out (by simp; omega) (by simp) rfl rfl rfl rfl rfl ?_
           intro ys q3 cap3 W HY hh ha hk
           have HH3 := Lib.hid hh
           have HA3 := Lib.hid (aside_low ha HL.out (by simp))
           clear hh ha hk)
        | fail)
      go_ret2
      rw [HR.out]
      have e : ys = 0 :: b := HY.out
      rw [e] at HH3
      rw [e]
      exact ⟨q3, _, cap3, rfl, rfl, HH3.out.lower hs1, HB2.out.trans (HA3.out.mono hs1)⟩
end Go.Proofs.Ytpkbdnilakaakaa

/- Blocks that are made one behind the other; what a row of calls keeps. -/
namespace Go.Proofs.Ytpkbdnilakaakaa
open Go.RowKit

/-- two blocks more -/
theorem al2 (w : World) (o0 o1 : Obj) : ((w.alloc o0).alloc o1).heap[w.heap.size]? = some o0 ∧ ((w.alloc o0).alloc o1).heap[w.heap.size + 1]? = some o1 ∧ Below w.heap.size w ((w.alloc o0).alloc o1) ∧ ((w.alloc o0).alloc o1).heap.size = w.heap.size + 2 := by
  refine ⟨?_, ?_, ((Below.refl _ _).alloc (Nat.le_refl _) _).alloc (by simp) _, by simp⟩
  · rw [blk_old _ _ (by simp)]; exact blk_new w _
  · have := blk_new (w.alloc o0) o1
    simpa using this
theorem al3 (w : World) (o0 o1 o2 : Obj) : (((w.alloc o0).alloc o1).alloc o2).heap[w.heap.size]? = some o0 ∧ (((w.alloc o0).alloc o1).alloc o2).heap[w.heap.size + 1]? = some o1 ∧ (((w.alloc o0).alloc o1).alloc o2).heap[w.heap.size + 1 + 1]? = some o2 ∧ Below w.heap.size w (((w.alloc o0).alloc o1).alloc o2) ∧ (((w.alloc o0).alloc o1).alloc o2).heap.size = w.heap.size + 3 := by
  obtain ⟨h0, h1, hb, hs⟩ := al2 w o0 o1
  refine ⟨?_, ?_, ?_, hb.alloc (by rw [hs]; omega) _, ?_⟩
  · rw [blk_old _ _ (by rw [hs]; omega)]; exact h0
  · rw [blk_old _ _ (by rw [hs]; omega)]; exact h1
  · have := blk_new ((w.alloc o0).alloc o1) o2
    rw [hs] at this
    exact this
  · simp
theorem al4 (w : World) (o0 o1 o2 o3 : Obj) : ((((w.alloc o0).alloc o1).alloc o2).alloc o3).heap[w.heap.size]? = some o0 ∧ ((((w.alloc o0).alloc o1).alloc o2).alloc o3).heap[w.heap.size + 1]? = some o1 ∧ ((((w.alloc o0).alloc o1).alloc o2).alloc o3).heap[w.heap.size + 1 + 1]? = some o2 ∧ ((((w.alloc o0).alloc o1).alloc o2).alloc o3).heap[w.heap.size + 1 + 1 + 1]? = some o3 ∧ Below w.heap.size w ((((w.alloc o0).alloc o1).alloc o2).alloc o3) ∧ ((((w.alloc o0).alloc o1).alloc o2).alloc o3).heap.size = w.heap.size + 4 := by
  obtain ⟨h0, h1, h2, hb, hs⟩ := al3 w o0 o1 o2
  refine ⟨?_, ?_, ?_, ?_, hb.alloc (by rw [hs]; omega) _, ?_⟩
  · rw [blk_old _ _ (by rw [hs]; omega)]; exact h0
  · rw [blk_old _ _ (by rw [hs]; omega)]; exact h1
  · rw [blk_old _ _ (by rw [hs]; omega)]; exact h2
  · have := blk_new (((w.alloc o0).alloc o1).alloc o2) o3
    rw [hs] at this
    exact this
  · simp
theorem al5 (w : World) (o0 o1 o2 o3 o4 : Obj) : (((((w.alloc o0).alloc o1).alloc o2).alloc o3).alloc o4).heap[w.heap.size]? = some o0 ∧ (((((w.alloc o0).alloc o1).alloc o2).alloc o3).alloc o4).heap[w.heap.size + 1]? = some o1 ∧ (((((w.alloc o0).alloc o1).alloc o2).alloc o3).alloc o4).heap[w.heap.size + 1 + 1]? = some o2 ∧ (((((w.alloc o0).alloc o1).alloc o2).alloc o3).alloc o4).heap[w.heap.size + 1 + 1 + 1]? = some o3 ∧ (((((w.alloc o0).alloc o1).alloc o2).alloc o3).alloc o4).heap[w.heap.size + 1 + 1 + 1 + 1]? = some o4 ∧ Below w.heap.size w (((((w.alloc o0).alloc o1).alloc o2).alloc o3).alloc o4) ∧ (((((w.alloc o0).alloc o1).alloc o2).alloc o3).alloc o4).heap.size = w.heap.size + 5 := by
  obtain ⟨h0, h1, h2, h3, hb, hs⟩ := al4 w o0 o1 o2 o3
  refine ⟨?_, ?_, ?_, ?_, ?_, hb.alloc (by rw [hs]; omega) _, ?_⟩
  · rw [blk_old _ _ (by rw [hs]; omega)]; exact h0
  · rw [blk_old _ _ (by rw [hs]; omega)]; exact h1
  · rw [blk_old _ _ (by rw [hs]; omega)]; exact h2
  · rw [blk_old _ _ (by rw [hs]; omega)]; exact h3
  · have := blk_new ((((w.alloc o0).alloc o1).alloc o2).alloc o3) o4
    rw [hs] at this
    exact this
  · simp
theorem blk_at {w w' : World} {g : Nat} {C : Array Value} {T : TypeId} {fr : Nat × Nat} (h : w.heap[g]? = some (.cells C T fr)) (hb : Below w.heap.size w w') (m : Nat) : w'.cell? ⟨g, m, none⟩ = C[m]? :=
  blk_cell ((hb.block _ (blk_lt h)).trans h) m
end Go.Proofs.Ytpkbdnilakaakaa
