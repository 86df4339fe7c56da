/- K10I, WRef10: put together. -/
import Derived.Test.YtpkbdnilakaakaaGreatM44
import Derived.Test.YtpkbdnilakaakaaGreatM41

/- The landed block's Pack. -/
namespace Go.Proofs.YtpkbdnilakaakaaGreat
open Go.RowKit

theorem step_call210 {w : World} {ops : Array Oper} {o : Oper} {a : Act} {K : Act → World → Prop} {Q : Exit → Act → World → Prop} {E : Prop} {f : FuncId} {fn : Func} {code : Code} {u v : Value} {R : Ending → World → Prop} (x y : Operand) (t t' : TypeId)
    (hg : o.guard = none) (hop : o.op = Op.call { callee := .value (.func f), args := #[x, y], argTypes := #[t, t'] }) (hx : a.eval x = u) (hy : a.eval y = v)
    (hf : Tryz.prog.funcs[f]? = some fn) (hname : (fn.name == "runtime.NumGoroutine") = false) (hb : fn.body = some code)
    (hc : Calls Tryz.prog f #[u, v] w R) (hR : ∀ e w', R e w' → ∃ z, e = .returned z ∧ K (a.put o.dst z) w') :
    if Region.wanted o (yielded ops a.tmps) = true then Oper.wp Tryz.prog o a w K Q else E := by
  have hw : Region.wanted o (yielded ops a.tmps) = true := by simp [Region.wanted, hg]
  rw [if_pos hw]
  have h1 : fn.name ≠ "runtime.NumGoroutine" := by simpa using hname
  unfold Oper.wp
  have he : (execOp a.eval o).run Tryz.prog w = .ok (.enter f #[u, v]) w := by
    have hev : a.eval (.func f) = .func (.func f) #[] #[] := rfl
    simp [execOp, hop, resolve, invoke, hx, hy, hev, Deferred.ofValue, callFunc, hf, h1, hb]
  rw [he, Oper.upon_enter]
  refine hc.mono ?_
  intro e w' hr
  obtain ⟨z, rfl, hk⟩ := hR e w' hr
  exact hk
theorem aside_drew {F : Nat → Prop} {w w' : World} (h : Aside F w.drew w') : Aside F w w' := ⟨h.os, h.tape, h.output, h.size, h.block⟩
/-- while tokens are laid down: B is the world's size behind lookUp -/
structure Toks (w w1 wr : World) (q : Option Addr) (b : List UInt8) (G A : Nat) (v : Value) (p : List UInt8) : Prop where
  low : Below w.heap.size w w1
  more : Below w1.heap.size w1 wr
  look : Look wr G A b
  at_ : AtB wr w1.heap.size q b
  has : Has wr w1.heap.size v p
theorem Toks.next {w w1 wr w' : World} {q : Option Addr} {b : List UInt8} {G A : Nat} {v v' : Value} {p p' : List UInt8} (h : Toks w w1 wr q b G A v p) (hG : G < w1.heap.size) (hA : A < w1.heap.size) (hb : Below w1.heap.size wr w') (hp : Has w' w1.heap.size v' p') : Toks w w1 w' q b G A v' p' :=
  ⟨h.low, h.more.trans hb, h.look.keep hb hG hA, h.at_.keep hb, hp⟩

/-- what the tokens come to is no more than this -/
theorem putL_len (p l : List UInt8) : (Blk.putL p l).length ≤ p.length + 10 + l.length := by
  unfold Blk.putL
  split
  · omega
  · have := Leb.put_length_le (2 * l.length)
    simp only [List.length_append]; omega
theorem putM_len (p : List UInt8) (m : Blk.Mt) : (Blk.putM p m).length ≤ p.length + 20 := by
  unfold Blk.putM
  have := Leb.put_length_le (2 * m.size + 1)
  have := Leb.put_length_le m.back
  simp only [List.length_append]; omega

set_option maxRecDepth 100000 in
set_option maxHeartbeats 4000000 in
theorem packTokensK (b : List UInt8) (q : Option Addr) (c : Nat) (w : World) (hb : b.length ≤ 2048) (hbc : b.length ≤ c) (hq : At w q b) :
    Calls Tryz.prog 32 #[.slice q b.length c] w fun e w' => ∃ q' cap, e = .returned (.slice q' (Blk.packT b).length cap) ∧ Has w' w.heap.size (.slice q' (Blk.packT b).length cap) (Blk.packT b) ∧ Below w.heap.size w w' := by
  have HLU := Lib.hid (lookUpK b q c w hb hq)
  have HQ0 := Lib.hid hq
  obtain ⟨R, hR⟩ : ∃ R, R = Blk.packT b := ⟨_, rfl⟩
  have HR : Hid (R = Blk.pk b (b.length - 0) 0 0 [1]) := hR
  rw [← hR]
  clear hR hq
  go_enter Tryz.func32, Tryz.ntmps32
  go_wp2_with fail
  refine HLU.out.mono ?_
  rintro e w1 ⟨rfl, hlk, hlow⟩
  obtain ⟨G, hG⟩ : ∃ G, G = w.heap.size + 1 + 1 := ⟨_, rfl⟩
  obtain ⟨A, hA⟩ : ∃ A, A = w.heap.size + 1 := ⟨_, rfl⟩
  rw [← hG] at hlk ⊢
  rw [← hA] at hlk
  have hGl := hlk.var.lt
  have hAl := hlk.row.lt
  have HS : Hid (Toks w w1 (w1.alloc (.cells #[.int .u8 1] 5)) q b G A (.slice (some ⟨w1.heap.size, 0, none⟩) 1 1) [1]) := by
    have ha : Below w1.heap.size w1 (w1.alloc (.cells #[.int .u8 1] 5)) := (Below.refl _ _).alloc (Nat.le_refl _) _
    exact ⟨hlow, ha, hlk.keep ha hGl hAl, ((HQ0.out.on hlow).atB (Nat.le_refl _)).keep ha, has_lit (B := w1.heap.size) [1] rfl (Nat.le_refl _) (by decide)⟩
  clear hG hA hlk hlow HLU HQ0
  go_wp2_with fail
  generalize w1.alloc (.cells #[.int .u8 1] 5) = W0 at HS ⊢
  go_loopw [4, 5, 6] (fun v4 v5 v6 wr => ∃ (fr a : Nat) (p : List UInt8), fr ≤ a ∧ a ≤ b.length ∧ v5 = .int .i64 fr ∧ v6 = .int .i64 a ∧ p.length ≤ 60 * fr + 100 ∧ Hid (Toks w w1 wr q b G A v4 p ∧ R = Blk.pk b (b.length - a) fr a p)) (fun _ _ v6 _ => b.length - (intOf v6).toNat)
  case atStart => exact ⟨0, 0, [1], Nat.le_refl _, Nat.zero_le _, rfl, rfl, by decide, HS.out, HR.out⟩
  case round =>
    obtain ⟨fr, a, p, hfa, hab, rfl, rfl, hpl, HK⟩ := hrel
    obtain ⟨pp, cap, rfl, -, hcap⟩ := HK.out.1.has.at
    have HT := Lib.hid HK.out.1
    have hsz := HT.out.more.size
    by_cases hlt : a < b.length
    · have HLo := Lib.hid (longestK b q c G A a wr hb hbc hlt HT.out.at_.at_ HT.out.look)
      have hgood := Blk.longest_good b a
      have HSk := Lib.hid (fun h0 => HK.out.2.trans (Blk.pk_skip (fr := fr) (p := p) hlt h0))
      have HTk := Lib.hid (fun h0 => HK.out.2.trans (Blk.pk_take (fr := fr) (p := p) hlt h0))
      obtain ⟨m, hm⟩ : ∃ m, m = Blk.longest b a := ⟨_, rfl⟩
      rw [← hm] at HLo hgood HSk HTk
      clear hm HK
      go_wp2_with fail
      refine HLo.out.mono ?_
      rintro e w2 ⟨rfl, hb2⟩
      obtain ⟨W3, hW3⟩ : ∃ W3, W3 = w2.alloc (.cells #[.int .i64 (m.size : Nat), .int .i64 (m.back : Nat)] 90) := ⟨_, rfl⟩
      have hb3 : Below wr.heap.size wr W3 := by rw [hW3]; exact hb2.alloc hb2.size _
      have hF : W3.heap[w2.heap.size]? = some (.cells #[.int .i64 (m.size : Nat), .int .i64 (m.back : Nat)] 90 (0, 0)) := by rw [hW3]; exact blk_new10 w2 _
      have c0 : W3.cell? ⟨w2.heap.size, 0, none⟩ = some (.int .i64 (m.size : Nat)) := blk_cell10 hF 0
      have c1 : W3.cell? ⟨w2.heap.size, 1, none⟩ = some (.int .i64 (m.back : Nat)) := blk_cell10 hF 1
      have HT3 : Hid (Toks w w1 W3 q b G A (.slice pp p.length cap) p) := HT.out.next hGl hAl (hb3.mono hsz) (HT.out.has.on hb3)
      have hs3 : wr.heap.size ≤ w2.heap.size := hb2.size
      have HW3 := Lib.hid hW3
      have HF := Lib.hid hF
      have hs3' := blk_lt10 hF
      have HOw : Hid (∀ k, (Value.slice pp p.length cap).ownBlock = some k → k < wr.heap.size) := fun k hk => (HT.out.has.lt k hk).2
      clear hb2 hb3 hW3 hF HLo
      by_cases h0 : m.size = 0
      · have HN := Lib.hid (HSk.out h0)
        have HW4 : Hid (W3 = w2.alloc (.cells #[.int .i64 0, .int .i64 (m.back : Nat)] 90)) := by
          have h := HW3.out
          rw [h0] at h
          exact h
        clear HSk HTk hgood c0 HW3
        go_wp2_with fail
        rw [← HW4.out]
        go_roundw
        case rel => exact ⟨fr, a + 1, p, by omega, by omega, rfl, by go_num, by omega, HT3.out, HN.out⟩
        case measure => simp [intOf]; omega
      · have hg := hgood.resolve_left h0
        have HN := Lib.hid (HTk.out h0)
        have g0 : ((m.size : Int) == 0) = false := by rw [beq_eq_false_iff_ne]; omega
        have m1 := hg.most
        have m2 := hg.near
        have m3 := hg.fits
        have m4 := hg.four
        have s2 := fun w => run_cut_lh10 q b.length c fr a (by omega) (by omega) w
        have hlb : ((b.drop fr).take (a - fr)).length = a - fr := by rw [List.length_take, List.length_drop]; omega
        have HAt : Hid (AtB W3 w1.heap.size (cutP10 q fr c) ((b.drop fr).take (a - fr))) := by
          have h1 := HT3.out.at_.cut fr c hbc
          refine ⟨?_, fun hne => h1.low (fun he => hne (by rw [he]; simp))⟩
          rcases h1.at_ with h2 | ⟨bb, oo, h2, h3, h4⟩
          · exact .inl (by rw [h2]; simp)
          · exact .inr ⟨bb, oo, h2, h3, cells_take h4 _⟩
        have HPL := Lib.hid (putLitK p ((b.drop fr).take (a - fr)) w1.heap.size (.slice pp p.length cap) (cutP10 q fr c) (c - fr) W3.drew (by show w1.heap.size ≤ W3.heap.size; omega) (by omega) (by rw [hlb]; omega) HT3.out.has ⟨HAt.out.at_, HAt.out.low⟩)
        have hpl2 := putL_len p ((b.drop fr).take (a - fr))
        rw [hlb] at HPL hpl2
        obtain ⟨p1, hp1⟩ : ∃ p1, p1 = Blk.putL p ((b.drop fr).take (a - fr)) := ⟨_, rfl⟩
        rw [← hp1] at HPL HN hpl2
        have hpl3 := putM_len p1 m
        obtain ⟨q2, hq2⟩ : ∃ q2, q2 = cutP10 q fr c := ⟨_, rfl⟩
        obtain ⟨k2, hk2⟩ : ∃ k2, k2 = c - fr := ⟨_, rfl⟩
        obtain ⟨l2, hl2⟩ : ∃ l2, l2 = a - fr := ⟨_, rfl⟩
        rw [← hq2, ← hk2, ← hl2] at s2 HPL
        clear hp1 hq2 hk2 hl2 HSk HTk hgood hlb HAt
        go_wp2_with fail
        rw [← HW3.out]
        go_region_law (first
          | (refine step_call210 (u := .slice pp p.length cap) (v := .slice q2 l2 k2) (.tmp 24) (.tmp 28) 29 29 (by rfl) (by rfl) (by simp [Act.eval, Act.put]) (by simp [Act.eval, Act.put]) Tryz.func54 (by kernel_rfl) (by rfl) HPL.out ?_
             rintro e w4 ⟨q4, cap4, rfl, hh4, ha4, hk4⟩
             refine ⟨_, rfl, ?_⟩
             have ha5 : Aside (fun k => (Value.slice pp p.length cap).ownBlock = some k) W3 w4 := aside_drew ha4
             have e0 : w4.cell? ⟨w2.heap.size, 0, none⟩ = some (.int .i64 (m.size : Nat)) := by rw [ha5.cell (p := ⟨w2.heap.size, 0, none⟩) hs3' (fun hc => by have := HOw.out _ hc; exact absurd this (by show ¬ w2.heap.size < wr.heap.size; omega))]; exact c0
             have e1 : w4.cell? ⟨w2.heap.size, 1, none⟩ = some (.int .i64 (m.back : Nat)) := by rw [ha5.cell (p := ⟨w2.heap.size, 1, none⟩) hs3' (fun hc => by have := HOw.out _ hc; exact absurd this (by show ¬ w2.heap.size < wr.heap.size; omega))]; exact c1
             have HH4 := Lib.hid hh4
             have HA4 := Lib.hid ha5
             have hs4 := ha5.size
             have HK4 := Lib.hid hk4
             clear hh4 ha4 ha5 hk4)
          | (refine step_call210 (u := .slice q4 p1.length cap4) (v := .agg #[.int .i64 (m.size : Nat), .int .i64 (m.back : Nat)]) (.tmp 29) (.tmp 30) 29 90 (by rfl) (by rfl) (by simp [Act.eval]) (by simp [Act.eval]) Tryz.func53 (by kernel_rfl) (by rfl) (putMatK p1 m w1.heap.size (.slice q4 p1.length cap4) _ (by show w1.heap.size ≤ w4.heap.size; omega) (by omega) m1 m2 HH4.out) ?_
             rintro e w5 ⟨q5, cap5, rfl, hh5, ha5, hk5⟩
             refine ⟨_, rfl, ?_⟩
             have HH5 := Lib.hid hh5
             have HA5 : Hid (Aside (fun k => (Value.slice q4 p1.length cap4).ownBlock = some k) w4 w5) := ⟨ha5.os, ha5.tape, ha5.output, ha5.size, ha5.block⟩
             have x0 : w5.cell? ⟨w2.heap.size, 0, none⟩ = some (.int .i64 (m.size : Nat)) := by
               rw [HA5.out.cell (p := ⟨w2.heap.size, 0, none⟩) (by show w2.heap.size < w4.heap.size; omega) (fun hc => by
                 rcases HK4.out _ hc with h | h
                 · have := HOw.out _ h
                   exact absurd this (by show ¬ w2.heap.size < wr.heap.size; omega)
                 · exact absurd h (by show ¬ W3.heap.size ≤ w2.heap.size; omega))]
               exact e0
             clear hh5 ha5 hk5)
          | fail)
        all_goals
          go_wp2_with fail
          go_roundw
          case rel =>
            have b1 : Below w1.heap.size W3 w4 := aside_low HA4.out HT3.out.has (by omega)
            have b2 : Below w1.heap.size w4 w5 := aside_low HA5.out HH4.out (by omega)
            refine ⟨a + m.size, a + m.size, Blk.putM p1 m, Nat.le_refl _, m3, by go_num, by go_num, by omega, HT3.out.next hGl hAl (b1.trans b2) HH5.out, HN.out⟩
          case measure => simp [intOf]; omega
    · have hend : a = b.length := by omega
      have HN := Lib.hid (HK.out.2.trans (Blk.pk_end (by omega)))
      have s2 := fun w => run_cut_l .i64 q b.length c fr (by omega) w
      have hlb : (b.drop fr).length = b.length - fr := List.length_drop
      have HPL := Lib.hid (putLitK p (b.drop fr) w1.heap.size (.slice pp p.length cap) (cutP10 q fr c) (c - fr) wr hsz (by omega) (by rw [hlb]; omega) HT.out.has (HT.out.at_.cut fr c hbc))
      rw [hlb, ← HN.out] at HPL
      obtain ⟨q2, hq2⟩ : ∃ q2, q2 = cutP10 q fr c := ⟨_, rfl⟩
      obtain ⟨k2, hk2⟩ : ∃ k2, k2 = c - fr := ⟨_, rfl⟩
      obtain ⟨l2, hl2⟩ : ∃ l2, l2 = b.length - fr := ⟨_, rfl⟩
      rw [← hq2, ← hk2, ← hl2] at s2 HPL
      clear hq2 hk2 hl2 hlb HK
      subst hend
      go_wp2_with fail
      refine HPL.out.mono ?_
      rintro e w4 ⟨q4, cap4, rfl, hh4, ha4, -⟩
      have HH4 := Lib.hid hh4
      have HB4 := Lib.hid (aside_low ha4 HT.out.has hsz)
      clear hh4 ha4
      go_wp2
      go_ret
      refine ⟨q4, cap4, rfl, HH4.out.lower HT.out.low.size, HT.out.low.trans ((HT.out.more.mono HT.out.low.size).trans (HB4.out.mono HT.out.low.size))⟩

set_option maxRecDepth 100000 in
set_option maxHeartbeats 1000000 in
theorem packK (b : List UInt8) (q : Option Addr) (c : Nat) (w : World) (hb : b.length ≤ 140737488351232) (hbc : b.length ≤ c) (hq : At w q b) :
    Calls Tryz.prog 19 #[.slice q b.length c] w (ResV w (Blk.pack b)) := by
  obtain ⟨R, hR⟩ : ∃ R, R = Blk.pack b := ⟨_, rfl⟩
  rw [← hR]
  unfold Blk.pack at hR
  by_cases h0 : 2048 < b.length
  · rw [if_pos h0] at hR
    have HR := Lib.hid hR
    clear hR
    go_enter Tryz.func19, Tryz.ntmps19
    go_wp2
    go_ret2
    rw [HR.out]
    exact ⟨none, 0, 0, rfl, rfl, has_nil _ _, Below.refl _ _⟩
  · rw [if_neg h0] at hR
    have HP := Lib.hid (packTokensK b q c w (by omega) hbc hq)
    have HQ := Lib.hid hq
    obtain ⟨p, hp⟩ : ∃ p, p = Blk.packT b := ⟨_, rfl⟩
    rw [← hp] at HP hR
    have HR0 := Lib.hid hR
    clear hp hq hR
    go_enter Tryz.func19, Tryz.ntmps19
    go_wp2_with fail
    refine HP.out.mono ?_
    rintro e w1 ⟨q1, cap1, rfl, hh, hb1⟩
    have HH := Lib.hid hh
    have HB := Lib.hid hb1
    have hs1 := hb1.size
    clear hh hb1
    by_cases h1 : p.length ≤ b.length
    · have HR : Hid (R = ⟨0, p⟩) := by show _ = _; rw [HR0.out, if_pos h1]
      clear HR0
      go_wp2
      go_ret2
      rw [HR.out]
      exact ⟨q1, _, cap1, rfl, rfl, HH.out, HB.out⟩
    · have HR : Hid (R = ⟨0, 0 :: b⟩) := by show _ = _; rw [HR0.out, if_neg h1]
      clear HR0
      have HL : Hid (Has (w1.alloc (.cells #[.int .u8 0] 5)) w1.heap.size (.slice (some ⟨w1.heap.size, 0, none⟩) 1 1) [0]) := has_lit (B := w1.heap.size) [0] rfl (Nat.le_refl _) (by decide)
      have HA : Hid (At (w1.alloc (.cells #[.int .u8 0] 5)) q b) := (HQ.out.on HB.out).on ((Below.refl _ _).alloc (Nat.le_refl _) _)
      have HB2 : Hid (Below w.heap.size w (w1.alloc (.cells #[.int .u8 0] 5))) := HB.out.alloc hs1 _
      go_wp2_with (first
        | (at_builtin
           refine wp_ontoL (xs := [0]) HL.out HA.out (by simp; omega) (by simp) rfl rfl rfl rfl rfl ?_
           intro ys q3 cap3 W HY hh ha hk
           have HH3 := Lib.hid hh
           have HA3 := Lib.hid (aside_low ha HL.out (by simp))
           clear hh ha hk)
        | fail)
      go_ret2
      rw [HR.out]
      have e : ys = 0 :: b := HY.out
      rw [e] at HH3
      rw [e]
      exact ⟨q3, _, cap3, rfl, rfl, HH3.out.lower hs1, HB2.out.trans (HA3.out.mono hs1)⟩
end Go.Proofs.YtpkbdnilakaakaaGreat

/- The document's own Unpack. -/
namespace Go.Proofs.YtpkbdnilakaakaaGreat
open Go.RowKit

theorem gotV_badN (l : List UInt8) (a : Nat) (h : (Leb.get (l.drop a)).err ≠ 0) : gotV l a = .tuple #[.int .u64 0, .int .i64 0, .int .i64 ((Leb.get (l.drop a)).err : Nat)] := by
  have hb := Leb.getF_bad 10 true (l.drop a) h
  refine gotV_bad l a _ h ?_
  obtain ⟨h1, h2⟩ := hb
  have e1 : (Leb.get (l.drop a)).n = 0 := h1
  have e2 : (Leb.get (l.drop a)).k = 0 := h2
  generalize Leb.get (l.drop a) = g at e1 e2
  cases g
  simp_all
theorem gotV_okN (l : List UInt8) (a : Nat) (h : (Leb.get (l.drop a)).err = 0) : gotV l a = .tuple #[.int .u64 ((Leb.get (l.drop a)).n : Nat), .int .i64 ((a + (Leb.get (l.drop a)).k : Nat) : Int), .int .i64 0] := by
  have := gotV_ok l a (Leb.get (l.drop a)).n (Leb.get (l.drop a)).k (by
    generalize Leb.get (l.drop a) = g at h
    cases g
    simp_all)
  rw [this, Int.natCast_add]

/-- what the taking of a token tells: the bytes, the place behind it, the error -/
def TokR (w : World) (B : Nat) (l : List UInt8) (a : Nat) (k : Blk.Tk) (e : Ending) (w' : World) : Prop :=
  ∃ q m cap nx, e = .returned (.tuple #[.slice q m cap, .int .i64 (nx : Nat), .int .i64 (k.err : Nat)]) ∧ (k.err = 0 → m = k.out.length ∧ Has w' B (.slice q m cap) k.out ∧ k.rest = l.drop nx ∧ nx ≤ l.length ∧ a ≤ nx) ∧ Below B w w'
theorem tokR_bad (w : World) (B : Nat) (l : List UInt8) (a k : Nat) (hk : k ≠ 0) : TokR w B l a ⟨k, [], []⟩ (.returned (.tuple #[.slice none 0 0, .int .i64 0, .int .i64 (k : Nat)])) w :=
  ⟨none, 0, 0, 0, rfl, fun h => absurd h hk, Below.refl _ _⟩

set_option maxRecDepth 100000 in
set_option maxHeartbeats 1000000 in
theorem refLitK (out l : List UInt8) (a n : Nat) (hn : n < 18446744073709551616) (B : Nat) (vb : Value) (q : Option Addr) (c : Nat) (w : World) (hB : B ≤ w.heap.size) (ho : out.length ≤ 2048) (hl : l.length ≤ 140737488351232) (ha : a ≤ l.length) (hb : Has w B vb out) (hq : AtB w B q l) :
    Calls Tryz.prog 36 #[vb, .slice q l.length c, .int .i64 a, .int .u64 n] w (TokR w B l a (Blk.takeL out (l.drop a) n)) := by
  obtain ⟨r, hr⟩ : ∃ r, r = Blk.takeL out (l.drop a) n := ⟨_, rfl⟩
  rw [← hr]
  unfold Blk.takeL at hr
  have hdl : (l.drop a).length = l.length - a := List.length_drop
  obtain ⟨p, cap, rfl, hp, hcap⟩ := hb.at
  have HHas := Lib.hid hb
  have HQ := Lib.hid hq
  clear hb hq hp
  by_cases h0 : n = 0
  · subst h0
    rw [if_pos rfl] at hr
    have HR := Lib.hid hr
    clear hr
    go_enter Tryz.func36, Tryz.ntmps36
    go_wp2
    try rw [Exit.noGoto_ret]
    go_ret3
    rw [HR.out]
    exact tokR_bad w B l a 5 (by decide)
  · rw [if_neg h0] at hr
    have g0 : ((n : Int) == 0) = false := by rw [beq_eq_false_iff_ne]; omega
    by_cases h1 : 2048 - out.length < n
    · rw [if_pos h1] at hr
      have g1 : (2048 - (out.length : Int)) % 18446744073709551616 < (n : Int) := by omega
      have HR := Lib.hid hr
      clear hr
      go_enter Tryz.func36, Tryz.ntmps36
      go_wp2
      try rw [Exit.noGoto_ret]
      go_ret3
      rw [HR.out]
      exact tokR_bad w B l a 2 (by decide)
    · rw [if_neg h1] at hr
      have g1 : ¬ (2048 - (out.length : Int)) % 18446744073709551616 < (n : Int) := by omega
      have hn2 : n ≤ 2048 := by omega
      by_cases h2 : (l.drop a).length < n
      · rw [if_pos h2] at hr
        have HR := Lib.hid hr
        have g2 : (l.length : Int) - (a : Int) < (n : Int) := by omega
        clear hr h2 hdl
        go_enter Tryz.func36, Tryz.ntmps36
        go_wp2
        try rw [Exit.noGoto_ret]
        go_ret3
        rw [HR.out]
        exact tokR_bad w B l a 30 (by decide)
      · rw [if_neg h2] at hr
        have HR := Lib.hid hr
        have g2 : ¬ (l.length : Int) - (a : Int) < (n : Int) := by omega
        have h3 : a + n ≤ l.length := by omega
        clear hr h2 hdl
        obtain ⟨bb, o, rfl, hbl, hcs⟩ := at_some HQ.out.at_ (by omega)
        have hlow : bb < B := HQ.out.low (List.ne_nil_of_length_pos (by omega)) _ rfl
        have HC := Lib.hid hcs
        clear hcs
        go_enter Tryz.func36, Tryz.ntmps36
        go_wp2_with fail
        go_loopw [0, 11] (fun v0 v11 wr => ∃ (i : Nat), i ≤ n ∧ v11 = .int .i64 i ∧ Hid (Has wr B v0 (out ++ (l.drop a).take i) ∧ Below B w wr)) (fun _ v11 _ => n - (intOf v11).toNat)
        case atStart => exact ⟨0, Nat.zero_le _, rfl, by simpa using HHas.out, Below.refl _ _⟩
        case round =>
          obtain ⟨i, hi, rfl, HK⟩ := hrel
          obtain ⟨pp, cap2, hv, -, -⟩ := HK.out.1.at
          have hlen : (out ++ (l.drop a).take i).length = out.length + i := by simp only [List.length_append, List.length_take, List.length_drop]; omega
          by_cases hin : i < n
          · have hcell : wr.cell? ⟨bb, o + (a + i), none⟩ = some (.int .u8 (l[a + i].toNat : Int)) := by
              rw [HK.out.2.cell (p := ⟨bb, o + (a + i), none⟩) hlow]
              exact HC.out (a + i) (by omega)
            have HS : Hid (out ++ (l.drop a).take (i + 1) = (out ++ (l.drop a).take i) ++ [l[a + i]]) := by
              show _ = _
              rw [List.append_assoc, List.take_add_one, List.getElem?_drop, List.getElem?_eq_getElem (by omega)]
              rfl
            have hc256 : l[a + i].toNat < 256 := l[a + i].toNat_lt
            obtain ⟨ch, hch⟩ : ∃ ch, ch = l[a + i] := ⟨_, rfl⟩
            rw [← hch] at hcell HS hc256
            have hB2 := HK.out.2.size
            have HO := Lib.hid HK.out.1
            have HL := Lib.hid hlen
            have HB2 := Lib.hid HK.out.2
            rw [hv] at HO
            rw [hv]
            clear hch hlen hv HK
            have w1 : IntKind.i64.wrap ((a : Int) + (i : Int)) = (a : Int) + (i : Int) := by rw [IntKind.wrap_i64]; omega
            have w2 : ((a : Int) + (i : Int)).toNat = a + i := by omega
            have w3 : (0 : Int) ≤ (a : Int) + (i : Int) := by omega
            have w4 : (a : Int) + (i : Int) < (l.length : Int) := by omega
            go_wp2_with (at_builtin; refine wp_push HO.out ch (by rw [HL.out]; omega) (by omega) (by rfl) rfl rfl rfl rfl rfl ?_; intro g2 cap3 W hmine hb)
            go_roundw
            case rel =>
              refine ⟨i + 1, by omega, by go_num, ?_, HB2.out.trans hb⟩
              rw [HS.out]
              have := hmine.has
              rw [show ((out ++ (l.drop a).take i) ++ [ch]).length = out.length + min i (l.length - a) + 1 by simp only [List.length_append, List.length_take, List.length_drop, List.length_cons, List.length_nil]] at this
              exact this
            case measure => simp [intOf]; omega
          · have hin2 : i = n := by omega
            subst hin2
            have HL := Lib.hid hlen
            have HO := Lib.hid HK.out.1
            have HB2 := Lib.hid HK.out.2
            rw [hv] at HO
            rw [hv]
            clear hlen hin hv HK
            go_wp2
            try rw [Exit.noGoto_ret]
            go_ret3
            rw [HR.out]
            refine ⟨pp, _, cap2, a + i, ?_, fun _ => ⟨rfl, HO.out, ?_, by omega, by omega⟩, HB2.out⟩
            · go_num
            · rw [List.drop_drop]

set_option maxRecDepth 100000 in
set_option maxHeartbeats 2000000 in
theorem refMatK (out l : List UInt8) (a n : Nat) (hn : n < 18446744073709551616) (B : Nat) (vb : Value) (q : Option Addr) (c : Nat) (w : World) (hB : B ≤ w.heap.size) (ho : out.length ≤ 2048) (hl : l.length ≤ 140737488351232) (ha : a ≤ l.length) (hb : Has w B vb out) (hq : AtB w B q l) :
    Calls Tryz.prog 37 #[vb, .slice q l.length c, .int .i64 a, .int .u64 n] w (TokR w B l a (Blk.takeM out (l.drop a) n)) := by
  obtain ⟨r, hr⟩ : ∃ r, r = Blk.takeM out (l.drop a) n := ⟨_, rfl⟩
  rw [← hr]
  unfold Blk.takeM at hr
  have HG := Lib.hid (refGet_any q c l a hl w hq.at_)
  obtain ⟨p, cap, rfl, hp, hcap⟩ := hb.at
  have HHas := Lib.hid hb
  clear hb hq hp
  by_cases h0 : n < 4 ∨ 255 < n
  · rw [if_pos h0] at hr
    have HR := Lib.hid hr
    clear hr
    by_cases h4 : n < 4
    all_goals
      have h255 : n < 4 ∨ 255 < n := h0
      clear h0
      try have h255' : 255 < n := by omega
      go_enter Tryz.func37, Tryz.ntmps37
      go_wp2
      try rw [Exit.noGoto_ret]
      go_ret3
      rw [HR.out]
      exact tokR_bad w B l a 5 (by decide)
  · rw [if_neg h0] at hr
    have g4 : ¬ n < 4 := by omega
    have g255 : ¬ 255 < n := by omega
    clear h0
    by_cases h1 : (Leb.get (l.drop a)).err ≠ 0
    · rw [if_pos h1] at hr
      have HV := Lib.hid (gotV_badN l a h1)
      rw [HV.out] at HG
      have g1 : (((Leb.get (l.drop a)).err : Int) == 0) = false := by rw [beq_eq_false_iff_ne]; omega
      obtain ⟨er, her⟩ : ∃ er, er = (Leb.get (l.drop a)).err := ⟨_, rfl⟩
      rw [← her] at HG g1 hr h1
      have HR := Lib.hid hr
      clear hr HV her
      go_enter Tryz.func37, Tryz.ntmps37
      go_wp2_with fail
      refine HG.out.mono ?_
      rintro e w' ⟨rfl, hw⟩
      rw [hw]
      clear hw w'
      go_wp2
      try rw [Exit.noGoto_ret]
      go_ret3
      rw [HR.out]
      exact tokR_bad w B l a er h1
    · rw [if_neg h1] at hr
      have hok := Leb.get_ok (l.drop a) (by omega)
      have HV := Lib.hid (gotV_okN l a (by omega))
      rw [HV.out] at HG
      obtain ⟨d, hd⟩ : ∃ d, d = (Leb.get (l.drop a)).n := ⟨_, rfl⟩
      obtain ⟨k, hk⟩ : ∃ k, k = (Leb.get (l.drop a)).k := ⟨_, rfl⟩
      rw [← hd, ← hk] at HG hr hok
      have hd64 := hok.1
      have hkl := hok.2.2.1
      rw [List.length_drop] at hkl
      clear HV hd hk h1 hok
      by_cases h2 : d = 0 ∨ 1024 < d ∨ out.length < d
      · rw [if_pos h2] at hr
        have HR := Lib.hid hr
        clear hr
        by_cases a0 : d = 0
        · subst a0
          clear h2
          go_enter Tryz.func37, Tryz.ntmps37
          go_wp2_with fail
          refine HG.out.mono ?_
          rintro e w' ⟨rfl, hw⟩
          rw [hw]
          clear hw w'
          go_wp2
          try rw [Exit.noGoto_ret]
          go_ret3
          rw [HR.out]
          exact tokR_bad w B l a 5 (by decide)
        · have g0 : ¬ (d : Int) < 1 := by omega
          by_cases a1 : 1024 < d
          · clear h2
            go_enter Tryz.func37, Tryz.ntmps37
            go_wp2_with fail
            refine HG.out.mono ?_
            rintro e w' ⟨rfl, hw⟩
            rw [hw]
            clear hw w'
            go_wp2
            try rw [Exit.noGoto_ret]
            go_ret3
            rw [HR.out]
            exact tokR_bad w B l a 5 (by decide)
          · have a2 : out.length < d := by omega
            clear h2
            go_enter Tryz.func37, Tryz.ntmps37
            go_wp2_with fail
            refine HG.out.mono ?_
            rintro e w' ⟨rfl, hw⟩
            rw [hw]
            clear hw w'
            go_wp2
            try rw [Exit.noGoto_ret]
            go_ret3
            rw [HR.out]
            exact tokR_bad w B l a 5 (by decide)
      · rw [if_neg h2] at hr
        have g0 : ¬ (d : Int) < 1 := by omega
        have a0 : 1 ≤ d := by omega
        have a1 : ¬ 1024 < d := by omega
        have a2 : ¬ out.length < d := by omega
        clear h2
        by_cases h3 : 2048 - out.length < n
        · rw [if_pos h3] at hr
          have HR := Lib.hid hr
          clear hr
          go_enter Tryz.func37, Tryz.ntmps37
          go_wp2_with fail
          refine HG.out.mono ?_
          rintro e w' ⟨rfl, hw⟩
          rw [hw]
          clear hw w'
          go_wp2
          try rw [Exit.noGoto_ret]
          go_ret3
          rw [HR.out]
          exact tokR_bad w B l a 2 (by decide)
        · rw [if_neg h3] at hr
          have HR := Lib.hid hr
          have g3 : ¬ (2048 - (out.length : Int)) % 18446744073709551616 < (n : Int) := by omega
          clear hr
          go_enter Tryz.func37, Tryz.ntmps37
          go_wp2_with fail
          refine HG.out.mono ?_
          rintro e w' ⟨rfl, hw⟩
          rw [hw]
          clear hw w'
          go_wp2_with fail
          go_loopw [0, 14] (fun v0 v14 wr => ∃ (i m cap' : Nat) (g : Nat), i ≤ n ∧ m = out.length + i ∧ v0 = .slice (some ⟨g, 0, none⟩) m cap' ∧ v14 = .int .i64 i ∧ Hid (Mine wr B g cap' (Blk.copyB i d out) ∧ Below B w wr)) (fun _ v14 _ => n - (intOf v14).toNat)
          case atStart =>
            rcases HHas.out.form with ⟨h5, h6⟩ | ⟨g, cap', h5, h6⟩
            · rw [h6] at a2; simp at a2; omega
            · exact ⟨0, out.length, cap', g, Nat.zero_le _, rfl, h5, rfl, h6, Below.refl _ _⟩
          case round =>
            obtain ⟨i, m, cap', g, hi, hm, rfl, rfl, HK⟩ := hrel
            have hlen := Blk.copyB_length i d out
            by_cases hin : i < n
            · have hcell := getD_cell HK.out.1 (m - d) (by omega)
              have hsn := Blk.copyB_snoc i d out
              rw [hlen, ← hm] at hsn
              obtain ⟨ch, hch⟩ : ∃ ch, ch = (Blk.copyB i d out).getD (m - d) 0 := ⟨_, rfl⟩
              rw [← hch] at hcell hsn
              have HS := Lib.hid hsn
              have hc256 : ch.toNat < 256 := ch.toNat_lt
              have hB2 := HK.out.2.size
              have HO : Hid (Has wr B (.slice (some ⟨g, 0, none⟩) m cap') (Blk.copyB i d out)) := by
                have := HK.out.1.has
                rw [hlen, ← hm] at this
                exact this
              have hdm : d ≤ m := by omega
              have hm2 : m ≤ 4096 := by omega
              have HM := Lib.hid hm
              have HL := Lib.hid hlen
              clear hsn hch hm hlen
              go_wp2_with (at_builtin; refine wp_push HO.out ch (by rw [HL.out]; omega) (by omega) (by rfl) rfl rfl rfl rfl rfl ?_; intro g2 cap2 W hmine hb)
              go_roundw
              case rel =>
                refine ⟨i + 1, m + 1, cap2, g2, by omega, by rw [HM.out]; omega, by rw [HL.out, ← HM.out], by go_num, ?_, HK.out.2.trans hb⟩
                rw [HS.out]; exact hmine
              case measure => simp [intOf]; omega
            · have hin2 : i = n := by omega
              subst hin2
              have HM := Lib.hid hm
              have HL := Lib.hid hlen
              clear hm hlen hin
              go_wp2
              try rw [Exit.noGoto_ret]
              go_ret3
              rw [HR.out]
              refine ⟨some ⟨g, 0, none⟩, m, cap', a + k, ?_, fun _ => ⟨?_, ?_, ?_, by omega, by omega⟩, HK.out.2⟩
              · go_num
              · rw [HM.out]; exact HL.out.symm
              · have := HK.out.1.has
                rw [HL.out, ← HM.out] at this
                exact this
              · rw [List.drop_drop]
end Go.Proofs.YtpkbdnilakaakaaGreat
