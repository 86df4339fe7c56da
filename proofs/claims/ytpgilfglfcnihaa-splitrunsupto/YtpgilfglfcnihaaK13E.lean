/- The landed splitter: Feed, New, Held, At, Clone, Runs. -/
import Derived.Test.YtpgilfglfcnihaaK13D
namespace Go.Proofs.Ytpgilfglfcnihaa
open Go.RowKit
attribute [local go_sem] runK_store_func

set_option maxHeartbeats 4000000 in
theorem feedK (w : World) (B g : Nat) (v : Value) (d : Sp) (p : Option Addr) (c : Nat) (l : List UInt8) (h : Spl w B g v d) (hA : At w p l) (hp : l ≠ [] → ∀ b o, p = some ⟨b, o, none⟩ → b ≠ g ∧ v.ownBlock ≠ some b) (hn : d.n + l.length ≤ 100000000) : Calls Try.prog 16 #[.pointer (some ⟨g, 0, none⟩), .slice p l.length c] w fun e w' => ∃ q cap v' bs, e = .returned (.slice q (d.tolds l).length cap) ∧ FI w w' B g v (.slice q (d.tolds l).length cap) v' bs d l := by
  have HFI := Lib.hid (FI.start h)
  have HA : Hid (∀ wr, Aside (fun i => i = g ∨ v.ownBlock = some i) w wr → At wr p l) := fun wr ha => by
    by_cases h0 : l = []
    · exact .inl h0
    · exact hA.aside ha (fun b o hb hc => by
        rcases hc with hc | hc
        · exact (hp h0 b o hb).1 hc
        · exact (hp h0 b o hb).2 hc)
  have hlen : l.length ≤ 100000000 := by omega
  have HN := Lib.hid hn
  clear h hA hp hn
  go_enter Try.func16, Try.ntmps16
  go_wp2
  go_loopw [5, 11] (fun v5 v11 wr => ∃ (i : Nat) (v' : Value) (bs : List Nat), i ≤ l.length ∧ v11 = .int .i64 i ∧ Hid (FI w wr B g v v5 v' bs d (l.take i))) (fun _ v11 _ => l.length - (intOf v11).toNat)
  case atStart => exact ⟨0, v, [], by omega, rfl, HFI.out⟩
  case round =>
    clear HFI
    obtain ⟨i, v', bs, hi, rfl, HI⟩ := hrel
    obtain ⟨rq, rc, hform, -⟩ := HI.out.runs.form
    subst hform
    by_cases hlt : i < l.length
    · have hlt' : (i : Int) < (l.length : Int) := by omega
      obtain ⟨b, o, hp, -, hcells⟩ := at_some (HA.out wr HI.out.aside) (by omega)
      subst hp
      have hci := hcells i hlt
      obtain ⟨x, hx⟩ : ∃ x, x = l[i] := ⟨_, rfl⟩
      rw [← hx] at hci
      have HM : Hid (l.take (i + 1) = l.take i ++ [x]) := by
        show _ = _
        rw [List.take_succ_eq_append_getElem hlt, hx]
      clear hcells hx
      obtain ⟨D, hD⟩ : ∃ D, D = d.run (l.take i) := ⟨_, rfl⟩
      have hDn : D.n ≤ 100000000 := by
        have := HN.out
        rw [hD, Sp.run_n, List.length_take]
        omega
      have HD := Lib.hid hD
      have hs : Spl wr B g v' D := by rw [hD]; exact HI.out.spl
      have c3 : wr.cell? ⟨g, 3, none⟩ = some (nextF g D.op) := s_cell hs.lies 3
      have HP := Lib.hid (passK wr B g v' D x hs)
      have HH := Lib.hid (fun k => holdK wr B g v' D k x hs)
      clear hs hD
      rcases hop : D.op with _ | k
      case' none =>
        rw [hop] at c3
        simp only [nextF] at c3
        go_wp2_with fail
        refine (HP.out hop).mono ?_
      case' some =>
        rw [hop] at c3
        simp only [nextF] at c3
        go_wp2_with fail
        refine (HH.out k hop).mono ?_
      all_goals
        clear HP HH c3 hop hci
        rintro e w1 ⟨v2, a, u, rfl, hN, hR⟩
        rcases hR with ⟨ht, pu, cu, rfl⟩ | ⟨k, ls, g2, c2, ht, hne, rfl, rfl, hm, ho⟩
        · have hb2 : Below w1.heap.size w1 (w1.alloc (.cells #[.int .i64 a, .slice pu 0 cu] 39)) := (Below.refl _ _).alloc (Nat.le_refl _) _
          have hl2 := lies_on hN.lies hb2
          have z0 : (w1.alloc (.cells #[.int .i64 a, .slice pu 0 cu] 39)).cell? ⟨g, 0, none⟩ = some (.int .i64 D.n) := s_cell hl2 0
          have y0 := s_free hl2 0
          have HN2 := Lib.hid hN
          have HT := Lib.hid ht
          clear hN ht hl2
          go_wp2
          go_roundw
          case rel =>
            refine ⟨i + 1, v2, bs, by omega, by go_num, ?_⟩
            rw [HD.out] at HN2 HT
            show FI w _ _ _ _ _ _ _ _ _
            rw [HM.out]
            have := feed_none HI.out HN2.out HT.out hb2 (D.n + 1) (by rw [HD.out])
            rw [show (((D.n + 1 : Nat) : Int)) = (D.n : Int) + 1 by omega] at this
            exact this
          case measure => simp [intOf]; omega
        · have hlp : 0 < ls.length := List.length_pos_iff.2 hne
          have hlp' : (0 : Int) < (ls.length : Int) := by omega
          have hb2 : Below w1.heap.size w1 ((w1.alloc (.cells #[.int .i64 (k : Int), .slice (some ⟨g2, 0, none⟩) ls.length c2] 39)).alloc (.cells #[.int .i64 (k : Int), .slice (some ⟨g2, 0, none⟩) ls.length c2] 39)) := ((Below.refl _ _).alloc (Nat.le_refl _) _).alloc (by simp) _
          have HN2 := Lib.hid hN
          have HT := Lib.hid ht
          have hRk := (HI.out.keeps (by rw [← HD.out]; exact hN) hb2).1
          have hsz := HI.out.aside.size
          have hsz1 := hN.aside.size
          have HRk := Lib.hid hRk
          have HMn := Lib.hid (mine_low (B' := w.heap.size) (Has.on (v := .slice (some ⟨g2, 0, none⟩) ls.length c2) hm hb2) hsz)
          have HBk : Hid (((w1.alloc (.cells #[.int .i64 (k : Int), .slice (some ⟨g2, 0, none⟩) ls.length c2] 39)).alloc (.cells #[.int .i64 (k : Int), .slice (some ⟨g2, 0, none⟩) ls.length c2] 39)).heap[w1.heap.size + 1]? = some (.cells #[.int .i64 (k : Int), .slice (some ⟨g2, 0, none⟩) ls.length c2] 39)) := by
            show _ = _
            have := heap_new (w1.alloc (.cells #[.int .i64 (k : Int), .slice (some ⟨g2, 0, none⟩) ls.length c2] 39)) (.cells #[.int .i64 (k : Int), .slice (some ⟨g2, 0, none⟩) ls.length c2] 39)
            simpa using this
          have HLn : Hid ((d.tolds (l.take i)).length ≤ 1000000000) := by
            show _ ≤ _
            have := Sp.tolds_len d (l.take i)
            rw [List.length_take] at this
            omega
          have HO := Lib.hid ho
          have HL2 := Lib.hid (lies_on hN.lies hb2)
          have HGa := Lib.hid (hRk.apart (lies_on hN.lies hb2) (by decide))
          clear hN ht hRk hm ho
          go_wp2_with (at_builtin
                       refine wp_moreR HRk.out k ls g2 c2 HMn.out HBk.out HLn.out (by simp; omega) rfl rfl rfl rfl rfl ?_
                       intro g3 c3 W hR3 hW3 _
                       have hl3 : W.heap[g]? = _ := (hW3.block g (lies_lt HL2.out) HGa.out).trans HL2.out
                       have z0 : W.cell? ⟨g, 0, none⟩ = some (.int .i64 D.n) := s_cell hl3 0
                       have y0 := s_free hl3 0
                       have HR3 := Lib.hid hR3
                       have HW3 := Lib.hid hW3
                       clear hR3 hW3 hl3)
          go_roundw
          case rel =>
            refine ⟨i + 1, v2, bs ++ [g2], by omega, by go_num, ?_⟩
            rw [HD.out] at HN2 HT
            show FI w _ _ _ _ _ _ _ _ _
            rw [HM.out]
            have := feed_some HI.out HN2.out HT.out hb2 HO.out HW3.out HR3.out (D.n + 1) (by rw [HD.out])
            rw [show (((D.n + 1 : Nat) : Int)) = (D.n : Int) + 1 by omega] at this
            exact this
          case measure => simp [intOf]; omega
    · have hii : i = l.length := by omega
      subst hii
      have HI2 : Hid (FI w wr B g v (.slice rq (d.tolds l).length rc) v' bs d l) := by
        have := HI.out
        rw [List.take_length] at this
        exact this
      rw [List.take_length]
      clear HI
      go_wp2
      go_ret
      exact ⟨rq, rc, v', bs, rfl, HI2.out⟩
end Go.Proofs.Ytpgilfglfcnihaa
