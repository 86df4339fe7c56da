/- WT21I, WT21J: put together. -/
import Derived.Test.YtpjcmahlnnglcaaGreatDoorA3
import Derived.Test.YtpjcmahlnnglcaaGreatDoorB16
import Derived.Test.YtpjcmahlnnglcaaGreatDoorB04

/- The document's reader of texts: row. -/
namespace Go.Proofs.YtpjcmahlnnglcaaGreatDoor
open Go.RowKit

theorem tw_take21 (p : UInt8 → Bool) : ∀ (l : Tx.Bs) (j : Nat), j ≤ l.length → (∀ c ∈ l.take j, p c = true) → (∀ c, (l.drop j).head? = some c → p c = false) → l.takeWhile p = l.take j := fun l j hj h1 h2 => by
  have h := (Tx.span p (l.take j) (l.drop j) h1 h2).1
  rw [List.take_append_drop] at h
  exact h
theorem cut21 {S : ByteArray} {l : Tx.Bs} {a j : Nat} (hs : S.data.toList.drop a = l) : S.extract a (a + j) = ⟨(l.take j).toArray⟩ := by
  apply ByteArray.ext
  apply Array.toList_inj.1
  rw [← hs]
  simp [ByteArray.data_extract, List.take_drop]
section
variable {w w' : World} {R : Nat} {S : ByteArray} {l : Tx.Bs}
set_option maxRecDepth 100000 in
set_option maxHeartbeats 4000000 in
theorem refRow21 (h : Rd21 w R S l) (k : Nat) (hk : k ≤ 3) : Calls Tryz.prog 48 #[.pointer (some ⟨R, 0, none⟩), .int .i64 (k : Nat)] w fun r w' => r = .returned (.string ⟨(l.takeWhile (inSet k)).toArray⟩) ∧ Below w.heap.size w w' := by
  have HR := Lib.hid h
  have HW := Lib.hid (fun c w' => refWithin21 c k hk w')
  have hsm := h.small
  have hle := h.le
  have c0 : w.cell? ⟨R, 0, none⟩ = some (.string S) := h.cell 0
  have c1 : w.cell? ⟨R, 1, none⟩ = some (.int .i64 ((S.size - l.length : Nat) : Int)) := h.cell 1
  obtain ⟨a, ha⟩ : ∃ a, S.size - l.length = a := ⟨_, rfl⟩
  rw [ha] at c1
  have hsf : S.data.toList.drop a = l := by rw [← ha]; exact h.suf
  have hal : a + l.length = S.size := by omega
  have HS := Lib.hid hsf
  obtain ⟨T, hT⟩ : ∃ T, T = l.takeWhile (inSet k) := ⟨_, rfl⟩
  rw [← hT]
  have HT := Lib.hid hT
  clear h ha hsf hT
  go_enter Tryz.func48, Tryz.ntmps48
  go_wp2_with fail
  go_loopw [5] (fun v5 wr => wr = w ∧ ∃ j : Nat, j ≤ l.length ∧ v5 = .int .i64 ((a + j : Nat) : Int) ∧ Hid (∀ c ∈ l.take j, inSet k c = true)) (fun v5 _ => S.size - (intOf v5).toNat)
  case atStart => exact ⟨rfl, 0, Nat.zero_le _, rfl, fun c hc => by simp at hc⟩
  case round =>
    obtain ⟨hwr, j, hj, rfl, HJ⟩ := hrel
    subst hwr
    by_cases hlt : j < l.length
    · have f1 : ((a + j : Nat) : Int) < (S.size : Int) := by omega
      have f2 : a + j < S.size := by omega
      have hcj : S[a + j]'f2 = l[j]'hlt := by
        have h1 : (S.data.toList.drop a)[j]? = some (l[j]'hlt) := by rw [HS.out]; exact List.getElem?_eq_getElem hlt
        rw [List.getElem?_drop] at h1
        obtain ⟨h2, h3⟩ := List.getElem?_eq_some_iff.1 h1
        rw [← h3]
        simp [ByteArray.getElem_eq_getElem_data]
      obtain ⟨c, hc⟩ : ∃ c, c = l[j]'hlt := ⟨_, rfl⟩
      rw [← hc] at hcj
      have HWc := Lib.hid (HW.out c wr)
      have HC := Lib.hid hc
      obtain ⟨n, hn⟩ : ∃ n, n = a + j := ⟨_, rfl⟩
      have hcn : ∃ f : n < S.size, S[n]'f = c := by subst hn; exact ⟨f2, hcj⟩
      obtain ⟨f3, hcn⟩ := hcn
      rw [← hn] at f1 ⊢
      have HN := Lib.hid hn
      clear hcj hc f2 hn
      have fn : (n : Int) ≤ 140737488351232 := by omega
      cases hin : inSet k c with
      | true =>
        rw [hin] at HWc
        have HJ2 : Hid (∀ c ∈ l.take (j + 1), inSet k c = true) := fun x hx => by
          rw [List.take_succ_eq_append_getElem hlt] at hx
          rcases List.mem_append.1 hx with hx | hx
          · exact HJ.out x hx
          · rw [List.mem_singleton] at hx
            rw [hx, ← HC.out]; exact hin
        clear hin HJ
        go_wp2_with fail
        refine HWc.out.mono ?_
        rintro e w1 ⟨rfl, hw1⟩
        subst hw1
        go_wp2
        go_roundw
        case rel => exact ⟨trivial, j + 1, by omega, by rw [HN.out]; go_num, HJ2⟩
        case measure => have := HN.out; simp [intOf]; omega
      | false =>
        rw [hin] at HWc
        have HE : Hid (T = l.take j) := by
          show T = _
          rw [HT.out]
          refine tw_take21 _ l j hj HJ.out fun x hx => ?_
          rw [List.head?_drop, List.getElem?_eq_getElem hlt] at hx
          injection hx with hx
          rw [← hx, ← HC.out]; exact hin
        clear hin HJ
        have b1 : (a : Int) ≤ (n : Int) := by have := HN.out; omega
        have b2 : (n : Int) ≤ (S.size : Int) := by have := HN.out; omega
        have b3 : a ≤ n := by omega
        have b4 : n ≤ S.size := by omega
        have HEx : Hid (S.extract a n = ⟨T.toArray⟩) := by show _ = _; rw [HE.out, HN.out]; exact cut21 HS.out
        clear HE
        go_wp2_with fail
        refine HWc.out.mono ?_
        rintro e w1 ⟨rfl, hw1⟩
        subst hw1
        go_wp2_with fail
        go_quiet (fail)
        go_wp2
        go_ret
        rw [← HEx.out]
        exact ⟨rfl, aside_drewN21 (fun _ => False) _ _ |>.below (Nat.le_refl _) (fun _ _ h => h.elim)⟩
    · have f1 : ¬ ((a + j : Nat) : Int) < (S.size : Int) := by omega
      have HE : Hid (T = l.take j) := by
        show T = _
        rw [HT.out]
        refine tw_take21 _ l j hj HJ.out fun x hx => ?_
        rw [List.head?_drop, List.getElem?_eq_none (by omega)] at hx
        cases hx
      obtain ⟨n, hn⟩ : ∃ n, n = a + j := ⟨_, rfl⟩
      rw [← hn] at f1 ⊢
      have HN := Lib.hid hn
      clear hn HJ
      have b1 : (a : Int) ≤ (n : Int) := by have := HN.out; omega
      have b2 : (n : Int) ≤ (S.size : Int) := by have := HN.out; omega
      have b3 : a ≤ n := by omega
      have b4 : n ≤ S.size := by omega
      have HEx : Hid (S.extract a n = ⟨T.toArray⟩) := by show _ = _; rw [HE.out, HN.out]; exact cut21 HS.out
      clear HE
      go_wp2_with fail
      go_quiet (fail)
      go_wp2
      go_ret
      rw [← HEx.out]
      exact ⟨rfl, aside_drewN21 (fun _ => False) _ _ |>.below (Nat.le_refl _) (fun _ _ h => h.elim)⟩
end
end Go.Proofs.YtpjcmahlnnglcaaGreatDoor

/- The document's reader of texts: what one leaves; one, at the depth that is refused. -/
namespace Go.Proofs.YtpjcmahlnnglcaaGreatDoor
open Go.RowKit

/-- what 'one' leaves -/
def One21 (w : World) (R : Nat) (S : ByteArray) (x : Tx.R (Ty × Tx.Bs)) (r : Ending) (w' : World) : Prop := Aside (fun k => k = R) w w' ∧ match x with
  | .ok (t, l) => ∃ k p n c, ∃ F : Nat → Prop, r = .returned (.agg #[.int .i64 k, .slice p n c]) ∧ TOwn w' F #[.int .i64 k, .slice p n c] t ∧ (∀ i, F i → w.heap.size ≤ i ∧ i < w'.heap.size) ∧ Rd21 w' R S l
  | .error (e, m) => ∃ k p n c, r = .returned (.agg #[.int .i64 k, .slice p n c]) ∧ Bad21 w' R S e m

/-- the kind of a word, among the first j -/
def kf (wd : Tx.Bs) : Nat → Int
  | 0 => 0
  | j + 1 => if 1 ≤ j ∧ Tx.word (j : Int) = wd then (j : Int) else kf wd j
theorem kf_all (wd : Tx.Bs) : kf wd 8 = Tx.kindOf wd := by
  have e : ∀ j : Nat, j < 8 → 1 ≤ j → Tx.word (j : Int) = wd → Tx.kindOf wd = (j : Int) := fun j h1 h2 h3 => by
    rw [← h3]
    exact Tx.kind_word (by omega)
  by_cases h : Tx.kindOf wd = 0
  · have hn : ∀ j : Nat, j < 8 → ¬ (1 ≤ j ∧ Tx.word (j : Int) = wd) := fun j h1 h2 => by
      have := e j h1 h2.1 h2.2
      omega
    rw [h]
    unfold kf kf kf kf kf kf kf kf kf
    rw [if_neg (hn 7 (by omega)), if_neg (hn 6 (by omega)), if_neg (hn 5 (by omega)), if_neg (hn 4 (by omega)), if_neg (hn 3 (by omega)), if_neg (hn 2 (by omega)), if_neg (hn 1 (by omega)), if_neg (hn 0 (by omega))]
  · obtain ⟨h1, h2, h3⟩ := Tx.word_kind h
    generalize hk : Tx.kindOf wd = k at *
    rcases Tx.word_cases ⟨h2, h3⟩ with rfl | rfl | rfl | rfl | rfl | rfl | rfl <;> subst h1 <;> decide
theorem Bad21.aside {w w' : World} {R : Nat} {S : ByteArray} {e n : Nat} {F : Nat → Prop} (h : Bad21 w R S e n) (ha : Aside F w w') (hF : ¬ F R) : Bad21 w' R S e n := by
  obtain ⟨a, h1, h2⟩ := h.lies
  exact ⟨⟨a, h1, (ha.block R (Array.getElem?_eq_some_iff.1 h2).1 hF).trans h2⟩, h.bad, h.small⟩
/-- the result's block, made by the call, is written -/
theorem one_on {w w1 w2 : World} {R : Nat} {S : ByteArray} {e m : Nat} {r : Ending} (h : One21 w R S (.error (e, m)) r w1) (hR : R < w.heap.size) (ha : Aside (fun k => k = w.heap.size) w1 w2) (_ : w.heap.size < w1.heap.size) : One21 w R S (.error (e, m)) r w2 := by
  obtain ⟨h1, k, p, n, c, h2, h3⟩ := h
  exact ⟨h1.trans ha (fun i hi hc => by omega), k, p, n, c, h2, h3.aside ha (by omega)⟩
/-- the result's block is written -/
theorem set_two {w : World} {b : Nat} {C : Array Value} {T : TypeId} (h : w.heap[b]? = some (.cells C T (0, 0))) (u v : Value) (hc : C.size = 2) : ((w.setCell ⟨b, 0, none⟩ u).setCell ⟨b, 1, none⟩ v).heap[b]? = some (.cells #[u, v] T (0, 0)) ∧ Aside (fun k => k = b) w ((w.setCell ⟨b, 0, none⟩ u).setCell ⟨b, 1, none⟩ v) := by
  refine ⟨?_, ((Aside.refl (fun k => k = b) w).setCell (p := ⟨b, 0, none⟩) (.inl rfl) _).setCell (p := ⟨b, 1, none⟩) (.inl rfl) _⟩
  obtain ⟨l⟩ := C
  match l, hc with
  | [x, y], _ =>
    simp only [World.setCell, Array.getElem?_modify, h, if_true, Option.map_some]
    rfl
section
variable {w w' : World} {R : Nat} {S : ByteArray} {l : Tx.Bs}
set_option maxRecDepth 100000 in
set_option maxHeartbeats 4000000 in
theorem refOneZero21 (h : Rd21 w R S l) : Calls Tryz.prog 44 #[.pointer (some ⟨R, 0, none⟩), .int .i64 ((5 - 0 : Nat) : Int)] w (One21 w R S (Tx.pty 0 l)) := by
    obtain ⟨W0, hW0⟩ : ∃ W0, w.alloc (.cells #[.int .i64 0, .slice none 0 0] 24) = W0 := ⟨_, rfl⟩
    have hb0 : Below w.heap.size w W0 := by rw [← hW0]; exact (Below.refl _ _).alloc (Nat.le_refl _) _
    have hz0 : W0.heap[w.heap.size]? = some (.cells #[.int .i64 0, .slice none 0 0] 24) := by rw [← hW0]; exact blk_new w _
    have h0 := h.on hb0
    have hRz : ¬ w.heap.size = R := by have := h.lt; omega
    have HRl := Lib.hid h.lt
    have HF : Hid (Calls Tryz.prog 49 #[.pointer (some ⟨R, 0, none⟩), .int .i64 62, .int .i64 ((S.size - l.length : Nat) : Int)] W0 fun r w' => r = .returned (.tuple #[]) ∧ w'.heap[w.heap.size]? = some (.cells #[.int .i64 0, .slice none 0 0] 24) ∧ One21 w R S (.error (62, l.length)) (.returned (.agg #[.int .i64 0, .slice none 0 0])) w') := by
      refine (refFail21 h0 62 l.length (by decide)).mono fun r w' ⟨q1, q2, q3⟩ => ⟨q1, ?_, ?_, ⟨_, _, _, _, rfl, q2⟩⟩
      · exact (q3.block w.heap.size (blk_lt hz0) hRz).trans hz0
      · exact (aside_new hb0 _).trans q3 (fun _ _ h => h)
    have c1 : W0.cell? ⟨R, 1, none⟩ = some (.int .i64 ((S.size - l.length : Nat) : Int)) := h0.cell 1
    rw [← hW0] at c1 HF
    clear h h0 hz0 hb0 hW0
    go_enter Tryz.func44, Tryz.ntmps44
    go_wp2_with fail
    refine HF.out.mono ?_
    rintro e w1 ⟨rfl, hz1, hp1⟩
    have y0 : w1.cell? ⟨w.heap.size, 0, none⟩ = some (.int .i64 0) := blk_cell hz1 0
    have y1 : w1.cell? ⟨w.heap.size, 1, none⟩ = some (.slice none 0 0) := blk_cell hz1 1
    have t0 := blk_free hz1 0
    have t1 := blk_free hz1 1
    have HZ1 := Lib.hid hz1
    have HP1 := Lib.hid hp1
    clear hz1 hp1 HF
    obtain ⟨hz2, ha2⟩ := set_two HZ1.out (.int .i64 0) (.slice none 0 0) rfl
    have HZ2 := Lib.hid hz2
    have HP2 := Lib.hid (one_on HP1.out HRl.out ha2 (blk_lt HZ1.out))
    clear hz2 ha2
    go_wp2
    refine bodyPost_ret (v := .agg #[.int .i64 0, .slice none 0 0]) (results_cell_row rfl _ _ w.heap.size _ _ _ _ rfl HZ2.out Tryz.underlying24 rfl (by kernel_rfl)) rfl ?_
    exact HP2.out
end
end Go.Proofs.YtpjcmahlnnglcaaGreatDoor
