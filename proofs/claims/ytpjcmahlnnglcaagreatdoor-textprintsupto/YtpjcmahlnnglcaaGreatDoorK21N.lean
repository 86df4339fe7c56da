/- The landed text: column. -/
import Derived.Test.YtpjcmahlnnglcaaGreatDoorK21L
import Derived.Test.YtpjcmahlnnglcaaGreatDoorB04
namespace Go.Proofs.YtpjcmahlnnglcaaGreatDoor
open Go.RowKit
attribute [local go_sem] run_store_float

theorem cloneS (s : ByteArray) (hs : s.size ≤ 281474976710656) (w : World) : Calls Tryz.prog 126 #[.string s] w fun e w' => e = .returned (.string s) ∧ Below w.heap.size w w' := by
  have HC := Lib.hid (Tryz.stringslite_Clone s w hs)
  go_enter Tryz.func126, Tryz.ntmps126
  go_wp2_with fail
  refine HC.out.mono ?_
  rintro e w1 ⟨rfl, hb⟩
  have HB := Lib.hid hb
  clear hb HC
  go_wp2
  go_ret
  exact ⟨rfl, HB.out⟩
/-- a column in blocks that are new since w -/
def isCo (w : World) (x : Col) (v : Value) (w' : World) : Prop := ∃ u, v = .agg u ∧ COwn w' (fun k => w.heap.size ≤ k ∧ k < w'.heap.size) u x
theorem isCo.open {w w' : World} {x : Col} {v : Value} (h : isCo w x v w') : ∃ u, v = .agg u ∧ COwn w' (fun k => w.heap.size ≤ k ∧ k < w'.heap.size) u x := h
theorem COwn.shape {w : World} {F : Nat → Prop} {u : Array Value} {c : Col} (h : COwn w F u c) : ∃ nm k tp tn tc hs vk vi vb vt vp vn vc, u = cells9 nm k tp tn tc hs vk vi vb vt vp vn vc := by
  obtain ⟨_, _, k, tp, tn, tc, vk, vi, vb, vt, vp, vn, vc, h1, _⟩ := h.out
  exact ⟨_, k, tp, tn, tc, _, vk, vi, vb, vt, vp, vn, vc, h1⟩
/-- the cells of no column -/
def zero9 : Array Value := #[.string ⟨#[]⟩, .int .i64 0, .slice none 0 0, .bool false, .int .i64 0, .int .i64 0, .float .f64 0, .string ⟨#[]⟩, .slice none 0 0]
/-- the last six cells of a column's block are written -/
def set6 (w : World) (N : Nat) (hs : Bool) (vk vi : Int) (vb : Nat) (vt : ByteArray) (vp : Option Addr) (vn vc : Nat) : World := (((((w.setCell ⟨N, 3, none⟩ (.bool hs)).setCell ⟨N, 4, none⟩ (.int .i64 vk)).setCell ⟨N, 5, none⟩ (.int .i64 vi)).setCell ⟨N, 6, none⟩ (.float .f64 vb)).setCell ⟨N, 7, none⟩ (.string vt)).setCell ⟨N, 8, none⟩ (.slice vp vn vc)
/-- all nine cells -/
def set9 (w : World) (N : Nat) (nm : ByteArray) (k : Int) (tp : Option Addr) (tn tc : Nat) (hs : Bool) (vk vi : Int) (vb : Nat) (vt : ByteArray) (vp : Option Addr) (vn vc : Nat) : World := set6 (((w.setCell ⟨N, 0, none⟩ (.string nm)).setCell ⟨N, 1, none⟩ (.int .i64 k)).setCell ⟨N, 2, none⟩ (.slice tp tn tc)) N hs vk vi vb vt vp vn vc
section
variable {w : World} {N : Nat} {T : TypeId} {nm : ByteArray} {k : Int} {tp : Option Addr} {tn tc : Nat} {hs : Bool} {vk vi : Int} {vb : Nat} {vt : ByteArray} {vp : Option Addr} {vn vc : Nat}
theorem set6_block {a b c d e f g h i : Value} (hb : w.heap[N]? = some (.cells #[a, b, c, d, e, f, g, h, i] T (0, 0))) : (set6 w N hs vk vi vb vt vp vn vc).heap[N]? = some (.cells #[a, b, c, .bool hs, .int .i64 vk, .int .i64 vi, .float .f64 vb, .string vt, .slice vp vn vc] T (0, 0)) := by
  unfold set6
  rw [blk_set (blk_set (blk_set (blk_set (blk_set (blk_set hb 3 _) 4 _) 5 _) 6 _) 7 _) 8 _]
  rfl
theorem set9_block (hb : w.heap[N]? = some (.cells zero9 T (0, 0))) : (set9 w N nm k tp tn tc hs vk vi vb vt vp vn vc).heap[N]? = some (.cells (cells9 nm k tp tn tc hs vk vi vb vt vp vn vc) T (0, 0)) := by
  unfold set9
  have h3 : (((w.setCell ⟨N, 0, none⟩ (.string nm)).setCell ⟨N, 1, none⟩ (.int .i64 k)).setCell ⟨N, 2, none⟩ (.slice tp tn tc)).heap[N]? = some (.cells #[.string nm, .int .i64 k, .slice tp tn tc, .bool false, .int .i64 0, .int .i64 0, .float .f64 0, .string ⟨#[]⟩, .slice none 0 0] T (0, 0)) := by
    rw [blk_set (blk_set (blk_set hb 0 _) 1 _) 2 _]
    rfl
  exact set6_block h3
theorem set6_aside : Aside (fun j => j = N) w (set6 w N hs vk vi vb vt vp vn vc) :=
  (((((((Aside.refl (fun j => j = N) w).setCell (p := ⟨N, 3, none⟩) (.inl rfl) _).setCell (p := ⟨N, 4, none⟩) (.inl rfl) _).setCell (p := ⟨N, 5, none⟩) (.inl rfl) _).setCell (p := ⟨N, 6, none⟩) (.inl rfl) _).setCell (p := ⟨N, 7, none⟩) (.inl rfl) _).setCell (p := ⟨N, 8, none⟩) (.inl rfl) _)
theorem set9_aside : Aside (fun j => j = N) w (set9 w N nm k tp tn tc hs vk vi vb vt vp vn vc) :=
  ((((Aside.refl (fun j => j = N) w).setCell (p := ⟨N, 0, none⟩) (.inl rfl) _).setCell (p := ⟨N, 1, none⟩) (.inl rfl) _).setCell (p := ⟨N, 2, none⟩) (.inl rfl) _).trans set6_aside (fun _ _ h => h)
theorem set6_size : (set6 w N hs vk vi vb vt vp vn vc).heap.size = w.heap.size := by simp [set6, World.setCell]
theorem set9_size : (set9 w N nm k tp tn tc hs vk vi vb vt vp vn vc).heap.size = w.heap.size := by simp [set9, set6, World.setCell]
end
/-- the answer is laid into its place -/
theorem finC {w wr : World} {P : Nat} {S : ByteArray} {nm : ByteArray} {k : Int} {tp : Option Addr} {tn tc : Nat} {hs : Bool} {vk vi : Int} {vb : Nat} {vt : ByteArray} {vp : Option Addr} {vn vc : Nat} {x : Col} {l : Tx.Bs} {F : Nat → Prop} (hP : P < w.heap.size) (bN : wr.heap[w.heap.size]? = some (.cells zero9 50 (0, 0)))
    (hown : COwn wr F (cells9 nm k tp tn tc hs vk vi vb vt vp vn vc) x) (hF : ∀ k, F k → w.heap.size < k ∧ k < wr.heap.size) (hrd : Prs wr P S l) (ha : Aside (fun i => i = P) w wr) {w5 : World} (hw5 : w5 = set9 wr w.heap.size nm k tp tn tc hs vk vi vb vt vp vn vc) :
    w5.heap[w.heap.size]? = some (.cells (cells9 nm k tp tn tc hs vk vi vb vt vp vn vc) 50 (0, 0)) ∧ isCo w x (.agg (cells9 nm k tp tn tc hs vk vi vb vt vp vn vc)) w5 ∧ Prs w5 P S l ∧ Aside (fun i => i = P) w w5 := by
  have h2 : Aside (fun i => i = w.heap.size) wr w5 := by rw [hw5]; exact set9_aside
  have hs : w5.heap.size = wr.heap.size := by rw [hw5]; exact set9_size
  refine ⟨?_, ⟨_, rfl, ?_⟩, hrd.aside h2 (fun k hk => by rw [hk]; exact hP), ha.trans h2 (fun i hi he => by rw [he] at hi; omega)⟩
  · rw [hw5]; exact set9_block bN
  · exact (hown.aside h2 (fun k hk he => by have := hF k hk; omega)).mono (fun k hk => by have := hF k hk; omega)
theorem pcol_at (rf : Tx.Bs → Option Nat) (l wd r : Tx.Bs) (hwd : wd = l.takeWhile Sch.ch) (hr : r = l.dropWhile Sch.ch) : Tx.pcol rf l = if wd = [] then .error (5, l.length) else andM (Tx.must [32] r) fun r => andP (Tx.pty 4 r) fun t r => if r.head? = some 32 then andM (Tx.must [32, 61, 32] r) fun r => andP (Tx.pval rf 4 r) fun v r => .ok (⟨⟨wd.toArray⟩, t, true, v⟩, r) else .ok (⟨⟨wd.toArray⟩, t, false, V0⟩, r) := by
  rw [hwd, hr]
  unfold Tx.pcol
  by_cases h0 : l.takeWhile Sch.ch = []
  · rw [if_pos h0, if_pos h0]
  rw [if_neg h0, if_neg h0]
  cases Tx.must [32] (l.dropWhile Sch.ch) with
  | error e => rfl
  | ok r =>
    dsimp only [andM]
    cases Tx.pty 4 r with
    | error e => rfl
    | ok z =>
      dsimp only [andP]
      by_cases h1 : z.2.head? = some 32
      · rw [if_pos h1, if_pos h1]
        cases Tx.must [32, 61, 32] z.2 with
        | error e => rfl
        | ok r =>
          dsimp only
          cases Tx.pval rf 4 r with
          | error e => rfl
          | ok z => rfl
      · rw [if_neg h1, if_neg h1]

set_option maxRecDepth 100000 in
set_option maxHeartbeats 8000000 in
theorem columnX {rf : Tx.Bs → Option Nat} (hRf : RfOk rf) {w : World} {P : Nat} {S : ByteArray} {l : Tx.Bs} (h : Prs w P S l) (hS : S.size ≤ 1099511627776) : Calls Tryz.prog 80 #[.pointer (some ⟨P, 0, none⟩)] w (PsA w P S (Tx.pcol rf l) (isCo w)) := by
  obtain ⟨W0, hW0⟩ : ∃ W0, W0 = w.alloc (.cells #[.string ⟨#[]⟩, .int .i64 0, .slice none 0 0, .bool false, .int .i64 0, .int .i64 0, .float .f64 0, .string ⟨#[]⟩, .slice none 0 0] 50) := ⟨_, rfl⟩
  have HB0 : Hid (Below w.heap.size w W0) := by rw [hW0]; exact (Below.refl _ _).alloc (Nat.le_refl _) _
  have HN0 : Hid (W0.heap[w.heap.size]? = some (.cells zero9 50 (0, 0))) := by rw [hW0]; exact blk_new w _
  have HW0 := Lib.hid hW0
  have h0 := h.on HB0.out
  have HL := Lib.hid (longest_nam h0)
  obtain ⟨wd, hwd⟩ : ∃ wd, wd = l.takeWhile Sch.ch := ⟨_, rfl⟩
  obtain ⟨r0, hr0⟩ : ∃ r, r = l.dropWhile Sch.ch := ⟨_, rfl⟩
  have hsp : l = wd ++ r0 := by rw [hwd, hr0]; exact (List.takeWhile_append_dropWhile).symm
  obtain ⟨R, hR⟩ : ∃ R, R = Tx.pcol rf l := ⟨_, rfl⟩
  have HRR := Lib.hid (hR.trans (pcol_at rf l wd r0 hwd hr0))
  rw [← hR]
  rw [← hwd] at HL
  have HPlt := Lib.hid h.lt
  have HH0 := Lib.hid h0
  have hll : l.length = wd.length + r0.length := by rw [hsp, List.length_append]
  have hsm := h.small
  have hle := h.le
  have HSp := Lib.hid hsp
  have HRf := Lib.hid hRf
  have HS := Lib.hid hS
  have HA0 := Lib.hid (aside_new HB0.out (fun i => i = P))
  have hPN : ¬ w.heap.size = P := by have := h.lt; omega
  have hPN2 : ¬ P = w.heap.size := by omega
  clear h h0 hW0 hwd hr0 hR hsp hRf hS
  obtain ⟨a, ha⟩ : ∃ a, S.size - l.length = a := ⟨_, rfl⟩
  have HAL : Hid (a + wd.length = S.size - r0.length) := by show _ = _; omega
  have HAS : Hid (S.size - l.length = a) := ha
  have g5 : (a : Int) + (wd.length : Int) ≤ 140737488351232 := by omega
  have e9 : (ByteArray.mk wd.toArray).toList = wd := by rw [ByteArray.toList_eq]
  have hwl : (ByteArray.mk wd.toArray).size ≤ 281474976710656 := by show wd.toArray.size ≤ _; simp; omega
  have HCl := Lib.hid (fun w' => cloneS (ByteArray.mk wd.toArray) hwl w')
  clear ha hll hle hsm hwl
  go_enter Tryz.func80, Tryz.ntmps80
  go_wp2_with fail
  rw [← HW0.out]
  refine HL.out.mono ?_
  rintro e w1 ⟨rfl, hb1⟩
  have HH1 := Lib.hid (HH0.out.on hb1)
  have HA1 := Lib.hid (HA0.out.trans (aside_new hb1 (fun i => i = P)) (fun _ _ h => h))
  have HN1 : Hid (w1.heap[w.heap.size]? = some (.cells zero9 50 (0, 0))) := blk_on HN0.out hb1 (blk_lt HN0.out)
  clear hb1 HL HB0 HN0 HH0 HA0 HW0
  by_cases q0 : wd = []
  · have HRe : Hid (R = .error (5, l.length)) := HRR.out.trans (if_pos q0)
    have e0 : (wd != []) = false := by rw [q0]; rfl
    have e1 : (wd == []) = true := by rw [q0]; rfl
    have HNd := Lib.hid (pneed_f HH1.out 5 l.length rfl)
    clear q0 HRR
    go_wp2_with fail
    refine HNd.out.mono ?_
    rintro e w2 ⟨rfl, hw2⟩
    rw [hw2]
    clear hw2 w2 HNd
    go_wp2
    rw [HRe.out]
    exact ⟨rfl, rfl, HA1.out⟩
  have HR1 := Lib.hid (HRR.out.trans (if_neg q0))
  have e0 : (wd != []) = true := by rw [bne_iff_ne]; exact q0
  have e1 : (wd == []) = false := str_ne q0
  have c1 : w1.cell? ⟨P, 1, none⟩ = some (.int .i64 (a : Int)) := by rw [← HAS.out]; exact HH1.out.cell 1
  have t1 := HH1.out.thawed 1
  obtain ⟨V, hV⟩ : ∃ V, V = w1.setCell ⟨P, 1, none⟩ (.int .i64 ((a : Int) + (wd.length : Int))) := ⟨_, rfl⟩
  have hPV : Prs V P S r0 := by
    have hh : Prs w1 P S (wd ++ r0) := by rw [← HSp.out]; exact HH1.out
    rw [hV]; exact hh.skip (by have := HAL.out; omega)
  have haV : Aside (fun i => i = P) w1 V := by rw [hV]; exact aside_at _ _ _
  have HAV := Lib.hid (HA1.out.trans haV (fun _ _ h => h))
  have HNV : Hid (V.heap[w.heap.size]? = some (.cells zero9 50 (0, 0))) := (haV.block _ (blk_lt HN1.out) hPN).trans HN1.out
  have HVe := Lib.hid hV
  have HPa := Lib.hid (passK hPV ⟨#[32]⟩ (by decide))
  rw [show (ByteArray.mk #[32]).data.toList = [32] from rfl] at HPa
  obtain ⟨G, hG⟩ : ∃ G, G = Tx.must [32] r0 := ⟨_, rfl⟩
  rw [← hG] at HPa HR1
  clear hV hPV haV q0 HRR hG HH1 HA1 HN1
  go_wp2_with fail
  refine (pneed_t _ 5 _).mono ?_
  rintro e w2 ⟨rfl, hw2⟩
  rw [hw2]
  clear hw2 w2
  go_wp2_with fail
  rw [← HVe.out]
  cases G with
  | error er =>
    obtain ⟨ek, en⟩ := er
    have HRe : Hid (R = .error (ek, en)) := HR1.out
    clear HR1
    refine HPa.out.mono ?_
    intro e w2 hh
    obtain ⟨he, ha2⟩ := hh.bad
    subst he
    have HA2 := Lib.hid (HAV.out.trans ha2 (fun _ _ h => h))
    clear hh ha2 HPa
    go_wp2
    rw [HRe.out]
    exact ⟨rfl, rfl, HA2.out⟩
  | ok r1 =>
    have HR2 : Hid (R = andP (Tx.pty 4 r1) fun t r => if r.head? = some 32 then andM (Tx.must [32, 61, 32] r) fun r => andP (Tx.pval rf 4 r) fun v r => .ok (⟨⟨wd.toArray⟩, t, true, v⟩, r) else .ok (⟨⟨wd.toArray⟩, t, false, V0⟩, r)) := HR1.out
    clear HR1
    refine HPa.out.mono ?_
    intro e w2 hh
    obtain ⟨he, hp2, ha2⟩ := hh.good
    subst he
    have HP2 := Lib.hid hp2
    have HA2 := Lib.hid (HAV.out.trans ha2 (fun _ _ h => h))
    have HN2 : Hid (w2.heap[w.heap.size]? = some (.cells zero9 50 (0, 0))) := (ha2.block _ (blk_lt HNV.out) hPN).trans HNV.out
    clear hh hp2 ha2 HPa HAV HNV HVe c1 t1
    go_wp2_with fail
    refine (HCl.out _).mono ?_
    rintro e w3 ⟨rfl, hb3⟩
    have hp3 := HP2.out.on hb3
    have HA3 := Lib.hid (HA2.out.trans (aside_new hb3 (fun i => i = P)) (fun _ _ h => h))
    have HN3 : Hid (w3.heap[w.heap.size]? = some (.cells zero9 50 (0, 0))) := blk_on HN2.out hb3 (blk_lt HN2.out)
    have HTy : Hid (Calls Tryz.prog 77 #[.pointer (some ⟨P, 0, none⟩), .int .i64 1] w3 (PsA w3 P S (Tx.pty 4 r1) (isTy w3))) := typeAtX 4 1 r1 P S w3 (by omega) hp3
    obtain ⟨Y, hY⟩ : ∃ Y, Y = Tx.pty 4 r1 := ⟨_, rfl⟩
    rw [← hY] at HTy HR2
    clear hb3 hp3 HCl HP2 HA2 HN2 hY
    cases Y with
    | error er =>
      obtain ⟨ek, en⟩ := er
      have HRe : Hid (R = .error (ek, en)) := HR2.out
      clear HR2
      go_wp2_with fail
      refine HTy.out.mono ?_
      intro e w4 hh
      obtain ⟨he, ha4⟩ := hh.bad
      subst he
      have HA4 := Lib.hid (HA3.out.trans ha4 (fun _ _ h => h))
      clear hh ha4 HTy
      go_wp2
      rw [HRe.out]
      exact ⟨rfl, rfl, HA4.out⟩
    | ok z =>
      obtain ⟨ty, r2⟩ := z
      have HR3 : Hid (R = if r2.head? = some 32 then andM (Tx.must [32, 61, 32] r2) fun r => andP (Tx.pval rf 4 r) fun v r => .ok (⟨⟨wd.toArray⟩, ty, true, v⟩, r) else .ok (⟨⟨wd.toArray⟩, ty, false, V0⟩, r2)) := HR2.out
      clear HR2
      go_wp2_with fail
      refine HTy.out.mono ?_
      intro e w4 hh
      obtain ⟨v4, he, hv4, hp4, ha4⟩ := hh.good
      obtain ⟨u4, hu4, hown4⟩ := hv4.open
      obtain ⟨k4, p4, n4, c4, hsh⟩ := hown4.shape
      subst hsh
      unfold cells2 at hu4 hown4
      subst hu4
      subst he
      have HN4 : Hid (w4.heap[w.heap.size]? = some (.cells zero9 50 (0, 0))) := (ha4.block _ (blk_lt HN3.out) hPN).trans HN3.out
      have hA4 := HA3.out.trans ha4 (fun _ _ h => h)
      obtain ⟨W, hW⟩ : ∃ W, W = w4.alloc (.cells #[.string ⟨wd.toArray⟩, .int .i64 k4, .slice p4 n4 c4, .bool false, .int .i64 0, .int .i64 0, .float .f64 0, .string ⟨#[]⟩, .slice none 0 0] 50) := ⟨_, rfl⟩
      have hbW : Below w4.heap.size w4 W := by rw [hW]; exact (Below.refl _ _).alloc (Nat.le_refl _) _
      have HCW : Hid (W.heap[w4.heap.size]? = some (.cells #[.string ⟨wd.toArray⟩, .int .i64 k4, .slice p4 n4 c4, .bool false, .int .i64 0, .int .i64 0, .float .f64 0, .string ⟨#[]⟩, .slice none 0 0] 50 (0, 0))) := by rw [hW]; exact blk_new w4 _
      have HNW : Hid (W.heap[w.heap.size]? = some (.cells zero9 50 (0, 0))) := blk_on HN4.out hbW (blk_lt HN4.out)
      have hPW := hp4.on hbW
      have HPW := Lib.hid hPW
      have HAW := Lib.hid (hA4.trans (aside_new hbW (fun i => i = P)) (fun _ _ h => h))
      have hl3 := blk_lt HN3.out
      have HOW : Hid (TOwn W (fun k => w.heap.size < k ∧ k < w4.heap.size) (cells2 k4 p4 n4 c4) ty) := (hown4.under hbW (fun k hk => hk.2)).mono (fun k hk => by omega)
      have hlt4 : w.heap.size < w4.heap.size := blk_lt HN4.out
      have hPC : ¬ w4.heap.size = P := by have := HPlt.out; omega
      have hPC2 : ¬ P = w4.heap.size := by omega
      have hCN : ¬ w4.heap.size = w.heap.size := by omega
      have hCN2 : ¬ w.heap.size = w4.heap.size := by omega
      have HSt := Lib.hid (standsK hPW 32)
      have HW := Lib.hid hW
      clear hh hv4 hown4 hp4 ha4 HTy hA4 hW hbW hPW hl3 HA3 HN3 HN4
      by_cases hc : r2.head? = some 32
      case neg =>
        rw [decide_eq_false hc] at HSt
        have HRk : Hid (R = .ok (⟨⟨wd.toArray⟩, ty, false, V0⟩, r2)) := HR3.out.trans (if_neg hc)
        clear HR3 hc
        go_wp2_with fail
        rw [← HW.out]
        refine HSt.out.mono ?_
        rintro e w5 ⟨rfl, n, hw5⟩
        have hP5 := HPW.out.drewN n
        have hA5 := HAW.out.trans (aside_drewN (fun i => i = P) W n) (fun _ _ h => h)
        have hC5 : (W.drewN n).heap[w4.heap.size]? = some (.cells #[.string ⟨wd.toArray⟩, .int .i64 k4, .slice p4 n4 c4, .bool false, .int .i64 0, .int .i64 0, .float .f64 0, .string ⟨#[]⟩, .slice none 0 0] 50 (0, 0)) := HCW.out
        have HN5 : Hid ((W.drewN n).heap[w.heap.size]? = some (.cells zero9 50 (0, 0))) := HNW.out
        have hO5 : TOwn (W.drewN n) (fun k => w.heap.size < k ∧ k < w4.heap.size) (cells2 k4 p4 n4 c4) ty := HOW.out.aside (aside_drewN (fun _ => False) W n) (fun _ _ h => h)
        rw [← hw5] at hP5 hA5 hC5 HN5 hO5
        have hl5 := blk_lt hC5
        have hCO : COwn w5 (fun k => w.heap.size < k ∧ k < w4.heap.size) (cells9 ⟨wd.toArray⟩ k4 p4 n4 c4 false 0 0 0 ⟨#[]⟩ none 0 0) ⟨⟨wd.toArray⟩, ty, false, V0⟩ := ⟨_, fun _ => False, k4, p4, n4, c4, 0, 0, 0, ⟨#[]⟩, none, 0, 0, rfl, hO5, .none, fun _ h => h, fun _ h => h.elim, fun _ _ h => h⟩
        have HFin := Lib.hid (fun w7 hw7 => finC (w5 := w7) HPlt.out HN5.out hCO (fun k hk => ⟨hk.1, by omega⟩) hP5 hA5 hw7)
        have y0 : w5.cell? ⟨w4.heap.size, 0, none⟩ = some (.string ⟨wd.toArray⟩) := blk_cell hC5 0
        have y1 : w5.cell? ⟨w4.heap.size, 1, none⟩ = some (.int .i64 k4) := blk_cell hC5 1
        have y2 : w5.cell? ⟨w4.heap.size, 2, none⟩ = some (.slice p4 n4 c4) := blk_cell hC5 2
        have y3 : w5.cell? ⟨w4.heap.size, 3, none⟩ = some (.bool false) := blk_cell hC5 3
        have y4 : w5.cell? ⟨w4.heap.size, 4, none⟩ = some (.int .i64 0) := blk_cell hC5 4
        have y5 : w5.cell? ⟨w4.heap.size, 5, none⟩ = some (.int .i64 0) := blk_cell hC5 5
        have y6 : w5.cell? ⟨w4.heap.size, 6, none⟩ = some (.float .f64 0) := blk_cell hC5 6
        have y7 : w5.cell? ⟨w4.heap.size, 7, none⟩ = some (.string ⟨#[]⟩) := blk_cell hC5 7
        have y8 : w5.cell? ⟨w4.heap.size, 8, none⟩ = some (.slice none 0 0) := blk_cell hC5 8
        have z0 : w5.cell? ⟨w.heap.size, 0, none⟩ = some (.string ⟨#[]⟩) := blk_cell HN5.out 0
        have z1 : w5.cell? ⟨w.heap.size, 1, none⟩ = some (.int .i64 0) := blk_cell HN5.out 1
        have z2 : w5.cell? ⟨w.heap.size, 2, none⟩ = some (.slice none 0 0) := blk_cell HN5.out 2
        have z3 : w5.cell? ⟨w.heap.size, 3, none⟩ = some (.bool false) := blk_cell HN5.out 3
        have z4 : w5.cell? ⟨w.heap.size, 4, none⟩ = some (.int .i64 0) := blk_cell HN5.out 4
        have z5 : w5.cell? ⟨w.heap.size, 5, none⟩ = some (.int .i64 0) := blk_cell HN5.out 5
        have z6 : w5.cell? ⟨w.heap.size, 6, none⟩ = some (.float .f64 0) := blk_cell HN5.out 6
        have z7 : w5.cell? ⟨w.heap.size, 7, none⟩ = some (.string ⟨#[]⟩) := blk_cell HN5.out 7
        have z8 : w5.cell? ⟨w.heap.size, 8, none⟩ = some (.slice none 0 0) := blk_cell HN5.out 8
        have zf0 := blk_free HN5.out 0
        have zf1 := blk_free HN5.out 1
        have zf2 := blk_free HN5.out 2
        have zf3 := blk_free HN5.out 3
        have zf4 := blk_free HN5.out 4
        have zf5 := blk_free HN5.out 5
        have zf6 := blk_free HN5.out 6
        have zf7 := blk_free HN5.out 7
        have zf8 := blk_free HN5.out 8
        clear hw5 hP5 hA5 hC5 hO5 hCO hl5 HSt HPW HAW HCW HNW HOW HW
        go_wp2
        obtain ⟨f1, f2, f3, f4⟩ := HFin.out _ rfl
        refine bodyPost_ret (v := .agg (cells9 ⟨wd.toArray⟩ k4 p4 n4 c4 false 0 0 0 ⟨#[]⟩ none 0 0)) (results_cell_row rfl _ _ w.heap.size _ _ _ _ rfl f1 Tryz.underlying50 rfl (by kernel_rfl)) rfl ?_
        rw [HRk.out]
        exact ⟨_, rfl, f2, f3, f4⟩
      rw [decide_eq_true hc] at HSt
      have HR4 : Hid (R = andM (Tx.must [32, 61, 32] r2) fun r => andP (Tx.pval rf 4 r) fun v r => .ok (⟨⟨wd.toArray⟩, ty, true, v⟩, r)) := HR3.out.trans (if_pos hc)
      clear HR3 hc
      go_wp2_with fail
      rw [← HW.out]
      refine HSt.out.mono ?_
      rintro e w5 ⟨rfl, n, hw5⟩
      have hP5 := HPW.out.drewN n
      have HA5 := Lib.hid (HAW.out.trans (aside_drewN (fun i => i = P) W n) (fun _ _ h => h))
      have HC5 : Hid ((W.drewN n).heap[w4.heap.size]? = some (.cells #[.string ⟨wd.toArray⟩, .int .i64 k4, .slice p4 n4 c4, .bool false, .int .i64 0, .int .i64 0, .float .f64 0, .string ⟨#[]⟩, .slice none 0 0] 50 (0, 0))) := HCW.out
      have HN5 : Hid ((W.drewN n).heap[w.heap.size]? = some (.cells zero9 50 (0, 0))) := HNW.out
      have HO5 : Hid (TOwn (W.drewN n) (fun k => w.heap.size < k ∧ k < w4.heap.size) (cells2 k4 p4 n4 c4) ty) := HOW.out.aside (aside_drewN (fun _ => False) W n) (fun _ _ h => h)
      rw [← hw5] at hP5 HA5 HC5 HN5 HO5
      have HPb := Lib.hid (passK hP5 ⟨#[32, 61, 32]⟩ (by decide))
      rw [show (ByteArray.mk #[32, 61, 32]).data.toList = [32, 61, 32] from rfl] at HPb
      obtain ⟨Z, hZ⟩ : ∃ Z, Z = Tx.must [32, 61, 32] r2 := ⟨_, rfl⟩
      rw [← hZ] at HPb HR4
      clear hw5 hP5 HSt HPW HAW HCW HNW HOW HW hZ
      cases Z with
      | error er =>
        obtain ⟨ek, en⟩ := er
        have HRe : Hid (R = .error (ek, en)) := HR4.out
        clear HR4
        go_wp2_with fail
        refine HPb.out.mono ?_
        intro e w6 hh
        obtain ⟨he, ha6⟩ := hh.bad
        subst he
        have HA6 := Lib.hid (HA5.out.trans ha6 (fun _ _ h => h))
        clear hh ha6 HPb
        go_wp2
        rw [HRe.out]
        exact ⟨rfl, rfl, HA6.out⟩
      | ok r3 =>
        have HR5 : Hid (R = andP (Tx.pval rf 4 r3) fun v r => .ok (⟨⟨wd.toArray⟩, ty, true, v⟩, r)) := HR4.out
        clear HR4
        go_wp2_with fail
        refine HPb.out.mono ?_
        intro e w6 hh
        obtain ⟨he, hp6, ha6⟩ := hh.good
        subst he
        have hPl := HPlt.out
        have HA6 := Lib.hid (HA5.out.trans ha6 (fun _ _ h => h))
        have HC6 : Hid (w6.heap[w4.heap.size]? = some (.cells #[.string ⟨wd.toArray⟩, .int .i64 k4, .slice p4 n4 c4, .bool false, .int .i64 0, .int .i64 0, .float .f64 0, .string ⟨#[]⟩, .slice none 0 0] 50 (0, 0))) := (ha6.block _ (blk_lt HC5.out) hPC).trans HC5.out
        have HN6 : Hid (w6.heap[w.heap.size]? = some (.cells zero9 50 (0, 0))) := (ha6.block _ (blk_lt HN5.out) hPN).trans HN5.out
        have HO6 := Lib.hid (HO5.out.aside ha6 (fun k hk he => by omega))
        have HVa : Hid (Calls Tryz.prog 90 #[.pointer (some ⟨P, 0, none⟩), .int .i64 1] w6 (PsA w6 P S (Tx.pval rf 4 r3) (isVa w6))) := valueX HRf.out 4 1 r3 P S w6 (by omega) HS.out hp6
        obtain ⟨Y, hY⟩ : ∃ Y, Y = Tx.pval rf 4 r3 := ⟨_, rfl⟩
        rw [← hY] at HVa HR5
        clear hh hp6 ha6 HPb HA5 HC5 HN5 HO5 hY hPl
        cases Y with
        | error er =>
          obtain ⟨ek, en⟩ := er
          have HRe : Hid (R = .error (ek, en)) := HR5.out
          clear HR5
          go_wp2_with fail
          refine HVa.out.mono ?_
          intro e w7 hh
          obtain ⟨he, ha7⟩ := hh.bad
          subst he
          have HA7 := Lib.hid (HA6.out.trans ha7 (fun _ _ h => h))
          clear hh ha7 HVa
          go_wp2
          rw [HRe.out]
          exact ⟨rfl, rfl, HA7.out⟩
        | ok z =>
          obtain ⟨x, r4⟩ := z
          have HRk : Hid (R = .ok (⟨⟨wd.toArray⟩, ty, true, x⟩, r4)) := HR5.out
          clear HR5
          go_wp2_with fail
          refine HVa.out.mono ?_
          intro e w7 hh
          obtain ⟨v7, he, hv7, hp7, ha7⟩ := hh.good
          obtain ⟨u7, hu7, hown7⟩ := hv7.open
          obtain ⟨k7, i7, b7, x7, p7, n7, c7, hsh⟩ := hown7.shape
          subst hsh
          unfold cells5 at hu7 hown7
          subst hu7
          subst he
          have hPl := HPlt.out
          have hC7 : w7.heap[w4.heap.size]? = some (.cells #[.string ⟨wd.toArray⟩, .int .i64 k4, .slice p4 n4 c4, .bool false, .int .i64 0, .int .i64 0, .float .f64 0, .string ⟨#[]⟩, .slice none 0 0] 50 (0, 0)) := (ha7.block _ (blk_lt HC6.out) hPC).trans HC6.out
          have HN7 : Hid (w7.heap[w.heap.size]? = some (.cells zero9 50 (0, 0))) := (ha7.block _ (blk_lt HN6.out) hPN).trans HN6.out
          obtain ⟨V7, hV7⟩ : ∃ V7, V7 = set6 w7 w4.heap.size true k7 i7 b7 x7 p7 n7 c7 := ⟨_, rfl⟩
          have haV : Aside (fun i => i = w4.heap.size) w7 V7 := by rw [hV7]; exact set6_aside
          have hsV : V7.heap.size = w7.heap.size := by rw [hV7]; exact set6_size
          have HNV : Hid (V7.heap[w.heap.size]? = some (.cells zero9 50 (0, 0))) := (haV.block _ (blk_lt HN7.out) hCN2).trans HN7.out
          have hl6 := blk_lt HC6.out
          have hs7 := ha7.size
          have hTV := (HO6.out.aside ha7 (fun k hk he => by omega)).aside haV (fun k hk he => by omega)
          have hVV := hown7.aside haV (fun k hk he => by omega)
          have hCO : COwn V7 (fun k => w.heap.size < k ∧ k < V7.heap.size) (cells9 ⟨wd.toArray⟩ k4 p4 n4 c4 true k7 i7 b7 x7 p7 n7 c7) ⟨⟨wd.toArray⟩, ty, true, x⟩ := ⟨_, _, k4, p4, n4, c4, k7, i7, b7, x7, p7, n7, c7, rfl, hTV, hVV, fun k hk => by omega, fun k hk => by omega, fun k hk hc => by omega⟩
          have hPV := hp7.aside haV (fun k hk => by omega)
          have hAV := (HA6.out.trans ha7 (fun _ _ h => h)).trans haV (fun i hi he => by omega)
          have HFin := Lib.hid (fun w9 hw9 => finC (w5 := w9) HPlt.out HNV.out hCO (fun k hk => hk) hPV hAV hw9)
          rw [hV7] at HFin
          have y0 : w7.cell? ⟨w4.heap.size, 0, none⟩ = some (.string ⟨wd.toArray⟩) := blk_cell hC7 0
          have y1 : w7.cell? ⟨w4.heap.size, 1, none⟩ = some (.int .i64 k4) := blk_cell hC7 1
          have y2 : w7.cell? ⟨w4.heap.size, 2, none⟩ = some (.slice p4 n4 c4) := blk_cell hC7 2
          have y3 : w7.cell? ⟨w4.heap.size, 3, none⟩ = some (.bool false) := blk_cell hC7 3
          have y4 : w7.cell? ⟨w4.heap.size, 4, none⟩ = some (.int .i64 0) := blk_cell hC7 4
          have y5 : w7.cell? ⟨w4.heap.size, 5, none⟩ = some (.int .i64 0) := blk_cell hC7 5
          have y6 : w7.cell? ⟨w4.heap.size, 6, none⟩ = some (.float .f64 0) := blk_cell hC7 6
          have y7 : w7.cell? ⟨w4.heap.size, 7, none⟩ = some (.string ⟨#[]⟩) := blk_cell hC7 7
          have y8 : w7.cell? ⟨w4.heap.size, 8, none⟩ = some (.slice none 0 0) := blk_cell hC7 8
          have yf0 := blk_free hC7 0
          have yf1 := blk_free hC7 1
          have yf2 := blk_free hC7 2
          have yf3 := blk_free hC7 3
          have yf4 := blk_free hC7 4
          have yf5 := blk_free hC7 5
          have yf6 := blk_free hC7 6
          have yf7 := blk_free hC7 7
          have yf8 := blk_free hC7 8
          have z0 : w7.cell? ⟨w.heap.size, 0, none⟩ = some (.string ⟨#[]⟩) := blk_cell HN7.out 0
          have z1 : w7.cell? ⟨w.heap.size, 1, none⟩ = some (.int .i64 0) := blk_cell HN7.out 1
          have z2 : w7.cell? ⟨w.heap.size, 2, none⟩ = some (.slice none 0 0) := blk_cell HN7.out 2
          have z3 : w7.cell? ⟨w.heap.size, 3, none⟩ = some (.bool false) := blk_cell HN7.out 3
          have z4 : w7.cell? ⟨w.heap.size, 4, none⟩ = some (.int .i64 0) := blk_cell HN7.out 4
          have z5 : w7.cell? ⟨w.heap.size, 5, none⟩ = some (.int .i64 0) := blk_cell HN7.out 5
          have z6 : w7.cell? ⟨w.heap.size, 6, none⟩ = some (.float .f64 0) := blk_cell HN7.out 6
          have z7 : w7.cell? ⟨w.heap.size, 7, none⟩ = some (.string ⟨#[]⟩) := blk_cell HN7.out 7
          have z8 : w7.cell? ⟨w.heap.size, 8, none⟩ = some (.slice none 0 0) := blk_cell HN7.out 8
          have zf0 := blk_free HN7.out 0
          have zf1 := blk_free HN7.out 1
          have zf2 := blk_free HN7.out 2
          have zf3 := blk_free HN7.out 3
          have zf4 := blk_free HN7.out 4
          have zf5 := blk_free HN7.out 5
          have zf6 := blk_free HN7.out 6
          have zf7 := blk_free HN7.out 7
          have zf8 := blk_free HN7.out 8
          clear hh hv7 hown7 hp7 ha7 HVa hC7 hV7 haV hsV hl6 hs7 hTV hVV hCO hPV hAV hPl HC6 HN6 HO6
          go_wp2
          obtain ⟨f1, f2, f3, f4⟩ := HFin.out _ rfl
          refine bodyPost_ret (v := .agg (cells9 ⟨wd.toArray⟩ k4 p4 n4 c4 true k7 i7 b7 x7 p7 n7 c7)) (results_cell_row rfl _ _ w.heap.size _ _ _ _ rfl f1 Tryz.underlying50 rfl (by kernel_rfl)) rfl ?_
          rw [HRk.out]
          exact ⟨_, rfl, f2, f3, f4⟩
end Go.Proofs.YtpjcmahlnnglcaaGreatDoor
