/- The landed text: number, float. -/
import Derived.Test.YtpjcmahlnnglcaaGreatDoorK21E
import Derived.Test.YtpjcmahlnnglcaaGreatDoorA6
import Derived.Test.YtpjcmahlnnglcaaGreatDoorB02
namespace Go.Proofs.YtpjcmahlnnglcaaGreatDoor
open Go.RowKit
attribute [local go_sem] run_store_float

/-- a value in blocks that are new since w -/
def isVa (w : World) (x : V) (v : Value) (w' : World) : Prop := ∃ u, v = .agg u ∧ VOwn w' (fun k => w.heap.size ≤ k ∧ k < w'.heap.size) u x
theorem isVa.open {w w' : World} {x : V} {v : Value} (h : isVa w x v w') : ∃ u, v = .agg u ∧ VOwn w' (fun k => w.heap.size ≤ k ∧ k < w'.heap.size) u x := h
/-- the cells of no value -/
def zero5 : Array Value := #[.int .i64 0, .int .i64 0, .float .f64 0, .string ⟨#[]⟩, .slice none 0 0]
/-- all five cells of a block are written -/
def set5 (w : World) (N : Nat) (k i : Int) (b : Nat) (t : ByteArray) (q : Option Addr) (n c : Nat) : World := ((((w.setCell ⟨N, 0, none⟩ (.int .i64 k)).setCell ⟨N, 1, none⟩ (.int .i64 i)).setCell ⟨N, 2, none⟩ (.float .f64 b)).setCell ⟨N, 3, none⟩ (.string t)).setCell ⟨N, 4, none⟩ (.slice q n c)
theorem set5_block {w : World} {N : Nat} {C : Array Value} {T : TypeId} (h : w.heap[N]? = some (.cells C T (0, 0))) (hC : C.size = 5) (k i : Int) (b : Nat) (t : ByteArray) (q : Option Addr) (n c : Nat) : (set5 w N k i b t q n c).heap[N]? = some (.cells (cells5 k i b t q n c) T (0, 0)) := by
  unfold set5
  rw [blk_set (blk_set (blk_set (blk_set (blk_set h 0 _) 1 _) 2 _) 3 _) 4 _]
  obtain ⟨l⟩ := C
  match l, hC with
  | [a, b, c, d, e], _ => rfl
theorem set5_aside (w : World) (N : Nat) (k i : Int) (b : Nat) (t : ByteArray) (q : Option Addr) (n c : Nat) : Aside (fun j => j = N) w (set5 w N k i b t q n c) :=
  ((((((Aside.refl (fun j => j = N) w).setCell (p := ⟨N, 0, none⟩) (.inl rfl) _).setCell (p := ⟨N, 1, none⟩) (.inl rfl) _).setCell (p := ⟨N, 2, none⟩) (.inl rfl) _).setCell (p := ⟨N, 3, none⟩) (.inl rfl) _).setCell (p := ⟨N, 4, none⟩) (.inl rfl) _)
theorem set5_size (w : World) (N : Nat) (k i : Int) (b : Nat) (t : ByteArray) (q : Option Addr) (n c : Nat) : (set5 w N k i b t q n c).heap.size = w.heap.size := by simp [set5, World.setCell]
/-- the answer is laid into its place -/
theorem finV {w wr : World} {P : Nat} {S : ByteArray} {k i : Int} {b : Nat} {t : ByteArray} {q : Option Addr} {n c : Nat} {x : V} {l : Tx.Bs} {F : Nat → Prop} (hP : P < w.heap.size) (bN : wr.heap[w.heap.size]? = some (.cells zero5 31 (0, 0)))
    (hown : VOwn wr F (cells5 k i b t q n c) x) (hF : ∀ k, F k → w.heap.size < k ∧ k < wr.heap.size) (hrd : Prs wr P S l) (ha : Aside (fun i => i = P) w wr) {w5 : World} (hw5 : w5 = set5 wr w.heap.size k i b t q n c) :
    w5.heap[w.heap.size]? = some (.cells (cells5 k i b t q n c) 31 (0, 0)) ∧ isVa w x (.agg (cells5 k i b t q n c)) w5 ∧ Prs w5 P S l ∧ Aside (fun i => i = P) w w5 := by
  have h2 : Aside (fun i => i = w.heap.size) wr w5 := by rw [hw5]; exact set5_aside _ _ _ _ _ _ _ _ _
  have hs : w5.heap.size = wr.heap.size := by rw [hw5]; exact set5_size _ _ _ _ _ _ _ _ _
  refine ⟨?_, ⟨_, rfl, ?_⟩, hrd.aside h2 (fun k hk => by rw [hk]; exact hP), ha.trans h2 (fun i hi he => by rw [he] at hi; omega)⟩
  · rw [hw5]; exact set5_block bN rfl _ _ _ _ _ _ _
  · exact (hown.aside h2 (fun k hk he => by have := hF k hk; omega)).mono (fun k hk => by have := hF k hk; omega)

/-- what is read of a number -/
def pnum (l : Tx.Bs) : Tx.R (V × Tx.Bs) := match Tx.num (l.takeWhile Tx.iset) with
  | none => .error (5, l.length)
  | some n => .ok (⟨2, n, 0, ⟨#[]⟩, []⟩, l.dropWhile Tx.iset)
/-- .. of a float -/
def pflo (rf : Tx.Bs → Option Nat) (l : Tx.Bs) : Tx.R (V × Tx.Bs) := andM (Tx.must [126] l) fun t => match rf (t.takeWhile Tx.fset) with
  | none => .error (5, t.length)
  | some b => .ok (⟨3, 0, b, ⟨#[]⟩, []⟩, t.dropWhile Tx.fset)

/-- ParseInt at base ten and 64 bits, at every text: whether it is one -/
theorem parseInt_full (s : ByteArray) (hlim : s.size ≤ 281474976710656) (w : World) (hs : Sen w) :
    Calls Tryz.prog 158 #[.string s, .int .i64 10, .int .i64 64] w fun e w' =>
      ((∃ n : Int, Lib.parseIntB 64 s.data.toList = .ok n ∧ e = .returned (.tuple #[.int .i64 n, .nilIface])) ∨ ((∀ n, Lib.parseIntB 64 s.data.toList ≠ .ok n) ∧ ∃ (v : Int) (N : Nat), e = .returned (.tuple #[.int .i64 v, .iface 200 (.pointer (some ⟨N, 0, none⟩))]))) ∧ Below w.heap.size w w' := by
  obtain ⟨⟨tp, p, h1⟩, ⟨tq, q, h2⟩⟩ := hs
  cases h : Lib.parseIntB 64 s.data.toList
  · rename_i n
    refine (Tryz.strconv_ParseInt_10_at64_ok s (by omega) n h w).mono ?_
    rintro e w' ⟨rfl, hg⟩
    refine ⟨.inl ⟨n, rfl, rfl⟩, ?_⟩
    rcases hg with rfl | ⟨t, rfl⟩
    · exact Below.refl _ _
    · exact Lib.bytesWorld_below w 5 t
  · have c : Calls Tryz.prog 158 #[.string s, .int .i64 10, .int .i64 64] w fun e w' => ∃ N, e = .returned (.tuple #[.int .i64 (0), .iface 200 (.pointer (some ⟨N, 0, none⟩))]) ∧ w.heap.size ≤ N ∧ w'.heap[N]? = some (.cells #[.string ⟨#[80, 97, 114, 115, 101, 73, 110, 116]⟩, .string s, .iface tp p] 212 (0, 0)) ∧ Below w.heap.size w w' := Any.strconv_ParseInt_10_at64_syntax_var Tryz.laysC174 s hlim h tp p w h1
    refine c.mono ?_
    rintro e w' ⟨N, rfl, _, _, hb⟩
    exact ⟨.inr ⟨fun n hn => (by cases hn), _, N, rfl⟩, hb⟩
  · have c : Calls Tryz.prog 158 #[.string s, .int .i64 10, .int .i64 64] w fun e w' => ∃ N, e = .returned (.tuple #[.int .i64 (Lib.intSat 64 s.data.toList), .iface 200 (.pointer (some ⟨N, 0, none⟩))]) ∧ w.heap.size ≤ N ∧ w'.heap[N]? = some (.cells #[.string ⟨#[80, 97, 114, 115, 101, 73, 110, 116]⟩, .string s, .iface tq q] 212 (0, 0)) ∧ Below w.heap.size w w' := Any.strconv_ParseInt_10_at64_range_var Tryz.laysC174 s hlim h tq q w h2
    refine c.mono ?_
    rintro e w' ⟨N, rfl, _, _, hb⟩
    exact ⟨.inr ⟨fun n hn => (by cases hn), _, N, rfl⟩, hb⟩

set_option maxRecDepth 100000 in
set_option maxHeartbeats 4000000 in
theorem numberX {w : World} {P : Nat} {S : ByteArray} {l : Tx.Bs} (h : Prs w P S l) : Calls Tryz.prog 131 #[.pointer (some ⟨P, 0, none⟩)] w (PsA w P S (pnum l) (isVa w)) := by
  obtain ⟨W0, hW0⟩ : ∃ W0, W0 = w.alloc (.cells #[.int .i64 0, .int .i64 0, .float .f64 0, .string ⟨#[]⟩, .slice none 0 0] 31) := ⟨_, rfl⟩
  have HB0 : Hid (Below w.heap.size w W0) := by rw [hW0]; exact (Below.refl _ _).alloc (Nat.le_refl _) _
  have HN0 : Hid (W0.heap[w.heap.size]? = some (.cells zero5 31 (0, 0))) := by rw [hW0]; exact blk_new w _
  have HW0 := Lib.hid hW0
  have h0 := h.on HB0.out
  have HL := Lib.hid (longest_int h0)
  obtain ⟨wd, hwd⟩ : ∃ wd, wd = l.takeWhile Tx.iset := ⟨_, rfl⟩
  obtain ⟨r0, hr0⟩ : ∃ r, r = l.dropWhile Tx.iset := ⟨_, rfl⟩
  have hsp : l = wd ++ r0 := by rw [hwd, hr0]; exact (List.takeWhile_append_dropWhile).symm
  obtain ⟨R, hR⟩ : ∃ R, R = pnum l := ⟨_, rfl⟩
  have hR1 : R = match Tx.num wd with
    | none => .error (5, l.length)
    | some n => .ok (⟨2, n, 0, ⟨#[]⟩, []⟩, r0) := by rw [hR, hwd, hr0]; rfl
  rw [← hR]
  rw [← hwd] at HL
  have HPlt := Lib.hid h.lt
  have HH0 := Lib.hid h0
  have hll : l.length = wd.length + r0.length := by rw [hsp, List.length_append]
  have hsm := h.small
  have hle := h.le
  have HSp := Lib.hid hsp
  have hwl : (ByteArray.mk wd.toArray).size ≤ 281474976710656 := by show wd.toArray.size ≤ _; simp; omega
  have HPI := Lib.hid (fun w' hs => parseInt_full (ByteArray.mk wd.toArray) hwl w' hs)
  have HRR := Lib.hid hR1
  clear h h0 hW0 hwd hr0 hR hR1 hwl hsp
  go_enter Tryz.func131, Tryz.ntmps131
  go_wp2_with fail
  rw [← HW0.out]
  refine HL.out.mono ?_
  rintro e w1 ⟨rfl, hb1⟩
  have HB1 := Lib.hid hb1
  have HH1 := Lib.hid (HH0.out.on hb1)
  have HA1 := Lib.hid ((aside_new HB0.out (fun i => i = P)).trans (aside_new hb1 (fun i => i = P)) (fun _ _ h => h))
  have HN1 : Hid (w1.heap[w.heap.size]? = some (.cells zero5 31 (0, 0))) := blk_on HN0.out hb1 (blk_lt HN0.out)
  have HPi := Lib.hid (HPI.out w1 HH1.out.hv.sen)
  clear hb1 HL HB0 HN0 HH0 HW0 HPI
  have HSp1 : Hid (Prs w1 P S (wd ++ r0)) := by show Prs w1 P S (wd ++ r0); rw [← HSp.out]; exact HH1.out
  obtain ⟨a, ha⟩ : ∃ a, S.size - l.length = a := ⟨_, rfl⟩
  have HAL : Hid (a + wd.length = S.size - r0.length) := by show _ = _; omega
  have HAS : Hid (S.size - l.length = a) := ha
  have g5 : (a : Int) + (wd.length : Int) ≤ 140737488351232 := by omega
  clear ha hll hle hsm
  go_wp2_with fail
  refine HPi.out.mono ?_
  rintro e w2 ⟨hcase, hb2⟩
  have HH2 := Lib.hid (HH1.out.on hb2)
  have HS2 := Lib.hid (HSp1.out.on hb2)
  have HA2 := Lib.hid (HA1.out.trans (aside_new hb2 (fun i => i = P)) (fun _ _ h => h))
  have HN2 : Hid (w2.heap[w.heap.size]? = some (.cells zero5 31 (0, 0))) := blk_on HN1.out hb2 (blk_lt HN1.out)
  have HT2 := Lib.hid HH2.out.hv.tab
  clear hb2 HH1 HA1 HN1 HB1 HPi HSp1
  rcases hcase with ⟨n, hn, rfl⟩ | ⟨hno, v, N, rfl⟩
  · have hbd := Lib.parseIntB_bounds hn
    have hbd2 : -9223372036854775808 ≤ n ∧ n ≤ 9223372036854775807 := by
      have e : ((2 ^ (64 - 1) : Nat) : Int) = 9223372036854775808 := by decide
      rw [e] at hbd
      omega
    have hnum := num_of_parse hn
    have HF : Hid (∀ w', Tab w' → Calls Tryz.prog 114 #[.int .i64 n, .int .i64 10] w' fun e w'' => e = .returned (.string ⟨(Lib.itoa n).toArray⟩) ∧ Below w'.heap.size w' w'') := fun w' ht => (Tryz.strconv_FormatInt_10 n hbd2.1 hbd2.2 w' ht).mono fun e w'' ⟨q1, q2⟩ => ⟨q1, below_of_grow q2⟩
    obtain ⟨X, hX⟩ : ∃ X, X = Lib.itoa n := ⟨_, rfl⟩
    rw [← hX] at HF hnum
    have e8 : (ByteArray.mk X.toArray).toList = X := by rw [ByteArray.toList_eq]
    have e7 : (ByteArray.mk wd.toArray).toList = wd := by rw [ByteArray.toList_eq]
    by_cases hx : X = wd
    · have e6 : (X == wd) = true := by rw [beq_iff_eq]; exact hx
      have HRk : Hid (R = .ok (⟨2, n, 0, ⟨#[]⟩, []⟩, r0)) := by show R = _; rw [HRR.out, hnum, if_pos hx]
      clear hx hX hnum hn hbd hbd2 HRR
      go_wp2_with fail
      refine (HF.out _ HT2.out).mono ?_
      rintro e w3 ⟨rfl, hb3⟩
      have HA3 := Lib.hid (HA2.out.trans (aside_new hb3 (fun i => i = P)) (fun _ _ h => h))
      have HN3 : Hid (w3.heap[w.heap.size]? = some (.cells zero5 31 (0, 0))) := blk_on HN2.out hb3 (blk_lt HN2.out)
      have HS3 := Lib.hid (HS2.out.on hb3)
      have c1 : w3.cell? ⟨P, 1, none⟩ = some (.int .i64 (a : Int)) := by rw [← HAS.out]; exact (HH2.out.on hb3).cell 1
      have t1 := (HH2.out.on hb3).thawed 1
      have hPN : ¬ w.heap.size = P := by have := HPlt.out; omega
      have hPN2 : ¬ P = w.heap.size := by have := HPlt.out; omega
      have HP4 : Hid (Prs (w3.setCell ⟨P, 1, none⟩ (.int .i64 ((a : Int) + (wd.length : Int)))) P S r0) := HS3.out.skip (by have := HAL.out; omega)
      have HA4 := Lib.hid (HA3.out.trans (aside_at w3 P (.int .i64 ((a : Int) + (wd.length : Int)))) (fun _ _ h => h))
      have HN4 : Hid ((w3.setCell ⟨P, 1, none⟩ (.int .i64 ((a : Int) + (wd.length : Int)))).heap[w.heap.size]? = some (.cells zero5 31 (0, 0))) := ((aside_at w3 P (.int .i64 ((a : Int) + (wd.length : Int)))).block _ (blk_lt HN3.out) hPN).trans HN3.out
      have HFin := Lib.hid (fun w5 hw5 => finV (w5 := w5) (k := 2) (i := n) (b := 0) (t := ⟨#[]⟩) (q := none) (n := 0) (c := 0) (x := ⟨2, n, 0, ⟨#[]⟩, []⟩) (F := fun _ => False) HPlt.out HN4.out .none (fun _ h => h.elim) HP4.out HA4.out hw5)
      have zf0 := blk_free HN3.out 0
      have zf1 := blk_free HN3.out 1
      have zf2 := blk_free HN3.out 2
      have zf3 := blk_free HN3.out 3
      have zf4 := blk_free HN3.out 4
      have z0 : w3.cell? ⟨w.heap.size, 0, none⟩ = some (.int .i64 0) := blk_cell HN3.out 0
      have z1 : w3.cell? ⟨w.heap.size, 1, none⟩ = some (.int .i64 0) := blk_cell HN3.out 1
      have z2 : w3.cell? ⟨w.heap.size, 2, none⟩ = some (.float .f64 0) := blk_cell HN3.out 2
      have z3 : w3.cell? ⟨w.heap.size, 3, none⟩ = some (.string ⟨#[]⟩) := blk_cell HN3.out 3
      have z4 : w3.cell? ⟨w.heap.size, 4, none⟩ = some (.slice none 0 0) := blk_cell HN3.out 4
      clear hb3 HF HT2 HA2 HN2 HS2 HH2
      go_wp2_with fail
      refine (pneed_t _ 5 _).mono ?_
      rintro e w4 ⟨rfl, hw4⟩
      rw [hw4]
      clear hw4 w4
      go_wp2
      obtain ⟨f1, f2, f3, f4⟩ := HFin.out _ rfl
      refine bodyPost_ret (v := .agg (cells5 2 n 0 ⟨#[]⟩ none 0 0)) (results_cell_row rfl _ _ w.heap.size _ _ _ _ rfl f1 Tryz.underlying31 rfl (by kernel_rfl)) rfl ?_
      rw [HRk.out]
      exact ⟨_, rfl, f2, f3, f4⟩
    · have e6 : (X == wd) = false := by rw [beq_eq_false_iff_ne]; exact hx
      have HRe : Hid (R = .error (5, l.length)) := by show R = _; rw [HRR.out, hnum, if_neg hx]
      clear hx hX hnum hn hbd hbd2 HRR
      go_wp2_with fail
      refine (HF.out _ HT2.out).mono ?_
      rintro e w3 ⟨rfl, hb3⟩
      have HA3 := Lib.hid (HA2.out.trans (aside_new hb3 (fun i => i = P)) (fun _ _ h => h))
      have HNd := Lib.hid (pneed_f (HH2.out.on hb3) 5 l.length rfl)
      clear hb3 HF HT2 HA2 HN2 HS2 HH2
      go_wp2_with fail
      refine HNd.out.mono ?_
      rintro e w4 ⟨rfl, hw4⟩
      rw [hw4]
      clear hw4 w4 HNd
      go_wp2
      rw [HRe.out]
      exact ⟨rfl, rfl, HA3.out⟩
  · have hnum := num_none hno
    have HRe : Hid (R = .error (5, l.length)) := by show R = _; rw [HRR.out, hnum]
    have HNd := Lib.hid (pneed_f HH2.out 5 l.length rfl)
    clear hnum hno HRR
    go_wp2_with fail
    refine HNd.out.mono ?_
    rintro e w4 ⟨rfl, hw4⟩
    rw [hw4]
    clear hw4 w4 HNd
    go_wp2
    rw [HRe.out]
    exact ⟨rfl, rfl, HA2.out⟩
end Go.Proofs.YtpjcmahlnnglcaaGreatDoor
