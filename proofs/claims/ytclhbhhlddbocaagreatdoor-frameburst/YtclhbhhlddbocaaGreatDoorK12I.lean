/- The landed frame's reader: the fields of a schema frame and of a data frame. -/
import Derived.Test.YtclhbhhlddbocaaGreatDoorK12H
import Derived.Test.YtclhbhhlddbocaaGreatDoorFOwn
import Derived.Test.YtclhbhhlddbocaaGreatDoorK12B
import Derived.Test.YtclhbhhlddbocaaGreatDoorB19
import Derived.Laws.Rows
namespace Go.Proofs.YtclhbhhlddbocaaGreatDoor
open Go.RowKit

/-- what reading a kind's fields answers -/
def FldA (w : World) (R : Nat) (r : Except Nat Fr) (V : Fr → Value → World → Prop) (e : Ending) (w' : World) : Prop := match r with
  | .error k => e = .panicked (errV k) ∧ Aside (fun i => i = R) w w'
  | .ok f => ∃ v, e = .returned v ∧ V f v w' ∧ Aside (fun i => i = R) w w'
def isSF (B : Nat) (f : Fr) (v : Value) (w : World) : Prop := ∃ sp sc, v = .agg #[.int .i64 f.number, .slice sp f.cols.length sc] ∧ SOwn w B #[.slice sp f.cols.length sc] f.cols
def isDF (B : Nat) (f : Fr) (v : Value) (w : World) : Prop := ∃ bp bc, v = .agg #[.int .i64 f.number, .int .i64 f.seq, .int .i64 f.first, .int .i64 f.rows, .slice bp f.block.length bc] ∧ Has w B (.slice bp f.block.length bc) f.block
def isXF (B : Nat) (f : Fr) (v : Value) (w : World) : Prop := ∃ ep ec, v = .agg #[.int .i64 f.index.at_, .int .i64 f.index.frames, .int .i64 f.index.rows, .slice ep f.index.entries.length ec] ∧ EOwn w B (.slice ep f.index.entries.length ec) f.index.entries
theorem sown_keep {w W : World} {B : Nat} {u : Array Value} {s : List Col} {G : Nat → Prop} (h : SOwn w B u s) (ha : Aside G w W) (hG : ∀ k, B ≤ k → k < w.heap.size → ¬ G k) : SOwn W B u s := by
  obtain ⟨v, us, Fs, h1, h2, h3⟩ := h.out
  exact ⟨v, us, Fs, h1, h2.aside ha (fun g hg => hG g (h2.lt g hg).1 (h2.lt g hg).2) (fun j hj k hk => hG k (h2.range j hj k hk).1 (h2.range j hj k hk).2), h3⟩
theorem sown_low {w : World} {B B' : Nat} {u : Array Value} {s : List Col} (h : SOwn w B u s) (hB : B' ≤ B) : SOwn w B' u s := by
  obtain ⟨v, us, Fs, h1, h2, h3⟩ := h.out
  exact ⟨v, us, Fs, h1, h2.low hB, h3⟩

set_option maxRecDepth 100000 in
set_option maxHeartbeats 2000000 in
theorem schemaFieldsF (l : List UInt8) (A R : Nat) (w : World) (h : RdrF w A R l) : Calls Tryz.prog 103 #[.pointer (some ⟨R, 0, none⟩)] w (FldA w R (Fr.rdS l) (isSF w.heap.size)) := by
  obtain ⟨w0, hw0⟩ : ∃ w0, w0 = w.alloc (.cells #[.int .i64 0, .slice none 0 0] 142) := ⟨_, rfl⟩
  have hz0 : w0.heap.size = w.heap.size + 1 := by rw [hw0]; simp
  have HB0 : Hid (Below w.heap.size w w0) := by rw [hw0]; exact (Below.refl _ _).alloc (Nat.le_refl _) _
  have HK0 : Hid (w0.heap[w.heap.size]? = some (.cells #[.int .i64 0, .slice none 0 0] 142 (0, 0))) := by show _ = _; rw [hw0]; exact blk_new w _
  have HW : Hid (w.alloc (.cells #[.int .i64 0, .slice none 0 0] 142) = w0) := by rw [hw0]; exact rfl
  have HRd := Lib.hid (h.on HB0.out)
  have hRlt := h.lt
  have HN := Lib.hid (numberF 2147483648 (by omega) l A R w0 HRd.out)
  obtain ⟨r, hr⟩ : ∃ r, r = Fr.rdS l := ⟨_, rfl⟩
  have HR : Hid (r = match Fr.nb 2147483648 l with
    | .error e => .error e
    | .ok (n, k) => match Sch.read (l.drop k) with
      | .error e => .error e
      | .ok s => .ok { Fr0 with kind := 1, number := n, cols := s }) := hr
  rw [← hr]
  have HA0 : Hid (Aside (fun i => i = R) w w0) := aside_new HB0.out _
  clear hr h hw0
  cases hm : Fr.nb 2147483648 l with
  | error er =>
    rw [hm] at HN
    have HR2 : Hid (r = .error er) := by show _ = _; rw [HR.out, hm]
    clear hm HR
    go_enter Tryz.func103, Tryz.ntmps103
    go_wp2_with fail
    rw [HW.out]
    refine HN.out.mono ?_
    intro e w1 hh
    obtain ⟨he, ha⟩ := hh.bad
    subst he
    have HA := Lib.hid (HA0.out.trans ha (fun _ _ h => h))
    clear hh ha HN
    go_wp2
    rw [HR2.out]
    exact ⟨rfl, rfl, HA.out⟩
  | ok nk =>
    obtain ⟨n, k⟩ := nk
    rw [hm] at HN
    have HR2 : Hid (r = match Sch.read (l.drop k) with
      | .error e => .error e
      | .ok s => .ok { Fr0 with kind := 1, number := n, cols := s }) := by show _ = _; rw [HR.out, hm]
    clear hm HR
    go_enter Tryz.func103, Tryz.ntmps103
    go_wp2_with fail
    rw [HW.out]
    refine HN.out.mono ?_
    intro e w1 hh
    obtain ⟨v, he, hv, hrd, ha⟩ := hh.good
    replace hv : v = .int .i64 (n : Nat) := hv
    subst hv
    subst he
    have HA := Lib.hid (HA0.out.trans ha (fun _ _ h => h))
    obtain ⟨p1, c1, hb1, hat1, hc1, -⟩ := hrd.out
    have r0 : w1.cell? ⟨R, 0, none⟩ = some (.slice p1 (l.drop k).length c1) := blk_cell hb1 0
    have hsm := hrd.small
    have HK1 : Hid (w1.heap[w.heap.size]? = some (.cells #[.int .i64 0, .slice none 0 0] 142 (0, 0))) := (ha.block _ (by omega) (by omega)).trans HK0.out
    have hs1 : w.heap.size + 1 ≤ w1.heap.size := by have := ha.size; omega
    have HD := Lib.hid (decodeK p1 (l.drop k) c1 (by omega) hc1 w1 hat1)
    clear hh ha hrd HN hb1 hat1 hc1
    obtain ⟨L, hL⟩ : ∃ L, L = (l.drop k).length := ⟨_, rfl⟩
    rw [← hL] at HD r0
    clear hL
    obtain ⟨sr, hsr⟩ : ∃ sr, sr = Sch.read (l.drop k) := ⟨_, rfl⟩
    rw [← hsr] at HD HR2
    have HSr := Lib.hid hsr
    clear hsr
    cases sr with
    | error er =>
      have HR3 : Hid (r = .error er) := HR2.out
      have hne : er ≠ 0 := Sch.read_ne HSr.out.symm
      have g0 : ((er : Int) == 0) = false := beq_f (by omega)
      go_wp2_with fail
      refine HD.out.mono ?_
      rintro e w2 ⟨rfl, hb⟩
      have HB2 := Lib.hid hb
      have HA2 : Hid (∀ o, Aside (fun i => i = R) w (w2.alloc o)) := fun o => (HA.out.trans (aside_new hb (fun i => i = R)) (fun _ _ h => h)).alloc o
      clear hb HD HR2 hne HSr
      go_wp2_with fail
      refine (needF_f _ er _).mono ?_
      rintro e w3 ⟨rfl, hw3⟩
      rw [hw3]
      clear hw3 w3
      go_wp2
      rw [HR3.out]
      exact ⟨rfl, rfl, HA2.out _⟩
    | ok s =>
      have HR3 : Hid (r = .ok { Fr0 with kind := 1, number := n, cols := s }) := HR2.out
      go_wp2_with fail
      refine HD.out.mono ?_
      rintro e w2 ⟨u, rfl, hso, hb⟩
      have hK2 : w2.heap[w.heap.size]? = some (.cells #[.int .i64 0, .slice none 0 0] 142 (0, 0)) := (hb.block _ (by omega)).trans HK1.out
      obtain ⟨sp, sc, rfl, -, -, -⟩ := hso.lies.out
      have HSo := Lib.hid hso
      have HB2 := Lib.hid hb
      have hs2 := hb.size
      have HA2 := Lib.hid (HA.out.trans (aside_new hb (fun i => i = R)) (fun _ _ h => h))
      obtain ⟨w3, hw3⟩ : ∃ w3, w3 = w2.alloc (.cells #[.slice sp s.length sc] 24) := ⟨_, rfl⟩
      have hK3 : w3.heap[w.heap.size]? = some (.cells #[.int .i64 0, .slice none 0 0] 142 (0, 0)) := by rw [hw3, blk_old _ _ (by omega)]; exact hK2
      have HK3 := Lib.hid hK3
      have x0 : w3.cell? ⟨w.heap.size, 0, none⟩ = some (.int .i64 0) := blk_cell hK3 0
      have x1 : w3.cell? ⟨w.heap.size, 1, none⟩ = some (.slice none 0 0) := blk_cell hK3 1
      have xf0 := blk_free hK3 0
      have xf1 := blk_free hK3 1
      have y0 : w3.cell? ⟨w2.heap.size, 0, none⟩ = some (.slice sp s.length sc) := by rw [hw3]; simp
      have HA3 : Hid (Aside (fun i => i = R) w w3) := by rw [hw3]; exact HA2.out.alloc _
      have HA23 : Hid (Aside (fun i => i = w.heap.size) w2 w3) := by rw [hw3]; exact (Aside.refl _ _).alloc _
      have HW3 : Hid (w2.alloc (.cells #[.slice sp s.length sc] 24) = w3) := by rw [hw3]; exact rfl
      clear hb HD HR2 HSr hso hK2 hK3 hw3
      go_wp2_with fail
      rw [HW3.out]
      refine (needF_t _ _ _).mono ?_
      rintro e w4 ⟨rfl, hw4⟩
      rw [hw4]
      clear hw4 w4
      go_wp2
      have HKf : Hid (((w3.setCell ⟨w.heap.size, 0, none⟩ (.int .i64 n)).setCell ⟨w.heap.size, 1, none⟩ (.slice sp s.length sc)).heap[w.heap.size]? = some (.cells #[.int .i64 n, .slice sp s.length sc] 142 (0, 0))) := blk_set (blk_set HK3.out 0 _) 1 _
      have hAf : Aside (fun i => i = w.heap.size) w3 ((w3.setCell ⟨w.heap.size, 0, none⟩ (.int .i64 n)).setCell ⟨w.heap.size, 1, none⟩ (.slice sp s.length sc)) := (aside_set w3 w.heap.size 0 _).trans (aside_set _ w.heap.size 1 _) (fun _ _ h => h)
      refine bodyPost_ret (v := .agg #[.int .i64 n, .slice sp s.length sc]) (results_cell_row rfl _ _ w.heap.size _ _ _ _ rfl HKf.out Tryz.underlying142 rfl (by kernel_rfl)) rfl ?_
      rw [HR3.out]
      refine ⟨_, rfl, ⟨sp, sc, rfl, ?_⟩, ?_⟩
      · exact sown_low (sown_keep HSo.out (HA23.out.trans hAf (fun _ _ h => h)) (fun k h1 h2 h3 => by omega)) (by omega)
      · exact HA3.out.trans hAf (fun i hi h => by omega)
end Go.Proofs.YtclhbhhlddbocaaGreatDoor
