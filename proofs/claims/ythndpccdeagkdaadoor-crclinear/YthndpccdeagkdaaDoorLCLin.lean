/- CrcLinear, walked. -/
import Derived.Test.YthndpccdeagkdaaDoorWLiveC
import Derived.Test.YthndpccdeagkdaaDoorCopy
import Derived.Deep.OwnRows
import Derived.Deep.RegionHeld3
import Derived.Deep.DeepCutAuto
namespace Go.Proofs.YthndpccdeagkdaaDoor
open Go.RowKit

theorem sum_empty (p : Option Addr) (c : Nat) (w : World) : Calls Tryd.prog 10 #[.slice p 0 c] w fun e w' => e = .returned (.int .u32 0) ∧ w' = w := by
  have HU := Lib.hid (update_none 0 (by omega) p c w)
  go_enter Tryd.func10, Tryd.ntmps10
  go_wp2_with fail
  refine HU.out.mono ?_
  rintro e w' ⟨rfl, hw⟩
  rw [hw]
  clear hw w' HU
  go_wp2
  go_ret
  exact ⟨rfl, rfl⟩

theorem made_own (w : World) (n : Nat) : Own (w.alloc (.cells (madeCells #[.int .u8 0] n) 5)) w.heap.size (List.replicate n 0) := by
  refine ⟨#[], ?_⟩
  rw [heap_new, Array.append_empty]
  congr 2
  apply Array.ext
  · simp [madeCells, cellsOf]
  · intro i h1 h2
    simp [madeCells, cellsOf, Nat.mod_one]

theorem hv_heap {w w' : World} (h : Hv w) (e : w'.heap = w.heap) : Hv w' := fun n hn => by
  rw [World.cell?_of_block (w := w) (by rw [e])]
  exact h n hn
theorem i64_eq {a b : Int} (h : a = b) : Value.int .i64 a = Value.int .i64 b := by rw [h]

set_option maxHeartbeats 1000000 in
theorem linear_nought (p q r : Option Addr) (cp cq cr la lb lc : Nat) (h0 : la = 0 ∨ lb = 0 ∨ lc = 0) (w : World) (ht : Hv w) :
    Calls Tryd.prog 7 #[.slice p la cp, .slice q lb cq, .slice r lc cr] w fun e w' => e = .returned (.bool true) ∧ Below w.heap.size w w' := by
  have HT := Lib.hid ht
  clear ht
  have hmk : ∀ w : World, (Instr.makeSlice 25 (.int .i64 0) (.int .i64 0)).run Tryd.prog w = .ok (.slice (some ⟨w.heap.size, 0, none⟩) 0 0) (w.alloc (.cells (madeCells #[.int .u8 0] 0) 5)) := run_make_row' (P := Tryd.prog) 25 5 (.int .u8 0) 1 Tryd.underlying25 info8 rfl .i64 .i64 0 (by omega) (by omega)
  go_enter Tryd.func7, Tryd.ntmps7
  go_upto_if 15 with fail
  go_cut [7] from 10 (fun v7 wx => v7 = .int .i64 (min la lb : Nat) ∧ wx = w)
  case first =>
    go_wp2
    · go_meet
      case rel => exact ⟨i64_eq (by omega), rfl⟩
    · go_meet
      case rel => exact ⟨i64_eq (by omega), rfl⟩
  case rest =>
    obtain ⟨rfl, hwc⟩ := hcut
    rw [hwc]
    clear hwc wc
    go_upto_if 21 with fail
    go_cut [7] from 10 (fun v7 wx => v7 = .int .i64 0 ∧ wx = w)
    case first =>
      go_wp2
      · go_meet
        case rel => exact ⟨i64_eq (by omega), rfl⟩
      · go_meet
        case rel => exact ⟨i64_eq (by omega), rfl⟩
    case rest =>
      obtain ⟨rfl, hwc⟩ := hcut
      rw [hwc]
      clear hwc wc
      go_wp2
      have HB0 : Hid (Below w.heap.size w (w.alloc (Obj.cells (madeCells #[Value.int IntKind.u8 0] 0) 5))) := (Below.refl _ _).alloc (Nat.le_refl _) _
      have HT0 := Lib.hid (HT.out.on HB0.out)
      clear HT
      generalize w.alloc (Obj.cells (madeCells #[Value.int IntKind.u8 0] 0) 5) = w0 at HB0 HT0 ⊢
      go_loop [9] (fun v9 => v9 = .int .i64 0) (fun _ => 0)
      case atStart => exact rfl
      case round =>
        subst hrel
        go_wp2
        go_region_held3 (fun _ => True) (trivial) (first
          | (go_at_call 9; refine (live_any _ (hv_heap HT0.out (by rfl))).mono ?_; rintro e w1 ⟨rfl, hb⟩; have HB1 := Lib.hid hb; clear hb)
          | (go_at_call 10; refine (sum_empty _ _ _).mono ?_; rintro e w' ⟨rfl, rfl⟩))
        go_wp2
        go_ret
        exact ⟨rfl, HB0.out.drew.trans (HB1.out.mono HB0.out.size)⟩

theorem take_set_succ (xs X : List UInt8) (i : Nat) (h1 : i < xs.length) (h2 : i < X.length) (h : xs.take i = X.take i) : (xs.set i X[i]).take (i + 1) = X.take (i + 1) := by
  rw [List.take_succ_eq_append_getElem (by simpa using h1), List.take_succ_eq_append_getElem h2, List.take_set_of_le (Nat.le_refl i), h]
  simp

theorem xor8_nat (x y : UInt8) : bits .xor .u8 (x.toNat : Int) (y.toNat : Int) = ((x ^^^ y).toNat : Int) := by
  rw [UInt8.toNat_xor]
  exact u8_xor_nat x.toNat y.toNat x.toNat_lt y.toNat_lt

/-- what the loop keeps -/
def Xored (X : List UInt8) (B : Nat) (w : World) (i : Nat) (wr : World) : Prop :=
  ∃ xs : List UInt8, Own wr B xs ∧ xs.length = X.length ∧ Below B w wr ∧ xs.take i = X.take i

theorem xored_step {X : List UInt8} {B i : Nat} {w wr : World} (h : Xored X B w i wr) (hi : i < X.length) :
    (∃ v, wr.cell? ⟨B, i, none⟩ = some v) ∧ wr.frozen? ⟨B, i, none⟩ = false ∧ Xored X B w (i + 1) (wr.setCell ⟨B, i, none⟩ (.int .u8 (X[i].toNat : Int))).drew := by
  obtain ⟨xs, hO, hxl, hB, ht⟩ := h
  have hc := hO.cells i (by omega)
  rw [Nat.zero_add] at hc
  have hO' : Own (wr.setCell ⟨B, i, none⟩ (.int .u8 (X[i].toNat : Int))).drew B (xs.set i X[i]) := hO.set i _ (by omega)
  exact ⟨⟨_, hc⟩, hO.thawed i, _, hO', by rw [List.length_set]; exact hxl, (hB.setCell (Nat.le_refl _) _).drew, take_set_succ xs X i (by omega) hi ht⟩
theorem xored_end {X : List UInt8} {B : Nat} {w wr : World} (h : Xored X B w X.length wr) : Own wr B X ∧ Below B w wr := by
  obtain ⟨xs, hO, hxl, hB, ht⟩ := h
  rw [← hxl, List.take_length, hxl, List.take_length] at ht
  rw [← ht]
  exact ⟨hO, hB⟩

set_option maxHeartbeats 2000000 in
theorem linear_some (b1 o1 b2 o2 b3 o3 cp cq cr la lb lc n : Nat) (hn : n = min (min la lb) lc) (hpos : 0 < n) (A B C : List UInt8) (hA : A.length = n) (hB : B.length = n) (hC : C.length = n) (hl : n ≤ 140737488351232) (hcp : la ≤ cp) (hcq : lb ≤ cq) (hcr : lc ≤ cr)
    (w : World) (ht : Hv w) (k1 : b1 < w.heap.size) (k2 : b2 < w.heap.size) (k3 : b3 < w.heap.size) (h1 : Cells w b1 o1 A) (h2 : Cells w b2 o2 B) (h3 : Cells w b3 o3 C) :
    Calls Tryd.prog 7 #[.slice (some ⟨b1, o1, none⟩) la cp, .slice (some ⟨b2, o2, none⟩) lb cq, .slice (some ⟨b3, o3, none⟩) lc cr] w fun e w' => e = .returned (.bool true) ∧ Below w.heap.size w w' := by
  have HT := Lib.hid ht
  have H1 := Lib.hid h1
  have H2 := Lib.hid h2
  have H3 := Lib.hid h3
  clear ht h1 h2 h3
  obtain ⟨X, hX⟩ : ∃ X, X = List.zipWith (· ^^^ ·) (List.zipWith (· ^^^ ·) A B) C := ⟨_, rfl⟩
  have hXl : X.length = n := by rw [hX]; simp; omega
  have HX : Hid (∀ i (hx : i < X.length) (ha : i < A.length) (hb : i < B.length) (hc : i < C.length), X[i] = A[i] ^^^ B[i] ^^^ C[i]) := by
    intro i hx ha hb hc
    subst hX
    simp
  have HS : Hid (Crc.sum X = Crc.sum A ^^^ Crc.sum B ^^^ Crc.sum C) := by
    apply Crc.sum_xor A B C X (by omega) (by omega) (by omega)
    rw [hX, Crc.num_zip _ _ (by simp; omega), Crc.num_zip _ _ (by omega)]
  clear hX
  have hmk : ∀ w : World, (Instr.makeSlice 25 (.int .i64 n) (.int .i64 n)).run Tryd.prog w = .ok (.slice (some ⟨w.heap.size, 0, none⟩) n n) (w.alloc (.cells (madeCells #[.int .u8 0] n) 5)) := run_make_row' (P := Tryd.prog) 25 5 (.int .u8 0) 1 Tryd.underlying25 info8 rfl .i64 .i64 n (by omega) (by omega)
  have HI : Hid (Xored X w.heap.size w 0 (w.alloc (.cells (madeCells #[.int .u8 0] n) 5))) :=
    ⟨List.replicate n 0, made_own w n, by rw [List.length_replicate, hXl], (Below.refl _ _).alloc (Nat.le_refl _) _, rfl⟩
  go_enter Tryd.func7, Tryd.ntmps7
  go_upto_if 15 with fail
  go_cut [7] from 10 (fun v7 wx => v7 = .int .i64 (min la lb : Nat) ∧ wx = w)
  case first =>
    clear hn
    go_wp2
    · go_meet
      case rel => exact ⟨i64_eq (by omega), rfl⟩
    · go_meet
      case rel => exact ⟨i64_eq (by omega), rfl⟩
  case rest =>
    obtain ⟨rfl, hwc⟩ := hcut
    rw [hwc]
    clear hwc wc
    go_upto_if 21 with fail
    go_cut [7] from 10 (fun v7 wx => v7 = .int .i64 n ∧ wx = w)
    case first =>
      go_wp2
      · go_meet
        case rel => exact ⟨i64_eq (by omega), rfl⟩
      · go_meet
        case rel => exact ⟨i64_eq (by omega), rfl⟩
    case rest =>
      obtain ⟨rfl, hwc⟩ := hcut
      rw [hwc]
      clear hwc wc
      have hna : n ≤ la := by omega
      have hnb : n ≤ lb := by omega
      have hnc : n ≤ lc := by omega
      clear hn
      go_wp2
      have k1i := k1
      generalize w.alloc (.cells (madeCells #[.int .u8 0] n) 5) = w0 at HI ⊢
      go_loopw [9] (fun v9 wr => ∃ i : Nat, i ≤ n ∧ v9 = .int .i64 i ∧ Hid (Xored X w.heap.size w i wr)) (fun v9 _ => n - (intOf v9).toNat)
      case atStart => exact ⟨0, by omega, rfl, HI⟩
      case round =>
        obtain ⟨i, hi, rfl, HK⟩ := hrel
        by_cases hlt : i < n
        · have ix : i < X.length := by omega
          have ia : i < A.length := by omega
          have ib : i < B.length := by omega
          have ic : i < C.length := by omega
          obtain ⟨⟨v, hv⟩, hfz, hnext⟩ := xored_step HK.out ix
          have hBr : Below w.heap.size w wr := by obtain ⟨_, _, _, h, _⟩ := HK.out; exact h
          have c1 : wr.cell? ⟨b1, o1 + i, none⟩ = some (.int .u8 (A[i].toNat : Int)) := by rw [hBr.cell (p := ⟨b1, o1 + i, none⟩) k1]; exact H1.out i ia
          have c2 : wr.cell? ⟨b2, o2 + i, none⟩ = some (.int .u8 (B[i].toNat : Int)) := by rw [hBr.cell (p := ⟨b2, o2 + i, none⟩) k2]; exact H2.out i ib
          have c3 : wr.cell? ⟨b3, o3 + i, none⟩ = some (.int .u8 (C[i].toNat : Int)) := by rw [hBr.cell (p := ⟨b3, o3 + i, none⟩) k3]; exact H3.out i ic
          have x1 := xor8_nat A[i] B[i]
          have x2 := xor8_nat (A[i] ^^^ B[i]) C[i]
          rw [← HX.out i ix ia ib ic] at x2
          have HN := Lib.hid hnext
          clear hnext hBr
          generalize (A[i] ^^^ B[i]).toNat = vab at x1 x2
          generalize A[i].toNat = va at c1 x1
          generalize B[i].toNat = vb at c2 x1
          generalize C[i].toNat = vc at c3 x2
          generalize X[i].toNat = vx at x2 HN
          have g0 : (0 : Int) ≤ (i : Int) := by omega
          have g1 : (i : Int) < (la : Int) := by omega
          have g2 : (i : Int) < (lb : Int) := by omega
          have g3 : (i : Int) < (lc : Int) := by omega
          have g4 : (i : Int) < (n : Int) := by omega
          have d1 : ¬ b1 = w.heap.size := by omega
          have d2 : ¬ b2 = w.heap.size := by omega
          have d3 : ¬ b3 = w.heap.size := by omega
          have f1 : ¬ w.heap.size = b1 := by omega
          have f2 : ¬ w.heap.size = b2 := by omega
          have f3 : ¬ w.heap.size = b3 := by omega
          clear HK
          go_wp2
          go_region_held3 (fun w' => w'.cell? ⟨b1, o1 + i, none⟩ = some (.int .u8 (va : Int)) ∧ w'.cell? ⟨b2, o2 + i, none⟩ = some (.int .u8 (vb : Int)) ∧ w'.cell? ⟨b3, o3 + i, none⟩ = some (.int .u8 (vc : Int))) (go_keep) (fail)
          go_wp2
          go_roundw
          case rel => exact ⟨i + 1, by omega, by go_num, HN⟩
          case measure => simp [intOf]; omega
        · have hin : i = n := by omega
          subst hin
          have hend : Own wr w.heap.size X ∧ Below w.heap.size w wr := xored_end (by rw [hXl]; exact HK.out)
          have HO := Lib.hid hend.1.at
          have HBr := Lib.hid hend.2
          have HT0 := Lib.hid (HT.out.on hend.2)
          have e1 : At w (some ⟨b1, o1, none⟩) A := .inr ⟨b1, o1, rfl, k1, H1.out⟩
          have e2 : At w (some ⟨b2, o2, none⟩) B := .inr ⟨b2, o2, rfl, k2, H2.out⟩
          have e3 : At w (some ⟨b3, o3, none⟩) C := .inr ⟨b3, o3, rfl, k3, H3.out⟩
          have HA1 := Lib.hid (e1.on hend.2)
          have HA2 := Lib.hid (e2.on hend.2)
          have HA3 := Lib.hid (e3.on hend.2)
          have HC : Hid (∀ w1 : World, Below wr.heap.size wr.drew w1 →
              (Calls Tryd.prog 10 #[.slice (some ⟨w.heap.size, 0, none⟩) i i] w1 fun e w' => e = .returned (.int .u32 (Crc.sum X : Nat)) ∧ w' = w1) ∧
              (Calls Tryd.prog 10 #[.slice (some ⟨b1, o1, none⟩) i cp] w1 fun e w' => e = .returned (.int .u32 (Crc.sum A : Nat)) ∧ w' = w1) ∧
              (Calls Tryd.prog 10 #[.slice (some ⟨b2, o2, none⟩) i cq] w1 fun e w' => e = .returned (.int .u32 (Crc.sum B : Nat)) ∧ w' = w1) ∧
              (Calls Tryd.prog 10 #[.slice (some ⟨b3, o3, none⟩) i cr] w1 fun e w' => e = .returned (.int .u32 (Crc.sum C : Nat)) ∧ w' = w1)) := by
            intro w1 hw1
            have hb1 : Below wr.heap.size wr w1 := (Below.refl _ wr).drew.trans hw1
            have s0 := sum_any (some ⟨w.heap.size, 0, none⟩) i X (by omega) w1 (HT0.out.on hb1) (HO.out.on hb1)
            have s1 := sum_any (some ⟨b1, o1, none⟩) cp A (by omega) w1 (HT0.out.on hb1) (HA1.out.on hb1)
            have s2 := sum_any (some ⟨b2, o2, none⟩) cq B (by omega) w1 (HT0.out.on hb1) (HA2.out.on hb1)
            have s3 := sum_any (some ⟨b3, o3, none⟩) cr C (by omega) w1 (HT0.out.on hb1) (HA3.out.on hb1)
            rw [hXl] at s0
            rw [hA] at s1
            rw [hB] at s2
            rw [hC] at s3
            exact ⟨s0, s1, s2, s3⟩
          have y1 : bits .xor .u32 ((Crc.sum A : Nat) : Int) ((Crc.sum B : Nat) : Int) = ((Crc.sum A ^^^ Crc.sum B : Nat) : Int) := xor32 _ _ (Crc.update_lt (by omega) A) (Crc.update_lt (by omega) B)
          have y2 : bits .xor .u32 ((Crc.sum A ^^^ Crc.sum B : Nat) : Int) ((Crc.sum C : Nat) : Int) = ((Crc.sum X : Nat) : Int) := by
            rw [HS.out]
            exact xor32 _ _ (Nat.xor_lt_two_pow (n := 32) (Crc.update_lt (by omega) A) (Crc.update_lt (by omega) B)) (Crc.update_lt (by omega) C)
          have g1 : (i : Int) ≤ (cp : Int) := by omega
          have g2 : (i : Int) ≤ (cq : Int) := by omega
          have g3 : (i : Int) ≤ (cr : Int) := by omega
          have g0 : (0 : Int) ≤ (i : Int) := by omega
          have hp1 : ¬ cp = 0 := by omega
          have hp2 : ¬ cq = 0 := by omega
          have hp3 : ¬ cr = 0 := by omega
          clear hend e1 e2 e3 HK HI HX HS HO HA1 HA2 HA3 HT H1 H2 H3 hXl hA hB hC hi hlt hmk
          generalize Crc.sum A ^^^ Crc.sum B = sab at y1 y2
          generalize Crc.sum A = sa at y1 HC
          generalize Crc.sum B = sb at y1 HC
          generalize Crc.sum C = sc at y2 HC
          generalize Crc.sum X = sx at y2 HC
          go_wp2
          go_region_held3 (fun _ => True) (trivial) (first
            | (go_at_call 9; refine (live_any _ (hv_heap HT0.out (by rfl))).mono ?_; rintro e w1 ⟨rfl, hb⟩; have HB1 := Lib.hid hb; clear hb)
            | (go_at_call_of 10 (Value.slice (some (Addr.mk w.heap.size 0 none)) i i); refine ((HC.out _ HB1.out).1).mono ?_; rintro e w' ⟨rfl, rfl⟩)
            | (go_at_call_of 10 (Value.slice (some (Addr.mk b1 o1 none)) i cp); refine ((HC.out _ HB1.out).2.1).mono ?_; rintro e w' ⟨rfl, rfl⟩)
            | (go_at_call_of 10 (Value.slice (some (Addr.mk b2 o2 none)) i cq); refine ((HC.out _ HB1.out).2.2.1).mono ?_; rintro e w' ⟨rfl, rfl⟩)
            | (go_at_call_of 10 (Value.slice (some (Addr.mk b3 o3 none)) i cr); refine ((HC.out _ HB1.out).2.2.2).mono ?_; rintro e w' ⟨rfl, rfl⟩))
          go_wp2
          go_ret
          exact ⟨rfl, HBr.out.drew.trans (HB1.out.mono HBr.out.size)⟩

theorem Cells.take {w : World} {b o : Nat} {l : List UInt8} (h : Cells w b o l) (n : Nat) : Cells w b o (l.take n) := fun j hj => by
  have hj' : j < l.length := by rw [List.length_take] at hj; omega
  rw [h j hj', List.getElem_take]

theorem At.some_of {w : World} {p : Option Addr} {l : List UInt8} (h : At w p l) (hp : 0 < l.length) : ∃ b o, p = some ⟨b, o, none⟩ ∧ b < w.heap.size ∧ Cells w b o l := by
  rcases h with rfl | h
  · simp at hp
  · exact h

theorem crcLinear_any (p q r : Option Addr) (cp cq cr : Nat) (a b c : List UInt8) (hl : a.length ≤ 140737488351232) (hcp : a.length ≤ cp) (hcq : b.length ≤ cq) (hcr : c.length ≤ cr) (w : World) (ht : Hv w) (ha : At w p a) (hb : At w q b) (hc : At w r c) :
    Calls Tryd.prog 7 #[.slice p a.length cp, .slice q b.length cq, .slice r c.length cr] w fun e w' => e = .returned (.bool true) ∧ Below w.heap.size w w' := by
  by_cases h0 : a.length = 0 ∨ b.length = 0 ∨ c.length = 0
  · exact linear_nought p q r cp cq cr a.length b.length c.length h0 w ht
  · obtain ⟨b1, o1, rfl, k1, h1⟩ := ha.some_of (by omega)
    obtain ⟨b2, o2, rfl, k2, h2⟩ := hb.some_of (by omega)
    obtain ⟨b3, o3, rfl, k3, h3⟩ := hc.some_of (by omega)
    exact linear_some b1 o1 b2 o2 b3 o3 cp cq cr a.length b.length c.length (min (min a.length b.length) c.length) rfl (by omega) (a.take (min (min a.length b.length) c.length)) (b.take (min (min a.length b.length) c.length)) (c.take (min (min a.length b.length) c.length))
      (by rw [List.length_take]; omega) (by rw [List.length_take]; omega) (by rw [List.length_take]; omega) (by omega) hcp hcq hcr w ht k1 k2 k3 (h1.take _) (h2.take _) (h3.take _)
end Go.Proofs.YthndpccdeagkdaaDoor
