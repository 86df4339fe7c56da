/- WScalR, WValAtR, WTyAtR, WColAtR: put together. -/
import Derived.Test.YtnlhpndjogjejaaGreatDoorB06
import Derived.Test.YtnlhpndjogjejaaGreatDoorB03
import Derived.Test.YtnlhpndjogjejaaGreatDoorB02
import Derived.Test.YtnlhpndjogjejaaGreatDoorB04

/- The document's scalar. -/
namespace Go.Proofs.YtnlhpndjogjejaaGreatDoor
open Go.RowKit

attribute [local go_sem] run_store_float

/-- what reading a value tells: the value in blocks of its own, and the place behind it; or the error alone -/
def ReadV (w : World) (a : Nat) (r : Except Nat (V × Nat)) (e : Ending) (w' : World) : Prop := match r with
  | .error er => e = .returned (.tuple #[.agg (cells5 0 0 0 ⟨#[]⟩ none 0 0), .int .i64 0, .int .i64 (er : Nat)]) ∧ Below w.heap.size w w'
  | .ok (v, k) => ∃ u, e = .returned (.tuple #[.agg u, .int .i64 ((a + k : Nat) : Int), .int .i64 0]) ∧ VOwn w' (fun k => w.heap.size ≤ k ∧ k < w'.heap.size) u v ∧ Below w.heap.size w w'

theorem bit_err {l : List UInt8} {e : Nat} (h : Sch.bit l = .error e) : e ≠ 0 := by
  cases l with
  | nil => rw [Sch.bit] at h; injection h with h; omega
  | cons c r =>
    rw [Sch.bit] at h
    split at h
    · injection h with h; omega
    · cases h
theorem num_err {l : List UInt8} {e : Nat} (h : Sch.num l = .error e) : e ≠ 0 := by
  intro hc
  rw [Sch.num] at h
  split at h
  · cases h
  · next h0 => injection h with h; rw [h] at h0; exact h0 hc
theorem float_err {l : List UInt8} {e : Nat} (h : Sch.float l = .error e) : e ≠ 0 := by
  rw [Sch.float] at h
  split at h
  · injection h with h; omega
  · split at h
    · cases h
    · injection h with h; omega
theorem text_err {m g : Nat} (hg : g ≠ 0) {l : List UInt8} {e : Nat} (h : Sch.text m g l = .error e) : e ≠ 0 := by
  rw [Sch.text] at h
  split at h
  · next e' he => injection h with h; rw [← h]; exact num_err he
  · split at h
    · injection h with h; omega
    · split at h
      · injection h with h; omega
      · cases h

theorem blk_first (w : World) (o o2 : Obj) : ((w.alloc o).alloc o2).heap[w.heap.size]? = some o := by rw [blk_old _ _ (by simp)]; exact blk_new w o
theorem bool_lit (b : Bool) : b = true ∨ b = false := by cases b <;> simp

set_option maxRecDepth 100000 in
set_option maxHeartbeats 1000000 in
theorem refScal_1 (p : Option Addr) (l : List UInt8) (c a : Nat) (hl : l.length ≤ 140737488351232) (ha : a ≤ l.length) (w : World) (h : At w p l) : Calls Tryz.prog 63 #[.int .i64 1, .slice p l.length c, .int .i64 a] w (ReadV w a (Sch.scalar 1 (l.drop a))) := by
  have HG := Lib.hid (fun w' (hb : Below w.heap.size w w') => refBit7 p l c a hl ha w' (h.on hb))
  have HB : Hid (∀ o o2, Below w.heap.size w ((w.alloc o).alloc o2)) := fun o o2 => ((Below.refl _ _).alloc (Nat.le_refl _) _).alloc (by simp) _
  cases hn : Sch.bit (l.drop a) with
  | error er =>
    have HR : Hid (Sch.scalar 1 (l.drop a) = .error er) := by show _ = _; rw [Sch.scalar, if_pos rfl, hn]
    rw [hn] at HG
    have g0 : ((er : Int) != 0) = true := by have := bit_err hn; rw [bne_iff_ne]; omega
    clear h hn
    simp only [bitV] at HG
    rw [HR.out]
    go_enter Tryz.func63, Tryz.ntmps63
    go_wp2_with fail
    refine (HG.out _ (HB.out _ _)).mono ?_
    rintro e w1 ⟨rfl, hw⟩
    rw [hw]
    clear hw w1
    go_wp2
    refine bodyPost_ret (results_row3 rfl _ _ w.heap.size _ _ _ _ rfl (blk_first w _ _) Tryz.underlying65 rfl (by kernel_rfl)) rfl ?_
    exact ⟨rfl, HB.out _ _⟩
  | ok nk =>
    obtain ⟨n, k⟩ := nk
    have HR : Hid (Sch.scalar 1 (l.drop a) = .ok (.mk 1 n 0 ⟨#[]⟩ [], k)) := by show _ = _; rw [Sch.scalar, if_pos rfl, hn]
    rw [hn] at HG
    simp only [bitV] at HG
    rw [HR.out]
    clear h hn
    go_enter Tryz.func63, Tryz.ntmps63
    go_wp2_with fail
    refine (HG.out _ (HB.out _ _)).mono ?_
    rintro e w1 ⟨rfl, hw⟩
    rw [hw]
    clear hw w1
    go_wp2
    refine bodyPost_ret (results_row3 rfl _ _ w.heap.size _ _ _ _ rfl (blk_first w _ _) Tryz.underlying65 rfl (by kernel_rfl)) rfl ?_
    exact ⟨_, by rw [show ((a + k : Nat) : Int) = (a : Int) + (k : Int) by omega]; rfl, .none, HB.out _ _⟩

set_option maxRecDepth 100000 in
set_option maxHeartbeats 1000000 in
theorem refScal_2 (p : Option Addr) (l : List UInt8) (c a : Nat) (hl : l.length ≤ 140737488351232) (_ : a ≤ l.length) (w : World) (h : At w p l) : Calls Tryz.prog 63 #[.int .i64 2, .slice p l.length c, .int .i64 a] w (ReadV w a (Sch.scalar 2 (l.drop a))) := by
  have HG := Lib.hid (fun w' (hb : Below w.heap.size w w') => refNum7 p c l a hl w' (h.on hb))
  have HB : Hid (∀ o o2, Below w.heap.size w ((w.alloc o).alloc o2)) := fun o o2 => ((Below.refl _ _).alloc (Nat.le_refl _) _).alloc (by simp) _
  cases hn : Sch.num (l.drop a) with
  | error er =>
    have HR : Hid (Sch.scalar 2 (l.drop a) = .error er) := by show _ = _; rw [Sch.scalar, if_neg (by decide), if_pos rfl, hn]
    rw [hn] at HG
    have g0 : ((er : Int) != 0) = true := by have := num_err hn; rw [bne_iff_ne]; omega
    clear h hn
    simp only [numV] at HG
    rw [HR.out]
    go_enter Tryz.func63, Tryz.ntmps63
    go_wp2_with fail
    refine (HG.out _ (HB.out _ _)).mono ?_
    rintro e w1 ⟨rfl, hw⟩
    rw [hw]
    clear hw w1
    go_wp2_with fail
    refine (refZag_any 0 (by decide) _).mono ?_
    rintro e w1 ⟨rfl, hw⟩
    rw [hw]
    clear hw w1
    go_wp2
    refine bodyPost_ret (results_row3 rfl _ _ w.heap.size _ _ _ _ rfl (blk_first w _ _) Tryz.underlying65 rfl (by kernel_rfl)) rfl ?_
    exact ⟨rfl, HB.out _ _⟩
  | ok nk =>
    obtain ⟨n, k⟩ := nk
    have HR : Hid (Sch.scalar 2 (l.drop a) = .ok (.mk 2 (Leb.zag n) 0 ⟨#[]⟩ [], k)) := by show _ = _; rw [Sch.scalar, if_neg (by decide), if_pos rfl, hn]
    rw [hn] at HG
    simp only [numV] at HG
    have hn64 := (Sch.num_ok hn).1
    have HZ := Lib.hid (refZag_any n hn64)
    rw [HR.out]
    clear h hn
    go_enter Tryz.func63, Tryz.ntmps63
    go_wp2_with fail
    refine (HG.out _ (HB.out _ _)).mono ?_
    rintro e w1 ⟨rfl, hw⟩
    rw [hw]
    clear hw w1
    go_wp2_with fail
    refine (HZ.out _).mono ?_
    rintro e w1 ⟨rfl, hw⟩
    rw [hw]
    clear hw w1
    go_wp2
    refine bodyPost_ret (results_row3 rfl _ _ w.heap.size _ _ _ _ rfl (blk_first w _ _) Tryz.underlying65 rfl (by kernel_rfl)) rfl ?_
    exact ⟨_, by rw [show ((a + k : Nat) : Int) = (a : Int) + (k : Int) by omega]; rfl, .none, HB.out _ _⟩

set_option maxRecDepth 100000 in
set_option maxHeartbeats 1000000 in
theorem refScal_3 (p : Option Addr) (l : List UInt8) (c a : Nat) (hl : l.length ≤ 140737488351232) (ha : a ≤ l.length) (w : World) (h : At w p l) : Calls Tryz.prog 63 #[.int .i64 3, .slice p l.length c, .int .i64 a] w (ReadV w a (Sch.scalar 3 (l.drop a))) := by
  have HG := Lib.hid (fun w' (hb : Below w.heap.size w w') => refFloat7 p l c a hl ha w' (h.on hb))
  have HB : Hid (∀ o o2, Below w.heap.size w ((w.alloc o).alloc o2)) := fun o o2 => ((Below.refl _ _).alloc (Nat.le_refl _) _).alloc (by simp) _
  cases hn : Sch.float (l.drop a) with
  | error er =>
    have HR : Hid (Sch.scalar 3 (l.drop a) = .error er) := by show _ = _; rw [Sch.scalar, if_neg (by decide), if_neg (by decide), if_pos rfl, hn]
    rw [hn] at HG
    have g0 : ((er : Int) != 0) = true := by have := float_err hn; rw [bne_iff_ne]; omega
    clear h hn
    simp only [floatV] at HG
    rw [HR.out]
    go_enter Tryz.func63, Tryz.ntmps63
    go_wp2_with fail
    refine (HG.out _ (HB.out _ _)).mono ?_
    rintro e w1 ⟨rfl, hw⟩
    rw [hw]
    clear hw w1
    go_wp2
    refine bodyPost_ret (results_row3 rfl _ _ w.heap.size _ _ _ _ rfl (blk_first w _ _) Tryz.underlying65 rfl (by kernel_rfl)) rfl ?_
    exact ⟨rfl, HB.out _ _⟩
  | ok nk =>
    obtain ⟨n, k⟩ := nk
    have HR : Hid (Sch.scalar 3 (l.drop a) = .ok (.mk 3 0 n ⟨#[]⟩ [], k)) := by show _ = _; rw [Sch.scalar, if_neg (by decide), if_neg (by decide), if_pos rfl, hn]
    rw [hn] at HG
    simp only [floatV] at HG
    rw [HR.out]
    clear h hn
    go_enter Tryz.func63, Tryz.ntmps63
    go_wp2_with fail
    refine (HG.out _ (HB.out _ _)).mono ?_
    rintro e w1 ⟨rfl, hw⟩
    rw [hw]
    clear hw w1
    go_wp2
    refine bodyPost_ret (results_row3 rfl _ _ w.heap.size _ _ _ _ rfl (blk_first w _ _) Tryz.underlying65 rfl (by kernel_rfl)) rfl ?_
    exact ⟨_, by rw [show ((a + k : Nat) : Int) = (a : Int) + (k : Int) by omega]; rfl, .none, HB.out _ _⟩

set_option maxRecDepth 100000 in
set_option maxHeartbeats 1000000 in
theorem refScal_45 (kd : Int) (hk : kd = 4 ∨ kd = 5) (p : Option Addr) (l : List UInt8) (c a : Nat) (hl : l.length ≤ 140737488351232) (hlc : l.length ≤ c) (ha : a ≤ l.length) (w : World) (h : At w p l) : Calls Tryz.prog 63 #[.int .i64 kd, .slice p l.length c, .int .i64 a] w (ReadV w a (Sch.scalar kd (l.drop a))) := by
  have HG := Lib.hid (fun w' (hb : Below w.heap.size w w') => refText7 p l c a 1024 2 hl hlc ha (by omega) w' (h.on hb))
  have HB : Hid (∀ o o2, Below w.heap.size w ((w.alloc o).alloc o2)) := fun o o2 => ((Below.refl _ _).alloc (Nat.le_refl _) _).alloc (by simp) _
  have hsc : Sch.scalar kd (l.drop a) = match Sch.text 1024 2 (l.drop a) with
      | .error e => .error e
      | .ok (t, j) => if kd = 4 ∧ utfT t = false then .error 61 else .ok (.mk kd 0 0 t [], j) := by
    rw [Sch.scalar, if_neg (by omega), if_neg (by omega), if_neg (by omega)]
    rfl
  cases hn : Sch.text 1024 2 (l.drop a) with
  | error er =>
    have HR : Hid (Sch.scalar kd (l.drop a) = .error er) := by show _ = _; rw [hsc, hn]
    rw [hn] at HG
    have g0 : ((er : Int) != 0) = true := by have := text_err (by decide) hn; rw [bne_iff_ne]; omega
    have HU := Lib.hid (refUtf6 ⟨#[]⟩ (Nat.zero_le _))
    have eu : U8.utf (⟨#[]⟩ : ByteArray).data.toList = true := rfl
    rw [eu] at HU
    clear h hn hsc eu
    simp only [textV] at HG
    rw [HR.out]
    rcases hk with rfl | rfl
    all_goals
      go_enter Tryz.func63, Tryz.ntmps63
      go_wp2_with fail
      refine (HG.out _ (HB.out _ _)).mono ?_
      rintro e w1 ⟨rfl, hw⟩
      rw [hw]
      clear hw w1
      go_wp2_with fail
      refine (HU.out _).mono ?_
      rintro e w1 ⟨rfl, hw⟩
      rw [hw]
      clear hw w1
      go_wp2
      refine bodyPost_ret (results_row3 rfl _ _ w.heap.size _ _ _ _ rfl (blk_first w _ _) Tryz.underlying65 rfl (by kernel_rfl)) rfl ?_
      exact ⟨rfl, HB.out _ _⟩
  | ok tk =>
    obtain ⟨t, k⟩ := tk
    have hsc2 : Sch.scalar kd (l.drop a) = if kd = 4 ∧ utfT t = false then .error 61 else .ok (.mk kd 0 0 t [], k) := by rw [hsc, hn]
    have ht := (Sch.text_ok hn).1
    rw [hn] at HG
    simp only [textV] at HG
    have HU := Lib.hid (refUtf6 t (by omega))
    obtain ⟨ru, hru⟩ : ∃ ru, ru = utfT t := ⟨_, rfl⟩
    have e1 : U8.utf t.data.toList = ru := hru.symm
    rw [e1] at HU
    rw [← hru] at hsc2
    have HR := Lib.hid hsc2
    rw [HR.out]
    clear h hn hsc hsc2 e1 hru ht
    rcases hk with rfl | rfl
    · cases ru with
      | false =>
        rw [if_pos ⟨rfl, rfl⟩]
        go_enter Tryz.func63, Tryz.ntmps63
        go_wp2_with fail
        refine (HG.out _ (HB.out _ _)).mono ?_
        rintro e w1 ⟨rfl, hw⟩
        rw [hw]
        clear hw w1
        go_wp2_with fail
        refine (HU.out _).mono ?_
        rintro e w1 ⟨rfl, hw⟩
        rw [hw]
        clear hw w1
        go_wp2
        refine bodyPost_ret (results_row3 rfl _ _ w.heap.size _ _ _ _ rfl (blk_first w _ _) Tryz.underlying65 rfl (by kernel_rfl)) rfl ?_
        exact ⟨rfl, HB.out _ _⟩
      | true =>
        rw [if_neg (by decide)]
        go_enter Tryz.func63, Tryz.ntmps63
        go_wp2_with fail
        refine (HG.out _ (HB.out _ _)).mono ?_
        rintro e w1 ⟨rfl, hw⟩
        rw [hw]
        clear hw w1
        go_wp2_with fail
        refine (HU.out _).mono ?_
        rintro e w1 ⟨rfl, hw⟩
        rw [hw]
        clear hw w1
        go_wp2
        refine bodyPost_ret (results_row3 rfl _ _ w.heap.size _ _ _ _ rfl (blk_first w _ _) Tryz.underlying65 rfl (by kernel_rfl)) rfl ?_
        exact ⟨_, by rw [show ((a + k : Nat) : Int) = (a : Int) + (k : Int) by omega]; rfl, .none, HB.out _ _⟩
    · rw [if_neg (fun hc => absurd hc.1 (by decide))]
      go_enter Tryz.func63, Tryz.ntmps63
      go_wp2_with fail
      refine (HG.out _ (HB.out _ _)).mono ?_
      rintro e w1 ⟨rfl, hw⟩
      rw [hw]
      clear hw w1
      go_wp2_with fail
      refine (HU.out _).mono ?_
      rintro e w1 ⟨rfl, hw⟩
      rw [hw]
      clear hw w1
      go_wp2
      refine bodyPost_ret (results_row3 rfl _ _ w.heap.size _ _ _ _ rfl (blk_first w _ _) Tryz.underlying65 rfl (by kernel_rfl)) rfl ?_
      exact ⟨_, by rw [show ((a + k : Nat) : Int) = (a : Int) + (k : Int) by omega]; rfl, .none, HB.out _ _⟩

theorem refScalar7 (kd : Int) (hk : 1 ≤ kd ∧ kd ≤ 5) (p : Option Addr) (l : List UInt8) (c a : Nat) (hl : l.length ≤ 140737488351232) (hlc : l.length ≤ c) (ha : a ≤ l.length) (w : World) (h : At w p l) : Calls Tryz.prog 63 #[.int .i64 kd, .slice p l.length c, .int .i64 a] w (ReadV w a (Sch.scalar kd (l.drop a))) := by
  rcases (show kd = 1 ∨ kd = 2 ∨ kd = 3 ∨ (kd = 4 ∨ kd = 5) by omega) with rfl | rfl | rfl | hk45
  · exact refScal_1 p l c a hl ha w h
  · exact refScal_2 p l c a hl ha w h
  · exact refScal_3 p l c a hl ha w h
  · exact refScal_45 kd hk45 p l c a hl hlc ha w h
end Go.Proofs.YtnlhpndjogjejaaGreatDoor

/- The document's ValueAt. -/
namespace Go.Proofs.YtnlhpndjogjejaaGreatDoor
open Go.RowKit

attribute [local go_sem] run_store_float

theorem many_err {k : Int} {l : List UInt8} {e : Nat} (h : Sch.many k l = .error e) : e ≠ 0 := by
  rw [Sch.many] at h
  split at h
  · exact bit_err h
  · split at h
    · next e' he => injection h with h; rw [← h]; exact num_err he
    · split at h
      · injection h with h; omega
      · cases h
theorem scalar_err {k : Int} {l : List UInt8} {e : Nat} (h : Sch.scalar k l = .error e) : e ≠ 0 := by
  rw [Sch.scalar] at h
  split at h
  · split at h
    · next e' he => injection h with h; rw [← h]; exact bit_err he
    · cases h
  split at h
  · split at h
    · next e' he => injection h with h; rw [← h]; exact num_err he
    · cases h
  split at h
  · split at h
    · next e' he => injection h with h; rw [← h]; exact float_err he
    · cases h
  split at h
  · next e' he => injection h with h; rw [← h]; exact text_err (by decide) he
  · split at h
    · injection h with h; omega
    · cases h
theorem rdN_err {f : List UInt8 → Except Nat (V × Nat)} (hf : ∀ l e, f l = .error e → e ≠ 0) : ∀ (m : Nat) (l : List UInt8) (e : Nat), Sch.rdN f m l = .error e → e ≠ 0
  | 0, l, e, h => by rw [Sch.rdN] at h; cases h
  | m + 1, l, e, h => by
    rw [Sch.rdN] at h
    split at h
    · next e' he => injection h with h; rw [← h]; exact hf l e' he
    · next v j hv =>
      split at h
      · next e' he => injection h with h; rw [← h]; exact rdN_err hf m _ _ he
      · cases h
theorem rdV_err : ∀ (t : Ty) (d : Nat) (l : List UInt8) (e : Nat), Ty.check d t = 0 → Sch.rdV t l = .error e → e ≠ 0 := by
  intro t
  refine Ty.ind (P := fun t => ∀ (d : Nat) (l : List UInt8) (e : Nat), Ty.check d t = 0 → Sch.rdV t l = .error e → e ≠ 0) ?_ t
  intro k xs ih d l e ht h
  obtain ⟨hd, hk, htt⟩ := Sch.ty_open ht
  rw [Sch.rdV_mk] at h
  rcases htt with ⟨h67, rfl⟩ | ⟨h67, x, rfl, hx⟩
  · rw [if_pos (by omega)] at h
    exact scalar_err h
  · rw [if_neg (by omega)] at h
    split at h
    · next e' he => injection h with h; rw [← h]; exact many_err he
    · split at h
      · next e' he =>
        injection h with h
        rw [← h]
        exact rdN_err (fun l e he => ih x (by simp) (d + 1) l e hx he) _ _ _ he
      · cases h

/-- what was read goes ahead of what is read behind it -/
def glue (ys : List V) (n : Nat) : Except Nat (List V × Nat) → Except Nat (List V × Nat)
  | .error e => .error e
  | .ok (vs, k) => .ok (ys ++ vs, n + k)
theorem glue_glue (ys : List V) (n : Nat) (v : V) (j : Nat) (r : Except Nat (List V × Nat)) : glue ys n (glue [v] j r) = glue (ys ++ [v]) (n + j) r := by
  cases r with
  | error e => rfl
  | ok p => simp [glue, Nat.add_assoc]
/-- one item is read, then m more -/
def stepR (f : List UInt8 → Except Nat (V × Nat)) (m : Nat) (l : List UInt8) : Except Nat (V × Nat) → Except Nat (List V × Nat)
  | .error e => .error e
  | .ok (v, j) => glue [v] j (Sch.rdN f m (l.drop j))
theorem rdN_succ (f : List UInt8 → Except Nat (V × Nat)) (m : Nat) (l : List UInt8) : Sch.rdN f (m + 1) l = stepR f m l (f l) := by
  rw [Sch.rdN]
  cases f l with
  | error e => rfl
  | ok p =>
    obtain ⟨v, j⟩ := p
    rw [stepR]
    dsimp only
    cases Sch.rdN f m (l.drop j) with
    | error e => rfl
    | ok q => rfl

theorem blk_second (w : World) (o o2 : Obj) : ((w.alloc o).alloc o2).heap[w.heap.size + 1]? = some o2 := by
  have := blk_new (w.alloc o) o2
  simpa using this
/-- the answer's place is written: the value is there -/
theorem put5_fin {w W1 w1 : World} {k i : Int} {b : Nat} {t : ByteArray} {q : Option Addr} {n c : Nat} {v : V} {F : Nat → Prop} (h1 : w1.heap[w.heap.size + 1]? = some (.cells (cells5 0 0 0 ⟨#[]⟩ none 0 0) 65 (0, 0))) (hW : Below w.heap.size w W1) (hs : w.heap.size + 2 ≤ W1.heap.size) (hb : Below w.heap.size W1 w1) (hsz : W1.heap.size ≤ w1.heap.size) (hv : VOwn w1 F (cells5 k i b t q n c) v) (hF : ∀ j, F j → w.heap.size + 2 ≤ j ∧ j < w1.heap.size) :
    (put5 w1 (w.heap.size + 1) k i b t (.slice q n c)).heap[w.heap.size + 1]? = some (.cells (cells5 k i b t q n c) 65 (0, 0)) ∧ VOwn (put5 w1 (w.heap.size + 1) k i b t (.slice q n c)) (fun j => w.heap.size ≤ j ∧ j < (put5 w1 (w.heap.size + 1) k i b t (.slice q n c)).heap.size) (cells5 k i b t q n c) v ∧ Below w.heap.size w (put5 w1 (w.heap.size + 1) k i b t (.slice q n c)) := by
  have hA : Aside (fun k => k = w.heap.size + 1) w1 (put5 w1 (w.heap.size + 1) k i b t (.slice q n c)) := by
    unfold put5
    exact (((((Aside.refl (fun k => k = w.heap.size + 1) w1).setCell (p := ⟨w.heap.size + 1, 0, none⟩) (.inl rfl) _).setCell (p := ⟨w.heap.size + 1, 1, none⟩) (.inl rfl) _).setCell (p := ⟨w.heap.size + 1, 2, none⟩) (.inl rfl) _).setCell (p := ⟨w.heap.size + 1, 3, none⟩) (.inl rfl) _).setCell (p := ⟨w.heap.size + 1, 4, none⟩) (.inl rfl) _
  refine ⟨?_, ?_, ?_⟩
  · unfold put5
    rw [blk_set (blk_set (blk_set (blk_set (blk_set h1 0 _) 1 _) 2 _) 3 _) 4 _]
    rfl
  · exact (hv.aside hA (fun k hk hc => by have := hF k hk; omega)).mono (fun j hj => ⟨by have := hF j hj; omega, by have := hF j hj; have := hA.size; omega⟩)
  · exact (hW.trans hb).trans (hA.below (by omega) (fun k hk hc => by omega))

/-- while the items are read: the type stands in the first block, the answer's place in the next, the value in the third; the items ys are there -/
structure MakingV (w : World) (C0 : Array Value) (k : Int) (ys : List V) (v : Value) (wr : World) : Prop where
  built : ∃ us Fs, Built wr (w.heap.size + 3) v ys.length us Fs ys
  b0 : wr.heap[w.heap.size]? = some (.cells C0 61 (0, 0))
  b1 : wr.heap[w.heap.size + 1]? = some (.cells (cells5 0 0 0 ⟨#[]⟩ none 0 0) 65 (0, 0))
  b2 : wr.heap[w.heap.size + 2]? = some (.cells #[.int .i64 k, .int .i64 0, .float .f64 0, .string ⟨#[]⟩, v] 65 (0, 0))
  below : Below w.heap.size w wr
  size : w.heap.size + 3 ≤ wr.heap.size

section
variable {w wr : World} {C0 : Array Value} {k : Int} {ys : List V} {v : Value}
theorem makingV_start (w : World) (C0 : Array Value) (k : Int) :
    MakingV w C0 k [] (.slice none 0 0) (((w.alloc (.cells C0 61)).alloc (.cells (cells5 0 0 0 ⟨#[]⟩ none 0 0) 65)).alloc (.cells #[.int .i64 k, .int .i64 0, .float .f64 0, .string ⟨#[]⟩, .slice none 0 0] 65)) := by
  refine ⟨⟨_, _, built_nil _ _⟩, ?_, ?_, ?_, ((((Below.refl _ w).alloc (Nat.le_refl _) _).alloc (by simp) _).alloc (by simp; omega) _), by simp⟩
  · rw [blk_old _ _ (by simp; omega), blk_old _ _ (by simp)]; exact blk_new w _
  · rw [blk_old _ _ (by simp)]
    have := blk_new (w.alloc (.cells C0 61)) (.cells (cells5 0 0 0 ⟨#[]⟩ none 0 0) 65)
    simpa using this
  · have := blk_new ((w.alloc (.cells C0 61)).alloc (.cells (cells5 0 0 0 ⟨#[]⟩ none 0 0) 65)) (.cells #[.int .i64 k, .int .i64 0, .float .f64 0, .string ⟨#[]⟩, .slice none 0 0] 65)
    simpa using this
theorem MakingV.slice (h : MakingV w C0 k ys v wr) : ∃ p c, v = .slice p ys.length c := by
  obtain ⟨us, Fs, hb⟩ := h.built
  rcases hb.row.2 with ⟨h1, h2⟩ | ⟨g, cap, cur, h1, _⟩
  · exact ⟨none, 0, by rw [h1, h2]⟩
  · exact ⟨_, cap, h1⟩
theorem MakingV.next {w2 w3 w4 : World} {u : Array Value} {F : Nat → Prop} {g cap : Nat} {us : Nat → Array Value} {Fs : Nat → Nat → Prop} {y : V} (h : MakingV w C0 k ys v wr) (hbt : Built wr (w.heap.size + 3) v ys.length us Fs ys) (hb : Below wr.heap.size wr w2) (hx : VOwn w2 F u y)
    (hF : ∀ k, F k → wr.heap.size ≤ k ∧ k < w2.heap.size) (hb3 : Below w2.heap.size w2 w3)
    (hr : w4.ownsRow (w.heap.size + 3) 65 5 (.slice (some ⟨g, 0, none⟩) (ys.length + 1) cap) (ys.length + 1) (flat us ys.length ++ u.toList)) (hg : w3.grownBy w4 v.ownBlock) (hn : v.ownBlock = some g ∨ g = w3.heap.size) :
    (∀ n, n < 3 → w4.heap[w.heap.size + n]? = wr.heap[w.heap.size + n]?) ∧ MakingV w C0 k (ys ++ [y]) (.slice (some ⟨g, 0, none⟩) (ys.length + 1) cap) (w4.setCell ⟨w.heap.size + 2, 4, none⟩ (.slice (some ⟨g, 0, none⟩) (ys.length + 1) cap)) := by
  have hs := h.size
  have hs2 := hb.size
  have hs3 := hb3.size
  have hst := hbt.step hb hx hF hb3 hs hr hg hn
  have hold : ∀ n, n < 3 → w4.heap[w.heap.size + n]? = wr.heap[w.heap.size + n]? := fun n hn => by
    rw [hg.block _ (by omega) (fun hc => by have := (hbt.lt _ hc.symm).1; omega), hb3.block _ (by omega), hb.block _ (by omega)]
  have hb4 : Below w.heap.size w w4 := ((h.below.trans (hb.mono (by omega))).trans (hb3.mono (by omega))).grown hg (by omega) (fun k hk => by have := (hbt.lt k hk).1; omega)
  refine ⟨hold, ⟨⟨(fun n => if n = ys.length then u else us n), (fun n => if n = ys.length then F else Fs n), ?_⟩, ?_, ?_, ?_, ?_, ?_⟩⟩
  · rw [List.length_append, List.length_singleton]
    exact hst.set ⟨w.heap.size + 2, 4, none⟩ _ (by show w.heap.size + 2 < _; omega)
  · have := hold 0 (by omega)
    rw [Nat.add_zero] at this
    exact blk_set_far (this.trans h.b0) _ _ (by show w.heap.size ≠ w.heap.size + 2; omega)
  · exact blk_set_far ((hold 1 (by omega)).trans h.b1) _ _ (by show w.heap.size + 1 ≠ w.heap.size + 2; omega)
  · rw [blk_set ((hold 2 (by omega)).trans h.b2)]
    rfl
  · exact hb4.setCell (by show w.heap.size ≤ w.heap.size + 2; omega) _
  · have := hg.size
    simp [World.setCell]
    omega
end

set_option maxRecDepth 100000 in
set_option maxHeartbeats 1000000 in
theorem refValueAt7 (p : Option Addr) (l : List UInt8) (c : Nat) (hl : l.length ≤ 140737488351232) (hlc : l.length ≤ c) : ∀ (x : Ty) (d : Nat) (a : Nat) (w : World) (u : Array Value), Ty.check d x = 0 → TLies w u x → a ≤ l.length → At w p l → Calls Tryz.prog 54 #[.agg u, .slice p l.length c, .int .i64 a] w (ReadV w a (Sch.rdV x (l.drop a))) := by
  intro x
  refine Ty.ind (P := fun x => ∀ (d : Nat) (a : Nat) (w : World) (u : Array Value), Ty.check d x = 0 → TLies w u x → a ≤ l.length → At w p l → Calls Tryz.prog 54 #[.agg u, .slice p l.length c, .int .i64 a] w (ReadV w a (Sch.rdV x (l.drop a)))) ?_ x
  intro k xs ih d a w u hd hx ha hat
  obtain ⟨q, cq, rfl, hxl, hxc, hxi⟩ := hx.open
  unfold cells2
  obtain ⟨hd4, hk, htt⟩ := Sch.ty_open hd
  rcases htt with ⟨h67, rfl⟩ | ⟨h67, x, rfl, hxc2⟩
  · have e6 : (k != 6) = true := bne_t (by omega)
    have e7 : (k != 7) = true := bne_t (by omega)
    have HE : Hid (Sch.rdV (.mk k []) (l.drop a) = Sch.scalar k (l.drop a)) := by show _ = _; rw [Sch.rdV_mk, if_pos (by omega)]
    have HS := Lib.hid (fun w' (hb : Below w.heap.size w w') => refScalar7 k (by omega) p l c a hl hlc ha w' (hat.on hb))
    rw [HE.out]
    clear ih hxi hat hd hx
    go_enter Tryz.func54, Tryz.ntmps54
    have HB2 : Hid (∀ o o2, Below w.heap.size w ((w.alloc o).alloc o2)) := fun o o2 => ((Below.refl _ _).alloc (Nat.le_refl _) _).alloc (by simp) _
    go_wp2_with fail
    obtain ⟨W1, hW1⟩ : ∃ W1, W1 = (w.alloc (.cells #[.int .i64 k, .slice q 0 cq] 61)).alloc (.cells #[.int .i64 0, .int .i64 0, .float .f64 0, .string ⟨#[]⟩, .slice none 0 0] 65) := ⟨_, rfl⟩
    rw [← hW1]
    have HBW : Hid (Below w.heap.size w W1) := by rw [hW1]; exact HB2.out _ _
    have hs1 : W1.heap.size = w.heap.size + 2 := by rw [hW1]; simp
    have HR0 : Hid (W1.heap[w.heap.size + 1]? = some (.cells (cells5 0 0 0 ⟨#[]⟩ none 0 0) 65 (0, 0))) := by
      show _ = _
      rw [hW1]
      have := blk_new (w.alloc (.cells #[.int .i64 k, .slice q 0 cq] 61)) (.cells #[.int .i64 0, .int .i64 0, .float .f64 0, .string ⟨#[]⟩, .slice none 0 0] 65)
      simpa [cells5] using this
    clear hW1
    refine (HS.out W1 HBW.out).mono ?_
    intro e w1 hr
    cases hsc : Sch.scalar k (l.drop a) with
    | error er =>
      rw [hsc] at hr
      obtain ⟨rfl, hb1⟩ := hr
      have hb1' : w1.heap[w.heap.size + 1]? = some (.cells (cells5 0 0 0 ⟨#[]⟩ none 0 0) 65 (0, 0)) := (hb1.block _ (by omega)).trans HR0.out
      have hfin := put5_fin (q := none) (n := 0) (c := 0) (F := fun _ => False) (v := .mk 0 0 0 ⟨#[]⟩ []) hb1' HBW.out (by omega) (hb1.mono (by omega)) hb1.size VOwn.none (fun _ h => h.elim)
      have HF := Lib.hid hfin
      have r0 : w1.cell? ⟨w.heap.size + 1, 0, none⟩ = some (.int .i64 0) := blk_cell hb1' 0
      have r1 : w1.cell? ⟨w.heap.size + 1, 1, none⟩ = some (.int .i64 0) := blk_cell hb1' 1
      have r2 : w1.cell? ⟨w.heap.size + 1, 2, none⟩ = some (.float .f64 0) := blk_cell hb1' 2
      have r3 : w1.cell? ⟨w.heap.size + 1, 3, none⟩ = some (.string ⟨#[]⟩) := blk_cell hb1' 3
      have r4 : w1.cell? ⟨w.heap.size + 1, 4, none⟩ = some (.slice none 0 0) := blk_cell hb1' 4
      have s0 := blk_free hb1' 0
      have s1 := blk_free hb1' 1
      have s2 := blk_free hb1' 2
      have s3 := blk_free hb1' 3
      have s4 := blk_free hb1' 4
      have HSc := Lib.hid hsc
      clear hb1 hb1' hfin hsc
      unfold cells5
      go_wp2
      refine bodyPost_ret (results_row3 rfl _ _ (w.heap.size + 1) _ _ _ _ rfl HF.out.1 Tryz.underlying65 rfl (by kernel_rfl)) rfl ?_
      rw [HSc.out]
      exact ⟨rfl, HF.out.2.2⟩
    | ok vk =>
      obtain ⟨y, kk⟩ := vk
      rw [hsc] at hr
      obtain ⟨u, rfl, hv, hb1⟩ := hr
      obtain ⟨k', i', b', t', p', n', c', rfl⟩ := hv.shape
      have hb1' : w1.heap[w.heap.size + 1]? = some (.cells (cells5 0 0 0 ⟨#[]⟩ none 0 0) 65 (0, 0)) := (hb1.block _ (by omega)).trans HR0.out
      have hfin := put5_fin hb1' HBW.out (by omega) (hb1.mono (by omega)) hb1.size hv (fun j hj => by rw [hs1] at hj; exact hj)
      have HF := Lib.hid hfin
      have r0 : w1.cell? ⟨w.heap.size + 1, 0, none⟩ = some (.int .i64 0) := blk_cell hb1' 0
      have r1 : w1.cell? ⟨w.heap.size + 1, 1, none⟩ = some (.int .i64 0) := blk_cell hb1' 1
      have r2 : w1.cell? ⟨w.heap.size + 1, 2, none⟩ = some (.float .f64 0) := blk_cell hb1' 2
      have r3 : w1.cell? ⟨w.heap.size + 1, 3, none⟩ = some (.string ⟨#[]⟩) := blk_cell hb1' 3
      have r4 : w1.cell? ⟨w.heap.size + 1, 4, none⟩ = some (.slice none 0 0) := blk_cell hb1' 4
      have s0 := blk_free hb1' 0
      have s1 := blk_free hb1' 1
      have s2 := blk_free hb1' 2
      have s3 := blk_free hb1' 3
      have s4 := blk_free hb1' 4
      have HSc := Lib.hid hsc
      clear hb1 hb1' hfin hsc hv
      unfold cells5
      go_wp2
      refine bodyPost_ret (results_row3 rfl _ _ (w.heap.size + 1) _ _ _ _ rfl HF.out.1 Tryz.underlying65 rfl (by kernel_rfl)) rfl ?_
      rw [HSc.out]
      exact ⟨_, by rw [show ((a + kk : Nat) : Int) = (a : Int) + (kk : Int) by omega]; rfl, HF.out.2.1, HF.out.2.2⟩
  · have HMn : Hid (Sch.rdV (.mk k [x]) (l.drop a) = match Sch.many k (l.drop a) with
        | .error e => .error e
        | .ok (m, j) => match Sch.rdN (Sch.rdV x) m ((l.drop a).drop j) with
          | .error e => .error e
          | .ok (vs, j2) => .ok (.mk k 0 0 ⟨#[]⟩ vs, j + j2)) := by show _ = _; rw [Sch.rdV_mk, if_neg (by omega)]; rfl
    obtain ⟨ux, hvx, hix⟩ := hxi 0 (by simp)
    have HX : Hid (TLies w ux x ∧ ItemT w q 0 ux) := ⟨hvx, hix⟩
    have HIH := Lib.hid (fun a w u h1 h2 h3 => ih x (by simp) (d + 1) a w u hxc2 h1 h2 h3)
    have HAt := Lib.hid hat
    have HTl : Hid (∀ l' e, Sch.rdV x l' = .error e → e ≠ 0) := fun l' e => rdV_err x (d + 1) l' e hxc2
    have HVl : Hid (∀ l' v j, Sch.rdV x l' = .ok (v, j) → j ≤ l'.length) := fun l' v j hv => by
      obtain ⟨h1, ⟨r, h2⟩, -⟩ := Sch.rdV_ok x (d + 1) l' v j hxc2 hv
      rw [h2, List.length_append, h1]
      omega
    clear ih hxi hat hd hx hvx hix
    have HB2 : Hid (∀ o o2, Below w.heap.size w ((w.alloc o).alloc o2)) := fun o o2 => ((Below.refl _ _).alloc (Nat.le_refl _) _).alloc (by simp) _
    rcases h67 with rfl | rfl
    · have HBit := Lib.hid (fun w' (hb : Below w.heap.size w w') => refBit7 p l c a hl ha w' (HAt.out.on hb))
      go_enter Tryz.func54, Tryz.ntmps54
      go_wp2_with fail
      refine (HBit.out _ (HB2.out _ _)).mono ?_
      rintro e w1 ⟨rfl, hw⟩
      rw [hw]
      clear hw w1
      cases hm : Sch.bit (l.drop a) with
      | error er =>
        simp only [bitV]
        have g0 : ((er : Int) != 0) = true := by have := bit_err hm; rw [bne_iff_ne]; omega
        have HE : Hid (Sch.rdV (.mk 6 [x]) (l.drop a) = .error er) := by show _ = _; rw [HMn.out, Sch.many, if_pos rfl, hm]
        clear HMn hm HBit
        go_wp2
        refine bodyPost_ret (results_row3 rfl _ _ (w.heap.size + 1) _ _ _ _ rfl (blk_second w _ _) Tryz.underlying65 rfl (by kernel_rfl)) rfl ?_
        rw [HE.out]
        exact ⟨rfl, HB2.out _ _⟩
      | ok nk =>
        obtain ⟨m, kk⟩ := nk
        simp only [bitV]
        have ekk : ((a + kk : Nat) : Int) = (a : Int) + (kk : Int) := by omega
        rw [ekk]
        clear ekk
        have hb := Sch.bit_ok hm
        have hm1 := hb.1
        have hmb : m ≤ 256 := by omega
        have hkl : a + kk ≤ l.length := by
          obtain ⟨-, h1, r, hr⟩ := hb
          have := congrArg List.length hr
          rw [List.length_drop, List.length_cons] at this
          omega
        have hMM : Sch.many 6 (l.drop a) = .ok (m, kk) := by rw [Sch.many, if_pos rfl, hm]
        have HMk : Sch.rdV (.mk 6 [x]) (l.drop a) = match Sch.rdN (Sch.rdV x) m (l.drop (a + kk)) with
            | .error e => .error e
            | .ok (vs, j2) => .ok (.mk 6 0 0 ⟨#[]⟩ vs, kk + j2) := by
          rw [HMn.out, hMM]
          show (match Sch.rdN (Sch.rdV x) m ((l.drop a).drop kk) with
            | .error e => .error e
            | .ok (vs, j2) => .ok (.mk 6 0 0 ⟨#[]⟩ vs, kk + j2) : Except Nat (V × Nat)) = _
          rw [List.drop_drop]
        clear HMn hm HBit hb hMM
        have HP := Lib.hid HMk
        clear HMk
        go_wp2_with fail
        go_loopw [10, 14] (fun v10 v14 wr => ∃ (ys : List V) (n : Nat) (qv : Option Addr) (dv : Nat), ys.length ≤ m ∧ v14 = .int .i64 ys.length ∧ v10 = .int .i64 ((a : Int) + (kk : Int) + (n : Int)) ∧ a + kk + n ≤ l.length ∧ Hid (MakingV w #[.int .i64 6, .slice q 1 cq] 6 ys (.slice qv ys.length dv) wr ∧ Sch.rdN (Sch.rdV x) m (l.drop (a + kk)) = glue ys n (Sch.rdN (Sch.rdV x) (m - ys.length) (l.drop (a + kk + n))))) (fun _ v14 _ => m - (intOf v14).toNat)
        case atStart =>
          refine ⟨[], 0, none, 0, by simp, rfl, by go_num, hkl, makingV_start w _ _, ?_⟩
          rw [List.length_nil, Nat.sub_zero, Nat.add_zero]
          cases Sch.rdN (Sch.rdV x) m (l.drop (a + kk)) with
          | error e => rfl
          | ok q => simp [glue]
        case round =>
          obtain ⟨ys, n, qv, dv, hys, rfl, rfl, hnl, HK⟩ := hrel
          have HM := Lib.hid HK.out.1
          have HG2 := Lib.hid HK.out.2
          by_cases hlt : ys.length < m
          · have hlt' : (ys.length : Int) < (m : Int) := by omega
            obtain ⟨bx, ox, kx, qx, nx, cx, rfl, hbx, rfl, a0, a1⟩ := (HX.out.2.on HM.out.below).lies
            rw [Nat.zero_mul, Nat.add_zero] at a0 a1
            have n1 : wr.cell? ⟨w.heap.size, 1, none⟩ = some (.slice (some ⟨bx, ox, none⟩) 1 cq) := blk_cell HM.out.b0 1
            have HC := HIH.out (a + kk + n) wr _ (HX.out.1.on HM.out.below) hnl (HAt.out.on HM.out.below)
            rw [show ((a + kk + n : Nat) : Int) = (a : Int) + (kk : Int) + (n : Int) by omega] at HC
            replace HC := Lib.hid HC
            unfold cells2 at HC
            obtain ⟨R, hR⟩ : ∃ R, R = Sch.rdV x (l.drop (a + kk + n)) := ⟨_, rfl⟩
            have HRr := Lib.hid hR
            rw [← hR] at HC
            have HSt : Hid (Sch.rdN (Sch.rdV x) m (l.drop (a + kk)) = glue ys n (stepR (Sch.rdV x) (m - (ys.length + 1)) (l.drop (a + kk + n)) R)) := by
              show _ = _
              rw [HG2.out, show m - ys.length = (m - (ys.length + 1)) + 1 by omega, rdN_succ, ← hR]
            clear hR HK
            go_wp2_with fail
            refine HC.out.mono ?_
            intro e w2 hr
            cases R with
            | error er =>
              obtain ⟨rfl, hb2⟩ := hr
              have her := HTl.out _ er HRr.out.symm
              have g0 : ((er : Int) != 0) = true := by rw [bne_iff_ne]; omega
              have HEr : Hid (Sch.rdV (.mk 6 [x]) (l.drop a) = .error er) := by show _ = _; rw [HP.out, HSt.out]; rfl
              have hsz := HM.out.size
              obtain ⟨w3, hw3⟩ : ∃ w3, w3 = w2.alloc (.cells #[.int .i64 0, .int .i64 0, .float .f64 0, .string ⟨#[]⟩, .slice none 0 0] 65) := ⟨_, rfl⟩
              have hb3 : Below wr.heap.size wr w3 := by rw [hw3]; exact hb2.alloc hb2.size _
              have HW3 := Lib.hid hw3
              have hb1' : w3.heap[w.heap.size + 1]? = some (.cells (cells5 0 0 0 ⟨#[]⟩ none 0 0) 65 (0, 0)) := (hb3.block _ (by omega)).trans HM.out.b1
              have HF := Lib.hid (put5_fin (q := none) (n := 0) (c := 0) (F := fun _ => False) (v := .mk 0 0 0 ⟨#[]⟩ []) hb1' HM.out.below (by omega) (hb3.mono (by omega)) hb3.size VOwn.none (fun _ h => h.elim))
              have r0 : w3.cell? ⟨w.heap.size + 1, 0, none⟩ = some (.int .i64 0) := blk_cell hb1' 0
              have r1 : w3.cell? ⟨w.heap.size + 1, 1, none⟩ = some (.int .i64 0) := blk_cell hb1' 1
              have r2 : w3.cell? ⟨w.heap.size + 1, 2, none⟩ = some (.float .f64 0) := blk_cell hb1' 2
              have r3 : w3.cell? ⟨w.heap.size + 1, 3, none⟩ = some (.string ⟨#[]⟩) := blk_cell hb1' 3
              have r4 : w3.cell? ⟨w.heap.size + 1, 4, none⟩ = some (.slice none 0 0) := blk_cell hb1' 4
              have s0 := blk_free hb1' 0
              have s1 := blk_free hb1' 1
              have s2 := blk_free hb1' 2
              have s3 := blk_free hb1' 3
              have s4 := blk_free hb1' 4
              rw [hw3] at r0 r1 r2 r3 r4 s0 s1 s2 s3 s4
              clear hb1' hb3 hb2 hw3 a0 a1 n1 HC HSt HG2 HM
              unfold cells5
              go_wp2
              rw [← HW3.out]
              refine bodyPost_ret (results_row3 rfl _ _ (w.heap.size + 1) _ _ _ _ rfl HF.out.1 Tryz.underlying65 rfl (by kernel_rfl)) rfl ?_
              rw [HEr.out]
              exact ⟨rfl, HF.out.2.2⟩
            | ok vk =>
              obtain ⟨y, kj⟩ := vk
              obtain ⟨u', rfl, hv, hb2⟩ := hr
              obtain ⟨k', i', b', t', p', n', c', rfl⟩ := hv.shape
              obtain ⟨us, Fs, hbt⟩ := HM.out.built
              have hkj := HVl.out _ y kj HRr.out.symm
              rw [List.length_drop] at hkj
              have HV := Lib.hid hv
              have HB2w := Lib.hid hb2
              have HBt := Lib.hid hbt
              have c2 : ∀ o, (w2.alloc o).cell? ⟨w.heap.size + 2, 4, none⟩ = some (.slice qv ys.length dv) := fun o => by
                have h1 : Below wr.heap.size wr (w2.alloc o) := hb2.alloc hb2.size o
                exact cell_on h1 (blk_cell HM.out.b2 4)
              have hsz : w.heap.size + 3 ≤ w2.heap.size := Nat.le_trans HM.out.size hb2.size
              have HSt2 : Hid (Sch.rdN (Sch.rdV x) m (l.drop (a + kk)) = glue (ys ++ [y]) (n + kj) (Sch.rdN (Sch.rdV x) (m - (ys ++ [y]).length) (l.drop (a + kk + (n + kj))))) := by
                show _ = _
                rw [HSt.out, stepR, glue_glue, List.length_append, List.length_singleton, List.drop_drop, Nat.add_assoc (a + kk)]
              clear hv hb2 hbt a0 a1 n1 HC HSt HG2
              unfold cells5 at HV ⊢
              have HB3 : Hid (Below w2.heap.size w2 ((w2.alloc (.cells #[.int .i64 k', .int .i64 i', .float .f64 b', .string t', .slice p' n' c'] 65)).alloc (.cells #[.int .i64 k', .int .i64 i', .float .f64 b', .string t', .slice p' n' c'] 65))) := ((Below.refl _ _).alloc (Nat.le_refl _) _).alloc (by simp) _
              go_wp2_with (at_builtin; refine wp_more (B := w.heap.size + 3) (us := us) ((HBt.out.on HB2w.out).on HB3.out).row (u := #[.int .i64 k', .int .i64 i', .float .f64 b', .string t', .slice p' n' c']) rfl (one5 HV.out) (ad := w2.heap.size + 1) (blk_second w2 _ _) (by omega) (by simp; omega) rfl rfl rfl rfl rfl ?_
                           intro g2 cap2 w4 hr4 hg4 hn4
                           obtain ⟨hold, hmk⟩ := HM.out.next HBt.out HB2w.out HV.out (fun _ h => h) HB3.out hr4 hg4 hn4
                           have f4 := blk_free ((hold 2 (by omega)).trans HM.out.b2) 4
                           have g4 : w4.cell? ⟨w.heap.size + 2, 4, none⟩ = some (.slice qv ys.length dv) := blk_cell ((hold 2 (by omega)).trans HM.out.b2) 4
                           have HMK := Lib.hid hmk
                           clear hold hmk hr4 hg4 hn4)
              go_roundw
              case rel => exact ⟨ys ++ [y], n + kj, some ⟨g2, 0, none⟩, cap2, by simp; omega, by simp, by go_num, by omega, ⟨by simpa using HMK.out, HSt2.out⟩⟩
              case measure => simp [intOf]; omega
          · have hjn : ¬ (ys.length : Int) < (m : Int) := by omega
            have hym : ys.length = m := by omega
            have hsz := HM.out.size
            have HRd : Hid (Sch.rdV (.mk 6 [x]) (l.drop a) = .ok (.mk 6 0 0 ⟨#[]⟩ ys, kk + n)) := by
              show _ = _
              rw [HP.out, HG2.out, hym, Nat.sub_self]
              simp [Sch.rdN, glue]
            obtain ⟨us, Fs, hbt⟩ := HM.out.built
            obtain ⟨pv, cv, hev, hown⟩ := hbt.done (by omega) 6 0 0 ⟨#[]⟩
            injection hev with e1 e2 e3
            subst e1 e3
            have HF := Lib.hid (put5_fin HM.out.b1 HM.out.below (by omega) (Below.refl _ _) (Nat.le_refl _) hown (fun j hj => ⟨by omega, hj.2⟩))
            have e0 : wr.cell? ⟨w.heap.size + 2, 0, none⟩ = some (.int .i64 6) := blk_cell HM.out.b2 0
            have e1 : wr.cell? ⟨w.heap.size + 2, 1, none⟩ = some (.int .i64 0) := blk_cell HM.out.b2 1
            have e2 : wr.cell? ⟨w.heap.size + 2, 2, none⟩ = some (.float .f64 0) := blk_cell HM.out.b2 2
            have e3 : wr.cell? ⟨w.heap.size + 2, 3, none⟩ = some (.string ⟨#[]⟩) := blk_cell HM.out.b2 3
            have e4 : wr.cell? ⟨w.heap.size + 2, 4, none⟩ = some (.slice qv ys.length dv) := blk_cell HM.out.b2 4
            have r0 : wr.cell? ⟨w.heap.size + 1, 0, none⟩ = some (.int .i64 0) := blk_cell HM.out.b1 0
            have r1 : wr.cell? ⟨w.heap.size + 1, 1, none⟩ = some (.int .i64 0) := blk_cell HM.out.b1 1
            have r2 : wr.cell? ⟨w.heap.size + 1, 2, none⟩ = some (.float .f64 0) := blk_cell HM.out.b1 2
            have r3 : wr.cell? ⟨w.heap.size + 1, 3, none⟩ = some (.string ⟨#[]⟩) := blk_cell HM.out.b1 3
            have r4 : wr.cell? ⟨w.heap.size + 1, 4, none⟩ = some (.slice none 0 0) := blk_cell HM.out.b1 4
            have s0 := blk_free HM.out.b1 0
            have s1 := blk_free HM.out.b1 1
            have s2 := blk_free HM.out.b1 2
            have s3 := blk_free HM.out.b1 3
            have s4 := blk_free HM.out.b1 4
            clear HK HG2 HP hbt hown hym hlt
            go_wp2
            refine bodyPost_ret (results_row3 rfl _ _ (w.heap.size + 1) _ _ _ _ rfl HF.out.1 Tryz.underlying65 rfl (by kernel_rfl)) rfl ?_
            rw [HRd.out]
            exact ⟨_, by rw [show ((a + (kk + n) : Nat) : Int) = (a : Int) + (kk : Int) + (n : Int) by omega]; rfl, HF.out.2.1, HF.out.2.2⟩
    · have HNum := Lib.hid (fun w' (hb : Below w.heap.size w w') => refNum7 p c l a hl w' (HAt.out.on hb))
      go_enter Tryz.func54, Tryz.ntmps54
      go_wp2_with fail
      refine (HNum.out _ (HB2.out _ _)).mono ?_
      rintro e w1 ⟨rfl, hw⟩
      rw [hw]
      clear hw w1
      cases hm : Sch.num (l.drop a) with
      | error er =>
        simp only [numV]
        have her := num_err hm
        have g0 : ((er : Int) != 0) = true := by rw [bne_iff_ne]; omega
        have g1 : ((er : Int) == 0) = false := beq_f (by omega)
        have HE : Hid (Sch.rdV (.mk 7 [x]) (l.drop a) = .error er) := by show _ = _; rw [HMn.out, Sch.many, if_neg (by decide), hm]
        clear HMn hm HNum her
        go_wp2
        refine bodyPost_ret (results_row3 rfl _ _ (w.heap.size + 1) _ _ _ _ rfl (blk_second w _ _) Tryz.underlying65 rfl (by kernel_rfl)) rfl ?_
        rw [HE.out]
        exact ⟨rfl, HB2.out _ _⟩
      | ok nk =>
        obtain ⟨m, kk⟩ := nk
        simp only [numV]
        have ekk : ((a + kk : Nat) : Int) = (a : Int) + (kk : Int) := by omega
        rw [ekk]
        clear ekk
        have hb := Sch.num_ok hm
        have hkl : a + kk ≤ l.length := by
          obtain ⟨-, r, hr, hk2⟩ := hb
          have := congrArg List.length hr
          rw [List.length_drop, List.length_append] at this
          omega
        by_cases h256 : 256 < m
        · have g256 : (256 : Int) < (m : Int) := by omega
          have HE : Hid (Sch.rdV (.mk 7 [x]) (l.drop a) = .error 3) := by
            show _ = _
            rw [HMn.out, Sch.many, if_neg (by decide), hm]
            dsimp only
            rw [if_pos h256]
          clear HMn hm HNum hb h256
          go_wp2
          refine bodyPost_ret (results_row3 rfl _ _ (w.heap.size + 1) _ _ _ _ rfl (blk_second w _ _) Tryz.underlying65 rfl (by kernel_rfl)) rfl ?_
          rw [HE.out]
          exact ⟨rfl, HB2.out _ _⟩
        have g256 : ¬ (256 : Int) < (m : Int) := by omega
        have hmb : m ≤ 256 := by omega
        have hMM : Sch.many 7 (l.drop a) = .ok (m, kk) := by
          rw [Sch.many, if_neg (by decide), hm]
          dsimp only
          rw [if_neg h256]
        have HMk : Sch.rdV (.mk 7 [x]) (l.drop a) = match Sch.rdN (Sch.rdV x) m (l.drop (a + kk)) with
            | .error e => .error e
            | .ok (vs, j2) => .ok (.mk 7 0 0 ⟨#[]⟩ vs, kk + j2) := by
          rw [HMn.out, hMM]
          show (match Sch.rdN (Sch.rdV x) m ((l.drop a).drop kk) with
            | .error e => .error e
            | .ok (vs, j2) => .ok (.mk 7 0 0 ⟨#[]⟩ vs, kk + j2) : Except Nat (V × Nat)) = _
          rw [List.drop_drop]
        clear HMn hm HNum hb hMM h256
        have HP := Lib.hid HMk
        clear HMk
        go_wp2_with fail
        go_loopw [10, 14] (fun v10 v14 wr => ∃ (ys : List V) (n : Nat) (qv : Option Addr) (dv : Nat), ys.length ≤ m ∧ v14 = .int .i64 ys.length ∧ v10 = .int .i64 ((a : Int) + (kk : Int) + (n : Int)) ∧ a + kk + n ≤ l.length ∧ Hid (MakingV w #[.int .i64 7, .slice q 1 cq] 7 ys (.slice qv ys.length dv) wr ∧ Sch.rdN (Sch.rdV x) m (l.drop (a + kk)) = glue ys n (Sch.rdN (Sch.rdV x) (m - ys.length) (l.drop (a + kk + n))))) (fun _ v14 _ => m - (intOf v14).toNat)
        case atStart =>
          refine ⟨[], 0, none, 0, by simp, rfl, by go_num, hkl, makingV_start w _ _, ?_⟩
          rw [List.length_nil, Nat.sub_zero, Nat.add_zero]
          cases Sch.rdN (Sch.rdV x) m (l.drop (a + kk)) with
          | error e => rfl
          | ok q => simp [glue]
        case round =>
          obtain ⟨ys, n, qv, dv, hys, rfl, rfl, hnl, HK⟩ := hrel
          have HM := Lib.hid HK.out.1
          have HG2 := Lib.hid HK.out.2
          by_cases hlt : ys.length < m
          · have hlt' : (ys.length : Int) < (m : Int) := by omega
            obtain ⟨bx, ox, kx, qx, nx, cx, rfl, hbx, rfl, a0, a1⟩ := (HX.out.2.on HM.out.below).lies
            rw [Nat.zero_mul, Nat.add_zero] at a0 a1
            have n1 : wr.cell? ⟨w.heap.size, 1, none⟩ = some (.slice (some ⟨bx, ox, none⟩) 1 cq) := blk_cell HM.out.b0 1
            have HC := HIH.out (a + kk + n) wr _ (HX.out.1.on HM.out.below) hnl (HAt.out.on HM.out.below)
            rw [show ((a + kk + n : Nat) : Int) = (a : Int) + (kk : Int) + (n : Int) by omega] at HC
            replace HC := Lib.hid HC
            unfold cells2 at HC
            obtain ⟨R, hR⟩ : ∃ R, R = Sch.rdV x (l.drop (a + kk + n)) := ⟨_, rfl⟩
            have HRr := Lib.hid hR
            rw [← hR] at HC
            have HSt : Hid (Sch.rdN (Sch.rdV x) m (l.drop (a + kk)) = glue ys n (stepR (Sch.rdV x) (m - (ys.length + 1)) (l.drop (a + kk + n)) R)) := by
              show _ = _
              rw [HG2.out, show m - ys.length = (m - (ys.length + 1)) + 1 by omega, rdN_succ, ← hR]
            clear hR HK
            go_wp2_with fail
            refine HC.out.mono ?_
            intro e w2 hr
            cases R with
            | error er =>
              obtain ⟨rfl, hb2⟩ := hr
              have her := HTl.out _ er HRr.out.symm
              have g0 : ((er : Int) != 0) = true := by rw [bne_iff_ne]; omega
              have HEr : Hid (Sch.rdV (.mk 7 [x]) (l.drop a) = .error er) := by show _ = _; rw [HP.out, HSt.out]; rfl
              have hsz := HM.out.size
              obtain ⟨w3, hw3⟩ : ∃ w3, w3 = w2.alloc (.cells #[.int .i64 0, .int .i64 0, .float .f64 0, .string ⟨#[]⟩, .slice none 0 0] 65) := ⟨_, rfl⟩
              have hb3 : Below wr.heap.size wr w3 := by rw [hw3]; exact hb2.alloc hb2.size _
              have HW3 := Lib.hid hw3
              have hb1' : w3.heap[w.heap.size + 1]? = some (.cells (cells5 0 0 0 ⟨#[]⟩ none 0 0) 65 (0, 0)) := (hb3.block _ (by omega)).trans HM.out.b1
              have HF := Lib.hid (put5_fin (q := none) (n := 0) (c := 0) (F := fun _ => False) (v := .mk 0 0 0 ⟨#[]⟩ []) hb1' HM.out.below (by omega) (hb3.mono (by omega)) hb3.size VOwn.none (fun _ h => h.elim))
              have r0 : w3.cell? ⟨w.heap.size + 1, 0, none⟩ = some (.int .i64 0) := blk_cell hb1' 0
              have r1 : w3.cell? ⟨w.heap.size + 1, 1, none⟩ = some (.int .i64 0) := blk_cell hb1' 1
              have r2 : w3.cell? ⟨w.heap.size + 1, 2, none⟩ = some (.float .f64 0) := blk_cell hb1' 2
              have r3 : w3.cell? ⟨w.heap.size + 1, 3, none⟩ = some (.string ⟨#[]⟩) := blk_cell hb1' 3
              have r4 : w3.cell? ⟨w.heap.size + 1, 4, none⟩ = some (.slice none 0 0) := blk_cell hb1' 4
              have s0 := blk_free hb1' 0
              have s1 := blk_free hb1' 1
              have s2 := blk_free hb1' 2
              have s3 := blk_free hb1' 3
              have s4 := blk_free hb1' 4
              rw [hw3] at r0 r1 r2 r3 r4 s0 s1 s2 s3 s4
              clear hb1' hb3 hb2 hw3 a0 a1 n1 HC HSt HG2 HM
              unfold cells5
              go_wp2
              rw [← HW3.out]
              refine bodyPost_ret (results_row3 rfl _ _ (w.heap.size + 1) _ _ _ _ rfl HF.out.1 Tryz.underlying65 rfl (by kernel_rfl)) rfl ?_
              rw [HEr.out]
              exact ⟨rfl, HF.out.2.2⟩
            | ok vk =>
              obtain ⟨y, kj⟩ := vk
              obtain ⟨u', rfl, hv, hb2⟩ := hr
              obtain ⟨k', i', b', t', p', n', c', rfl⟩ := hv.shape
              obtain ⟨us, Fs, hbt⟩ := HM.out.built
              have hkj := HVl.out _ y kj HRr.out.symm
              rw [List.length_drop] at hkj
              have HV := Lib.hid hv
              have HB2w := Lib.hid hb2
              have HBt := Lib.hid hbt
              have c2 : ∀ o, (w2.alloc o).cell? ⟨w.heap.size + 2, 4, none⟩ = some (.slice qv ys.length dv) := fun o => by
                have h1 : Below wr.heap.size wr (w2.alloc o) := hb2.alloc hb2.size o
                exact cell_on h1 (blk_cell HM.out.b2 4)
              have hsz : w.heap.size + 3 ≤ w2.heap.size := Nat.le_trans HM.out.size hb2.size
              have HSt2 : Hid (Sch.rdN (Sch.rdV x) m (l.drop (a + kk)) = glue (ys ++ [y]) (n + kj) (Sch.rdN (Sch.rdV x) (m - (ys ++ [y]).length) (l.drop (a + kk + (n + kj))))) := by
                show _ = _
                rw [HSt.out, stepR, glue_glue, List.length_append, List.length_singleton, List.drop_drop, Nat.add_assoc (a + kk)]
              clear hv hb2 hbt a0 a1 n1 HC HSt HG2
              unfold cells5 at HV ⊢
              have HB3 : Hid (Below w2.heap.size w2 ((w2.alloc (.cells #[.int .i64 k', .int .i64 i', .float .f64 b', .string t', .slice p' n' c'] 65)).alloc (.cells #[.int .i64 k', .int .i64 i', .float .f64 b', .string t', .slice p' n' c'] 65))) := ((Below.refl _ _).alloc (Nat.le_refl _) _).alloc (by simp) _
              go_wp2_with (at_builtin; refine wp_more (B := w.heap.size + 3) (us := us) ((HBt.out.on HB2w.out).on HB3.out).row (u := #[.int .i64 k', .int .i64 i', .float .f64 b', .string t', .slice p' n' c']) rfl (one5 HV.out) (ad := w2.heap.size + 1) (blk_second w2 _ _) (by omega) (by simp; omega) rfl rfl rfl rfl rfl ?_
                           intro g2 cap2 w4 hr4 hg4 hn4
                           obtain ⟨hold, hmk⟩ := HM.out.next HBt.out HB2w.out HV.out (fun _ h => h) HB3.out hr4 hg4 hn4
                           have f4 := blk_free ((hold 2 (by omega)).trans HM.out.b2) 4
                           have g4 : w4.cell? ⟨w.heap.size + 2, 4, none⟩ = some (.slice qv ys.length dv) := blk_cell ((hold 2 (by omega)).trans HM.out.b2) 4
                           have HMK := Lib.hid hmk
                           clear hold hmk hr4 hg4 hn4)
              go_roundw
              case rel => exact ⟨ys ++ [y], n + kj, some ⟨g2, 0, none⟩, cap2, by simp; omega, by simp, by go_num, by omega, ⟨by simpa using HMK.out, HSt2.out⟩⟩
              case measure => simp [intOf]; omega
          · have hjn : ¬ (ys.length : Int) < (m : Int) := by omega
            have hym : ys.length = m := by omega
            have hsz := HM.out.size
            have HRd : Hid (Sch.rdV (.mk 7 [x]) (l.drop a) = .ok (.mk 7 0 0 ⟨#[]⟩ ys, kk + n)) := by
              show _ = _
              rw [HP.out, HG2.out, hym, Nat.sub_self]
              simp [Sch.rdN, glue]
            obtain ⟨us, Fs, hbt⟩ := HM.out.built
            obtain ⟨pv, cv, hev, hown⟩ := hbt.done (by omega) 7 0 0 ⟨#[]⟩
            injection hev with e1 e2 e3
            subst e1 e3
            have HF := Lib.hid (put5_fin HM.out.b1 HM.out.below (by omega) (Below.refl _ _) (Nat.le_refl _) hown (fun j hj => ⟨by omega, hj.2⟩))
            have e0 : wr.cell? ⟨w.heap.size + 2, 0, none⟩ = some (.int .i64 7) := blk_cell HM.out.b2 0
            have e1 : wr.cell? ⟨w.heap.size + 2, 1, none⟩ = some (.int .i64 0) := blk_cell HM.out.b2 1
            have e2 : wr.cell? ⟨w.heap.size + 2, 2, none⟩ = some (.float .f64 0) := blk_cell HM.out.b2 2
            have e3 : wr.cell? ⟨w.heap.size + 2, 3, none⟩ = some (.string ⟨#[]⟩) := blk_cell HM.out.b2 3
            have e4 : wr.cell? ⟨w.heap.size + 2, 4, none⟩ = some (.slice qv ys.length dv) := blk_cell HM.out.b2 4
            have r0 : wr.cell? ⟨w.heap.size + 1, 0, none⟩ = some (.int .i64 0) := blk_cell HM.out.b1 0
            have r1 : wr.cell? ⟨w.heap.size + 1, 1, none⟩ = some (.int .i64 0) := blk_cell HM.out.b1 1
            have r2 : wr.cell? ⟨w.heap.size + 1, 2, none⟩ = some (.float .f64 0) := blk_cell HM.out.b1 2
            have r3 : wr.cell? ⟨w.heap.size + 1, 3, none⟩ = some (.string ⟨#[]⟩) := blk_cell HM.out.b1 3
            have r4 : wr.cell? ⟨w.heap.size + 1, 4, none⟩ = some (.slice none 0 0) := blk_cell HM.out.b1 4
            have s0 := blk_free HM.out.b1 0
            have s1 := blk_free HM.out.b1 1
            have s2 := blk_free HM.out.b1 2
            have s3 := blk_free HM.out.b1 3
            have s4 := blk_free HM.out.b1 4
            clear HK HG2 HP hbt hown hym hlt
            go_wp2
            refine bodyPost_ret (results_row3 rfl _ _ (w.heap.size + 1) _ _ _ _ rfl HF.out.1 Tryz.underlying65 rfl (by kernel_rfl)) rfl ?_
            rw [HRd.out]
            exact ⟨_, by rw [show ((a + (kk + n) : Nat) : Int) = (a : Int) + (kk : Int) + (n : Int) by omega]; rfl, HF.out.2.1, HF.out.2.2⟩
end Go.Proofs.YtnlhpndjogjejaaGreatDoor

/- The document's readType. -/
namespace Go.Proofs.YtnlhpndjogjejaaGreatDoor
open Go.RowKit

/-- what reading a type tells: the type in blocks of its own, and the place behind it; or the error alone -/
def ReadT (w : World) (a : Nat) (r : Except Nat (Ty × Nat)) (e : Ending) (w' : World) : Prop := match r with
  | .error er => e = .returned (.tuple #[.agg (cells2 0 none 0 0), .int .i64 0, .int .i64 (er : Nat)]) ∧ Below w.heap.size w w'
  | .ok (t, k) => ∃ u, e = .returned (.tuple #[.agg u, .int .i64 ((a + k : Nat) : Int), .int .i64 0]) ∧ TOwn w' (fun k => w.heap.size ≤ k ∧ k < w'.heap.size) u t ∧ Below w.heap.size w w'

theorem rdT_err : ∀ (f : Nat) (l : List UInt8) (e : Nat), Sch.rdT f l = .error e → e ≠ 0
  | 0, l, e, h => by rw [Sch.rdT] at h; injection h with h; omega
  | f + 1, [], e, h => by rw [Sch.rdT] at h; injection h with h; omega
  | f + 1, c :: r, e, h => by
    rw [Sch.rdT] at h
    split at h
    · injection h with h; omega
    split at h
    · cases h
    split at h
    · next e' he => injection h with h; rw [← h]; exact rdT_err f r e' he
    · cases h

/-- the answer's place is written: the type is there -/
def put2 (w : World) (g : Nat) (k : Int) (v : Value) : World := (w.setCell ⟨g, 0, none⟩ (.int .i64 k)).setCell ⟨g, 1, none⟩ v
theorem put2_fin {w w1 : World} {k : Int} {q : Option Addr} {n c : Nat} {x : Ty} {F : Nat → Prop} (h1 : w1.heap[w.heap.size]? = some (.cells (cells2 0 none 0 0) 61 (0, 0))) (hb : Below w.heap.size w w1) (hs : w.heap.size + 1 ≤ w1.heap.size) (hv : TOwn w1 F (cells2 k q n c) x) (hF : ∀ j, F j → w.heap.size + 1 ≤ j ∧ j < w1.heap.size) :
    (put2 w1 w.heap.size k (.slice q n c)).heap[w.heap.size]? = some (.cells (cells2 k q n c) 61 (0, 0)) ∧ TOwn (put2 w1 w.heap.size k (.slice q n c)) (fun j => w.heap.size ≤ j ∧ j < (put2 w1 w.heap.size k (.slice q n c)).heap.size) (cells2 k q n c) x ∧ Below w.heap.size w (put2 w1 w.heap.size k (.slice q n c)) := by
  have hA : Aside (fun k => k = w.heap.size) w1 (put2 w1 w.heap.size k (.slice q n c)) := by
    unfold put2
    exact ((Aside.refl (fun k => k = w.heap.size) w1).setCell (p := ⟨w.heap.size, 0, none⟩) (.inl rfl) _).setCell (p := ⟨w.heap.size, 1, none⟩) (.inl rfl) _
  refine ⟨?_, ?_, ?_⟩
  · unfold put2
    rw [blk_set (blk_set h1 0 _) 1 _]
    rfl
  · exact (hv.aside hA (fun k hk hc => by have := hF k hk; omega)).mono (fun j hj => ⟨by have := hF j hj; omega, by have := hF j hj; have := hA.size; omega⟩)
  · exact hb.trans (hA.below (by omega) (fun k hk hc => by omega))

set_option maxRecDepth 100000 in
set_option maxHeartbeats 1000000 in
theorem refReadType7 (p : Option Addr) (l : List UInt8) (c : Nat) (hl : l.length ≤ 140737488351232) : ∀ (f : Nat) (a : Nat) (w : World), f ≤ 4 → a ≤ l.length → At w p l → Calls Tryz.prog 52 #[.slice p l.length c, .int .i64 a, .int .i64 ((5 - f : Nat) : Int)] w (ReadT w a (Sch.rdT f (l.drop a))) := by
  intro f
  induction f with
  | zero =>
    intro a w _ ha hat
    have HB : Hid (∀ o, Below w.heap.size w (w.alloc o)) := fun o => (Below.refl _ _).alloc (Nat.le_refl _) _
    rw [Sch.rdT]
    clear hat
    go_enter Tryz.func52, Tryz.ntmps52
    go_wp2
    refine bodyPost_ret (results_row3 rfl _ _ w.heap.size _ _ _ _ rfl (blk_new w _) Tryz.underlying61 rfl (by kernel_rfl)) rfl ?_
    exact ⟨rfl, HB.out _⟩
  | succ f ih =>
    intro a w hf ha hat
    have HB : Hid (∀ o, Below w.heap.size w (w.alloc o)) := fun o => (Below.refl _ _).alloc (Nat.le_refl _) _
    have hd : ¬ (4 : Int) < ((5 - (f + 1) : Nat) : Int) := by omega
    obtain ⟨dp, hdp⟩ : ∃ dp, dp = 5 - (f + 1) := ⟨_, rfl⟩
    rw [← hdp] at hd ⊢
    by_cases hlt : a < l.length
    · obtain ⟨b, o, rfl, hb, hc⟩ := at_some hat (by omega)
      have c0 : ∀ o, (w.alloc o).cell? _ = _ := fun o => cell_on (HB.out o) (hc a hlt)
      have h1 : ¬ (l.length : Int) ≤ (a : Int) := by omega
      have h1b : (a : Int) < (l.length : Int) := by omega
      have HD : Hid (Sch.rdT (f + 1) (l.drop a) = if l[a].toNat < 1 ∨ 7 < l[a].toNat then .error 60 else if l[a].toNat ≠ 6 ∧ l[a].toNat ≠ 7 then .ok (⟨(l[a].toNat : Int), []⟩, 1) else match Sch.rdT f (l.drop (a + 1)) with
          | .error e => .error e
          | .ok (t, j) => .ok (⟨(l[a].toNat : Int), [t]⟩, j + 1)) := by
        show _ = _
        rw [List.drop_eq_getElem_cons hlt, Sch.rdT]
        rfl
      have hih := fun w' (hb : Below w.heap.size w w') => ih (a + 1) w' (by omega) (by omega) (hat.on hb)
      have edp : ((5 - f : Nat) : Int) = (dp : Int) + 1 := by omega
      rw [edp, show ((a + 1 : Nat) : Int) = (a : Int) + 1 by omega] at hih
      have HC := Lib.hid hih
      have h256 := l[a].toNat_lt
      generalize l[a].toNat = z at *
      clear hc hih edp hdp ih hat hf
      by_cases h2 : z < 1 ∨ 7 < z
      · have HE : Hid (Sch.rdT (f + 1) (l.drop a) = .error 60) := by show _ = _; rw [HD.out, if_pos h2]
        rw [HE.out]
        clear HD HE HC
        rcases h2 with h2 | h2
        · have g2 : (z : Int) < 1 := by omega
          clear h2
          go_enter Tryz.func52, Tryz.ntmps52
          go_wp2
          refine bodyPost_ret (results_row3 rfl _ _ w.heap.size _ _ _ _ rfl (blk_new w _) Tryz.underlying61 rfl (by kernel_rfl)) rfl ?_
          exact ⟨rfl, HB.out _⟩
        · have g2 : ¬ (z : Int) < 1 := by omega
          have g3 : (7 : Int) < (z : Int) := by omega
          clear h2
          go_enter Tryz.func52, Tryz.ntmps52
          go_wp2
          refine bodyPost_ret (results_row3 rfl _ _ w.heap.size _ _ _ _ rfl (blk_new w _) Tryz.underlying61 rfl (by kernel_rfl)) rfl ?_
          exact ⟨rfl, HB.out _⟩
      have g2 : ¬ (z : Int) < 1 := by omega
      have g3 : ¬ (7 : Int) < (z : Int) := by omega
      by_cases h6 : z ≠ 6 ∧ z ≠ 7
      · have HE : Hid (Sch.rdT (f + 1) (l.drop a) = .ok (⟨(z : Int), []⟩, 1)) := by show _ = _; rw [HD.out, if_neg h2, if_pos h6]
        have e6 : ((z : Int) != 6) = true := bne_t (by omega)
        have e7 : ((z : Int) != 7) = true := bne_t (by omega)
        rw [HE.out]
        clear HD HE HC h2 h6
        go_enter Tryz.func52, Tryz.ntmps52
        go_wp2
        refine bodyPost_ret (results_row3 rfl _ _ w.heap.size _ _ _ _ rfl (blk_new w _) Tryz.underlying61 rfl (by kernel_rfl)) rfl ?_
        exact ⟨_, by rw [show ((a + 1 : Nat) : Int) = (a : Int) + 1 by omega]; rfl, TOwn.none, HB.out _⟩
      obtain ⟨W1, hW1⟩ : ∃ W1, W1 = w.alloc (.cells #[.int .i64 0, .slice none 0 0] 61) := ⟨_, rfl⟩
      have HBW : Hid (Below w.heap.size w W1) := by rw [hW1]; exact HB.out _
      have HR0 : Hid (W1.heap[w.heap.size]? = some (.cells (cells2 0 none 0 0) 61 (0, 0))) := by show _ = _; rw [hW1]; exact blk_new w _
      have hs1 : W1.heap.size = w.heap.size + 1 := by rw [hW1]; simp
      have HW1 := Lib.hid hW1
      obtain ⟨R, hR⟩ : ∃ R, R = Sch.rdT f (l.drop (a + 1)) := ⟨_, rfl⟩
      have hterr := rdT_err f (l.drop (a + 1))
      have HD2 : Hid (Sch.rdT (f + 1) (l.drop a) = match Sch.rdT f (l.drop (a + 1)) with
          | .error e => .error e
          | .ok (t, j) => .ok (⟨(z : Int), [t]⟩, j + 1)) := by show _ = _; rw [HD.out, if_neg h2, if_neg h6]
      have HC1 := Lib.hid (HC.out W1 HBW.out)
      have hz67 : z = 6 ∨ z = 7 := by omega
      clear HD HC h2 h6 hW1 g2 g3 hR
      cases hR : Sch.rdT f (l.drop (a + 1)) with
      | error er =>
        rw [hR] at HC1 HD2
        have her := hterr er hR
        have g0 : ((er : Int) != 0) = true := by rw [bne_iff_ne]; omega
        have HE : Hid (Sch.rdT (f + 1) (l.drop a) = .error er) := HD2.out
        rw [HE.out]
        clear HD2 HE hR hterr her
        rcases hz67 with rfl | rfl
        all_goals
          go_enter Tryz.func52, Tryz.ntmps52
          go_wp2_with fail
          rw [← HW1.out]
          refine HC1.out.mono ?_
          rintro e w2 ⟨rfl, hb2⟩
          obtain ⟨w3, hw3⟩ : ∃ w3, w3 = w2.alloc (.cells #[.int .i64 0, .slice none 0 0] 61) := ⟨_, rfl⟩
          have hb3 : Below W1.heap.size W1 w3 := by rw [hw3]; exact hb2.alloc hb2.size _
          have hb1' : w3.heap[w.heap.size]? = some (.cells (cells2 0 none 0 0) 61 (0, 0)) := (hb3.block _ (by omega)).trans HR0.out
          have hs3 := hb3.size
          have HF := Lib.hid (put2_fin (w := w) (q := none) (n := 0) (c := 0) (F := fun _ => False) (x := .mk 0 []) hb1' (HBW.out.trans (hb3.mono (by omega))) (by omega) TOwn.none (fun _ h => h.elim))
          have r0 : w3.cell? ⟨w.heap.size, 0, none⟩ = some (.int .i64 0) := blk_cell hb1' 0
          have r1 : w3.cell? ⟨w.heap.size, 1, none⟩ = some (.slice none 0 0) := blk_cell hb1' 1
          have s0 := blk_free hb1' 0
          have s1 := blk_free hb1' 1
          have HW3 := Lib.hid hw3
          rw [hw3] at r0 r1 s0 s1
          clear hb1' hb3 hb2 hw3 hs3 HC1
          unfold cells2
          go_wp2
          rw [← HW3.out]
          refine bodyPost_ret (results_row3 rfl _ _ w.heap.size _ _ _ _ rfl HF.out.1 Tryz.underlying61 rfl (by kernel_rfl)) rfl ?_
          exact ⟨rfl, HF.out.2.2⟩
      | ok tk =>
        obtain ⟨t, j⟩ := tk
        rw [hR] at HC1 HD2
        have HE : Hid (Sch.rdT (f + 1) (l.drop a) = .ok (⟨(z : Int), [t]⟩, j + 1)) := HD2.out
        rw [HE.out]
        clear HD2 HE hR hterr
        have ez : (z : Int) = 6 ∨ (z : Int) = 7 := by omega
        obtain ⟨zi, hzi⟩ : ∃ zi : Int, zi = z := ⟨_, rfl⟩
        rw [← hzi] at c0 ez ⊢
        clear hzi hz67 h256
        rcases ez with rfl | rfl
        all_goals
          go_enter Tryz.func52, Tryz.ntmps52
          go_wp2_with fail
          rw [← HW1.out]
          refine HC1.out.mono ?_
          rintro e w2 ⟨u', rfl, hv, hb2⟩
          obtain ⟨k', p', n', c', rfl⟩ := hv.shape
          obtain ⟨w3, hw3⟩ : ∃ w3, w3 = (w2.alloc (.cells #[.int .i64 k', .slice p' n' c'] 61)).alloc (.cells #[.int .i64 k', .slice p' n' c'] 61) := ⟨_, rfl⟩
          have hb23 : Below w2.heap.size w2 w3 := by rw [hw3]; exact ((Below.refl _ _).alloc (Nat.le_refl _) _).alloc (by simp) _
          have hb3 : Below W1.heap.size W1 w3 := hb2.trans (hb23.mono hb2.size)
          have hb1' : w3.heap[w.heap.size]? = some (.cells (cells2 0 none 0 0) 61 (0, 0)) := (hb3.block _ (by omega)).trans HR0.out
          have hs2 := hb2.size
          have hs3 : w3.heap.size = w2.heap.size + 2 := by rw [hw3]; simp
          have hblk : w3.heap[w2.heap.size + 1]? = some (.cells (cells2 k' p' n' c') 61 (0, 0)) := by rw [hw3]; exact blk_second w2 _ _
          have hv3 : TOwn w3 (fun k => W1.heap.size ≤ k ∧ k < w2.heap.size) (cells2 k' p' n' c') t := hv.under hb23 (fun k hk => hk.2)
          have HF := Lib.hid (fun zz : Int => put2_fin (k := zz) (w := w) (F := fun j => W1.heap.size ≤ j ∧ j < w3.heap.size) hb1' (HBW.out.trans (hb3.mono (by omega))) (by omega) (TOwn.one (k := zz) (G := fun j => W1.heap.size ≤ j ∧ j < w3.heap.size) hblk hv3 (fun k hk => ⟨hk.1, by omega⟩) (fun hc => by omega) (by omega)) (fun j hj => ⟨by omega, hj.2⟩))
          have r0 : w3.cell? ⟨w.heap.size, 0, none⟩ = some (.int .i64 0) := blk_cell hb1' 0
          have r1 : w3.cell? ⟨w.heap.size, 1, none⟩ = some (.slice none 0 0) := blk_cell hb1' 1
          have s0 := blk_free hb1' 0
          have s1 := blk_free hb1' 1
          have HW3 := Lib.hid hw3
          rw [hw3] at r0 r1 s0 s1
          clear hb1' hb3 hb2 hw3 hs3 HC1 hb23 hs2 hblk hv3 hv
          unfold cells2
          go_wp2
          rw [← HW3.out]
          refine bodyPost_ret (results_row3 rfl _ _ w.heap.size _ _ _ _ rfl (HF.out _).1 Tryz.underlying61 rfl (by kernel_rfl)) rfl ?_
          exact ⟨_, by rw [show ((a + (j + 1) : Nat) : Int) = (a : Int) + 1 + (j : Int) by omega]; rfl, (HF.out _).2.1, (HF.out _).2.2⟩
    · have h1 : (l.length : Int) ≤ (a : Int) := by omega
      have HE : Hid (Sch.rdT (f + 1) (l.drop a) = .error 30) := by show _ = _; rw [List.drop_eq_nil_of_le (by omega), Sch.rdT]
      rw [HE.out]
      clear hat ih HE hdp
      go_enter Tryz.func52, Tryz.ntmps52
      go_wp2
      refine bodyPost_ret (results_row3 rfl _ _ w.heap.size _ _ _ _ rfl (blk_new w _) Tryz.underlying61 rfl (by kernel_rfl)) rfl ?_
      exact ⟨rfl, HB.out _⟩
end Go.Proofs.YtnlhpndjogjejaaGreatDoor

/- The document's readColumn. -/
namespace Go.Proofs.YtnlhpndjogjejaaGreatDoor
open Go.RowKit

attribute [local go_sem] run_store_float

/-- what reading a column tells: the column in blocks of its own, and the place behind it; or the error alone -/
def ReadC (w : World) (a : Nat) (r : Except Nat (Col × Nat)) (e : Ending) (w' : World) : Prop := match r with
  | .error er => e = .returned (.tuple #[.agg (cells9 ⟨#[]⟩ 0 none 0 0 false 0 0 0 ⟨#[]⟩ none 0 0), .int .i64 0, .int .i64 (er : Nat)]) ∧ Below w.heap.size w w'
  | .ok (c, k) => ∃ u, e = .returned (.tuple #[.agg u, .int .i64 ((a + k : Nat) : Int), .int .i64 0]) ∧ COwn w' (fun k => w.heap.size ≤ k ∧ k < w'.heap.size) u c ∧ Below w.heap.size w w'

theorem zero_own (w : World) : COwn w (fun _ => False) (cells9 ⟨#[]⟩ 0 none 0 0 false 0 0 0 ⟨#[]⟩ none 0 0) ⟨⟨#[]⟩, .mk 0 [], false, V0⟩ :=
  ⟨fun _ => False, fun _ => False, 0, none, 0, 0, 0, 0, 0, ⟨#[]⟩, none, 0, 0, rfl, TOwn.none, VOwn.none, fun _ h => h, fun _ h => h, fun _ h => h.elim⟩

/-- the answer's place is written: the column is there -/
def put9 (w : World) (g : Nat) (n : ByteArray) (k : Int) (s : Value) (h : Bool) (vk vi : Int) (vb : Nat) (vt : ByteArray) (vs : Value) : World :=
  ((((((((w.setCell ⟨g, 0, none⟩ (.string n)).setCell ⟨g, 1, none⟩ (.int .i64 k)).setCell ⟨g, 2, none⟩ s).setCell ⟨g, 3, none⟩ (.bool h)).setCell ⟨g, 4, none⟩ (.int .i64 vk)).setCell ⟨g, 5, none⟩ (.int .i64 vi)).setCell ⟨g, 6, none⟩ (.float .f64 vb)).setCell ⟨g, 7, none⟩ (.string vt)).setCell ⟨g, 8, none⟩ vs
set_option maxHeartbeats 2000000 in
theorem put9_fin {w w1 : World} {n : ByteArray} {k : Int} {tp : Option Addr} {tn tc : Nat} {h : Bool} {vk vi : Int} {vb : Nat} {vt : ByteArray} {vp : Option Addr} {vn vc : Nat} {c : Col} {F : Nat → Prop} (h1 : w1.heap[w.heap.size]? = some (.cells (cells9 ⟨#[]⟩ 0 none 0 0 false 0 0 0 ⟨#[]⟩ none 0 0) 67 (0, 0))) (hb : Below w.heap.size w w1) (hs : w.heap.size + 1 ≤ w1.heap.size) (hv : COwn w1 F (cells9 n k tp tn tc h vk vi vb vt vp vn vc) c) (hF : ∀ j, F j → w.heap.size + 1 ≤ j ∧ j < w1.heap.size) :
    (put9 w1 w.heap.size n k (.slice tp tn tc) h vk vi vb vt (.slice vp vn vc)).heap[w.heap.size]? = some (.cells (cells9 n k tp tn tc h vk vi vb vt vp vn vc) 67 (0, 0)) ∧ COwn (put9 w1 w.heap.size n k (.slice tp tn tc) h vk vi vb vt (.slice vp vn vc)) (fun j => w.heap.size ≤ j ∧ j < (put9 w1 w.heap.size n k (.slice tp tn tc) h vk vi vb vt (.slice vp vn vc)).heap.size) (cells9 n k tp tn tc h vk vi vb vt vp vn vc) c ∧ Below w.heap.size w (put9 w1 w.heap.size n k (.slice tp tn tc) h vk vi vb vt (.slice vp vn vc)) := by
  have a0 := Aside.refl (fun k => k = w.heap.size) w1
  have a1 := a0.setCell (p := ⟨w.heap.size, 0, none⟩) (.inl rfl) (.string n)
  have a2 := a1.setCell (p := ⟨w.heap.size, 1, none⟩) (.inl rfl) (.int .i64 k)
  have a3 := a2.setCell (p := ⟨w.heap.size, 2, none⟩) (.inl rfl) (.slice tp tn tc)
  have a4 := a3.setCell (p := ⟨w.heap.size, 3, none⟩) (.inl rfl) (.bool h)
  have a5 := a4.setCell (p := ⟨w.heap.size, 4, none⟩) (.inl rfl) (.int .i64 vk)
  have a6 := a5.setCell (p := ⟨w.heap.size, 5, none⟩) (.inl rfl) (.int .i64 vi)
  have a7 := a6.setCell (p := ⟨w.heap.size, 6, none⟩) (.inl rfl) (.float .f64 vb)
  have a8 := a7.setCell (p := ⟨w.heap.size, 7, none⟩) (.inl rfl) (.string vt)
  have a9 := a8.setCell (p := ⟨w.heap.size, 8, none⟩) (.inl rfl) (.slice vp vn vc)
  have hA : Aside (fun k => k = w.heap.size) w1 (put9 w1 w.heap.size n k (.slice tp tn tc) h vk vi vb vt (.slice vp vn vc)) := a9
  clear a0 a1 a2 a3 a4 a5 a6 a7 a8 a9
  have b0 : w1.heap[w.heap.size]? = some (.cells (cells9 ⟨#[]⟩ 0 none 0 0 false 0 0 0 ⟨#[]⟩ none 0 0) 67 (0, 0)) := h1
  have b1 : (w1.setCell ⟨w.heap.size, 0, none⟩ (.string n)).heap[w.heap.size]? = some (.cells (cells9 n 0 none 0 0 false 0 0 0 ⟨#[]⟩ none 0 0) 67 (0, 0)) := blk_set b0 0 (.string n)
  have b2 : ((w1.setCell ⟨w.heap.size, 0, none⟩ (.string n)).setCell ⟨w.heap.size, 1, none⟩ (.int .i64 k)).heap[w.heap.size]? = some (.cells (cells9 n k none 0 0 false 0 0 0 ⟨#[]⟩ none 0 0) 67 (0, 0)) := blk_set b1 1 (.int .i64 k)
  have b3 : (((w1.setCell ⟨w.heap.size, 0, none⟩ (.string n)).setCell ⟨w.heap.size, 1, none⟩ (.int .i64 k)).setCell ⟨w.heap.size, 2, none⟩ (.slice tp tn tc)).heap[w.heap.size]? = some (.cells (cells9 n k tp tn tc false 0 0 0 ⟨#[]⟩ none 0 0) 67 (0, 0)) := blk_set b2 2 (.slice tp tn tc)
  have b4 : ((((w1.setCell ⟨w.heap.size, 0, none⟩ (.string n)).setCell ⟨w.heap.size, 1, none⟩ (.int .i64 k)).setCell ⟨w.heap.size, 2, none⟩ (.slice tp tn tc)).setCell ⟨w.heap.size, 3, none⟩ (.bool h)).heap[w.heap.size]? = some (.cells (cells9 n k tp tn tc h 0 0 0 ⟨#[]⟩ none 0 0) 67 (0, 0)) := blk_set b3 3 (.bool h)
  have b5 : (((((w1.setCell ⟨w.heap.size, 0, none⟩ (.string n)).setCell ⟨w.heap.size, 1, none⟩ (.int .i64 k)).setCell ⟨w.heap.size, 2, none⟩ (.slice tp tn tc)).setCell ⟨w.heap.size, 3, none⟩ (.bool h)).setCell ⟨w.heap.size, 4, none⟩ (.int .i64 vk)).heap[w.heap.size]? = some (.cells (cells9 n k tp tn tc h vk 0 0 ⟨#[]⟩ none 0 0) 67 (0, 0)) := blk_set b4 4 (.int .i64 vk)
  have b6 : ((((((w1.setCell ⟨w.heap.size, 0, none⟩ (.string n)).setCell ⟨w.heap.size, 1, none⟩ (.int .i64 k)).setCell ⟨w.heap.size, 2, none⟩ (.slice tp tn tc)).setCell ⟨w.heap.size, 3, none⟩ (.bool h)).setCell ⟨w.heap.size, 4, none⟩ (.int .i64 vk)).setCell ⟨w.heap.size, 5, none⟩ (.int .i64 vi)).heap[w.heap.size]? = some (.cells (cells9 n k tp tn tc h vk vi 0 ⟨#[]⟩ none 0 0) 67 (0, 0)) := blk_set b5 5 (.int .i64 vi)
  have b7 : (((((((w1.setCell ⟨w.heap.size, 0, none⟩ (.string n)).setCell ⟨w.heap.size, 1, none⟩ (.int .i64 k)).setCell ⟨w.heap.size, 2, none⟩ (.slice tp tn tc)).setCell ⟨w.heap.size, 3, none⟩ (.bool h)).setCell ⟨w.heap.size, 4, none⟩ (.int .i64 vk)).setCell ⟨w.heap.size, 5, none⟩ (.int .i64 vi)).setCell ⟨w.heap.size, 6, none⟩ (.float .f64 vb)).heap[w.heap.size]? = some (.cells (cells9 n k tp tn tc h vk vi vb ⟨#[]⟩ none 0 0) 67 (0, 0)) := blk_set b6 6 (.float .f64 vb)
  have b8 : ((((((((w1.setCell ⟨w.heap.size, 0, none⟩ (.string n)).setCell ⟨w.heap.size, 1, none⟩ (.int .i64 k)).setCell ⟨w.heap.size, 2, none⟩ (.slice tp tn tc)).setCell ⟨w.heap.size, 3, none⟩ (.bool h)).setCell ⟨w.heap.size, 4, none⟩ (.int .i64 vk)).setCell ⟨w.heap.size, 5, none⟩ (.int .i64 vi)).setCell ⟨w.heap.size, 6, none⟩ (.float .f64 vb)).setCell ⟨w.heap.size, 7, none⟩ (.string vt)).heap[w.heap.size]? = some (.cells (cells9 n k tp tn tc h vk vi vb vt none 0 0) 67 (0, 0)) := blk_set b7 7 (.string vt)
  have b9 : (((((((((w1.setCell ⟨w.heap.size, 0, none⟩ (.string n)).setCell ⟨w.heap.size, 1, none⟩ (.int .i64 k)).setCell ⟨w.heap.size, 2, none⟩ (.slice tp tn tc)).setCell ⟨w.heap.size, 3, none⟩ (.bool h)).setCell ⟨w.heap.size, 4, none⟩ (.int .i64 vk)).setCell ⟨w.heap.size, 5, none⟩ (.int .i64 vi)).setCell ⟨w.heap.size, 6, none⟩ (.float .f64 vb)).setCell ⟨w.heap.size, 7, none⟩ (.string vt)).setCell ⟨w.heap.size, 8, none⟩ (.slice vp vn vc)).heap[w.heap.size]? = some (.cells (cells9 n k tp tn tc h vk vi vb vt vp vn vc) 67 (0, 0)) := blk_set b8 8 (.slice vp vn vc)
  refine ⟨b9, ?_, ?_⟩
  · exact (hv.aside hA (fun k hk hc => by have := hF k hk; omega)).mono (fun j hj => ⟨by have := hF j hj; omega, by have := hF j hj; have := hA.size; omega⟩)
  · exact hb.trans (hA.below (by omega) (fun k hk hc => by omega))

theorem find_any (n : ByteArray) : ∀ (s : List Col) (k : Nat), (Sch.find n s k).isSome = s.any (fun x => decide (x.name = n))
  | [], _ => rfl
  | c :: r, k => by
    rw [Sch.find, List.any_cons]
    by_cases h : c.name = n
    · rw [if_pos h, decide_eq_true h]; rfl
    · rw [if_neg h, decide_eq_false h, find_any n r (k + 1)]; rfl

set_option maxRecDepth 100000 in
set_option maxHeartbeats 4000000 in
theorem refReadColumn7 (s : List Col) (ps : Option Addr) (cs : Nat) (p : Option Addr) (l : List UInt8) (c : Nat) (hl : l.length ≤ 140737488351232) (hlc : l.length ≤ c) (a : Nat) (w : World) (hs : s.length * 120 ≤ 140737488351232) (ha : a ≤ l.length) (hx : Cols w ps s) (hat : At w p l) :
    Calls Tryz.prog 34 #[.slice ps s.length cs, .slice p l.length c, .int .i64 a] w (ReadC w a (Sch.rdC s (l.drop a))) := by
  obtain ⟨R, hR⟩ : ∃ R, R = Sch.rdC s (l.drop a) := ⟨_, rfl⟩
  have HRd : Hid (R = Sch.rdC s (l.drop a)) := hR
  rw [← hR]
  clear hR
  obtain ⟨W1, hW1⟩ : ∃ W1, W1 = (w.alloc (.cells #[.string ⟨#[]⟩, .int .i64 0, .slice none 0 0, .bool false, .int .i64 0, .int .i64 0, .float .f64 0, .string ⟨#[]⟩, .slice none 0 0] 67)).alloc (.cells #[.string ⟨#[]⟩, .int .i64 0, .slice none 0 0, .bool false, .int .i64 0, .int .i64 0, .float .f64 0, .string ⟨#[]⟩, .slice none 0 0] 67) := ⟨_, rfl⟩
  have HBW : Hid (Below w.heap.size w W1) := by rw [hW1]; exact ((Below.refl _ _).alloc (Nat.le_refl _) _).alloc (by simp) _
  have hs1 : W1.heap.size = w.heap.size + 2 := by rw [hW1]; simp
  have HR0 : Hid (W1.heap[w.heap.size]? = some (.cells (cells9 ⟨#[]⟩ 0 none 0 0 false 0 0 0 ⟨#[]⟩ none 0 0) 67 (0, 0))) := by show _ = _; rw [hW1]; exact blk_first w _ _
  have HN0 : Hid (W1.heap[w.heap.size + 1]? = some (.cells (cells9 ⟨#[]⟩ 0 none 0 0 false 0 0 0 ⟨#[]⟩ none 0 0) 67 (0, 0))) := by show _ = _; rw [hW1]; exact blk_second w _ _
  have HW1 := Lib.hid hW1
  have HX := Lib.hid (hx.on HBW.out)
  have HA := Lib.hid (hat.on HBW.out)
  have HG := Lib.hid (refNum7 p c l a hl W1 HA.out)
  clear hW1 hx hat
  go_enter Tryz.func34, Tryz.ntmps34
  go_wp2_with fail
  rw [← HW1.out]
  refine HG.out.mono ?_
  rintro e w1 ⟨rfl, hw⟩
  rw [hw]
  clear hw w1 HG HW1
  cases hn : Sch.num (l.drop a) with
  | error er =>
    have her := num_err hn
    have g0 : ((er : Int) != 0) = true := by rw [bne_iff_ne]; omega
    have HE : Hid (R = .error er) := by show _ = _; rw [HRd.out, Sch.rdC, hn]
    simp only [numV]
    clear hn HRd her
    have hz0 : W1.heap[w.heap.size]? = some (.cells (cells9 ⟨#[]⟩ 0 none 0 0 false 0 0 0 ⟨#[]⟩ none 0 0) 67 (0, 0)) := ((Below.refl W1.heap.size W1).block _ (by omega)).trans HR0.out
    have hz1 : W1.heap[w.heap.size + 1]? = some (.cells (cells9 ⟨#[]⟩ 0 none 0 0 false 0 0 0 ⟨#[]⟩ none 0 0) 67 (0, 0)) := ((Below.refl W1.heap.size W1).block _ (by omega)).trans HN0.out
    have r0 : W1.cell? ⟨w.heap.size, 0, none⟩ = some (.string ⟨#[]⟩) := blk_cell hz0 0
    have r1 : W1.cell? ⟨w.heap.size, 1, none⟩ = some (.int .i64 0) := blk_cell hz0 1
    have r2 : W1.cell? ⟨w.heap.size, 2, none⟩ = some (.slice none 0 0) := blk_cell hz0 2
    have r3 : W1.cell? ⟨w.heap.size, 3, none⟩ = some (.bool false) := blk_cell hz0 3
    have r4 : W1.cell? ⟨w.heap.size, 4, none⟩ = some (.int .i64 0) := blk_cell hz0 4
    have r5 : W1.cell? ⟨w.heap.size, 5, none⟩ = some (.int .i64 0) := blk_cell hz0 5
    have r6 : W1.cell? ⟨w.heap.size, 6, none⟩ = some (.float .f64 0) := blk_cell hz0 6
    have r7 : W1.cell? ⟨w.heap.size, 7, none⟩ = some (.string ⟨#[]⟩) := blk_cell hz0 7
    have r8 : W1.cell? ⟨w.heap.size, 8, none⟩ = some (.slice none 0 0) := blk_cell hz0 8
    have rf0 := blk_free hz0 0
    have rf1 := blk_free hz0 1
    have rf2 := blk_free hz0 2
    have rf3 := blk_free hz0 3
    have rf4 := blk_free hz0 4
    have rf5 := blk_free hz0 5
    have rf6 := blk_free hz0 6
    have rf7 := blk_free hz0 7
    have rf8 := blk_free hz0 8
    have n0 : W1.cell? ⟨w.heap.size + 1, 0, none⟩ = some (.string ⟨#[]⟩) := blk_cell hz1 0
    have n1 : W1.cell? ⟨w.heap.size + 1, 1, none⟩ = some (.int .i64 0) := blk_cell hz1 1
    have n2 : W1.cell? ⟨w.heap.size + 1, 2, none⟩ = some (.slice none 0 0) := blk_cell hz1 2
    have n3 : W1.cell? ⟨w.heap.size + 1, 3, none⟩ = some (.bool false) := blk_cell hz1 3
    have n4 : W1.cell? ⟨w.heap.size + 1, 4, none⟩ = some (.int .i64 0) := blk_cell hz1 4
    have n5 : W1.cell? ⟨w.heap.size + 1, 5, none⟩ = some (.int .i64 0) := blk_cell hz1 5
    have n6 : W1.cell? ⟨w.heap.size + 1, 6, none⟩ = some (.float .f64 0) := blk_cell hz1 6
    have n7 : W1.cell? ⟨w.heap.size + 1, 7, none⟩ = some (.string ⟨#[]⟩) := blk_cell hz1 7
    have n8 : W1.cell? ⟨w.heap.size + 1, 8, none⟩ = some (.slice none 0 0) := blk_cell hz1 8
    have HF := Lib.hid (put9_fin (w := w) (F := fun _ => False) (c := ⟨⟨#[]⟩, .mk 0 [], false, V0⟩) hz0 (HBW.out.trans ((Below.refl W1.heap.size W1).mono (by omega))) (by have := (Below.refl W1.heap.size W1).size; omega) (zero_own _) (fun _ h => h.elim))
    clear hz0 hz1
    go_wp2
    refine bodyPost_ret (results_row3 rfl _ _ w.heap.size _ _ _ _ rfl HF.out.1 Tryz.underlying67 rfl (by kernel_rfl)) rfl ?_
    rw [HE.out]
    exact ⟨rfl, HF.out.2.2⟩
  | ok nk =>
    obtain ⟨n, k0⟩ := nk
    simp only [numV]
    rw [show ((a + k0 : Nat) : Int) = (a : Int) + (k0 : Int) by omega]
    by_cases hn0 : n = 0
    · have g0 : ((n : Int) == 0) = true := beq_t (by omega)
      have HE : Hid (R = .error 70) := by show _ = _; rw [HRd.out, Sch.rdC, hn]; dsimp only; rw [if_pos hn0]
      clear hn HRd hn0
      have hz0 : W1.heap[w.heap.size]? = some (.cells (cells9 ⟨#[]⟩ 0 none 0 0 false 0 0 0 ⟨#[]⟩ none 0 0) 67 (0, 0)) := ((Below.refl W1.heap.size W1).block _ (by omega)).trans HR0.out
      have hz1 : W1.heap[w.heap.size + 1]? = some (.cells (cells9 ⟨#[]⟩ 0 none 0 0 false 0 0 0 ⟨#[]⟩ none 0 0) 67 (0, 0)) := ((Below.refl W1.heap.size W1).block _ (by omega)).trans HN0.out
      have r0 : W1.cell? ⟨w.heap.size, 0, none⟩ = some (.string ⟨#[]⟩) := blk_cell hz0 0
      have r1 : W1.cell? ⟨w.heap.size, 1, none⟩ = some (.int .i64 0) := blk_cell hz0 1
      have r2 : W1.cell? ⟨w.heap.size, 2, none⟩ = some (.slice none 0 0) := blk_cell hz0 2
      have r3 : W1.cell? ⟨w.heap.size, 3, none⟩ = some (.bool false) := blk_cell hz0 3
      have r4 : W1.cell? ⟨w.heap.size, 4, none⟩ = some (.int .i64 0) := blk_cell hz0 4
      have r5 : W1.cell? ⟨w.heap.size, 5, none⟩ = some (.int .i64 0) := blk_cell hz0 5
      have r6 : W1.cell? ⟨w.heap.size, 6, none⟩ = some (.float .f64 0) := blk_cell hz0 6
      have r7 : W1.cell? ⟨w.heap.size, 7, none⟩ = some (.string ⟨#[]⟩) := blk_cell hz0 7
      have r8 : W1.cell? ⟨w.heap.size, 8, none⟩ = some (.slice none 0 0) := blk_cell hz0 8
      have rf0 := blk_free hz0 0
      have rf1 := blk_free hz0 1
      have rf2 := blk_free hz0 2
      have rf3 := blk_free hz0 3
      have rf4 := blk_free hz0 4
      have rf5 := blk_free hz0 5
      have rf6 := blk_free hz0 6
      have rf7 := blk_free hz0 7
      have rf8 := blk_free hz0 8
      have n0 : W1.cell? ⟨w.heap.size + 1, 0, none⟩ = some (.string ⟨#[]⟩) := blk_cell hz1 0
      have n1 : W1.cell? ⟨w.heap.size + 1, 1, none⟩ = some (.int .i64 0) := blk_cell hz1 1
      have n2 : W1.cell? ⟨w.heap.size + 1, 2, none⟩ = some (.slice none 0 0) := blk_cell hz1 2
      have n3 : W1.cell? ⟨w.heap.size + 1, 3, none⟩ = some (.bool false) := blk_cell hz1 3
      have n4 : W1.cell? ⟨w.heap.size + 1, 4, none⟩ = some (.int .i64 0) := blk_cell hz1 4
      have n5 : W1.cell? ⟨w.heap.size + 1, 5, none⟩ = some (.int .i64 0) := blk_cell hz1 5
      have n6 : W1.cell? ⟨w.heap.size + 1, 6, none⟩ = some (.float .f64 0) := blk_cell hz1 6
      have n7 : W1.cell? ⟨w.heap.size + 1, 7, none⟩ = some (.string ⟨#[]⟩) := blk_cell hz1 7
      have n8 : W1.cell? ⟨w.heap.size + 1, 8, none⟩ = some (.slice none 0 0) := blk_cell hz1 8
      have HF := Lib.hid (put9_fin (w := w) (F := fun _ => False) (c := ⟨⟨#[]⟩, .mk 0 [], false, V0⟩) hz0 (HBW.out.trans ((Below.refl W1.heap.size W1).mono (by omega))) (by have := (Below.refl W1.heap.size W1).size; omega) (zero_own _) (fun _ h => h.elim))
      clear hz0 hz1
      go_wp2
      refine bodyPost_ret (results_row3 rfl _ _ w.heap.size _ _ _ _ rfl HF.out.1 Tryz.underlying67 rfl (by kernel_rfl)) rfl ?_
      rw [HE.out]
      exact ⟨rfl, HF.out.2.2⟩
    have g0 : ((n : Int) == 0) = false := beq_f (by omega)
    have HRd1 : Hid (R = match Sch.text 16 70 (l.drop a) with
        | .error e => .error e
        | .ok (s_1, j) => if Sch.name s_1 = false then .error 70 else if s.any (fun x => decide (x.name = s_1)) then .error 71 else match Sch.rdT 4 ((l.drop a).drop j) with
          | .error e => .error e
          | .ok (t, j2) => match Sch.bit ((l.drop a).drop (j + j2)) with
            | .error e => .error e
            | .ok (h, j3) => if h = 0 then .ok (⟨s_1, t, false, V0⟩, j + j2 + j3) else match Sch.rdV t ((l.drop a).drop (j + j2 + j3)) with
              | .error e => .error e
              | .ok (v, j4) => .ok (⟨s_1, t, true, v⟩, j + j2 + j3 + j4)) := by
      show _ = _
      rw [HRd.out, Sch.rdC, hn]
      exact if_neg hn0
    have HT := Lib.hid (refText7 p l c a 16 70 hl hlc ha (by omega) W1 HA.out)
    clear hn HRd hn0
    go_wp2_with fail
    refine HT.out.mono ?_
    rintro e w1 ⟨rfl, hw⟩
    rw [hw]
    clear hw w1 HT
    cases hnm : Sch.text 16 70 (l.drop a) with
    | error er =>
      have her := text_err (by decide) hnm
      have g1 : ((er : Int) != 0) = true := by rw [bne_iff_ne]; omega
      have HE : Hid (R = .error er) := by show _ = _; rw [HRd1.out, hnm]
      simp only [textV]
      clear hnm HRd1 her
      have hz0 : W1.heap[w.heap.size]? = some (.cells (cells9 ⟨#[]⟩ 0 none 0 0 false 0 0 0 ⟨#[]⟩ none 0 0) 67 (0, 0)) := ((Below.refl W1.heap.size W1).block _ (by omega)).trans HR0.out
      have hz1 : W1.heap[w.heap.size + 1]? = some (.cells (cells9 ⟨#[]⟩ 0 none 0 0 false 0 0 0 ⟨#[]⟩ none 0 0) 67 (0, 0)) := ((Below.refl W1.heap.size W1).block _ (by omega)).trans HN0.out
      have r0 : W1.cell? ⟨w.heap.size, 0, none⟩ = some (.string ⟨#[]⟩) := blk_cell hz0 0
      have r1 : W1.cell? ⟨w.heap.size, 1, none⟩ = some (.int .i64 0) := blk_cell hz0 1
      have r2 : W1.cell? ⟨w.heap.size, 2, none⟩ = some (.slice none 0 0) := blk_cell hz0 2
      have r3 : W1.cell? ⟨w.heap.size, 3, none⟩ = some (.bool false) := blk_cell hz0 3
      have r4 : W1.cell? ⟨w.heap.size, 4, none⟩ = some (.int .i64 0) := blk_cell hz0 4
      have r5 : W1.cell? ⟨w.heap.size, 5, none⟩ = some (.int .i64 0) := blk_cell hz0 5
      have r6 : W1.cell? ⟨w.heap.size, 6, none⟩ = some (.float .f64 0) := blk_cell hz0 6
      have r7 : W1.cell? ⟨w.heap.size, 7, none⟩ = some (.string ⟨#[]⟩) := blk_cell hz0 7
      have r8 : W1.cell? ⟨w.heap.size, 8, none⟩ = some (.slice none 0 0) := blk_cell hz0 8
      have rf0 := blk_free hz0 0
      have rf1 := blk_free hz0 1
      have rf2 := blk_free hz0 2
      have rf3 := blk_free hz0 3
      have rf4 := blk_free hz0 4
      have rf5 := blk_free hz0 5
      have rf6 := blk_free hz0 6
      have rf7 := blk_free hz0 7
      have rf8 := blk_free hz0 8
      have n0 : W1.cell? ⟨w.heap.size + 1, 0, none⟩ = some (.string ⟨#[]⟩) := blk_cell hz1 0
      have n1 : W1.cell? ⟨w.heap.size + 1, 1, none⟩ = some (.int .i64 0) := blk_cell hz1 1
      have n2 : W1.cell? ⟨w.heap.size + 1, 2, none⟩ = some (.slice none 0 0) := blk_cell hz1 2
      have n3 : W1.cell? ⟨w.heap.size + 1, 3, none⟩ = some (.bool false) := blk_cell hz1 3
      have n4 : W1.cell? ⟨w.heap.size + 1, 4, none⟩ = some (.int .i64 0) := blk_cell hz1 4
      have n5 : W1.cell? ⟨w.heap.size + 1, 5, none⟩ = some (.int .i64 0) := blk_cell hz1 5
      have n6 : W1.cell? ⟨w.heap.size + 1, 6, none⟩ = some (.float .f64 0) := blk_cell hz1 6
      have n7 : W1.cell? ⟨w.heap.size + 1, 7, none⟩ = some (.string ⟨#[]⟩) := blk_cell hz1 7
      have n8 : W1.cell? ⟨w.heap.size + 1, 8, none⟩ = some (.slice none 0 0) := blk_cell hz1 8
      have HF := Lib.hid (put9_fin (w := w) (F := fun _ => False) (c := ⟨⟨#[]⟩, .mk 0 [], false, V0⟩) hz0 (HBW.out.trans ((Below.refl W1.heap.size W1).mono (by omega))) (by have := (Below.refl W1.heap.size W1).size; omega) (zero_own _) (fun _ h => h.elim))
      clear hz0 hz1
      go_wp2
      refine bodyPost_ret (results_row3 rfl _ _ w.heap.size _ _ _ _ rfl HF.out.1 Tryz.underlying67 rfl (by kernel_rfl)) rfl ?_
      rw [HE.out]
      exact ⟨rfl, HF.out.2.2⟩
    | ok nj =>
      obtain ⟨nm, j⟩ := nj
      simp only [textV]
      have hjl : a + j ≤ l.length := by
        obtain ⟨-, -, h3, r, h4⟩ := Sch.text_ok hnm
        have hq := congrArg List.length h4
        have hss : nm.data.toList.length = nm.size := by rw [Array.length_toList]; rfl
        rw [List.length_drop, List.length_append, List.length_append] at hq
        omega
      have HRd2 : Hid (R = if Sch.name nm = false then .error 70 else if s.any (fun x => decide (x.name = nm)) then .error 71 else match Sch.rdT 4 (l.drop (a + j)) with
          | .error e => .error e
          | .ok (t, j2) => match Sch.bit (l.drop (a + j + j2)) with
            | .error e => .error e
            | .ok (h, j3) => if h = 0 then .ok (⟨nm, t, false, V0⟩, j + j2 + j3) else match Sch.rdV t (l.drop (a + j + j2 + j3)) with
              | .error e => .error e
              | .ok (v, j4) => .ok (⟨nm, t, true, v⟩, j + j2 + j3 + j4)) := by
        show _ = _
        rw [HRd1.out, hnm]
        simp only [List.drop_drop, Nat.add_assoc]
      rw [show ((a + j : Nat) : Int) = (a : Int) + (j : Int) by omega]
      clear hnm HRd1
      obtain ⟨rn, hrn⟩ : ∃ rn, rn = Sch.name nm := ⟨_, rfl⟩
      have HNm := Lib.hid (refName7 nm W1)
      rw [← hrn] at HNm HRd2
      clear hrn
      go_wp2_with fail
      refine HNm.out.mono ?_
      rintro e w1 ⟨rfl, hw⟩
      rw [hw]
      clear hw w1 HNm
      cases rn with
      | false =>
        have HE : Hid (R = .error 70) := HRd2.out
        clear HRd2
        have hz0 : W1.heap[w.heap.size]? = some (.cells (cells9 ⟨#[]⟩ 0 none 0 0 false 0 0 0 ⟨#[]⟩ none 0 0) 67 (0, 0)) := ((Below.refl W1.heap.size W1).block _ (by omega)).trans HR0.out
        have hz1 : W1.heap[w.heap.size + 1]? = some (.cells (cells9 ⟨#[]⟩ 0 none 0 0 false 0 0 0 ⟨#[]⟩ none 0 0) 67 (0, 0)) := ((Below.refl W1.heap.size W1).block _ (by omega)).trans HN0.out
        have r0 : W1.cell? ⟨w.heap.size, 0, none⟩ = some (.string ⟨#[]⟩) := blk_cell hz0 0
        have r1 : W1.cell? ⟨w.heap.size, 1, none⟩ = some (.int .i64 0) := blk_cell hz0 1
        have r2 : W1.cell? ⟨w.heap.size, 2, none⟩ = some (.slice none 0 0) := blk_cell hz0 2
        have r3 : W1.cell? ⟨w.heap.size, 3, none⟩ = some (.bool false) := blk_cell hz0 3
        have r4 : W1.cell? ⟨w.heap.size, 4, none⟩ = some (.int .i64 0) := blk_cell hz0 4
        have r5 : W1.cell? ⟨w.heap.size, 5, none⟩ = some (.int .i64 0) := blk_cell hz0 5
        have r6 : W1.cell? ⟨w.heap.size, 6, none⟩ = some (.float .f64 0) := blk_cell hz0 6
        have r7 : W1.cell? ⟨w.heap.size, 7, none⟩ = some (.string ⟨#[]⟩) := blk_cell hz0 7
        have r8 : W1.cell? ⟨w.heap.size, 8, none⟩ = some (.slice none 0 0) := blk_cell hz0 8
        have rf0 := blk_free hz0 0
        have rf1 := blk_free hz0 1
        have rf2 := blk_free hz0 2
        have rf3 := blk_free hz0 3
        have rf4 := blk_free hz0 4
        have rf5 := blk_free hz0 5
        have rf6 := blk_free hz0 6
        have rf7 := blk_free hz0 7
        have rf8 := blk_free hz0 8
        have n0 : W1.cell? ⟨w.heap.size + 1, 0, none⟩ = some (.string ⟨#[]⟩) := blk_cell hz1 0
        have n1 : W1.cell? ⟨w.heap.size + 1, 1, none⟩ = some (.int .i64 0) := blk_cell hz1 1
        have n2 : W1.cell? ⟨w.heap.size + 1, 2, none⟩ = some (.slice none 0 0) := blk_cell hz1 2
        have n3 : W1.cell? ⟨w.heap.size + 1, 3, none⟩ = some (.bool false) := blk_cell hz1 3
        have n4 : W1.cell? ⟨w.heap.size + 1, 4, none⟩ = some (.int .i64 0) := blk_cell hz1 4
        have n5 : W1.cell? ⟨w.heap.size + 1, 5, none⟩ = some (.int .i64 0) := blk_cell hz1 5
        have n6 : W1.cell? ⟨w.heap.size + 1, 6, none⟩ = some (.float .f64 0) := blk_cell hz1 6
        have n7 : W1.cell? ⟨w.heap.size + 1, 7, none⟩ = some (.string ⟨#[]⟩) := blk_cell hz1 7
        have n8 : W1.cell? ⟨w.heap.size + 1, 8, none⟩ = some (.slice none 0 0) := blk_cell hz1 8
        have HF := Lib.hid (put9_fin (w := w) (F := fun _ => False) (c := ⟨⟨#[]⟩, .mk 0 [], false, V0⟩) hz0 (HBW.out.trans ((Below.refl W1.heap.size W1).mono (by omega))) (by have := (Below.refl W1.heap.size W1).size; omega) (zero_own _) (fun _ h => h.elim))
        clear hz0 hz1
        go_wp2
        refine bodyPost_ret (results_row3 rfl _ _ w.heap.size _ _ _ _ rfl HF.out.1 Tryz.underlying67 rfl (by kernel_rfl)) rfl ?_
        rw [HE.out]
        exact ⟨rfl, HF.out.2.2⟩
      | true =>
        have HRd3 := Lib.hid (HRd2.out.trans (if_neg (by decide)))
        have HFd := Lib.hid (refFind7 s nm ps cs W1 hs HX.out)
        have hfa := find_any nm s 0
        clear HRd2
        go_wp2_with fail
        refine HFd.out.mono ?_
        rintro e w2 ⟨rfl, hb2⟩
        have HB2 := Lib.hid hb2
        have hs2 := hb2.size
        clear HFd hb2
        cases hfd : Sch.find nm s 0 with
        | some kf =>
          rw [hfd] at hfa
          have HE : Hid (R = .error 71) := by show _ = _; rw [HRd3.out, if_pos (by rw [← hfa]; rfl)]
          simp only [foundV]
          clear HRd3 hfd hfa
          have hz0 : w2.heap[w.heap.size]? = some (.cells (cells9 ⟨#[]⟩ 0 none 0 0 false 0 0 0 ⟨#[]⟩ none 0 0) 67 (0, 0)) := (HB2.out.block _ (by omega)).trans HR0.out
          have hz1 : w2.heap[w.heap.size + 1]? = some (.cells (cells9 ⟨#[]⟩ 0 none 0 0 false 0 0 0 ⟨#[]⟩ none 0 0) 67 (0, 0)) := (HB2.out.block _ (by omega)).trans HN0.out
          have r0 : w2.cell? ⟨w.heap.size, 0, none⟩ = some (.string ⟨#[]⟩) := blk_cell hz0 0
          have r1 : w2.cell? ⟨w.heap.size, 1, none⟩ = some (.int .i64 0) := blk_cell hz0 1
          have r2 : w2.cell? ⟨w.heap.size, 2, none⟩ = some (.slice none 0 0) := blk_cell hz0 2
          have r3 : w2.cell? ⟨w.heap.size, 3, none⟩ = some (.bool false) := blk_cell hz0 3
          have r4 : w2.cell? ⟨w.heap.size, 4, none⟩ = some (.int .i64 0) := blk_cell hz0 4
          have r5 : w2.cell? ⟨w.heap.size, 5, none⟩ = some (.int .i64 0) := blk_cell hz0 5
          have r6 : w2.cell? ⟨w.heap.size, 6, none⟩ = some (.float .f64 0) := blk_cell hz0 6
          have r7 : w2.cell? ⟨w.heap.size, 7, none⟩ = some (.string ⟨#[]⟩) := blk_cell hz0 7
          have r8 : w2.cell? ⟨w.heap.size, 8, none⟩ = some (.slice none 0 0) := blk_cell hz0 8
          have rf0 := blk_free hz0 0
          have rf1 := blk_free hz0 1
          have rf2 := blk_free hz0 2
          have rf3 := blk_free hz0 3
          have rf4 := blk_free hz0 4
          have rf5 := blk_free hz0 5
          have rf6 := blk_free hz0 6
          have rf7 := blk_free hz0 7
          have rf8 := blk_free hz0 8
          have n0 : w2.cell? ⟨w.heap.size + 1, 0, none⟩ = some (.string ⟨#[]⟩) := blk_cell hz1 0
          have n1 : w2.cell? ⟨w.heap.size + 1, 1, none⟩ = some (.int .i64 0) := blk_cell hz1 1
          have n2 : w2.cell? ⟨w.heap.size + 1, 2, none⟩ = some (.slice none 0 0) := blk_cell hz1 2
          have n3 : w2.cell? ⟨w.heap.size + 1, 3, none⟩ = some (.bool false) := blk_cell hz1 3
          have n4 : w2.cell? ⟨w.heap.size + 1, 4, none⟩ = some (.int .i64 0) := blk_cell hz1 4
          have n5 : w2.cell? ⟨w.heap.size + 1, 5, none⟩ = some (.int .i64 0) := blk_cell hz1 5
          have n6 : w2.cell? ⟨w.heap.size + 1, 6, none⟩ = some (.float .f64 0) := blk_cell hz1 6
          have n7 : w2.cell? ⟨w.heap.size + 1, 7, none⟩ = some (.string ⟨#[]⟩) := blk_cell hz1 7
          have n8 : w2.cell? ⟨w.heap.size + 1, 8, none⟩ = some (.slice none 0 0) := blk_cell hz1 8
          have HF := Lib.hid (put9_fin (w := w) (F := fun _ => False) (c := ⟨⟨#[]⟩, .mk 0 [], false, V0⟩) hz0 (HBW.out.trans (HB2.out.mono (by omega))) (by have := HB2.out.size; omega) (zero_own _) (fun _ h => h.elim))
          clear hz0 hz1
          go_wp2
          refine bodyPost_ret (results_row3 rfl _ _ w.heap.size _ _ _ _ rfl HF.out.1 Tryz.underlying67 rfl (by kernel_rfl)) rfl ?_
          rw [HE.out]
          exact ⟨rfl, HF.out.2.2⟩
        | none =>
          rw [hfd] at hfa
          have HRd4 := Lib.hid (HRd3.out.trans (if_neg (by rw [← hfa]; decide)))
          simp only [foundV]
          clear HRd3 hfd hfa
          have HTy := refReadType7 p l c hl 4 (a + j) w2 (by omega) hjl (HA.out.on HB2.out)
          rw [show ((a + j : Nat) : Int) = (a : Int) + (j : Int) by omega] at HTy
          replace HTy := Lib.hid HTy
          go_wp2_with fail
          refine HTy.out.mono ?_
          intro e w3 hr3
          cases hty : Sch.rdT 4 (l.drop (a + j)) with
          | error er =>
            rw [hty] at hr3
            obtain ⟨rfl, hb3⟩ := hr3
            have her := rdT_err 4 _ er hty
            have g1 : ((er : Int) != 0) = true := by rw [bne_iff_ne]; omega
            have HE : Hid (R = .error er) := by show _ = _; rw [HRd4.out, hty]
            have HB3 := Lib.hid (HB2.out.trans (hb3.mono (by omega)))
            have hs3 := hb3.size
            unfold cells2
            clear hty her HRd4 HTy hb3
            obtain ⟨wz, hwz⟩ : ∃ wz, wz = w3.alloc (.cells #[.int .i64 0, .slice none 0 0] 61) := ⟨_, rfl⟩
            have hbz : Below W1.heap.size W1 wz := by rw [hwz]; exact HB3.out.alloc HB3.out.size _
            have HWZ := Lib.hid hwz
            have hz0 : wz.heap[w.heap.size]? = some (.cells (cells9 ⟨#[]⟩ 0 none 0 0 false 0 0 0 ⟨#[]⟩ none 0 0) 67 (0, 0)) := (hbz.block _ (by omega)).trans HR0.out
            have hz1 : wz.heap[w.heap.size + 1]? = some (.cells (cells9 ⟨#[]⟩ 0 none 0 0 false 0 0 0 ⟨#[]⟩ none 0 0) 67 (0, 0)) := (hbz.block _ (by omega)).trans HN0.out
            have r0 : wz.cell? ⟨w.heap.size, 0, none⟩ = some (.string ⟨#[]⟩) := blk_cell hz0 0
            have r1 : wz.cell? ⟨w.heap.size, 1, none⟩ = some (.int .i64 0) := blk_cell hz0 1
            have r2 : wz.cell? ⟨w.heap.size, 2, none⟩ = some (.slice none 0 0) := blk_cell hz0 2
            have r3 : wz.cell? ⟨w.heap.size, 3, none⟩ = some (.bool false) := blk_cell hz0 3
            have r4 : wz.cell? ⟨w.heap.size, 4, none⟩ = some (.int .i64 0) := blk_cell hz0 4
            have r5 : wz.cell? ⟨w.heap.size, 5, none⟩ = some (.int .i64 0) := blk_cell hz0 5
            have r6 : wz.cell? ⟨w.heap.size, 6, none⟩ = some (.float .f64 0) := blk_cell hz0 6
            have r7 : wz.cell? ⟨w.heap.size, 7, none⟩ = some (.string ⟨#[]⟩) := blk_cell hz0 7
            have r8 : wz.cell? ⟨w.heap.size, 8, none⟩ = some (.slice none 0 0) := blk_cell hz0 8
            have rf0 := blk_free hz0 0
            have rf1 := blk_free hz0 1
            have rf2 := blk_free hz0 2
            have rf3 := blk_free hz0 3
            have rf4 := blk_free hz0 4
            have rf5 := blk_free hz0 5
            have rf6 := blk_free hz0 6
            have rf7 := blk_free hz0 7
            have rf8 := blk_free hz0 8
            have n0 : wz.cell? ⟨w.heap.size + 1, 0, none⟩ = some (.string ⟨#[]⟩) := blk_cell hz1 0
            have n1 : wz.cell? ⟨w.heap.size + 1, 1, none⟩ = some (.int .i64 0) := blk_cell hz1 1
            have n2 : wz.cell? ⟨w.heap.size + 1, 2, none⟩ = some (.slice none 0 0) := blk_cell hz1 2
            have n3 : wz.cell? ⟨w.heap.size + 1, 3, none⟩ = some (.bool false) := blk_cell hz1 3
            have n4 : wz.cell? ⟨w.heap.size + 1, 4, none⟩ = some (.int .i64 0) := blk_cell hz1 4
            have n5 : wz.cell? ⟨w.heap.size + 1, 5, none⟩ = some (.int .i64 0) := blk_cell hz1 5
            have n6 : wz.cell? ⟨w.heap.size + 1, 6, none⟩ = some (.float .f64 0) := blk_cell hz1 6
            have n7 : wz.cell? ⟨w.heap.size + 1, 7, none⟩ = some (.string ⟨#[]⟩) := blk_cell hz1 7
            have n8 : wz.cell? ⟨w.heap.size + 1, 8, none⟩ = some (.slice none 0 0) := blk_cell hz1 8
            have HF := Lib.hid (put9_fin (w := w) (F := fun _ => False) (c := ⟨⟨#[]⟩, .mk 0 [], false, V0⟩) hz0 (HBW.out.trans (hbz.mono (by omega))) (by have := hbz.size; omega) (zero_own _) (fun _ h => h.elim))
            clear hz0 hz1
            rw [hwz] at r0 r1 r2 r3 r4 r5 r6 r7 r8 rf0 rf1 rf2 rf3 rf4 rf5 rf6 rf7 rf8 n0 n1 n2 n3 n4 n5 n6 n7 n8
            clear hwz hbz 
            go_wp2
            rw [← HWZ.out]
            refine bodyPost_ret (results_row3 rfl _ _ w.heap.size _ _ _ _ rfl HF.out.1 Tryz.underlying67 rfl (by kernel_rfl)) rfl ?_
            rw [HE.out]
            exact ⟨rfl, HF.out.2.2⟩
          | ok tj =>
            obtain ⟨ty, j2⟩ := tj
            rw [hty] at hr3
            obtain ⟨ut, rfl, hot, hb3⟩ := hr3
            obtain ⟨kt, tp, tn, tc, rfl⟩ := hot.shape
            obtain ⟨ht1, ⟨rt, ht2⟩, htc, -⟩ := Sch.rdT_ok 4 _ _ _ (by omega) hty
            have hjl2 : a + j + j2 ≤ l.length := by
              have hq := congrArg List.length ht2
              rw [List.length_drop, List.length_append] at hq
              omega
            have HRd5 : Hid (R = match Sch.bit (l.drop (a + j + j2)) with
              | .error e => .error e
              | .ok (h, j3) => if h = 0 then .ok (⟨nm, ty, false, V0⟩, j + j2 + j3) else match Sch.rdV ty (l.drop (a + j + j2 + j3)) with
                | .error e => .error e
                | .ok (v, j4) => .ok (⟨nm, ty, true, v⟩, j + j2 + j3 + j4)) := by show _ = _; rw [HRd4.out, hty]
            have HB3 := Lib.hid (HB2.out.trans (hb3.mono (by omega)))
            have hs3 := hb3.size
            have HOt := Lib.hid hot
            -- the type's own block
            obtain ⟨w4, hw4⟩ : ∃ w4, w4 = w3.alloc (.cells #[.int .i64 kt, .slice tp tn tc] 61) := ⟨_, rfl⟩
            have HB34 : Hid (Below w3.heap.size w3 w4) := by rw [hw4]; exact (Below.refl _ _).alloc (Nat.le_refl _) _
            have hs4 : w4.heap.size = w3.heap.size + 1 := by rw [hw4]; simp
            have HB4 := Lib.hid (HB3.out.trans (HB34.out.mono HB3.out.size))
            have HT4 : Hid (w4.cell? ⟨w3.heap.size, 0, none⟩ = some (.int .i64 kt) ∧ w4.cell? ⟨w3.heap.size, 1, none⟩ = some (.slice tp tn tc)) := by rw [hw4]; exact ⟨by simp, by simp⟩
            have HW4 := Lib.hid hw4
            have hbit := refBit7 p l c (a + j + j2) hl hjl2 w4 (HA.out.on HB4.out)
            have eint : ((a + j + j2 : Nat) : Int) = (a : Int) + (j : Int) + (j2 : Int) := by omega
            rw [eint] at hbit
            have HBit := Lib.hid hbit
            have eint2 : ((a + j : Nat) : Int) + (j2 : Int) = (a : Int) + (j : Int) + (j2 : Int) := by omega
            rw [show ((a + j + j2 : Nat) : Int) = (a : Int) + (j : Int) + (j2 : Int) by omega]
            unfold cells2
            clear hty hot hb3 ht1 ht2 HRd4 HTy hw4 hbit eint eint2
            go_wp2_with fail
            rw [← HW4.out]
            refine HBit.out.mono ?_
            rintro e w5 ⟨rfl, hw⟩
            rw [hw]
            clear hw w5 HBit HW4
            cases hbt : Sch.bit (l.drop (a + j + j2)) with
            | error er =>
              have her := bit_err hbt
              have g1 : ((er : Int) != 0) = true := by rw [bne_iff_ne]; omega
              have HE : Hid (R = .error er) := by show _ = _; rw [HRd5.out, hbt]
              simp only [bitV]
              clear hbt her HRd5
              have hz0 : w4.heap[w.heap.size]? = some (.cells (cells9 ⟨#[]⟩ 0 none 0 0 false 0 0 0 ⟨#[]⟩ none 0 0) 67 (0, 0)) := (HB4.out.block _ (by omega)).trans HR0.out
              have hz1 : w4.heap[w.heap.size + 1]? = some (.cells (cells9 ⟨#[]⟩ 0 none 0 0 false 0 0 0 ⟨#[]⟩ none 0 0) 67 (0, 0)) := (HB4.out.block _ (by omega)).trans HN0.out
              have r0 : w4.cell? ⟨w.heap.size, 0, none⟩ = some (.string ⟨#[]⟩) := blk_cell hz0 0
              have r1 : w4.cell? ⟨w.heap.size, 1, none⟩ = some (.int .i64 0) := blk_cell hz0 1
              have r2 : w4.cell? ⟨w.heap.size, 2, none⟩ = some (.slice none 0 0) := blk_cell hz0 2
              have r3 : w4.cell? ⟨w.heap.size, 3, none⟩ = some (.bool false) := blk_cell hz0 3
              have r4 : w4.cell? ⟨w.heap.size, 4, none⟩ = some (.int .i64 0) := blk_cell hz0 4
              have r5 : w4.cell? ⟨w.heap.size, 5, none⟩ = some (.int .i64 0) := blk_cell hz0 5
              have r6 : w4.cell? ⟨w.heap.size, 6, none⟩ = some (.float .f64 0) := blk_cell hz0 6
              have r7 : w4.cell? ⟨w.heap.size, 7, none⟩ = some (.string ⟨#[]⟩) := blk_cell hz0 7
              have r8 : w4.cell? ⟨w.heap.size, 8, none⟩ = some (.slice none 0 0) := blk_cell hz0 8
              have rf0 := blk_free hz0 0
              have rf1 := blk_free hz0 1
              have rf2 := blk_free hz0 2
              have rf3 := blk_free hz0 3
              have rf4 := blk_free hz0 4
              have rf5 := blk_free hz0 5
              have rf6 := blk_free hz0 6
              have rf7 := blk_free hz0 7
              have rf8 := blk_free hz0 8
              have n0 : w4.cell? ⟨w.heap.size + 1, 0, none⟩ = some (.string ⟨#[]⟩) := blk_cell hz1 0
              have n1 : w4.cell? ⟨w.heap.size + 1, 1, none⟩ = some (.int .i64 0) := blk_cell hz1 1
              have n2 : w4.cell? ⟨w.heap.size + 1, 2, none⟩ = some (.slice none 0 0) := blk_cell hz1 2
              have n3 : w4.cell? ⟨w.heap.size + 1, 3, none⟩ = some (.bool false) := blk_cell hz1 3
              have n4 : w4.cell? ⟨w.heap.size + 1, 4, none⟩ = some (.int .i64 0) := blk_cell hz1 4
              have n5 : w4.cell? ⟨w.heap.size + 1, 5, none⟩ = some (.int .i64 0) := blk_cell hz1 5
              have n6 : w4.cell? ⟨w.heap.size + 1, 6, none⟩ = some (.float .f64 0) := blk_cell hz1 6
              have n7 : w4.cell? ⟨w.heap.size + 1, 7, none⟩ = some (.string ⟨#[]⟩) := blk_cell hz1 7
              have n8 : w4.cell? ⟨w.heap.size + 1, 8, none⟩ = some (.slice none 0 0) := blk_cell hz1 8
              have HF := Lib.hid (put9_fin (w := w) (F := fun _ => False) (c := ⟨⟨#[]⟩, .mk 0 [], false, V0⟩) hz0 (HBW.out.trans (HB4.out.mono (by omega))) (by have := HB4.out.size; omega) (zero_own _) (fun _ h => h.elim))
              clear hz0 hz1
              go_wp2
              refine bodyPost_ret (results_row3 rfl _ _ w.heap.size _ _ _ _ rfl HF.out.1 Tryz.underlying67 rfl (by kernel_rfl)) rfl ?_
              rw [HE.out]
              exact ⟨rfl, HF.out.2.2⟩
            | ok hj =>
              obtain ⟨hh, j3⟩ := hj
              have hbo := Sch.bit_ok hbt
              have hh1 := hbo.1
              have hjl3 : a + j + j2 + j3 ≤ l.length := by
                obtain ⟨-, h1, r, hr⟩ := hbo
                have hq := congrArg List.length hr
                rw [List.length_drop, List.length_cons] at hq
                omega
              have HRd6 : Hid (R = if hh = 0 then .ok (⟨nm, ty, false, V0⟩, j + j2 + j3) else match Sch.rdV ty (l.drop (a + j + j2 + j3)) with
                | .error e => .error e
                | .ok (v, j4) => .ok (⟨nm, ty, true, v⟩, j + j2 + j3 + j4)) := by show _ = _; rw [HRd5.out, hbt]
              simp only [bitV]
              rw [show ((a + j + j2 + j3 : Nat) : Int) = (a : Int) + (j : Int) + (j2 : Int) + (j3 : Int) by omega]
              clear hbt hbo HRd5
              obtain ⟨t0, t1⟩ := HT4.out
              have hz0 : w4.heap[w.heap.size]? = some (.cells (cells9 ⟨#[]⟩ 0 none 0 0 false 0 0 0 ⟨#[]⟩ none 0 0) 67 (0, 0)) := (HB4.out.block _ (by omega)).trans HR0.out
              by_cases hh0 : hh = 0
              · have g1 : ((hh : Int) == 0) = true := beq_t (by omega)
                have HE : Hid (R = .ok (⟨nm, ty, false, V0⟩, j + j2 + j3)) := by show _ = _; rw [HRd6.out, if_pos hh0]
                have hown : COwn w4 (fun k => w2.heap.size ≤ k ∧ k < w3.heap.size) (cells9 nm kt tp tn tc false 0 0 0 ⟨#[]⟩ none 0 0) ⟨nm, ty, false, V0⟩ :=
                  ⟨fun k => w2.heap.size ≤ k ∧ k < w3.heap.size, fun _ => False, kt, tp, tn, tc, 0, 0, 0, ⟨#[]⟩, none, 0, 0, rfl, HOt.out.under HB34.out (fun k hk => hk.2), VOwn.none, fun _ h => h, fun _ h => h.elim, fun _ _ h => h⟩
                have r0 : w4.cell? ⟨w.heap.size, 0, none⟩ = some (.string ⟨#[]⟩) := blk_cell hz0 0
                have r1 : w4.cell? ⟨w.heap.size, 1, none⟩ = some (.int .i64 0) := blk_cell hz0 1
                have r2 : w4.cell? ⟨w.heap.size, 2, none⟩ = some (.slice none 0 0) := blk_cell hz0 2
                have r3 : w4.cell? ⟨w.heap.size, 3, none⟩ = some (.bool false) := blk_cell hz0 3
                have r4 : w4.cell? ⟨w.heap.size, 4, none⟩ = some (.int .i64 0) := blk_cell hz0 4
                have r5 : w4.cell? ⟨w.heap.size, 5, none⟩ = some (.int .i64 0) := blk_cell hz0 5
                have r6 : w4.cell? ⟨w.heap.size, 6, none⟩ = some (.float .f64 0) := blk_cell hz0 6
                have r7 : w4.cell? ⟨w.heap.size, 7, none⟩ = some (.string ⟨#[]⟩) := blk_cell hz0 7
                have r8 : w4.cell? ⟨w.heap.size, 8, none⟩ = some (.slice none 0 0) := blk_cell hz0 8
                have rf0 := blk_free hz0 0
                have rf1 := blk_free hz0 1
                have rf2 := blk_free hz0 2
                have rf3 := blk_free hz0 3
                have rf4 := blk_free hz0 4
                have rf5 := blk_free hz0 5
                have rf6 := blk_free hz0 6
                have rf7 := blk_free hz0 7
                have rf8 := blk_free hz0 8
                have HF := Lib.hid (put9_fin (w := w) hz0 (HBW.out.trans (HB4.out.mono (by omega))) (by omega) hown (fun k hk => ⟨by omega, by omega⟩))
                clear hz0 hown HRd6 hh0
                go_wp2
                refine bodyPost_ret (results_row3 rfl _ _ w.heap.size _ _ _ _ rfl HF.out.1 Tryz.underlying67 rfl (by kernel_rfl)) rfl ?_
                rw [HE.out]
                exact ⟨_, by rw [show ((a + (j + j2 + j3) : Nat) : Int) = (a : Int) + (j : Int) + (j2 : Int) + (j3 : Int) by omega]; rfl, HF.out.2.1, HF.out.2.2⟩
              · have g1 : ((hh : Int) == 0) = false := beq_f (by omega)
                have hva := refValueAt7 p l c hl hlc ty 1 (a + j + j2 + j3) w4 (cells2 kt tp tn tc) htc ((HOt.out.lies).on HB34.out) hjl3 (HA.out.on HB4.out)
                rw [show ((a + j + j2 + j3 : Nat) : Int) = (a : Int) + (j : Int) + (j2 : Int) + (j3 : Int) by omega] at hva
                unfold cells2 at hva
                have HVa := Lib.hid hva
                clear hva hh0
                have HRd7 : Hid (R = match Sch.rdV ty (l.drop (a + j + j2 + j3)) with
                  | .error e => .error e
                  | .ok (v, j4) => .ok (⟨nm, ty, true, v⟩, j + j2 + j3 + j4)) := by
                  show _ = _
                  rw [HRd6.out]
                  exact if_neg (by intro hc; rw [hc] at g1; simp at g1)
                clear HRd6 hz0
                go_wp2_with fail
                refine HVa.out.mono ?_
                intro e w5 hr5
                cases hvr : Sch.rdV ty (l.drop (a + j + j2 + j3)) with
                | error er =>
                  rw [hvr] at hr5
                  obtain ⟨rfl, hb5⟩ := hr5
                  have her := rdV_err ty 1 _ er htc hvr
                  have g2 : ((er : Int) != 0) = true := by rw [bne_iff_ne]; omega
                  have HE : Hid (R = .error er) := by show _ = _; rw [HRd7.out, hvr]
                  have HB5 := Lib.hid (HB4.out.trans (hb5.mono HB4.out.size))
                  have hs5 := hb5.size
                  unfold cells5
                  clear hvr her HRd7 HVa hb5 t0 t1
                  obtain ⟨wz, hwz⟩ : ∃ wz, wz = w5.alloc (.cells #[.int .i64 0, .int .i64 0, .float .f64 0, .string ⟨#[]⟩, .slice none 0 0] 65) := ⟨_, rfl⟩
                  have hbz : Below W1.heap.size W1 wz := by rw [hwz]; exact HB5.out.alloc HB5.out.size _
                  have HWZ := Lib.hid hwz
                  have hz0 : wz.heap[w.heap.size]? = some (.cells (cells9 ⟨#[]⟩ 0 none 0 0 false 0 0 0 ⟨#[]⟩ none 0 0) 67 (0, 0)) := (hbz.block _ (by omega)).trans HR0.out
                  have hz1 : wz.heap[w.heap.size + 1]? = some (.cells (cells9 ⟨#[]⟩ 0 none 0 0 false 0 0 0 ⟨#[]⟩ none 0 0) 67 (0, 0)) := (hbz.block _ (by omega)).trans HN0.out
                  have r0 : wz.cell? ⟨w.heap.size, 0, none⟩ = some (.string ⟨#[]⟩) := blk_cell hz0 0
                  have r1 : wz.cell? ⟨w.heap.size, 1, none⟩ = some (.int .i64 0) := blk_cell hz0 1
                  have r2 : wz.cell? ⟨w.heap.size, 2, none⟩ = some (.slice none 0 0) := blk_cell hz0 2
                  have r3 : wz.cell? ⟨w.heap.size, 3, none⟩ = some (.bool false) := blk_cell hz0 3
                  have r4 : wz.cell? ⟨w.heap.size, 4, none⟩ = some (.int .i64 0) := blk_cell hz0 4
                  have r5 : wz.cell? ⟨w.heap.size, 5, none⟩ = some (.int .i64 0) := blk_cell hz0 5
                  have r6 : wz.cell? ⟨w.heap.size, 6, none⟩ = some (.float .f64 0) := blk_cell hz0 6
                  have r7 : wz.cell? ⟨w.heap.size, 7, none⟩ = some (.string ⟨#[]⟩) := blk_cell hz0 7
                  have r8 : wz.cell? ⟨w.heap.size, 8, none⟩ = some (.slice none 0 0) := blk_cell hz0 8
                  have rf0 := blk_free hz0 0
                  have rf1 := blk_free hz0 1
                  have rf2 := blk_free hz0 2
                  have rf3 := blk_free hz0 3
                  have rf4 := blk_free hz0 4
                  have rf5 := blk_free hz0 5
                  have rf6 := blk_free hz0 6
                  have rf7 := blk_free hz0 7
                  have rf8 := blk_free hz0 8
                  have n0 : wz.cell? ⟨w.heap.size + 1, 0, none⟩ = some (.string ⟨#[]⟩) := blk_cell hz1 0
                  have n1 : wz.cell? ⟨w.heap.size + 1, 1, none⟩ = some (.int .i64 0) := blk_cell hz1 1
                  have n2 : wz.cell? ⟨w.heap.size + 1, 2, none⟩ = some (.slice none 0 0) := blk_cell hz1 2
                  have n3 : wz.cell? ⟨w.heap.size + 1, 3, none⟩ = some (.bool false) := blk_cell hz1 3
                  have n4 : wz.cell? ⟨w.heap.size + 1, 4, none⟩ = some (.int .i64 0) := blk_cell hz1 4
                  have n5 : wz.cell? ⟨w.heap.size + 1, 5, none⟩ = some (.int .i64 0) := blk_cell hz1 5
                  have n6 : wz.cell? ⟨w.heap.size + 1, 6, none⟩ = some (.float .f64 0) := blk_cell hz1 6
                  have n7 : wz.cell? ⟨w.heap.size + 1, 7, none⟩ = some (.string ⟨#[]⟩) := blk_cell hz1 7
                  have n8 : wz.cell? ⟨w.heap.size + 1, 8, none⟩ = some (.slice none 0 0) := blk_cell hz1 8
                  have HF := Lib.hid (put9_fin (w := w) (F := fun _ => False) (c := ⟨⟨#[]⟩, .mk 0 [], false, V0⟩) hz0 (HBW.out.trans (hbz.mono (by omega))) (by have := hbz.size; omega) (zero_own _) (fun _ h => h.elim))
                  clear hz0 hz1
                  rw [hwz] at r0 r1 r2 r3 r4 r5 r6 r7 r8 rf0 rf1 rf2 rf3 rf4 rf5 rf6 rf7 rf8 n0 n1 n2 n3 n4 n5 n6 n7 n8
                  clear hwz hbz 
                  go_wp2
                  rw [← HWZ.out]
                  refine bodyPost_ret (results_row3 rfl _ _ w.heap.size _ _ _ _ rfl HF.out.1 Tryz.underlying67 rfl (by kernel_rfl)) rfl ?_
                  rw [HE.out]
                  exact ⟨rfl, HF.out.2.2⟩
                | ok vj =>
                  obtain ⟨vv, j4⟩ := vj
                  rw [hvr] at hr5
                  obtain ⟨uv, rfl, hov, hb5⟩ := hr5
                  obtain ⟨vk, vi, vb, vt, vp, vn, vc, rfl⟩ := hov.shape
                  have HE : Hid (R = .ok (⟨nm, ty, true, vv⟩, j + j2 + j3 + j4)) := by show _ = _; rw [HRd7.out, hvr]
                  rw [show ((a + j + j2 + j3 + j4 : Nat) : Int) = (a : Int) + (j : Int) + (j2 : Int) + (j3 : Int) + (j4 : Int) by omega]
                  have hs5 := hb5.size
                  obtain ⟨w6, hw6⟩ : ∃ w6, w6 = w5.alloc (.cells #[.int .i64 vk, .int .i64 vi, .float .f64 vb, .string vt, .slice vp vn vc] 65) := ⟨_, rfl⟩
                  have hb56 : Below w5.heap.size w5 w6 := by rw [hw6]; exact (Below.refl _ _).alloc (Nat.le_refl _) _
                  have hb46 : Below w4.heap.size w4 w6 := hb5.trans (hb56.mono hs5)
                  have hs6 : w6.heap.size = w5.heap.size + 1 := by rw [hw6]; simp
                  have HB6 := Lib.hid (HB4.out.trans (hb46.mono HB4.out.size))
                  have hz0 : w6.heap[w.heap.size]? = some (.cells (cells9 ⟨#[]⟩ 0 none 0 0 false 0 0 0 ⟨#[]⟩ none 0 0) 67 (0, 0)) := (HB6.out.block _ (by omega)).trans HR0.out
                  have hown : COwn w6 (fun k => w2.heap.size ≤ k ∧ k < w5.heap.size) (cells9 nm kt tp tn tc true vk vi vb vt vp vn vc) ⟨nm, ty, true, vv⟩ :=
                    ⟨fun k => w2.heap.size ≤ k ∧ k < w3.heap.size, fun k => w4.heap.size ≤ k ∧ k < w5.heap.size, kt, tp, tn, tc, vk, vi, vb, vt, vp, vn, vc, rfl, (HOt.out.under HB34.out (fun k hk => hk.2)).under hb46 (fun k hk => by omega), hov.under hb56 (fun k hk => hk.2), fun k hk => ⟨hk.1, by omega⟩, fun k hk => ⟨by omega, hk.2⟩, fun k hk hc => by omega⟩
                  have u0 := cell_on hb46 t0
                  have u1 := cell_on hb46 t1
                  have r0 : w6.cell? ⟨w.heap.size, 0, none⟩ = some (.string ⟨#[]⟩) := blk_cell hz0 0
                  have r1 : w6.cell? ⟨w.heap.size, 1, none⟩ = some (.int .i64 0) := blk_cell hz0 1
                  have r2 : w6.cell? ⟨w.heap.size, 2, none⟩ = some (.slice none 0 0) := blk_cell hz0 2
                  have r3 : w6.cell? ⟨w.heap.size, 3, none⟩ = some (.bool false) := blk_cell hz0 3
                  have r4 : w6.cell? ⟨w.heap.size, 4, none⟩ = some (.int .i64 0) := blk_cell hz0 4
                  have r5 : w6.cell? ⟨w.heap.size, 5, none⟩ = some (.int .i64 0) := blk_cell hz0 5
                  have r6 : w6.cell? ⟨w.heap.size, 6, none⟩ = some (.float .f64 0) := blk_cell hz0 6
                  have r7 : w6.cell? ⟨w.heap.size, 7, none⟩ = some (.string ⟨#[]⟩) := blk_cell hz0 7
                  have r8 : w6.cell? ⟨w.heap.size, 8, none⟩ = some (.slice none 0 0) := blk_cell hz0 8
                  have rf0 := blk_free hz0 0
                  have rf1 := blk_free hz0 1
                  have rf2 := blk_free hz0 2
                  have rf3 := blk_free hz0 3
                  have rf4 := blk_free hz0 4
                  have rf5 := blk_free hz0 5
                  have rf6 := blk_free hz0 6
                  have rf7 := blk_free hz0 7
                  have rf8 := blk_free hz0 8
                  have HF := Lib.hid (put9_fin (w := w) hz0 (HBW.out.trans (HB6.out.mono (by omega))) (by omega) hown (fun k hk => ⟨by omega, by omega⟩))
                  have HW6 := Lib.hid hw6
                  rw [hw6] at u0 u1 r0 r1 r2 r3 r4 r5 r6 r7 r8 rf0 rf1 rf2 rf3 rf4 rf5 rf6 rf7 rf8
                  unfold cells5
                  clear hz0 hown HRd7 hvr hov hb5 hb56 hb46 hw6 HVa t0 t1
                  go_wp2
                  rw [← HW6.out]
                  refine bodyPost_ret (results_row3 rfl _ _ w.heap.size _ _ _ _ rfl HF.out.1 Tryz.underlying67 rfl (by kernel_rfl)) rfl ?_
                  rw [HE.out]
                  exact ⟨_, by rw [show ((a + (j + j2 + j3 + j4) : Nat) : Int) = (a : Int) + (j : Int) + (j2 : Int) + (j3 : Int) + (j4 : Int) by omega]; rfl, HF.out.2.1, HF.out.2.2⟩
end Go.Proofs.YtnlhpndjogjejaaGreatDoor
