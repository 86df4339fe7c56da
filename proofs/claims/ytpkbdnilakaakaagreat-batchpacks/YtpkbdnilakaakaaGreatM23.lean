/- WReadR, WScalR: put together. -/
import Derived.Test.YtpkbdnilakaakaaGreatM07
import Derived.Test.YtpkbdnilakaakaaGreatM11
import Derived.Test.YtpkbdnilakaakaaGreatM06
import Derived.Test.YtpkbdnilakaakaaGreatM02
import Derived.Test.YtpkbdnilakaakaaGreatM05
import Derived.Test.YtpkbdnilakaakaaGreatM08

/- The document's bit, text, float. -/
namespace Go.Proofs.YtpkbdnilakaakaaGreat
open Go.RowKit

/-- what a number read tells -/
def numV (a : Nat) : Except Nat (Nat × Nat) → Value
  | .error e => .tuple #[.int .u64 0, .int .i64 0, .int .i64 (e : Nat)]
  | .ok (n, k) => .tuple #[.int .u64 (n : Nat), .int .i64 ((a + k : Nat) : Int), .int .i64 0]
theorem gotV_num (l : List UInt8) (a : Nat) : gotV l (a : Int) = numV a (Sch.num (l.drop a)) := by
  by_cases ha : a < l.length
  · by_cases h : (Leb.get (l.drop a)).err = 0
    · have e : Leb.get (l.drop a) = ⟨0, (Leb.get (l.drop a)).n, (Leb.get (l.drop a)).k⟩ := by rw [← h]
      rw [gotV_ok l a _ _ e, Sch.num, if_pos h]
      simp only [numV]
      rfl
    · have hb := Leb.getF_bad 10 true (l.drop a) h
      have e : Leb.get (l.drop a) = ⟨(Leb.get (l.drop a)).err, 0, 0⟩ := by
        have h1 : (Leb.get (l.drop a)).n = 0 := hb.1
        have h2 : (Leb.get (l.drop a)).k = 0 := hb.2
        generalize Leb.get (l.drop a) = g at *
        cases g
        simp_all
      rw [gotV_bad l a _ h e, Sch.num, if_neg h]
      rfl
  · rw [gotV_out l a (by omega), List.drop_eq_nil_of_le (by omega)]
    rfl

/-- what Get answers from a place on -/
theorem refNum7 (p : Option Addr) (c : Nat) (l : List UInt8) (a : Nat) (hl : l.length ≤ 140737488351232) (w : World) (h : At w p l) :
    Calls Tryz.prog 35 #[.slice p l.length c, .int .i64 a] w fun e w' => e = .returned (numV a (Sch.num (l.drop a))) ∧ w' = w := by
  rw [← gotV_num]
  exact refGet_any p c l a hl w h

/-- what bit tells -/
def bitV (a : Nat) : Except Nat (Nat × Nat) → Value
  | .error e => .tuple #[.int .i64 0, .int .i64 0, .int .i64 (e : Nat)]
  | .ok (n, k) => .tuple #[.int .i64 (n : Nat), .int .i64 ((a + k : Nat) : Int), .int .i64 0]

set_option maxRecDepth 100000 in
set_option maxHeartbeats 400000 in
theorem refBit7 (p : Option Addr) (l : List UInt8) (c a : Nat) (hl : l.length ≤ 140737488351232) (ha : a ≤ l.length) (w : World) (h : At w p l) : Calls Tryz.prog 65 #[.slice p l.length c, .int .i64 a] w fun e w' => e = .returned (bitV a (Sch.bit (l.drop a))) ∧ w' = w := by
  by_cases hlt : a < l.length
  · obtain ⟨b, o, rfl, hb, hc⟩ := at_some h (by omega)
    have c0 := hc a hlt
    have h1 : ¬ (l.length : Int) ≤ (a : Int) := by omega
    have h1b : (a : Int) < (l.length : Int) := by omega
    have HD : Hid (Sch.bit (l.drop a) = if 1 < l[a].toNat then .error 5 else .ok (l[a].toNat, 1)) := by
      show _ = _
      rw [List.drop_eq_getElem_cons hlt, Sch.bit]
    have h256 := l[a].toNat_lt
    generalize l[a].toNat = z at *
    clear hc h
    by_cases h2 : 1 < z
    · have g2 : (1 : Int) < (z : Int) := by omega
      have HE : Hid (bitV a (Sch.bit (l.drop a)) = .tuple #[.int .i64 0, .int .i64 0, .int .i64 5]) := by show _ = _; rw [HD.out, if_pos h2]; rfl
      clear HD h2
      go_enter Tryz.func65, Tryz.ntmps65
      go_wp2
      go_ret3
      exact ⟨by rw [HE.out]; rfl, rfl⟩
    · have g2 : ¬ (1 : Int) < (z : Int) := by omega
      have HE : Hid (bitV a (Sch.bit (l.drop a)) = .tuple #[.int .i64 (z : Nat), .int .i64 ((a : Int) + 1), .int .i64 0]) := by show _ = _; rw [HD.out, if_neg h2]; simp [bitV]
      clear HD h2
      go_enter Tryz.func65, Tryz.ntmps65
      go_wp2
      go_ret3
      exact ⟨by rw [HE.out]; rfl, rfl⟩
  · have h1 : (l.length : Int) ≤ (a : Int) := by omega
    have HE : Hid (bitV a (Sch.bit (l.drop a)) = .tuple #[.int .i64 0, .int .i64 0, .int .i64 30]) := by show _ = _; rw [List.drop_eq_nil_of_le (by omega)]; rfl
    clear h
    go_enter Tryz.func65, Tryz.ntmps65
    go_wp2
    go_ret3
    exact ⟨by rw [HE.out]; rfl, rfl⟩

/-- what text tells -/
def textV (a : Nat) : Except Nat (ByteArray × Nat) → Value
  | .error e => .tuple #[.string ⟨#[]⟩, .int .i64 0, .int .i64 (e : Nat)]
  | .ok (t, k) => .tuple #[.string t, .int .i64 ((a + k : Nat) : Int), .int .i64 0]

set_option maxRecDepth 100000 in
set_option maxHeartbeats 400000 in
theorem refText7 (p : Option Addr) (l : List UInt8) (c a m g : Nat) (hl : l.length ≤ 140737488351232) (hlc : l.length ≤ c) (ha : a ≤ l.length) (hm : m ≤ 1024) (w : World) (h : At w p l) : Calls Tryz.prog 87 #[.slice p l.length c, .int .i64 a, .int .i64 m, .int .i64 g] w fun e w' => e = .returned (textV a (Sch.text m g (l.drop a))) ∧ w' = w := by
  have HG := Lib.hid (refNum7 p c l a hl w h)
  obtain ⟨R, hR⟩ : ∃ R, R = Sch.text m g (l.drop a) := ⟨_, rfl⟩
  have HR := Lib.hid (hR.trans (by rw [Sch.text] : Sch.text m g (l.drop a) = _))
  rw [← hR]
  clear hR
  cases hn : Sch.num (l.drop a) with
  | error e =>
    rw [hn] at HG HR
    have HE : Hid (R = .error e) := HR.out
    have he0 : e ≠ 0 := by
      intro hc
      rw [Sch.num] at hn
      split at hn
      · cases hn
      · next h0 => injection hn with hn; rw [hn] at h0; exact h0 hc
    have g0 : ((e : Int) != 0) = true := by rw [bne_iff_ne]; omega
    clear HR hn h he0
    simp only [numV] at HG
    go_enter Tryz.func87, Tryz.ntmps87
    go_wp2_with fail
    refine HG.out.mono ?_
    rintro e w1 ⟨rfl, hw⟩
    rw [hw]
    clear hw w1
    go_wp2
    go_ret3
    exact ⟨by rw [HE.out]; rfl, rfl⟩
  | ok nk =>
    obtain ⟨n, k⟩ := nk
    rw [hn] at HG HR
    obtain ⟨hn64, r, hr, hk⟩ := Sch.num_ok hn
    have hkl : k ≤ l.length - a := by
      have := congrArg List.length hr
      rw [List.length_drop, List.length_append, ← hk] at this
      omega
    simp only [numV] at HG
    have hdl : (l.drop a).length = l.length - a := List.length_drop
    simp only [hdl] at HR
    have hk1 : 1 ≤ k := by rw [hk]; exact Leb.put_length_pos n
    obtain ⟨b, o, rfl, hb, hc⟩ := at_some h (by omega)
    have hmi : (m : Int) ≤ 1024 := by omega
    have e1 : ((a + k : Nat) : Int) = (a : Int) + (k : Int) := by omega
    rw [e1] at HG
    by_cases h1 : m < n
    · have g1 : (m : Int) < (n : Int) := by omega
      have HE : Hid (R = .error g) := by show _ = _; rw [HR.out]; exact if_pos h1
      clear HR hn h hc h1 hr hk e1
      go_enter Tryz.func87, Tryz.ntmps87
      go_wp2_with fail
      refine HG.out.mono ?_
      rintro e w1 ⟨rfl, hw⟩
      rw [hw]
      clear hw w1
      go_wp2
      go_ret3
      exact ⟨by rw [HE.out]; rfl, rfl⟩
    have g1 : ¬ (m : Int) < (n : Int) := by omega
    have hni : (n : Int) ≤ 1024 := by omega
    by_cases h2 : l.length - a - k < n
    · have g2 : (l.length : Int) - ((a : Int) + (k : Int)) < (n : Int) := by omega
      have HE : Hid (R = .error 30) := by show _ = _; rw [HR.out]; exact (if_neg h1).trans (if_pos h2)
      clear HR hn h hc h1 h2 hr hk e1
      go_enter Tryz.func87, Tryz.ntmps87
      go_wp2_with fail
      refine HG.out.mono ?_
      rintro e w1 ⟨rfl, hw⟩
      rw [hw]
      clear hw w1
      go_wp2
      go_ret3
      exact ⟨by rw [HE.out]; rfl, rfl⟩
    have g2 : ¬ (l.length : Int) - ((a : Int) + (k : Int)) < (n : Int) := by omega
    obtain ⟨x, hx⟩ : ∃ x, x = ((l.drop a).drop k).take n := ⟨_, rfl⟩
    have hxl : x.length = n := by rw [hx, List.length_take, List.length_drop, List.length_drop]; omega
    have HE : Hid (R = .ok (textOf x, k + n)) := by show _ = _; rw [HR.out, hx]; exact (if_neg h1).trans (if_neg h2)
    have hat : At w (some ⟨b, o + (a + k), none⟩) x := by
      refine .inr ⟨b, _, rfl, hb, ?_⟩
      rw [hx, List.drop_drop]
      exact cells_take (cells_drop hc (a + k)) n
    have hcv := fun cc => conv_str hat cc
    rw [hxl] at hcv
    have hcv0 : c = a + k → ∀ cc, (convert 29 9 (.slice (some ⟨b, o, none⟩) n cc)).run Tryz.prog w = .ok (.string (textOf x)) w := fun hce cc => by
      have hn0 : n = 0 := by omega
      have hx0 : x = [] := List.eq_nil_of_length_eq_zero (by omega)
      have := conv_str (w := w) (p := some ⟨b, o, none⟩) (l := []) (.inl rfl) cc
      rw [hn0, hx0]
      exact this
    have HCV0 := Lib.hid hcv0
    have HFin : Hid (textV a R = .tuple #[.string (textOf x), .int .i64 ((a : Int) + (k : Int) + (n : Int)), .int .i64 0]) := by
      show _ = _
      rw [HE.out]
      simp only [textV]
      rw [show ((a + (k + n) : Nat) : Int) = (a : Int) + (k : Int) + (n : Int) by omega]
    clear HR hn h hc h1 h2 hr hk e1 hat hx hcv0 HE
    by_cases hcap : c = a + k
    · have hcv1 := HCV0.out hcap
      clear HCV0 hcv
      subst hcap
      go_enter Tryz.func87, Tryz.ntmps87
      go_wp2_with fail
      refine HG.out.mono ?_
      rintro e w1 ⟨rfl, hw⟩
      rw [hw]
      clear hw w1
      go_wp2
      go_ret3
      exact ⟨by rw [HFin.out]; rfl, rfl⟩
    · have hcap2 : ¬ a + k = c := fun hc => hcap hc.symm
      clear HCV0
      go_enter Tryz.func87, Tryz.ntmps87
      go_wp2_with fail
      refine HG.out.mono ?_
      rintro e w1 ⟨rfl, hw⟩
      rw [hw]
      clear hw w1
      go_wp2
      go_ret3
      exact ⟨by rw [HFin.out]; rfl, rfl⟩

/-- what float tells -/
def floatV (a : Nat) : Except Nat (Nat × Nat) → Value
  | .error e => .tuple #[.float .f64 0, .int .i64 0, .int .i64 (e : Nat)]
  | .ok (n, k) => .tuple #[.float .f64 n, .int .i64 ((a + k : Nat) : Int), .int .i64 0]

/-- while eight bytes are read, the last one first -/
theorem un_drop (l : List UInt8) (i : Nat) (h : i < l.length) : Sch.un (l.drop i) = Sch.un (l.drop (i + 1)) * 256 + l[i].toNat := by
  rw [List.drop_eq_getElem_cons h, Sch.un]

set_option maxRecDepth 100000 in
set_option maxHeartbeats 400000 in
theorem refFloat7 (p : Option Addr) (l : List UInt8) (c a : Nat) (hl : l.length ≤ 140737488351232) (ha : a ≤ l.length) (w : World) (h : At w p l) : Calls Tryz.prog 86 #[.slice p l.length c, .int .i64 a] w fun e w' => e = .returned (floatV a (Sch.float (l.drop a))) ∧ w' = w := by
  by_cases h8 : l.length - a < 8
  · have g8 : (l.length : Int) - (a : Int) < 8 := by omega
    have HE : Hid (floatV a (Sch.float (l.drop a)) = .tuple #[.float .f64 0, .int .i64 0, .int .i64 30]) := by show _ = _; rw [Sch.float, if_pos (by rw [List.length_drop]; exact h8)]; rfl
    clear h h8
    go_enter Tryz.func86, Tryz.ntmps86
    go_wp2
    go_ret3
    exact ⟨by rw [HE.out]; rfl, rfl⟩
  have g8 : ¬ (l.length : Int) - (a : Int) < 8 := by omega
  obtain ⟨b, o, rfl, hb, hc⟩ := at_some h (by omega)
  obtain ⟨x, hx⟩ : ∃ x, x = (l.drop a).take 8 := ⟨_, rfl⟩
  have hxl : x.length = 8 := by rw [hx, List.length_take, List.length_drop]; omega
  have HC : Hid (∀ i (hi : i < x.length), w.cell? ⟨b, o + (a + i), none⟩ = some (.int .u8 (x[i].toNat : Int))) := fun i hi => by
    rw [hc (a + i) (by omega)]
    simp only [hx, List.getElem_take, List.getElem_drop]
  have HR : Hid (Sch.float (l.drop a) = if fixB (Sch.un x) = Sch.un x then .ok (Sch.un x, 8) else .error 5) := by show _ = _; rw [Sch.float, if_neg (by rw [List.length_drop]; exact h8), ← hx]
  have hun : Sch.un x < 18446744073709551616 := by have := Sch.un_lt x; rw [hxl] at this; simpa using this
  have HLt : Hid (∀ i, i ≤ 8 → Sch.un (x.drop i) * 256 ^ i ≤ Sch.un x) := by
    intro i hi
    induction i with
    | zero => simp
    | succ i ih =>
      have h1 := ih (by omega)
      rw [un_drop x i (by omega), Nat.add_mul] at h1
      rw [Nat.pow_succ]
      have : Sch.un (x.drop (i + 1)) * (256 ^ i * 256) = Sch.un (x.drop (i + 1)) * 256 * 256 ^ i := by rw [Nat.mul_comm (256 ^ i) 256, Nat.mul_assoc]
      omega
  clear h hc hx h8
  go_enter Tryz.func86, Tryz.ntmps86
  go_wp2_with fail
  go_loop [7, 8] (fun v7 v8 => (∃ i : Nat, i ≤ 7 ∧ v8 = .int .i64 i ∧ v7 = .int .u64 (Sch.un (x.drop (i + 1)) : Nat)) ∨ (v8 = .int .i64 (-1) ∧ v7 = .int .u64 (Sch.un x : Nat))) (fun _ v8 => (intOf v8 + 1).toNat)
  case atStart => exact .inl ⟨7, by omega, rfl, by rw [List.drop_eq_nil_of_le (by omega)]; rfl⟩
  case round =>
    rcases hrel with ⟨i, hi, rfl, rfl⟩ | ⟨rfl, rfl⟩
    · have a0 := HC.out i (by omega)
      have hx0 := un_drop x i (by omega)
      have hle := HLt.out i (by omega)
      have hp1 : 1 ≤ 256 ^ i := Nat.one_le_pow _ _ (by decide)
      have hle2 : Sch.un (x.drop i) ≤ Sch.un x := Nat.le_trans (Nat.le_mul_of_pos_right _ (by omega)) hle
      have hy := (x[i]'(by omega)).toNat_lt
      obtain ⟨z, hz⟩ : ∃ z, z = Sch.un (x.drop (i + 1)) := ⟨_, rfl⟩
      obtain ⟨y, hyy⟩ : ∃ y, y = (x[i]'(by omega)).toNat := ⟨_, rfl⟩
      rw [← hz] at hx0 ⊢
      rw [← hyy] at hx0 a0 hy
      have HX0 := Lib.hid hx0
      have hb1 : z * 256 + y < 18446744073709551616 := by omega
      have h0i : (0 : Int) ≤ (i : Int) := by omega
      have hib : (a : Int) + (i : Int) < (l.length : Int) := by omega
      clear hle hle2 hp1 hx0 hz hyy
      go_wp2
      go_round
      case rel =>
        by_cases hi0 : i = 0
        · subst hi0
          right
          refine ⟨by go_num, ?_⟩
          have e := HX0.out
          rw [List.drop_zero] at e
          rw [e]
          go_num
        · left
          refine ⟨i - 1, by omega, by go_num, ?_⟩
          rw [show i - 1 + 1 = i by omega, HX0.out]
          go_num
      case measure => simp [intOf]
    · have HOf := Lib.hid (refOf_any (Sch.un x : Nat) w)
      have HBt := Lib.hid (refBits_any (fixB (Sch.un x)) w)
      rw [Int.toNat_natCast] at HOf
      rw [fixB_idem] at HBt
      obtain ⟨n, hn⟩ : ∃ n, n = Sch.un x := ⟨_, rfl⟩
      rw [← hn] at HR HOf HBt hun ⊢
      clear hn HC HLt
      go_wp2_with fail
      refine HOf.out.mono ?_
      rintro e w1 ⟨rfl, hw⟩
      rw [hw]
      clear hw w1
      go_wp2_with fail
      refine HBt.out.mono ?_
      rintro e w1 ⟨rfl, hw⟩
      rw [hw]
      clear hw w1
      by_cases hf : fixB n = n
      · have gf : ((fixB n : Int) != (n : Int)) = false := bne_f (by omega)
        have HE : Hid (floatV a (Sch.float (l.drop a)) = .tuple #[.float .f64 (fixB n), .int .i64 ((a : Int) + 8), .int .i64 0]) := by
          show _ = _
          rw [HR.out, if_pos hf, hf]
          simp [floatV]
        clear HR hf HOf HBt
        go_wp2
        go_ret3
        exact ⟨by rw [HE.out]; rfl, rfl⟩
      · have gf : ((fixB n : Int) != (n : Int)) = true := bne_t (by omega)
        have HE : Hid (floatV a (Sch.float (l.drop a)) = .tuple #[.float .f64 0, .int .i64 0, .int .i64 5]) := by show _ = _; rw [HR.out, if_neg hf]; rfl
        clear HR hf HOf HBt
        go_wp2
        go_ret3
        exact ⟨by rw [HE.out]; rfl, rfl⟩
end Go.Proofs.YtpkbdnilakaakaaGreat

/- The document's scalar. -/
namespace Go.Proofs.YtpkbdnilakaakaaGreat
open Go.RowKit

attribute [local go_sem] run_store_float

/-- what reading a value tells: the value in blocks of its own, and the place behind it; or the error alone -/
def ReadV (w : World) (a : Nat) (r : Except Nat (V × Nat)) (e : Ending) (w' : World) : Prop := match r with
  | .error er => e = .returned (.tuple #[.agg (cells5 0 0 0 ⟨#[]⟩ none 0 0), .int .i64 0, .int .i64 (er : Nat)]) ∧ Below w.heap.size w w'
  | .ok (v, k) => ∃ u, e = .returned (.tuple #[.agg u, .int .i64 ((a + k : Nat) : Int), .int .i64 0]) ∧ VOwn w' (fun k => w.heap.size ≤ k ∧ k < w'.heap.size) u v ∧ Below w.heap.size w w'

theorem bit_err {l : List UInt8} {e : Nat} (h : Sch.bit l = .error e) : e ≠ 0 := by
  cases l with
  | nil => rw [Sch.bit] at h; injection h with h; omega
  | cons c r =>
    rw [Sch.bit] at h
    split at h
    · injection h with h; omega
    · cases h
theorem num_err {l : List UInt8} {e : Nat} (h : Sch.num l = .error e) : e ≠ 0 := by
  intro hc
  rw [Sch.num] at h
  split at h
  · cases h
  · next h0 => injection h with h; rw [h] at h0; exact h0 hc
theorem float_err {l : List UInt8} {e : Nat} (h : Sch.float l = .error e) : e ≠ 0 := by
  rw [Sch.float] at h
  split at h
  · injection h with h; omega
  · split at h
    · cases h
    · injection h with h; omega
theorem text_err {m g : Nat} (hg : g ≠ 0) {l : List UInt8} {e : Nat} (h : Sch.text m g l = .error e) : e ≠ 0 := by
  rw [Sch.text] at h
  split at h
  · next e' he => injection h with h; rw [← h]; exact num_err he
  · split at h
    · injection h with h; omega
    · split at h
      · injection h with h; omega
      · cases h

theorem blk_first (w : World) (o o2 : Obj) : ((w.alloc o).alloc o2).heap[w.heap.size]? = some o := by rw [blk_old _ _ (by simp)]; exact blk_new w o
theorem bool_lit (b : Bool) : b = true ∨ b = false := by cases b <;> simp

set_option maxRecDepth 100000 in
set_option maxHeartbeats 1000000 in
theorem refScal_1 (p : Option Addr) (l : List UInt8) (c a : Nat) (hl : l.length ≤ 140737488351232) (ha : a ≤ l.length) (w : World) (h : At w p l) : Calls Tryz.prog 64 #[.int .i64 1, .slice p l.length c, .int .i64 a] w (ReadV w a (Sch.scalar 1 (l.drop a))) := by
  have HG := Lib.hid (fun w' (hb : Below w.heap.size w w') => refBit7 p l c a hl ha w' (h.on hb))
  have HB : Hid (∀ o o2, Below w.heap.size w ((w.alloc o).alloc o2)) := fun o o2 => ((Below.refl _ _).alloc (Nat.le_refl _) _).alloc (by simp) _
  cases hn : Sch.bit (l.drop a) with
  | error er =>
    have HR : Hid (Sch.scalar 1 (l.drop a) = .error er) := by show _ = _; rw [Sch.scalar, if_pos rfl, hn]
    rw [hn] at HG
    have g0 : ((er : Int) != 0) = true := by have := bit_err hn; rw [bne_iff_ne]; omega
    clear h hn
    simp only [bitV] at HG
    rw [HR.out]
    go_enter Tryz.func64, Tryz.ntmps64
    go_wp2_with fail
    refine (HG.out _ (HB.out _ _)).mono ?_
    rintro e w1 ⟨rfl, hw⟩
    rw [hw]
    clear hw w1
    go_wp2
    refine bodyPost_ret (results_row3 rfl _ _ w.heap.size _ _ _ _ rfl (blk_first w _ _) Tryz.underlying44 rfl (by kernel_rfl)) rfl ?_
    exact ⟨rfl, HB.out _ _⟩
  | ok nk =>
    obtain ⟨n, k⟩ := nk
    have HR : Hid (Sch.scalar 1 (l.drop a) = .ok (.mk 1 n 0 ⟨#[]⟩ [], k)) := by show _ = _; rw [Sch.scalar, if_pos rfl, hn]
    rw [hn] at HG
    simp only [bitV] at HG
    rw [HR.out]
    clear h hn
    go_enter Tryz.func64, Tryz.ntmps64
    go_wp2_with fail
    refine (HG.out _ (HB.out _ _)).mono ?_
    rintro e w1 ⟨rfl, hw⟩
    rw [hw]
    clear hw w1
    go_wp2
    refine bodyPost_ret (results_row3 rfl _ _ w.heap.size _ _ _ _ rfl (blk_first w _ _) Tryz.underlying44 rfl (by kernel_rfl)) rfl ?_
    exact ⟨_, by rw [show ((a + k : Nat) : Int) = (a : Int) + (k : Int) by omega]; rfl, .none, HB.out _ _⟩

set_option maxRecDepth 100000 in
set_option maxHeartbeats 1000000 in
theorem refScal_2 (p : Option Addr) (l : List UInt8) (c a : Nat) (hl : l.length ≤ 140737488351232) (_ : a ≤ l.length) (w : World) (h : At w p l) : Calls Tryz.prog 64 #[.int .i64 2, .slice p l.length c, .int .i64 a] w (ReadV w a (Sch.scalar 2 (l.drop a))) := by
  have HG := Lib.hid (fun w' (hb : Below w.heap.size w w') => refNum7 p c l a hl w' (h.on hb))
  have HB : Hid (∀ o o2, Below w.heap.size w ((w.alloc o).alloc o2)) := fun o o2 => ((Below.refl _ _).alloc (Nat.le_refl _) _).alloc (by simp) _
  cases hn : Sch.num (l.drop a) with
  | error er =>
    have HR : Hid (Sch.scalar 2 (l.drop a) = .error er) := by show _ = _; rw [Sch.scalar, if_neg (by decide), if_pos rfl, hn]
    rw [hn] at HG
    have g0 : ((er : Int) != 0) = true := by have := num_err hn; rw [bne_iff_ne]; omega
    clear h hn
    simp only [numV] at HG
    rw [HR.out]
    go_enter Tryz.func64, Tryz.ntmps64
    go_wp2_with fail
    refine (HG.out _ (HB.out _ _)).mono ?_
    rintro e w1 ⟨rfl, hw⟩
    rw [hw]
    clear hw w1
    go_wp2_with fail
    refine (refZag_any 0 (by decide) _).mono ?_
    rintro e w1 ⟨rfl, hw⟩
    rw [hw]
    clear hw w1
    go_wp2
    refine bodyPost_ret (results_row3 rfl _ _ w.heap.size _ _ _ _ rfl (blk_first w _ _) Tryz.underlying44 rfl (by kernel_rfl)) rfl ?_
    exact ⟨rfl, HB.out _ _⟩
  | ok nk =>
    obtain ⟨n, k⟩ := nk
    have HR : Hid (Sch.scalar 2 (l.drop a) = .ok (.mk 2 (Leb.zag n) 0 ⟨#[]⟩ [], k)) := by show _ = _; rw [Sch.scalar, if_neg (by decide), if_pos rfl, hn]
    rw [hn] at HG
    simp only [numV] at HG
    have hn64 := (Sch.num_ok hn).1
    have HZ := Lib.hid (refZag_any n hn64)
    rw [HR.out]
    clear h hn
    go_enter Tryz.func64, Tryz.ntmps64
    go_wp2_with fail
    refine (HG.out _ (HB.out _ _)).mono ?_
    rintro e w1 ⟨rfl, hw⟩
    rw [hw]
    clear hw w1
    go_wp2_with fail
    refine (HZ.out _).mono ?_
    rintro e w1 ⟨rfl, hw⟩
    rw [hw]
    clear hw w1
    go_wp2
    refine bodyPost_ret (results_row3 rfl _ _ w.heap.size _ _ _ _ rfl (blk_first w _ _) Tryz.underlying44 rfl (by kernel_rfl)) rfl ?_
    exact ⟨_, by rw [show ((a + k : Nat) : Int) = (a : Int) + (k : Int) by omega]; rfl, .none, HB.out _ _⟩

set_option maxRecDepth 100000 in
set_option maxHeartbeats 1000000 in
theorem refScal_3 (p : Option Addr) (l : List UInt8) (c a : Nat) (hl : l.length ≤ 140737488351232) (ha : a ≤ l.length) (w : World) (h : At w p l) : Calls Tryz.prog 64 #[.int .i64 3, .slice p l.length c, .int .i64 a] w (ReadV w a (Sch.scalar 3 (l.drop a))) := by
  have HG := Lib.hid (fun w' (hb : Below w.heap.size w w') => refFloat7 p l c a hl ha w' (h.on hb))
  have HB : Hid (∀ o o2, Below w.heap.size w ((w.alloc o).alloc o2)) := fun o o2 => ((Below.refl _ _).alloc (Nat.le_refl _) _).alloc (by simp) _
  cases hn : Sch.float (l.drop a) with
  | error er =>
    have HR : Hid (Sch.scalar 3 (l.drop a) = .error er) := by show _ = _; rw [Sch.scalar, if_neg (by decide), if_neg (by decide), if_pos rfl, hn]
    rw [hn] at HG
    have g0 : ((er : Int) != 0) = true := by have := float_err hn; rw [bne_iff_ne]; omega
    clear h hn
    simp only [floatV] at HG
    rw [HR.out]
    go_enter Tryz.func64, Tryz.ntmps64
    go_wp2_with fail
    refine (HG.out _ (HB.out _ _)).mono ?_
    rintro e w1 ⟨rfl, hw⟩
    rw [hw]
    clear hw w1
    go_wp2
    refine bodyPost_ret (results_row3 rfl _ _ w.heap.size _ _ _ _ rfl (blk_first w _ _) Tryz.underlying44 rfl (by kernel_rfl)) rfl ?_
    exact ⟨rfl, HB.out _ _⟩
  | ok nk =>
    obtain ⟨n, k⟩ := nk
    have HR : Hid (Sch.scalar 3 (l.drop a) = .ok (.mk 3 0 n ⟨#[]⟩ [], k)) := by show _ = _; rw [Sch.scalar, if_neg (by decide), if_neg (by decide), if_pos rfl, hn]
    rw [hn] at HG
    simp only [floatV] at HG
    rw [HR.out]
    clear h hn
    go_enter Tryz.func64, Tryz.ntmps64
    go_wp2_with fail
    refine (HG.out _ (HB.out _ _)).mono ?_
    rintro e w1 ⟨rfl, hw⟩
    rw [hw]
    clear hw w1
    go_wp2
    refine bodyPost_ret (results_row3 rfl _ _ w.heap.size _ _ _ _ rfl (blk_first w _ _) Tryz.underlying44 rfl (by kernel_rfl)) rfl ?_
    exact ⟨_, by rw [show ((a + k : Nat) : Int) = (a : Int) + (k : Int) by omega]; rfl, .none, HB.out _ _⟩

set_option maxRecDepth 100000 in
set_option maxHeartbeats 1000000 in
theorem refScal_45 (kd : Int) (hk : kd = 4 ∨ kd = 5) (p : Option Addr) (l : List UInt8) (c a : Nat) (hl : l.length ≤ 140737488351232) (hlc : l.length ≤ c) (ha : a ≤ l.length) (w : World) (h : At w p l) : Calls Tryz.prog 64 #[.int .i64 kd, .slice p l.length c, .int .i64 a] w (ReadV w a (Sch.scalar kd (l.drop a))) := by
  have HG := Lib.hid (fun w' (hb : Below w.heap.size w w') => refText7 p l c a 1024 2 hl hlc ha (by omega) w' (h.on hb))
  have HB : Hid (∀ o o2, Below w.heap.size w ((w.alloc o).alloc o2)) := fun o o2 => ((Below.refl _ _).alloc (Nat.le_refl _) _).alloc (by simp) _
  have hsc : Sch.scalar kd (l.drop a) = match Sch.text 1024 2 (l.drop a) with
      | .error e => .error e
      | .ok (t, j) => if kd = 4 ∧ utfT t = false then .error 61 else .ok (.mk kd 0 0 t [], j) := by
    rw [Sch.scalar, if_neg (by omega), if_neg (by omega), if_neg (by omega)]
    rfl
  cases hn : Sch.text 1024 2 (l.drop a) with
  | error er =>
    have HR : Hid (Sch.scalar kd (l.drop a) = .error er) := by show _ = _; rw [hsc, hn]
    rw [hn] at HG
    have g0 : ((er : Int) != 0) = true := by have := text_err (by decide) hn; rw [bne_iff_ne]; omega
    have HU := Lib.hid (refUtf6 ⟨#[]⟩ (Nat.zero_le _))
    have eu : U8.utf (⟨#[]⟩ : ByteArray).data.toList = true := rfl
    rw [eu] at HU
    clear h hn hsc eu
    simp only [textV] at HG
    rw [HR.out]
    rcases hk with rfl | rfl
    all_goals
      go_enter Tryz.func64, Tryz.ntmps64
      go_wp2_with fail
      refine (HG.out _ (HB.out _ _)).mono ?_
      rintro e w1 ⟨rfl, hw⟩
      rw [hw]
      clear hw w1
      go_wp2_with fail
      refine (HU.out _).mono ?_
      rintro e w1 ⟨rfl, hw⟩
      rw [hw]
      clear hw w1
      go_wp2
      refine bodyPost_ret (results_row3 rfl _ _ w.heap.size _ _ _ _ rfl (blk_first w _ _) Tryz.underlying44 rfl (by kernel_rfl)) rfl ?_
      exact ⟨rfl, HB.out _ _⟩
  | ok tk =>
    obtain ⟨t, k⟩ := tk
    have hsc2 : Sch.scalar kd (l.drop a) = if kd = 4 ∧ utfT t = false then .error 61 else .ok (.mk kd 0 0 t [], k) := by rw [hsc, hn]
    have ht := (Sch.text_ok hn).1
    rw [hn] at HG
    simp only [textV] at HG
    have HU := Lib.hid (refUtf6 t (by omega))
    obtain ⟨ru, hru⟩ : ∃ ru, ru = utfT t := ⟨_, rfl⟩
    have e1 : U8.utf t.data.toList = ru := hru.symm
    rw [e1] at HU
    rw [← hru] at hsc2
    have HR := Lib.hid hsc2
    rw [HR.out]
    clear h hn hsc hsc2 e1 hru ht
    rcases hk with rfl | rfl
    · cases ru with
      | false =>
        rw [if_pos ⟨rfl, rfl⟩]
        go_enter Tryz.func64, Tryz.ntmps64
        go_wp2_with fail
        refine (HG.out _ (HB.out _ _)).mono ?_
        rintro e w1 ⟨rfl, hw⟩
        rw [hw]
        clear hw w1
        go_wp2_with fail
        refine (HU.out _).mono ?_
        rintro e w1 ⟨rfl, hw⟩
        rw [hw]
        clear hw w1
        go_wp2
        refine bodyPost_ret (results_row3 rfl _ _ w.heap.size _ _ _ _ rfl (blk_first w _ _) Tryz.underlying44 rfl (by kernel_rfl)) rfl ?_
        exact ⟨rfl, HB.out _ _⟩
      | true =>
        rw [if_neg (by decide)]
        go_enter Tryz.func64, Tryz.ntmps64
        go_wp2_with fail
        refine (HG.out _ (HB.out _ _)).mono ?_
        rintro e w1 ⟨rfl, hw⟩
        rw [hw]
        clear hw w1
        go_wp2_with fail
        refine (HU.out _).mono ?_
        rintro e w1 ⟨rfl, hw⟩
        rw [hw]
        clear hw w1
        go_wp2
        refine bodyPost_ret (results_row3 rfl _ _ w.heap.size _ _ _ _ rfl (blk_first w _ _) Tryz.underlying44 rfl (by kernel_rfl)) rfl ?_
        exact ⟨_, by rw [show ((a + k : Nat) : Int) = (a : Int) + (k : Int) by omega]; rfl, .none, HB.out _ _⟩
    · rw [if_neg (fun hc => absurd hc.1 (by decide))]
      go_enter Tryz.func64, Tryz.ntmps64
      go_wp2_with fail
      refine (HG.out _ (HB.out _ _)).mono ?_
      rintro e w1 ⟨rfl, hw⟩
      rw [hw]
      clear hw w1
      go_wp2_with fail
      refine (HU.out _).mono ?_
      rintro e w1 ⟨rfl, hw⟩
      rw [hw]
      clear hw w1
      go_wp2
      refine bodyPost_ret (results_row3 rfl _ _ w.heap.size _ _ _ _ rfl (blk_first w _ _) Tryz.underlying44 rfl (by kernel_rfl)) rfl ?_
      exact ⟨_, by rw [show ((a + k : Nat) : Int) = (a : Int) + (k : Int) by omega]; rfl, .none, HB.out _ _⟩

theorem refScalar7 (kd : Int) (hk : 1 ≤ kd ∧ kd ≤ 5) (p : Option Addr) (l : List UInt8) (c a : Nat) (hl : l.length ≤ 140737488351232) (hlc : l.length ≤ c) (ha : a ≤ l.length) (w : World) (h : At w p l) : Calls Tryz.prog 64 #[.int .i64 kd, .slice p l.length c, .int .i64 a] w (ReadV w a (Sch.scalar kd (l.drop a))) := by
  rcases (show kd = 1 ∨ kd = 2 ∨ kd = 3 ∨ (kd = 4 ∨ kd = 5) by omega) with rfl | rfl | rfl | hk45
  · exact refScal_1 p l c a hl ha w h
  · exact refScal_2 p l c a hl ha w h
  · exact refScal_3 p l c a hl ha w h
  · exact refScal_45 kd hk45 p l c a hl hlc ha w h
end Go.Proofs.YtpkbdnilakaakaaGreat
