/- Bt, WTypeR, WNameR, WFindR, WIsR, K7Pl, LebC, ValueC: put together. -/
import Derived.Test.YtpkbdnilakaakaaM09
import Derived.Test.YtpkbdnilakaakaaM10
import Derived.Test.YtpkbdnilakaakaaM04
import Derived.Test.YtpkbdnilakaakaaM05
import Derived.Test.YtpkbdnilakaakaaM06
import Derived.Test.YtpkbdnilakaakaaM08

/- Plain: rows as a block, and a block as rows; what the document says of them. -/
namespace Go.Proofs.Ytpkbdnilakaakaa
namespace Bt

/-- the error of the first row that has one -/
def rowsErr (s : List Col) : List (List V) → Nat
  | [] => 0
  | r :: l => if Rw.err s r = 0 then rowsErr s l else Rw.err s r
/-- the rows' bytes, one row behind the other -/
def bytes : List (List V) → List UInt8
  | [] => []
  | r :: l => Rw.bytes r ++ bytes l
/-- why there can be no block with so many rows -/
def numErr (s : List Col) (n : Int) : Nat := if Sch.err s ≠ 0 then Sch.err s else if n < 1 then 4 else if 64 < n then 3 else 0
/-- P11.1 -/
def err (s : List Col) (l : List (List V)) : Nat := if numErr s l.length ≠ 0 then numErr s l.length else if rowsErr s l ≠ 0 then rowsErr s l else if 2048 < (bytes l).length then 2 else 0
def out (s : List Col) (l : List (List V)) : List UInt8 := if err s l = 0 then bytes l else []
/-- P11.2 -/
def pack (s : List Col) (l : List (List V)) : Blk.Res := if err s l = 0 then Blk.pack (bytes l) else ⟨err s l, []⟩
/-- so many rows, from a place on -/
def rows (s : List Col) (b : List UInt8) : Nat → Nat → Except Nat (List (List V) × Nat)
  | 0, a => .ok ([], a)
  | n + 1, a => match Rw.read s b a with
    | .error e => .error e
    | .ok (r, k) => match rows s b n k with
      | .error e => .error e
      | .ok (l, j) => .ok (r :: l, j)
/-- all rows of some bytes -/
def whole (s : List Col) (b : List UInt8) (n : Nat) : Except Nat (List (List V)) := match rows s b n 0 with
  | .error e => .error e
  | .ok (l, j) => if j < b.length then .error 5 else .ok l
/-- P11.3 -/
def unpack (s : List Col) (b : List UInt8) (n : Int) : Except Nat (List (List V)) := if numErr s n ≠ 0 then .error (numErr s n) else if (Blk.unpack b).err ≠ 0 then .error (Blk.unpack b).err else whole s (Blk.unpack b).out n.toNat

theorem numErr_open {s : List Col} {n : Int} (h : numErr s n = 0) : Sch.err s = 0 ∧ 1 ≤ n ∧ n ≤ 64 := by
  unfold numErr at h
  split at h
  · next h0 => exact absurd h h0
  · split at h
    · omega
    · split at h
      · omega
      · exact ⟨by omega, by omega, by omega⟩
theorem numErr_make {s : List Col} {n : Int} (h0 : Sch.err s = 0) (h1 : 1 ≤ n) (h2 : n ≤ 64) : numErr s n = 0 := by
  unfold numErr
  rw [if_neg (by omega), if_neg (by omega), if_neg (by omega)]
theorem err_open {s : List Col} {l : List (List V)} (h : err s l = 0) : numErr s l.length = 0 ∧ rowsErr s l = 0 ∧ (bytes l).length ≤ 2048 := by
  unfold err at h
  split at h
  · next h0 => exact absurd h h0
  · split at h
    · next h0 => exact absurd h h0
    · split at h
      · omega
      · exact ⟨by omega, by omega, by omega⟩
theorem err_make {s : List Col} {l : List (List V)} (h0 : numErr s l.length = 0) (h1 : rowsErr s l = 0) (h2 : (bytes l).length ≤ 2048) : err s l = 0 := by
  unfold err
  rw [if_neg (by omega), if_neg (by omega), if_neg (by omega)]
theorem rowsErr_mem {s : List Col} : ∀ {l : List (List V)}, rowsErr s l = 0 → ∀ r ∈ l, Rw.err s r = 0
  | [], _, r, hr => by cases hr
  | x :: l, h, r, hr => by
    rw [rowsErr] at h
    split at h
    · next h0 =>
      rcases List.mem_cons.1 hr with rfl | hr
      · exact h0
      · exact rowsErr_mem h r hr
    · next h0 => exact absurd h h0
theorem bytes_append (a b : List (List V)) : bytes (a ++ b) = bytes a ++ bytes b := by
  induction a with
  | nil => rfl
  | cons x a ih => rw [List.cons_append, bytes, bytes, ih, List.append_assoc]
theorem bytes_take (l : List (List V)) (i : Nat) (h : i < l.length) : bytes (l.take (i + 1)) = bytes (l.take i) ++ Rw.bytes l[i] := by
  rw [List.take_succ_eq_append_getElem h, bytes_append]
  simp [bytes]
theorem bytes_bound {s : List Col} : ∀ {l : List (List V)}, rowsErr s l = 0 → (bytes l).length ≤ 1024 * l.length
  | [], _ => by simp [bytes]
  | x :: l, h => by
    have h1 := (Rw.err_open (rowsErr_mem h x (by simp))).2.2.2
    have h2 := bytes_bound (s := s) (l := l) (by
      rw [rowsErr] at h
      split at h
      · exact h
      · next h0 => exact absurd h h0)
    rw [bytes, List.length_append, List.length_cons]
    omega
theorem rowsErr_take {s : List Col} : ∀ {l : List (List V)} (i : Nat), (∀ j (h : j < l.length), j < i → Rw.err s l[j] = 0) → rowsErr s (l.take i) = 0
  | [], i, _ => by simp [rowsErr]
  | x :: l, 0, _ => by simp [rowsErr]
  | x :: l, i + 1, h => by
    have h0 : Rw.err s x = 0 := h 0 (by simp) (by omega)
    rw [List.take_succ_cons, rowsErr, if_pos h0]
    exact rowsErr_take i (fun j hj hji => h (j + 1) (by simpa using hj) (by omega))
theorem rowsErr_at {s : List Col} : ∀ {l : List (List V)} (i : Nat) (hi : i < l.length), (∀ j (h : j < l.length), j < i → Rw.err s l[j] = 0) → Rw.err s l[i] ≠ 0 → rowsErr s l = Rw.err s l[i]
  | [], i, hi, _, _ => by simp at hi
  | x :: l, 0, hi, _, hn => by
    have hn' : Rw.err s x ≠ 0 := hn
    rw [rowsErr, if_neg hn']
    rfl
  | x :: l, i + 1, hi, h, hn => by
    have h0 : Rw.err s x = 0 := h 0 (by simp) (by omega)
    rw [rowsErr, if_pos h0]
    exact rowsErr_at i (by simpa using hi) (fun j hj hji => h (j + 1) (by simpa using hj) (by omega)) hn
theorem rowsErr_all {s : List Col} {l : List (List V)} (h : ∀ j (h : j < l.length), Rw.err s l[j] = 0) : rowsErr s l = 0 := by
  have := rowsErr_take (l := l) l.length (fun j hj _ => h j hj)
  rwa [List.take_length] at this

theorem rows_zero (s : List Col) (b : List UInt8) (a : Nat) : rows s b 0 a = .ok ([], a) := by rw [rows]
theorem rows_succ (s : List Col) (b : List UInt8) (n a : Nat) : rows s b (n + 1) a = (match Rw.read s b a with
    | .error e => .error e
    | .ok (r, k) => match rows s b n k with
      | .error e => .error e
      | .ok (l, j) => .ok (r :: l, j)) := by rw [rows]
theorem rows_put {s : List Col} (r : List UInt8) : ∀ (l : List (List V)) (a : List UInt8), rowsErr s l = 0 → (∀ x ∈ l, ∀ v ∈ x, v.wf) → rows s (a ++ (bytes l ++ r)) l.length a.length = .ok (l.map (fun x => x.map V.fix), a.length + (bytes l).length)
  | [], a, _, _ => by simp [rows, bytes]
  | x :: l, a, h, hw => by
    have h0 := rowsErr_mem h x (by simp)
    have hl : rowsErr s l = 0 := by
      rw [rowsErr, if_pos h0] at h
      exact h
    have e1 := Rw.read_put h0 (hw x (by simp)) a (bytes l ++ r)
    have e2 := rows_put r l (a ++ Rw.bytes x) hl (fun y hy => hw y (by simp [hy]))
    rw [List.append_assoc, List.length_append] at e2
    rw [List.length_cons, rows, bytes, List.append_assoc, e1]
    dsimp only
    rw [e2]
    simp [List.length_append, Nat.add_assoc]
/-- what is read has just these bytes -/
theorem rows_ok {s : List Col} {b : List UInt8} : ∀ (n a : Nat) (l : List (List V)) (k : Nat), a ≤ b.length → rows s b n a = .ok (l, k) → l.length = n ∧ rowsErr s l = 0 ∧ (∃ r, b.drop a = bytes l ++ r) ∧ k = a + (bytes l).length ∧ k ≤ b.length ∧ ∀ x ∈ l, ∀ v ∈ x, V.fix v = v ∧ v.wf
  | 0, a, l, k, ha, h => by
    rw [rows] at h
    injection h with h
    injection h with h1 h2
    subst h1 h2
    exact ⟨rfl, rfl, ⟨b.drop a, rfl⟩, rfl, ha, fun x hx => by cases hx⟩
  | n + 1, a, l, k, ha, h => by
    rw [rows] at h
    split at h
    · cases h
    · next x k1 hx =>
      split at h
      · cases h
      · next l' j hr =>
        injection h with h
        injection h with h1 h2
        subst h1 h2
        obtain ⟨_, _, a3, a4, a5, a6, a7⟩ := Rw.read_ok hx
        rw [Int.toNat_natCast] at a3 a5
        obtain ⟨b1, b2, ⟨r, b3⟩, b4, b5, b6⟩ := rows_ok n k1 l' j a4 hr
        refine ⟨by simp [b1], by rw [rowsErr, if_pos a6]; exact b2, ⟨r, ?_⟩, by rw [bytes, List.length_append]; omega, b5, fun y hy => ?_⟩
        · rw [bytes, List.append_assoc, ← b3, a3, ← List.drop_drop]
          conv => rhs; lhs; rw [← a5]
          exact (List.take_append_drop _ _).symm
        · rcases List.mem_cons.1 hy with rfl | hy
          · exact a7
          · exact b6 y hy
theorem vB_pos {v : V} (h : chk 1 v = 0) : 1 ≤ (Sch.vB v).length := by
  cases v with
  | mk k i b t xs =>
    rw [chk_mk, if_neg (by omega)] at h
    split at h
    · omega
    · next h0 =>
      have h1 : 1 ≤ k ∧ k ≤ 7 := by
        simp only [Bool.not_eq_false] at h0
        unfold V.ownB at h0
        simp only [Bool.and_eq_true, decide_eq_true_eq] at h0
        exact h0.1.1.1.1.1.1
      rw [Sch.vB_mk, List.length_append, Sch.vH]
      have hp : ∀ n, 1 ≤ (Leb.put n).length := fun n => Leb.putF_pos 9 n
      split
      · simp
      split
      · have := hp (Leb.zig i); omega
      split
      · simp [Sch.le]; omega
      split
      · rw [List.length_append]; have := hp t.size; omega
      split
      · simp
      split
      · have := hp xs.length; omega
      · omega
theorem row_pos {s : List Col} {x : List V} (h : Rw.err s x = 0) : 1 ≤ (Rw.bytes x).length := by
  obtain ⟨h1, h2, h3, _⟩ := Rw.err_open h
  obtain ⟨g1, _⟩ := Sch.err_open h1
  match s, x, h2, h3, g1 with
  | [], _, _, _, g => simp at g
  | _ :: _, [], h2, _, _ => simp at h2
  | c :: s, v :: r, _, h3, _ =>
    rw [Rw.colsErr] at h3
    split at h3
    · next h0 =>
      have := vB_pos (Rw.vErr_zero h0).2.1
      rw [Rw.bytes_cons, List.length_append]
      omega
    · next h0 => exact absurd h3 h0
/-- P11.5, from any place on -/
theorem rows_once {s : List Col} {b : List UInt8} : ∀ (n m a : Nat) (l l' : List (List V)), rows s b n a = .ok (l, b.length) → rows s b m a = .ok (l', b.length) → n = m
  | 0, 0, _, _, _, _, _ => rfl
  | 0, m + 1, a, l, l', h, h' => by
    exfalso
    rw [rows_zero] at h
    rw [rows_succ] at h'
    injection h with h
    injection h with _ h
    subst h
    split at h'
    · cases h'
    · next x k1 hx =>
      obtain ⟨_, _, a3, a4, _, a6, _⟩ := Rw.read_ok hx
      have := row_pos a6
      rw [Int.toNat_natCast] at a3
      omega
  | n + 1, 0, a, l, l', h', h => by
    exfalso
    rw [rows_zero] at h
    rw [rows_succ] at h'
    injection h with h
    injection h with _ h
    subst h
    split at h'
    · cases h'
    · next x k1 hx =>
      obtain ⟨_, _, a3, a4, _, a6, _⟩ := Rw.read_ok hx
      have := row_pos a6
      rw [Int.toNat_natCast] at a3
      omega
  | n + 1, m + 1, a, l, l', h, h' => by
    rw [rows_succ] at h h'
    split at h
    · cases h
    · next x k1 hx =>
      rw [hx] at h'
      dsimp only at h'
      split at h
      · cases h
      · next l1 j1 hr =>
        injection h with h
        injection h with _ h
        subst h
        split at h'
        · cases h'
        · next l2 j2 hr2 =>
          injection h' with h'
          injection h' with _ h'
          subst h'
          rw [rows_once n m k1 l1 l2 hr hr2]
/-- one more row -/
theorem rows_snoc {s : List Col} {b : List UInt8} : ∀ (n a : Nat) (l : List (List V)) (k : Nat), rows s b n a = .ok (l, k) → rows s b (n + 1) a = (match Rw.read s b k with
    | .error e => .error e
    | .ok (r, j) => .ok (l ++ [r], j))
  | 0, a, l, k, h => by
    rw [rows_zero] at h
    injection h with h
    injection h with h1 h2
    subst h1 h2
    rw [rows_succ]
    cases Rw.read s b a with
    | error e => rfl
    | ok p => obtain ⟨r, j⟩ := p; rfl
  | n + 1, a, l, k, h => by
    rw [rows_succ] at h
    split at h
    · cases h
    · next x k1 hx =>
      split at h
      · cases h
      · next l' j hr =>
        injection h with h
        injection h with h1 h2
        subst h1 h2
        rw [rows_succ, hx]
        dsimp only
        rw [rows_snoc n k1 l' j hr]
        cases Rw.read s b j with
        | error e => rfl
        | ok p => obtain ⟨r, j⟩ := p; rfl
/-- an error stays -/
theorem rows_stop {s : List Col} {b : List UInt8} : ∀ (n a e m : Nat), rows s b n a = .error e → rows s b (n + m) a = .error e
  | 0, a, e, m, h => by rw [rows_zero] at h; cases h
  | n + 1, a, e, m, h => by
    rw [show n + 1 + m = (n + m) + 1 by omega, rows_succ]
    rw [rows_succ] at h
    split at h
    · next x hx =>
      injection h with h
      subst h
      rfl
    · next x k1 hx =>
      split at h
      · next e' hr =>
        injection h with h
        subst h
        rw [rows_stop n k1 _ m hr]
      · cases h
theorem whole_ok {s : List Col} {b : List UInt8} {n : Nat} {l : List (List V)} (h : whole s b n = .ok l) : l.length = n ∧ rowsErr s l = 0 ∧ b = bytes l ∧ rows s b n 0 = .ok (l, b.length) ∧ ∀ x ∈ l, ∀ v ∈ x, V.fix v = v ∧ v.wf := by
  unfold whole at h
  split at h
  · cases h
  · next l' j hr =>
    split at h
    · cases h
    · next hj =>
      injection h with h
      subst h
      obtain ⟨b1, b2, ⟨r, b3⟩, b4, b5, b6⟩ := rows_ok n 0 l' j (Nat.zero_le _) hr
      have hj2 : j = b.length := by omega
      subst hj2
      rw [List.drop_zero] at b3
      have hr0 : r = [] := by
        have := congrArg List.length b3
        rw [List.length_append] at this
        exact List.length_eq_zero_iff.1 (by omega)
      rw [hr0, List.append_nil] at b3
      exact ⟨b1, b2, b3, hr, b6⟩
theorem whole_put {s : List Col} {l : List (List V)} (h : rowsErr s l = 0) (hw : ∀ x ∈ l, ∀ v ∈ x, v.wf) : whole s (bytes l) l.length = .ok (l.map (fun x => x.map V.fix)) := by
  have := rows_put (s := s) [] l [] h hw
  rw [List.nil_append, List.append_nil] at this
  unfold whole
  rw [show (0 : Nat) = ([] : List UInt8).length from rfl, this]
  simp
theorem unpack_open {s : List Col} {b : List UInt8} {n : Int} {l : List (List V)} (h : unpack s b n = .ok l) : numErr s n = 0 ∧ (Blk.unpack b).err = 0 ∧ whole s (Blk.unpack b).out n.toNat = .ok l := by
  unfold unpack at h
  split at h
  · cases h
  · split at h
    · cases h
    · exact ⟨by omega, by omega, h⟩
/-- P11.4: there and back -/
theorem pack_unpack {s : List Col} {l : List (List V)} (h : err s l = 0) (hw : ∀ x ∈ l, ∀ v ∈ x, v.wf) : (pack s l).err = 0 ∧ unpack s (pack s l).out l.length = .ok (l.map (fun x => x.map V.fix)) := by
  obtain ⟨h0, h1, h2⟩ := err_open h
  obtain ⟨g1, g2, g3⟩ := Blk.pack_back h2
  unfold pack
  rw [if_pos h]
  refine ⟨g1, ?_⟩
  unfold unpack
  rw [if_neg (by omega), g2, if_neg (by simp)]
  exact whole_put h1 hw
theorem fix_all {l : List (List V)} (h : ∀ x ∈ l, ∀ v ∈ x, V.fix v = v ∧ v.wf) : l.map (fun x => x.map V.fix) = l := by
  have : ∀ x ∈ l, (fun x : List V => x.map V.fix) x = id x := fun x hx => by
    show x.map V.fix = x
    have h1 := List.map_congr_left (f := V.fix) (g := id) (l := x) (fun v hv => (h x hx v hv).1)
    rw [h1, List.map_id]
  rw [List.map_congr_left this, List.map_id]
/-- P11.4: back and there -/
theorem unpack_pack {s : List Col} {b : List UInt8} {n : Int} {l : List (List V)} (h : unpack s b n = .ok l) : err s l = 0 ∧ bytes l = (Blk.unpack b).out ∧ (l.length : Int) = n ∧ (pack s l).err = 0 ∧ unpack s (pack s l).out n = .ok l := by
  obtain ⟨h0, h1, h2⟩ := unpack_open h
  obtain ⟨b1, b2, b3, _, b5⟩ := whole_ok h2
  have hn := numErr_open h0
  have hln : (l.length : Int) = n := by omega
  have he : err s l = 0 := err_make (by rw [hln]; exact h0) b2 (by rw [← b3]; exact (Blk.unpack_len b).1)
  obtain ⟨g1, g2⟩ := pack_unpack he (fun x hx v hv => (b5 x hx v hv).2)
  rw [hln, fix_all b5] at g2
  exact ⟨he, b3.symm, hln, g1, g2⟩
/-- P11.5 -/
theorem unpack_once {s : List Col} {b : List UInt8} {n m : Int} {l l' : List (List V)} (h : unpack s b n = .ok l) (h' : unpack s b m = .ok l') : n = m := by
  obtain ⟨h0, h1, h2⟩ := unpack_open h
  obtain ⟨k0, k1, k2⟩ := unpack_open h'
  have := rows_once _ _ 0 _ _ (whole_ok h2).2.2.2.1 (whole_ok k2).2.2.2.1
  have := numErr_open h0
  have := numErr_open k0
  omega
/-- no error of these is a nought -/
theorem rows_err {s : List Col} {b : List UInt8} : ∀ (n a er : Nat), rows s b n a = .error er → er ≠ 0
  | 0, a, er, h => by rw [rows] at h; cases h
  | n + 1, a, er, h => by
    rw [rows] at h
    split at h
    · next e he => injection h with h; subst h; exact Rw.read_err he
    · split at h
      · next e he => injection h with h; subst h; exact rows_err _ _ _ he
      · cases h
theorem unpack_err {s : List Col} {b : List UInt8} {n : Int} {er : Nat} (h : unpack s b n = .error er) : er ≠ 0 := by
  unfold unpack at h
  split at h
  · next h0 => injection h with h; subst h; exact h0
  · split at h
    · next h0 => injection h with h; subst h; exact h0
    · unfold whole at h
      split at h
      · next e he => injection h with h; subst h; exact rows_err _ _ _ he
      · split at h
        · injection h with h; omega
        · cases h
/-- what is made is no nothing -/
theorem pack_pos (b : List UInt8) (h : b.length ≤ 2048) : 1 ≤ (Blk.pack b).out.length := by
  have h1 := (Blk.pack_back h).2.1
  cases hp : (Blk.pack b).out with
  | nil => rw [hp] at h1; simp [Blk.unpack] at h1
  | cons x l => simp

theorem first_ne {xs : List Nat} {n : Nat} (hn : n ≠ 0) (h : ∀ x ∈ xs, x ≠ n) : V.first xs ≠ n := by
  induction xs with
  | nil => rw [V.first]; omega
  | cons x r ih =>
    rw [V.first]
    split
    · exact ih (fun y hy => h y (by simp [hy]))
    · exact h x (by simp)
theorem ty_ne : ∀ (t : Ty) (d : Nat), Ty.check d t ≠ 30 := by
  intro t
  refine Ty.ind (P := fun t => ∀ d, Ty.check d t ≠ 30) ?_ t
  intro k xs ih d
  rw [Ty.check_mk]
  split
  · omega
  split
  · omega
  · refine first_ne (by omega) (fun x hx => ?_)
    obtain ⟨y, hy, rfl⟩ := List.mem_map.1 hx
    exact ih y hy _
theorem chkL_ne {d : Nat} {xs : List V} (h : ∀ x ∈ xs, chk d x ≠ 30) : chkL d xs ≠ 30 := by
  induction xs with
  | nil => unfold chkL; rw [V.checkL_nil]; omega
  | cons x r ih =>
    have h1 := ih (fun y hy => h y (by simp [hy]))
    have h2 := h x (by simp)
    unfold chkL at h1 ⊢
    unfold chk at h2
    rw [V.checkL_cons]
    split
    · exact h1
    · exact h2
theorem chk_ne : ∀ (v : V) (d : Nat), chk d v ≠ 30 := by
  intro v
  refine V.ind (P := fun v => ∀ d, chk d v ≠ 30) ?_ v
  intro k i b t xs ih d
  rw [chk_mk]
  split
  · omega
  split
  · omega
  split
  · omega
  split
  · omega
  split
  · omega
  · exact chkL_ne (fun x hx => ih x hx _)
theorem colErr_ne (l : List Col) (c : Col) : Sch.colErr l c ≠ 30 := by
  unfold Sch.colErr
  have h1 := ty_ne c.ty 1
  have h2 := chk_ne c.dflt 1
  split
  · omega
  split
  · omega
  split
  · exact h1
  split
  · split <;> omega
  split
  · exact h2
  split <;> omega
theorem colsErr_ne : ∀ (s l : List Col), Sch.colsErr l s ≠ 30
  | [], l => by rw [Sch.colsErr]; omega
  | c :: r, l => by
    rw [Sch.colsErr]
    split
    · exact colsErr_ne r _
    · exact colErr_ne l c
theorem schErr_ne (s : List Col) : Sch.err s ≠ 30 := by
  unfold Sch.err
  split
  · omega
  split
  · omega
  split
  · exact colsErr_ne s []
  split <;> omega
/-- a row asked for where there is no place -/
theorem read_none (s : List Col) : Rw.read s [] (-1) = .error (if Sch.err s = 0 then 30 else Sch.err s) := by
  unfold Rw.read
  split
  · rfl
  · next h => simp; omega
end Bt
end Go.Proofs.Ytpkbdnilakaakaa

/- The document's typeAt, CheckType. -/
namespace Go.Proofs.Ytpkbdnilakaakaa
open Go.RowKit

end Go.Proofs.Ytpkbdnilakaakaa

/- The document's Name. -/
namespace Go.Proofs.Ytpkbdnilakaakaa
open Go.RowKit

theorem headD_get {l : List UInt8} (h : 0 < l.length) : l.headD 0 = l[0] := by
  cases l with
  | nil => simp at h
  | cons a r => rfl
theorem name_short {t : ByteArray} (h : t.size < 1 ∨ 16 < t.size) : Sch.name t = false := by
  have hs : t.data.toList.length = t.size := by rw [Array.length_toList]; rfl
  unfold Sch.name Sch.nameL
  rw [decide_eq_false (by omega)]
  rfl
theorem name_head {t : ByteArray} (h : 0 < t.size) (hc : Sch.low t[0] = false) : Sch.name t = false := by
  have hs : t.data.toList.length = t.size := by rw [Array.length_toList]; rfl
  unfold Sch.name Sch.nameL
  have e : t.data.toList.headD 0 = t[0] := by
    rw [← text_get t 0 h]
    exact headD_get (by omega)
  rw [e, hc, Bool.and_false, Bool.false_and]
theorem name_bad {t : ByteArray} (j : Nat) (h : j < t.size) (hc : Sch.ch t[j] = false) : Sch.name t = false := by
  have hs : t.data.toList.length = t.size := by rw [Array.length_toList]; rfl
  unfold Sch.name Sch.nameL
  have : t.data.toList.all Sch.ch = false := by
    rw [List.all_eq_false]
    refine ⟨t[j], ?_, by simp [hc]⟩
    rw [← text_get t j h]
    exact List.getElem_mem _
  rw [this, Bool.and_false]
theorem name_good {t : ByteArray} (h1 : 1 ≤ t.size) (h2 : t.size ≤ 16) (h3 : Sch.low (t[0]'(by omega)) = true) (h4 : ∀ j (h : j < t.size), Sch.ch t[j] = true) : Sch.name t = true := by
  have hs : t.data.toList.length = t.size := by rw [Array.length_toList]; rfl
  unfold Sch.name Sch.nameL
  have e : t.data.toList.headD 0 = t[0]'(by omega) := by
    rw [← text_get t 0 (by omega)]
    exact headD_get (by omega)
  have : t.data.toList.all Sch.ch = true := by
    rw [List.all_eq_true]
    intro x hx
    obtain ⟨j, hj, rfl⟩ := List.getElem_of_mem hx
    rw [text_get t j (by omega)]
    exact h4 j (by omega)
  rw [e, h3, this, decide_eq_true (by omega)]
  rfl

end Go.Proofs.Ytpkbdnilakaakaa

/- The document's Find. -/
namespace Go.Proofs.Ytpkbdnilakaakaa
open Go.RowKit

/-- what Find tells -/
def foundV (r : Option Nat) : Value := match r with
  | some k => .tuple #[.int .i64 k, .bool true]
  | none => .tuple #[.int .i64 0, .bool false]
theorem find_ge (n : ByteArray) : ∀ (s : List Col) (k j : Nat), Sch.find n s k = some j → k ≤ j
  | [], _, _, h => by simp [Sch.find] at h
  | c :: r, k, j, h => by
    rw [Sch.find] at h
    split at h
    · injection h; omega
    · have := find_ge n r (k + 1) j h; omega
theorem find_drop (n : ByteArray) (s : List Col) (j : Nat) (hj : j < s.length) : Sch.find n (s.drop j) j = if s[j].name = n then some j else Sch.find n (s.drop (j + 1)) (j + 1) := by
  rw [List.drop_eq_getElem_cons hj, Sch.find]

end Go.Proofs.Ytpkbdnilakaakaa

/- The document's of, Is. -/
namespace Go.Proofs.Ytpkbdnilakaakaa
open Go.RowKit

end Go.Proofs.Ytpkbdnilakaakaa

/- Plain: when two schemas are the same, column by column. -/
namespace Go.Proofs.Ytpkbdnilakaakaa

theorem sameS_ne : ∀ (s t : List Col), s.length ≠ t.length → Sch.same s t = false
  | [], [], h => absurd rfl h
  | [], _ :: _, _ => rfl
  | _ :: _, [], _ => rfl
  | c :: s, d :: t, h => by rw [Sch.same, sameS_ne s t (by simpa using h), Bool.and_false]
theorem sameS_at : ∀ (s t : List Col) (j : Nat) (h1 : j < s.length) (h2 : j < t.length), Sch.colSame s[j] t[j] = false → Sch.same s t = false
  | c :: s, d :: t, 0, _, _, h => by rw [Sch.same]; simp at h; rw [h, Bool.false_and]
  | c :: s, d :: t, j + 1, h1, h2, h => by rw [Sch.same, sameS_at s t j (by simpa using h1) (by simpa using h2) (by simpa using h), Bool.and_false]
theorem sameS_all : ∀ (s t : List Col), s.length = t.length → (∀ j (h1 : j < s.length) (h2 : j < t.length), Sch.colSame s[j] t[j] = true) → Sch.same s t = true
  | [], [], _, _ => rfl
  | [], _ :: _, h, _ => by simp at h
  | _ :: _, [], h, _ => by simp at h
  | c :: s, d :: t, h, ha => by
    rw [Sch.same, sameS_all s t (by simpa using h) (fun j h1 h2 => by have := ha (j + 1) (by simpa using h1) (by simpa using h2); simpa using this)]
    have := ha 0 (by simp) (by simp)
    simp at this
    rw [this]; rfl

end Go.Proofs.Ytpkbdnilakaakaa

/- In this stage nothing is asked of package leb by the laws themselves: the plain facts on its numbers come from here. -/

/- In this stage nothing is asked of package value by the laws themselves. -/
