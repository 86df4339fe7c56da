/- Bt, WTypeR: put together. -/
import Derived.Test.YtpkbdnilakaakaaGreatM12
import Derived.Test.YtpkbdnilakaakaaGreatM13
import Derived.Test.YtpkbdnilakaakaaGreatM04
import Derived.Test.YtpkbdnilakaakaaGreatM06

/- Plain: rows as a block, and a block as rows; what the document says of them. -/
namespace Go.Proofs.YtpkbdnilakaakaaGreat
namespace Bt

/-- the error of the first row that has one -/
def rowsErr (s : List Col) : List (List V) → Nat
  | [] => 0
  | r :: l => if Rw.err s r = 0 then rowsErr s l else Rw.err s r
/-- the rows' bytes, one row behind the other -/
def bytes : List (List V) → List UInt8
  | [] => []
  | r :: l => Rw.bytes r ++ bytes l
/-- why there can be no block with so many rows -/
def numErr (s : List Col) (n : Int) : Nat := if Sch.err s ≠ 0 then Sch.err s else if n < 1 then 4 else if 64 < n then 3 else 0
/-- P11.1 -/
def err (s : List Col) (l : List (List V)) : Nat := if numErr s l.length ≠ 0 then numErr s l.length else if rowsErr s l ≠ 0 then rowsErr s l else if 2048 < (bytes l).length then 2 else 0
def out (s : List Col) (l : List (List V)) : List UInt8 := if err s l = 0 then bytes l else []
/-- P11.2 -/
def pack (s : List Col) (l : List (List V)) : Blk.Res := if err s l = 0 then Blk.pack (bytes l) else ⟨err s l, []⟩
/-- so many rows, from a place on -/
def rows (s : List Col) (b : List UInt8) : Nat → Nat → Except Nat (List (List V) × Nat)
  | 0, a => .ok ([], a)
  | n + 1, a => match Rw.read s b a with
    | .error e => .error e
    | .ok (r, k) => match rows s b n k with
      | .error e => .error e
      | .ok (l, j) => .ok (r :: l, j)
/-- all rows of some bytes -/
def whole (s : List Col) (b : List UInt8) (n : Nat) : Except Nat (List (List V)) := match rows s b n 0 with
  | .error e => .error e
  | .ok (l, j) => if j < b.length then .error 5 else .ok l
/-- P11.3 -/
def unpack (s : List Col) (b : List UInt8) (n : Int) : Except Nat (List (List V)) := if numErr s n ≠ 0 then .error (numErr s n) else if (Blk.unpack b).err ≠ 0 then .error (Blk.unpack b).err else whole s (Blk.unpack b).out n.toNat

theorem numErr_open {s : List Col} {n : Int} (h : numErr s n = 0) : Sch.err s = 0 ∧ 1 ≤ n ∧ n ≤ 64 := by
  unfold numErr at h
  split at h
  · next h0 => exact absurd h h0
  · split at h
    · omega
    · split at h
      · omega
      · exact ⟨by omega, by omega, by omega⟩
theorem numErr_make {s : List Col} {n : Int} (h0 : Sch.err s = 0) (h1 : 1 ≤ n) (h2 : n ≤ 64) : numErr s n = 0 := by
  unfold numErr
  rw [if_neg (by omega), if_neg (by omega), if_neg (by omega)]
theorem err_open {s : List Col} {l : List (List V)} (h : err s l = 0) : numErr s l.length = 0 ∧ rowsErr s l = 0 ∧ (bytes l).length ≤ 2048 := by
  unfold err at h
  split at h
  · next h0 => exact absurd h h0
  · split at h
    · next h0 => exact absurd h h0
    · split at h
      · omega
      · exact ⟨by omega, by omega, by omega⟩
theorem err_make {s : List Col} {l : List (List V)} (h0 : numErr s l.length = 0) (h1 : rowsErr s l = 0) (h2 : (bytes l).length ≤ 2048) : err s l = 0 := by
  unfold err
  rw [if_neg (by omega), if_neg (by omega), if_neg (by omega)]
theorem rowsErr_mem {s : List Col} : ∀ {l : List (List V)}, rowsErr s l = 0 → ∀ r ∈ l, Rw.err s r = 0
  | [], _, r, hr => by cases hr
  | x :: l, h, r, hr => by
    rw [rowsErr] at h
    split at h
    · next h0 =>
      rcases List.mem_cons.1 hr with rfl | hr
      · exact h0
      · exact rowsErr_mem h r hr
    · next h0 => exact absurd h h0
theorem bytes_append (a b : List (List V)) : bytes (a ++ b) = bytes a ++ bytes b := by
  induction a with
  | nil => rfl
  | cons x a ih => rw [List.cons_append, bytes, bytes, ih, List.append_assoc]
theorem bytes_take (l : List (List V)) (i : Nat) (h : i < l.length) : bytes (l.take (i + 1)) = bytes (l.take i) ++ Rw.bytes l[i] := by
  rw [List.take_succ_eq_append_getElem h, bytes_append]
  simp [bytes]
theorem bytes_bound {s : List Col} : ∀ {l : List (List V)}, rowsErr s l = 0 → (bytes l).length ≤ 1024 * l.length
  | [], _ => by simp [bytes]
  | x :: l, h => by
    have h1 := (Rw.err_open (rowsErr_mem h x (by simp))).2.2.2
    have h2 := bytes_bound (s := s) (l := l) (by
      rw [rowsErr] at h
      split at h
      · exact h
      · next h0 => exact absurd h h0)
    rw [bytes, List.length_append, List.length_cons]
    omega
theorem rowsErr_take {s : List Col} : ∀ {l : List (List V)} (i : Nat), (∀ j (h : j < l.length), j < i → Rw.err s l[j] = 0) → rowsErr s (l.take i) = 0
  | [], i, _ => by simp [rowsErr]
  | x :: l, 0, _ => by simp [rowsErr]
  | x :: l, i + 1, h => by
    have h0 : Rw.err s x = 0 := h 0 (by simp) (by omega)
    rw [List.take_succ_cons, rowsErr, if_pos h0]
    exact rowsErr_take i (fun j hj hji => h (j + 1) (by simpa using hj) (by omega))
theorem rowsErr_at {s : List Col} : ∀ {l : List (List V)} (i : Nat) (hi : i < l.length), (∀ j (h : j < l.length), j < i → Rw.err s l[j] = 0) → Rw.err s l[i] ≠ 0 → rowsErr s l = Rw.err s l[i]
  | [], i, hi, _, _ => by simp at hi
  | x :: l, 0, hi, _, hn => by
    have hn' : Rw.err s x ≠ 0 := hn
    rw [rowsErr, if_neg hn']
    rfl
  | x :: l, i + 1, hi, h, hn => by
    have h0 : Rw.err s x = 0 := h 0 (by simp) (by omega)
    rw [rowsErr, if_pos h0]
    exact rowsErr_at i (by simpa using hi) (fun j hj hji => h (j + 1) (by simpa using hj) (by omega)) hn
theorem rowsErr_all {s : List Col} {l : List (List V)} (h : ∀ j (h : j < l.length), Rw.err s l[j] = 0) : rowsErr s l = 0 := by
  have := rowsErr_take (l := l) l.length (fun j hj _ => h j hj)
  rwa [List.take_length] at this

theorem rows_zero (s : List Col) (b : List UInt8) (a : Nat) : rows s b 0 a = .ok ([], a) := by rw [rows]
theorem rows_succ (s : List Col) (b : List UInt8) (n a : Nat) : rows s b (n + 1) a = (match Rw.read s b a with
    | .error e => .error e
    | .ok (r, k) => match rows s b n k with
      | .error e => .error e
      | .ok (l, j) => .ok (r :: l, j)) := by rw [rows]
theorem rows_put {s : List Col} (r : List UInt8) : ∀ (l : List (List V)) (a : List UInt8), rowsErr s l = 0 → (∀ x ∈ l, ∀ v ∈ x, v.wf) → rows s (a ++ (bytes l ++ r)) l.length a.length = .ok (l.map (fun x => x.map V.fix), a.length + (bytes l).length)
  | [], a, _, _ => by simp [rows, bytes]
  | x :: l, a, h, hw => by
    have h0 := rowsErr_mem h x (by simp)
    have hl : rowsErr s l = 0 := by
      rw [rowsErr, if_pos h0] at h
      exact h
    have e1 := Rw.read_put h0 (hw x (by simp)) a (bytes l ++ r)
    have e2 := rows_put r l (a ++ Rw.bytes x) hl (fun y hy => hw y (by simp [hy]))
    rw [List.append_assoc, List.length_append] at e2
    rw [List.length_cons, rows, bytes, List.append_assoc, e1]
    dsimp only
    rw [e2]
    simp [List.length_append, Nat.add_assoc]
/-- what is read has just these bytes -/
theorem rows_ok {s : List Col} {b : List UInt8} : ∀ (n a : Nat) (l : List (List V)) (k : Nat), a ≤ b.length → rows s b n a = .ok (l, k) → l.length = n ∧ rowsErr s l = 0 ∧ (∃ r, b.drop a = bytes l ++ r) ∧ k = a + (bytes l).length ∧ k ≤ b.length ∧ ∀ x ∈ l, ∀ v ∈ x, V.fix v = v ∧ v.wf
  | 0, a, l, k, ha, h => by
    rw [rows] at h
    injection h with h
    injection h with h1 h2
    subst h1 h2
    exact ⟨rfl, rfl, ⟨b.drop a, rfl⟩, rfl, ha, fun x hx => by cases hx⟩
  | n + 1, a, l, k, ha, h => by
    rw [rows] at h
    split at h
    · cases h
    · next x k1 hx =>
      split at h
      · cases h
      · next l' j hr =>
        injection h with h
        injection h with h1 h2
        subst h1 h2
        obtain ⟨_, _, a3, a4, a5, a6, a7⟩ := Rw.read_ok hx
        rw [Int.toNat_natCast] at a3 a5
        obtain ⟨b1, b2, ⟨r, b3⟩, b4, b5, b6⟩ := rows_ok n k1 l' j a4 hr
        refine ⟨by simp [b1], by rw [rowsErr, if_pos a6]; exact b2, ⟨r, ?_⟩, by rw [bytes, List.length_append]; omega, b5, fun y hy => ?_⟩
        · rw [bytes, List.append_assoc, ← b3, a3, ← List.drop_drop]
          conv => rhs; lhs; rw [← a5]
          exact (List.take_append_drop _ _).symm
        · rcases List.mem_cons.1 hy with rfl | hy
          · exact a7
          · exact b6 y hy
theorem vB_pos {v : V} (h : chk 1 v = 0) : 1 ≤ (Sch.vB v).length := by
  cases v with
  | mk k i b t xs =>
    rw [chk_mk, if_neg (by omega)] at h
    split at h
    · omega
    · next h0 =>
      have h1 : 1 ≤ k ∧ k ≤ 7 := by
        simp only [Bool.not_eq_false] at h0
        unfold V.ownB at h0
        simp only [Bool.and_eq_true, decide_eq_true_eq] at h0
        exact h0.1.1.1.1.1.1
      rw [Sch.vB_mk, List.length_append, Sch.vH]
      have hp : ∀ n, 1 ≤ (Leb.put n).length := fun n => Leb.putF_pos 9 n
      split
      · simp
      split
      · have := hp (Leb.zig i); omega
      split
      · simp [Sch.le]; omega
      split
      · rw [List.length_append]; have := hp t.size; omega
      split
      · simp
      split
      · have := hp xs.length; omega
      · omega
theorem row_pos {s : List Col} {x : List V} (h : Rw.err s x = 0) : 1 ≤ (Rw.bytes x).length := by
  obtain ⟨h1, h2, h3, _⟩ := Rw.err_open h
  obtain ⟨g1, _⟩ := Sch.err_open h1
  match s, x, h2, h3, g1 with
  | [], _, _, _, g => simp at g
  | _ :: _, [], h2, _, _ => simp at h2
  | c :: s, v :: r, _, h3, _ =>
    rw [Rw.colsErr] at h3
    split at h3
    · next h0 =>
      have := vB_pos (Rw.vErr_zero h0).2.1
      rw [Rw.bytes_cons, List.length_append]
      omega
    · next h0 => exact absurd h3 h0
/-- P11.5, from any place on -/
theorem rows_once {s : List Col} {b : List UInt8} : ∀ (n m a : Nat) (l l' : List (List V)), rows s b n a = .ok (l, b.length) → rows s b m a = .ok (l', b.length) → n = m
  | 0, 0, _, _, _, _, _ => rfl
  | 0, m + 1, a, l, l', h, h' => by
    exfalso
    rw [rows_zero] at h
    rw [rows_succ] at h'
    injection h with h
    injection h with _ h
    subst h
    split at h'
    · cases h'
    · next x k1 hx =>
      obtain ⟨_, _, a3, a4, _, a6, _⟩ := Rw.read_ok hx
      have := row_pos a6
      rw [Int.toNat_natCast] at a3
      omega
  | n + 1, 0, a, l, l', h', h => by
    exfalso
    rw [rows_zero] at h
    rw [rows_succ] at h'
    injection h with h
    injection h with _ h
    subst h
    split at h'
    · cases h'
    · next x k1 hx =>
      obtain ⟨_, _, a3, a4, _, a6, _⟩ := Rw.read_ok hx
      have := row_pos a6
      rw [Int.toNat_natCast] at a3
      omega
  | n + 1, m + 1, a, l, l', h, h' => by
    rw [rows_succ] at h h'
    split at h
    · cases h
    · next x k1 hx =>
      rw [hx] at h'
      dsimp only at h'
      split at h
      · cases h
      · next l1 j1 hr =>
        injection h with h
        injection h with _ h
        subst h
        split at h'
        · cases h'
        · next l2 j2 hr2 =>
          injection h' with h'
          injection h' with _ h'
          subst h'
          rw [rows_once n m k1 l1 l2 hr hr2]
/-- one more row -/
theorem rows_snoc {s : List Col} {b : List UInt8} : ∀ (n a : Nat) (l : List (List V)) (k : Nat), rows s b n a = .ok (l, k) → rows s b (n + 1) a = (match Rw.read s b k with
    | .error e => .error e
    | .ok (r, j) => .ok (l ++ [r], j))
  | 0, a, l, k, h => by
    rw [rows_zero] at h
    injection h with h
    injection h with h1 h2
    subst h1 h2
    rw [rows_succ]
    cases Rw.read s b a with
    | error e => rfl
    | ok p => obtain ⟨r, j⟩ := p; rfl
  | n + 1, a, l, k, h => by
    rw [rows_succ] at h
    split at h
    · cases h
    · next x k1 hx =>
      split at h
      · cases h
      · next l' j hr =>
        injection h with h
        injection h with h1 h2
        subst h1 h2
        rw [rows_succ, hx]
        dsimp only
        rw [rows_snoc n k1 l' j hr]
        cases Rw.read s b j with
        | error e => rfl
        | ok p => obtain ⟨r, j⟩ := p; rfl
/-- an error stays -/
theorem rows_stop {s : List Col} {b : List UInt8} : ∀ (n a e m : Nat), rows s b n a = .error e → rows s b (n + m) a = .error e
  | 0, a, e, m, h => by rw [rows_zero] at h; cases h
  | n + 1, a, e, m, h => by
    rw [show n + 1 + m = (n + m) + 1 by omega, rows_succ]
    rw [rows_succ] at h
    split at h
    · next x hx =>
      injection h with h
      subst h
      rfl
    · next x k1 hx =>
      split at h
      · next e' hr =>
        injection h with h
        subst h
        rw [rows_stop n k1 _ m hr]
      · cases h
theorem whole_ok {s : List Col} {b : List UInt8} {n : Nat} {l : List (List V)} (h : whole s b n = .ok l) : l.length = n ∧ rowsErr s l = 0 ∧ b = bytes l ∧ rows s b n 0 = .ok (l, b.length) ∧ ∀ x ∈ l, ∀ v ∈ x, V.fix v = v ∧ v.wf := by
  unfold whole at h
  split at h
  · cases h
  · next l' j hr =>
    split at h
    · cases h
    · next hj =>
      injection h with h
      subst h
      obtain ⟨b1, b2, ⟨r, b3⟩, b4, b5, b6⟩ := rows_ok n 0 l' j (Nat.zero_le _) hr
      have hj2 : j = b.length := by omega
      subst hj2
      rw [List.drop_zero] at b3
      have hr0 : r = [] := by
        have := congrArg List.length b3
        rw [List.length_append] at this
        exact List.length_eq_zero_iff.1 (by omega)
      rw [hr0, List.append_nil] at b3
      exact ⟨b1, b2, b3, hr, b6⟩
theorem whole_put {s : List Col} {l : List (List V)} (h : rowsErr s l = 0) (hw : ∀ x ∈ l, ∀ v ∈ x, v.wf) : whole s (bytes l) l.length = .ok (l.map (fun x => x.map V.fix)) := by
  have := rows_put (s := s) [] l [] h hw
  rw [List.nil_append, List.append_nil] at this
  unfold whole
  rw [show (0 : Nat) = ([] : List UInt8).length from rfl, this]
  simp
theorem unpack_open {s : List Col} {b : List UInt8} {n : Int} {l : List (List V)} (h : unpack s b n = .ok l) : numErr s n = 0 ∧ (Blk.unpack b).err = 0 ∧ whole s (Blk.unpack b).out n.toNat = .ok l := by
  unfold unpack at h
  split at h
  · cases h
  · split at h
    · cases h
    · exact ⟨by omega, by omega, h⟩
/-- P11.4: there and back -/
theorem pack_unpack {s : List Col} {l : List (List V)} (h : err s l = 0) (hw : ∀ x ∈ l, ∀ v ∈ x, v.wf) : (pack s l).err = 0 ∧ unpack s (pack s l).out l.length = .ok (l.map (fun x => x.map V.fix)) := by
  obtain ⟨h0, h1, h2⟩ := err_open h
  obtain ⟨g1, g2, g3⟩ := Blk.pack_back h2
  unfold pack
  rw [if_pos h]
  refine ⟨g1, ?_⟩
  unfold unpack
  rw [if_neg (by omega), g2, if_neg (by simp)]
  exact whole_put h1 hw
theorem fix_all {l : List (List V)} (h : ∀ x ∈ l, ∀ v ∈ x, V.fix v = v ∧ v.wf) : l.map (fun x => x.map V.fix) = l := by
  have : ∀ x ∈ l, (fun x : List V => x.map V.fix) x = id x := fun x hx => by
    show x.map V.fix = x
    have h1 := List.map_congr_left (f := V.fix) (g := id) (l := x) (fun v hv => (h x hx v hv).1)
    rw [h1, List.map_id]
  rw [List.map_congr_left this, List.map_id]
/-- P11.4: back and there -/
theorem unpack_pack {s : List Col} {b : List UInt8} {n : Int} {l : List (List V)} (h : unpack s b n = .ok l) : err s l = 0 ∧ bytes l = (Blk.unpack b).out ∧ (l.length : Int) = n ∧ (pack s l).err = 0 ∧ unpack s (pack s l).out n = .ok l := by
  obtain ⟨h0, h1, h2⟩ := unpack_open h
  obtain ⟨b1, b2, b3, _, b5⟩ := whole_ok h2
  have hn := numErr_open h0
  have hln : (l.length : Int) = n := by omega
  have he : err s l = 0 := err_make (by rw [hln]; exact h0) b2 (by rw [← b3]; exact (Blk.unpack_len b).1)
  obtain ⟨g1, g2⟩ := pack_unpack he (fun x hx v hv => (b5 x hx v hv).2)
  rw [hln, fix_all b5] at g2
  exact ⟨he, b3.symm, hln, g1, g2⟩
/-- P11.5 -/
theorem unpack_once {s : List Col} {b : List UInt8} {n m : Int} {l l' : List (List V)} (h : unpack s b n = .ok l) (h' : unpack s b m = .ok l') : n = m := by
  obtain ⟨h0, h1, h2⟩ := unpack_open h
  obtain ⟨k0, k1, k2⟩ := unpack_open h'
  have := rows_once _ _ 0 _ _ (whole_ok h2).2.2.2.1 (whole_ok k2).2.2.2.1
  have := numErr_open h0
  have := numErr_open k0
  omega
/-- no error of these is a nought -/
theorem rows_err {s : List Col} {b : List UInt8} : ∀ (n a er : Nat), rows s b n a = .error er → er ≠ 0
  | 0, a, er, h => by rw [rows] at h; cases h
  | n + 1, a, er, h => by
    rw [rows] at h
    split at h
    · next e he => injection h with h; subst h; exact Rw.read_err he
    · split at h
      · next e he => injection h with h; subst h; exact rows_err _ _ _ he
      · cases h
theorem unpack_err {s : List Col} {b : List UInt8} {n : Int} {er : Nat} (h : unpack s b n = .error er) : er ≠ 0 := by
  unfold unpack at h
  split at h
  · next h0 => injection h with h; subst h; exact h0
  · split at h
    · next h0 => injection h with h; subst h; exact h0
    · unfold whole at h
      split at h
      · next e he => injection h with h; subst h; exact rows_err _ _ _ he
      · split at h
        · injection h with h; omega
        · cases h
/-- what is made is no nothing -/
theorem pack_pos (b : List UInt8) (h : b.length ≤ 2048) : 1 ≤ (Blk.pack b).out.length := by
  have h1 := (Blk.pack_back h).2.1
  cases hp : (Blk.pack b).out with
  | nil => rw [hp] at h1; simp [Blk.unpack] at h1
  | cons x l => simp

theorem first_ne {xs : List Nat} {n : Nat} (hn : n ≠ 0) (h : ∀ x ∈ xs, x ≠ n) : V.first xs ≠ n := by
  induction xs with
  | nil => rw [V.first]; omega
  | cons x r ih =>
    rw [V.first]
    split
    · exact ih (fun y hy => h y (by simp [hy]))
    · exact h x (by simp)
theorem ty_ne : ∀ (t : Ty) (d : Nat), Ty.check d t ≠ 30 := by
  intro t
  refine Ty.ind (P := fun t => ∀ d, Ty.check d t ≠ 30) ?_ t
  intro k xs ih d
  rw [Ty.check_mk]
  split
  · omega
  split
  · omega
  · refine first_ne (by omega) (fun x hx => ?_)
    obtain ⟨y, hy, rfl⟩ := List.mem_map.1 hx
    exact ih y hy _
theorem chkL_ne {d : Nat} {xs : List V} (h : ∀ x ∈ xs, chk d x ≠ 30) : chkL d xs ≠ 30 := by
  induction xs with
  | nil => unfold chkL; rw [V.checkL_nil]; omega
  | cons x r ih =>
    have h1 := ih (fun y hy => h y (by simp [hy]))
    have h2 := h x (by simp)
    unfold chkL at h1 ⊢
    unfold chk at h2
    rw [V.checkL_cons]
    split
    · exact h1
    · exact h2
theorem chk_ne : ∀ (v : V) (d : Nat), chk d v ≠ 30 := by
  intro v
  refine V.ind (P := fun v => ∀ d, chk d v ≠ 30) ?_ v
  intro k i b t xs ih d
  rw [chk_mk]
  split
  · omega
  split
  · omega
  split
  · omega
  split
  · omega
  split
  · omega
  · exact chkL_ne (fun x hx => ih x hx _)
theorem colErr_ne (l : List Col) (c : Col) : Sch.colErr l c ≠ 30 := by
  unfold Sch.colErr
  have h1 := ty_ne c.ty 1
  have h2 := chk_ne c.dflt 1
  split
  · omega
  split
  · omega
  split
  · exact h1
  split
  · split <;> omega
  split
  · exact h2
  split <;> omega
theorem colsErr_ne : ∀ (s l : List Col), Sch.colsErr l s ≠ 30
  | [], l => by rw [Sch.colsErr]; omega
  | c :: r, l => by
    rw [Sch.colsErr]
    split
    · exact colsErr_ne r _
    · exact colErr_ne l c
theorem schErr_ne (s : List Col) : Sch.err s ≠ 30 := by
  unfold Sch.err
  split
  · omega
  split
  · omega
  split
  · exact colsErr_ne s []
  split <;> omega
/-- a row asked for where there is no place -/
theorem read_none (s : List Col) : Rw.read s [] (-1) = .error (if Sch.err s = 0 then 30 else Sch.err s) := by
  unfold Rw.read
  split
  · rfl
  · next h => simp; omega
end Bt
end Go.Proofs.YtpkbdnilakaakaaGreat

/- The document's typeAt, CheckType. -/
namespace Go.Proofs.YtpkbdnilakaakaaGreat
open Go.RowKit

set_option maxRecDepth 100000 in
set_option maxHeartbeats 1000000 in
theorem refTypeAt7 : ∀ (x : Ty) (d : Nat) (w : World) (u : Array Value), d ≤ 5 → TLies w u x → Calls Tryz.prog 79 #[.agg u, .int .i64 d] w fun e w' => e = .returned (.int .i64 (Ty.check d x : Nat)) ∧ Below w.heap.size w w' := by
  intro x
  refine Ty.ind (P := fun x => ∀ (d : Nat) (w : World) (u : Array Value), d ≤ 5 → TLies w u x → Calls Tryz.prog 79 #[.agg u, .int .i64 d] w fun e w' => e = .returned (.int .i64 (Ty.check d x : Nat)) ∧ Below w.heap.size w w') ?_ x
  rintro k xs ih d w u hd hx
  obtain ⟨p, c, rfl, hxl, hxc, hxi⟩ := hx.open
  unfold cells2
  have hB1 : Below w.heap.size w (w.alloc (.cells #[.int .i64 k, .slice p xs.length c] 67)) := (Below.refl _ _).alloc (Nat.le_refl _) _
  have HB1 := Lib.hid hB1
  clear hB1 hx
  obtain ⟨R, hR⟩ : ∃ R, R = Ty.check d (.mk k xs) := ⟨_, rfl⟩
  have HCk := Lib.hid (hR.trans (Ty.check_mk d k xs))
  rw [← hR]
  clear hR
  by_cases h1 : 4 < d
  · have g1 : (4 : Int) < (d : Int) := by omega
    have HR : Hid (R = 62) := by show _ = _; rw [HCk.out, if_pos h1]
    clear ih hxi HCk
    go_enter Tryz.func79, Tryz.ntmps79
    go_wp2
    go_ret
    exact ⟨by rw [HR.out]; rfl, HB1.out⟩
  have g1 : ¬ (4 : Int) < (d : Int) := by omega
  by_cases h2 : k < 1 ∨ 7 < k
  · have e6 : (k == 6) = false := by simp; omega
    have e7 : (k == 7) = false := by simp; omega
    have HR : Hid (R = 60) := by show _ = _; rw [HCk.out, if_neg h1, if_pos (by omega)]
    clear ih hxi HCk
    rcases h2 with h2 | h2
    · go_enter Tryz.func79, Tryz.ntmps79
      go_wp2
      go_ret
      exact ⟨by rw [HR.out]; rfl, HB1.out⟩
    · have h3 : ¬ k < 1 := by omega
      go_enter Tryz.func79, Tryz.ntmps79
      go_wp2
      go_ret
      exact ⟨by rw [HR.out]; rfl, HB1.out⟩
  have h3 : ¬ k < 1 := by omega
  have h4 : ¬ 7 < k := by omega
  by_cases h67 : k = 6 ∨ k = 7
  · have hw : Ty.want k = 1 := by unfold Ty.want; rw [if_pos h67]
    by_cases hl1 : xs.length = 1
    · have gl : ((xs.length : Int) != 1) = false := bne_f (by omega)
      have HX : Hid (∀ j (hj : j < xs.length), ∃ u', TLies w u' xs[j] ∧ ItemT w p j u') := hxi
      have HIH := Lib.hid ih
      obtain ⟨ux, hvx, hix⟩ := HX.out 0 (by omega)
      obtain ⟨bx, ox, kx, qx, nx, cx, rfl, _, rfl, a0, a1⟩ := (hix.on HB1.out).lies
      rw [Nat.zero_mul, Nat.add_zero] at a0 a1
      have hR1 : R = Ty.check (d + 1) (xs[0]'(by omega)) := by
        obtain ⟨y, rfl⟩ := List.length_eq_one_iff.1 hl1
        rw [HCk.out]
        have := Ty.check_one d k y h1 (by omega) hw
        rw [Ty.check_mk] at this
        exact this
      have HC := Lib.hid (HIH.out _ (List.getElem_mem (by omega : 0 < xs.length)) (d + 1) _ _ (by omega) (hvx.on HB1.out))
      rw [← hR1] at HC
      unfold cells2 at HC
      have hl0 : (0 : Int) < (xs.length : Int) := by omega
      clear hR1 HX HIH hvx hix HCk ih hxi hw hl1
      rcases h67 with h6 | h6
      all_goals
        first
          | have e6 : (k == 6) = true := beq_t h6
          | (have e6 : (k == 6) = false := beq_f (by omega)
             have e7 : (k == 7) = true := beq_t h6)
        clear h6
        go_enter Tryz.func79, Tryz.ntmps79
        go_wp2_with fail
        refine HC.out.mono ?_
        rintro e w2 ⟨rfl, hb2⟩
        have HB2 := Lib.hid (HB1.out.trans (hb2.mono HB1.out.size))
        clear hb2
        go_wp2
        go_ret
        exact ⟨rfl, HB2.out⟩
    · have gl : ((xs.length : Int) != 1) = true := bne_t (by omega)
      have HR : Hid (R = 60) := by show _ = _; rw [HCk.out, if_neg h1, if_pos (by omega)]
      clear ih hxi HCk hw
      rcases h67 with h6 | h6
      all_goals
        first
          | have e6 : (k == 6) = true := beq_t h6
          | (have e6 : (k == 6) = false := beq_f (by omega)
             have e7 : (k == 7) = true := beq_t h6)
        clear h6
        go_enter Tryz.func79, Tryz.ntmps79
        go_wp2
        go_ret
        exact ⟨by rw [HR.out]; rfl, HB1.out⟩
  · have hw : Ty.want k = 0 := by unfold Ty.want; rw [if_neg h67]
    have e6 : (k == 6) = false := beq_f (by omega)
    have e7 : (k == 7) = false := beq_f (by omega)
    by_cases hl0 : xs.length = 0
    · have gl : ((xs.length : Int) != 0) = false := bne_f (by omega)
      have HR : Hid (R = 0) := by
        show _ = _
        have hx0 : xs = [] := List.eq_nil_of_length_eq_zero hl0
        subst hx0
        rw [HCk.out]
        have := Ty.check_leaf d k h1 (by omega) hw
        rw [Ty.check_mk] at this
        exact this
      clear ih hxi HCk hw hl0
      go_enter Tryz.func79, Tryz.ntmps79
      go_wp2
      go_ret
      exact ⟨by rw [HR.out]; rfl, HB1.out⟩
    · have gl : ((xs.length : Int) != 0) = true := bne_t (by omega)
      have HR : Hid (R = 60) := by show _ = _; rw [HCk.out, if_neg h1, if_pos (by omega)]
      clear ih hxi HCk hw hl0
      go_enter Tryz.func79, Tryz.ntmps79
      go_wp2
      go_ret
      exact ⟨by rw [HR.out]; rfl, HB1.out⟩

set_option maxHeartbeats 400000 in
theorem refCheckType7 (x : Ty) (w : World) (u : Array Value) (h : TLies w u x) : Calls Tryz.prog 56 #[.agg u] w fun e w' => e = .returned (.int .i64 (Ty.check 1 x : Nat)) ∧ Below w.heap.size w w' := by
  obtain ⟨k, xs⟩ := x
  obtain ⟨p, c, rfl, -⟩ := h.open
  have hB1 : Below w.heap.size w (w.alloc (.cells (cells2 k p xs.length c) 67)) := (Below.refl _ _).alloc (Nat.le_refl _) _
  have HB1 := Lib.hid hB1
  have HC := Lib.hid (refTypeAt7 _ 1 _ _ (by omega) (h.on hB1))
  clear hB1 h
  obtain ⟨R, hR⟩ : ∃ R, R = Ty.check 1 (.mk k xs) := ⟨_, rfl⟩
  rw [← hR] at HC ⊢
  clear hR
  unfold cells2 at HC HB1 ⊢
  go_enter Tryz.func56, Tryz.ntmps56
  go_wp2_with fail
  refine HC.out.mono ?_
  rintro e w2 ⟨rfl, hb2⟩
  have HB2 := Lib.hid (HB1.out.trans (hb2.mono HB1.out.size))
  clear hb2
  go_wp2
  go_ret
  exact ⟨rfl, HB2.out⟩

end Go.Proofs.YtpkbdnilakaakaaGreat
