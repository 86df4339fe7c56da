/- WInt9, Rz: put together. -/
import Derived.Test.YtbedlaaedefclaaM03
import Derived.Test.YtbedlaaedefclaaM23
import Derived.Test.YtbedlaaedefclaaM22

/- The walks of package real's ToInt and FromInt (wip/real/WInt.lean.t over a dump that lists no variable). -/
namespace Go.Proofs.Ytbedlaaedefclaa
open Go.RowKit

/-- is it a whole number of 64 bits, and not the minus nought? -/
def okB (x : Nat) : Bool := Flt.inR x && !((fixB x : Int) == 9223372036854775808) && Flt.whole x
/-- what ToInt tells -/
def toN (x : Nat) : Int := if okB x then Flt.trunc x else 0
def toE (x : Nat) : Int := if okB x then 0 else 10

set_option maxHeartbeats 400000 in
theorem isMinusZero_any (x : Nat) (w : World) :
    Calls Try.prog 87 #[.float .f64 x] w fun e w' => e = .returned (.bool ((fixB x : Int) == 9223372036854775808)) ∧ w' = w := by
  go_enter Try.func87, Try.ntmps87
  go_wp2_with (go_at_call 99; refine (realBits_any _ _).mono ?_; rintro e w' ⟨rfl, rfl⟩)
  go_ret
  exact ⟨rfl, rfl⟩

theorem inR_f {x : Nat} (h : Flt.inR x = false) : (FloatKind.f64.format.order 14114281232179134464 x == some .lt || FloatKind.f64.format.order 14114281232179134464 x == some .eq) = false ∨ (FloatKind.f64.format.order 14114281232179134464 x == some .lt || FloatKind.f64.format.order 14114281232179134464 x == some .eq) = true ∧ (FloatKind.f64.format.order x 4890909195324358656 == some .lt) = false := by
  have h' : ((FloatKind.f64.format.order 14114281232179134464 x == some .lt || FloatKind.f64.format.order 14114281232179134464 x == some .eq) && FloatKind.f64.format.order x 4890909195324358656 == some .lt) = false := h
  rw [Bool.and_eq_false_iff] at h'
  rcases h' with h' | h'
  · exact .inl h'
  · cases ha : (FloatKind.f64.format.order 14114281232179134464 x == some .lt || FloatKind.f64.format.order 14114281232179134464 x == some .eq)
    · exact .inl rfl
    · exact .inr ⟨rfl, h'⟩
theorem inR_t {x : Nat} (h : Flt.inR x = true) : (FloatKind.f64.format.order 14114281232179134464 x == some .lt || FloatKind.f64.format.order 14114281232179134464 x == some .eq) = true ∧ (FloatKind.f64.format.order x 4890909195324358656 == some .lt) = true := by
  have h' : ((FloatKind.f64.format.order 14114281232179134464 x == some .lt || FloatKind.f64.format.order 14114281232179134464 x == some .eq) && FloatKind.f64.format.order x 4890909195324358656 == some .lt) = true := h
  rw [Bool.and_eq_true] at h'
  exact h'

theorem isMZ_t (x : Nat) (h : ((fixB x : Int) == 9223372036854775808) = true) (w : World) :
    Calls Try.prog 87 #[.float .f64 x] w fun e w' => e = .returned (.bool true) ∧ w' = w := by
  refine (isMinusZero_any x w).mono ?_
  rintro e w' ⟨rfl, rfl⟩; exact ⟨by rw [h], rfl⟩
theorem isMZ_f (x : Nat) (h : ((fixB x : Int) == 9223372036854775808) = false) (w : World) :
    Calls Try.prog 87 #[.float .f64 x] w fun e w' => e = .returned (.bool false) ∧ w' = w := by
  refine (isMinusZero_any x w).mono ?_
  rintro e w' ⟨rfl, rfl⟩; exact ⟨by rw [h], rfl⟩

theorem run_to_int (x : Nat) (n : Int) (w : World) (h : floatToIntVal .f64 x .i64 = some n) : (convert 25 2 (.float .f64 x)).run Try.prog w = .ok (.int .i64 n) w :=
  run_convert_float_int w 25 2 .f64 .i64 x n (by rw [Try.underlying25]; rfl) Try.underlying2 h

set_option maxHeartbeats 400000 in
theorem realToInt_any (x : Nat) (w : World) :
    Calls Try.prog 69 #[.float .f64 x] w fun e w' => e = .returned (.tuple #[.int .i64 (toN x), .int .i64 (toE x)]) ∧ w' = w := by
  cases hr : Flt.inR x
  · have e1 : toN x = 0 := by simp [toN, okB, hr]
    have e2 : toE x = 10 := by simp [toE, okB, hr]
    rw [e1, e2]
    rcases inR_f hr with h | ⟨h, h'⟩
    all_goals
      clear hr e1 e2
      go_enter Try.func69, Try.ntmps69
      go_wp2
      go_ret2
      exact ⟨rfl, rfl⟩
  · obtain ⟨h, h'⟩ := inR_t hr
    cases hz : ((fixB x : Int) == 9223372036854775808)
    · have hc : ∀ w, (convert 25 2 (.float .f64 x)).run Try.prog w = .ok (.int .i64 (Flt.trunc x)) w := fun w => run_to_int x _ w (Flt.toInt_val hr)
      cases hw : Flt.whole x
      · have hb : (FloatKind.f64.format.order (floatOfInt .f64 (Flt.trunc x)) x != some .eq) = true := by
          have := Flt.back_whole (Flt.inR_fin hr)
          rw [hw] at this
          exact congrArg not this
        have e1 : toN x = 0 := by simp [toN, okB, hw]
        have e2 : toE x = 10 := by simp [toE, okB, hw]
        rw [e1, e2]
        clear hr e1 e2 hw
        go_enter Try.func69, Try.ntmps69
        go_wp2_with (go_at_call 87; refine (isMZ_f _ hz _).mono ?_; rintro e w' ⟨rfl, rfl⟩)
        go_ret2
        exact ⟨rfl, rfl⟩
      · have hb : (FloatKind.f64.format.order (floatOfInt .f64 (Flt.trunc x)) x != some .eq) = false := by
          have := Flt.back_whole (Flt.inR_fin hr)
          rw [hw] at this
          exact congrArg not this
        have e1 : toN x = Flt.trunc x := by simp [toN, okB, hw, hr, hz]
        have e2 : toE x = 0 := by simp [toE, okB, hw, hr, hz]
        rw [e1, e2]
        clear hr e1 e2 hw
        go_enter Try.func69, Try.ntmps69
        go_wp2_with (go_at_call 87; refine (isMZ_f _ hz _).mono ?_; rintro e w' ⟨rfl, rfl⟩)
        go_ret2
        exact ⟨rfl, rfl⟩
    · have e1 : toN x = 0 := by simp [toN, okB, hz]
      have e2 : toE x = 10 := by simp [toE, okB, hz]
      rw [e1, e2]
      clear hr e1 e2
      go_enter Try.func69, Try.ntmps69
      go_wp2_with (go_at_call 87; refine (isMZ_t _ hz _).mono ?_; rintro e w' ⟨rfl, rfl⟩)
      go_ret2
      exact ⟨rfl, rfl⟩

/-- what FromInt tells -/
def fromOk (n : Int) : Bool := (toE (floatOfInt .f64 n) == 0) && (toN (floatOfInt .f64 n) == n)
def fromB (n : Int) : Nat := if fromOk n then floatOfInt .f64 n else 0
def fromE (n : Int) : Int := if fromOk n then 0 else 10

theorem from_cases (n : Int) : (toE (floatOfInt .f64 n) != 0) = true ∧ fromOk n = false ∨ (toE (floatOfInt .f64 n) != 0) = false ∧ (toN (floatOfInt .f64 n) != n) = true ∧ fromOk n = false ∨ (toE (floatOfInt .f64 n) != 0) = false ∧ (toN (floatOfInt .f64 n) != n) = false ∧ fromOk n = true := by
  unfold fromOk bne
  cases toE (floatOfInt .f64 n) == 0 <;> cases toN (floatOfInt .f64 n) == n <;> simp

set_option maxHeartbeats 400000 in
theorem realFromInt_any (n : Int) (w : World) :
    Calls Try.prog 68 #[.int .i64 n] w fun e w' => e = .returned (.tuple #[.float .f64 (fromB n), .int .i64 (fromE n)]) ∧ w' = w := by
  rcases from_cases n with ⟨h, ho⟩ | ⟨h, h', ho⟩ | ⟨h, h', ho⟩
  · have e1 : fromB n = 0 := by simp [fromB, ho]
    have e2 : fromE n = 10 := by simp [fromE, ho]
    rw [e1, e2]
    clear ho e1 e2
    go_enter Try.func68, Try.ntmps68
    go_wp2_with (go_at_call 69; refine (realToInt_any _ _).mono ?_; rintro e w' ⟨rfl, rfl⟩)
    go_ret2
    exact ⟨rfl, rfl⟩
  · have e1 : fromB n = 0 := by simp [fromB, ho]
    have e2 : fromE n = 10 := by simp [fromE, ho]
    rw [e1, e2]
    clear ho e1 e2
    go_enter Try.func68, Try.ntmps68
    go_wp2_with (go_at_call 69; refine (realToInt_any _ _).mono ?_; rintro e w' ⟨rfl, rfl⟩)
    go_ret2
    exact ⟨rfl, rfl⟩
  · have e1 : fromB n = floatOfInt .f64 n := by simp [fromB, ho]
    have e2 : fromE n = 0 := by simp [fromE, ho]
    rw [e1, e2]
    clear ho e1 e2
    go_enter Try.func68, Try.ntmps68
    go_wp2_with (go_at_call 69; refine (realToInt_any _ _).mono ?_; rintro e w' ⟨rfl, rfl⟩)
    go_ret2
    exact ⟨rfl, rfl⟩
end Go.Proofs.Ytbedlaaedefclaa

/- Plain: values read as values of another type, rows under another schema, some columns of a schema; what the document says of them (P9.1 to P9.4). -/
namespace Go.Proofs.Ytbedlaaedefclaa
namespace Rz

/-- of each, or the first error -/
def allR {α β : Type} (f : α → Except Nat β) : List α → Except Nat (List β)
  | [] => .ok []
  | x :: r => match f x with
    | .error e => .error e
    | .ok y => match allR f r with
      | .error e => .error e
      | .ok ys => .ok (y :: ys)

/-- kinds neither of which is Opt -/
def plain (a b : Int) : Bool := !(a == 7) && !(b == 7) && (a == b || (a == 2 && b == 3) || (a == 3 && b == 2) || (a == 1 && b == 2) || (a == 4 && b == 5) || (a == 5 && b == 4))
/-- can a type be read as another one? (in so many steps) -/
def can : Nat → Ty → Ty → Bool
  | 0, _, _ => false
  | d + 1, a, b => if b.kind = 6 then (if a.kind = 6 then can d (Sch.inner a) (Sch.inner b) else can d a (Sch.inner b)) else if a.kind = 6 then can d (Sch.inner a) b else if a.kind = 7 ∧ b.kind = 7 then can d (Sch.inner a) (Sch.inner b) else plain a.kind b.kind
/-- a value without items read as one of another kind -/
def scalar (k : Int) (v : V) : Except Nat V :=
  if v.kind = 2 ∧ k = 3 then (if fromE v.int = 0 then .ok (.mk 3 0 (fromB v.int) ⟨#[]⟩ []) else .error 10)
  else if v.kind = 3 ∧ k = 2 then (if toE v.bits = 0 then .ok (.mk 2 (toN v.bits) 0 ⟨#[]⟩ []) else .error 10)
  else if k = 4 ∧ utfT v.text = false then .error 61 else .ok (.mk k v.int (fixB v.bits) v.text [])
/-- a value of a type read as one of another, which it can -/
def read : Nat → V → Ty → Ty → Except Nat V
  | 0, _, _, _ => .error 0
  | d + 1, v, a, b =>
    if b.kind = 6 ∧ a.kind ≠ 6 then (match read d v a (Sch.inner b) with
      | .error e => .error e
      | .ok y => .ok (.mk 6 0 0 ⟨#[]⟩ [y]))
    else if a.kind = 6 ∧ b.kind ≠ 6 then (match v.items with
      | [] => .error 91
      | x :: _ => read d x (Sch.inner a) b)
    else if b.kind ≠ 6 ∧ b.kind ≠ 7 then scalar b.kind v
    else match allR (fun x => read d x (Sch.inner a) (Sch.inner b)) v.items with
      | .error e => .error e
      | .ok l => .ok (.mk b.kind 0 0 ⟨#[]⟩ l)
/-- P9.1 -/
def value (a b : Ty) (v : V) : Except Nat V := if Ty.check 1 a ≠ 0 then .error (Ty.check 1 a) else if Ty.check 1 b ≠ 0 then .error (Ty.check 1 b) else if Rw.vErr a v ≠ 0 then .error (Rw.vErr a v) else if can 7 a b = false then .error 60 else read 7 v a b
/-- a column that is there, or none -/
def colAt (s : List Col) (k : Nat) : Col := s.getD k ⟨⟨#[]⟩, ⟨0, []⟩, false, V0⟩
/-- P9.2, of a column -/
def colErr (s : List Col) (c : Col) : Nat := match Sch.find c.name s 0 with
  | none => if c.has then 0 else 90
  | some k => if can 7 (colAt s k).ty c.ty then 0 else 60
/-- P9.2 -/
def check (s t : List Col) : Nat := if Sch.err s ≠ 0 then Sch.err s else if Sch.err t ≠ 0 then Sch.err t else V.first (t.map (colErr s))
/-- why a row isn't one of a schema that may be -/
def given (s : List Col) (vs : List V) : Nat := if vs.length ≠ s.length then 80 else Rw.colsErr s vs
/-- a column's value -/
def one (s : List Col) (vs : List V) (c : Col) : Except Nat V := match Sch.find c.name s 0 with
  | none => .ok (V.fix c.dflt)
  | some k => read 7 (vs.getD k V0) (colAt s k).ty c.ty
/-- P9.3 -/
def row (s t : List Col) (vs : List V) : Except Nat (List V) := if check s t ≠ 0 then .error (check s t) else if given s vs ≠ 0 then .error (given s vs) else allR (one s vs) t
/-- a name that stands there -/
def hasN (l : List ByteArray) (n : ByteArray) : Bool := l.any fun m => decide (m = n)
theorem hasN_iff (l : List ByteArray) (n : ByteArray) : hasN l n = true ↔ n ∈ l := by
  unfold hasN
  rw [List.any_eq_true]
  constructor
  · rintro ⟨m, hm, h⟩
    have : m = n := by simpa using h
    rw [← this]; exact hm
  · intro h
    exact ⟨n, h, by simp⟩
/-- columns that are named, behind others -/
def proj (s : List Col) : List ByteArray → List ByteArray → Except Nat (List Col)
  | _, [] => .ok []
  | l, n :: r => if hasN l n then .error 71 else match Sch.find n s 0 with
    | none => .error 90
    | some k => match proj s (l ++ [n]) r with
      | .error e => .error e
      | .ok cs => .ok ((colAt s k).fix :: cs)
/-- P9.4 -/
def project (s : List Col) (ns : List ByteArray) : Except Nat (List Col) := if Sch.err s ≠ 0 then .error (Sch.err s) else if ns.length = 0 then .error 4 else proj s [] ns

section
variable {α β : Type} {f g : α → Except Nat β}
theorem allR_nil : allR f [] = .ok [] := rfl
theorem allR_cons (x : α) (r : List α) : allR f (x :: r) = match f x with
    | .error e => .error e
    | .ok y => match allR f r with
      | .error e => .error e
      | .ok ys => .ok (y :: ys) := rfl
theorem allR_err : ∀ (l : List α) (j : Nat) (hj : j < l.length) {ys : List β} {e : Nat}, allR f (l.take j) = .ok ys → f l[j] = .error e → allR f l = .error e
  | x :: r, 0, _, ys, e, _, h => by
    rw [allR_cons]
    rw [List.getElem_cons_zero] at h
    rw [h]
  | x :: r, j + 1, hj, ys, e, h1, h2 => by
    rw [List.take_succ_cons, allR_cons] at h1
    rw [List.getElem_cons_succ] at h2
    rw [allR_cons]
    cases hx : f x with
    | error e' => rw [hx] at h1; cases h1
    | ok y =>
      rw [hx] at h1
      cases hr : allR f (r.take j) with
      | error e' => rw [hr] at h1; cases h1
      | ok zs =>
        have := allR_err r j (by simpa using hj) hr h2
        simp only [this]
theorem allR_snoc : ∀ (l : List α) (x : α) {ys : List β} {y : β}, allR f l = .ok ys → f x = .ok y → allR f (l ++ [x]) = .ok (ys ++ [y])
  | [], x, ys, y, h1, h2 => by
    rw [allR_nil] at h1
    cases h1
    rw [List.nil_append, allR_cons, h2, allR_nil]
    rfl
  | z :: r, x, ys, y, h1, h2 => by
    rw [allR_cons] at h1
    rw [List.cons_append, allR_cons]
    cases hz : f z with
    | error e' => rw [hz] at h1; cases h1
    | ok y0 =>
      rw [hz] at h1
      cases hr : allR f r with
      | error e' => rw [hr] at h1; cases h1
      | ok zs =>
        rw [hr] at h1
        cases h1
        simp only [allR_snoc r x hr h2, List.cons_append]
theorem allR_step (l : List α) (j : Nat) (hj : j < l.length) {ys : List β} {y : β} (h1 : allR f (l.take j) = .ok ys) (h2 : f l[j] = .ok y) : allR f (l.take (j + 1)) = .ok (ys ++ [y]) := by
  rw [List.take_succ_eq_append_getElem hj]
  exact allR_snoc _ _ h1 h2
theorem allR_len : ∀ (l : List α) {ys : List β}, allR f l = .ok ys → ys.length = l.length
  | [], ys, h => by cases h; rfl
  | x :: r, ys, h => by
    rw [allR_cons] at h
    cases hx : f x with
    | error e' => rw [hx] at h; cases h
    | ok y =>
      rw [hx] at h
      cases hr : allR f r with
      | error e' => rw [hr] at h; cases h
      | ok zs =>
        rw [hr] at h
        cases h
        simp [allR_len r hr]
theorem allR_at : ∀ (l : List α) {ys : List β}, allR f l = .ok ys → ∀ j (h1 : j < l.length) (h2 : j < ys.length), f l[j] = .ok ys[j]
  | [], ys, h, j, h1, _ => by simp at h1
  | x :: r, ys, h, j, h1, h2 => by
    rw [allR_cons] at h
    cases hx : f x with
    | error e' => rw [hx] at h; cases h
    | ok y =>
      rw [hx] at h
      cases hr : allR f r with
      | error e' => rw [hr] at h; cases h
      | ok zs =>
        rw [hr] at h
        cases h
        cases j with
        | zero => simpa using hx
        | succ j => simpa using allR_at r hr j (by simpa using h1) (by simpa using h2)
theorem allR_mem : ∀ (l : List α) {ys : List β}, allR f l = .ok ys → ∀ y ∈ ys, ∃ x ∈ l, f x = .ok y
  | [], ys, h, y, hy => by cases h; cases hy
  | x :: r, ys, h, y, hy => by
    rw [allR_cons] at h
    cases hx : f x with
    | error e' => rw [hx] at h; cases h
    | ok y' =>
      rw [hx] at h
      cases hr : allR f r with
      | error e' => rw [hr] at h; cases h
      | ok zs =>
        rw [hr] at h
        cases h
        rcases List.mem_cons.1 hy with rfl | hy
        · exact ⟨x, by simp, hx⟩
        · obtain ⟨z, hz, hf⟩ := allR_mem r hr y hy
          exact ⟨z, by simp [hz], hf⟩
theorem allR_bad : ∀ (l : List α) {e : Nat}, allR f l = .error e → ∃ x ∈ l, f x = .error e
  | [], e, h => by cases h
  | x :: r, e, h => by
    rw [allR_cons] at h
    cases hx : f x with
    | error e' => rw [hx] at h; cases h; exact ⟨x, by simp, hx⟩
    | ok y' =>
      rw [hx] at h
      cases hr : allR f r with
      | error e' =>
        rw [hr] at h
        cases h
        obtain ⟨z, hz, hf⟩ := allR_bad r hr
        exact ⟨z, by simp [hz], hf⟩
      | ok zs => rw [hr] at h; cases h
theorem allR_congr : ∀ (l : List α), (∀ x ∈ l, f x = g x) → allR f l = allR g l
  | [], _ => rfl
  | x :: r, h => by rw [allR_cons, allR_cons, h x (by simp), allR_congr r (fun y hy => h y (by simp [hy]))]
theorem allR_map (l : List α) (m : α → β) (h : ∀ x ∈ l, f x = .ok (m x)) : allR f l = .ok (l.map m) := by
  induction l with
  | nil => rfl
  | cons x r ih =>
    rw [allR_cons, h x (by simp), ih (fun y hy => h y (by simp [hy]))]
    rfl
end

theorem can_succ (d : Nat) (a b : Ty) : can (d + 1) a b = if b.kind = 6 then (if a.kind = 6 then can d (Sch.inner a) (Sch.inner b) else can d a (Sch.inner b)) else if a.kind = 6 then can d (Sch.inner a) b else if a.kind = 7 ∧ b.kind = 7 then can d (Sch.inner a) (Sch.inner b) else plain a.kind b.kind := rfl
theorem read_succ (d : Nat) (v : V) (a b : Ty) : read (d + 1) v a b =
    if b.kind = 6 ∧ a.kind ≠ 6 then (match read d v a (Sch.inner b) with
      | .error e => .error e
      | .ok y => .ok (.mk 6 0 0 ⟨#[]⟩ [y]))
    else if a.kind = 6 ∧ b.kind ≠ 6 then (match v.items with
      | [] => .error 91
      | x :: _ => read d x (Sch.inner a) b)
    else if b.kind ≠ 6 ∧ b.kind ≠ 7 then scalar b.kind v
    else match allR (fun x => read d x (Sch.inner a) (Sch.inner b)) v.items with
      | .error e => .error e
      | .ok l => .ok (.mk b.kind 0 0 ⟨#[]⟩ l) := rfl
theorem inner_one (k : Int) (x : Ty) : Sch.inner (.mk k [x]) = x := rfl

theorem plain_self {k : Int} (h : k ≠ 7) : plain k k = true := by
  unfold plain
  rw [show (k == 7) = false by simpa using h]
  simp
theorem can_self : ∀ (d : Nat) (a : Ty) (da : Nat), Ty.check da a = 0 → 5 ≤ d + da → can d a a = true
  | 0, .mk k xs, da, h, hd => by have := (Sch.ty_open h).1; omega
  | d + 1, .mk k xs, da, h, hd => by
    obtain ⟨h4, hk, hx⟩ := Sch.ty_open h
    rw [can_succ]
    rcases hx with ⟨hk2, rfl⟩ | ⟨hk2, x, rfl, hx⟩
    · rw [if_neg (by show ¬ k = 6; omega), if_neg (by show ¬ k = 6; omega), if_neg (by show ¬ (k = 7 ∧ k = 7); omega)]
      exact plain_self (k := k) (by omega)
    · rw [inner_one]
      have ih := can_self d x (da + 1) hx (by omega)
      by_cases h6 : k = 6
      · rw [if_pos h6, if_pos h6]; exact ih
      · rw [if_neg h6, if_neg h6, if_pos (by show k = 7 ∧ k = 7; omega)]; exact ih

/-- what a value of a type is like -/
theorem of_open {k i : Int} {b : Nat} {s : ByteArray} {xs : List V} {t : Ty} (h : Sch.of (.mk k i b s xs) t = true) : k = t.kind ∧ ∀ x ∈ xs, Sch.of x (Sch.inner t) = true := by
  rw [Sch.of_mk, Bool.and_eq_true, beq_iff_eq, List.all_eq_true] at h
  exact h
theorem of_make {k i : Int} {b : Nat} {s : ByteArray} {xs : List V} {t : Ty} (h1 : k = t.kind) (h2 : ∀ x ∈ xs, Sch.of x (Sch.inner t) = true) : Sch.of (.mk k i b s xs) t = true := by
  rw [Sch.of_mk, Bool.and_eq_true, beq_iff_eq, List.all_eq_true]
  exact ⟨h1, h2⟩
theorem no_items {d : Nat} {k i : Int} {b : Nat} {t : ByteArray} {xs : List V} (h : chk d (.mk k i b t xs) = 0) (hk : ¬ (k = 6 ∨ k = 7)) : xs = [] := by
  obtain ⟨-, ho, -⟩ := Sch.chk_open h
  obtain ⟨-, -, -, -, h5, -⟩ := Sch.own_open ho
  rcases h5 with h5 | h5 | h5
  · omega
  · omega
  · exact List.eq_nil_of_length_eq_zero h5
theorem fixB_nought {b : Nat} (h : fixB b = 0) : b = 0 := by
  unfold fixB at h
  split at h
  · cases h
  · exact h

theorem scalar_self {d : Nat} {k i : Int} {b : Nat} {t : ByteArray} (h : chk d (.mk k i b t []) = 0) : scalar k (.mk k i b t []) = .ok (V.fix (.mk k i b t [])) := by
  obtain ⟨-, ho, -, -, hu, -⟩ := Sch.chk_open h
  unfold scalar
  rw [if_neg (by show ¬ (k = 2 ∧ k = 3); omega), if_neg (by show ¬ (k = 3 ∧ k = 2); omega), if_neg, V.fix_mk]
  · rfl
  · rintro ⟨h4, h5⟩
    rw [hu h4] at h5
    cases h5
theorem read_self : ∀ (d : Nat) (a : Ty) (v : V) (da dv : Nat), Ty.check da a = 0 → chk dv v = 0 → Sch.of v a = true → 5 ≤ d + da → read d v a a = .ok (V.fix v)
  | 0, .mk k xs, v, da, dv, h, _, _, hd => by have := (Sch.ty_open h).1; omega
  | d + 1, .mk k xs, .mk j i b t vs, da, dv, h, hc, ho, hd => by
    obtain ⟨h4, hk, hx⟩ := Sch.ty_open h
    obtain ⟨hj, hi⟩ := of_open ho
    have hj' : j = k := hj
    subst hj'
    rw [read_succ, if_neg (by rintro ⟨h1, h2⟩; exact h2 h1), if_neg (by rintro ⟨h1, h2⟩; exact h2 h1)]
    rcases hx with ⟨hk2, rfl⟩ | ⟨hk2, x, rfl, hx⟩
    · rw [if_pos (by show j ≠ 6 ∧ j ≠ 7; omega)]
      have hn := no_items hc hk2
      subst hn
      exact scalar_self hc
    · rw [if_neg (by show ¬ (j ≠ 6 ∧ j ≠ 7); omega), inner_one]
      obtain ⟨-, hw, -, -, -, hcx⟩ := Sch.chk_open hc
      have hall : allR (fun z => read d z x x) vs = .ok (vs.map V.fix) := allR_map vs V.fix fun z hz => read_self d x z (da + 1) (dv + 1) hx (hcx z hz) (hi z hz) (by omega)
      show (match allR (fun z => read d z x x) vs with
        | .error e => Except.error e
        | .ok l => Except.ok (V.mk j 0 0 ⟨#[]⟩ l)) = _
      rw [hall, V.fix_mk]
      obtain ⟨-, o2, o3, o4, -⟩ := Sch.own_open hw
      have e1 : i = 0 := by omega
      have e2 : fixB b = 0 := by omega
      have e3 : t = ⟨#[]⟩ := by
        rcases o4 with o4 | o4 | o4
        · omega
        · omega
        · exact o4
      rw [e1, e2, e3]
      rfl

/-- what is told of a value without items -/
def Good (db : Nat) (b : Ty) (r : Except Nat V) : Prop := match r with
  | .error e => e ≠ 0
  | .ok y => chk db y = 0 ∧ Sch.of y b = true ∧ y.wf ∧ V.fix y = y

theorem from_bits (n : Int) : fromB n < 18446744073709551616 := by
  unfold fromB
  split
  · rw [Flt.ofInt_eq]
    exact Ieee.Format.nearest_lt Ieee.double _ _ _
  · omega
theorem from_fin {n : Int} (h : fromE n = 0) : Flt.rung (fromB n) < 9218868437227405312 := by
  unfold fromE at h
  split at h
  · next ho =>
    have hb : fromB n = floatOfInt .f64 n := by simp [fromB, ho]
    rw [hb]
    unfold fromOk at ho
    simp only [Bool.and_eq_true, beq_iff_eq] at ho
    have h0 := ho.1
    unfold toE at h0
    split at h0
    · next hk =>
      unfold okB at hk
      simp only [Bool.and_eq_true] at hk
      exact Flt.inR_fin hk.1.1
    · omega
  · omega
theorem fix_fin {x : Nat} (h : Flt.rung x < 9218868437227405312) : fixB x = x := by
  apply fix_f
  have h3 : nanB x = decide (9218868437227405312 < Flt.rung x) := Flt.nan_iff x
  rw [h3]; simp; omega
theorem to_bounds (x : Nat) : -9223372036854775808 ≤ toN x ∧ toN x ≤ 9223372036854775807 := by
  unfold toN
  split
  · next hk =>
    unfold okB at hk
    simp only [Bool.and_eq_true] at hk
    exact Flt.trunc_bounds hk.1.1
  · omega

theorem scalar_good {db dv : Nat} {j k i : Int} {b : Nat} {t : ByteArray} (hd : db ≤ 4) (h : chk dv (.mk j i b t []) = 0) (hw : V.wf (.mk j i b t [])) (hk : 1 ≤ k ∧ k ≤ 7) (hj6 : j ≠ 6) (hp : plain j k = true) : Good db (.mk k []) (scalar k (.mk j i b t [])) := by
  obtain ⟨-, ho, ht, -, hu, -⟩ := Sch.chk_open h
  obtain ⟨o1, o2, o3, o4, -, o6, -⟩ := Sch.own_open ho
  obtain ⟨w1, w2, w3, w4, -⟩ := V.wf_mk.1 hw
  have hof : ∀ i' b' t', Sch.of (.mk k i' b' t' []) (.mk k []) = true := fun i' b' t' => of_make rfl (fun x hx => by cases hx)
  have hp' : ¬ j = 7 ∧ ¬ k = 7 ∧ (j = k ∨ (j = 2 ∧ k = 3) ∨ (j = 3 ∧ k = 2) ∨ (j = 1 ∧ k = 2) ∨ (j = 4 ∧ k = 5) ∨ (j = 5 ∧ k = 4)) := by
    unfold plain at hp
    simp only [Bool.and_eq_true, Bool.not_eq_true', beq_eq_false_iff_ne, ne_eq, Bool.or_eq_true, beq_iff_eq] at hp
    refine ⟨hp.1.1, hp.1.2, ?_⟩
    rcases hp.2 with ((((h | h) | h) | h) | h) | h
    · exact .inl h
    · exact .inr (.inl h)
    · exact .inr (.inr (.inl h))
    · exact .inr (.inr (.inr (.inl h)))
    · exact .inr (.inr (.inr (.inr (.inl h))))
    · exact .inr (.inr (.inr (.inr (.inr h))))
  obtain ⟨hj7, hk7, hjk⟩ := hp'
  unfold scalar
  by_cases c1 : j = 2 ∧ k = 3
  · rw [if_pos c1]
    split
    · next he =>
      have hf := from_fin he
      refine ⟨Sch.chk_make hd (Sch.own_make (by omega) (.inr (.inr rfl)) (.inl rfl) (.inr (.inr rfl)) (.inr (.inr rfl)) (by omega) (by omega)) (Nat.zero_le _) (by simp) (by omega) (fun x hx => by cases hx), ?_, V.wf_mk.2 ⟨by omega, by omega, from_bits _, Nat.zero_le _, fun x hx => by cases hx⟩, ?_⟩
      · rw [c1.2]; exact of_make rfl (fun x hx => by cases hx)
      · rw [V.fix_mk]
        show V.mk 3 0 (fixB (fromB i)) ⟨#[]⟩ [] = _
        rw [fix_fin hf]
    · show (10 : Nat) ≠ 0; omega
  · rw [if_neg c1]
    by_cases c2 : j = 3 ∧ k = 2
    · rw [if_pos c2]
      split
      · next he =>
        have hb := to_bounds b
        refine ⟨Sch.chk_make hd (Sch.own_make (by omega) (.inr (.inl rfl)) (.inr Sch.fixB_zero) (.inr (.inr rfl)) (.inr (.inr rfl)) (by omega) (by omega)) (Nat.zero_le _) (by simp) (by omega) (fun x hx => by cases hx), ?_, V.wf_mk.2 ⟨by omega, hb, by omega, Nat.zero_le _, fun x hx => by cases hx⟩, ?_⟩
        · rw [c2.2]; exact of_make rfl (fun x hx => by cases hx)
        · rw [V.fix_mk, Sch.fixB_zero]
          rfl
      · show (10 : Nat) ≠ 0; omega
    · rw [if_neg c2]
      by_cases c3 : k = 4 ∧ utfT t = false
      · rw [if_pos c3]; show (61 : Nat) ≠ 0; omega
      · rw [if_neg c3]
        show Good db (.mk k []) (.ok (.mk k i (fixB b) t []))
        refine ⟨Sch.chk_make hd (Sch.own_make (by omega) ?_ ?_ ?_ (.inr (.inr rfl)) ?_ (by omega)) ht (by simp) (fun h4 => ?_) (fun x hx => by cases hx), hof _ _ _, V.wf_mk.2 ⟨by omega, w2, Sch.fixB_lt w3, w4, fun x hx => by cases hx⟩, ?_⟩
        · rcases hjk with h | h | h | h | h | h <;> omega
        · rcases o3 with o3 | o3
          · left
            rcases hjk with h | h | h | h | h | h <;> omega
          · right; rw [fixB_idem, o3]
        · rcases o4 with o4 | o4 | o4
          · rcases hjk with h | h | h | h | h | h
            · left; omega
            · omega
            · omega
            · omega
            · right; left; omega
            · omega
          · rcases hjk with h | h | h | h | h | h
            · right; left; omega
            · omega
            · omega
            · omega
            · omega
            · left; omega
          · exact .inr (.inr o4)
        · intro h1
          have : j = 1 := by rcases hjk with h | h | h | h | h | h <;> omega
          exact o6 this
        · cases hu4 : utfT t with
          | true => rfl
          | false => exact absurd ⟨h4, hu4⟩ c3
        · rw [V.fix_mk, fixB_idem]
          rfl
end Rz
end Go.Proofs.Ytbedlaaedefclaa
