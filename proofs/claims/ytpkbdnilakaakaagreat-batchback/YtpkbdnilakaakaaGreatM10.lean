/- Sch, SchB: put together. -/
import Derived.Test.YtpkbdnilakaakaaGreatM04
import Derived.Test.YtpkbdnilakaakaaGreatM09
import Derived.Test.YtpkbdnilakaakaaGreatM03

/- Plain: schemas, their bytes and how they are read; what the document says of them. -/
namespace Go.Proofs.YtpkbdnilakaakaaGreat

/-- a value whose numbers fit -/
def V.wf (v : V) : Prop := match v with
  | .mk k i b t xs => (-9223372036854775808 ≤ k ∧ k ≤ 9223372036854775807) ∧ (-9223372036854775808 ≤ i ∧ i ≤ 9223372036854775807) ∧ b < 18446744073709551616 ∧ t.size ≤ 140737488351232 ∧ ∀ p ∈ xs.map V.wf, p
theorem V.wf_mk {k i : Int} {b : Nat} {t : ByteArray} {xs : List V} : V.wf (.mk k i b t xs) ↔ (-9223372036854775808 ≤ k ∧ k ≤ 9223372036854775807) ∧ (-9223372036854775808 ≤ i ∧ i ≤ 9223372036854775807) ∧ b < 18446744073709551616 ∧ t.size ≤ 140737488351232 ∧ ∀ x ∈ xs, V.wf x := by
  rw [V.wf]
  simp only [List.mem_map, forall_exists_index, and_imp, forall_apply_eq_imp_iff₂]
/-- a type whose numbers fit -/
def Ty.wf (v : Ty) : Prop := match v with
  | .mk k xs => (-9223372036854775808 ≤ k ∧ k ≤ 9223372036854775807) ∧ ∀ p ∈ xs.map Ty.wf, p
theorem Ty.wf_mk {k : Int} {xs : List Ty} : Ty.wf (.mk k xs) ↔ (-9223372036854775808 ≤ k ∧ k ≤ 9223372036854775807) ∧ ∀ x ∈ xs, Ty.wf x := by
  rw [Ty.wf]
  simp only [List.mem_map, forall_exists_index, and_imp, forall_apply_eq_imp_iff₂]

/-- the zero value -/
def V0 : V := .mk 0 0 0 ⟨#[]⟩ []
/-- a column -/
structure Col where
  name : ByteArray
  ty : Ty
  has : Bool
  dflt : V
def Col.wf (c : Col) : Prop := c.name.size ≤ 140737488351232 ∧ c.ty.wf ∧ c.dflt.wf
def Col.fix (c : Col) : Col := ⟨c.name, c.ty, c.has, V.fix c.dflt⟩

namespace Sch
/-- a sign that a name may have -/
def low (c : UInt8) : Bool := decide (97 ≤ c.toNat ∧ c.toNat ≤ 122)
def ch (c : UInt8) : Bool := low c || decide (48 ≤ c.toNat ∧ c.toNat ≤ 57) || decide (c.toNat = 95)
/-- P7.2 -/
def nameL (l : List UInt8) : Bool := decide (1 ≤ l.length ∧ l.length ≤ 16) && low (l.headD 0) && l.all ch
def name (t : ByteArray) : Bool := nameL t.data.toList

/-- what a type is of -/
def inner (t : Ty) : Ty := t.of.headD ⟨0, []⟩
/-- a value is of a type -/
def of (v : V) : Ty → Bool := match v with
  | .mk k _ _ _ xs => fun t => k == t.kind && (xs.map of).all (fun f => f (inner t))
theorem of_mk (k i : Int) (b : Nat) (s : ByteArray) (xs : List V) (t : Ty) : of (.mk k i b s xs) t = (k == t.kind && xs.all (fun x => of x (inner t))) := by
  rw [of]
  simp [List.all_map, Function.comp_def]
/-- P7.5 -/
def is (v : V) (t : Ty) : Bool := decide (Ty.check 1 t = 0) && decide (chk 1 v = 0) && of v t

/-- P7.3, of a column behind others -/
def colErr (l : List Col) (c : Col) : Nat :=
  if name c.name = false then 70 else if l.any (fun x => decide (x.name = c.name)) then 71 else if Ty.check 1 c.ty ≠ 0 then Ty.check 1 c.ty
  else if c.has = false then (if V.same c.dflt V0 then 0 else 80) else if chk 1 c.dflt ≠ 0 then chk 1 c.dflt else if is c.dflt c.ty then 0 else 80
def colsErr : List Col → List Col → Nat
  | _, [] => 0
  | l, c :: r => if colErr l c = 0 then colsErr (l ++ [c]) r else colErr l c

/-- a type's bytes -/
def tyB (t : Ty) : List UInt8 := match t with
  | .mk k xs => UInt8.ofNat k.toNat :: (if k = 6 ∨ k = 7 then (xs.map tyB).headD [] else [])
theorem tyB_mk (k : Int) (xs : List Ty) : tyB (.mk k xs) = UInt8.ofNat k.toNat :: (if k = 6 ∨ k = 7 then (xs.map tyB).headD [] else []) := by rw [tyB]
/-- so many bytes, the lowest first -/
def le : Nat → Nat → List UInt8
  | 0, _ => []
  | k + 1, n => UInt8.ofNat (n % 256) :: le k (n / 256)
def un : List UInt8 → Nat
  | [] => 0
  | c :: r => un r * 256 + c.toNat
/-- a value's bytes -/
def vB (v : V) : List UInt8 := match v with
  | .mk k i b t xs => (if k = 1 then [UInt8.ofNat i.toNat] else if k = 2 then Leb.put (Leb.zig i) else if k = 3 then le 8 (fixB b) else if k = 4 ∨ k = 5 then Leb.put t.size ++ t.data.toList
    else if k = 6 then [if 0 < xs.length then 1 else 0] else if k = 7 then Leb.put xs.length else []) ++ (if k = 1 ∨ k = 2 ∨ k = 3 ∨ k = 4 ∨ k = 5 then [] else (xs.map vB).flatten)
/-- a value's first bytes, its items not told -/
def vH (k i : Int) (b : Nat) (t : ByteArray) (n : Nat) : List UInt8 :=
  if k = 1 then [UInt8.ofNat i.toNat] else if k = 2 then Leb.put (Leb.zig i) else if k = 3 then le 8 (fixB b) else if k = 4 ∨ k = 5 then Leb.put t.size ++ t.data.toList else if k = 6 then [if 0 < n then 1 else 0] else if k = 7 then Leb.put n else []
theorem vB_mk (k i : Int) (b : Nat) (t : ByteArray) (xs : List V) : vB (.mk k i b t xs) = vH k i b t xs.length ++ (if k = 1 ∨ k = 2 ∨ k = 3 ∨ k = 4 ∨ k = 5 then [] else (xs.map vB).flatten) := by rw [vB, vH]
def cB (c : Col) : List UInt8 := Leb.put c.name.size ++ (c.name.data.toList ++ (tyB c.ty ++ (if c.has then 1 else 0) :: (if c.has then vB c.dflt else [])))
def bytes (s : List Col) : List UInt8 := Leb.put s.length ++ (s.map cB).flatten
/-- P7.3 -/
def err (s : List Col) : Nat := if s.length = 0 then 4 else if 16 < s.length then 3 else if colsErr [] s ≠ 0 then colsErr [] s else if 1024 < (bytes s).length then 2 else 0
/-- P7.4 -/
def colSame (c d : Col) : Bool := decide (c.name = d.name) && (c.has == d.has) && Ty.same c.ty d.ty && V.same c.dflt d.dflt
def same : List Col → List Col → Bool
  | [], [] => true
  | c :: r, d :: s => colSame c d && same r s
  | _, _ => false
/-- P7.8: the place, or how many there are -/
def find (n : ByteArray) : List Col → Nat → Option Nat
  | [], _ => none
  | c :: r, k => if c.name = n then some k else find n r (k + 1)

/-- what is read, and how many bytes it took -/
def bit : List UInt8 → Except Nat (Nat × Nat)
  | [] => .error 30
  | c :: _ => if 1 < c.toNat then .error 5 else .ok (c.toNat, 1)
def num (l : List UInt8) : Except Nat (Nat × Nat) := if (Leb.get l).err = 0 then .ok ((Leb.get l).n, (Leb.get l).k) else .error (Leb.get l).err
def text (most long : Nat) (l : List UInt8) : Except Nat (ByteArray × Nat) := match num l with
  | .error e => .error e
  | .ok (n, k) => if most < n then .error long else if l.length - k < n then .error 30 else .ok (⟨((l.drop k).take n).toArray⟩, k + n)
def float (l : List UInt8) : Except Nat (Nat × Nat) := if l.length < 8 then .error 30 else if fixB (un (l.take 8)) = un (l.take 8) then .ok (un (l.take 8), 8) else .error 5
def scalar (k : Int) (l : List UInt8) : Except Nat (V × Nat) :=
  if k = 1 then match bit l with
    | .error e => .error e
    | .ok (n, j) => .ok (.mk k n 0 ⟨#[]⟩ [], j)
  else if k = 2 then match num l with
    | .error e => .error e
    | .ok (n, j) => .ok (.mk k (Leb.zag n) 0 ⟨#[]⟩ [], j)
  else if k = 3 then match float l with
    | .error e => .error e
    | .ok (n, j) => .ok (.mk k 0 n ⟨#[]⟩ [], j)
  else match text 1024 2 l with
    | .error e => .error e
    | .ok (t, j) => if k = 4 ∧ utfT t = false then .error 61 else .ok (.mk k 0 0 t [], j)
def rdN (f : List UInt8 → Except Nat (V × Nat)) : Nat → List UInt8 → Except Nat (List V × Nat)
  | 0, _ => .ok ([], 0)
  | m + 1, l => match f l with
    | .error e => .error e
    | .ok (v, j) => match rdN f m (l.drop j) with
      | .error e => .error e
      | .ok (vs, j2) => .ok (v :: vs, j + j2)
/-- how many items come -/
def many (k : Int) (l : List UInt8) : Except Nat (Nat × Nat) := if k = 6 then bit l else match num l with
  | .error e => .error e
  | .ok (n, j) => if 256 < n then .error 3 else .ok (n, j)
def rdV (t : Ty) : List UInt8 → Except Nat (V × Nat) := match t with
  | .mk k xs => fun l => if k ≠ 6 ∧ k ≠ 7 then scalar k l else match many k l with
    | .error e => .error e
    | .ok (m, j) => match rdN ((xs.map rdV).headD (fun _ => .error 0)) m (l.drop j) with
      | .error e => .error e
      | .ok (vs, j2) => .ok (.mk k 0 0 ⟨#[]⟩ vs, j + j2)
theorem rdV_mk (k : Int) (xs : List Ty) (l : List UInt8) : rdV (.mk k xs) l = if k ≠ 6 ∧ k ≠ 7 then scalar k l else match many k l with
    | .error e => .error e
    | .ok (m, j) => match rdN ((xs.map rdV).headD (fun _ => .error 0)) m (l.drop j) with
      | .error e => .error e
      | .ok (vs, j2) => .ok (.mk k 0 0 ⟨#[]⟩ vs, j + j2) := by rw [rdV]
def rdT : Nat → List UInt8 → Except Nat (Ty × Nat)
  | 0, _ => .error 62
  | _ + 1, [] => .error 30
  | f + 1, c :: r => if c.toNat < 1 ∨ 7 < c.toNat then .error 60 else if c.toNat ≠ 6 ∧ c.toNat ≠ 7 then .ok (⟨(c.toNat : Int), []⟩, 1) else match rdT f r with
    | .error e => .error e
    | .ok (t, j) => .ok (⟨(c.toNat : Int), [t]⟩, j + 1)
def rdC (l : List Col) (b : List UInt8) : Except Nat (Col × Nat) := match num b with
  | .error e => .error e
  | .ok (n, _) => if n = 0 then .error 70 else match text 16 70 b with
    | .error e => .error e
    | .ok (s, j) => if name s = false then .error 70 else if l.any (fun x => decide (x.name = s)) then .error 71 else match rdT 4 (b.drop j) with
      | .error e => .error e
      | .ok (t, j2) => match bit (b.drop (j + j2)) with
        | .error e => .error e
        | .ok (h, j3) => if h = 0 then .ok (⟨s, t, false, V0⟩, j + j2 + j3) else match rdV t (b.drop (j + j2 + j3)) with
          | .error e => .error e
          | .ok (v, j4) => .ok (⟨s, t, true, v⟩, j + j2 + j3 + j4)
def rdCs : Nat → List Col → List UInt8 → Except Nat (List Col × Nat)
  | 0, l, _ => .ok (l, 0)
  | m + 1, l, b => match rdC l b with
    | .error e => .error e
    | .ok (c, j) => match rdCs m (l ++ [c]) (b.drop j) with
      | .error e => .error e
      | .ok (l2, j2) => .ok (l2, j + j2)
/-- P7.7 -/
def read (b : List UInt8) : Except Nat (List Col) := if 1024 < b.length then .error 2 else match num b with
  | .error e => .error e
  | .ok (n, k) => if n = 0 then .error 4 else if 16 < n then .error 3 else match rdCs n [] (b.drop k) with
    | .error e => .error e
    | .ok (l, j) => if k + j = b.length then .ok l else .error 5
end Sch
end Go.Proofs.YtpkbdnilakaakaaGreat

/- Plain: what is made is read as it was, and what is read has just these bytes. -/
namespace Go.Proofs.YtpkbdnilakaakaaGreat
namespace Sch

theorem le_len : ∀ (k n : Nat), (le k n).length = k
  | 0, _ => rfl
  | k + 1, n => by rw [le, List.length_cons, le_len k]
theorem un_le : ∀ (k n : Nat), n < 256 ^ k → un (le k n) = n
  | 0, n, h => by simp at h; subst h; rfl
  | k + 1, n, h => by
    rw [le, un, un_le k (n / 256) (by rw [Nat.pow_succ] at h; rw [Nat.div_lt_iff_lt_mul (by omega)]; exact h), UInt8.toNat_ofNat']
    omega
theorem le_un : ∀ (l : List UInt8), le l.length (un l) = l
  | [] => rfl
  | c :: r => by
    have hc : c.toNat < 256 := c.toNat_lt
    have h1 : (un r * 256 + c.toNat) % 256 = c.toNat := by omega
    have h2 : (un r * 256 + c.toNat) / 256 = un r := by omega
    rw [List.length_cons, le, un, h1, h2, le_un r]
    congr 1
    apply UInt8.toNat_inj.1
    rw [UInt8.toNat_ofNat']
    omega
theorem un_lt : ∀ (l : List UInt8), un l < 256 ^ l.length
  | [] => by simp [un]
  | c :: r => by
    have hc : c.toNat < 256 := c.toNat_lt
    have := un_lt r
    rw [un, List.length_cons, Nat.pow_succ]
    omega

theorem num_put (n : Nat) (r : List UInt8) (h : n < 18446744073709551616) : num (Leb.put n ++ r) = .ok (n, (Leb.put n).length) := by
  rw [num, Leb.get_put n r h, if_pos rfl]
theorem num_ok {l : List UInt8} {n k : Nat} (h : num l = .ok (n, k)) : n < 18446744073709551616 ∧ ∃ r, l = Leb.put n ++ r ∧ k = (Leb.put n).length := by
  rw [num] at h
  by_cases he : (Leb.get l).err = 0
  · rw [if_pos he] at h
    simp only [Except.ok.injEq, Prod.mk.injEq] at h
    obtain ⟨rfl, rfl⟩ := h
    obtain ⟨h1, h2, h3, _⟩ := Leb.get_ok l he
    refine ⟨h1, l.drop (Leb.get l).k, ?_, ?_⟩
    · rw [← h2, List.take_append_drop]
    · rw [← h2, List.length_take]; omega
  · rw [if_neg he] at h; cases h
theorem bit_put (n : Nat) (r : List UInt8) (h : n ≤ 1) : bit (UInt8.ofNat n :: r) = .ok (n, 1) := by
  have h1 : (UInt8.ofNat n).toNat = n := by rw [UInt8.toNat_ofNat']; omega
  rw [bit, h1, if_neg (by omega)]
theorem bit_ok {l : List UInt8} {n k : Nat} (h : bit l = .ok (n, k)) : n ≤ 1 ∧ k = 1 ∧ ∃ r, l = UInt8.ofNat n :: r := by
  cases l with
  | nil => rw [bit] at h; cases h
  | cons c r =>
    rw [bit] at h
    by_cases hc : 1 < c.toNat
    · rw [if_pos hc] at h; cases h
    · rw [if_neg hc] at h
      simp only [Except.ok.injEq, Prod.mk.injEq] at h
      obtain ⟨rfl, rfl⟩ := h
      exact ⟨by omega, rfl, r, by rw [UInt8.ofNat_toNat]⟩
theorem text_put (most long : Nat) (t : ByteArray) (r : List UInt8) (hm : t.size ≤ most) (h64 : t.size < 18446744073709551616) : text most long (Leb.put t.size ++ (t.data.toList ++ r)) = .ok (t, (Leb.put t.size).length + t.size) := by
  have hs : t.data.toList.length = t.size := by rw [Array.length_toList]; rfl
  rw [text, num_put _ _ h64]
  dsimp only
  rw [if_neg (by omega), if_neg (by rw [List.length_append, List.length_append]; omega), List.drop_left, List.take_append_of_le_length (by omega), List.take_of_length_le (by omega)]
theorem text_ok {most long : Nat} {l : List UInt8} {t : ByteArray} {j : Nat} (h : text most long l = .ok (t, j)) : t.size ≤ most ∧ t.size < 18446744073709551616 ∧ j = (Leb.put t.size).length + t.size ∧ ∃ r, l = Leb.put t.size ++ (t.data.toList ++ r) := by
  rw [text] at h
  split at h
  · cases h
  · next n k hn =>
    obtain ⟨h1, r, rfl, rfl⟩ := num_ok hn
    by_cases hm : most < n
    · rw [if_pos hm] at h; cases h
    rw [if_neg hm] at h
    by_cases hs : (Leb.put n ++ r).length - (Leb.put n).length < n
    · rw [if_pos hs] at h; cases h
    rw [if_neg hs, List.drop_left] at h
    simp only [Except.ok.injEq, Prod.mk.injEq] at h
    obtain ⟨rfl, rfl⟩ := h
    have hl : (r.take n).length = n := by rw [List.length_take]; rw [List.length_append] at hs; omega
    have hsz : (⟨(r.take n).toArray⟩ : ByteArray).size = n := by show (r.take n).toArray.size = n; simpa using hl
    rw [hsz]
    refine ⟨by omega, h1, rfl, r.drop n, ?_⟩
    show Leb.put n ++ r = Leb.put n ++ ((r.take n).toArray.toList ++ r.drop n)
    simp
theorem float_put (b : Nat) (r : List UInt8) (h : fixB b < 18446744073709551616) : float (le 8 (fixB b) ++ r) = .ok (fixB b, 8) := by
  have hl : (le 8 (fixB b)).length = 8 := le_len 8 _
  have ht : (le 8 (fixB b) ++ r).take 8 = le 8 (fixB b) := by rw [List.take_append_of_le_length (by omega), List.take_of_length_le (by omega)]
  have hu : un (le 8 (fixB b)) = fixB b := un_le 8 _ (by simpa using h)
  rw [float, ht, hu, if_neg (by rw [List.length_append]; omega), if_pos (fixB_idem b)]
theorem float_ok {l : List UInt8} {n j : Nat} (h : float l = .ok (n, j)) : n < 18446744073709551616 ∧ fixB n = n ∧ j = 8 ∧ ∃ r, l = le 8 n ++ r := by
  rw [float] at h
  by_cases hl : l.length < 8
  · rw [if_pos hl] at h; cases h
  rw [if_neg hl] at h
  have hl8 : (l.take 8).length = 8 := by rw [List.length_take]; omega
  by_cases hf : fixB (un (l.take 8)) = un (l.take 8)
  · rw [if_pos hf] at h
    simp only [Except.ok.injEq, Prod.mk.injEq] at h
    obtain ⟨rfl, rfl⟩ := h
    have h1 := un_lt (l.take 8)
    rw [hl8] at h1
    have h2 := le_un (l.take 8)
    rw [hl8] at h2
    exact ⟨by simpa using h1, hf, rfl, l.drop 8, by rw [h2, List.take_append_drop]⟩
  · rw [if_neg hf] at h; cases h

theorem fixB_lt {b : Nat} (h : b < 18446744073709551616) : fixB b < 18446744073709551616 := by
  unfold fixB; split <;> omega
theorem empty_of {t : ByteArray} (h : t.toList = []) : t = ⟨#[]⟩ := by
  obtain ⟨d⟩ := t
  rw [ByteArray.toList_eq] at h
  have : d = #[] := by
    apply Array.toList_inj.1
    simpa using h
  rw [this]
theorem empty_toList : (⟨#[]⟩ : ByteArray).toList = [] := by rw [ByteArray.toList_eq]
theorem fixB_zero : fixB 0 = 0 := by kernel_rfl

/-- what a value that may be is like -/
theorem chk_open {d : Nat} {k i : Int} {b : Nat} {t : ByteArray} {xs : List V} (h : chk d (.mk k i b t xs) = 0) : d ≤ 4 ∧ V.ownB k i b t xs.length = true ∧ t.size ≤ 1024 ∧ xs.length ≤ 256 ∧ (k = 4 → utfT t = true) ∧ ∀ x ∈ xs, chk (d + 1) x = 0 := by
  rw [chk_mk] at h
  by_cases h1 : 4 < d
  · rw [if_pos h1] at h; cases h
  rw [if_neg h1] at h
  by_cases h2 : V.ownB k i b t xs.length = false
  · rw [if_pos h2] at h; cases h
  rw [if_neg h2] at h
  by_cases h3 : 1024 < t.size
  · rw [if_pos h3] at h; cases h
  rw [if_neg h3] at h
  by_cases h4 : 256 < xs.length
  · rw [if_pos h4] at h; cases h
  rw [if_neg h4] at h
  by_cases h5 : k = 4 ∧ utfT t = false
  · rw [if_pos h5] at h; cases h
  rw [if_neg h5] at h
  refine ⟨by omega, by simpa using h2, by omega, by omega, fun hk => ?_, ?_⟩
  · cases hu : utfT t
    · exact absurd ⟨hk, hu⟩ h5
    · rfl
  · have key : ∀ (ys : List V), chkL (d + 1) ys = 0 → ∀ x ∈ ys, chk (d + 1) x = 0 := by
      intro ys
      induction ys with
      | nil => intro _ x hx; cases hx
      | cons y r ih =>
        intro hy x hx
        unfold chkL at hy ih
        rw [V.checkL_cons] at hy
        by_cases hy0 : V.check utfT (d + 1) y = 0
        · rw [if_pos hy0] at hy
          rcases List.mem_cons.1 hx with rfl | hx
          · exact hy0
          · exact ih hy x hx
        · rw [if_neg hy0] at hy; exact absurd hy hy0
    exact key xs h
theorem chk_make {d : Nat} {k i : Int} {b : Nat} {t : ByteArray} {xs : List V} (h1 : d ≤ 4) (h2 : V.ownB k i b t xs.length = true) (h3 : t.size ≤ 1024) (h4 : xs.length ≤ 256) (h5 : k = 4 → utfT t = true) (h6 : ∀ x ∈ xs, chk (d + 1) x = 0) : chk d (.mk k i b t xs) = 0 := by
  rw [chk_mk, if_neg (by omega), if_neg (by rw [h2]; decide), if_neg (by omega), if_neg (by omega), if_neg (fun hc => by have := h5 hc.1; rw [hc.2] at this; cases this)]
  exact chkL_all (d + 1) xs (fun j hj => h6 _ (List.getElem_mem hj))
/-- its own fields -/
theorem own_open {k i : Int} {b : Nat} {t : ByteArray} {n : Nat} (h : V.ownB k i b t n = true) : (1 ≤ k ∧ k ≤ 7) ∧ (k = 1 ∨ k = 2 ∨ i = 0) ∧ (k = 3 ∨ fixB b = 0) ∧ (k = 4 ∨ k = 5 ∨ t = ⟨#[]⟩) ∧ (k = 6 ∨ k = 7 ∨ n = 0) ∧ (k = 1 → i = 0 ∨ i = 1) ∧ (k = 6 → n < 2) := by
  simp only [V.ownB, Bool.and_eq_true, Bool.or_eq_true, beq_iff_eq, decide_eq_true_eq, bne_iff_ne, ne_eq] at h
  obtain ⟨⟨⟨⟨⟨⟨h1, h2⟩, h3⟩, h4⟩, h5⟩, h6⟩, h7⟩ := h
  refine ⟨h1, by omega, h3, ?_, by omega, by omega, by omega⟩
  rcases h4 with (h4 | h4) | h4
  · exact .inl h4
  · exact .inr (.inl h4)
  · exact .inr (.inr (empty_of h4))
theorem own_make {k i : Int} {b : Nat} {t : ByteArray} {n : Nat} (h1 : 1 ≤ k ∧ k ≤ 7) (h2 : k = 1 ∨ k = 2 ∨ i = 0) (h3 : k = 3 ∨ fixB b = 0) (h4 : k = 4 ∨ k = 5 ∨ t = ⟨#[]⟩) (h5 : k = 6 ∨ k = 7 ∨ n = 0) (h6 : k = 1 → i = 0 ∨ i = 1) (h7 : k = 6 → n < 2) : V.ownB k i b t n = true := by
  simp only [V.ownB, Bool.and_eq_true, Bool.or_eq_true, beq_iff_eq, decide_eq_true_eq, bne_iff_ne, ne_eq]
  refine ⟨⟨⟨⟨⟨⟨h1, by omega⟩, h3⟩, ?_⟩, by omega⟩, by omega⟩, by omega⟩
  rcases h4 with h4 | h4 | h4
  · exact .inl (.inl h4)
  · exact .inl (.inr h4)
  · exact .inr (by rw [h4]; exact empty_toList)

/-- what a type that may be is like -/
theorem ty_open {d : Nat} {k : Int} {xs : List Ty} (h : Ty.check d (.mk k xs) = 0) : d ≤ 4 ∧ (1 ≤ k ∧ k ≤ 7) ∧ ((¬ (k = 6 ∨ k = 7) ∧ xs = []) ∨ ((k = 6 ∨ k = 7) ∧ ∃ x, xs = [x] ∧ Ty.check (d + 1) x = 0)) := by
  rw [Ty.check_mk] at h
  by_cases h1 : 4 < d
  · rw [if_pos h1] at h; cases h
  rw [if_neg h1] at h
  by_cases h2 : k < 1 ∨ 7 < k ∨ xs.length ≠ Ty.want k
  · rw [if_pos h2] at h; cases h
  rw [if_neg h2] at h
  refine ⟨by omega, by omega, ?_⟩
  have hw : xs.length = Ty.want k := by omega
  unfold Ty.want at hw
  by_cases hk : k = 6 ∨ k = 7
  · rw [if_pos hk] at hw
    obtain ⟨x, rfl⟩ := List.length_eq_one_iff.1 hw
    refine .inr ⟨hk, x, rfl, ?_⟩
    simp only [List.map_cons, List.map_nil, V.first] at h
    by_cases hx : Ty.check (d + 1) x = 0
    · exact hx
    · rw [if_neg hx] at h; exact absurd h hx
  · rw [if_neg hk] at hw
    exact .inl ⟨hk, List.eq_nil_of_length_eq_zero hw⟩
theorem ty_leaf {d : Nat} {k : Int} (hd : d ≤ 4) (hk : 1 ≤ k ∧ k ≤ 7) (h : ¬ (k = 6 ∨ k = 7)) : Ty.check d (.mk k []) = 0 := Ty.check_leaf d k (by omega) (by omega) (by unfold Ty.want; rw [if_neg h])
theorem ty_one {d : Nat} {k : Int} {x : Ty} (hd : d ≤ 4) (h : k = 6 ∨ k = 7) (hx : Ty.check (d + 1) x = 0) : Ty.check d (.mk k [x]) = 0 := by
  rw [Ty.check_one d k x (by omega) (by omega) (by unfold Ty.want; rw [if_pos h]), hx]

theorem scalar_put {d : Nat} {k i : Int} {b : Nat} {t : ByteArray} (r : List UInt8) (hk : ¬ (k = 6 ∨ k = 7)) (h : chk d (.mk k i b t []) = 0) (hw : V.wf (.mk k i b t [])) : scalar k (vH k i b t 0 ++ r) = .ok (.mk k i (fixB b) t [], (vH k i b t 0).length) := by
  obtain ⟨-, ho, ht, -, hu, -⟩ := chk_open h
  obtain ⟨o1, o2, o3, o4, -, o6, -⟩ := own_open ho
  obtain ⟨-, wi, wb, -, -⟩ := V.wf_mk.1 hw
  have hr : ∀ a c : List UInt8, a ++ c ++ r = a ++ (c ++ r) := fun a c => List.append_assoc a c r
  rcases (show k = 1 ∨ k = 2 ∨ k = 3 ∨ (k = 4 ∨ k = 5) by omega) with rfl | rfl | rfl | hk45
  · have e : vH 1 i b t 0 = [UInt8.ofNat i.toNat] := by rw [vH, if_pos rfl]
    have hi : ((i.toNat : Nat) : Int) = i := by omega
    rw [e, scalar, if_pos rfl, List.singleton_append, bit_put i.toNat r (by omega)]
    dsimp only
    rw [hi]
    rcases o3 with o3 | o3
    · cases o3
    rcases o4 with o4 | o4 | o4
    · cases o4
    · cases o4
    rw [o3, o4]
    rfl
  · have e : vH 2 i b t 0 = Leb.put (Leb.zig i) := by rw [vH, if_neg (by decide), if_pos rfl]
    have hz : Leb.zig i < 18446744073709551616 := by unfold Leb.zig; split <;> omega
    rw [e, scalar, if_neg (by decide), if_pos rfl, num_put _ r hz]
    dsimp only
    rw [Leb.zag_zig]
    rcases o3 with o3 | o3
    · cases o3
    rcases o4 with o4 | o4 | o4
    · cases o4
    · cases o4
    rw [o3, o4]
  · have e : vH 3 i b t 0 = le 8 (fixB b) := by rw [vH, if_neg (by decide), if_neg (by decide), if_pos rfl]
    rw [e, scalar, if_neg (by decide), if_neg (by decide), if_pos rfl, float_put b r (fixB_lt wb)]
    dsimp only
    rw [le_len]
    rcases o2 with o2 | o2 | o2
    · cases o2
    · cases o2
    rcases o4 with o4 | o4 | o4
    · cases o4
    · cases o4
    rw [o2, o4]
  · have e : vH k i b t 0 = Leb.put t.size ++ t.data.toList := by rw [vH, if_neg (by omega), if_neg (by omega), if_neg (by omega), if_pos hk45]
    have hs : t.data.toList.length = t.size := by rw [Array.length_toList]; rfl
    rw [e, scalar, if_neg (by omega), if_neg (by omega), if_neg (by omega), hr, text_put 1024 2 t r ht (by omega)]
    dsimp only
    rw [if_neg (fun hc => by have := hu hc.1; rw [hc.2] at this; cases this), List.length_append, hs]
    rcases o3 with o3 | o3
    · omega
    rcases o2 with o2 | o2 | o2
    · omega
    · omega
    rw [o2, o3]

theorem scalar_ok {k : Int} {l : List UInt8} {v : V} {j : Nat} (hk : 1 ≤ k ∧ k ≤ 5) (h : scalar k l = .ok (v, j)) : ∃ i b t, v = .mk k i b t [] ∧ j = (vH k i b t 0).length ∧ (∃ r, l = vH k i b t 0 ++ r) ∧ fixB b = b ∧ V.wf v ∧ ∀ d, d ≤ 4 → chk d v = 0 := by
  rcases (show k = 1 ∨ k = 2 ∨ k = 3 ∨ (k = 4 ∨ k = 5) by omega) with rfl | rfl | rfl | hk45
  · rw [scalar, if_pos rfl] at h
    split at h
    · cases h
    · next n m hn =>
      simp only [Except.ok.injEq, Prod.mk.injEq] at h
      obtain ⟨rfl, rfl⟩ := h
      obtain ⟨h1, rfl, r, rfl⟩ := bit_ok hn
      have e : vH 1 n 0 ⟨#[]⟩ 0 = [UInt8.ofNat n] := by rw [vH, if_pos rfl]; rfl
      exact ⟨n, 0, ⟨#[]⟩, rfl, by rw [e]; rfl, ⟨r, by rw [e]; rfl⟩, fixB_zero, V.wf_mk.2 ⟨by omega, by omega, by omega, Nat.zero_le _, fun x hx => by cases hx⟩,
        fun d hd => chk_make hd (own_make (by omega) (by omega) (.inr fixB_zero) (.inr (.inr rfl)) (.inr (.inr rfl)) (fun _ => by omega) (fun hc => by cases hc)) (Nat.zero_le _) (by simp) (fun hc => by cases hc) (fun x hx => by cases hx)⟩
  · rw [scalar, if_neg (by decide), if_pos rfl] at h
    split at h
    · cases h
    · next n m hn =>
      simp only [Except.ok.injEq, Prod.mk.injEq] at h
      obtain ⟨rfl, rfl⟩ := h
      obtain ⟨h1, r, rfl, rfl⟩ := num_ok hn
      have e : vH 2 (Leb.zag n) 0 ⟨#[]⟩ 0 = Leb.put n := by rw [vH, if_neg (by decide), if_pos rfl, Leb.zig_zag]
      have hz : -9223372036854775808 ≤ Leb.zag n ∧ Leb.zag n ≤ 9223372036854775807 := by unfold Leb.zag; split <;> omega
      exact ⟨Leb.zag n, 0, ⟨#[]⟩, rfl, by rw [e], ⟨r, by rw [e]⟩, fixB_zero, V.wf_mk.2 ⟨by omega, hz, by omega, Nat.zero_le _, fun x hx => by cases hx⟩,
        fun d hd => chk_make hd (own_make (by omega) (by omega) (.inr fixB_zero) (.inr (.inr rfl)) (.inr (.inr rfl)) (fun hc => by cases hc) (fun hc => by cases hc)) (Nat.zero_le _) (by simp) (fun hc => by cases hc) (fun x hx => by cases hx)⟩
  · rw [scalar, if_neg (by decide), if_neg (by decide), if_pos rfl] at h
    split at h
    · cases h
    · next n m hn =>
      simp only [Except.ok.injEq, Prod.mk.injEq] at h
      obtain ⟨rfl, rfl⟩ := h
      obtain ⟨h1, h2, rfl, r, rfl⟩ := float_ok hn
      have e : vH 3 0 n ⟨#[]⟩ 0 = le 8 n := by rw [vH, if_neg (by decide), if_neg (by decide), if_pos rfl, h2]
      exact ⟨0, n, ⟨#[]⟩, rfl, by rw [e, le_len], ⟨r, by rw [e]⟩, h2, V.wf_mk.2 ⟨by omega, by omega, h1, Nat.zero_le _, fun x hx => by cases hx⟩,
        fun d hd => chk_make hd (own_make (by omega) (by omega) (.inl rfl) (.inr (.inr rfl)) (.inr (.inr rfl)) (fun hc => by cases hc) (fun hc => by cases hc)) (Nat.zero_le _) (by simp) (fun hc => by cases hc) (fun x hx => by cases hx)⟩
  · rw [scalar, if_neg (by omega), if_neg (by omega), if_neg (by omega)] at h
    split at h
    · cases h
    · next t m hn =>
      obtain ⟨h1, h2, rfl, r, rfl⟩ := text_ok hn
      by_cases hu : k = 4 ∧ utfT t = false
      · rw [if_pos hu] at h; cases h
      rw [if_neg hu] at h
      simp only [Except.ok.injEq, Prod.mk.injEq] at h
      obtain ⟨rfl, rfl⟩ := h
      have hs : t.data.toList.length = t.size := by rw [Array.length_toList]; rfl
      have e : vH k 0 0 t 0 = Leb.put t.size ++ t.data.toList := by rw [vH, if_neg (by omega), if_neg (by omega), if_neg (by omega), if_pos hk45]
      exact ⟨0, 0, t, rfl, by rw [e, List.length_append, hs], ⟨r, by rw [e, List.append_assoc]⟩, fixB_zero, V.wf_mk.2 ⟨by omega, by omega, by omega, by omega, fun x hx => by cases hx⟩,
        fun d hd => chk_make hd (own_make (by omega) (.inr (.inr rfl)) (.inr fixB_zero) (by omega) (.inr (.inr rfl)) (fun hc => by omega) (fun hc => by omega)) h1 (by simp) (fun hc => by
          cases hq : utfT t
          · exact absurd ⟨hc, hq⟩ hu
          · rfl) (fun x hx => by cases hx)⟩
end Sch
end Go.Proofs.YtpkbdnilakaakaaGreat
