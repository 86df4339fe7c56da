/- CLies, Rw, RwErr, Blk: put together. -/
import Derived.Test.YtpkbdnilakaakaaM06
import Derived.Test.YtpkbdnilakaakaaM04
import Derived.Test.YtpkbdnilakaakaaM08
import Derived.Test.YtpkbdnilakaakaaM03

/- How columns and schemas lie in memory. -/
namespace Go.Proofs.Ytpkbdnilakaakaa
open Go.RowKit

/-- a column's nine cells -/
def cells9 (n : ByteArray) (k : Int) (tp : Option Addr) (tn tc : Nat) (h : Bool) (vk vi : Int) (vb : Nat) (vt : ByteArray) (vp : Option Addr) (vn vc : Nat) : Array Value := #[.string n, .int .i64 k, .slice tp tn tc, .bool h, .int .i64 vk, .int .i64 vi, .float .f64 vb, .string vt, .slice vp vn vc]
/-- so a column lies -/
structure CLies (w : World) (u : Array Value) (c : Col) : Prop where
  out : ∃ k tp tn tc vk vi vb vt vp vn vc, u = cells9 c.name k tp tn tc c.has vk vi vb vt vp vn vc ∧ TLies w (cells2 k tp tn tc) c.ty ∧ VLies w (cells5 vk vi vb vt vp vn vc) c.dflt
theorem CLies.on {w w' : World} {u : Array Value} {c : Col} (h : CLies w u c) (hb : Below w.heap.size w w') : CLies w' u c := by
  obtain ⟨k, tp, tn, tc, vk, vi, vb, vt, vp, vn, vc, h1, h2, h3⟩ := h.out
  exact ⟨k, tp, tn, tc, vk, vi, vb, vt, vp, vn, vc, h1, h2.on hb, h3.on hb⟩
/-- nine cells from a place on -/
def At9 (w : World) (blk o : Nat) (n : ByteArray) (k : Int) (tp : Option Addr) (tn tc : Nat) (h : Bool) (vk vi : Int) (vb : Nat) (vt : ByteArray) (vp : Option Addr) (vn vc : Nat) : Prop :=
  w.cell? ⟨blk, o, none⟩ = some (.string n) ∧ w.cell? ⟨blk, o + 1, none⟩ = some (.int .i64 k) ∧ w.cell? ⟨blk, o + 2, none⟩ = some (.slice tp tn tc) ∧ w.cell? ⟨blk, o + 3, none⟩ = some (.bool h) ∧ w.cell? ⟨blk, o + 4, none⟩ = some (.int .i64 vk) ∧ w.cell? ⟨blk, o + 5, none⟩ = some (.int .i64 vi) ∧ w.cell? ⟨blk, o + 6, none⟩ = some (.float .f64 vb) ∧ w.cell? ⟨blk, o + 7, none⟩ = some (.string vt) ∧ w.cell? ⟨blk, o + 8, none⟩ = some (.slice vp vn vc)
theorem At9.on {w w' : World} {blk o : Nat} {n : ByteArray} {k : Int} {tp : Option Addr} {tn tc : Nat} {h : Bool} {vk vi : Int} {vb : Nat} {vt : ByteArray} {vp : Option Addr} {vn vc : Nat} (hh : At9 w blk o n k tp tn tc h vk vi vb vt vp vn vc) (hb : Below w.heap.size w w') : At9 w' blk o n k tp tn tc h vk vi vb vt vp vn vc := by
  obtain ⟨h0, h1, h2, h3, h4, h5, h6, h7, h8⟩ := hh
  exact ⟨cell_on hb h0, cell_on hb h1, cell_on hb h2, cell_on hb h3, cell_on hb h4, cell_on hb h5, cell_on hb h6, cell_on hb h7, cell_on hb h8⟩
/-- one of a schema's columns: where it lies -/
structure ItemC (w : World) (p : Option Addr) (j : Nat) (u : Array Value) : Prop where
  lies : ∃ blk off n k tp tn tc h vk vi vb vt vp vn vc, p = some ⟨blk, off, none⟩ ∧ blk < w.heap.size ∧ u = cells9 n k tp tn tc h vk vi vb vt vp vn vc ∧ At9 w blk (off + j * 9) n k tp tn tc h vk vi vb vt vp vn vc
theorem ItemC.on {w w' : World} {p : Option Addr} {j : Nat} {u : Array Value} (h : ItemC w p j u) (hb : Below w.heap.size w w') : ItemC w' p j u := by
  obtain ⟨blk, off, n, k, tp, tn, tc, h, vk, vi, vb, vt, vp, vn, vc, h1, h2, h3, h4⟩ := h.lies
  exact ⟨blk, off, n, k, tp, tn, tc, h, vk, vi, vb, vt, vp, vn, vc, h1, by have := hb.size; omega, h3, h4.on hb⟩
/-- columns lie in a row -/
def Cols (w : World) (p : Option Addr) (s : List Col) : Prop := ∀ j (hj : j < s.length), ∃ u, CLies w u s[j] ∧ ItemC w p j u
theorem Cols.on {w w' : World} {p : Option Addr} {s : List Col} (h : Cols w p s) (hb : Below w.heap.size w w') : Cols w' p s := fun j hj => by
  obtain ⟨u, h1, h2⟩ := h j hj
  exact ⟨u, h1.on hb, h2.on hb⟩
theorem Cols.take {w : World} {p : Option Addr} {s : List Col} (h : Cols w p s) (n : Nat) : Cols w p (s.take n) := fun j hj => by
  have hj2 : j < s.length := by rw [List.length_take] at hj; omega
  obtain ⟨u, h1, h2⟩ := h j hj2
  exact ⟨u, by simpa using h1, h2⟩
/-- one of them, opened: its cells, its type, its default -/
theorem Cols.at {w : World} {p : Option Addr} {s : List Col} (h : Cols w p s) (j : Nat) (hj : j < s.length) : ∃ blk off k tp tn tc vk vi vb vt vp vn vc, p = some ⟨blk, off, none⟩ ∧ blk < w.heap.size ∧ At9 w blk (off + j * 9) s[j].name k tp tn tc s[j].has vk vi vb vt vp vn vc ∧ TLies w (cells2 k tp tn tc) s[j].ty ∧ VLies w (cells5 vk vi vb vt vp vn vc) s[j].dflt := by
  obtain ⟨u, h1, h2⟩ := h j hj
  obtain ⟨blk, off, n, k, tp, tn, tc, hs, vk, vi, vb, vt, vp, vn, vc, e1, e2, e3, e4⟩ := h2.lies
  obtain ⟨k', tp', tn', tc', vk', vi', vb', vt', vp', vn', vc', g1, g2, g3⟩ := h1.out
  rw [e3] at g1
  simp only [cells9] at g1
  injection g1 with g1
  injection g1 with q0 g1
  injection g1 with q1 g1
  injection g1 with q2 g1
  injection g1 with q3 g1
  injection g1 with q4 g1
  injection g1 with q5 g1
  injection g1 with q6 g1
  injection g1 with q7 g1
  injection g1 with q8 g1
  injection q0 with q0
  injection q1 with _ q1
  injection q2 with q2 q2a q2b
  injection q3 with q3
  injection q4 with _ q4
  injection q5 with _ q5
  injection q6 with _ q6
  injection q7 with q7
  injection q8 with q8 q8a q8b
  subst q0 q1 q2 q2a q2b q3 q4 q5 q6 q7 q8 q8a q8b
  exact ⟨blk, off, k, tp, tn, tc, vk, vi, vb, vt, vp, vn, vc, e1, e2, e4, g2, g3⟩
/-- a schema lies -/
structure SLies (w : World) (u : Array Value) (s : List Col) : Prop where
  out : ∃ p c, u = #[.slice p s.length c] ∧ s.length * 120 ≤ 140737488351232 ∧ s.length ≤ c ∧ Cols w p s
theorem SLies.on {w w' : World} {u : Array Value} {s : List Col} (h : SLies w u s) (hb : Below w.heap.size w w') : SLies w' u s := by
  obtain ⟨p, c, h1, h2, h3, h4⟩ := h.out
  exact ⟨p, c, h1, h2, h3, h4.on hb⟩
end Go.Proofs.Ytpkbdnilakaakaa

/- Plain: rows, their bytes and how they are read; what the document says of them. -/
namespace Go.Proofs.Ytpkbdnilakaakaa
namespace Rw

/-- why a value isn't one of a type that may be -/
def vErr (t : Ty) (v : V) : Nat := if chk 1 v ≠ 0 then chk 1 v else if Sch.is v t then 0 else 80
/-- P8.1: the error -/
def encErr (t : Ty) (v : V) : Nat := if Ty.check 1 t ≠ 0 then Ty.check 1 t else vErr t v
/-- P8.1: the bytes -/
def encB (t : Ty) (v : V) : List UInt8 := if encErr t v = 0 then Sch.vB v else []
/-- column by column -/
def colsErr : List Col → List V → Nat
  | c :: s, v :: r => if vErr c.ty v = 0 then colsErr s r else vErr c.ty v
  | _, _ => 0
def bytes (vs : List V) : List UInt8 := (vs.map Sch.vB).flatten
/-- P8.3 -/
def err (s : List Col) (vs : List V) : Nat := if Sch.err s ≠ 0 then Sch.err s else if vs.length ≠ s.length then 80 else if colsErr s vs ≠ 0 then colsErr s vs else if 1024 < (bytes vs).length then 2 else 0
/-- P8.4 -/
def out (s : List Col) (vs : List V) : List UInt8 := if err s vs = 0 then bytes vs else []
/-- P8.2 -/
def readV (t : Ty) (l : List UInt8) (a : Int) : Except Nat (V × Nat) := if Ty.check 1 t ≠ 0 then .error (Ty.check 1 t) else if a < 0 ∨ (l.length : Int) < a then .error 30 else match Sch.rdV t (l.drop a.toNat) with
  | .error e => .error e
  | .ok (v, k) => .ok (v, a.toNat + k)
/-- values of the columns' types -/
def rd : List Col → List UInt8 → Except Nat (List V × Nat)
  | [], _ => .ok ([], 0)
  | c :: s, l => match Sch.rdV c.ty l with
    | .error e => .error e
    | .ok (v, k) => match rd s (l.drop k) with
      | .error e => .error e
      | .ok (vs, j) => .ok (v :: vs, k + j)
/-- P8.5 -/
def read (s : List Col) (l : List UInt8) (a : Int) : Except Nat (List V × Nat) := if Sch.err s ≠ 0 then .error (Sch.err s) else if a < 0 ∨ (l.length : Int) < a then .error 30 else match rd s (l.drop a.toNat) with
  | .error e => .error e
  | .ok (vs, k) => if 1024 < k then .error 2 else .ok (vs, a.toNat + k)

theorem vErr_zero {t : Ty} {v : V} (h : vErr t v = 0) : Ty.check 1 t = 0 ∧ chk 1 v = 0 ∧ Sch.of v t = true := by
  unfold vErr at h
  split at h
  · next h0 => exact absurd h h0
  · split at h
    · next h1 =>
      unfold Sch.is at h1
      simp only [Bool.and_eq_true, decide_eq_true_eq] at h1
      exact ⟨h1.1.1, h1.1.2, h1.2⟩
    · omega
theorem vErr_make {t : Ty} {v : V} (h1 : Ty.check 1 t = 0) (h2 : chk 1 v = 0) (h3 : Sch.of v t = true) : vErr t v = 0 := by
  unfold vErr
  rw [if_neg (by omega), if_pos]
  unfold Sch.is
  rw [decide_eq_true h1, decide_eq_true h2, h3]
  rfl
theorem bytes_nil : bytes [] = [] := rfl
theorem bytes_cons (v : V) (r : List V) : bytes (v :: r) = Sch.vB v ++ bytes r := rfl
theorem bytes_fix (vs : List V) : bytes (vs.map V.fix) = bytes vs := by
  unfold bytes
  rw [List.map_map]
  congr 1
  exact List.map_congr_left (fun v _ => Sch.vB_fix v)

/-- a row's bytes are read as it -/
theorem rd_put (r : List UInt8) : ∀ (s : List Col) (vs : List V), vs.length = s.length → colsErr s vs = 0 → (∀ v ∈ vs, v.wf) → rd s (bytes vs ++ r) = .ok (vs.map V.fix, (bytes vs).length)
  | [], [], _, _, _ => rfl
  | [], _ :: _, h, _, _ => by simp at h
  | _ :: _, [], h, _, _ => by simp at h
  | c :: s, v :: vs, h, he, hw => by
    have h0 : vErr c.ty v = 0 := by
      rw [colsErr] at he
      split at he
      · assumption
      · next h => exact absurd he h
    have he' : colsErr s vs = 0 := by rw [colsErr, if_pos h0] at he; exact he
    obtain ⟨h1, h2, h3⟩ := vErr_zero h0
    rw [rd, bytes_cons, List.append_assoc, Sch.rdV_put c.ty 1 v _ h1 h2 h3 (hw v (by simp))]
    dsimp only
    rw [List.drop_left, rd_put r s vs (by simpa using h) he' (fun x hx => hw x (by simp [hx]))]
    simp
/-- what is read has just these bytes -/
theorem rd_ok : ∀ (s : List Col) (l : List UInt8) (vs : List V) (k : Nat), (∀ c ∈ s, Ty.check 1 c.ty = 0) → rd s l = .ok (vs, k) → vs.length = s.length ∧ k = (bytes vs).length ∧ (∃ r, l = bytes vs ++ r) ∧ colsErr s vs = 0 ∧ ∀ v ∈ vs, V.fix v = v ∧ v.wf
  | [], l, vs, k, _, h => by
    rw [rd] at h
    injection h with h
    injection h with h1 h2
    subst h1 h2
    exact ⟨rfl, rfl, ⟨l, rfl⟩, rfl, fun v hv => by cases hv⟩
  | c :: s, l, vs, k, ht, h => by
    rw [rd] at h
    split at h
    · cases h
    · next v k1 hv =>
      split at h
      · cases h
      · next vs' j hr =>
        injection h with h
        injection h with h1 h2
        subst h1 h2
        obtain ⟨a1, ⟨r1, a2⟩, a3, a4, a5, a6⟩ := Sch.rdV_ok c.ty 1 l v k1 (ht c (by simp)) hv
        obtain ⟨b1, b2, ⟨r2, b3⟩, b4, b5⟩ := rd_ok s (l.drop k1) vs' j (fun x hx => ht x (by simp [hx])) hr
        have e1 : l.drop k1 = r1 := by rw [a2, a1, List.drop_left]
        refine ⟨by simp [b1], by rw [bytes_cons, List.length_append, a1, b2], ⟨r2, by rw [bytes_cons, List.append_assoc, ← b3, e1]; exact a2⟩, ?_, fun x hx => ?_⟩
        · rw [colsErr, if_pos (vErr_make (ht c (by simp)) a3 a4)]
          exact b4
        · rcases List.mem_cons.1 hx with rfl | hx
          · exact ⟨a5, a6⟩
          · exact b5 x hx
theorem err_open {s : List Col} {vs : List V} (h : err s vs = 0) : Sch.err s = 0 ∧ vs.length = s.length ∧ colsErr s vs = 0 ∧ (bytes vs).length ≤ 1024 := by
  unfold err at h
  split at h
  · next h0 => exact absurd h h0
  · next h0 =>
    split at h
    · omega
    · next h1 =>
      split at h
      · next h2 => exact absurd h h2
      · next h2 =>
        split at h
        · omega
        · next h3 => exact ⟨by omega, by omega, by omega, by omega⟩
theorem err_make {s : List Col} {vs : List V} (h1 : Sch.err s = 0) (h2 : vs.length = s.length) (h3 : colsErr s vs = 0) (h4 : (bytes vs).length ≤ 1024) : err s vs = 0 := by
  unfold err
  rw [if_neg (by omega), if_neg (by omega), if_neg (by omega), if_neg (by omega)]
theorem types_ok {s : List Col} (h : Sch.err s = 0) : ∀ c ∈ s, Ty.check 1 c.ty = 0 := fun c hc => by
  obtain ⟨l', h'⟩ := Sch.colsErr_mem s [] (Sch.err_open h).2.2.1 c hc
  exact (Sch.col_open h').2.2.1
/-- P8.6: there and back -/
theorem read_put {s : List Col} {vs : List V} (h : err s vs = 0) (hw : ∀ v ∈ vs, v.wf) (a r : List UInt8) : read s (a ++ (bytes vs ++ r)) (a.length : Int) = .ok (vs.map V.fix, a.length + (bytes vs).length) := by
  obtain ⟨h1, h2, h3, h4⟩ := err_open h
  unfold read
  rw [if_neg (by omega), if_neg (by rw [List.length_append]; omega), Int.toNat_natCast, List.drop_left, rd_put r s vs h2 h3 hw]
  dsimp only
  rw [if_neg (by omega)]
/-- P8.6: back and there -/
theorem read_ok {s : List Col} {l : List UInt8} {a : Int} {vs : List V} {k : Nat} (h : read s l a = .ok (vs, k)) : 0 ≤ a ∧ a ≤ l.length ∧ k = a.toNat + (bytes vs).length ∧ k ≤ l.length ∧ (l.drop a.toNat).take (bytes vs).length = bytes vs ∧ err s vs = 0 ∧ ∀ v ∈ vs, V.fix v = v ∧ v.wf := by
  unfold read at h
  split at h
  · cases h
  · next h0 =>
    split at h
    · cases h
    · next h1 =>
      split at h
      · cases h
      · next vs' j hr =>
        split at h
        · cases h
        · next h2 =>
          injection h with h
          injection h with h3 h4
          subst h3 h4
          have h0' : Sch.err s = 0 := by omega
          obtain ⟨b1, b2, ⟨r, b3⟩, b4, b5⟩ := rd_ok s _ _ _ (types_ok h0') hr
          have hlen := congrArg List.length b3
          rw [List.length_drop, List.length_append] at hlen
          refine ⟨by omega, by omega, by rw [b2], by omega, by rw [b3, List.take_left], err_make h0' b1 b4 (by omega), b5⟩
/-- P8.7 -/
theorem begins {s : List Col} {q r : List V} (hq : err s q = 0) (hr : err s r = 0) (wq : ∀ v ∈ q, v.wf) (wr : ∀ v ∈ r, v.wf) : (∃ t, bytes r = bytes q ++ t) ↔ q.map V.fix = r.map V.fix := by
  obtain ⟨_, a2, a3, _⟩ := err_open hq
  obtain ⟨_, b2, b3, _⟩ := err_open hr
  constructor
  · rintro ⟨t, ht⟩
    have h1 := rd_put t s q a2 a3 wq
    have h2 := rd_put [] s r b2 b3 wr
    rw [List.append_nil, ht] at h2
    rw [h1] at h2
    injection h2 with h2
    injection h2 with h2 _
  · intro he
    refine ⟨[], ?_⟩
    rw [List.append_nil, ← bytes_fix r, ← bytes_fix q, he]
end Rw
end Go.Proofs.Ytpkbdnilakaakaa

/- Plain: the errors of reading are no noughts. -/
namespace Go.Proofs.Ytpkbdnilakaakaa
namespace Rw
theorem rd_err : ∀ (s : List Col) (l : List UInt8) (er : Nat), (∀ c ∈ s, Ty.check 1 c.ty = 0) → rd s l = .error er → er ≠ 0
  | [], l, er, _, h => by rw [rd] at h; cases h
  | c :: s, l, er, ht, h => by
    rw [rd] at h
    split at h
    · next e he => injection h with h; subst h; exact Sch.rdV_ne _ 1 _ _ (ht c (by simp)) he
    · split at h
      · next e he => injection h with h; subst h; exact rd_err s _ _ (fun x hx => ht x (by simp [hx])) he
      · cases h
theorem read_err {s : List Col} {l : List UInt8} {a : Int} {er : Nat} (h : read s l a = .error er) : er ≠ 0 := by
  unfold read at h
  split at h
  · next h0 => injection h with h; rw [← h]; exact h0
  · next h0 =>
    split at h
    · injection h with h; omega
    · split at h
      · next e he => injection h with h; subst h; exact rd_err s _ _ (types_ok (by omega)) he
      · split at h
        · injection h with h; omega
        · cases h
end Rw
end Go.Proofs.Ytpkbdnilakaakaa

/- Plain facts on packed bytes, without any program: how tokens are read, and that of tokens laid down one behind the other just their bytes are made. -/
namespace Go.Proofs.Ytpkbdnilakaakaa.Blk

/-- so many bytes, each from so far back -/
def copyB : Nat → Nat → List UInt8 → List UInt8
  | 0, _, out => out
  | n + 1, d, out => copyB n d (out ++ [out.getD (out.length - d) 0])
theorem copyB_length (n d : Nat) (out : List UInt8) : (copyB n d out).length = out.length + n := by
  induction n generalizing out with
  | zero => rfl
  | succ n ih => rw [copyB, ih]; simp; omega
theorem copyB_snoc (n d : Nat) (out : List UInt8) : copyB (n + 1) d out = copyB n d out ++ [(copyB n d out).getD ((copyB n d out).length - d) 0] := by
  induction n generalizing out with
  | zero => rfl
  | succ n ih => rw [copyB, ih]; rfl

/-- a token taken: the error, the bytes that there are then, what is left -/
structure Tk where
  err : Nat
  out : List UInt8
  rest : List UInt8

/-- literals -/
def takeL (out t : List UInt8) (n : Nat) : Tk :=
  if n = 0 then ⟨5, [], []⟩ else if 2048 - out.length < n then ⟨2, [], []⟩ else if t.length < n then ⟨30, [], []⟩ else ⟨0, out ++ t.take n, t.drop n⟩
/-- a match -/
def takeM (out t : List UInt8) (n : Nat) : Tk :=
  if n < 4 ∨ 255 < n then ⟨5, [], []⟩
  else if (Leb.get t).err ≠ 0 then ⟨(Leb.get t).err, [], []⟩
  else if (Leb.get t).n = 0 ∨ 1024 < (Leb.get t).n ∨ out.length < (Leb.get t).n then ⟨5, [], []⟩
  else if 2048 - out.length < n then ⟨2, [], []⟩
  else ⟨0, copyB n (Leb.get t).n out, t.drop (Leb.get t).k⟩
def step (out t : List UInt8) : Tk :=
  if (Leb.get t).err ≠ 0 then ⟨(Leb.get t).err, [], []⟩
  else if (Leb.get t).n % 2 = 0 then takeL out (t.drop (Leb.get t).k) ((Leb.get t).n / 2)
  else takeM out (t.drop (Leb.get t).k) ((Leb.get t).n / 2)

/-- what is made: the error and the bytes -/
structure Res where
  err : Nat
  out : List UInt8

def toksF : Nat → List UInt8 → List UInt8 → Res
  | _, out, [] => ⟨0, out⟩
  | 0, _, _ :: _ => ⟨0, []⟩
  | f + 1, out, c :: r => if (step out (c :: r)).err ≠ 0 then ⟨(step out (c :: r)).err, []⟩ else toksF f (step out (c :: r)).out (step out (c :: r)).rest
def toks (out t : List UInt8) : Res := toksF t.length out t

def unpack : List UInt8 → Res
  | [] => ⟨4, []⟩
  | c :: r => if c.toNat = 1 then toks [] r else if c.toNat ≠ 0 then ⟨5, []⟩ else if 2048 < r.length then ⟨2, []⟩ else ⟨0, r⟩

theorem takeL_ok {out t : List UInt8} {n : Nat} (h : (takeL out t n).err = 0) (ho : out.length ≤ 2048) : (takeL out t n).out.length ≤ 2048 ∧ (takeL out t n).rest.length ≤ t.length := by
  unfold takeL at h ⊢
  split at h
  · cases h
  · split at h
    · cases h
    · split at h
      · cases h
      · rename_i h1 h2 h3
        rw [if_neg h1, if_neg h2, if_neg h3]
        simp; omega
theorem takeM_ok {out t : List UInt8} {n : Nat} (h : (takeM out t n).err = 0) (ho : out.length ≤ 2048) : (takeM out t n).out.length ≤ 2048 ∧ (takeM out t n).rest.length ≤ t.length := by
  unfold takeM at h ⊢
  split at h
  · cases h
  · split at h
    · rename_i h1; exact absurd h h1
    · split at h
      · cases h
      · split at h
        · cases h
        · rename_i h1 h2 h3 h4
          rw [if_neg h1, if_neg h2, if_neg h3, if_neg h4]
          refine ⟨?_, by simp⟩
          show (copyB _ _ _).length ≤ _
          rw [copyB_length]; omega
theorem step_ok {out t : List UInt8} (h : (step out t).err = 0) (ho : out.length ≤ 2048) : (step out t).out.length ≤ 2048 ∧ (step out t).rest.length < t.length := by
  unfold step at h ⊢
  split at h
  · rename_i h1; exact absurd h h1
  · rename_i h1
    have h0 : (Leb.get t).err = 0 := by omega
    have hk := Leb.get_ok t h0
    rw [if_neg h1]
    split at h
    · rename_i h2
      rw [if_pos h2]
      have := takeL_ok h ho
      refine ⟨this.1, ?_⟩
      have h3 := this.2
      rw [List.length_drop] at h3
      omega
    · rename_i h2
      rw [if_neg h2]
      have := takeM_ok h ho
      refine ⟨this.1, ?_⟩
      have h3 := this.2
      rw [List.length_drop] at h3
      omega

theorem toksF_more {f g : Nat} {out t : List UInt8} (ho : out.length ≤ 2048) (hf : t.length ≤ f) (hg : t.length ≤ g) : toksF f out t = toksF g out t := by
  induction f generalizing g out t with
  | zero =>
    cases t with
    | nil => cases g <;> rfl
    | cons c r => simp at hf
  | succ f ih =>
    cases t with
    | nil => cases g <;> rfl
    | cons c r =>
      cases g with
      | zero => simp at hg
      | succ g =>
        rw [toksF, toksF]
        split
        · rfl
        · rename_i h
          have h0 : (step out (c :: r)).err = 0 := by omega
          have := step_ok h0 ho
          exact ih this.1 (by have := this.2; omega) (by have := this.2; omega)

theorem toks_nil (out : List UInt8) : toks out [] = ⟨0, out⟩ := rfl
theorem toks_err {out t : List UInt8} (ht : t ≠ []) (h : (step out t).err ≠ 0) : toks out t = ⟨(step out t).err, []⟩ := by
  cases t with
  | nil => exact absurd rfl ht
  | cons c r => show (if _ then _ else _) = _; rw [if_pos h]
theorem toks_step {out t : List UInt8} (ht : t ≠ []) (ho : out.length ≤ 2048) (h : (step out t).err = 0) : toks out t = toks (step out t).out (step out t).rest := by
  cases t with
  | nil => exact absurd rfl ht
  | cons c r =>
    have := step_ok h ho
    show (if _ then _ else _) = _
    rw [if_neg (by omega)]
    exact toksF_more this.1 (by have := this.2; simp at this; omega) (Nat.le_refl _)

theorem toksF_len {f : Nat} {out t : List UInt8} (ho : out.length ≤ 2048) : (toksF f out t).out.length ≤ 2048 ∧ ((toksF f out t).err = 0 ∨ (toksF f out t).out = []) := by
  induction f generalizing out t with
  | zero => cases t <;> simp [toksF, ho]
  | succ f ih =>
    cases t with
    | nil => simp [toksF, ho]
    | cons c r =>
      rw [toksF]
      split
      · simp
      · rename_i h
        exact ih (step_ok (by omega) ho).1
/-- no more than a block is made; where there is an error nothing is -/
theorem unpack_len (p : List UInt8) : (unpack p).out.length ≤ 2048 ∧ ((unpack p).err = 0 ∨ (unpack p).out = []) := by
  cases p with
  | nil => simp [unpack]
  | cons c r =>
    rw [unpack]
    split
    · exact toksF_len (by simp)
    · split
      · simp
      · split
        · simp
        · simp; omega

theorem put_nil (n : Nat) : Leb.put n ≠ [] := by
  unfold Leb.put Leb.putF
  split <;> simp

/-- literals are read as they are -/
theorem toks_lit {out l : List UInt8} (r : List UInt8) (hl : l ≠ []) (h : out.length + l.length ≤ 2048) : toks out (Leb.put (2 * l.length) ++ (l ++ r)) = toks (out ++ l) r := by
  have hg := Leb.get_put (2 * l.length) (l ++ r) (by omega)
  have hl0 : l.length ≠ 0 := fun e => hl (List.length_eq_zero_iff.1 e)
  have hs : step out (Leb.put (2 * l.length) ++ (l ++ r)) = ⟨0, out ++ l, r⟩ := by
    unfold step
    rw [hg]
    simp only [ne_eq, not_true_eq_false, if_false]
    rw [if_pos (by omega), List.drop_left, show 2 * l.length / 2 = l.length by omega]
    unfold takeL
    rw [if_neg hl0, if_neg (by omega), if_neg (by simp), List.take_left, List.drop_left]
  have hne : Leb.put (2 * l.length) ++ (l ++ r) ≠ [] := fun e => put_nil _ (List.append_eq_nil_iff.1 e).1
  rw [toks_step hne (by omega) (by rw [hs]), hs]

/-- a match is read as it is -/
theorem toks_match {out : List UInt8} (r : List UInt8) (n d : Nat) (h4 : 4 ≤ n) (h255 : n ≤ 255) (hd : 1 ≤ d) (hd2 : d ≤ 1024) (hd3 : d ≤ out.length) (h : out.length + n ≤ 2048) : toks out (Leb.put (2 * n + 1) ++ (Leb.put d ++ r)) = toks (copyB n d out) r := by
  have hg := Leb.get_put (2 * n + 1) (Leb.put d ++ r) (by omega)
  have hg2 := Leb.get_put d r (by omega)
  have hs : step out (Leb.put (2 * n + 1) ++ (Leb.put d ++ r)) = ⟨0, copyB n d out, r⟩ := by
    unfold step
    rw [hg]
    simp only [ne_eq, not_true_eq_false, if_false]
    rw [if_neg (by omega), List.drop_left, show (2 * n + 1) / 2 = n by omega]
    unfold takeM
    rw [if_neg (by omega), hg2]
    simp only [ne_eq, not_true_eq_false, if_false]
    rw [if_neg (by omega), if_neg (by omega), List.drop_left]
  have hne : Leb.put (2 * n + 1) ++ (Leb.put d ++ r) ≠ [] := fun e => put_nil _ (List.append_eq_nil_iff.1 e).1
  rw [toks_step hne (by omega) (by rw [hs]), hs]

/-- these tokens make these bytes, whatever follows -/
def Makes (p out : List UInt8) : Prop := ∀ r, toks [] (p ++ r) = toks out r
theorem makes_nil : Makes [] [] := fun _ => rfl
theorem Makes.lit {p out l : List UInt8} (hm : Makes p out) (hl : l ≠ []) (h : out.length + l.length ≤ 2048) : Makes (p ++ (Leb.put (2 * l.length) ++ l)) (out ++ l) := by
  intro r
  rw [List.append_assoc, List.append_assoc, hm]
  exact toks_lit r hl h
theorem Makes.mat {p out : List UInt8} (hm : Makes p out) (n d : Nat) (h4 : 4 ≤ n) (h255 : n ≤ 255) (hd : 1 ≤ d) (hd2 : d ≤ 1024) (hd3 : d ≤ out.length) (h : out.length + n ≤ 2048) : Makes (p ++ (Leb.put (2 * n + 1) ++ Leb.put d)) (copyB n d out) := by
  intro r
  rw [List.append_assoc, List.append_assoc, hm]
  exact toks_match r n d h4 h255 hd hd2 hd3 h
theorem Makes.done {p out : List UInt8} (hm : Makes p out) : unpack (1 :: p) = ⟨0, out⟩ := by
  have := hm []
  rw [List.append_nil] at this
  rw [unpack, if_pos (by decide), this, toks_nil]
end Go.Proofs.Ytpkbdnilakaakaa.Blk
